import PyProof.Rows.All
import Wide.All
import OpenK.AllK
import Wide.FinOn
import HandS.ForExc
import HandS.ExcInit
import HandS.ExcIs
import HandS.ExcField
import HandS.Defaults
import HandS.IsInst
import HandS.ExcValue
import HandS.ForMost
import HandS.WordsExc
import KE.KOpsOwn
import HandS.Wide
import HandS.WideBits
import HandS.Conv
import HandS.Codes
import HandS.Walk
import HandS.Comp
import HandS.Gcd
import HandS.Steps
import KE.KMathG
import HandS.Ends
import HandS.Words
import HandS.Head0
import HandS.Head1
import HandS.Head2
import HandS.HeadEnd
import HandS.HeadHook1
import HandS.New
import HandS.SortInts
import HandS.Dict
import KE.KDictList
import HandS.Iter
import PyProof.ReprRoads
import PyProof.FString2
import PyProof.StrLawsRepr
import PyProof.FitsInt
import PyProof.EqKinds
import PyProof.EqAt
import HandS.HeadHook2
import KE.KStateDown
import HandS.Head3
import PySem.Challenge.RW_cellplaces_k70_rings_refused
set_option Elab.async false
set_option linter.all false
set_option maxRecDepth 100000
set_option maxHeartbeats 4000000
/-! An own exception class called with one keyword: the maker takes it and lets it be, the own __init__ gets it. -/
namespace KwE
open PySem PySem.W PySem.Calls PyProof.Rows PySem.HandSPX
section
variable {prog : Program} {w : World} {A : Around} {E : Value → Shared → Prop} {R : Result → Shared → Prop} {hp : Heap} {gs : Array GenState} {dr : Drawn} {tk : Nat} {os : OsState}
variable {nm q : Str} {C N fI : Addr} {bs bm bmB : List Value} {hd : Bool} {sn : List Str} {sub : List Value} {ab : Bool} {col : Option Bool} {dd : Option Addr} {k0 k1 k2 k3 k5 : Option Value} {B new_ init_ : String} {us : List Value} {kn : Str} {kv : Value}
/-- what the class's line says of the base's names -/
structure Line (B : String) (C : Addr) (bm : List Value) : Prop where
  b : (Value.ref C :: bm).contains (.type B) = true
  a : (Value.ref C :: bm).contains (.type "AttributeError") = false
  n : (Value.ref C :: bm).contains (.type "NameError") = false
theorem Line.of (F : ExcBaseFacts B new_ init_ bmB) (same : ∀ X : String, bm.contains (.type X) = bmB.contains (.type X)) : Line B C bm := by
  constructor <;> rw [List.contains_cons, same]
  · rw [F.hasB, Bool.or_true]
  · rw [F.noAttr]; rfl
  · rw [F.noName]; rfl
end
end KwE

set_option Elab.async false
set_option linter.all false
set_option maxRecDepth 100000
set_option maxHeartbeats 4000000
namespace PySem.W
open PySem PySem.Spec PySem.Calls PyProof.Rows
section
variable {prog : Program} {w : World} {A : Around} {E : Value → Shared → Prop} {s : Shared} {K : Frag} {x D : Addr} {ox : Obj} {od : Option Obj}
/-- a data descriptor of the class goes ahead of the object's own dict -/
theorem found_data {C : Addr} {name : Str} {at_ get : Value} (hc : (clsIn K C).isSome = true) (h1 : findIn K (.ref C) name = some (some at_)) (h2 : specialIn K at_ "__get__" = some (some get)) (h3 : takesIn K at_ = some true) : findObj K C od name = some (.bind get at_) := by
  cases z : clsIn K C with
  | none => rw [z] at hc; cases hc
  | some cd => simp [findObj, z, h1, h2, h3]
/-- x.__class__ of an exception of an own class, whatever attributes it has -/
theorem class_of_exc {Q : Option Value → Shared → Prop} (T : L2.ExcC K D) (X : K.In s.heap) (I : InstAt s.heap x ox D od) (h : Q (some (.ref D)) { s with toks := s.toks + 1 }) : wpAny (model prog w) A (getAttr? (.ref x) "__class__") Q E s := by
  have has : (clsIn K D).isSome = true := by
    obtain ⟨cd, z, _⟩ := any_some T.hd
    rw [z]
    rfl
  obtain ⟨hp, gs, dr, tk, os⟩ := s
  have kind := I.type (M := model prog w)
  have get_ := looks_findIn (M := model prog w) X T.hg
  have hook := looks_findIn (M := model prog w) X T.hk
  have find_ := looks_find (M := model prog w) X I (found_data (od := od) has T.ha T.hn T.ht)
  have base_ : Looks (model prog w) hp (isInstance (.ref x) (.type "BaseException")) true := kind.andThen (looks_subIn X T.hs)
  have other : (Value.builtin "BaseException.__getattribute__" == Value.builtin "object.__getattribute__") = false := by decide +kernel
  unfold getAttr? getAttrBy? getAttrBy
  refine wpAny_bind (wpAny_mkText (wpAny_bind (wpAny_attempt (wpAny_holding (wpAny_bind (kind.at (wpAny_bind (get_.at ?_))))))))
  show wpAny _ _ (if (onTheHeap (Value.ref D) && Value.builtin "BaseException.__getattribute__" == Value.builtin "object.__getattribute__") = true then _ else _) _ _ _
  rw [other, Bool.and_false, if_neg Bool.false_ne_true]
  unfold getAttrByItsOwn hookBefore
  rw [if_pos (show onTheHeap (Value.ref D) = true from rfl)]
  refine wpAny_bind (hook.at (wpAny_bind (wpAny_attempt (wpAny_holding ?_))))
  unfold callGetattribute
  rw [show (false && onTheHeap (Value.builtin "BaseException.__getattribute__")) = false from rfl, if_neg Bool.false_ne_true]
  unfold boundAndCalled
  rw [PySem.F.excAttr_ValueError.ga.bind (.ref x)]
  refine wpAny_bind (wpAny_pure ?_)
  show wpAny _ _ (call (.builtin "BaseException.__getattribute__") [.ref x, .str "__class__" tk]) _ _ _
  refine wpAny_call (codeAny_call_builtin PySem.F.excAttr_ValueError.ga.plain PySem.F.entry_bexc_ga (@check_slot (model prog w) _ _ ⟨hp, gs, dr, tk + 1, os⟩ "BaseException.__getattribute__" "BaseException" "__getattribute__" (.ref x) [.str "__class__" tk] [] _ (by decide +kernel) (by decide +kernel) base_ (PySem.F.args_bexc_ga (.ref x) (.str "__class__" tk)) ?_))
  unfold Builtin.«object.__getattribute__»
  refine wpAny_bind (wpAny_of_eq (a := ((Value.ref x : Value), [Value.str "__class__" tk])) (by first | rfl | (simp only [slotArgs]; rfl)) (wpAny_bind (wpAny_pure (wpAny_bind (kind.at (wpAny_bind (find_.at ?_)))))))
  show wpAny _ _ (holding [Value.builtin "object.__class__"] (call (.builtin "getset_descriptor.__get__") [.builtin "object.__class__", .ref x, .ref D]) >>= ret) _ _ _
  refine wpAny_bind (wpAny_holding (wpAny_call (class_get (s := ⟨hp, gs, dr, tk + 1, os⟩) (ox := ox) (od := od) X I T.hm (wpAny_pure ?_))))
  show wpAny _ _ (handedOut (.ref D)) _ _ _
  rw [handedOut_of (v := .ref D) rfl]
  first
    | exact wpAny_pure (wpAny_pure h)
    | exact wpAny_pure (wpAny_bind (wpAny_pure (wpAny_pure h)))
    | exact wpAny_pure h
/-- isinstance may ask such an exception -/
theorem kit_exc (T : L2.ExcC K D) : KitX K (.ref x) (.ref D) (fun h => InstAt h x ox D od) := by
  have written : ∃ o, K.lookup D = some o ∧ ∀ h : Heap, K.In h → h.get? D = some o := by
    obtain ⟨cd, z, _⟩ := any_some T.hd
    unfold clsIn at z
    split at z
    · exact ⟨_, by assumption, fun h X => X _ _ (by assumption)⟩
    · cases z
  have plain : ∀ {M : Model} {h : Heap}, K.In h → Looks M h (isType (.ref D)) true := by
    intro M h X A' Q' E' s' k q
    obtain ⟨cd, z, _⟩ := any_some T.hd
    unfold clsIn at z
    split at z
    · rename_i ho
      unfold isType loadHead
      exact wpAny_bind (wpAny_loadPart (k _ _ (X _ _ ho)) (wpAny_pure q))
    · cases z
  refine ⟨fun _ _ _ I => I.type, fun _ _ X _ => plain X, fun h tp dd its n sl X htp => ?_, fun X I k => class_of_exc T X I k⟩
  refine Bool.eq_false_iff.mpr fun q => ?_
  obtain rfl : D = tp := Value.ref.inj (beq_iff_eq.mp q)
  obtain ⟨cd, z, _⟩ := any_some T.hd
  unfold clsIn at z
  split at z
  · rename_i ho
    cases (X _ _ ho).symm.trans htp
  · cases z
end
end PySem.W
namespace L2
open PySem PySem.Spec PyProof.Rows
/-- a caught exception that is kept: its class, its own dict -/
def ExK (cls : Value) (d : Option Addr) (e : Addr) : HO := .ext fun h => ∃ (o : Obj) (fv : Array Value), h.get? e = some o ∧ Zc cls d o ∧ o.data = .fields fv
/-- an exception object of the own class at C: with its attributes, or bare; made, or caught and kept -/
inductive ExT (H : Hp) (e C : Addr) : List (Str × V) → Prop where
  | own {d : Addr} {fs : List (Str × V)} (h1 : H e = some (exo e C (some d))) (h2 : H d = some (exd d fs)) : ExT H e C fs
  | bare (h : H e = some (ExO (.ref C) e)) : ExT H e C []
  | kept {d : Addr} {fs : List (Str × V)} (h1 : H e = some (ExK (.ref C) (some d) e)) (h2 : H d = some (.xd fs)) : ExT H e C fs
  | keptB (h : H e = some (ExK (.ref C) none e)) : ExT H e C []
theorem ExT.same {H H' : Hp} {e C : Addr} {fs : List (Str × V)} (S : Same H H') : ExT H e C fs → ExT H' e C fs
  | .own h1 h2 => .own (S _ _ h1) (S _ _ h2)
  | .bare h => .bare (S _ _ h)
  | .kept h1 h2 => .kept (S _ _ h1) (S _ _ h2)
  | .keptB h => .keptB (S _ _ h)
section
variable {X : Cx} {pins : List (Addr × Obj)} {σ : St} {H : Hp} {s : Shared} {e C : Addr} {fs : List (Str × V)}
theorem ExT.inst (I : Inv X pins σ H s) (h : ExT H e C fs) : ∃ ox od, PySem.W.InstAt s.heap e ox C od ∧ (∀ f v, fs.lookup f = some v → ∃ o u, od = some o ∧ PySem.W.lookIn f o = some (some u) ∧ RelV v u) := by
  cases h with
  | own h1 h2 =>
    obtain ⟨t1, ho⟩ := exo_at I.hok h1
    obtain ⟨mA, hns, rel⟩ := exd_at I.hok h2
    obtain ⟨od, hod, hl⟩ := lookIn_ns hns
    refine ⟨_, some od, ⟨ho, rfl, rfl, hod⟩, fun f v hf => ?_⟩
    obtain ⟨u, hu, ru⟩ := RelO.some_of (v := v) (o := mA f) (by rw [← hf]; exact rel f)
    exact ⟨od, u, rfl, by rw [hl, hu], ru⟩
  | bare h =>
    have z : ObjOk X.prog X.w H s.heap e (ExO (.ref C) e) := I.hok _ _ h
    obtain ⟨⟨oe, vs, ho, hz, hd, _, _, _⟩, _, _⟩ := z
    refine ⟨oe, none, ⟨ho, hz.1, by unfold PySem.W.notCls; rw [hd], by rw [hz.2]; trivial⟩, fun f v hf => by cases hf⟩
  | @kept d fs h1 h2 =>
    have z1 : ObjOk X.prog X.w H s.heap e (ExK (.ref C) (some d) e) := I.hok _ _ h1
    obtain ⟨⟨oe, fv, ho, hz, hd⟩, _, _⟩ := z1
    have z2 : ObjOk X.prog X.w H s.heap d (.xd fs) := I.hok _ _ h2
    obtain ⟨mA, hns, rel⟩ := z2
    obtain ⟨od, hod, hl⟩ := lookIn_ns hns
    refine ⟨oe, some od, ⟨ho, hz.1, by unfold PySem.W.notCls; rw [hd], by rw [hz.2]; exact hod⟩, fun f v hf => ?_⟩
    obtain ⟨u, hu, ru⟩ := RelO.some_of (v := v) (o := mA f) (by rw [← hf]; exact rel f)
    exact ⟨od, u, rfl, by rw [hl, hu], ru⟩
  | keptB h =>
    have z1 : ObjOk X.prog X.w H s.heap e (ExK (.ref C) none e) := I.hok _ _ h
    obtain ⟨⟨oe, fv, ho, hz, hd⟩, _, _⟩ := z1
    refine ⟨oe, none, ⟨ho, hz.1, by unfold PySem.W.notCls; rw [hd], by rw [hz.2]; trivial⟩, fun f v hf => by cases hf⟩
end
/-- isinstance(e, c) of an exception that is a value -/
def rIsX (K : PySem.W.Frag) : List V → Hp → VK → Prop := fun xs H Q => ∃ (e D : Addr) (fs : List (Str × V)) (c : V) (u : Value) (b : Bool), xs = [.ref e, c] ∧ ClsV c u ∧ ExT H e D fs ∧ ExcC K D ∧ PySem.W.kitOne K (.ref D) u = some b ∧ Q (.bl b) H
theorem call_isX {X : Cx} : CallR X (.builtin "isinstance") (rIsX X.K) := by
  intro pins s σ H xs us Q I r h
  obtain ⟨e, D, fs, c, u, b, rfl, k, ex, T, hk, q⟩ := h
  obtain ⟨u1, u2, rfl, r1, r2⟩ := vals2 r
  have e2 := k.eq r2
  subst e2
  obtain rfl : u1 = Value.ref e := r1
  obtain ⟨ox, od, J, _⟩ := ex.inst I
  exact PySem.W.kia_one (PySem.W.kit_exc T) I.kIn J hk (fun z => nomatch z) fun tk => ⟨.bl b, H, I.tok tk, rfl, q⟩
/-- e.f of an exception that is a value -/
def tFldE (K : PySem.W.Frag) (te : TE) (f : Str) : TE := fun σ H Q => te σ H fun x H1 => ∃ (e C : Addr) (fs : List (Str × V)) (v : V), x = .ref e ∧ ExT H1 e C fs ∧ ExcC K C ∧ PySem.W.findIn K (.ref C) f = some none ∧ fs.lookup f = some v ∧ Q v H1
theorem pe_fldE {X : Cx} {e : Expr} {te : TE} {pos : Pos} {n : Str} (he : PE X e te) (hb : attributeBase e n X.env (eval e X.env) = eval e X.env := by rfl) : PE X (.Attribute e n pos) (tFldE X.K te n) := by
  refine ⟨fun pins s σ H Q I h => ?_⟩
  refine attr_of hb (thn (he.run pins s σ H _ I h) fun u s1 hh => ?_)
  obtain ⟨x, H1, I1, rx, e, C, fs, v, rfl, ex, T, hno, l, q⟩ := hh
  obtain rfl : u = Value.ref e := rx
  obtain ⟨ox, od, J, lk⟩ := ex.inst I1
  obtain ⟨o, u, rfl, hu, ru⟩ := lk _ _ l
  exact HandSPX.exc_get I1.kIn J T.hg T.hk T.hs (PySem.W.findObj_own T.hd hno rfl hu) (handed_of ru) ⟨v, H1, I1.tok _, ru, q⟩
/-- __init__(self, f): self.f = f -/
def spExI (K : PySem.W.Frag) (f : Str) : Sp := fun vs H Q _ => ∃ (a C : Addr) (y : V), vs = [.ref a, y] ∧ OexC K C ∧ PySem.W.findIn K (.ref C) f = some none ∧ H a = some (exo a C none) ∧
  ∀ dx, H dx = none → dx ≠ a → Q .non (upd (upd H dx (exd dx [(f, y)])) a (exo a C (some dx)))
end L2

set_option Elab.async false
set_option linter.all false
set_option maxRecDepth 100000
set_option maxHeartbeats 4000000
namespace L2
open PySem PySem.Spec PyProof.Rows
/-- an own exception class at C, called x, whose __init__ sets the one attribute f (None where it is not given) -/
structure ExM (P : Program) (w : World) (K : PySem.W.Frag) (mg : Str → Option Value) (base : Heap) (x : Str) (C : Addr) (f : Str) : Prop where
  mgC : mg x = some (.ref C)
  oex : OexC K C
  xc : ExcC K C
  noF : PySem.W.findIn K (.ref C) f = some none
  hmk : ∃ (fI : Addr) (fd : FuncData) (ps : List Str), PySem.W.findIn K (.ref C) "__init__" = some (some (.ref fI)) ∧ PySem.W.typeIn K (.ref fI) = some (.type "function") ∧ FnOk P w K mg base CX0 1 fI fd ps (spExI K f) ∧
    (∀ (self u : Value) (s' : Shared), K.In s'.heap → BindsTo s' fd ⟨[self, u], []⟩ (ps.zip [self, u])) ∧ (∀ (self u : Value) (s' : Shared), K.In s'.heap → BindsTo s' fd ⟨[self], [(f, u)]⟩ (ps.zip [self, u])) ∧
    (∀ (self : Value) (s' : Shared), K.In s'.heap → BindsTo s' fd ⟨[self], []⟩ (ps.zip [self, .none]))
/-- an own exception class at C, called x, without an __init__ of its own -/
structure ExB (K : PySem.W.Frag) (mg : Str → Option Value) (x : Str) (C : Addr) : Prop where
  mgC : mg x = some (.ref C)
  xc : ExcC K C
  kC : PySem.W.keepIn K (.ref C) = true
  is : ∃ bmB, ExcBaseFacts "ValueError" "ValueError.__new__" "ValueError.__init__" bmB ∧ PySem.W.excIn K C bmB "ValueError.__new__" = true
section
variable {X : Cx} {x f : Str} {C : Addr} {e : Expr} {te : TE} {p pos kpos : Pos}
end

end L2

set_option Elab.async false
set_option linter.all false
set_option maxRecDepth 100000
set_option maxHeartbeats 400000
namespace L2
open PySem PySem.Spec PyProof.Rows
def exArgs (f : Str) (p1 p2 p3 : Pos) : Arguments := { posonlyargs := [], args := [{ arg := "self", annotation := none, pos := p1 }, { arg := f, annotation := none, pos := p2 }], vararg := none, kwonlyargs := [], kw_defaults := [], kwarg := none, defaults := [.Constant .none 0 p3] }
def exBody (f : Str) (q1 q2 q3 q4 : Pos) : List Stmt := [.Assign [.Attribute (.Name "self" q1) f q2] (.Name f q3) q4]
def exScope (f : Str) : Scope := { kind := .function, names := [(PySem.Str.ofString "self", .local), (f, .local)], isGenerator := false, isCoroutine := false, more := [] }
section
variable {P : Program} {w : World} {K : PySem.W.Frag} {mg : Str → Option Value} {base : Heap} {x qual : Str} {C fI : Addr} {fd : FuncData} {p1 p2 p3 q1 q2 q3 q4 : Pos}
theorem one_none {its : List Value} (h : Vals [.non] its) : its = [.none] := by
  cases h with
  | cons r n =>
    cases n
    cases r
    rfl

theorem scEx_value : FnScope ["self", "value"] ["self", "value"] (exScope "value") := ⟨rfl, rfl, rfl, by decide +kernel, rfl, by decide +kernel, by decide +kernel⟩
theorem okEx_value (F : FunD K "__init__" qual (exArgs "value" p1 p2 p3) (exBody "value" q1 q2 q3 q4) (exScope "value") [.non] [] fI fd) : FnOk P w K mg base CX0 1 fI fd ["self", "value"] (spExI K "value") := by
  refine F.ok scEx_value (fun vs H Q E h => ?_) (fun cdv A outer s H vs Q E hr h => ?_)
  · obtain ⟨a, C, y, rfl, _⟩ := h
    rfl
  · obtain ⟨a, C, y, rfl, T, noF, ha, k⟩ := h
    exact ⟨_, pss_one (ps_ost (pv 0) (pv 1)), ⟨_, rfl, _, rfl, a, C, rfl, T, noF, .inl ⟨ha, k⟩⟩⟩
theorem bindEx_value (F : FunD K "__init__" qual (exArgs "value" p1 p2 p3) (exBody "value" q1 q2 q3 q4) (exScope "value") [.non] [] fI fd) :
    (∀ (self u : Value) (s' : Shared), K.In s'.heap → BindsTo s' fd ⟨[self, u], []⟩ ((["self", "value"] : List Str).zip [self, u])) ∧ (∀ (self u : Value) (s' : Shared), K.In s'.heap → BindsTo s' fd ⟨[self], [("value", u)]⟩ ((["self", "value"] : List Str).zip [self, u])) ∧
    (∀ (self : Value) (s' : Shared), K.In s'.heap → BindsTo s' fd ⟨[self], []⟩ ((["self", "value"] : List Str).zip [self, .none])) := by
  obtain ⟨oc, od, dV, kV, doc, pm, an, cdv, ct, osl, rfl, lk, hcd, hD, hK⟩ := F.ex
  rcases hD with ⟨e, _⟩ | ⟨_, T, o, its, m, rfl, lT, oT, rT⟩
  · cases e
  · obtain rfl := one_none rT
    refine ⟨fun self u s' X => BindsTo.of_looks fun M => ?_, fun self u s' X => BindsTo.of_looks fun M => ?_, fun self s' X => BindsTo.of_looks fun M => ?_⟩
    · have e : ∃ k, bindArgs (PySem.W.fnOf "__init__" qual (exArgs "value" p1 p2 p3) (exBody "value" q1 q2 q3 q4) (exScope "value") (.ref T) kV doc pm an cdv ct) ⟨[self, u], []⟩ = seqItems? (.ref T) >>= k ∧ k (some [Value.none].toArray) = pure ((["self", "value"] : List Str).zip [self, u]) := ⟨_, rfl, rfl⟩
      obtain ⟨k, e1, e2⟩ := e
      rw [e1]
      exact looks_items X lT oT (.of_pure e2)
    · have e : ∃ k, bindArgs (PySem.W.fnOf "__init__" qual (exArgs "value" p1 p2 p3) (exBody "value" q1 q2 q3 q4) (exScope "value") (.ref T) kV doc pm an cdv ct) ⟨[self], [("value", u)]⟩ = seqItems? (.ref T) >>= k ∧ k (some [Value.none].toArray) = pure ((["self", "value"] : List Str).zip [self, u]) := ⟨_, rfl, rfl⟩
      obtain ⟨k, e1, e2⟩ := e
      rw [e1]
      exact looks_items X lT oT (.of_pure e2)
    · have e : ∃ k, bindArgs (PySem.W.fnOf "__init__" qual (exArgs "value" p1 p2 p3) (exBody "value" q1 q2 q3 q4) (exScope "value") (.ref T) kV doc pm an cdv ct) ⟨[self], []⟩ = seqItems? (.ref T) >>= k ∧ k (some [Value.none].toArray) = pure ((["self", "value"] : List Str).zip [self, .none]) := ⟨_, rfl, rfl⟩
      obtain ⟨k, e1, e2⟩ := e
      rw [e1]
      exact looks_items X lT oT (.of_pure e2)
end
end L2

set_option Elab.async false
set_option linter.all false
set_option maxRecDepth 100000
set_option maxHeartbeats 1000000
/-! a caught exception that is kept as a value behind its except clause; calls within a try -/
namespace L2
open PySem PySem.Spec PyProof.Rows
section
variable {X : Cx} {pins : List (Addr × Obj)} {σ : St} {H : Hp} {s : Shared}
theorem exK_ok {P : Program} {w : World} {H : Hp} {h : Heap} {a : Addr} {cls : Value} {d : Option Addr} {oe : Obj} {fv : Array Value} (e : h.get? a = some oe) (z : Zc cls d oe) (hd : oe.data = .fields fv) : ObjOk P w H h a (ExK cls d a) :=
  ⟨⟨oe, fv, e, z, hd⟩, ⟨oe, e⟩, fun _ _ ⟨o, v, q, r⟩ k => ⟨o, v, k o q, r⟩⟩
/-- an object that came into being within the def, and was not tracked, is tracked from now on -/
theorem Inv.adopt {a : Addr} {o : HO} (I : Inv X pins σ H s) (na : H a = none) (n0 : a ∉ X.ex → X.s_0.heap.get? a = none) (nL : a ≠ X.env.locals) (nC : ∀ x c, X.env.cells.lookup x = some c → c ≠ a) (nP : ∀ p ∈ X.pn ++ pins, p.1 ≠ a) (ho : ObjOk X.prog X.w (upd H a o) s.heap a o) : Inv X pins σ (upd H a o) s := by
  have far : ∀ {b : Addr} {u : HO}, H b = some u → b ≠ a := fun e => ne_of_none e na
  refine ⟨I.ok, I.os, I.bare, ⟨I.base.keep, I.base.slot, fun b ob e n hx => ?_, I.base.there, fun b xs e => ?_, fun b ob u e => ?_, fun b ps e => ?_⟩, I.loc, I.cell, ?_, fun x c e => ?_, fun p hp => ?_, fun b ob e => ?_, I.len⟩
  · have ne : b ≠ a := fun z => by
      rw [z] at hx
      rw [z, n0 hx] at e
      cases e
    rw [upd_ne ne]
    exact I.base.free b ob e n hx
  · have t := I.base.tups b xs e
    rw [upd_ne (far t)]
    exact t
  · have t := I.base.frzs b ob u e
    rw [upd_ne (far t)]
    exact t
  · obtain ⟨more, t⟩ := I.base.tbls b ps e
    exact ⟨more, by rw [upd_ne (far t)]; exact t⟩
  · rw [upd_ne (Ne.symm nL)]
    exact I.free
  · rw [upd_ne (nC x c e)]
    exact I.freeC x c e
  · obtain ⟨h1, h2, h3⟩ := I.pin p hp
    exact ⟨h1, by rw [upd_ne (nP p hp)]; exact h2, h3⟩
  · by_cases hb : b = a
    · subst hb
      rw [upd_same] at e
      cases e
      exact ho
    · rw [upd_ne hb] at e
      exact (I.hok b ob e).stay (fun _ _ _ y => y) (fun c hc => by rw [upd_ne (far hc)]; exact hc) fun c xs hc => by rw [upd_ne (far hc)]; exact hc
/-- what stands behind the clause, the exception kept -/
def keepE (cls : Value) (d : Option Addr) (a : Addr) (i : Nat) (D : Ends) : Ends where
  nx := fun τ G => G a = none → D.nx (τ.set i none) (upd G a (ExK cls d a))
  rt := fun v G => G a = none → D.rt v (upd G a (ExK cls d a))
  bk := fun τ G => G a = none → D.bk (τ.set i none) (upd G a (ExK cls d a))
  ct := fun τ G => G a = none → D.ct (τ.set i none) (upd G a (ExK cls d a))
def wKeep (K : PySem.W.Frag) (c : Value) (i : Nat) (ts : Addr → Value → Option Addr → TS) (Wout : WX) (D : Ends) : WX := fun cls d τ G =>
  ∃ b, PySem.W.exmOne K cls c = some b ∧ (b = true → ∀ a, G a = none → ts a cls d (keepE cls d a i D) (τ.set i (some (.ref a))) G) ∧ (b = false → Wout cls d τ G)
/-- try: .. except .. as ..: its reading -/
def tTryK (K : PySem.W.Frag) (c : Value) (i : Nat) (ts : Addr → Value → Option Addr → TS) (Wout : WX) (tb : WX → TS) : TS := fun D τ G => tb (wKeep K c i ts Wout D) D τ G
end
section
variable {X : Cx} {x n : Str} {c : Value} {i : Nat} {body suite : List Stmt} {first : Stmt} {np pos pos' : Pos} {tb : WX → TS} {ts : Addr → Value → Option Addr → TS} {Wout : WX}
/-- try: .. except x as n: .., the exception still to be had behind it -/
theorem ps_try_keep (stk : X.stack = X.env :: X.outer) (frm : X.env.frame = some X.env.locals) (nod : X.N.Nodup) (ix : X.N[i]? = some n) (loc : X.env.kindOf n = some .local) (nms : Names X x c) (out : Takes X Wout)
    (bd : ∀ (W : WX) (pn : List (Addr × Obj)) (xe : Value → Shared → Prop), Takes (X.tr pn xe) W → PassesOwn (model X.prog X.w) X.A X.env xe → PSs (X.tr pn xe) body (tb W))
    (su : ∀ (a : Addr) (oe : Obj) (cls : Value) (d : Option Addr) (pn : List (Addr × Obj)), Zc cls d oe → (∃ fv, oe.data = .fields fv) → PSs (X.suite a ((a, oe) :: pn)) (first :: suite) (ts a cls d)) :
    PS X (.Try body [.ExceptHandler (some (.Name x np)) (some n) (first :: suite) pos'] [] [] pos) (tTryK X.K c i ts Wout tb) := by
  refine ⟨fun pins s₀ τ G D I0 start => ?_⟩
  have fine := I0.ok
  have frames_ : X.A.frames = some (X.env :: X.outer) := fine.frames.trans (by rw [stk])
  refine wpAny_Try_except ?_
  let hands : List ExceptHandler := [.ExceptHandler (some (.Name x np)) (some n) (first :: suite) pos']
  let look : Value → Shared → Prop := fun u t => wpAny (model X.prog X.w) X.A (noteFrame u X.env) (fun _ t1 => wpAny (model X.prog X.w) X.A (setFlight u none) (fun _ t2 => wpAny (model X.prog X.w) X.A (handleBy u X.env hands) (SP X pins D) X.xe t2) X.xe t1) X.xe t
  have caught : Takes (X.tr (X.pn ++ pins) look) (wKeep X.K c i ts Wout D) := by
    rintro u t ⟨a, ground, t0, pins', τ1, G1, cls, d, rfl, It, nb, up, sky, na, hos, hag, b, hb, yes, no⟩
    have It0 : Inv X pins τ1 G1 t0 := It.ofTry fine
    have sky1 : Sky ground (X.env :: X.outer) a (Zc cls d) X.env.locals t.heap := by rw [← stk]; exact sky
    show wpAny (model X.prog X.w) X.A (noteFrame (.ref a) X.env) _ _ t
    refine Sky.land Zc.steady frames_ frm sky1 fun g1 fly1 upA => ?_
    have IA : Inv X pins τ1 G1 { t with heap := g1 } := It0.landed nb fly1.1 (up.trans upA) hos hag
    obtain ⟨oA, fA, atA, zA, dA⟩ := fly1.there
    have gnone : ground.get? a = none := fly1.2.1
    have offFr : a ∉ frs (X.env :: X.outer) := fun hm => by
      obtain ⟨_, o', e', hnf⟩ := fly1.2.2.1.mem hm
      have e2 := e'.symm.trans atA
      cases e2
      exact hnf _ dA
    have offL : a ≠ X.env.locals := fun z => offFr (List.mem_filterMap.mpr ⟨X.env, List.mem_cons_self, by rw [frm, z]⟩)
    have offF : a ∉ X.fs := fun hm => by
      obtain ⟨e, he, q⟩ := List.mem_filterMap.mp hm
      exact offFr (List.mem_filterMap.mpr ⟨e, List.mem_cons_of_mem _ he, q⟩)
    have fresh : ∀ {q : Addr} {o : Obj}, t0.heap.get? q = some o → q ≠ a := fun {q o} e z => by
      subst z
      have := nb q o e (by rw [stk]; exact offFr)
      rw [gnone] at this
      cases this
    have off0 : a ∉ X.ex → X.s_0.heap.get? a = none := fun hx => by
      cases z : X.s_0.heap.get? a with
      | none => rfl
      | some o =>
        obtain ⟨o', e⟩ := It0.base.there a o z hx
        exact absurd rfl (fresh e)
    have Is := IA.suite atA dA na offL offF
    have asked : ∀ {Q E : Value → Shared → Prop}, Q c { t with heap := g1 } → wpAny (model X.prog X.w) (X.A.mark (some (.ref a))) (eval (.Name x np) X.env) Q E { t with heap := g1 } := fun {Q E} q => by
      obtain ⟨hg, hdbg, hm | ⟨hm, hv, hnn⟩⟩ := nms
      · exact ld_glob (X := X.suite a ((a, oA) :: (X.pn ++ pins))) Is hg hm q hdbg
      · exact ld_blt (X := X.suite a ((a, oA) :: (X.pn ++ pins))) Is hg hm hv q hnn hdbg
    have kind : PySem.W.Looks (model X.prog X.w) g1 (typeOf (.ref a)) cls := fun A Q E s k q => wpAny_typeOf_ref (k _ _ atA) (by rw [zA.1]; exact q)
    have match_ := PySem.W.exm_one (M := model X.prog X.w) IA.kIn kind hb
    refine wpAny_handleBy_cons (codeAny_handlers_test (asked (match_.here ?_))) (by intro q; cases q)
    cases b with
    | false =>
      show wpAny _ X.A (handleBy (.ref a) X.env []) _ _ _
      refine wpAny_handleBy_nil ?_
      obtain ⟨_, _, _, oe, fv, T, _, _, he, hz, hd, h1, _⟩ := id fly1
      unfold PySem.passOn
      have end_ : wpAny (model X.prog X.w) X.A (setFlight (.ref a) X.env.frame) (fun _ t4 => wpAny (model X.prog X.w) X.A (throw (.ref a) : Sem Flow) (SP X pins D) X.xe t4) X.xe { t with heap := g1 } := by
        rw [frm]
        exact HandSPX.setFlight_upZ fly1 fun g2 held upB => wpAny_throw (out _ _ ⟨a, ground, t0, pins, τ1, G1, cls, d, rfl, It0, nb, (up.trans upA).trans upB, .inr (.inr (by rw [stk]; exact held)), na, hos, hag, no rfl⟩)
      refine wpAny_bind (wpAny_field he hd h1 ?_)
      rw [if_neg (show ¬ ((Value.ref T == Value.none) = true) from by simp)]
      first
        | exact wpAny_bind (wpAny_pure (wpAny_bind end_))
        | exact wpAny_bind end_
    | true =>
      refine codeAny_handlers_suite_as (HandSPX.lands_againZ fly1 fun g2 fly2 upB => ?_)
      have IB : Inv X pins τ1 G1 { t with heap := g2 } := It0.landed nb fly2.1 ((up.trans upA).trans upB) hos hag
      obtain ⟨oB, fB, atB, zB, dB⟩ := fly2.there
      have IsB := IB.suite atB dB na offL offF
      refine store_ok (X := X.suite a ((a, oB) :: (X.pn ++ pins))) (v := .ref a) IsB nod ix (.inl loc) rfl (fun t5 I5 => ?_) (.inr loc)
      refine wpAny_mono ((su a oB cls d (X.pn ++ pins) zB ⟨_, dB⟩).run [] t5 _ G1 _ I5 (yes rfl a na)) (fun fl t6 back => ?_) fun _ _ z => False.elim z
      have goes : ∀ {τ6 : St} {G6 : Hp} {Q : Shared → Prop}, Inv (X.suite a ((a, oB) :: (X.pn ++ pins))) [] τ6 G6 t6 → (G6 a = none → ∀ t7, Inv X pins (τ6.set i none) (upd G6 a (ExK cls d a)) t7 → Q t7) →
          wpAny (model X.prog X.w) X.A (do bindName X.env n .none; unbindBehindTheSuite X.env n pos') (fun _ t7 => Q t7) X.xe t6 := fun {τ6 G6 Q} I6 hq => by
        obtain ⟨at6, na6, _⟩ := I6.pin (a, oB) (by simp [Cx.suite])
        have J6 : Inv X pins τ6 G6 t6 := I6.unsuite fine
        have K6 : Inv X pins τ6 (upd G6 a (ExK cls d a)) t6 := J6.adopt na6 off0 offL (fun y q e z => by
            obtain ⟨v, o', e1, e2⟩ := J6.cell y q e
            rw [z, at6] at e1
            cases e1
            exact absurd (dB.symm.trans e2) (by intro w; cases w)) (fun p hp => fresh (It0.pin p hp).1) (exK_ok at6 zB dB)
        exact gone_ok K6 nod ix loc (hq na6)
      cases fl with
      | next =>
        obtain ⟨τ6, G6, I6, q6⟩ := back
        exact goes I6 fun z t7 I7 => ⟨_, _, I7, q6 z⟩
      | brk =>
        obtain ⟨τ6, G6, I6, q6⟩ := back
        exact goes I6 fun z t7 I7 => ⟨_, _, I7, q6 z⟩
      | cont =>
        obtain ⟨τ6, G6, I6, q6⟩ := back
        exact goes I6 fun z t7 I7 => ⟨_, _, I7, q6 z⟩
      | ret u =>
        obtain ⟨v6, τ6, G6, I6, r6, q6⟩ := back
        exact goes I6 fun z t7 I7 => ⟨_, _, _, I7, r6, q6 z⟩
  refine wpAny_mono ((bd _ (X.pn ++ pins) look caught PassesOwn.looking).run [] s₀ τ G D (I0.toTry _) start) (fun fl t6 back => ?_) fun _ _ z => z
  cases fl with
  | next =>
    obtain ⟨τ6, G6, I6, q6⟩ := back
    exact wpAny_execs_nil ⟨τ6, G6, I6.ofTry fine, q6⟩
  | brk =>
    obtain ⟨τ6, G6, I6, q6⟩ := back
    exact ⟨τ6, G6, I6.ofTry fine, q6⟩
  | cont =>
    obtain ⟨τ6, G6, I6, q6⟩ := back
    exact ⟨τ6, G6, I6.ofTry fine, q6⟩
  | ret u =>
    obtain ⟨v6, τ6, G6, I6, r6, q6⟩ := back
    exact ⟨v6, τ6, G6, I6.ofTry fine, r6, q6⟩
end
end L2

set_option Elab.async false
set_option linter.all false
set_option maxRecDepth 100000
set_option maxHeartbeats 1000000
namespace L2
open PySem PySem.Spec PyProof.Rows
/-- a def's promise where no repr is under way around it -/
structure FnG (P : Program) (w : World) (K : PySem.W.Frag) (mg : Str → Option Value) (base : Heap) (k : Nat) (f : Addr) (fd : FuncData) (ps : List Str) (sp : Sp) : Prop where
  len : ∀ vs H Q E, sp vs H Q E → vs.length = ps.length
  go : ∀ (A : Around) (outer : List Env) (s : Shared) (H : Hp) (args : Args) (us : List Value) (vs : List V) (Q : VK) (E : XK), A.guards = some [] → Room k A → Env0 P w K mg base A outer s H → BindsTo s fd args (ps.zip us) → Vals vs us →
    sp vs H Q E → codeAny (model P w) A (.call (.ref f) args) (CR CX0 outer P w H s Q E) s
section
variable {P : Program} {w : World} {K : PySem.W.Frag} {mg : Str → Option Value} {base : Heap}
theorem Fun.okG {x qual : Str} {st : Stmt} {f : Addr} {fd : FuncData} {N ps : List Str} {k : Nat} {sp : Sp} (F : Fun K x qual st f fd) (S : FnScope N ps (defScope st)) (len : ∀ vs H Q E, sp vs H Q E → vs.length = ps.length)
    (body : ∀ (cdv : Value) (A : Around) (outer : List Env) (s : Shared) (H : Hp) (vs : List V) (Q : VK) (E : XK), A.guards = some [] → Room k (A.deeper (envOfC qual (defScope st) s.heap.objs.size f cdv)) → sp vs H Q E →
      ∃ t, PSs (cxOf CX0 P w K mg base N qual (defScope st) f cdv A outer s H E).nox (defBody st) t ∧ t { nx := fun _ H' => Q .non H', rt := Q } (start N vs) H) : FnG P w K mg base (k + 1) f fd ps sp := by
  obtain ⟨oc, od, kV, doc, pm, an, cdv, ct, osl, rfl, lk, hcd⟩ := F.ex
  refine ⟨len, fun A outer s H args us vs Q E gA hr e0 hb r hsp => ?_⟩
  have kept : ∀ b o, base.get? b = some o → s.heap.get? b = some o := fun b o e => (e0.bs b o e).1
  have kinds : ∀ y ∈ ps.zip us, (defScope st).names.lookup y.1 = some .local ∨ ((defScope st).names.lookup y.1 = some .cell ∧ ((cellsFrom (s.heap.objs.size + 1) (defScope st).names []).lookup y.1).isSome = true) := by
    rintro ⟨n, v⟩ hy
    exact (S.par n (List.of_mem_zip hy).1).imp id fun q => ⟨q, PySem.W.cellsFrom_some _ _ _ (.inl q)⟩
  obtain ⟨t, ht, hq⟩ := body cdv A outer s H vs Q E gA (hr.deeper _) hsp
  refine codeAny_call_function hr.depth (e0.mod.kin.keeps kept _ _ lk) rfl S.co S.gen rfl (PySem.W.codeRec_of (e0.mod.kin.keeps kept) hcd) (hb _ _ _ _ (wpAny_newFunctionEnv_cells S.kind kinds ?_))
  intro env he s1 x
  subst he
  refine ⟨(e0.mod.nolimit.keeps kept).keeps x.toInCall.keep, codeAny_func (wpAny_mono (ht.nox.run [] s1 (start N vs) H _ (inv_start S hr.hd e0 (len _ _ _ _ hsp) r x) hq) (fun fl s' hs => ?_) fun _ _ z => z)⟩
  have done : ∀ {σ' : St} {H' : Hp} {v : V} {u : Value}, Inv (cxOf CX0 P w K mg base N qual (defScope st) f cdv A outer s H E) [] σ' H' s' → RelV v u → Q v H' → CE outer P w H s Q u s' :=
    fun {σ' H' v u} J rv q => ⟨v, H', J.os, J.bare, J.base, J.hok, rv, q⟩
  match fl, hs with
  | .ret _, ⟨_, _, _, J, rv, q⟩ => exact done J rv q
  | .next, ⟨_, _, J, q⟩ => exact done (v := V.non) (u := Value.none) J rfl q
  | .brk, ⟨_, _, _, q⟩ => exact q.elim
  | .cont, ⟨_, _, _, q⟩ => exact q.elim
end
/-- the script alone may be tracked, as a thing known to the object; then the law's call -/
theorem call_lawG {P : Program} {w : World} {K : PySem.W.Frag} {mg mb : Str → Option Value} {k : Nat} {fa a : Addr} {fd : FuncData} {x : Str} {sp : Sp} {s₁ : Shared} {vs : List Value} {ns : List Int}
    (KX : K.In s₁.heap) (hns : s₁.heap.Ns mainGlobals mg) (hb : s₁.heap.Ns builtinsNs mb) (hbb : ∀ x : Str, x ≠ "__name__" → mb x = bootBuiltins x) (hlim : s₁.heap.NoLimit) (hg : s₁.gens = #[])
    (ha : s₁.heap.get? a = some { cls := .type "list", data := .seq vs.toArray }) (hi : IntsAre vs ns) (hl : ns.length ≤ sizeLine) (hr : Room k callerA)
    (F : ∀ base : Heap, K.In base → base.Ns mainGlobals mg → FnG P w K mg base k fa fd [x] sp) (hbind : ∀ (s : Shared) (u : Value), BindsTo s fd ⟨[u], []⟩ [(x, u)])
    (hsp : ∀ H : Hp, SqL K H a (ns.map V.int) → (∀ b u, H b = some u → ∃ o xs, u = .frz o (.lst xs)) → sp [.ref a] H (fun v _ => v = .bl true) fun _ _ _ => False) :
    codeAny (model P w) callerA (.call (.ref fa) ⟨[.ref a], []⟩) (fun r s' => r = .ok (.ret (.bool true)) ∧ OldK s₁.heap s'.heap ∧ s'.os = s₁.os ∧ AllBare s'.gens) s₁ := by
  have rv := vals_ints hi
  have from_ : ∀ H : Hp, SqL K H a (ns.map V.int) → HOk P w H s₁.heap → (∀ b u, H b = some u → b = a ∧ K.lookup a = none ∧ ∃ o xs, u = .frz o (.lst xs)) →
      codeAny (model P w) callerA (.call (.ref fa) ⟨[.ref a], []⟩) (fun r s' => r = .ok (.ret (.bool true)) ∧ OldK s₁.heap s'.heap ∧ s'.os = s₁.os ∧ AllBare s'.gens) s₁ := by
    intro H hS hok only
    have un_ : ∀ {b : Addr}, b ≠ a → H b = none := fun {b} n => by
      rcases q : H b with _ | u
      · rfl
      · exact absurd (only b u q).1 n
    have nsK : ∀ {b : Addr} {m : Str → Option Value}, s₁.heap.Ns b m → (hidT s₁.heap H).Ns b m := fun {b m} hn => by
      obtain ⟨o, es, ep, e, d, r⟩ := hn
      refine ⟨o, es, ep, hidT_get e (un_ fun z => ?_), d, r⟩
      rw [z, ha] at e
      obtain rfl := Option.some.inj e
      cases d
    have hKb : K.In (hidT s₁.heap H) := fun b o e => hidT_get (KX b o e) (by
      rcases q : H b with _ | u
      · rfl
      · obtain ⟨z, n, _⟩ := only b u q
        rw [z, n] at e
        cases e)
    obtain ⟨mc, c1, c2⟩ := hlim
    have e0 : Env0 P w K mg (hidT s₁.heap H) callerA [] s₁ H :=
      ⟨rfl, ⟨hKb, nsK hns, ⟨mb, nsK hb, hbb⟩, ⟨mc, nsK c1, c2⟩⟩, fun b o e => of_hidT e, Nat.le_of_eq (hidT_size _ _), trivial, fun b z => (List.not_mem_nil z).elim, hok, .of_eq hg⟩
    refine codeAny_mono ((F _ hKb (nsK hns)).go callerA [] s₁ H ⟨[.ref a], []⟩ [.ref a] [.ref a] _ _ rfl hr e0 (hbind s₁ (.ref a)) (.cons rfl .nil) (hsp H hS fun b u q => (only b u q).2.2)) fun r s' h => ?_
    match r, h with
    | .ok (.ret u), ⟨v, H', os, bare, un, hok', r', q⟩ =>
      obtain rfl : v = .bl true := q
      obtain rfl : u = Value.bool true := r'
      refine ⟨rfl, OldK.of_keep fun b o e => ?_, os, bare⟩
      rcases z : H b with _ | u
      · exact un.keep b o e z (fun y => List.not_mem_nil y) (fun y => List.not_mem_nil y)
      · obtain ⟨_, _, ob, xs, rfl⟩ := only b u z
        have e1 := (hok b _ z).1
        rw [e] at e1
        obtain rfl := Option.some.inj e1
        exact (hok' b _ (un.frzs b o _ z)).1
  rcases hk : K.lookup a with _ | o
  · refine from_ (fun b => if b = a then some (.frz { cls := .type "list", data := .seq vs.toArray } (.lst (ns.map V.int))) else none) (.inl (.inr ⟨_, if_pos rfl⟩)) (fun b u z => ?_) fun b u z => ?_
    all_goals
      (try dsimp only at z)
      by_cases n : b = a
      · rw [if_pos n] at z
        obtain rfl := Option.some.inj z
        first
          | exact ⟨n, hk, _, _, rfl⟩
          | (subst n; exact ⟨ha, by rw [List.length_map]; exact hl, vs, _, rv, ha⟩)
      · rw [if_neg n] at z
        cases z
  · have e := KX a o hk
    rw [ha] at e
    obtain rfl := Option.some.inj e
    exact from_ (fun _ => none) (.inr ⟨_, vs.toArray, _, hk, rfl, rfl, rfl, by rw [List.size_toArray, hi.length]; exact hl, by simpa using rv⟩) (fun b u z => by cases (show (none : Option HO) = some u from z)) fun b u z => by cases z
end L2

set_option Elab.async false
set_option linter.all false
set_option maxRecDepth 100000
set_option maxHeartbeats 1000000
namespace L2
open PySem PySem.Spec PyProof.Rows
/-- the looks that ExcC and OexC want, as one Bool each -/
def xcB (K : PySem.W.Frag) (D : Addr) : Bool :=
  decide (PySem.W.findIn K (.ref D) "__getattribute__" = some (some (.builtin "BaseException.__getattribute__"))) && decide (PySem.W.findIn K (.ref D) "__getattr__" = some none) && decide (PySem.W.subIn K (.ref D) (.type "BaseException") = some true) && PySem.W.hasDictIn K D &&
  decide (PySem.W.findIn K (.ref D) "__class__" = some (some (.builtin "object.__class__"))) && decide (PySem.W.specialIn K (.builtin "object.__class__") "__get__" = some (some (.builtin "getset_descriptor.__get__"))) && decide (PySem.W.takesIn K (.builtin "object.__class__") = some true) && decide (PySem.W.mroIn K D (.type "object") = some true)
theorem xc_of {K : PySem.W.Frag} {D : Addr} (h : xcB K D = true) : ExcC K D := by
  simp only [xcB, Bool.and_eq_true, decide_eq_true_eq] at h
  obtain ⟨⟨⟨⟨⟨⟨⟨h1, h2⟩, h3⟩, h4⟩, h5⟩, h6⟩, h7⟩, h8⟩ := h
  exact ⟨h1, h2, h3, h4, h5, h6, h7, h8⟩
def oexB (K : PySem.W.Frag) (C : Addr) : Bool :=
  (match K.lookup C with
  | some ⟨.type "type", _, .cls cd, sl⟩ => (match cd.mro, sl.toList with
    | .ref C' :: bm, [_, _, _, _, some (.builtin n), _] => C' == C && n == "ValueError.__new__" && cd.hasDict && !cd.hasDel && PySem.HandSPX.refsVE bm
    | _, _ => false)
  | _ => false) && decide (PySem.W.findIn K (.ref C) "__setattr__" = some (some (.builtin "object.__setattr__"))) && decide (PySem.W.subIn K (.ref C) (.type "BaseException") = some true) && decide (PySem.W.typeIn K (.ref C) = some (.type "type")) && PySem.W.keepIn K (.ref C)
theorem oex_of {K : PySem.W.Frag} {C : Addr} (h : oexB K C = true) : OexC K C := by
  simp only [oexB, Bool.and_eq_true, decide_eq_true_eq] at h
  obtain ⟨⟨⟨⟨q, h2⟩, h3⟩, h4⟩, h5⟩ := h
  refine ⟨?_, h2, h3, h4, h5⟩
  split at q
  · rename_i dd cd sl ho
    split at q
    · rename_i C' bm k0 k1 k2 k3 n k5 hm hs
      simp only [Bool.and_eq_true, beq_iff_eq, Bool.not_eq_true'] at q
      obtain ⟨⟨⟨⟨rfl, rfl⟩, hd⟩, hdel⟩, ht⟩ := q
      obtain ⟨nm, bs, mro, ns, qn, hD, sn, sub, ab, col, del⟩ := cd
      obtain ⟨l⟩ := sl
      dsimp only at hm hdel hd hs
      subst hm hdel hd hs
      exact ⟨nm, qn, ns, bs, bm, sn, sub, ab, col, dd, k0, k1, k2, k3, k5, ho, ht⟩
    · cases q
  · cases q
theorem Same.upd {H : Hp} {p : Addr} {o : HO} (h : H p = none) : Same H (L2.upd H p o) := fun b u q => by
  rw [upd_ne (ne_of_none q h)]
  exact q
section
variable {X : Cx} {x y : Str} {C : Addr} {p q r pos : Pos} {i : Nat}
end
end L2

set_option Elab.async false
set_option linter.all false
set_option maxRecDepth 100000
set_option maxHeartbeats 1000000
namespace L2
open PySem PySem.Spec PyProof.Rows
/-- v shows as the data d: data without dicts, or a flat dict -/
inductive Shw (K : PySem.W.Frag) (H : Hp) : V → PyData → Prop where
  | dp {v : V} {d : PyData} (h : Dp K H v d) (n : d.hasDict = false) : Shw K H v d
  | d0 {q : Addr} (h : H q = some (.dK [])) : Shw K H (.ref q) (.dict [])
  | d1 {q : Addr} {x : Str} {i : Int} (h : H q = some (.dK [(.inr x, .int i)])) : Shw K H (.ref q) (.dict [(.str x, .int i)])
section
variable {X : Cx} {pins : List (Addr × Obj)} {σ : St} {H : Hp} {s : Shared}
theorem Shw.reads (I : Inv X pins σ H s) {v : V} {d : PyData} {u : Value} (h : Shw X.K H v d) (r : RelV v u) : ∃ as, Reads s.heap u d as ∧ (d.hasDict = true → sysModules ∉ as) := by
  cases h with
  | dp h n =>
    obtain ⟨as, q⟩ := Dp.reads I d v u h r
    exact ⟨as, q, fun z => by rw [n] at z; cases z⟩
  | @d0 q h =>
    obtain rfl : u = Value.ref q := r
    obtain ⟨_, ne, vs, kv, o, es, ep, ho, ex, hd, _, ps, _⟩ := dk_of I.hok h
    cases kv
    have e0 : es.toList = [] := by
      cases hl : es.toList with
      | nil => rfl
      | cons a l => rw [hl] at ps; cases ps
    refine ⟨_, Reads.dict (kvs := []) ho ex.1 hd (by rw [e0]; exact .nil) (by rw [e0]; exact .nil), fun _ hm => ?_⟩
    have hm' : sysModules ∈ [q] := by simpa using hm
    have e : sysModules = q := by simpa using hm'
    rw [← e] at ne
    exact absurd ne (by decide)
  | @d1 q x i h =>
    obtain rfl : u = Value.ref q := r
    obtain ⟨_, ne, vs, kv, o, es, ep, ho, ex, hd, _, ps, _⟩ := dk_of I.hok h
    cases kv with
    | @cons _ kw _ vs' hk kt =>
      cases kt
      obtain ⟨k, w'⟩ := kw
      obtain ⟨ek, ri⟩ := hk
      dsimp only at ek ri
      subst ek
      obtain ⟨t', rfl⟩ := (show ∃ t, w' = Value.int i t from ri)
      generalize hl : es.toList = l at ps
      cases ps with
      | @cons a _ l' _ k1 k2 pl =>
        cases pl
        rcases keyIs_shape (show keyIs (.inr x) a.key = true from k1) with ⟨_, _, z, _⟩ | ⟨y, ty, z, e2⟩
        · cases z
        · cases z
          refine ⟨_, Reads.dict (kvs := [(.str x, .int i)]) ho ex.1 hd (by rw [hl]; exact .cons (by show Reads s.heap a.key (.str x) _; rw [e2]; exact .str x ty) .nil) (by rw [hl]; exact .cons (by show Reads s.heap a.val (.int i) _; rw [k2]; exact .int i t') .nil), fun _ hm => ?_⟩
          have e : sysModules = q := by simpa using hm
          rw [← e] at ne
          exact absurd ne (by decide)
end
end L2

set_option Elab.async false
set_option linter.all false
set_option maxRecDepth 100000
set_option maxHeartbeats 1000000
namespace L2
open PySem PySem.Spec PyProof.Rows
/-- a new object at p, all else as it was: what is wanted of it -/
def NewQ (H : Hp) (o : HO) (Q : VK) : Prop := ∀ p H', Same H H' → H p = none → H' p = some o → Q (.ref p) H'
theorem NewQ.at {H : Hp} {o : HO} {Q : VK} (h : NewQ H o Q) {p : Addr} (n : H p = none) : Q (.ref p) (L2.upd H p o) := h p _ (Same.upd n) n upd_same
def tLstS (t : TA) : TE := fun σ H Q => t σ H fun xs H1 => xs.length ≤ sizeLine ∧ NewQ H1 (.lst xs) Q
def tTupS (t : TA) : TE := fun σ H Q => t σ H fun xs H1 => xs.length ≤ sizeLine ∧ NewQ H1 (.tup xs) Q
def rCatS : R2 := fun x y H Q => ∃ l b xs zs, x = .ref l ∧ y = .ref b ∧ H l = some (.lst xs) ∧ H b = some (.lst zs) ∧ xs.length + zs.length ≤ sizeLine ∧ NewQ H (.lst (xs ++ zs)) Q
def rSlW (K : PySem.W.Frag) : V → Option Int → Option Int → Hp → VK → Prop := fun x lo hi H Q => ∃ a xs, x = .ref a ∧ SqL K H a xs ∧ NewQ H (.lst (cutV xs lo hi)) Q
section
variable {X : Cx} {es : List Expr} {t : TA} {pos : Pos}
theorem pe_lstS (h : PA X es t) : PE X (.List es pos) (tLstS t) :=
  ⟨fun pins s σ H Q I hq => wpAny_List_spliced (thn (h.run pos pins s σ H _ I hq) fun us s1 ⟨xs, H1, I1, r, z, q⟩ => ⟨by rw [← r.length]; exact z,
    .ref s1.heap.objs.size, _, I1.laid (t' := s1.toks) (o := .lst xs) (fun _ _ e => Heap.get?_push_of_some _ e) (Nat.le_refl _) ⟨z, us, 0, r, Heap.get?_push_size _ rfl⟩, rfl, q.at I1.fresh⟩)⟩
theorem pe_tupS {x1} (h : PA X es t) : PE X (.Tuple es x1 pos) (tTupS t) :=
  ⟨fun pins s σ H Q I hq => wpAny_Tuple_spliced (thn (h.run pos pins s σ H _ I hq) fun us s1 ⟨xs, H1, I1, r, z, q⟩ => ⟨by rw [← r.length]; exact z,
    .ref s1.heap.objs.size, _, I1.laid (t' := s1.toks) (o := .tup xs) (fun _ _ e => Heap.get?_push_of_some _ e) (Nat.le_refl _) ⟨z, us, r, ⟨_, Heap.get?_push_size _ rfl, rfl, _, rfl⟩⟩, rfl, q.at I1.fresh⟩)⟩
theorem op_catS : OpR X (binaryOp .Add) rCatS := fun pins s σ H x y v u Q I rx ry ⟨l, b, xs, zs, e1, e2, h1, h2, hz, q⟩ => op_cat pins s σ H x y v u Q I rx ry ⟨l, b, xs, zs, e1, e2, h1, h2, hz, fun _ n => q.at n⟩
theorem sl_listS : SlR X (rSlW X.K) := fun pins s σ H x v vl vu lo hi sl Q I rx hs hl hh ⟨a, xs, e, h, q⟩ => sl_list pins s σ H x v vl vu lo hi sl Q I rx hs hl hh ⟨a, xs, e, h, fun _ n => q.at n⟩
/-- {} with text or int keys -/
theorem pe_dnewS : PE X (.Dict [] [] pos) (fun _ H Q => NewQ H (.dK []) Q) := ⟨fun pins s σ H Q I h => pe_dnewK.run pins s σ H Q I fun _ n => NewQ.at h n⟩
end
theorem Same.lst {H H' : Hp} {a : Addr} {o : HO} (S : Same H H') (h : H a = some o) : H' a = some o := S _ _ h
end L2

set_option Elab.async false
set_option linter.all false
set_option maxRecDepth 100000
set_option maxHeartbeats 1000000
/-! a + b, a * b, -a where a is an instance of an own class that says what they are. -/
namespace L2
open PySem PySem.Spec PyProof.Rows
/-- what the class says of an operator's method -/
structure OwnOp (K : PySem.W.Frag) (C : Addr) (name : Str) (f : Addr) : Prop where
  first : PySem.W.selfFirst K C = true
  has : PySem.W.findIn K (.ref C) name = some (some (.ref f))
  fn : PySem.W.isFn K (.ref f) = true
/-- the same where the right side is a whole number: int's own slots, and no reflected method of the class's -/
structure OwnOpI (K : PySem.W.Frag) (C : Addr) (name : String) (f : Addr) : Prop where
  one : OwnOp K C (PySem.dunder name) f
  refl : ∃ rc, PySem.W.findIn K (.ref C) (dunderR name) = some rc ∧ (rc = none ∨ ∃ g : Addr, rc = some (.ref g))
  i1 : ∃ fo, PySem.W.findIn K (.type "int") (PySem.dunder name) = some fo
  i2 : ∃ ro, PySem.W.findIn K (.type "int") (dunderR name) = some ro
  sub : PySem.W.subIn K (.type "int") (.ref C) = some false
section
variable {X : Cx} {op : Operator} {C f : Addr} {fd : FuncData} {ps : List Str} {sp : Sp} {k : Nat}
end
end L2

set_option Elab.async false
set_option linter.all false
set_option maxRecDepth 100000
set_option maxHeartbeats 1000000
/-! rows without forms: what is said of heaps, tests, powers -/
namespace L2
open PySem PySem.Spec PyProof.Rows
theorem iteD {p : Prop} [Decidable p] {A B : Prop} (h1 : p → A) (h2 : ¬ p → B) : if decide p = true then A else B := by
  by_cases h : p
  · rw [if_pos (decide_eq_true h)]; exact h1 h
  · rw [if_neg (by simpa using h)]; exact h2 h
theorem ifT {b : Bool} {A B : Prop} (h : b = true) (x : A) : if b = true then A else B := by rw [if_pos h]; exact x
theorem ifF {b : Bool} {A B : Prop} (h : b = false) (x : B) : if b = true then A else B := by rw [if_neg (by rw [h]; exact Bool.false_ne_true)]; exact x
def CPowX (i j : Int) : Prop := 0 ≤ j ∧ (Builtin.Int.intBits i : Int) * j ≤ 2 ^ 27
theorem op_powX {X : Cx} : OpR X (binaryOp .Pow) (rI CPowX fun i j => .int (i ^ j.toNat)) := opI fun _ _ _ _ _ _ _ hc q => pow_int hc.1 hc.2 q
/-- all but D as it was -/
def SameB (D : Addr) (H H' : Hp) : Prop := ∀ b o, b ≠ D → H b = some o → H' b = some o
theorem SameB.refl (D : Addr) (H : Hp) : SameB D H H := fun _ _ _ h => h
theorem SameB.to {D : Addr} {H H1 H2 : Hp} (S : SameB D H H1) (T : Same H1 H2) : SameB D H H2 := fun b o n h => T b o (S b o n h)
theorem SameB.trans {D : Addr} {H H1 H2 : Hp} (S : SameB D H H1) (T : SameB D H1 H2) : SameB D H H2 := fun b o n h => T b o n (S b o n h)
theorem SameB.upd {D : Addr} {H H1 : Hp} {o : HO} (S : SameB D H H1) : SameB D H (L2.upd H1 D o) := fun b u n h => by rw [upd_ne n]; exact S b u n h
theorem SqL.same {K : PySem.W.Frag} {H H' : Hp} {a : Addr} {xs : List V} (h : SqL K H a xs) (S : Same H H') : SqL K H' a xs := by
  rcases h with (h | ⟨o, h⟩) | h
  · exact .inl (.inl (S _ _ h))
  · exact .inl (.inr ⟨o, S _ _ h⟩)
  · exact .inr h
theorem SqL.sameB {K : PySem.W.Frag} {D : Addr} {H H' : Hp} {a : Addr} {xs : List V} (h : SqL K H a xs) (S : SameB D H H') (n : a ≠ D) : SqL K H' a xs := by
  rcases h with (h | ⟨o, h⟩) | h
  · exact .inl (.inl (S _ _ n h))
  · exact .inl (.inr ⟨o, S _ _ n h⟩)
  · exact .inr h
theorem seq_asg {te : TE} {i : Nat} {u : TS} {D : Ends} {σ : St} {H : Hp} (h : te σ H fun x H1 => u D (σ.set i (some x)) H1) : tSeq (tAsg te (gName i)) u D σ H := h
theorem te_mid {t : TE} {σ : St} {H : Hp} {Q : VK} (G : V → Hp → Prop) (h : ∀ R : VK, (∀ x H', G x H' → R x H') → t σ H R) (k : ∀ x H', G x H' → Q x H') : t σ H Q := h Q k
theorem ts_mid {t u : TS} {D : Ends} {σ : St} {H : Hp} (G : St → Hp → Prop) (h : ∀ N : St → Hp → Prop, (∀ σ' H', G σ' H' → N σ' H') → t { D with nx := N } σ H) (k : ∀ σ' H', G σ' H' → u D σ' H') : tSeq t u D σ H := h _ k
theorem cut_ints (ns : List Int) (lo hi : Option Int) : ∃ ms : List Int, cutV (ns.map V.int) lo hi = ms.map V.int :=
  ⟨(ns.drop (HT.sIx (ns.map V.int).length 0 lo)).take (HT.sIx (ns.map V.int).length (ns.map V.int).length hi - HT.sIx (ns.map V.int).length 0 lo), by unfold cutV; rw [← List.map_drop, ← List.map_take]⟩
end L2

set_option Elab.async false
set_option linter.all false
set_option maxRecDepth 100000
set_option maxHeartbeats 1000000
/-! raise C(value); calls that may raise -/
namespace L2
open PySem PySem.Spec PyProof.Rows
open C8 (CX0 Cal)
/-- an own exception class at C, called x, that is raised with one value, kept as f -/
structure ExR (P : Program) (w : World) (K : PySem.W.Frag) (mg : Str → Option Value) (base : Heap) (x : Str) (C : Addr) (f : Str) : Prop where
  mgC : mg x = some (.ref C)
  oex : OexC K C
  noF : PySem.W.findIn K (.ref C) f = some none
  ini : ∃ (fI : Addr) (fd : FuncData) (ps : List Str), PySem.W.findIn K (.ref C) "__init__" = some (some (.ref fI)) ∧ PySem.W.typeIn K (.ref fI) = some (.type "function") ∧ FnOk P w K mg base CX0 1 fI fd ps (spExI K f) ∧ Binds K fd ps []
/-- raise x(e): what is wished of it -/
def tRz (C : Addr) (f : Str) (te : TE) (W : WX) : TS := fun _ σ H => te σ H fun y H1 => ∀ d H', Same H1 H' → H1 d = none → H' d = some (.xd [(f, y)]) → W (.ref C) (some d) σ H'
theorem PE.up {X : Cx} {e : Expr} {t : TE} (h : PE X e t) : PE X e (fun σ H Q => ∃ Q0 : VK, t σ H Q0 ∧ ∀ v H', Q0 v H' → Q v H') :=
  ⟨fun pins s σ H Q I ⟨Q0, h0, im⟩ => thn (h.run pins s σ H Q0 I h0) fun _ _ ⟨v, H1, I1, r, q⟩ => ⟨v, H1, I1, r, im v H1 q⟩⟩
section
variable {X : Cx} {x f : Str} {C : Addr} {e : Expr} {es : List Expr} {te : TE} {t : TA} {W : WX} {p pos pos' : Pos} {k j : Nat} {sp : Sp} {dvs : List V}
theorem ps_raise1 (hc : X.calm = true) (tk : Takes X W) (T : ExR X.prog X.w X.K X.mg X.base x C f) (hr : Room 2 X.A) (hg : Gl X x) (he : PE X e te) (hdb : (x == ("__debug__" : Str)) = false := by decide) (hs : starEach [e] X.env = (false, eval e X.env) :: starEach [] X.env := by rfl)
    (hpl : (backTo pos' (starEach [] X.env)).any (·.1) = false := by rfl) : PS X (.Raise (some (.Call (.Name x p) [e] [] pos')) none pos) (tRz C f te W) := by
  obtain ⟨fI, fd, ps, iC, tI, F1, b⟩ := T.ini
  refine ⟨fun pins s σ H D I h => (ps_raise hc tk (pmk_oex T.oex iC tI F1 hr b .nil C8.pass0 hg T.mgC (pa_cons he.up pa_nil hs) hdb hs hpl)).run pins s σ H D I ?_⟩
  refine ⟨_, h, fun y H1 q => ⟨by show 1 ≤ 1000; decide, fun a na => ⟨a, C, y, rfl, T.oex, T.noF, upd_same, fun dx ndx ne => ⟨rfl, dx, _, upd_same, by rw [upd_ne ne, upd_same], ?_, ?_⟩⟩⟩⟩
  · rw [upd_ne ne] at ndx
    exact ndx
  · rw [upd_ne ne] at ndx
    refine q dx _ (fun c o e => ?_) ndx upd_same
    have c1 := ne_of_none e ndx
    have c2 := ne_of_none e na
    rw [upd_ne c1]
    unfold del
    rw [if_neg c2, upd_ne c2, upd_ne c1, upd_ne c2]
    exact e
/-- a def that may be called by its name and may raise -/
structure CalX (P : Program) (w : World) (K : PySem.W.Frag) (mg : Str → Option Value) (base : Heap) (k : Nat) (x : Str) (sp : Sp) (dvs : List V) : Prop where
  ex : ∃ (f : Addr) (fd : FuncData) (ps : List Str) (ds : List Value), FnOk P w K mg base (L2.CX P w) k f fd ps sp ∧ mg x = some (.ref f) ∧ PySem.W.keepIn K (.ref f) = true ∧ Binds K fd ps ds ∧ Vals dvs ds
def tCallX (sp : Sp) (dvs : List V) (W : WX) (t : TA) : TE := fun σ H Q => t σ H fun vs H1 => sp (vs ++ dvs) H1 Q fun cls d H' => W cls d σ H'
theorem pe_cX (tk : Takes X W) (c : CalX X.prog X.w X.K X.mg X.base k x sp dvs) (hr : Room j X.A) (hk : k ≤ j) (hg : Gl X x) (ha : PA X (e :: es) t)
    (hdb : (x == ("__debug__" : Str)) = false := by decide) (he : starEach (e :: es) X.env = (false, eval e X.env) :: starEach es X.env := by rfl) (hpl : (backTo pos (starEach es X.env)).any (·.1) = false := by rfl) :
    PE X (.Call (.Name x p) (e :: es) [] pos) (tCallX sp dvs W t) := by
  obtain ⟨f, fd, ps, ds, F, hm, kp, hb, hd⟩ := c.ex
  refine ⟨fun pins s σ H Q I h => ?_⟩
  refine wpAny_Call_Name_kw (ld_glob I hg hm ?_ hdb)
  refine PySem.W.callWith_K (h₀ := X.base) I.ok.mod.kin kp (thn (ha.run pos pins s σ H _ I h) fun us s1 ⟨vs, H1, I1, r, q⟩ => ⟨I1.kIn, ?_⟩) he hpl
  have rr : Vals (vs ++ dvs) (us ++ ds) := r.append hd
  have ll : (us ++ ds).length = ps.length := by rw [← rr.length]; exact F.len _ _ _ _ q
  refine wpAny_call (codeAny_mono (F.run X.A X.stack s1 H1 ⟨us, []⟩ (us ++ ds) (vs ++ dvs) Q (fun cls d H' => W cls d σ H') (hr.mono hk) I1.env0 (hb s1 us I1.kIn ll) rr q) fun g s2 hq => ?_)
  cases g with
  | error er => exact tk er s2 (XE.of_call I1 (fun _ _ _ h => h) hq)
  | ok fl =>
    cases fl with
    | ret u => exact I1.after hq
    | next => exact False.elim hq
    | brk => exact False.elim hq
    | cont => exact False.elim hq
end
section
variable {P : Program} {w : World} {K : PySem.W.Frag} {mg : Str → Option Value} {base : Heap} {k : Nat} {f : Addr} {fd : FuncData} {ps : List Str} {sp sp' : Sp}
/-- who raises nothing keeps any promise about raising -/
theorem FnOk.calm {Y : CXT} (F : FnOk P w K mg base CX0 k f fd ps sp) : FnOk P w K mg base Y k f fd ps sp :=
  ⟨F.len, fun A outer s H args us vs Q E hr he hb hv hs => codeAny_mono (F.run A outer s H args us vs Q E hr he hb hv hs) fun r s' q => by
    cases r with
    | error e => exact q.elim
    | ok fl => cases fl <;> exact q⟩
theorem FnOk.or {Y : CXT} (F : FnOk P w K mg base Y k f fd ps sp) (G : FnOk P w K mg base Y k f fd ps sp') : FnOk P w K mg base Y k f fd ps (fun vs H Q E => sp vs H Q E ∨ sp' vs H Q E) :=
  ⟨fun vs H Q E h => h.elim (F.len vs H Q E) (G.len vs H Q E), fun A outer s H args us vs Q E hr he hb hv hs => hs.elim (F.run A outer s H args us vs Q E hr he hb hv) (G.run A outer s H args us vs Q E hr he hb hv)⟩
end
end L2

set_option Elab.async false
set_option linter.all false
set_option maxRecDepth 100000
set_option maxHeartbeats 1000000
/-! the draws of stage 3's laws: _law_purse, _law_mixed, _law_draw -/
namespace E3
open PySem PySem.Spec PyProof.Rows L2
open C8 (Cal Mak Met InsC pe_c pe_mt pe_mt0 call_isC clsBody)
def top (i : Nat) : Stmt := PySem.Challenge.pw_cellplaces_k70_rings_refused.main.body.getD i (.Pass ⟨0, 0, 0, 0⟩)
abbrev sPurse : Stmt := top 19
abbrev sMixed : Stmt := top 20
abbrev sDraw : Stmt := top 21
structure Bt4 (mg : Str → Option Value) : Prop where
  sum_ : mg "sum" = none
  max_ : mg "max" = none
  rng_ : mg "range" = none
  len_ : mg "len" = none
/-- a purse, with so many draws left -/
def PurseAt (H : Hp) (a : Addr) (n : Nat) : Prop := ∃ p0 p1 p2 : Int, H a = some (.lst [.int p0, .int p1, .int p2]) ∧ 0 ≤ p0 ∧ p0 < 10 ^ 480 ∧ 0 ≤ p1 ∧ p1 < 2 ^ 31 ∧ 0 ≤ p2 ∧ p2 + n ≤ 2 ^ 60
theorem PurseAt.same {H H' : Hp} {a : Addr} {n : Nat} (h : PurseAt H a n) (S : Same H H') : PurseAt H' a n :=
  let ⟨p0, p1, p2, h1, h2⟩ := h
  ⟨p0, p1, p2, S _ _ h1, h2⟩
theorem PurseAt.less {H : Hp} {a : Addr} {n m : Nat} (h : PurseAt H a n) (l : m ≤ n) : PurseAt H a m :=
  let ⟨p0, p1, p2, h1, h2, h3, h4, h5, h6, h7⟩ := h
  ⟨p0, p1, p2, h1, h2, h3, h4, h5, h6, by omega⟩
def spPurse (K : PySem.W.Frag) : Sp := fun vs H Q _ => ∃ (sc : Addr) (i : Int) (ns : List Int), vs = [.ref sc, .int i] ∧ SqL K H sc (ns.map V.int) ∧ 0 ≤ i ∧ i < 100 ∧ ∀ H' p, Same H H' → H p = none → PurseAt H' p (2 ^ 59) → Q (.ref p) H'
def spMixed : Sp := fun vs H Q _ => ∃ a b : Int, vs = [.int a, .int b] ∧ 0 ≤ a ∧ a < 2 ^ 31 ∧ 0 ≤ b ∧ b < 2 ^ 61 ∧ ∀ r : Int, 0 ≤ r → r < 2147483587 → Q (.int r) H
def spDraw : Sp := fun vs H Q _ => ∃ (a : Addr) (many : Int) (n : Nat), vs = [.ref a, .int many] ∧ PurseAt H a (n + 4) ∧ 1 ≤ many ∧ many < 2 ^ 100 ∧ ∀ r H', 0 ≤ r → r < many → PurseAt H' a n → SameB a H H' → Q (.int r) H'
theorem bits_100 {m : Int} (h0 : 1 ≤ m) (h : m < 2 ^ 100) : Builtin.Int.intBits m ≤ 100 := by
  unfold Builtin.Int.intBits
  rw [if_neg (by intro e; have := eq_of_beq e; omega)]
  have h1 : m.natAbs < 2 ^ 100 := by
    have e : ((m.natAbs : Nat) : Int) = m := Int.natAbs_of_nonneg (by omega)
    have : ((m.natAbs : Nat) : Int) < ((2 ^ 100 : Nat) : Int) := by rw [e]; exact_mod_cast h
    exact Int.ofNat_lt.mp this
  have := PySem.Flt.log2_lt_of (by decide) h1
  omega
section
variable {P : Program} {w : World} {K : PySem.W.Frag} {mg : Str → Option Value} {base : Heap}
theorem scPurse : FnScope ["_law_script", "_law_at", "_law_cell"] ["_law_script", "_law_at"] (defScope sPurse) := ⟨rfl, rfl, rfl, by decide +kernel, rfl, by decide +kernel, by decide +kernel⟩
theorem ok_purse {f : Addr} {fd : FuncData} (F : Fun K "_law_purse" "_law_purse" sPurse f fd) (B : Bt4 mg) : FnOk P w K mg base CX0 1 f fd ["_law_script", "_law_at"] (spPurse K) := by
  refine F.ok scPurse (fun vs H Q E h => ?_) (fun cdv A outer s H vs Q E hr h => ?_)
  · obtain ⟨sc, i, ns, rfl, _⟩ := h
    rfl
  · obtain ⟨sc, i, ns, rfl, hs, i0, i1, k⟩ := h
    refine ⟨_, pss_cons (ps_set (i := 2) scPurse.nd rfl (Or.inl rfl) (pe_callB (cr_sum rfl) (by rfl) B.sum_ (by decide +kernel) (pa_cons (pe_slice sl_listS (pv 0) (po_some (pv 1)) (po_some (pe_op op_add (pv 1) pe_int))) pa_nil)))
      (pss_one (ps_ret (pe_lstS (pa_cons (pe_op op_mod (pe_callB (call_max2 rfl) (by rfl) B.max_ (by decide +kernel) (pa_cons (pe_op op_sub (pv 2) (pe_op op_pow pe_int pe_int)) (pa_cons pe_int pa_nil))) (pe_op op_powX (pe_op op_pow pe_int pe_int) pe_int))
        (pa_cons (pe_op op_mod (pv 2) pe_int) (pa_cons (pe_op op_mul pe_int (pv 1)) pa_nil)))))), ?_⟩
    obtain ⟨ms, hms⟩ := cut_ints ns (some i) (some (i + 1))
    refine ⟨_, rfl, _, rfl, i, rfl, _, rfl, i, 1, rfl, rfl, i + 1, rfl, sc, _, rfl, hs, fun pc H1 S1 n1 h1 => ?_⟩
    rw [hms] at h1
    refine ⟨pc, ms, rfl, SqL.of h1, ?_⟩
    have c1 : CPow 10 18 := ⟨by decide, by decide, by decide⟩
    have c2 : CPow 10 60 := ⟨by decide, by decide, by decide⟩
    have c3 : CPowX ((10 : Int) ^ (60 : Int).toNat) 8 := ⟨by decide, by decide +kernel⟩
    refine ⟨_, rfl, 10, 18, rfl, rfl, c1, _, _, rfl, rfl, _, _, rfl, ?_⟩
    refine ⟨10, 60, rfl, rfl, c2, _, 8, rfl, rfl, c3, _, _, rfl, rfl, (show (0 : Int) < ((10 : Int) ^ (60 : Int).toNat) ^ (8 : Int).toNat by decide +kernel), ?_⟩
    refine ⟨_, rfl, _, _, rfl, rfl, (show (0 : Int) < 2147483629 by decide), _, rfl, _, _, rfl, rfl, .inl (by constructor <;> decide), (by show 3 ≤ sizeLine; decide), fun p H2 S2 np hp => ?_⟩
    refine k H2 p (S1.trans S2) (S1.free np) ⟨_, _, _, hp, Int.emod_nonneg _ (by decide +kernel), ?_, Int.emod_nonneg _ (by decide), ?_, by omega, by omega⟩
    · have e : ((10 : Int) ^ (60 : Int).toNat) ^ (8 : Int).toNat = 10 ^ 480 := by decide +kernel
      rw [e]
      exact Int.emod_lt_of_pos _ (by decide +kernel)
    · exact Int.lt_trans (Int.emod_lt_of_pos _ (by decide)) (by decide)
theorem scMixed : FnScope ["_law_seed", "_law_step", "_law_found"] ["_law_seed", "_law_step"] (defScope sMixed) := ⟨rfl, rfl, rfl, by decide +kernel, rfl, by decide +kernel, by decide +kernel⟩
theorem ok_mixed {f : Addr} {fd : FuncData} (F : Fun K "_law_mixed" "_law_mixed" sMixed f fd) : FnOk P w K mg base CX0 1 f fd ["_law_seed", "_law_step"] spMixed := by
  refine F.ok scMixed (fun vs H Q E h => ?_) (fun cdv A outer s H vs Q E hr h => ?_)
  · obtain ⟨a, b, rfl, _⟩ := h
    rfl
  · obtain ⟨a, b, rfl, a0, a1, b0, b1, k⟩ := h
    refine ⟨_, pss_cons (ps_set (i := 2) scMixed.nd rfl (Or.inl rfl) (pe_op op_mod (pe_op op_add (pe_op op_add (pe_op op_mul (pv 0) pe_int) (pe_op op_mul (pe_op op_mul pe_int (pv 1)) (pv 1))) (pv 1)) pe_int))
      (pss_cons (ps_set (i := 2) scMixed.nd rfl (Or.inl rfl) (pe_op op_mod (pe_op op_add (pe_op op_mul (pv 2) (pv 2)) pe_int) pe_int))
      (pss_one (ps_ret (pe_op op_mod (pe_op op_mul (pv 2) pe_int) pe_int)))), ?_⟩
    refine ⟨_, rfl, _, _, rfl, rfl, .inr (by constructor <;> decide), _, rfl, _, _, rfl, rfl, .inl (by constructor <;> decide), _, rfl, _, _, rfl, rfl, .inr ⟨by omega, by omega⟩, _, _, rfl, rfl, _, rfl, _, _, rfl, rfl, _, _, rfl, rfl, (show (0 : Int) < 2147483647 by decide), ?_⟩
    generalize hm : (a * 69069 + 104729 * b * b + b) % 2147483647 = m
    have m0 : 0 ≤ m := hm ▸ Int.emod_nonneg _ (by decide)
    have m1 : m < 2147483647 := hm ▸ Int.emod_lt_of_pos _ (by decide)
    refine ⟨_, rfl, _, rfl, _, _, rfl, rfl, .inr ⟨by omega, by omega⟩, _, _, rfl, rfl, _, _, rfl, rfl, (show (0 : Int) < 2147483629 by decide), ?_⟩
    refine ⟨_, rfl, _, _, rfl, rfl, .inr (by constructor <;> decide), _, _, rfl, rfl, (show (0 : Int) < 2147483587 by decide), ?_⟩
    exact k _ (Int.emod_nonneg _ (by decide)) (Int.emod_lt_of_pos _ (by decide))
theorem scDraw : FnScope ["_law_purse_here", "_law_many", "_law_drawn", "_law_found", "_law_piece"] ["_law_purse_here", "_law_many"] (defScope sDraw) := ⟨rfl, rfl, rfl, by decide +kernel, rfl, by decide +kernel, by decide +kernel⟩
theorem ok_draw {f : Addr} {fd : FuncData} (F : Fun K "_law_draw" "_law_draw" sDraw f fd) (B : Bt4 mg) (M : Cal P w K mg base 1 "_law_mixed" spMixed []) : FnOk P w K mg base CX0 2 f fd ["_law_purse_here", "_law_many"] spDraw := by
  refine F.ok scDraw (fun vs H Q E h => ?_) (fun cdv A outer s H vs Q E hr h => ?_)
  · obtain ⟨a, many, n, rfl, _⟩ := h
    rfl
  · obtain ⟨a, many, n, rfl, ⟨p0, p1, p2, hp, a0, a1, b0, b1, c0, c1⟩, m1, m2, k⟩ := h
    refine ⟨_, pss_cons (ps_if (pt_cmpR op_gt (pe_ix ix_list (pv 0) pe_int (fun _ _ => rfl)) pe_int (by rfl))
        (pss_cons (ps_set (i := 2) scDraw.nd rfl (Or.inl rfl) (pe_op op_mod (pe_ix ix_list (pv 0) pe_int (fun _ _ => rfl)) (pv 1)))
        (pss_cons (ps_asg (pe_op op_fdivW (pe_ix ix_list (pv 0) pe_int (fun _ _ => rfl)) (pv 1)) (pg_sub (pv 0) pe_int set_list))
        (pss_one (ps_ret (pv 2))))) pss_nil)
      (pss_cons (ps_set (i := 3) scDraw.nd rfl (Or.inl rfl) pe_int)
      (pss_cons (ps_for PassesOwn.never rfl (pi_range1 rfl B.rng_ (pa_cons (pe_op op_add pe_int (pe_op op_fdiv (pe_bits (pv 1)) pe_int)) pa_nil)) (pg_name (i := 4) scDraw.nd rfl (Or.inl rfl))
        (pss_cons (ps_asg (pe_op op_add (pe_ix ix_list (pv 0) pe_int (fun _ _ => rfl)) pe_int) (pg_sub (pv 0) pe_int set_list))
        (pss_one (ps_set (i := 3) scDraw.nd rfl (Or.inl rfl) (pe_op op_add (pe_op op_mul (pv 3) pe_int) (pe_c M hr (by decide) rfl (pa_cons (pe_ix ix_list (pv 0) pe_int (fun _ _ => rfl)) (pa_cons (pe_ix ix_list (pv 0) pe_int (fun _ _ => rfl)) pa_nil))))))))
      (pss_one (ps_ret (pe_op op_mod (pv 3) (pv 1)))))), ?_⟩
    have ml : CDivW p0 many := by
      refine ⟨by omega, ?_⟩
      have h1 := bits_100 m1 m2
      unfold Builtin.Int.intBits at h1
      rw [if_neg (by intro e; have := eq_of_beq e; omega)] at h1
      omega
    refine ⟨_, rfl, a, _, 0, _, rfl, rfl, SqL.of hp, rfl, _, _, rfl, rfl, _, rfl, iteD (fun h => ?_) (fun h => ?_)⟩
    · refine ⟨_, rfl, a, _, 0, _, rfl, rfl, SqL.of hp, rfl, _, rfl, _, _, rfl, rfl, (show 0 < many by omega), ?_⟩
      refine ⟨_, rfl, a, _, 0, _, rfl, rfl, SqL.of hp, rfl, _, rfl, _, _, rfl, rfl, ml, _, rfl, a, _, 0, 0, rfl, rfl, hp, rfl, ?_⟩
      refine ⟨_, rfl, k _ _ (Int.emod_nonneg _ (by omega)) (Int.emod_lt_of_pos _ (by omega)) ⟨p0 / many, p1, p2, upd_same, Int.ediv_nonneg a0 (by omega), Int.lt_of_le_of_lt (Int.ediv_le_self _ a0) a1, b0, b1, c0, by omega⟩ fun c o nc e => by rw [upd_ne nc]; exact e⟩
    · dsimp only [tNext]
      refine seq_asg ?_
      dsimp only [tC]
      have bb := bits_100 m1 m2
      have jn : ((1 + ((Builtin.Int.intBits many : Nat) : Int) / 28)).toNat ≤ 4 := by omega
      refine ⟨_, rfl, many, rfl, _, 28, rfl, rfl, (by constructor <;> decide), _, _, rfl, rfl, _, rfl, ?_⟩
      refine ⟨by omega, by omega, for_it (walk_range (n := (1 + ((Builtin.Int.intBits many : Nat) : Int) / 28).toNat)) (fun i σ' H' => (∃ fnd v, σ' = [some (.ref a), some (.int many), none, some (.int fnd), v]) ∧ SameB a H H' ∧ H' a = some (.lst [.int p0, .int p1, .int (p2 + (i : Nat))])) ⟨⟨0, none, rfl⟩, SameB.refl _ _, by rw [hp]; simp⟩ (fun _ _ _ _ _ => trivial) ?_ ?_⟩
      · rintro i x σ' H1 H2 hi ⟨⟨fnd, v, rfl⟩, S, hp'⟩ ⟨rfl, rfl⟩
        have hi4 : i < 4 := Nat.lt_of_lt_of_le hi jn
        refine ⟨_, rfl, a, _, 2, _, rfl, rfl, SqL.of hp', rfl, _, _, rfl, rfl, _, rfl, a, _, 2, 2, rfl, rfl, hp', rfl, ?_⟩
        have hq : (upd H2 a (.lst [.int p0, .int p1, .int (p2 + (i : Nat) + 1)])) a = some (.lst [.int p0, .int p1, .int (p2 + (i : Nat) + 1)]) := upd_same
        have sq : SqL K (upd H2 a (.lst [.int p0, .int p1, .int (p2 + (i : Nat) + 1)])) a [.int p0, .int p1, .int (p2 + (i : Nat) + 1)] := SqL.of hq
        refine ⟨_, rfl, _, _, rfl, rfl, .inr (by constructor <;> decide), _, rfl, a, _, 1, _, rfl, rfl, sq, rfl, _, rfl, a, _, 2, _, rfl, rfl, sq, rfl, p1, p2 + (i : Nat) + 1, rfl, b0, b1, by omega, by omega, fun r r0 r1 => ⟨_, _, rfl, rfl, ⟨_, _, rfl⟩, S.upd, ?_⟩⟩
        rw [upd_same]
        have e : p2 + ((i + 1 : Nat) : Int) = p2 + (i : Nat) + 1 := by omega
        rw [e]
        rfl
      · rintro σ' H1 ⟨⟨fnd, v, rfl⟩, S, hp'⟩
        dsimp only
        exact ⟨_, rfl, _, rfl, _, _, rfl, rfl, (show 0 < many by omega), k _ _ (Int.emod_nonneg _ (by omega)) (Int.emod_lt_of_pos _ (by omega)) ⟨p0, p1, _, hp', a0, a1, b0, b1, by omega, by omega⟩ S⟩
end
end E3

set_option linter.all false
set_option maxHeartbeats 400000
/-! rings: the mirrors -/
namespace E3
def pw (b e m : Nat) : Nat := if e = 0 then 1 else b ^ e % m
theorem pw_step {b e m f c x : Nat} (hx : 0 < x) (h : (f * c ^ x) % m = b ^ e % m ∧ 0 < e) :
    (x / 2 = 0 → (if x % 2 = 1 then f * c % m else f) = pw b e m) ∧ (0 < x / 2 → ((if x % 2 = 1 then f * c % m else f) * (c * c % m) ^ (x / 2)) % m = b ^ e % m ∧ 0 < e) := by
  obtain ⟨h1, h2⟩ := h
  refine ⟨fun z => ?_, fun z => ⟨?_, h2⟩⟩
  · have : x = 1 := by omega
    subst this
    rw [if_pos rfl]
    unfold pw
    rw [if_neg (by omega), ← h1, Nat.pow_one]
  · have k : (c * c % m) ^ (x / 2) % m = c ^ (2 * (x / 2)) % m := by
      rw [← Nat.pow_mod, Nat.pow_mul, Nat.pow_two]
    by_cases o : x % 2 = 1
    · rw [if_pos o, Nat.mul_mod, k, Nat.mod_mod, ← Nat.mul_mod, ← h1, Nat.mul_assoc]
      have e1 : x = 2 * (x / 2) + 1 := by omega
      have e2 : c * c ^ (2 * (x / 2)) = c ^ x := by
        conv => rhs; rw [e1, Nat.pow_succ, Nat.mul_comm]
      rw [e2]
    · rw [if_neg o, Nat.mul_mod, k, ← Nat.mul_mod, ← h1]
      have e1 : 2 * (x / 2) = x := by omega
      rw [e1]
/-! powers taken out -/
def stripGo : Nat → Nat → Nat → Nat → Nat × Nat
  | 0, _, v, e => (v, e)
  | n + 1, p, v, e => if v % p = 0 then stripGo n p (v / p) (e + 1) else (v, e)
def facFin (v : Nat) (acc : List (Nat × Nat)) : List (Nat × Nat) := if 1 < v then acc ++ [(v, 1)] else acc
def facGo : Nat → Nat → Nat → List (Nat × Nat) → List (Nat × Nat)
  | 0, _, v, acc => facFin v acc
  | n + 1, p, v, acc => if p * p ≤ v then facGo n (p + 1) (stripGo v p v 0).1 (if 0 < (stripGo v p v 0).2 then acc ++ [(p, (stripGo v p v 0).2)] else acc) else facFin v acc
def facM (v : Nat) : List (Nat × Nat) := facGo v 2 v []
def prodF (l : List (Nat × Nat)) : Nat := l.foldr (fun x r => x.1 ^ x.2 * r) 1
theorem prodF_app (l m : List (Nat × Nat)) : prodF (l ++ m) = prodF l * prodF m := by
  induction l with
  | nil => simp [prodF]
  | cons x l ih =>
    have : prodF (x :: l ++ m) = x.1 ^ x.2 * prodF (l ++ m) := rfl
    rw [this, ih, ← Nat.mul_assoc]; rfl
theorem strip_ok : ∀ (n p v e : Nat), 2 ≤ p → 1 ≤ v → (stripGo n p v e).1 * p ^ (stripGo n p v e).2 = v * p ^ e ∧ 1 ≤ (stripGo n p v e).1 ∧ (stripGo n p v e).1 ≤ v ∧ e ≤ (stripGo n p v e).2
  | 0, p, v, e, h, h1 => ⟨rfl, h1, Nat.le_refl _, Nat.le_refl _⟩
  | n + 1, p, v, e, h, h1 => by
    unfold stripGo
    by_cases z : v % p = 0
    · rw [if_pos z]
      have d := Nat.div_add_mod v p
      rw [z, Nat.add_zero] at d
      have hv : 1 ≤ v / p := Nat.pos_of_ne_zero fun q => by rw [q, Nat.mul_zero] at d; omega
      obtain ⟨a, b, c, g⟩ := strip_ok n p (v / p) (e + 1) h hv
      refine ⟨?_, b, Nat.le_trans c (Nat.div_le_self _ _), by omega⟩
      rw [a, Nat.pow_succ]
      conv => rhs; rw [← d]
      rw [Nat.mul_comm (p ^ e) p, ← Nat.mul_assoc, Nat.mul_comm (v / p) p]
    · rw [if_neg z]
      exact ⟨rfl, h1, Nat.le_refl _, Nat.le_refl _⟩
def Good (l : List (Nat × Nat)) : Prop := ∀ x ∈ l, 2 ≤ x.1 ∧ 1 ≤ x.2
theorem fin_ok {v : Nat} {acc : List (Nat × Nat)} (hv : 1 ≤ v) (g : Good acc) : Good (facFin v acc) ∧ prodF (facFin v acc) = prodF acc * v := by
  unfold facFin
  by_cases z : 1 < v
  · rw [if_pos z]
    refine ⟨fun x hx => ?_, ?_⟩
    · rcases List.mem_append.mp hx with h | h
      · exact g x h
      · obtain rfl := List.mem_singleton.mp h
        exact ⟨z, Nat.le_refl _⟩
    · rw [prodF_app]; simp [prodF]
  · rw [if_neg z]
    have : v = 1 := by omega
    subst this
    exact ⟨g, by simp⟩
theorem facGo_ok : ∀ (n p v : Nat) (acc : List (Nat × Nat)), 2 ≤ p → 1 ≤ v → Good acc → Good (facGo n p v acc) ∧ prodF (facGo n p v acc) = prodF acc * v
  | 0, p, v, acc, h, hv, g => fin_ok hv g
  | n + 1, p, v, acc, h, hv, g => by
    unfold facGo
    by_cases z : p * p ≤ v
    · rw [if_pos z]
      obtain ⟨a, b, c, d⟩ := strip_ok v p v 0 h hv
      generalize stripGo v p v 0 = s at a b c d
      have g2 : Good (if 0 < s.2 then acc ++ [(p, s.2)] else acc) := by
        by_cases y : 0 < s.2
        · rw [if_pos y]
          intro x hx
          rcases List.mem_append.mp hx with h' | h'
          · exact g x h'
          · obtain rfl := List.mem_singleton.mp h'
            exact ⟨h, y⟩
        · rw [if_neg y]; exact g
      obtain ⟨r1, r2⟩ := facGo_ok n (p + 1) s.1 _ (by omega) b g2
      refine ⟨r1, r2.trans ?_⟩
      by_cases y : 0 < s.2
      · rw [if_pos y, prodF_app]
        have : prodF [(p, s.2)] = p ^ s.2 := by simp [prodF]
        rw [this, Nat.mul_assoc, Nat.mul_comm (p ^ s.2), a]; simp
      · rw [if_neg y]
        have : s.2 = 0 := by omega
        rw [this] at a
        simp at a
        rw [a]
    · rw [if_neg z]
      exact fin_ok hv g
theorem facM_ok {v : Nat} (hv : 1 ≤ v) : Good (facM v) ∧ prodF (facM v) = v := by
  obtain ⟨a, b⟩ := facGo_ok v 2 v [] (by decide) hv (fun x hx => by cases hx)
  exact ⟨a, by unfold facM; rw [b]; simp [prodF]⟩
theorem prodF_pos {l : List (Nat × Nat)} (g : Good l) : 1 ≤ prodF l := by
  induction l with
  | nil => exact Nat.le_refl _
  | cons x l ih =>
    have h1 := ih fun y hy => g y (List.mem_cons_of_mem _ hy)
    have h2 : 0 < x.1 ^ x.2 := Nat.pow_pos (by have := (g x (List.mem_cons_self ..)).1; omega)
    exact Nat.mul_pos h2 h1
theorem prodF_take_le {l : List (Nat × Nat)} (g : Good l) (i : Nat) : prodF (l.take i) ≤ prodF l := by
  have e : prodF l = prodF (l.take i) * prodF (l.drop i) := by rw [← prodF_app, List.take_append_drop]
  rw [e]
  exact Nat.le_mul_of_pos_right _ (prodF_pos fun y hy => g y (List.mem_of_mem_drop hy))
theorem prodF_take_succ {l : List (Nat × Nat)} {i : Nat} {x : Nat × Nat} (h : l[i]? = some x) : prodF (l.take (i + 1)) = prodF (l.take i) * x.1 ^ x.2 := by
  rw [List.take_succ, h, prodF_app]; simp [prodF]
theorem prodF_mem_le {l : List (Nat × Nat)} (g : Good l) {x : Nat × Nat} (h : x ∈ l) : x.1 ^ x.2 ≤ prodF l := by
  induction l with
  | nil => cases h
  | cons y l ih =>
    have gl : Good l := fun z hz => g z (List.mem_cons_of_mem _ hz)
    have p1 := prodF_pos gl
    have p2 : 0 < y.1 ^ y.2 := Nat.pow_pos (by have := (g y (List.mem_cons_self ..)).1; omega)
    rcases List.mem_cons.mp h with rfl | h
    · exact Nat.le_mul_of_pos_right _ p1
    · exact Nat.le_trans (ih gl h) (Nat.le_mul_of_pos_left _ p2)
/-! orders -/
def unitsM (p e : Nat) : Nat := (p - 1) * p ^ (e - 1)
def ordLoop : Nat → Nat → Nat → Nat → Nat → Nat
  | 0, _, _, _, f => f
  | n + 1, b, m, q, f => if f % q = 0 ∧ pw b (f / q) m = 1 then ordLoop n b m q (f / q) else f
def ordM (b p e : Nat) : Nat := (facM (unitsM p e)).foldl (fun f x => ordLoop f b (p ^ e) x.1 f) (unitsM p e)
theorem units_pos {p e : Nat} (hp : 2 ≤ p) : 1 ≤ unitsM p e := Nat.mul_pos (by omega) (Nat.pow_pos (by omega))
theorem units_le {p e : Nat} (hp : 2 ≤ p) (he : 1 ≤ e) : unitsM p e ≤ p ^ e := by
  unfold unitsM
  have : e = (e - 1) + 1 := by omega
  conv => rhs; rw [this, Nat.pow_succ, Nat.mul_comm]
  exact Nat.mul_le_mul_right _ (by omega)
theorem units_div {p e : Nat} (hp : 2 ≤ p) (he : 1 ≤ e) : unitsM p e / (p - 1) * p = p ^ e := by
  unfold unitsM
  rw [Nat.mul_div_cancel_left _ (by omega : 0 < p - 1), ← Nat.pow_succ]
  congr 1; omega
theorem div_pos' {f q : Nat} (hf : 1 ≤ f) (h : f % q = 0) : 1 ≤ f / q := Nat.pos_of_ne_zero fun z => by
  have d := Nat.div_add_mod f q
  rw [h, z, Nat.mul_zero] at d
  omega
theorem ordLoop_ok : ∀ (n b m q f : Nat), 1 ≤ f → 1 ≤ ordLoop n b m q f ∧ ordLoop n b m q f ≤ f
  | 0, _, _, _, f, h => ⟨h, Nat.le_refl _⟩
  | n + 1, b, m, q, f, h => by
    unfold ordLoop
    by_cases z : f % q = 0 ∧ pw b (f / q) m = 1
    · rw [if_pos z]
      obtain ⟨a, c⟩ := ordLoop_ok n b m q (f / q) (div_pos' h z.1)
      exact ⟨a, Nat.le_trans c (Nat.div_le_self _ _)⟩
    · rw [if_neg z]
      exact ⟨h, Nat.le_refl _⟩
theorem ordFold_ok (b m : Nat) : ∀ (l : List (Nat × Nat)) (f : Nat), 1 ≤ f → 1 ≤ l.foldl (fun f x => ordLoop f b m x.1 f) f ∧ l.foldl (fun f x => ordLoop f b m x.1 f) f ≤ f
  | [], f, h => ⟨h, Nat.le_refl _⟩
  | x :: l, f, h => by
    obtain ⟨a, c⟩ := ordLoop_ok f b m x.1 f h
    obtain ⟨a2, c2⟩ := ordFold_ok b m l _ a
    exact ⟨a2, Nat.le_trans c2 c⟩
theorem ordM_ok {b p e : Nat} (hp : 2 ≤ p) : 1 ≤ ordM b p e ∧ ordM b p e ≤ unitsM p e := ordFold_ok b (p ^ e) _ _ (units_pos hp)
/-! rings -/
def lcmF (r : Nat) (l : List (Nat × Nat)) : Nat := l.foldl (fun f x => Nat.lcm f (ordM r x.1 x.2)) 1
theorem lcm_le {a b : Nat} (ha : 1 ≤ a) (hb : 1 ≤ b) : 1 ≤ Nat.lcm a b ∧ Nat.lcm a b ≤ a * b := by
  refine ⟨Nat.lcm_pos ha hb, ?_⟩
  exact Nat.le_of_dvd (Nat.mul_pos ha hb) (Nat.lcm_dvd (Nat.dvd_mul_right a b) (Nat.dvd_mul_left b a))
theorem lcmF_take {r : Nat} {l : List (Nat × Nat)} {i : Nat} {x : Nat × Nat} (h : l[i]? = some x) : lcmF r (l.take (i + 1)) = Nat.lcm (lcmF r (l.take i)) (ordM r x.1 x.2) := by
  unfold lcmF
  rw [List.take_succ, h, List.foldl_append]; rfl
theorem lcmF_ok {r : Nat} {l : List (Nat × Nat)} (g : Good l) : ∀ i, 1 ≤ lcmF r (l.take i) ∧ lcmF r (l.take i) ≤ prodF (l.take i)
  | 0 => ⟨Nat.le_refl _, Nat.le_refl _⟩
  | i + 1 => by
    obtain ⟨a, b⟩ := lcmF_ok g (r := r) i
    by_cases h : i < l.length
    · have e := List.getElem?_eq_getElem h
      have gx := g _ (List.getElem_mem h)
      rw [lcmF_take e, prodF_take_succ e]
      obtain ⟨o1, o2⟩ := ordM_ok (b := r) (e := l[i].2) gx.1
      obtain ⟨c, d⟩ := lcm_le a o1
      exact ⟨c, Nat.le_trans d (Nat.mul_le_mul b (Nat.le_trans o2 (units_le gx.1 gx.2)))⟩
    · rw [List.take_of_length_le (by omega)] at a b ⊢
      exact ⟨a, b⟩
def ringM (r last p : Nat) : Nat := if p = last then 1 else lcmF r (facM (last / Nat.gcd p last))
def turnM (r last p t : Nat) : Nat := if p = last then p else p * pw r t last % last
end E3
namespace E3
theorem two_pow_len : ∀ {l : List (Nat × Nat)}, Good l → 2 ^ l.length ≤ prodF l
  | [], _ => Nat.le_refl _
  | x :: l, g => by
    have h1 := two_pow_len (l := l) fun y hy => g y (List.mem_cons_of_mem _ hy)
    obtain ⟨a, b⟩ := g x (List.mem_cons_self ..)
    have h2 : 2 ≤ x.1 ^ x.2 := Nat.le_trans a (Nat.le_self_pow (by omega) _)
    show 2 ^ (l.length + 1) ≤ x.1 ^ x.2 * prodF l
    rw [Nat.pow_succ, Nat.mul_comm]
    exact Nat.mul_le_mul h2 h1
theorem len_lt {l : List (Nat × Nat)} (g : Good l) {V : Nat} (h : prodF l ≤ V) (hV : V < 2 ^ 40) : l.length < 40 := by
  have := two_pow_len g
  exact (Nat.pow_lt_pow_iff_right (by decide : 1 < 2)).mp (Nat.lt_of_le_of_lt (Nat.le_trans this h) hV)
theorem fac_step {p v : Nat} {acc : List (Nat × Nat)} (h : 2 ≤ p) (hv : 1 ≤ v) (g : Good acc) : Good (if 0 < (stripGo v p v 0).2 then acc ++ [(p, (stripGo v p v 0).2)] else acc) ∧
    prodF (if 0 < (stripGo v p v 0).2 then acc ++ [(p, (stripGo v p v 0).2)] else acc) * (stripGo v p v 0).1 = prodF acc * v ∧ 1 ≤ (stripGo v p v 0).1 ∧ (stripGo v p v 0).1 ≤ v := by
  obtain ⟨a, b, c, d⟩ := strip_ok v p v 0 h hv
  generalize stripGo v p v 0 = s at a b c d
  refine ⟨?_, ?_, b, c⟩
  · by_cases y : 0 < s.2
    · rw [if_pos y]
      intro x hx
      rcases List.mem_append.mp hx with h' | h'
      · exact g x h'
      · obtain rfl := List.mem_singleton.mp h'
        exact ⟨h, y⟩
    · rw [if_neg y]; exact g
  · by_cases y : 0 < s.2
    · rw [if_pos y, prodF_app]
      have : prodF [(p, s.2)] = p ^ s.2 := by simp [prodF]
      rw [this, Nat.mul_assoc, Nat.mul_comm (p ^ s.2), a]; simp
    · rw [if_neg y]
      have : s.2 = 0 := by omega
      rw [this] at a
      simp at a
      rw [a]
theorem exp_lt {l : List (Nat × Nat)} (g : Good l) {V : Nat} (h : prodF l ≤ V) (hV : V < 2 ^ 40) {x : Nat × Nat} (hx : x ∈ l) : x.1 < 2 ^ 40 ∧ x.2 < 40 ∧ x.1 ^ x.2 < 2 ^ 40 := by
  obtain ⟨a, b⟩ := g x hx
  have h1 : x.1 ^ x.2 < 2 ^ 40 := Nat.lt_of_le_of_lt (Nat.le_trans (prodF_mem_le g hx) h) hV
  refine ⟨Nat.lt_of_le_of_lt (Nat.le_self_pow (by omega) _) h1, ?_, h1⟩
  exact (Nat.pow_lt_pow_iff_right (by decide : 1 < 2)).mp (Nat.lt_of_le_of_lt (Nat.pow_le_pow_left a _) h1)
end E3

set_option Elab.async false
set_option linter.all false
set_option maxRecDepth 100000
set_option maxHeartbeats 1000000
/-! rings: is_whole, is_count, check_lengths, check_place, power, units, factors -/
namespace E3
open PySem PySem.Spec PyProof.Rows L2
open C8 (Cal Mak Met InsC pe_c pe_mt pe_mt0 call_isC clsBody)
abbrev sWhole : Stmt := top 5
abbrev sCount : Stmt := top 6
abbrev sTurned : Stmt := top 8
abbrev sRingLen : Stmt := top 9
abbrev sRings : Stmt := top 10
abbrev sChkL : Stmt := top 11
abbrev sChkP : Stmt := top 12
abbrev sPlaces : Stmt := top 13
abbrev sOrder : Stmt := top 14
abbrev sUnits : Stmt := top 15
abbrev sFactors : Stmt := top 16
abbrev sPower : Stmt := top 17
structure Bt5 (mg : Str → Option Value) : Prop where
  isi : mg "isinstance" = none
  int_ : mg "int" = none
  bool_ : mg "bool" = none
  sorted_ : mg "sorted" = none
abbrev cI (n : Nat) : V := .int ((n : Nat) : Int)
/-- rows, columns, a place -/
def Tb (r c : Nat) : Prop := 1 ≤ r ∧ 1 ≤ c ∧ r ≤ 65536 ∧ c ≤ 65536
def spWh1 : Sp := fun vs H Q _ => ∃ i : Int, vs = [.int i] ∧ Q (.bl true) H
def spCnt1 : Sp := fun vs H Q _ => ∃ i : Int, vs = [.int i] ∧ 0 ≤ i ∧ Q (.bl true) H
def spChkL : Sp := fun vs H Q _ => ∃ r c : Nat, vs = [cI r, cI c] ∧ Tb r c ∧ ∀ H', Same H H' → Q .non H'
def spChkP : Sp := fun vs H Q _ => ∃ r c p : Nat, vs = [cI r, cI c, cI p] ∧ Tb r c ∧ p < r * c ∧ ∀ H', Same H H' → Q .non H'
def spPower : Sp := fun vs H Q _ => ∃ b e m : Nat, vs = [cI b, cI e, cI m] ∧ b < 2 ^ 40 ∧ e < 2 ^ 200 ∧ 1 ≤ m ∧ m < 2 ^ 40 ∧ Q (cI (pw b e m)) H
def spUnits : Sp := fun vs H Q _ => ∃ p e : Nat, vs = [cI p, cI e] ∧ 2 ≤ p ∧ p < 2 ^ 40 ∧ 1 ≤ e ∧ e < 2 ^ 40 ∧ Q (cI (unitsM p e)) H
/-- a list of pairs of numbers -/
def PrsAt (H : Hp) (a : Addr) (l : List (Nat × Nat)) : Prop := ∃ ts : List Addr, H a = some (.lst (ts.map V.ref)) ∧ ts.length = l.length ∧ ∀ (i : Nat) (t : Addr) (x : Nat × Nat), ts[i]? = some t → l[i]? = some x → H t = some (.tup [cI x.1, cI x.2])
theorem PrsAt.same {H H' : Hp} {a : Addr} {l : List (Nat × Nat)} (h : PrsAt H a l) (S : Same H H') : PrsAt H' a l :=
  let ⟨ts, h1, h2, h3⟩ := h
  ⟨ts, S _ _ h1, h2, fun i t x e1 e2 => S _ _ (h3 i t x e1 e2)⟩
theorem PrsAt.nil {H : Hp} {a : Addr} (h : H a = some (.lst [])) : PrsAt H a [] := ⟨[], h, rfl, fun i t x e => by simp at e⟩
theorem PrsAt.snoc {H : Hp} {a t : Addr} {l : List (Nat × Nat)} {ts : List Addr} {x : Nat × Nat} (h1 : H a = some (.lst (ts.map V.ref))) (h2 : ts.length = l.length) (h3 : ∀ (i : Nat) (t : Addr) (x : Nat × Nat), ts[i]? = some t → l[i]? = some x → H t = some (.tup [cI x.1, cI x.2]))
    (ht : H t = some (.tup [cI x.1, cI x.2])) : PrsAt (upd H a (.lst (ts.map V.ref ++ [V.ref t]))) a (l ++ [x]) := by
  refine ⟨ts ++ [t], by rw [upd_same, List.map_append]; rfl, by rw [List.length_append, List.length_append, h2]; rfl, fun i u y e1 e2 => ?_⟩
  have ne : ∀ (b : Addr) (q : List V), H b = some (.tup q) → b ≠ a := fun b q e z => by rw [z, h1] at e; cases e
  rcases Nat.lt_trichotomy i ts.length with c | c | c
  · rw [List.getElem?_append_left c] at e1
    rw [List.getElem?_append_left (by omega)] at e2
    have := h3 i u y e1 e2
    rw [upd_ne (ne _ _ this)]
    exact this
  · subst c
    rw [List.getElem?_append_right (Nat.le_refl _)] at e1
    rw [List.getElem?_append_right (by omega), h2] at e2
    simp at e1 e2
    subst e1 e2
    rw [upd_ne (ne _ _ ht)]
    exact ht
  · rw [List.getElem?_eq_none (by simp; omega)] at e1
    cases e1
def spFactors : Sp := fun vs H Q _ => ∃ v : Nat, vs = [cI v] ∧ 1 ≤ v ∧ v < 2 ^ 40 ∧ ∀ H' a, Same H H' → PrsAt H' a (facM v) → Q (.ref a) H'
theorem l40 {n : Nat} (h : n < 2 ^ 40) : ((n : Nat) : Int).natAbs.log2 < 9000 := by
  have := PySem.Flt.log2_lt_of (k := 40) (n := ((n : Nat) : Int).natAbs) (by decide) (by rw [Int.natAbs_natCast]; exact h)
  omega
section
variable {P : Program} {w : World} {K : PySem.W.Frag} {mg : Str → Option Value} {base : Heap}
theorem kit_ii : PySem.W.kitOne K (.type "int") (.type "int") = some true := by kernel_rfl
theorem kit_ib : PySem.W.kitOne K (.type "int") (.type "bool") = some false := by kernel_rfl
theorem scWhole : FnScope ["value"] ["value"] (defScope sWhole) := ⟨rfl, rfl, rfl, by decide +kernel, rfl, by decide +kernel, by decide +kernel⟩
theorem ok_whole1 {f : Addr} {fd : FuncData} (F : Fun K "is_whole" "is_whole" sWhole f fd) (B : Bt5 mg) : FnOk P w K mg base CX0 1 f fd ["value"] spWh1 := by
  refine F.ok scWhole (fun vs H Q E h => ?_) (fun cdv A outer s H vs Q E hr h => ?_)
  · obtain ⟨v, rfl, _⟩ := h
    rfl
  · obtain ⟨i, rfl, q⟩ := h
    refine ⟨_, pss_one (ps_ret (pe_and (pe_callB call_isi (by rfl) B.isi (by decide +kernel) (pa_cons (pv 0) (pa_cons (pe_bltn (v := .ty "int") (by rfl) B.int_ (by decide +kernel) rfl) pa_nil)))
      (pe_one (pe_not (pe_callB call_isi (by rfl) B.isi (by decide +kernel) (pa_cons (pv 0) (pa_cons (pe_bltn (v := .ty "bool") (by rfl) B.bool_ (by decide +kernel) rfl) pa_nil))))))), ?_⟩
    refine ⟨_, rfl, _, _, _, _, true, rfl, .ty "int", .base (.int i), kit_ii, true, rfl, iteT (B := False) ?_⟩
    exact ⟨_, rfl, _, _, _, _, false, rfl, .ty "bool", .base (.int i), kit_ib, false, rfl, q⟩
theorem scCount : FnScope ["value"] ["value"] (defScope sCount) := ⟨rfl, rfl, rfl, by decide +kernel, rfl, by decide +kernel, by decide +kernel⟩
theorem ok_count1 {f : Addr} {fd : FuncData} (F : Fun K "is_count" "is_count" sCount f fd) (Wh : Cal P w K mg base 1 "is_whole" spWh1 []) : FnOk P w K mg base CX0 2 f fd ["value"] spCnt1 := by
  refine F.ok scCount (fun vs H Q E h => ?_) (fun cdv A outer s H vs Q E hr h => ?_)
  · obtain ⟨v, rfl, _⟩ := h
    rfl
  · obtain ⟨i, rfl, i0, q⟩ := h
    refine ⟨_, pss_one (ps_ret (pe_and (pe_c Wh hr (by decide) rfl (pa_cons (pv 0) pa_nil)) (pe_one (pe_cmpR op_ge (pv 0) pe_int (nomark _))))), ?_⟩
    refine ⟨_, rfl, _, rfl, true, rfl, iteT (B := False) ⟨_, rfl, _, _, rfl, rfl, ?_⟩⟩
    show Q (.bl (decide (0 ≤ i))) H
    rw [decide_eq_true i0]
    exact q
theorem scChkL : FnScope ["rows", "columns", "value"] ["rows", "columns"] (defScope sChkL) := ⟨rfl, rfl, rfl, by decide +kernel, rfl, by decide +kernel, by decide +kernel⟩
theorem ok_chkL {f : Addr} {fd : FuncData} (F : Fun K "check_lengths" "check_lengths" sChkL f fd) (Wh : Cal P w K mg base 1 "is_whole" spWh1 []) : FnOk P w K mg base CX0 2 f fd ["rows", "columns"] spChkL := by
  refine F.ok scChkL (fun vs H Q E h => ?_) (fun cdv A outer s H vs Q E hr h => ?_)
  · obtain ⟨r, c, rfl, _⟩ := h
    rfl
  · obtain ⟨r, c, rfl, ⟨r1, c1, r2, c2⟩, q⟩ := h
    refine ⟨_, pss_one (ps_for PassesOwn.never rfl (pi_list (pe_lstS (pa_cons (pv 0) (pa_cons (pv 1) pa_nil)))) (pg_name (i := 2) scChkL.nd rfl (Or.inl rfl))
      (pss_one (ps_if (PW.pt (pw_or (pt_not (pt_val (pe_c Wh hr (by decide) rfl (pa_cons (pv 2) pa_nil)))) (pw_or1 (pt_cmpR op_lt (pv 2) pe_int (nomark _))))) (pss_one ps_never) pss_nil))), ?_⟩
    refine ⟨_, rfl, _, rfl, (by show 2 ≤ sizeLine; decide), fun l H1 S1 n1 h1 => ?_⟩
    refine ⟨l, rfl, ⟨_, SqL.of h1⟩, for_it (walk_list (xs := [cI r, cI c])) (fun i σ' H' => (∃ u, σ' = [some (cI r), some (cI c), u]) ∧ Same H1 H') ⟨⟨none, rfl⟩, Same.refl _⟩ (fun i σ' H' _ p => SqL.of (p.2 _ _ h1)) ?_ ?_⟩
    · rintro i x σ' H2 H3 hi ⟨⟨u, rfl⟩, S2⟩ ⟨rfl, hx⟩
      have hv : ∃ n : Nat, x = cI n ∧ 1 ≤ n := by
        match i, hi, hx with
        | 0, _, hx => exact ⟨r, (Option.some.inj hx).symm, r1⟩
        | 1, _, hx => exact ⟨c, (Option.some.inj hx).symm, c1⟩
      obtain ⟨n, rfl, n1⟩ := hv
      refine ⟨_, rfl, _, rfl, true, rfl, iteF ⟨_, rfl, _, _, rfl, rfl, _, rfl, ?_⟩⟩
      rw [decide_eq_false (by omega)]
      exact iteF ⟨⟨_, rfl⟩, S2⟩
    · rintro σ' H2 ⟨_, S2⟩
      exact q H2 (S1.trans S2)
theorem scChkP : FnScope ["rows", "columns", "place"] ["rows", "columns", "place"] (defScope sChkP) := ⟨rfl, rfl, rfl, by decide +kernel, rfl, by decide +kernel, by decide +kernel⟩
theorem ok_chkP {f : Addr} {fd : FuncData} (F : Fun K "check_place" "check_place" sChkP f fd) (L : Cal P w K mg base 2 "check_lengths" spChkL []) (Cn : Cal P w K mg base 2 "is_count" spCnt1 []) : FnOk P w K mg base CX0 3 f fd ["rows", "columns", "place"] spChkP := by
  refine F.ok scChkP (fun vs H Q E h => ?_) (fun cdv A outer s H vs Q E hr h => ?_)
  · obtain ⟨r, c, p, rfl, _⟩ := h
    rfl
  · obtain ⟨r, c, p, rfl, hT, hp, q⟩ := h
    refine ⟨_, pss_cons (ps_expr (pe_c L hr (by decide) rfl (pa_cons (pv 0) (pa_cons (pv 1) pa_nil))))
      (pss_one (ps_if (PW.pt (pw_or (pt_not (pt_val (pe_c Cn hr (by decide) rfl (pa_cons (pv 2) pa_nil)))) (pw_or1 (pt_cmpR op_ge (pv 2) (pe_op op_mul (pv 0) (pv 1)) (nomark _))))) (pss_one ps_never) pss_nil)), ?_⟩
    obtain ⟨r1, c1, r2, c2⟩ := id hT
    refine ⟨_, rfl, _, rfl, r, c, rfl, hT, fun H1 S1 => ⟨_, rfl, _, rfl, by omega, true, rfl, iteF ⟨_, rfl, _, rfl, _, rfl, _, _, rfl, rfl, .inl ⟨by omega, by omega⟩, _, _, rfl, rfl, _, rfl, ?_⟩⟩⟩
    rw [decide_eq_false (by
      have h0 : ((p : Nat) : Int) < ((r * c : Nat) : Int) := Int.ofNat_lt.mpr hp
      rw [Int.natCast_mul] at h0
      omega)]
    exact iteF (q H1 S1)
theorem scPower : FnScope ["base", "exponent", "modulus", "found"] ["base", "exponent", "modulus"] (defScope sPower) := ⟨rfl, rfl, rfl, by decide +kernel, rfl, by decide +kernel, by decide +kernel⟩
theorem ok_power {f : Addr} {fd : FuncData} (F : Fun K "power" "power" sPower f fd) : FnOk P w K mg base CX0 1 f fd ["base", "exponent", "modulus"] spPower := by
  refine F.ok scPower (fun vs H Q E h => ?_) (fun cdv A outer s H vs Q E hr h => ?_)
  · obtain ⟨b, e, m, rfl, _⟩ := h
    rfl
  · obtain ⟨b, e, m, rfl, hb, he, m1, m2, q⟩ := h
    refine ⟨_, pss_cons (ps_set (i := 3) scPower.nd rfl (Or.inl rfl) pe_int)
      (pss_cons (ps_while PassesOwn.never (pt_cmpR op_gt (pv 1) pe_int (nomark _))
        (pss_cons (ps_if (pt_cmpR op_eq (pe_op op_mod (pv 1) pe_int) pe_int (nomark _)) (pss_one (ps_set (i := 3) scPower.nd rfl (Or.inl rfl) (pe_op op_mod (pe_op op_mul (pv 3) (pv 0)) (pv 2)))) pss_nil)
        (pss_cons (ps_set (i := 0) scPower.nd rfl (Or.inl rfl) (pe_op op_mod (pe_op op_mul (pv 0) (pv 0)) (pv 2)))
        (pss_one (ps_set (i := 1) scPower.nd rfl (Or.inl rfl) (pe_op op_fdiv (pv 1) pe_int))))))
      (pss_one (ps_ret (pv 3)))), ?_⟩
    refine while_by (fun σ' H' => ∃ c x g : Nat, σ' = [some (cI c), some (cI x), some (cI m), some (cI g)] ∧ H' = H ∧ c < 2 ^ 40 ∧ g < 2 ^ 40 ∧ (x = 0 → g = pw b e m) ∧ (0 < x → (g * c ^ x) % m = b ^ e % m ∧ 0 < e)) (fun σ' _ => match σ' with
      | [_, some (.int x), _, _] => x.toNat
      | _ => 0) ⟨b, e, 1, rfl, rfl, hb, by decide, fun z => ?_, fun z => ⟨?_, z⟩⟩ ?_ ?_
    · unfold pw; rw [if_pos z]
    · rw [Nat.one_mul]
    · rintro σ' H' ⟨c, x, g, rfl, rfl, c1, g1, h1, h2⟩
      refine ⟨_, rfl, _, _, rfl, rfl, _, rfl, iteD (fun hx => ?_) (fun hx => ?_)⟩
      · have x0 : 0 < x := by omega
        obtain ⟨k1, k2⟩ := pw_step x0 (h2 x0)
        have lt : ∀ y : Nat, y % m < 2 ^ 40 := fun y => Nat.lt_trans (Nat.mod_lt _ (by omega)) m2
        have m0 : (0 : Int) < ((m : Nat) : Int) := by omega
        have ex : ((x : Nat) : Int) % 2 = ((x % 2 : Nat) : Int) := by rw [Int.natCast_emod]; rfl
        refine ⟨_, rfl, _, _, rfl, rfl, (by show (0 : Int) < 2; decide), ?_⟩
        have fin : ∀ (g' : Nat) (v : V), v = cI g' → g' < 2 ^ 40 → g' = (if x % 2 = 1 then g * c % m else g) → ∃ c' x' g'' : Nat, [some (V.int (((c : Nat) : Int) * ((c : Nat) : Int) % ((m : Nat) : Int))), some (V.int (((x : Nat) : Int) / 2)), some (cI m), some v] = [some (cI c'), some (cI x'), some (cI m), some (cI g'')] ∧ H' = H' ∧ c' < 2 ^ 40 ∧ g'' < 2 ^ 40 ∧ (x' = 0 → g'' = pw b e m) ∧ (0 < x' → (g'' * c' ^ x') % m = b ^ e % m ∧ 0 < e) := by
          intro g' v hv l e1
          subst hv
          refine ⟨c * c % m, x / 2, g', ?_, rfl, lt _, l, ?_, ?_⟩
          · simp only [cI, Int.natCast_emod, Int.natCast_mul, Int.natCast_ediv]; rfl
          · rw [e1]; exact k1
          · rw [e1]; exact k2
        have me : (((x : Nat) : Int) / 2).toNat < ((x : Nat) : Int).toNat := by omega
        refine ⟨rfl, _, rfl, iteD (fun ho => ?_) (fun ho => ?_)⟩
        · refine ⟨_, rfl, _, rfl, _, _, rfl, rfl, .inl ⟨by omega, by omega⟩, _, rfl, _, _, rfl, rfl, m0, ?_⟩
          refine ⟨_, rfl, _, rfl, _, _, rfl, rfl, .inl ⟨by omega, by omega⟩, _, rfl, _, _, rfl, rfl, m0, ?_⟩
          refine ⟨_, rfl, _, _, rfl, rfl, (by constructor <;> decide), ?_⟩
          have e1 : V.int (((g : Nat) : Int) * ((c : Nat) : Int) % ((m : Nat) : Int)) = cI (g * c % m) := by unfold cI; rw [Int.natCast_emod, Int.natCast_mul]
          have o1 : x % 2 = 1 := by
            have z := V.int.inj ho
            rw [ex] at z
            omega
          exact ⟨fin _ _ e1 (lt _) (by rw [if_pos o1]), me⟩
        · dsimp only [tNext]
          refine ⟨_, rfl, _, rfl, _, _, rfl, rfl, .inl ⟨by omega, by omega⟩, _, rfl, _, _, rfl, rfl, m0, ?_⟩
          refine ⟨_, rfl, _, _, rfl, rfl, (by constructor <;> decide), ?_⟩
          have o1 : ¬ x % 2 = 1 := fun z => ho (by show V.int (((x : Nat) : Int) % 2) = V.int 1; rw [ex, z]; rfl)
          exact ⟨fin _ _ rfl g1 (by rw [if_neg o1]), me⟩
      · have x0 : x = 0 := by omega
        refine ⟨_, rfl, ?_⟩
        rw [h1 x0]
        exact q
    · rintro σ' H' Q1 Q2 hq h
      obtain ⟨v, hv, i, j, e1, e2, b, hb, r⟩ := h
      exact ⟨v, hv, i, j, e1, e2, b, hb, hq _ _ r⟩
end
end E3

set_option Elab.async false
set_option linter.all false
set_option maxRecDepth 100000
set_option maxHeartbeats 1000000
/-! rings: units, factors, order -/
namespace E3
open PySem PySem.Spec PyProof.Rows L2
open C8 (Cal Mak Met InsC pe_c pe_mt pe_mt0 call_isC clsBody)
def spOrder : Sp := fun vs H Q _ => ∃ b p e : Nat, vs = [cI b, cI p, cI e] ∧ b < 2 ^ 40 ∧ 2 ≤ p ∧ 1 ≤ e ∧ p ^ e < 2 ^ 40 ∧ ∀ H', Same H H' → Q (cI (ordM b p e)) H'
theorem cI_div (a b : Nat) : V.int (((a : Nat) : Int) / ((b : Nat) : Int)) = cI (a / b) := congrArg V.int (Int.natCast_ediv a b).symm
theorem cI_mod (a b : Nat) : V.int (((a : Nat) : Int) % ((b : Nat) : Int)) = cI (a % b) := congrArg V.int (Int.natCast_emod a b).symm
theorem cI_mul (a b : Nat) : V.int (((a : Nat) : Int) * ((b : Nat) : Int)) = cI (a * b) := congrArg V.int (Int.natCast_mul a b).symm
theorem cI_add (a b : Nat) : V.int (((a : Nat) : Int) + ((b : Nat) : Int)) = cI (a + b) := congrArg V.int (Int.natCast_add a b).symm
theorem cI_sub1 {a : Nat} (h : 1 ≤ a) : V.int (((a : Nat) : Int) - 1) = cI (a - 1) := congrArg V.int (by omega)
theorem cI_inj {a b : Nat} (h : cI a = cI b) : a = b := by have := V.int.inj h; omega
def WFac (V : Nat) (a : Addr) (H : Hp) : Nat → L2.St → Hp → Prop := fun m σ H' => ∃ n p v acc u, σ = [some (cI v), some (.ref a), some (cI p), u] ∧ Same H H' ∧ PrsAt H' a acc ∧ m = v + 2 - p ∧ v + 2 ≤ n + p ∧ facGo n p v acc = facM V ∧ 2 ≤ p ∧ p ≤ 2 ^ 40 ∧ 1 ≤ v ∧ v < 2 ^ 40 ∧ Good acc ∧ prodF acc * v = V
def WStr (p v : Nat) (a : Addr) (H : Hp) : Nat → L2.St → Hp → Prop := fun m σ H' => ∃ n v2 e, σ = [some (cI v2), some (.ref a), some (cI p), some (cI e)] ∧ H' = H ∧ v2 = m ∧ v2 ≤ n ∧ stripGo n p v2 e = stripGo v p v 0 ∧ 1 ≤ v2 ∧ v2 ≤ v
section
variable {P : Program} {w : World} {K : PySem.W.Frag} {mg : Str → Option Value} {base : Heap}
theorem scUnits : FnScope ["prime", "exponent", "found", "_"] ["prime", "exponent"] (defScope sUnits) := ⟨rfl, rfl, rfl, by decide +kernel, rfl, by decide +kernel, by decide +kernel⟩
theorem ok_units {f : Addr} {fd : FuncData} (F : Fun K "units" "units" sUnits f fd) (B : Bt4 mg) : FnOk P w K mg base CX0 1 f fd ["prime", "exponent"] spUnits := by
  refine F.ok scUnits (fun vs H Q E h => ?_) (fun cdv A outer s H vs Q E hr h => ?_)
  · obtain ⟨p, e, rfl, _⟩ := h
    rfl
  · obtain ⟨p, e, rfl, p2, pl, e1, el, q⟩ := h
    refine ⟨_, pss_cons (ps_set (i := 2) scUnits.nd rfl (Or.inl rfl) (pe_op op_sub (pv 0) pe_int))
      (pss_cons (ps_for PassesOwn.never rfl (pi_range1 rfl B.rng_ (pa_cons (pe_op op_sub (pv 1) pe_int) pa_nil)) (pg_name (i := 3) scUnits.nd rfl (Or.inl rfl))
        (pss_one (ps_set (i := 2) scUnits.nd rfl (Or.inl rfl) (pe_op op_mul (pv 2) (pv 0)))))
      (pss_one (ps_ret (pv 2)))), ?_⟩
    refine ⟨_, rfl, _, _, rfl, rfl, ?_⟩
    refine ⟨_, rfl, _, _, rfl, rfl, _, rfl, by omega, by omega, for_it (walk_range (n := (((e : Nat) : Int) - 1).toNat)) (fun i σ' H' => (∃ u, σ' = [some (cI p), some (cI e), some (cI ((p - 1) * p ^ i)), u]) ∧ H' = H) ⟨⟨none, ?_⟩, rfl⟩ (fun _ _ _ _ _ => trivial) ?_ ?_⟩
    · rw [Nat.pow_zero, Nat.mul_one, ← cI_sub1 (by omega)]; rfl
    · rintro i x σ' H2 H3 hi ⟨⟨u, rfl⟩, rfl⟩ ⟨rfl, rfl⟩
      refine ⟨_, rfl, _, rfl, _, _, rfl, rfl, .inr ⟨by omega, by omega⟩, ⟨some (V.int (0 + (i : Nat))), ?_⟩, rfl⟩
      have := cI_mul ((p - 1) * p ^ i) p
      rw [Nat.pow_succ, ← Nat.mul_assoc, ← this]
      rfl
    · rintro σ' H2 ⟨⟨u, rfl⟩, rfl⟩
      refine ⟨_, rfl, ?_⟩
      have ee : (((e : Nat) : Int) - 1).toNat = e - 1 := by omega
      rw [ee]
      exact q
theorem scFactors : FnScope ["value", "found", "prime", "exponent"] ["value"] (defScope sFactors) := ⟨rfl, rfl, rfl, by decide +kernel, rfl, by decide +kernel, by decide +kernel⟩
theorem ok_factors {f : Addr} {fd : FuncData} (F : Fun K "factors" "factors" sFactors f fd) : FnOk P w K mg base CX0 1 f fd ["value"] spFactors := by
  refine F.ok scFactors (fun vs H Q E h => ?_) (fun cdv A outer s H vs Q E hr h => ?_)
  · obtain ⟨v, rfl, _⟩ := h
    rfl
  · obtain ⟨M, rfl, v1, v2, q⟩ := h
    refine ⟨_, pss_cons (ps_set (i := 1) scFactors.nd rfl (Or.inl rfl) (pe_lstS pa_nil))
      (pss_cons (ps_set (i := 2) scFactors.nd rfl (Or.inl rfl) pe_int)
      (pss_cons (ps_while PassesOwn.never (pt_cmpR op_le (pe_op op_mul (pv 2) (pv 2)) (pv 0) (nomark _))
        (pss_cons (ps_set (i := 3) scFactors.nd rfl (Or.inl rfl) pe_int)
        (pss_cons (ps_while PassesOwn.never (pt_cmpR op_eq (pe_op op_mod (pv 0) (pv 2)) pe_int (nomark _))
          (pss_cons (ps_set (i := 0) scFactors.nd rfl (Or.inl rfl) (pe_op op_fdivW (pv 0) (pv 2)))
          (pss_one (ps_aug (i := 3) scFactors.nd rfl (.inl rfl) pe_int ip_add))))
        (pss_cons (ps_if (pt_cmpR op_gt (pv 3) pe_int (nomark _)) (pss_one (ps_expr (pe_bm PySem.F.plainAttrs_list PySem.F.slot_list_append PySem.F.type_list_append mt_append (pv 1) (pa_cons (pe_tupS (pa_cons (pv 2) (pa_cons (pv 3) pa_nil))) pa_nil)))) pss_nil)
        (pss_one (ps_aug (i := 2) scFactors.nd rfl (.inl rfl) pe_int ip_add))))))
      (pss_cons (ps_if (pt_cmpR op_gt (pv 0) pe_int (nomark _)) (pss_one (ps_expr (pe_bm PySem.F.plainAttrs_list PySem.F.slot_list_append PySem.F.type_list_append mt_append (pv 1) (pa_cons (pe_tupS (pa_cons (pv 0) (pa_cons pe_int pa_nil))) pa_nil)))) pss_nil)
      (pss_one (ps_ret (pv 1)))))), ?_⟩
    refine ⟨(by show 0 ≤ sizeLine; decide), fun a H1 S1 n1 h1 => ?_⟩
    refine ⟨WFac M a H, ⟨_, M, 2, M, [], none, rfl, S1, .nil h1, rfl, Nat.le_refl _, rfl, Nat.le_refl _, by decide, v1, v2, (fun x hx => by cases hx), by simp [prodF]⟩, ?_⟩
    rintro m σ' H' ⟨n, p, v, acc, u, rfl, S2, pr, rfl, hn, hf, p2, pl, hv1, hv2, gd, hp⟩
    have vV : v ≤ M := by rw [← hp]; exact Nat.le_mul_of_pos_left _ (prodF_pos gd)
    refine ⟨_, rfl, _, rfl, _, _, rfl, rfl, .inl ⟨by omega, by omega⟩, _, rfl, _, _, rfl, rfl, _, rfl, iteD (fun hpv => ?_) (fun hpv => ?_)⟩
    · have pv' : p * p ≤ v := by
        have h0 : ((p * p : Nat) : Int) ≤ ((v : Nat) : Int) := by rw [Int.natCast_mul]; exact hpv
        omega
      have plv : p ≤ v := Nat.le_trans (Nat.le_mul_of_pos_left _ (by omega)) pv'
      refine ⟨fun σ'' H'' => ∃ m', m' < v + 2 - p ∧ WFac M a H m' σ'' H'', fun _ _ z => z, ?_⟩
      refine ⟨WStr p v a H', ⟨_, v, v, 0, rfl, rfl, rfl, Nat.le_refl _, rfl, hv1, Nat.le_refl _⟩, ?_⟩
      rintro m2 σ2 H2 ⟨n2, w2, e, rfl, rfl, rfl, wn, hs, w1, wv⟩
      have p0 : (0 : Int) < ((p : Nat) : Int) := by omega
      refine ⟨_, rfl, _, rfl, _, _, rfl, rfl, p0, rfl, _, rfl, iteD (fun hz => ?_) (fun hz => ?_)⟩
      · have hz' : w2 % p = 0 := cI_inj ((cI_mod w2 p).symm.trans hz)
        refine ⟨fun σ'' H'' => ∃ m', m' < w2 ∧ WStr p v a H2 m' σ'' H'', fun _ _ z => z, ?_⟩
        have dlt : w2 / p < w2 := Nat.div_lt_self (by omega) (by omega)
        refine ⟨_, rfl, _, rfl, _, _, rfl, rfl, ⟨p0, l40 (by omega)⟩, ?_⟩
        match n2, wn, hs with
        | 0, wn, _ => exact absurd wn (by omega)
        | k + 1, wn, hs =>
        have hs2 : stripGo k p (w2 / p) (e + 1) = stripGo v p v 0 := by rw [← hs]; exact (if_pos hz').symm
        refine ⟨_, rfl, ?_⟩
        refine ⟨_, _, rfl, rfl, w2 / p, dlt, k, w2 / p, e + 1, ?_, rfl, rfl, by omega, hs2, div_pos' w1 hz', by omega⟩
        have a1 := cI_div w2 p
        have a2 := cI_add e 1
        rw [← a1, ← a2]
        rfl
      · have hz' : ¬ w2 % p = 0 := fun z => hz (by have := cI_mod w2 p; rw [z] at this; exact this)
        have hs1 : (w2, e) = stripGo v p v 0 := by
          rw [← hs]
          match n2, wn with
          | 0, wn => exact absurd wn (by omega)
          | k + 1, _ => exact (if_neg hz').symm
        obtain ⟨g2, hp2, s1, s2⟩ := fac_step p2 hv1 gd
        have hf2 : ∀ k, n = k + 1 → facGo k (p + 1) (stripGo v p v 0).1 (if 0 < (stripGo v p v 0).2 then acc ++ [(p, (stripGo v p v 0).2)] else acc) = facM M := by
          intro k e1
          rw [← hf, e1]
          exact (if_pos pv').symm
        rw [← hs1] at g2 hp2 s1 s2 hf2
        obtain ⟨k, rfl⟩ : ∃ k, n = k + 1 := ⟨n - 1, by omega⟩
        have hf3 := hf2 k rfl
        have fin : ∀ (H3 : Hp) (acc' : List (Nat × Nat)), Same H H3 → PrsAt H3 a acc' → acc' = (if 0 < e then acc ++ [(p, e)] else acc) → ∃ x, ([some (cI w2), some (V.ref a), some (cI p), some (cI e)] : L2.St)[2]? = some (some x) ∧ ∃ i j, x = V.int i ∧ V.int 1 = V.int j ∧ ∃ m', m' < v + 2 - p ∧ WFac M a H m' [some (cI w2), some (V.ref a), some (V.int (i + j)), some (cI e)] H3 := by
          intro H3 acc' S3 pr3 ea
          rw [← ea] at g2 hp2 hf3
          refine ⟨_, rfl, _, _, rfl, rfl, _, ?_, k, p + 1, w2, acc', some (cI e), ?_, S3, pr3, rfl, by omega, hf3, by omega, ?_, s1, by omega, g2, hp2.trans hp⟩
          · omega
          · have a2 := cI_add p 1
            rw [← a2]
            rfl
          · have : p * p < 2 ^ 40 := by omega
            have : p < 2 ^ 40 := Nat.lt_of_le_of_lt (Nat.le_mul_of_pos_left _ (by omega)) this
            omega
        refine ⟨_, rfl, _, _, rfl, rfl, _, rfl, iteD (fun he => ?_) (fun he => ?_)⟩
        · have e0 : 0 < e := by omega
          obtain ⟨ts, t1, t2, t3⟩ := pr
          refine ⟨_, rfl, .inl ⟨rfl, _, SqL.of t1⟩, _, rfl, _, rfl, (by show 2 ≤ sizeLine; decide), fun t H3 S3 n3 h3 => ?_⟩
          have t1' := S3 _ _ t1
          have al : acc.length < 40 := len_lt gd (show prodF acc ≤ M by rw [← hp]; exact Nat.le_mul_of_pos_right _ hv1) v2
          refine ⟨a, _, _, rfl, rfl, t1', by rw [List.length_map, t2, sizeLine_eq]; omega, ?_⟩
          refine fin _ (acc ++ [(p, e)]) ?_ (.snoc t1' t2 (fun i u y e1 e2 => S3 _ _ (t3 i u y e1 e2)) h3) (by rw [if_pos e0])
          intro b o hb
          rw [upd_ne (ne_of_none hb n1)]
          exact S3 _ _ (S2 _ _ hb)
        · dsimp only [tNext]
          exact fin _ acc S2 pr (by rw [if_neg (by omega)])
    · have pv' : ¬ p * p ≤ v := fun z => hpv (by
        have h0 : ((p * p : Nat) : Int) ≤ ((v : Nat) : Int) := Int.ofNat_le.mpr z
        rw [Int.natCast_mul] at h0
        exact h0)
      have hf2 : facFin v acc = facM M := by
        rw [← hf]
        match n with
        | 0 => rfl
        | k + 1 => exact (if_neg pv').symm
      refine ⟨_, rfl, _, _, rfl, rfl, _, rfl, iteD (fun hv => ?_) (fun hv => ?_)⟩
      · obtain ⟨ts, t1, t2, t3⟩ := pr
        refine ⟨_, rfl, .inl ⟨rfl, _, SqL.of t1⟩, _, rfl, (by show 2 ≤ sizeLine; decide), fun t H3 S3 n3 h3 => ?_⟩
        have t1' := S3 _ _ t1
        have al : acc.length < 40 := len_lt gd (show prodF acc ≤ M by rw [← hp]; exact Nat.le_mul_of_pos_right _ hv1) v2
        refine ⟨a, _, _, rfl, rfl, t1', by rw [List.length_map, t2, sizeLine_eq]; omega, ?_⟩
        refine ⟨_, rfl, q _ a ?_ ?_⟩
        · intro b o hb
          rw [upd_ne (ne_of_none hb n1)]
          exact S3 _ _ (S2 _ _ hb)
        · rw [← hf2]
          unfold facFin
          rw [if_pos (by omega)]
          exact .snoc t1' t2 (fun i u y e1 e2 => S3 _ _ (t3 i u y e1 e2)) h3
      · dsimp only [tNext]
        refine ⟨_, rfl, q _ a S2 ?_⟩
        rw [← hf2]
        unfold facFin
        rw [if_neg (by omega)]
        exact pr
end
end E3

set_option Elab.async false
set_option linter.all false
set_option maxRecDepth 100000
set_option maxHeartbeats 1000000
/-! rings: order, ring_length, turned -/
namespace L2
open PySem PySem.Spec PyProof.Rows
def rLcm : List V → Hp → VK → Prop := fun vs H Q => ∃ a b : Nat, vs = [.int (a : Nat), .int (b : Nat)] ∧ a < 2 ^ 64 ∧ b < 2 ^ 64 ∧ Nat.lcm a b < 2 ^ 64 ∧ Q (.int ((Nat.lcm a b : Nat) : Int)) H
theorem cr_lcm {X : Cx} : CallR X (.builtin "math.lcm") rLcm := by
  intro pins s σ H vs us Q I r h
  obtain ⟨a, b, rfl, ha, hb, hl, q⟩ := h
  obtain ⟨t, u, rfl⟩ := Vals.int2 r
  refine PySem.W.mg_lcm_v (c := ((Nat.lcm a b : Nat) : Int)) (by omega) (by omega) ?_ ?_ ⟨.int _, H, I.tok _, ⟨_, rfl⟩, q⟩
  · rw [Int.natAbs_natCast, Int.natAbs_natCast, Nat.lcm_one_left]
  · rw [Int.natAbs_natCast]
    have := PySem.Flt.log2_lt_of (k := 64) (by decide) hl
    have e : bitsLine = bitsLine := rfl
    have : 64 < bitsLine := by decide +kernel
    omega
end L2
namespace E3
open PySem PySem.Spec PyProof.Rows L2
open C8 (Cal Mak Met InsC pe_c pe_mt pe_mt0 call_isC clsBody)
def WOrd (b p e q f0 U : Nat) (u : Option V) (H : Hp) : Nat → L2.St → Hp → Prop := fun m σ H' => ∃ n f, σ = [some (cI b), some (cI p), some (cI e), some (cI f), some (cI (p ^ e)), some (cI q), u] ∧ H' = H ∧ f = m ∧ f ≤ n ∧ ordLoop n b (p ^ e) q f = ordLoop f0 b (p ^ e) q f0 ∧ 1 ≤ f ∧ f ≤ U
/-- what is passed to turned, ring_length, rings -/
def spTurnM : Sp := fun vs H Q _ => ∃ r c p t : Nat, vs = [cI r, cI c, cI p, cI t] ∧ Tb r c ∧ p < r * c ∧ t < 2 ^ 200 ∧ ∀ H', Same H H' → Q (cI (turnM r (r * c - 1) p t)) H'
def spRingM : Sp := fun vs H Q _ => ∃ r c p : Nat, vs = [cI r, cI c, cI p] ∧ Tb r c ∧ p < r * c ∧ ∀ H', Same H H' → Q (cI (ringM r (r * c - 1) p)) H'
theorem tb_lt {r c : Nat} (h : Tb r c) : 1 ≤ r * c ∧ r * c ≤ 2 ^ 32 := by
  obtain ⟨r1, c1, r2, c2⟩ := h
  exact ⟨Nat.mul_pos r1 c1, Nat.le_trans (Nat.mul_le_mul r2 c2) (by decide)⟩
theorem cI_last {r c : Nat} (h : Tb r c) : V.int (((r : Nat) : Int) * ((c : Nat) : Int) - 1) = cI (r * c - 1) := by
  have := (tb_lt h).1
  rw [← cI_sub1 this, Int.natCast_mul]
section
variable {P : Program} {w : World} {K : PySem.W.Frag} {mg : Str → Option Value} {base : Heap}
theorem scOrder : FnScope ["base", "prime", "exponent", "found", "modulus", "part", "_"] ["base", "prime", "exponent"] (defScope sOrder) := ⟨rfl, rfl, rfl, by decide +kernel, rfl, by decide +kernel, by decide +kernel⟩
theorem ok_order {f : Addr} {fd : FuncData} (F : Fun K "order" "order" sOrder f fd) (U : Cal P w K mg base 1 "units" spUnits []) (Fa : Cal P w K mg base 1 "factors" spFactors []) (Pw : Cal P w K mg base 1 "power" spPower []) : FnOk P w K mg base CX0 2 f fd ["base", "prime", "exponent"] spOrder := by
  refine F.ok scOrder (fun vs H Q E h => ?_) (fun cdv A outer s H vs Q E hr h => ?_)
  · obtain ⟨b, p, e, rfl, _⟩ := h
    rfl
  · obtain ⟨b, p, e, rfl, hb, p2, e1, hpe, q⟩ := h
    refine ⟨_, pss_cons (ps_set (i := 3) scOrder.nd rfl (Or.inl rfl) (pe_c U hr (by decide) rfl (pa_cons (pv 1) (pa_cons (pv 2) pa_nil))))
      (pss_cons (ps_set (i := 4) scOrder.nd rfl (Or.inl rfl) (pe_op op_mul (pe_op op_fdivW (pv 3) (pe_op op_sub (pv 1) pe_int)) (pv 1)))
      (pss_cons (ps_for PassesOwn.never rfl (pi_list (pe_c Fa hr (by decide) rfl (pa_cons (pv 3) pa_nil))) (pg_tup rfl (pgs_cons (pg_name (i := 5) scOrder.nd rfl (Or.inl rfl)) (pgs_cons (pg_name (i := 6) scOrder.nd rfl (Or.inl rfl)) pgs_nil)))
        (pss_one (ps_while PassesOwn.never (PW.pt (pw_and (pt_cmpR op_eq (pe_op op_mod (pv 3) (pv 5)) pe_int (nomark _)) (pw_and1 (pt_cmpR op_eq (pe_c Pw hr (by decide) rfl (pa_cons (pv 0) (pa_cons (pe_op op_fdivW (pv 3) (pv 5)) (pa_cons (pv 4) pa_nil)))) pe_int (nomark _)))))
          (pss_one (ps_set (i := 3) scOrder.nd rfl (Or.inl rfl) (pe_op op_fdivW (pv 3) (pv 5)))))))
      (pss_one (ps_ret (pv 3))))), ?_⟩
    have pl : p < 2 ^ 40 := Nat.lt_of_le_of_lt (Nat.le_self_pow (by omega) _) hpe
    have el : e < 2 ^ 40 := by
      have : 2 ^ e < 2 ^ 40 := Nat.lt_of_le_of_lt (Nat.pow_le_pow_left p2 _) hpe
      have := (Nat.pow_lt_pow_iff_right (by decide : 1 < 2)).mp this
      omega
    have U1 := units_pos (e := e) p2
    have U2 := units_le p2 e1
    have Ul : unitsM p e < 2 ^ 40 := by omega
    refine ⟨_, rfl, _, rfl, p, e, rfl, p2, pl, e1, el, ?_⟩
    refine ⟨_, rfl, _, rfl, _, _, rfl, rfl, _, _, rfl, rfl, ⟨by omega, ?_⟩, _, rfl, _, _, rfl, rfl, .inr ⟨by omega, by omega⟩, ?_⟩
    · have := l40 (n := p - 1) (by omega)
      have e0 : ((p - 1 : Nat) : Int) = ((p : Nat) : Int) - 1 := by omega
      rw [← e0]
      exact this
    have hm : V.int (((unitsM p e : Nat) : Int) / (((p : Nat) : Int) - 1) * ((p : Nat) : Int)) = cI (p ^ e) := by
      have e0 : ((p - 1 : Nat) : Int) = ((p : Nat) : Int) - 1 := by omega
      rw [← e0, ← Int.natCast_ediv, ← Int.natCast_mul, units_div p2 e1]
    refine ⟨_, rfl, _, rfl, U1, Ul, fun H1 a S1 pr => ?_⟩
    obtain ⟨g, hp⟩ := facM_ok U1
    obtain ⟨ts, t1, t2, t3⟩ := pr
    refine ⟨a, rfl, ⟨_, SqL.of t1⟩, for_it (walk_list (xs := ts.map V.ref)) (fun i σ' H' => (∃ u1 u2, σ' = [some (cI b), some (cI p), some (cI e), some (cI (((facM (unitsM p e)).take i).foldl (fun f x => ordLoop f b (p ^ e) x.1 f) (unitsM p e))), some (cI (p ^ e)), u1, u2]) ∧ Same H1 H') ⟨⟨none, none, ?_⟩, Same.refl _⟩ (fun i σ' H' _ z => SqL.of (z.2 _ _ t1)) ?_ ?_⟩
    · rw [List.take_zero, ← hm]; rfl
    · rintro i x σ' H9 H2 hi ⟨⟨u1, u2, rfl⟩, S2⟩ ⟨rfl, hx⟩
      rw [List.length_map] at hi
      have hi2 : i < (facM (unitsM p e)).length := by omega
      rw [List.getElem?_map, List.getElem?_eq_getElem hi] at hx
      obtain rfl := Option.some.inj hx
      have ey := List.getElem?_eq_getElem hi2
      have ht := S2 _ _ (t3 i _ _ (List.getElem?_eq_getElem hi) ey)
      have gy := g _ (List.getElem_mem hi2)
      obtain ⟨yl, ye, _⟩ := exp_lt g (Nat.le_of_eq hp) Ul (List.getElem_mem hi2)
      have foldS : ((facM (unitsM p e)).take (i + 1)).foldl (fun f x => ordLoop f b (p ^ e) x.1 f) (unitsM p e) = ordLoop (((facM (unitsM p e)).take i).foldl (fun f x => ordLoop f b (p ^ e) x.1 f) (unitsM p e)) b (p ^ e) ((facM (unitsM p e))[i]).1 (((facM (unitsM p e)).take i).foldl (fun f x => ordLoop f b (p ^ e) x.1 f) (unitsM p e)) := by
        rw [List.take_succ, ey, List.foldl_append]; rfl
      obtain ⟨f1, f2⟩ := ordFold_ok b (p ^ e) ((facM (unitsM p e)).take i) (unitsM p e) U1
      rw [foldS]
      generalize ((facM (unitsM p e)).take i).foldl (fun f x => ordLoop f b (p ^ e) x.1 f) (unitsM p e) = f0 at f1 f2
      generalize (facM (unitsM p e))[i] = y at ht gy yl ye
      refine ⟨_, _, rfl, SqT.of ht, rfl, _, _, rfl, _, _, rfl, rfl, ?_⟩
      refine ⟨WOrd b p e y.1 f0 (unitsM p e) (some (cI y.2)) H2, ⟨_, f0, f0, rfl, rfl, rfl, Nat.le_refl _, rfl, f1, f2⟩, ?_⟩
      rintro m σ3 H3 ⟨n, f, rfl, rfl, rfl, fn, hs, fp, fu⟩
      have y0 : (0 : Int) < ((y.1 : Nat) : Int) := by omega
      have stop : ¬ (f % y.1 = 0 ∧ pw b (f / y.1) (p ^ e) = 1) → f = ordLoop f0 b (p ^ e) y.1 f0 := by
        intro hz
        rw [← hs]
        match n, fn with
        | 0, fn => exact absurd fn (by omega)
        | k + 1, _ => exact (if_neg hz).symm
      refine ⟨_, rfl, _, rfl, _, _, rfl, rfl, y0, rfl, _, rfl, iteD (fun hz => ?_) (fun hz => ?_)⟩
      · have hz' : f % y.1 = 0 := cI_inj ((cI_mod f y.1).symm.trans hz)
        have dlt : f / y.1 < f := Nat.div_lt_self (by omega) (by omega)
        have m1 : 1 ≤ p ^ e := Nat.pow_pos (by omega)
        have dv : CDivW ((f : Nat) : Int) ((y.1 : Nat) : Int) := ⟨y0, l40 yl⟩
        refine ⟨_, rfl, _, rfl, _, rfl, _, _, rfl, rfl, dv, _, rfl, b, f / y.1, p ^ e, ?_, hb, by omega, m1, hpe, rfl, _, rfl, iteD (fun hq => ?_) (fun hq => ?_)⟩
        · have := cI_div f y.1
          rw [← this]
          rfl
        · have hq' : pw b (f / y.1) (p ^ e) = 1 := cI_inj hq
          refine ⟨fun σ'' H'' => ∃ m', m' < f ∧ WOrd b p e y.1 f0 (unitsM p e) (some (cI y.2)) H3 m' σ'' H'', fun _ _ z => z, ?_⟩
          match n, fn, hs with
          | 0, fn, _ => exact absurd fn (by omega)
          | k + 1, fn, hs =>
          have hs2 : ordLoop k b (p ^ e) y.1 (f / y.1) = ordLoop f0 b (p ^ e) y.1 f0 := by rw [← hs]; exact (if_pos ⟨hz', hq'⟩).symm
          refine ⟨_, rfl, _, rfl, _, _, rfl, rfl, dv, f / y.1, dlt, k, f / y.1, ?_, rfl, rfl, by omega, hs2, div_pos' fp hz', by omega⟩
          have := cI_div f y.1
          rw [← this]
          rfl
        · dsimp only
          refine ⟨⟨some (cI y.1), some (cI y.2), ?_⟩, S2⟩
          rw [← stop (fun z => hq (by rw [z.2]; rfl))]
      · dsimp only
        refine ⟨⟨some (cI y.1), some (cI y.2), ?_⟩, S2⟩
        rw [← stop (fun z => hz (by have := cI_mod f y.1; rw [z.1] at this; exact this))]
    · rintro σ' H2 ⟨⟨u1, u2, rfl⟩, S2⟩
      refine ⟨_, rfl, ?_⟩
      rw [List.length_map, t2, List.take_length]
      exact q H2 (S1.trans S2)
end
end E3

set_option Elab.async false
set_option linter.all false
set_option maxRecDepth 100000
set_option maxHeartbeats 1000000
/-! A head by facts: one Bool of the law's own, and the defs. -/
namespace Hb
open PySem PySem.Spec PyProof.Rows L2 He
abbrev AlB : Type := Bool × List FnV
def obsB (ex : PySem.W.Frag → Bool) (fn : List FnD) (K : PySem.W.Frag) : AlB := (ex K && fn.all fun d => (Fa.code d.at_ d.qual).ok K && PySem.W.keepIn K (.ref (fAd K d.at_)), fn.map fun d => fnObs K d.at_)
def valB (fn : List FnD) : AlB := (true, fn.map FnD.val)
def SaysB (ex : PySem.W.Frag → Bool) (fn : List FnD) (K : PySem.W.Frag) : Prop := obsB ex fn K = valB fn
/-- a def of the text, by its statement -/
def dS (at_ : Str × Option Str) (name qual : Str) (st : Stmt) : FnD := ⟨at_, name, qual, defArgs st, defBody st, defScope st⟩
section
variable {ex : PySem.W.Frag → Bool} {fn : List FnD} {K : PySem.W.Frag}
theorem SaysB.bool (c : SaysB ex fn K) : ex K = true := (ba (show (ex K && fn.all fun d => (Fa.code d.at_ d.qual).ok K && PySem.W.keepIn K (.ref (fAd K d.at_))) = true from congrArg (fun z : AlB => z.1) c)).1
theorem SaysB.fun_ (c : SaysB ex fn K) (i : Nat) {at_ : Str × Option Str} {name qual : Str} {st : Stmt} (h : fn[i]? = some (dS at_ name qual st) := by rfl) : ∃ fd, L2.Fun K name qual st (fAd K at_) fd := by
  have c2 := (ba (show (ex K && fn.all fun d => (Fa.code d.at_ d.qual).ok K && PySem.W.keepIn K (.ref (fAd K d.at_))) = true from congrArg (fun z : AlB => z.1) c)).2
  have c3 := ba (List.all_eq_true.mp c2 _ (List.mem_of_getElem? h))
  have e : fn.map (fun d => fnObs K d.at_) = fn.map FnD.val := congrArg (fun z : AlB => z.2) c
  have e2 : (fn.map fun d => fnObs K d.at_)[i]? = (fn.map FnD.val)[i]? := by rw [e]
  rw [List.getElem?_map, List.getElem?_map, h] at e2
  obtain ⟨oc, od, osl, kV, doc, pm, an, cdv, ct, l, k⟩ := fn_ok (Option.some.inj e2) c3.1
  exact ⟨_, ⟨oc, od, kV, doc, pm, an, cdv, ct, osl, rfl, l, k⟩, c3.2⟩
end
theorem bindsA {K : PySem.W.Frag} {x qual : Str} {st : Stmt} {f : Addr} {fd : FuncData} {ps : List Str} (F : L2.Fun K x qual st f fd)
    (h : ∀ (kV doc pm : Value) (an : Option Addr) (cdv ct : Value) (us : List Value), us.length = ps.length → bindArgs (PySem.W.fnOf x qual (defArgs st) (defBody st) (defScope st) .none kV doc pm an cdv ct) ⟨us, []⟩ = pure (ps.zip us)) (s : Shared) (us : List Value) (hl : us.length = ps.length) : BindsTo s fd ⟨us, []⟩ (ps.zip us) := by
  obtain ⟨oc, od, kV, doc, pm, an, cdv, ct, osl, rfl, lk, hcd⟩ := F.ex
  exact .of_eq (h kV doc pm an cdv ct us hl)
/-! own operators, isinstance, as Bools -/
section
variable {K : PySem.W.Frag} {C : Addr}
/-- a global that is a built-in function -/
def bltB (K : PySem.W.Frag) (x : Str) (n : String) : Bool := eqO (PySem.W.nsIn K mainGlobals x) (some (some (.builtin n)))
theorem bltB_ok {h : Heap} {mg : Str → Option Value} (X : K.In h) (G : h.Ns mainGlobals mg) {x : Str} {n : String} (c : bltB K x n = true) : mg x = some (.builtin n) := PySem.W.mg_of X G (eqO_ok c)
/-- the facts of a list hold -/
theorem fa_ok {fa : List Fa} (h : (fa.all fun f => f.ok K) = true) (i : Nat) {f : Fa} (hi : fa[i]? = some f := by rfl) : f.ok K = true := List.all_eq_true.mp h f (List.mem_of_getElem? hi)
theorem bool_ok {l : List Bool} (h : (l.all id) = true) (i : Nat) {b : Bool} (hi : l[i]? = some b := by rfl) : b = true := List.all_eq_true.mp h b (List.mem_of_getElem? hi)
end
end Hb

set_option Elab.async false
set_option linter.all false
set_option maxRecDepth 100000
set_option maxHeartbeats 1000000
/-! f(k=v, ..): a def called with keywords alone -/
namespace L2
open PySem PySem.Spec PyProof.Rows
section
variable {X : Cx} {k j : Nat} {x : Str} {sp : Sp} {ks : List Str} {gV : List V → List V → List V} {p pos : Pos} {kws : List Keyword} {tk : TA}
end
end L2

set_option Elab.async false
set_option linter.all false
set_option maxRecDepth 100000
set_option maxHeartbeats 1000000
/-! rings: ring_length, turned -/
namespace L2
open PySem PySem.Spec PyProof.Rows
section
variable {P : Program} {w : World} {K : PySem.W.Frag} {mg : Str → Option Value} {base : Heap} {x qual : Str} {st : Stmt} {dvs : List V} {f : Addr} {fd : FuncData}
/-- a def with defaults whose body lets nothing out -/
theorem FunD.ok0 {N ps : List Str} {k : Nat} {sp : Sp} (F : FunD K x qual (defArgs st) (defBody st) (defScope st) dvs [] f fd) (S : FnScope N ps (defScope st)) (len : ∀ vs H Q E, sp vs H Q E → vs.length = ps.length)
    (hbody : ∀ (cdv : Value) (A : Around) (outer : List Env) (s : Shared) (H : Hp) (vs : List V) (Q : VK) (E : XK), Room k (A.deeper (envOfC qual (defScope st) s.heap.objs.size f cdv)) → sp vs H Q E →
      ∃ t, PSs (cxOf CX0 P w K mg base N qual (defScope st) f cdv A outer s H E).nox (defBody st) t ∧ t { nx := fun _ H' => Q .non H', rt := Q } (start N vs) H) : FnOk P w K mg base CX0 (k + 1) f fd ps sp :=
  F.ok S len fun cdv A outer s H vs Q E hr h => let ⟨t, h1, h2⟩ := hbody cdv A outer s H vs Q E hr h; ⟨t, h1.nox, h2⟩
theorem FunD.plain (F : FunD K x qual (defArgs st) (defBody st) (defScope st) [] [] f fd) : Fun K x qual st f fd := by
  obtain ⟨oc, od, dV, kV, doc, pm, an, cdv, ct, osl, rfl, lk, hcd, hD, hK⟩ := F.ex
  rcases hD with ⟨_, rfl⟩ | ⟨e, _⟩
  · exact ⟨⟨oc, od, kV, doc, pm, an, cdv, ct, osl, rfl, lk, hcd⟩, F.kp⟩
  · exact absurd rfl e
end
end L2
namespace E3
open PySem PySem.Spec PyProof.Rows L2
open C8 (Cal Mak Met InsC pe_c pe_mt pe_mt0 call_isC clsBody)
section
variable {P : Program} {w : World} {K : PySem.W.Frag} {mg : Str → Option Value} {base : Heap}
theorem scRingLen : FnScope ["rows", "columns", "place", "last", "found", "prime", "many"] ["rows", "columns", "place"] (defScope sRingLen) := ⟨rfl, rfl, rfl, by decide +kernel, rfl, by decide +kernel, by decide +kernel⟩
theorem ok_ringLen {f : Addr} {fd : FuncData} (F : Fun K "ring_length" "ring_length" sRingLen f fd) (hg : mg "gcd" = some (.builtin "math.gcd")) (hl : mg "lcm" = some (.builtin "math.lcm")) (Cp : Cal P w K mg base 3 "check_place" spChkP []) (Fa : Cal P w K mg base 1 "factors" spFactors []) (Or_ : Cal P w K mg base 2 "order" spOrder []) : FnOk P w K mg base CX0 4 f fd ["rows", "columns", "place"] spRingM := by
  refine F.ok scRingLen (fun vs H Q E h => ?_) (fun cdv A outer s H vs Q E hr h => ?_)
  · obtain ⟨r, c, p, rfl, _⟩ := h
    rfl
  · obtain ⟨r, c, p, rfl, hT, hp, q⟩ := h
    refine ⟨_, pss_cons (ps_expr (pe_c Cp hr (by decide) rfl (pa_cons (pv 0) (pa_cons (pv 1) (pa_cons (pv 2) pa_nil)))))
      (pss_cons (ps_set (i := 3) scRingLen.nd rfl (Or.inl rfl) (pe_op op_sub (pe_op op_mul (pv 0) (pv 1)) pe_int))
      (pss_cons (ps_if (pt_cmpR op_eq (pv 2) (pv 3) (nomark _)) (pss_one (ps_ret pe_int)) pss_nil)
      (pss_cons (ps_set (i := 4) scRingLen.nd rfl (Or.inl rfl) pe_int)
      (pss_cons (ps_for PassesOwn.never rfl (pi_list (pe_c Fa hr (by decide) rfl (pa_cons (pe_op op_fdivW (pv 3) (pe_callBfun cr_gcd (by rfl) hg (pa_cons (pv 2) (pa_cons (pv 3) pa_nil)))) pa_nil))) (pg_tup rfl (pgs_cons (pg_name (i := 5) scRingLen.nd rfl (Or.inl rfl)) (pgs_cons (pg_name (i := 6) scRingLen.nd rfl (Or.inl rfl)) pgs_nil)))
        (pss_one (ps_set (i := 4) scRingLen.nd rfl (Or.inl rfl) (pe_callBfun cr_lcm (by rfl) hl (pa_cons (pv 4) (pa_cons (pe_c Or_ hr (by decide) rfl (pa_cons (pv 0) (pa_cons (pv 5) (pa_cons (pv 6) pa_nil)))) pa_nil))))))
      (pss_one (ps_ret (pv 4))))))), ?_⟩
    obtain ⟨r1, c1, r2, c2⟩ := id hT
    obtain ⟨l1, l2⟩ := tb_lt hT
    refine ⟨_, rfl, _, rfl, _, rfl, r, c, p, rfl, hT, hp, fun H1 S1 => ?_⟩
    have el := cI_last hT
    dsimp only
    refine seq_asg (te_mid (fun x H' => x = cI (r * c - 1) ∧ H1 = H') (fun R k => ⟨_, rfl, _, rfl, _, _, rfl, rfl, .inl ⟨by omega, by omega⟩, _, _, rfl, rfl, k _ _ ⟨el, rfl⟩⟩) ?_)
    rintro x _ ⟨rfl, rfl⟩
    generalize hL : r * c - 1 = L at el q
    have hLl : L < 2 ^ 40 := by omega
    have hp2 : p ≤ L := by omega
    refine ⟨_, rfl, _, rfl, rfl, _, rfl, iteD (fun he => ?_) (fun he => ?_)⟩
    · have : p = L := cI_inj he
      have e1 : ringM r L p = 1 := if_pos this
      have := q H1 S1
      rw [e1] at this
      exact this
    · dsimp only [tNext]
      have pl : p < L := by
        rcases Nat.lt_or_ge p L with z | z
        · exact z
        · exact absurd (congrArg cI (Nat.le_antisymm hp2 z)) he
      have e1 : ringM r L p = lcmF r (facM (L / Nat.gcd p L)) := if_neg (by omega)
      rw [e1] at q
      have gp : 1 ≤ Nat.gcd p L := Nat.gcd_pos_of_pos_right _ (by omega)
      have gl : Nat.gcd p L ≤ L := Nat.gcd_le_right _ (by omega)
      have d1 : 1 ≤ L / Nat.gcd p L := Nat.div_pos gl gp
      have d2 : L / Nat.gcd p L < 2 ^ 40 := Nat.lt_of_le_of_lt (Nat.div_le_self _ _) hLl
      refine ⟨_, rfl, _, rfl, _, rfl, _, _, rfl, _, _, rfl, rfl, ⟨?_, ?_⟩, L / Nat.gcd p L, ?_, d1, d2, fun H2 a S2 pr => ?_⟩
      · simp only [Int.natAbs_natCast]; omega
      · simp only [Int.natAbs_natCast]; exact l40 (by omega)
      · have := cI_div L (Nat.gcd p L)
        rw [← this, ← Int.natAbs_natCast p, ← Int.natAbs_natCast L]
        simp
      · obtain ⟨g, hpd⟩ := facM_ok d1
        obtain ⟨ts, t1, t2, t3⟩ := pr
        generalize L / Nat.gcd p L = D at q d1 d2 g hpd t2 t3
        refine ⟨a, rfl, ⟨_, SqL.of t1⟩, for_it (walk_list (xs := ts.map V.ref)) (fun i σ' H' => (∃ u1 u2, σ' = [some (cI r), some (cI c), some (cI p), some (cI L), some (cI (lcmF r ((facM D).take i))), u1, u2]) ∧ Same H2 H') ⟨⟨none, none, rfl⟩, Same.refl _⟩ (fun i σ' H' _ z => SqL.of (z.2 _ _ t1)) ?_ ?_⟩
        · rintro i x σ' H9 H3 hi ⟨⟨u1, u2, rfl⟩, S3⟩ ⟨rfl, hx⟩
          rw [List.length_map] at hi
          have hi2 : i < (facM D).length := by omega
          rw [List.getElem?_map, List.getElem?_eq_getElem hi] at hx
          obtain rfl := Option.some.inj hx
          have ey := List.getElem?_eq_getElem hi2
          have ht := S3 _ _ (t3 i _ _ (List.getElem?_eq_getElem hi) ey)
          have gy := g _ (List.getElem_mem hi2)
          obtain ⟨yl, ye, yp⟩ := exp_lt g (Nat.le_of_eq hpd) d2 (List.getElem_mem hi2)
          obtain ⟨a1, a2⟩ := lcmF_ok g (r := r) (i + 1)
          obtain ⟨b1, b2⟩ := lcmF_ok g (r := r) i
          have p1 := prodF_take_le g (i + 1)
          have p2 := prodF_take_le g i
          obtain ⟨o1, o2⟩ := ordM_ok (b := r) (e := ((facM D)[i]).2) gy.1
          have o3 := units_le gy.1 gy.2
          rw [lcmF_take ey] at a1 a2
          rw [lcmF_take ey]
          refine ⟨_, _, rfl, SqT.of ht, rfl, _, _, rfl, _, _, rfl, rfl, ?_⟩
          refine ⟨_, rfl, _, rfl, _, rfl, _, rfl, r, _, _, rfl, by omega, gy.1, gy.2, yp, fun H4 S4 => ?_⟩
          exact ⟨_, _, rfl, by omega, by omega, by omega, ⟨_, _, rfl⟩, S3.trans S4⟩
        · rintro σ' H3 ⟨⟨u1, u2, rfl⟩, S3⟩
          refine ⟨_, rfl, ?_⟩
          rw [List.length_map, t2, List.take_length]
          exact q H3 ((S1.trans S2).trans S3)
end
end E3

set_option Elab.async false
set_option linter.all false
set_option maxRecDepth 100000
set_option maxHeartbeats 1000000
/-! rings: turned -/
namespace E3
open PySem PySem.Spec PyProof.Rows L2
open C8 (Cal Mak Met InsC pe_c pe_mt pe_mt0 call_isC clsBody)
section
variable {P : Program} {w : World} {K : PySem.W.Frag} {mg : Str → Option Value} {base : Heap}
theorem scTurned : FnScope ["rows", "columns", "place", "times", "last"] ["rows", "columns", "place", "times"] (defScope sTurned) := ⟨rfl, rfl, rfl, by decide +kernel, rfl, by decide +kernel, by decide +kernel⟩
theorem ok_turned {f : Addr} {fd : FuncData} (F : FunD K "turned" "turned" (defArgs sTurned) (defBody sTurned) (defScope sTurned) [.int 1] [] f fd) (Cp : Cal P w K mg base 3 "check_place" spChkP []) (Cn : Cal P w K mg base 2 "is_count" spCnt1 []) (Pw : Cal P w K mg base 1 "power" spPower []) : FnOk P w K mg base CX0 4 f fd ["rows", "columns", "place", "times"] spTurnM := by
  refine F.ok0 scTurned (fun vs H Q E h => ?_) (fun cdv A outer s H vs Q E hr h => ?_)
  · obtain ⟨r, c, p, t, rfl, _⟩ := h
    rfl
  · obtain ⟨r, c, p, t, rfl, hT, hp, ht, q⟩ := h
    refine ⟨_, pss_cons (ps_expr (pe_c Cp hr (by decide) rfl (pa_cons (pv 0) (pa_cons (pv 1) (pa_cons (pv 2) pa_nil)))))
      (pss_cons (ps_if (pt_not (pt_val (pe_c Cn hr (by decide) rfl (pa_cons (pv 3) pa_nil)))) (pss_one ps_never) pss_nil)
      (pss_cons (ps_set (i := 4) scTurned.nd rfl (Or.inl rfl) (pe_op op_sub (pe_op op_mul (pv 0) (pv 1)) pe_int))
      (pss_cons (ps_if (pt_cmpR op_eq (pv 2) (pv 4) (nomark _)) (pss_one (ps_ret (pv 2))) pss_nil)
      (pss_one (ps_ret (pe_op op_mod (pe_op op_mul (pv 2) (pe_c Pw hr (by decide) rfl (pa_cons (pv 0) (pa_cons (pv 3) (pa_cons (pv 4) pa_nil))))) (pv 4))))))), ?_⟩
    obtain ⟨r1, c1, r2, c2⟩ := id hT
    obtain ⟨l1, l2⟩ := tb_lt hT
    refine ⟨_, rfl, _, rfl, _, rfl, r, c, p, rfl, hT, hp, fun H1 S1 => ?_⟩
    refine ⟨_, rfl, _, rfl, by omega, true, rfl, iteF ?_⟩
    dsimp only [tNext]
    have el := cI_last hT
    refine seq_asg (te_mid (fun x H' => x = cI (r * c - 1) ∧ H1 = H') (fun R k => ⟨_, rfl, _, rfl, _, _, rfl, rfl, .inl ⟨by omega, by omega⟩, _, _, rfl, rfl, k _ _ ⟨el, rfl⟩⟩) ?_)
    rintro x _ ⟨rfl, rfl⟩
    generalize hL : r * c - 1 = L at el q
    have hLl : L < 2 ^ 40 := by omega
    have hp2 : p ≤ L := by omega
    refine ⟨_, rfl, _, rfl, rfl, _, rfl, iteD (fun he => ?_) (fun he => ?_)⟩
    · have : p = L := cI_inj he
      have e1 : turnM r L p t = p := if_pos this
      have := q H1 S1
      rw [e1] at this
      exact ⟨_, rfl, this⟩
    · dsimp only [tNext]
      have pl : p < L := by
        rcases Nat.lt_or_ge p L with z | z
        · exact z
        · exact absurd (congrArg cI (Nat.le_antisymm hp2 z)) he
      have e1 : turnM r L p t = p * pw r t L % L := if_neg (by omega)
      rw [e1] at q
      refine ⟨_, rfl, _, rfl, _, rfl, _, rfl, r, t, L, rfl, by omega, ht, by omega, hLl, ?_⟩
      refine ⟨_, _, rfl, rfl, .inl ⟨by omega, by omega⟩, _, rfl, _, _, rfl, rfl, (show (0 : Int) < ((L : Nat) : Int) by omega), ?_⟩
      have := cI_mod (p * pw r t L) L
      rw [Int.natCast_mul] at this
      have h2 := q H1 S1
      rw [← this] at h2
      exact h2
end
end E3

set_option linter.all false
set_option maxHeartbeats 400000
/-! rings: the mirrors of the dicts -/
namespace E3
abbrev Dt := List (Nat × Nat)
def getI (l : Dt) (k : Nat) : Option Nat := (l.find? fun x => decide (x.1 = k)).map (·.2)
def putI (l : Dt) (k v : Nat) : Dt := if (l.any fun x => decide (x.1 = k)) = true then l.map (fun x => if x.1 = k then (x.1, v) else x) else l ++ [(k, v)]
def addI (g : Dt) (k s : Nat) : Dt := putI g k ((getI g k).getD 0 + s)
def grow1 (l pl : Nat) (parts : Dt) (g : Dt) : Dt := parts.foldl (fun g x => addI g (Nat.lcm l x.1) (pl * x.2)) g
def growM (found parts : Dt) : Dt := found.foldl (fun g x => grow1 x.1 x.2 parts g) []
def partsM (r p e : Nat) : Dt := (1, 1) :: (List.range e).map fun j => (ordM r p (j + 1), unitsM p (j + 1))
def placesM (r : Nat) (fac : Dt) : Dt := fac.foldl (fun d x => growM d (partsM r x.1 x.2)) [(1, 1)]
def cntF (l : Dt) : Nat := l.foldr (fun x n => (x.2 + 1) * n) 1
theorem putI_len (l : Dt) (k v : Nat) : (putI l k v).length ≤ l.length + 1 := by
  unfold putI
  split
  · rw [List.length_map]; omega
  · rw [List.length_append]; simp
theorem putI_keys (l : Dt) (k v j : Nat) : j ∈ (putI l k v).map (·.1) ↔ j = k ∨ j ∈ l.map (·.1) := by
  unfold putI
  by_cases h : (l.any fun x => decide (x.1 = k)) = true
  · rw [if_pos h, List.map_map]
    have e : ((fun x : Nat × Nat => x.1) ∘ fun x => if x.1 = k then (x.1, v) else x) = (fun x => x.1) := by
      funext x
      simp only [Function.comp]
      split <;> rfl
    rw [e]
    refine ⟨.inr, fun z => z.elim (fun e => ?_) id⟩
    subst e
    obtain ⟨x, hx, he⟩ := List.any_eq_true.mp h
    exact List.mem_map.mpr ⟨x, hx, of_decide_eq_true he⟩
  · rw [if_neg h, List.map_append, List.mem_append]
    simp only [List.map_cons, List.map_nil, List.mem_singleton]
    exact Or.comm
def KeysB (l : Dt) (B : Nat) : Prop := ∀ j ∈ l.map (·.1), 1 ≤ j ∧ j ≤ B
theorem KeysB.put {l : Dt} {B k v : Nat} (h : KeysB l B) (k1 : 1 ≤ k) (k2 : k ≤ B) : KeysB (putI l k v) B := fun j hj => by
  rcases (putI_keys l k v j).mp hj with e | e
  · subst e; exact ⟨k1, k2⟩
  · exact h j e
theorem grow1_ok (l pl : Nat) {B : Nat} : ∀ (parts : Dt) (g : Dt), KeysB g B → (∀ x ∈ parts, 1 ≤ Nat.lcm l x.1 ∧ Nat.lcm l x.1 ≤ B) → KeysB (grow1 l pl parts g) B ∧ (grow1 l pl parts g).length ≤ g.length + parts.length ∧ ∀ j, j ∈ (grow1 l pl parts g).map (·.1) ↔ j ∈ g.map (·.1) ∨ ∃ x ∈ parts, j = Nat.lcm l x.1
  | [], g, h, _ => ⟨h, Nat.le_refl _, fun j => ⟨.inl, fun z => z.elim id fun ⟨x, hx, _⟩ => by cases hx⟩⟩
  | y :: parts, g, h, hp => by
    obtain ⟨y1, y2⟩ := hp y (List.mem_cons_self ..)
    obtain ⟨a, b, c⟩ := grow1_ok l pl parts (addI g (Nat.lcm l y.1) (pl * y.2)) (h.put y1 y2) fun x hx => hp x (List.mem_cons_of_mem _ hx)
    have pl' := putI_len g (Nat.lcm l y.1) ((getI g (Nat.lcm l y.1)).getD 0 + pl * y.2)
    refine ⟨a, ?_, fun j => ?_⟩
    · refine Nat.le_trans b ?_
      rw [List.length_cons]
      unfold addI
      omega
    · refine (c j).trans ?_
      unfold addI
      rw [putI_keys]
      constructor
      · rintro ((e | e) | ⟨x, hx, e⟩)
        · exact .inr ⟨y, List.mem_cons_self .., e⟩
        · exact .inl e
        · exact .inr ⟨x, List.mem_cons_of_mem _ hx, e⟩
      · rintro (e | ⟨x, hx, e⟩)
        · exact .inl (.inr e)
        · rcases List.mem_cons.mp hx with rfl | hx
          · exact .inl (.inl e)
          · exact .inr ⟨x, hx, e⟩
theorem growF_ok {B : Nat} (parts : Dt) : ∀ (found g : Dt), KeysB g B → (∀ y ∈ found, ∀ x ∈ parts, 1 ≤ Nat.lcm y.1 x.1 ∧ Nat.lcm y.1 x.1 ≤ B) → KeysB (found.foldl (fun g x => grow1 x.1 x.2 parts g) g) B ∧ (found.foldl (fun g x => grow1 x.1 x.2 parts g) g).length ≤ g.length + found.length * parts.length ∧
    ∀ j, j ∈ (found.foldl (fun g x => grow1 x.1 x.2 parts g) g).map (·.1) ↔ j ∈ g.map (·.1) ∨ ∃ y ∈ found, ∃ x ∈ parts, j = Nat.lcm y.1 x.1
  | [], g, h, _ => ⟨h, by simp, fun j => ⟨.inl, fun z => z.elim id fun ⟨y, hy, _⟩ => by cases hy⟩⟩
  | y :: found, g, h, hp => by
    obtain ⟨a, b, c⟩ := grow1_ok y.1 y.2 parts g h (hp y (List.mem_cons_self ..))
    obtain ⟨a2, b2, c2⟩ := growF_ok parts found _ a fun z hz => hp z (List.mem_cons_of_mem _ hz)
    refine ⟨a2, ?_, fun j => ?_⟩
    · refine Nat.le_trans b2 ?_
      rw [List.length_cons, Nat.add_mul, Nat.one_mul]
      omega
    · refine (c2 j).trans ?_
      rw [c j]
      constructor
      · rintro ((e | ⟨x, hx, e⟩) | ⟨z, hz, x, hx, e⟩)
        · exact .inl e
        · exact .inr ⟨y, List.mem_cons_self .., x, hx, e⟩
        · exact .inr ⟨z, List.mem_cons_of_mem _ hz, x, hx, e⟩
      · rintro (e | ⟨z, hz, x, hx, e⟩)
        · exact .inl (.inl e)
        · rcases List.mem_cons.mp hz with rfl | hz
          · exact .inl (.inr ⟨x, hx, e⟩)
          · exact .inr ⟨z, hz, x, hx, e⟩
theorem parts_ok {r p e : Nat} (hp : 2 ≤ p) (he : 1 ≤ e) : (partsM r p e).length = e + 1 ∧ ∀ x ∈ partsM r p e, 1 ≤ x.1 ∧ x.1 ≤ p ^ e ∧ x.2 ≤ p ^ e := by
  refine ⟨by simp [partsM], fun x hx => ?_⟩
  have pe : 1 ≤ p ^ e := Nat.pow_pos (by omega)
  rcases List.mem_cons.mp hx with rfl | hx
  · exact ⟨Nat.le_refl _, pe, pe⟩
  · obtain ⟨j, hj, rfl⟩ := List.mem_map.mp hx
    have hj := List.mem_range.mp hj
    obtain ⟨a, b⟩ := ordM_ok (b := r) (e := j + 1) hp
    have c := units_le hp (show 1 ≤ j + 1 by omega)
    have d : p ^ (j + 1) ≤ p ^ e := Nat.pow_le_pow_right (by omega) (by omega)
    exact ⟨a, by show ordM r p (j + 1) ≤ _; omega, by show unitsM p (j + 1) ≤ _; omega⟩
theorem placesM_take {r : Nat} {l : Dt} {i : Nat} {x : Nat × Nat} (h : l[i]? = some x) : placesM r (l.take (i + 1)) = growM (placesM r (l.take i)) (partsM r x.1 x.2) := by
  unfold placesM
  rw [List.take_succ, h, List.foldl_append]; rfl
theorem cntF_app (l m : Dt) : cntF (l ++ m) = cntF l * cntF m := by
  induction l with
  | nil => simp [cntF]
  | cons x l ih =>
    have : cntF (x :: l ++ m) = (x.2 + 1) * cntF (l ++ m) := rfl
    rw [this, ih, ← Nat.mul_assoc]; rfl
theorem cntF_pos (l : Dt) : 1 ≤ cntF l := by
  induction l with
  | nil => exact Nat.le_refl _
  | cons x l ih => exact Nat.mul_pos (by omega) ih
theorem cntF_take_succ {l : Dt} {i : Nat} {x : Nat × Nat} (h : l[i]? = some x) : cntF (l.take (i + 1)) = cntF (l.take i) * (x.2 + 1) := by
  rw [List.take_succ, h, cntF_app]; simp [cntF]
theorem cntF_take_le (l : Dt) (i : Nat) : cntF (l.take i) ≤ cntF l := by
  have e : cntF l = cntF (l.take i) * cntF (l.drop i) := by rw [← cntF_app, List.take_append_drop]
  rw [e]
  exact Nat.le_mul_of_pos_right _ (cntF_pos _)
theorem key_lcm {d : Dt} {B r p e : Nat} (hd : KeysB d B) (hp : 2 ≤ p) (he : 1 ≤ e) : ∀ y ∈ d, ∀ x ∈ partsM r p e, 1 ≤ Nat.lcm y.1 x.1 ∧ Nat.lcm y.1 x.1 ≤ B * p ^ e := fun y hy x hx => by
  obtain ⟨a, b⟩ := hd y.1 (List.mem_map.mpr ⟨y, hy, rfl⟩)
  obtain ⟨c, f, _⟩ := (parts_ok hp he).2 x hx
  obtain ⟨g, h⟩ := lcm_le a c
  exact ⟨g, Nat.le_trans h (Nat.mul_le_mul b f)⟩
theorem places_ok {r : Nat} {l : Dt} (g : Good l) : ∀ i, KeysB (placesM r (l.take i)) (prodF (l.take i)) ∧ (placesM r (l.take i)).length ≤ cntF (l.take i) ∧ 1 ∈ (placesM r (l.take i)).map (·.1)
  | 0 => ⟨fun j hj => by
      have : j = 1 := by simpa [placesM] using hj
      subst this; exact ⟨Nat.le_refl _, Nat.le_refl _⟩, Nat.le_refl _, List.mem_cons_self ..⟩
  | i + 1 => by
    obtain ⟨a, b, c⟩ := places_ok g (r := r) i
    by_cases h : i < l.length
    · have e := List.getElem?_eq_getElem h
      have gx := g _ (List.getElem_mem h)
      rw [placesM_take e, prodF_take_succ e, cntF_take_succ e]
      obtain ⟨k1, k2, k3⟩ := growF_ok (B := prodF (l.take i) * (l[i]).1 ^ (l[i]).2) (partsM r (l[i]).1 (l[i]).2) (placesM r (l.take i)) [] (fun j hj => by cases hj) (key_lcm a gx.1 gx.2)
      refine ⟨k1, ?_, ?_⟩
      · refine Nat.le_trans k2 ?_
        rw [(parts_ok gx.1 gx.2).1]
        simp only [List.length_nil, Nat.zero_add]
        exact Nat.mul_le_mul_right _ b
      · refine (k3 1).mpr (.inr ?_)
        obtain ⟨y, hy, he⟩ := List.mem_map.mp c
        exact ⟨y, hy, (1, 1), List.mem_cons_self .., by
          show 1 = Nat.lcm y.1 1
          rw [he]; rfl⟩
    · rw [List.take_of_length_le (by omega)] at a b c ⊢
      exact ⟨a, b, c⟩
theorem getI_some {l : Dt} {k : Nat} (h : k ∈ l.map (·.1)) : ∃ v, getI l k = some v := by
  obtain ⟨x, hx, e⟩ := List.mem_map.mp h
  unfold getI
  cases hf : l.find? fun x => decide (x.1 = k) with
  | none => exact absurd (decide_eq_true e) (List.find?_eq_none.mp hf x hx)
  | some y => exact ⟨y.2, rfl⟩
/-- the sorted list -/
def sortI (l : List Nat) : List Nat := l.mergeSort (fun a b => decide (a ≤ b))
theorem sortI_ok (l : List Nat) : (sortI l).Perm l ∧ (sortI l).Pairwise (· ≤ ·) := by
  refine ⟨List.mergeSort_perm _ _, ?_⟩
  have := List.pairwise_mergeSort (le := fun a b : Nat => decide (a ≤ b)) (fun a b c h1 h2 => by simp at *; omega) (fun a b => by simp; omega) l
  exact this.imp fun h => of_decide_eq_true h
theorem sorted_eq : ∀ {l m : List Nat}, l.Perm m → l.Pairwise (· ≤ ·) → m.Pairwise (· ≤ ·) → l = m
  | [], m, p, _, _ => (List.Perm.nil_eq p)
  | x :: l, [], p, _, _ => by have := p.length_eq; simp at this
  | x :: l, y :: m, p, h1, h2 => by
    have a := List.pairwise_cons.mp h1
    have b := List.pairwise_cons.mp h2
    have e : x = y := by
      have m1 : x ∈ y :: m := p.mem_iff.mp (List.mem_cons_self ..)
      have m2 : y ∈ x :: l := p.mem_iff.mpr (List.mem_cons_self ..)
      rcases List.mem_cons.mp m1 with e | m1
      · exact e
      · rcases List.mem_cons.mp m2 with e | m2
        · exact e.symm
        · exact Nat.le_antisymm (a.1 _ m2) (b.1 _ m1)
    subst e
    rw [sorted_eq (List.Perm.cons_inv p) a.2 b.2]
/-- rings(r, c) -/
def bumpM (d : Dt) : Dt := putI d 1 ((getI d 1).getD 0 + 1)
def ringsD (r last : Nat) : Dt := if 0 < last then bumpM (placesM r (facM last)) else [(1, 1)]
def ringsM (r last : Nat) : List (Nat × Nat) := (sortI ((ringsD r last).map (·.1))).map fun k => (k, ((getI (ringsD r last) k).getD 0) / k)
end E3

set_option Elab.async false
set_option linter.all false
set_option maxRecDepth 100000
set_option maxHeartbeats 1000000
/-! sorted(d), d a dict with whole numbers as keys -/
namespace L2
open PySem PySem.Spec PyProof.Rows
section
variable {prog : Program} {w : World} {A : Around} {E : Value → Shared → Prop} {s : Shared} {T : String} {r d : Addr} {n : Nat} {P : Nat → Value → Prop} {OK : Heap → Prop}
theorem collect_kdl {Q : List Value → Shared → Prop} (K : PySem.W.KdlSrc prog w T r d n P OK) (hh : A.handled = none) (hok : OK s.heap) (hn : n ≤ sizeLine)
    (hQ : ∀ h' tk acc', (∀ b o, s.heap.get? b = some o → h'.get? b = some o) → ItemsOf P acc' n → Q acc'.toList { s with heap := h', toks := tk }) : wpAny (model prog w) A (collect (.ref r)) Q E s := by
  have hS : (s.heap.push { cls := .type "list", data := .seq ([] : List Value).toArray }).get? s.heap.objs.size = some { cls := .type "list", data := .seq ([] : List Value).toArray } := Heap.get?_push_size _ rfl
  have hlt := K.there _ hok
  have key : ∀ R : Result → Shared → Prop, (∀ h' tk acc' c', (∀ b o, s.heap.get? b = some o → h'.get? b = some o) → h'.get? s.heap.objs.size = some { cls := .type "list", dict := none, data := .seq acc' c', slots := #[] } → ItemsOf P acc' n → R (.ok (.ret (.ref s.heap.objs.size))) { s with heap := h', toks := tk }) →
      codeAny (model prog w) A (.builtin "list.__iadd__" ⟨[.ref s.heap.objs.size, .ref r], []⟩) R { s with heap := s.heap.push { cls := .type "list", data := .seq ([] : List Value).toArray } } := by
    intro R hR
    refine codeAny_builtin F.entry_list_iadd ?_
    rw [Around.under_plainId F.plain_list_iadd _]
    show wpAny _ A.in1 (Builtin.List.listExtendWith (.ref s.heap.objs.size) (.ref r) (.ref s.heap.objs.size)) _ _ _
    exact PySem.W.kdl_extend (s := { s with heap := s.heap.push { cls := .type "list", data := .seq ([] : List Value).toArray } }) K hh (K.keep _ _ hok fun b _ o e => Heap.get?_push_of_some _ e) s.heap.objs.size (Nat.ne_of_gt hlt.1) (Nat.ne_of_gt hlt.2) (.ref s.heap.objs.size) _ hS
      (fun h' tk acc' c' hk hS' hacc => hR h' tk acc' c' (fun b o e => hk b o (Nat.ne_of_lt (Heap.lt_size e)) (Heap.get?_push_of_some _ e)) hS' hacc) hn
  unfold collect
  refine wpAny_bind (wpAny_runValue (codeAny_builtin F.entry_proto_collect ?_))
  rw [Around.under_plainId F.plain_proto_collect _]
  show wpAny _ A.in1 (newList [] >>= fun l => again (.builtin "list.__iadd__" ⟨[l, .ref r], []⟩)) _ _ s
  refine wpAny_bind (wpAny_newObj_type ?_)
  refine wpAny_pure ⟨plainId_quiet F.plain_list_iadd _, key _ fun h' tk acc' c' hk hS' hacc => ?_⟩
  show wpAny _ A (load s.heap.objs.size >>= _) _ _ _
  refine wpAny_bind (wpAny_load hS' ?_)
  exact wpAny_pure (hQ h' tk acc' hk hacc)
end
def rSortedD : List V → Hp → VK → Prop := fun vs H Q => ∃ (d : Addr) (kvs : List (Key × V)) (ns : List Int), vs = [V.ref d] ∧ Rd H d (.dK kvs) ∧ kvs.map (·.1) = ns.map Sum.inl ∧
  ∀ ns' : List Int, ns'.Perm ns → ns'.Pairwise (· ≤ ·) → NewQ H (.lst (ns'.map V.int)) Q
theorem cr_sortedD {X : Cx} (hc : X.calm = true) : CallR X (.builtin "sorted") rSortedD := by
  intro pins s σ H vs us Q I r h
  obtain ⟨d, kvs, ns, rfl, hd, hk, q⟩ := h
  obtain ⟨z, lo, rs, rk, hdo⟩ := dk_rd I.hok hd
  obtain ⟨ep, hat⟩ := hdo.dictAt
  have hl : kvs.length = rs.length := Paired.length rk
  rw [Vals.ref1 r]
  refine Calls.call_function_entry kind_sorted plain_sorted entry_sorted (args_sorted1 _) ?_
  unfold Builtin.«sorted»
  refine wpAny_bind (m := checkCount "sorted" 1 1 _) (wpAny_pure ?_)
  refine wpAny_bind (collect_kdl (PySem.W.kdl_dict (knd := mixKind X.prog X.w) (kvs := rs) (ep := ep) lo) (I.ok.hd hc) hat (by rw [← hl]; exact z) fun h' tk acc hkp hacc => ?_)
  have sz : acc.toList.length = ns.length := by
    have e := congrArg List.length hk
    rw [List.length_map, List.length_map] at e
    rw [Array.length_toList, hacc.1, ← hl, e]
  have hv : Vals (ns.map V.int) acc.toList := by
    refine vals_of_at (by rw [List.length_map]; exact sz.symm) fun j x w h1 h2 => ?_
    obtain ⟨k, y, hky, hi⟩ := hacc.2 j w (by rw [← Array.getElem?_toList]; exact h2)
    have e1 : (kvs.map (·.1))[j]? = some k := by
      rw [KV.keys rk, List.getElem?_map, hky] <;> rfl
    rw [hk, List.getElem?_map] at e1
    rw [List.getElem?_map] at h1
    cases e : ns[j]? with
    | none => rw [e] at e1; cases e1
    | some i =>
      rw [e] at e1 h1
      have := Option.some.inj e1
      subst this
      have := Option.some.inj h1
      subst this
      exact keyIs_rel (k := Sum.inl i) (v := w) hi
  have hi := hv.ints
  have I1 : Inv X pins σ H { s with heap := h', toks := tk } := I.kept hkp
  have hz : acc.toList.length ≤ sizeLine := by
    have e := congrArg List.length hk
    rw [List.length_map, List.length_map] at e
    omega
  refine wpAny_bind (wpAny_newList ?_ hz)
  have hoL : (h'.push (seqObj "list" acc.toList.toArray 0)).get? h'.objs.size = some (seqObj "list" acc.toList.toArray 0) := Heap.get?_push_size _ rfl
  show wpAny _ _ _ _ _ { s with heap := h'.push (seqObj "list" acc.toList.toArray 0), toks := tk }
  refine wpAny_bind (wpAny_holding (wpAny_call_entry slot_list_sort ⟨_, hoL, rfl⟩ entry_list_sort (SrtO.list_sort_ord SrtO.swo_int hoL hz (fun h2 => SrtO.ints_sortable hi h2) fun out hs hb => ⟨_, rfl, ?_⟩) (args_list_sort _)))
  obtain ⟨k1, k2, k3⟩ := SrtO.ints_out hi hs hb
  obtain ⟨ep2, he'⟩ := sortedHeap_at (vs := acc.toList) (out := out.toArray) hoL
  have hlen : ((out.map SrtO.iv).map V.int).length ≤ sizeLine := by rw [List.length_map, k2.length_eq, ← sz]; exact hz
  refine wpAny_pure ⟨_, rfl, .ref h'.objs.size, upd H h'.objs.size (.lst ((out.map SrtO.iv).map V.int)), I1.laid (t' := tk) (fun b u e => ?_) (Nat.le_refl _) ⟨hlen, out, ep2, vals_of_ints k1, he'⟩, rfl, (q _ k2 k3).at I1.fresh⟩
  have lt := Heap.lt_size e
  rw [sortedHeap_old (Nat.ne_of_lt lt) (by rw [size_push']; exact Nat.lt_succ_of_lt lt)]
  exact Heap.get?_push_of_some _ e
end L2

set_option Elab.async false
set_option linter.all false
set_option maxRecDepth 100000
set_option maxHeartbeats 1000000
/-! rings: places_by_length -/
namespace E3
open PySem PySem.Spec PyProof.Rows L2
open C8 (Cal Mak Met InsC pe_c pe_mt pe_mt0 call_isC clsBody)
def kvsOf (l : Dt) : List (Key × V) := l.map fun x => ((Sum.inl ((x.1 : Nat) : Int) : Key), cI x.2)
abbrev kI (n : Nat) : Key := Sum.inl ((n : Nat) : Int)
theorem kI_inj {a b : Nat} : kI a = kI b ↔ a = b := ⟨fun h => by have := Sum.inl.inj h; omega, fun h => by rw [h]⟩
theorem val_kvs (l : Dt) (k : Nat) : valV (kvsOf l) (kI k) = (getI l k).map cI := by
  induction l with
  | nil => rfl
  | cons x l ih =>
    unfold kvsOf at ih ⊢
    rw [List.map_cons]
    by_cases h : x.1 = k
    · rw [valV_pos (kI_inj.mpr h)]
      simp [getI, h]
    · rw [valV_neg (fun z => h (kI_inj.mp z)), ih]
      simp [getI, h]
theorem put_kvs (l : Dt) (k v : Nat) : putK (kvsOf l) (kI k) (cI v) = kvsOf (putI l k v) := by
  unfold putK putI
  have e : ((kvsOf l).any fun kv => decide (kv.1 = kI k)) = (l.any fun x => decide (x.1 = k)) := by
    unfold kvsOf
    rw [List.any_map]
    congr 1
    funext x
    show decide (kI x.1 = kI k) = decide (x.1 = k)
    exact decide_eq_decide.mpr kI_inj
  rw [e]
  by_cases h : (l.any fun x => decide (x.1 = k)) = true
  · rw [if_pos h, if_pos h]
    unfold kvsOf
    rw [List.map_map, List.map_map]
    refine List.map_congr_left fun x _ => ?_
    show (if kI x.1 = kI k then (kI x.1, cI v) else (kI x.1, cI x.2)) = _
    by_cases h2 : x.1 = k
    · rw [if_pos (kI_inj.mpr h2)]; simp only [Function.comp, if_pos h2]
    · rw [if_neg (fun z => h2 (kI_inj.mp z))]; simp only [Function.comp, if_neg h2]
  · rw [if_neg h, if_neg h]
    unfold kvsOf
    rw [List.map_append]; rfl
theorem kvs_len (l : Dt) : (kvsOf l).length = l.length := List.length_map _
theorem kvs_at {l : Dt} {i : Nat} {y : Nat × Nat} (h : l[i]? = some y) : (kvsOf l)[i]? = some (kI y.1, cI y.2) := by unfold kvsOf; rw [List.getElem?_map, h]; rfl
theorem _root_.L2.SameB.toSame {D : Addr} {H H1 H2 : Hp} (S : SameB D H1 H2) (S0 : Same H H1) (n : H D = none) : Same H H2 := fun b o h => S b o (fun z => by rw [z, n] at h; cases h) (S0 b o h)
theorem PrsAt.keep {H H' : Hp} {a : Addr} {l : List (Nat × Nat)} (h : PrsAt H a l) (k : ∀ b o, H b = some o → (∀ kvs, o ≠ .dK kvs) → H' b = some o) : PrsAt H' a l :=
  let ⟨ts, h1, h2, h3⟩ := h
  ⟨ts, k _ _ h1 (fun _ z => nomatch z), h2, fun i t x e1 e2 => k _ _ (h3 i t x e1 e2) (fun _ z => nomatch z)⟩
theorem parts_ok' (r p j : Nat) : (partsM r p j).length = j + 1 := by simp [partsM]
theorem ne_of_2 {H6 : Hp} {a G T : Addr} {o : HO} {q : HO} {kvs : List (Key × V)} (h : (upd H6 T q) a = some o) (hG : H6 G = some (.dK kvs)) (gt : G ≠ T) (ho : ∀ k, o ≠ .dK k := by intro _ z; cases z) : a ≠ G := fun z => by
  rw [z, upd_ne gt, hG] at h
  exact ho _ (Option.some.inj h).symm
/-- what is returned: a new dict; cnt: few enough lengths -/
def spPlaces : Sp := fun vs H Q _ => ∃ r L : Nat, vs = [cI r, cI L] ∧ r < 2 ^ 40 ∧ 1 ≤ L ∧ L < 2 ^ 40 ∧ cntF (facM L) < sizeLine ∧ ∀ H' D, Same H H' → H D = none → H' D = some (.dK (kvsOf (placesM r (facM L)))) → Q (.ref D) H'
theorem partsM_succ (r p j : Nat) : partsM r p (j + 1) = partsM r p j ++ [(ordM r p (j + 1), unitsM p (j + 1))] := by
  unfold partsM
  rw [List.range_succ, List.map_append]; rfl
theorem grow1_take {l pl : Nat} {parts g : Dt} {j : Nat} {x : Nat × Nat} (h : parts[j]? = some x) : grow1 l pl (parts.take (j + 1)) g = addI (grow1 l pl (parts.take j) g) (Nat.lcm l x.1) (pl * x.2) := by
  unfold grow1
  rw [List.take_succ, h, List.foldl_append]; rfl
theorem growM_take {found parts : Dt} {i : Nat} {y : Nat × Nat} (h : found[i]? = some y) : growM (found.take (i + 1)) parts = grow1 y.1 y.2 parts (growM (found.take i) parts) := by
  unfold growM
  rw [List.take_succ, h, List.foldl_append]; rfl
section
variable {P : Program} {w : World} {K : PySem.W.Frag} {mg : Str → Option Value} {base : Heap}
theorem scPlaces : FnScope ["rows", "last", "found", "prime", "many", "parts", "exponent", "grown", "length", "places", "turn", "share", "whole"] ["rows", "last"] (defScope sPlaces) := ⟨rfl, rfl, rfl, by decide +kernel, rfl, by decide +kernel, by decide +kernel⟩
theorem ok_places {f : Addr} {fd : FuncData} (F : Fun K "places_by_length" "places_by_length" sPlaces f fd) (B : Bt4 mg) (hl : mg "lcm" = some (.builtin "math.lcm")) (U : Cal P w K mg base 1 "units" spUnits []) (Fa : Cal P w K mg base 1 "factors" spFactors []) (Or_ : Cal P w K mg base 2 "order" spOrder []) : FnOk P w K mg base CX0 3 f fd ["rows", "last"] spPlaces := by
  refine F.ok scPlaces (fun vs H Q E h => ?_) (fun cdv A outer s H vs Q E hr h => ?_)
  · obtain ⟨r, c, rfl, _⟩ := h
    rfl
  · obtain ⟨r, L, rfl, hrl, L1, L2, hc, q⟩ := h
    refine ⟨_, pss_cons (ps_set (i := 2) scPlaces.nd rfl (Or.inl rfl) (pe_disp (pps_cons pe_int pe_int pps_nil) (by rfl) (by rfl) (fun z => by cases z) (by decide)))
      (pss_cons (ps_for PassesOwn.never rfl (pi_list (pe_c Fa hr (by decide) rfl (pa_cons (pv 1) pa_nil))) (pg_tup rfl (pgs_cons (pg_name (i := 3) scPlaces.nd rfl (Or.inl rfl)) (pgs_cons (pg_name (i := 4) scPlaces.nd rfl (Or.inl rfl)) pgs_nil)))
        (pss_cons (ps_set (i := 5) scPlaces.nd rfl (Or.inl rfl) (pe_lstS (pa_cons (pe_tupS (pa_cons pe_int (pa_cons pe_int pa_nil))) pa_nil)))
        (pss_cons (ps_for PassesOwn.never rfl (pi_range2 rfl B.rng_ (pa_cons pe_int (pa_cons (pe_op op_add (pv 4) pe_int) pa_nil))) (pg_name (i := 6) scPlaces.nd rfl (Or.inl rfl))
          (pss_one (ps_expr (pe_bm PySem.F.plainAttrs_list PySem.F.slot_list_append PySem.F.type_list_append mt_append (pv 5) (pa_cons (pe_tupS (pa_cons (pe_c Or_ hr (by decide) rfl (pa_cons (pv 0) (pa_cons (pv 3) (pa_cons (pv 6) pa_nil)))) (pa_cons (pe_c U hr (by decide) rfl (pa_cons (pv 3) (pa_cons (pv 6) pa_nil))) pa_nil))) pa_nil)))))
        (pss_cons (ps_set (i := 7) scPlaces.nd rfl (Or.inl rfl) pe_dnewK)
        (pss_cons (ps_lock (ps_for PassesOwn.never rfl (pi_items (pv 2)) (pg_tup rfl (pgs_cons (pg_name (i := 8) scPlaces.nd rfl (Or.inl rfl)) (pgs_cons (pg_name (i := 9) scPlaces.nd rfl (Or.inl rfl)) pgs_nil)))
          (pss_one (ps_for PassesOwn.never rfl (pi_list (pv 5)) (pg_tup rfl (pgs_cons (pg_name (i := 10) scPlaces.nd rfl (Or.inl rfl)) (pgs_cons (pg_name (i := 11) scPlaces.nd rfl (Or.inl rfl)) pgs_nil)))
            (pss_cons (ps_set (i := 12) scPlaces.nd rfl (Or.inl rfl) (pe_callBfun cr_lcm (by rfl) hl (pa_cons (pv 8) (pa_cons (pv 10) pa_nil))))
            (pss_one (ps_dput (hu_of hr) (pv 7) (pv 12) (pe_op op_add (pe_dget2 (hu_of hr) (pv 7) (pv 12) pe_int ⟨rfl, rfl, rfl, rfl⟩) (pe_op op_mul (pv 9) (pv 11))) rfl)))))))
        (pss_one (ps_set (i := 2) scPlaces.nd rfl (Or.inl rfl) (pv 7))))))))
      (pss_one (ps_ret (pv 2)))), ?_⟩
    refine seq_asg (te_mid (fun x H0 => ∃ D0, x = V.ref D0 ∧ H D0 = none ∧ Same H H0 ∧ H0 D0 = some (.dK (kvsOf [(1, 1)]))) (fun R k D0 n0 => ⟨upd_same, [(kI 1, cI 1)], rfl, by decide, k _ _ ⟨D0, rfl, n0, fun b o hb => ?_, upd_same⟩⟩) ?_)
    · rw [upd_ne (ne_of_none hb n0), upd_ne (ne_of_none hb n0)]
      exact hb
    rintro x H0 ⟨D0, rfl, n0, S0, hD0⟩
    refine ⟨_, rfl, L, rfl, L1, L2, fun H1 a S1 pr => ?_⟩
    obtain ⟨g, hpd⟩ := facM_ok L1
    obtain ⟨ts, t1, t2, t3⟩ := pr
    refine ⟨a, rfl, ⟨_, SqL.of t1⟩, for_it (walk_list (xs := ts.map V.ref)) (fun i σ' H' => (∃ D u3 u4 u5 u6 u7 u8 u9 u10 u11 u12, σ' = [some (cI r), some (cI L), some (.ref D), u3, u4, u5, u6, u7, u8, u9, u10, u11, u12] ∧ H D = none ∧ H' D = some (.dK (kvsOf (placesM r ((facM L).take i))))) ∧ Same H1 H') ⟨⟨D0, none, none, none, none, none, none, none, none, none, none, rfl, n0, S1 _ _ hD0⟩, Same.refl _⟩ (fun i σ' H' _ z => SqL.of (z.2 _ _ t1)) ?_ ?_⟩
    · rintro i x σ' H9 H2 hi ⟨⟨D, u3, u4, u5, u6, u7, u8, u9, u10, u11, u12, rfl, nD, hD⟩, S2⟩ ⟨rfl, hx⟩
      rw [List.length_map] at hi
      have hi2 : i < (facM L).length := by omega
      rw [List.getElem?_map, List.getElem?_eq_getElem hi] at hx
      obtain rfl := Option.some.inj hx
      have ey := List.getElem?_eq_getElem hi2
      have ht := S2 _ _ (t3 i _ _ (List.getElem?_eq_getElem hi) ey)
      have gy := g _ (List.getElem_mem hi2)
      obtain ⟨yl, ye, yp⟩ := exp_lt g (Nat.le_of_eq hpd) L2 (List.getElem_mem hi2)
      obtain ⟨kb, kl, k1⟩ := places_ok g (r := r) i
      have pt := prodF_take_le g (i + 1)
      rw [prodF_take_succ ey, hpd] at pt
      have ct := cntF_take_le (facM L) (i + 1)
      rw [cntF_take_succ ey] at ct
      rw [placesM_take ey]
      generalize placesM r ((facM L).take i) = fd0 at hD kb kl k1
      generalize prodF ((facM L).take i) = B0 at kb pt
      generalize cntF ((facM L).take i) = c0 at kl ct
      generalize (facM L)[i] = y at ht gy yl ye yp pt ct
      obtain ⟨pl1, pl2⟩ := parts_ok (r := r) gy.1 gy.2
      refine ⟨_, _, rfl, SqT.of ht, rfl, _, _, rfl, _, _, rfl, rfl, ?_⟩
      refine ⟨(by show 2 ≤ sizeLine; decide), fun t0 H3 S3 n3 h3 => ⟨(by show 1 ≤ sizeLine; decide), fun b H4 S4 n4 h4 => ?_⟩⟩
      have nb2 : H2 b = none := S3.free n4
      have pr0 : PrsAt H4 b (partsM r y.1 0) := ⟨[t0], h4, rfl, fun j t z e1 e2 => by
        match j, e1, e2 with
        | 0, e1, e2 =>
          obtain rfl := Option.some.inj e1
          obtain rfl := Option.some.inj e2
          exact S4 _ _ h3⟩
      refine ⟨_, rfl, _, _, rfl, rfl, _, _, rfl, ⟨by decide, by decide, by omega, by omega⟩, ?_⟩
      have ne : ((((y.2 : Nat) : Int) + 1) - 1).toNat = y.2 := by omega
      rw [ne]
      refine for_it (walk_range (n := y.2)) (fun j σ' H' => (∃ u6, σ' = [some (cI r), some (cI L), some (.ref D), some (cI y.1), some (cI y.2), some (.ref b), u6, u7, u8, u9, u10, u11, u12]) ∧ SameB b H4 H' ∧ PrsAt H' b (partsM r y.1 j)) ⟨⟨u6, rfl⟩, SameB.refl _ _, pr0⟩ (fun _ _ _ _ _ => trivial) ?_ ?_
      · rintro j x σ' H5 H6 hj ⟨⟨u6, rfl⟩, S5, pr5⟩ ⟨rfl, hx⟩
        obtain rfl : x = cI (j + 1) := hx.trans (by show V.int (1 + ((j : Nat) : Int)) = _; exact congrArg V.int (by omega))
        obtain ⟨us, w1, w2, w3⟩ := pr5
        refine ⟨_, rfl, .inl ⟨rfl, _, SqL.of w1⟩, _, rfl, _, rfl, _, rfl, r, y.1, j + 1, rfl, hrl, gy.1, by omega, ?_, fun H7 S7 => ?_⟩
        · exact Nat.lt_of_le_of_lt (Nat.pow_le_pow_right (by omega) (by omega)) yp
        · refine ⟨_, rfl, _, rfl, y.1, j + 1, rfl, gy.1, yl, by omega, by omega, (by show 2 ≤ sizeLine; decide), fun t H8 S8 n8 h8 => ?_⟩
          have S78 := S7.trans S8
          have w1' := S78 _ _ w1
          refine ⟨b, _, _, rfl, rfl, w1', by rw [List.length_map, w2, (parts_ok' r y.1 j), sizeLine_eq]; omega, ⟨_, rfl⟩, ?_, ?_⟩
          · exact (S5.to S78).upd
          · rw [partsM_succ]
            exact .snoc w1' w2 (fun i u z e1 e2 => S78 _ _ (w3 i u z e1 e2)) h8
      · rintro σ' H5 ⟨⟨u6, rfl⟩, S5, pr5⟩
        have S25 : Same H2 H5 := S5.toSame (S3.trans S4) nb2
        refine fun G nG => ?_
        have hD5 := S25 _ _ hD
        have gD : D ≠ G := ne_of_none hD5 nG
        have hD6 : (upd H5 G (.dK [])) D = some (.dK (kvsOf fd0)) := by rw [upd_ne gD]; exact hD5
        refine ⟨D, _, hD6, trivial, fun od => ?_⟩
        have keep5 : ∀ H' : Hp, SameB G (upd (upd H5 G (.dK [])) D (.frz od (.dK (kvsOf fd0)))) H' → ∀ c o, H5 c = some o → c ≠ D → H' c = some o := by
          intro H' S c o hc hcd
          refine S c o (ne_of_none hc nG) ?_
          rw [upd_ne hcd, upd_ne (ne_of_none hc nG)]
          exact hc
        have keepP : ∀ H' : Hp, SameB G (upd (upd H5 G (.dK [])) D (.frz od (.dK (kvsOf fd0)))) H' → PrsAt H' b (partsM r y.1 y.2) := fun H' S => pr5.keep fun c o hc ho => keep5 H' S c o hc fun z => by
          rw [z, hD5] at hc
          exact ho _ (Option.some.inj hc).symm
        refine ⟨_, rfl, D, od, _, rfl, upd_same, for_it walk_items (fun i2 σ' H' => (∃ u6 u8 u9 u10 u11 u12, σ' = [some (cI r), some (cI L), some (.ref D), some (cI y.1), some (cI y.2), some (.ref b), u6, some (.ref G), u8, u9, u10, u11, u12]) ∧ SameB G (upd (upd H5 G (.dK [])) D (.frz od (.dK (kvsOf fd0)))) H' ∧ H' G = some (.dK (kvsOf (growM (fd0.take i2) (partsM r y.1 y.2))))) ⟨⟨u6, u8, u9, u10, u11, u12, rfl⟩, SameB.refl _ _, ?_⟩ (fun i2 σ' H' _ z => z.2.1 _ _ gD upd_same) ?_ ?_⟩
        · rw [upd_ne (Ne.symm gD), upd_same]; rfl
        · rintro i2 x σ' H6 H7 hi6 ⟨⟨u6, u8, u9, u10, u11, u12, rfl⟩, S6, hG⟩ ⟨T, xa, xb, rfl, nT, rfl, ea, eb⟩
          rw [kvs_len] at hi6
          have ez := List.getElem?_eq_getElem hi6
          dsimp only at ea eb
          rw [kvs_at ez] at ea eb
          obtain rfl := Option.some.inj ea
          obtain rfl := Option.some.inj eb
          have gt : G ≠ T := ne_of_none hG nT
          obtain ⟨f1, f2, _⟩ := growF_ok (B := B0 * y.1 ^ y.2) (partsM r y.1 y.2) (fd0.take i2) [] (fun j hj => by cases hj) (fun z hz => key_lcm kb gy.1 gy.2 z (List.mem_of_mem_take hz))
          have f1 : KeysB (growM (fd0.take i2) (partsM r y.1 y.2)) (B0 * y.1 ^ y.2) := f1
          have f2' : (growM (fd0.take i2) (partsM r y.1 y.2)).length ≤ i2 * (y.2 + 1) := by
            refine Nat.le_trans f2 ?_
            rw [pl1, List.length_take]
            simp only [List.length_nil, Nat.zero_add]
            exact Nat.mul_le_mul_right _ (by omega)
          have hk2 := key_lcm kb gy.1 gy.2 (r := r) _ (List.getElem_mem hi6)
          have kz := kb (fd0[i2]).1 (List.mem_map.mpr ⟨_, List.getElem_mem hi6, rfl⟩)
          have b0l : B0 ≤ B0 * y.1 ^ y.2 := Nat.le_mul_of_pos_right _ (Nat.pow_pos (by omega))
          have cz : i2 * (y.2 + 1) + (y.2 + 1) < sizeLine := by
            have h1 : (i2 + 1) * (y.2 + 1) ≤ c0 * (y.2 + 1) := Nat.mul_le_mul_right _ (by omega)
            rw [Nat.add_mul, Nat.one_mul] at h1
            omega
          rw [growM_take ez]
          generalize growM (fd0.take i2) (partsM r y.1 y.2) = g0 at hG f1 f2'
          generalize fd0[i2] = z at hk2 kz
          refine ⟨T, _, rfl, SqT.of upd_same, rfl, _, _, rfl, _, _, rfl, rfl, ?_⟩
          have S7 : SameB G (upd (upd H5 G (.dK [])) D (.frz od (.dK (kvsOf fd0)))) (upd H6 T (.tup [kV (kI z.1), cI z.2])) := S6.to (Same.upd nT)
          obtain ⟨us, w1, w2, w3⟩ := keepP _ S7
          refine ⟨_, rfl, b, rfl, ⟨_, SqL.of w1⟩, for_it (walk_list (xs := us.map V.ref)) (fun j σ' H' => (∃ u10 u11 u12, σ' = [some (cI r), some (cI L), some (.ref D), some (cI y.1), some (cI y.2), some (.ref b), u6, some (.ref G), some (cI z.1), some (cI z.2), u10, u11, u12]) ∧ SameB G (upd (upd H5 G (.dK [])) D (.frz od (.dK (kvsOf fd0)))) H' ∧ SameB G (upd H6 T (.tup [kV (kI z.1), cI z.2])) H' ∧ H' G = some (.dK (kvsOf (grow1 z.1 z.2 ((partsM r y.1 y.2).take j) g0)))) ⟨⟨u10, u11, u12, rfl⟩, S7, SameB.refl _ _, ?_⟩ (fun j σ' H' _ zz => SqL.of (zz.2.2.1 _ _ (ne_of_2 w1 hG gt) w1)) ?_ ?_⟩
          · rw [upd_ne gt]; exact hG
          · rintro j x σ' H8 H7 hj ⟨⟨u10, u11, u12, rfl⟩, S8, S8b, hG8⟩ ⟨rfl, hx⟩
            rw [List.length_map] at hj
            have hj2 : j < (partsM r y.1 y.2).length := by omega
            rw [List.getElem?_map, List.getElem?_eq_getElem hj] at hx
            obtain rfl := Option.some.inj hx
            have ev := List.getElem?_eq_getElem hj2
            have hv := w3 j _ _ (List.getElem?_eq_getElem hj) ev
            have hv8 := S8b _ _ (ne_of_2 hv hG gt) hv
            obtain ⟨v1, v2, v3⟩ := pl2 _ (List.getElem_mem hj2)
            obtain ⟨m1, m2⟩ := hk2 _ (List.getElem_mem hj2)
            obtain ⟨q1, q2, _⟩ := grow1_ok z.1 z.2 ((partsM r y.1 y.2).take j) g0 f1 (fun x hx => hk2 x (List.mem_of_mem_take hx))
            rw [List.length_take] at q2
            rw [grow1_take ev]
            generalize grow1 z.1 z.2 ((partsM r y.1 y.2).take j) g0 = g1 at hG8 q1 q2
            generalize (partsM r y.1 y.2)[j] = v at hv8 v1 v2 v3 m1 m2
            refine ⟨_, _, rfl, SqT.of hv8, rfl, _, _, rfl, _, _, rfl, rfl, ?_⟩
            refine ⟨_, rfl, _, rfl, z.1, v.1, rfl, by omega, by omega, by omega, ?_⟩
            refine ⟨_, rfl, G, rfl, .inl ⟨_, .inl hG8⟩, _, rfl, _, DGet.k (k := kI (Nat.lcm z.1 v.1)) hG8, _, rfl, _, rfl, _, _, rfl, rfl, .inr ⟨by omega, by omega⟩, ?_⟩
            refine ⟨(((getI g1 (Nat.lcm z.1 v.1)).getD 0 : Nat) : Int), _, ?_, rfl, _, rfl, _, rfl, G, _, rfl, DPut.k (k := kI (Nat.lcm z.1 v.1)) hG8 ?_, ?_⟩
            · rw [val_kvs]
              cases getI g1 (Nat.lcm z.1 v.1) <;> rfl
            · rw [kvs_len]; omega
            · have ev2 : V.int ((((getI g1 (Nat.lcm z.1 v.1)).getD 0 : Nat) : Int) + ((z.2 : Nat) : Int) * ((v.2 : Nat) : Int)) = cI ((getI g1 (Nat.lcm z.1 v.1)).getD 0 + z.2 * v.2) := by rw [← cI_add, Int.natCast_mul]
              refine ⟨⟨_, _, _, rfl⟩, S8.upd, S8b.upd, ?_⟩
              rw [upd_same]
              dsimp only
              rw [ev2, put_kvs]; rfl
          · rintro σ' H8 ⟨⟨u10, u11, u12, rfl⟩, S8, S8b, hG8⟩
            rw [List.length_map, w2, List.take_length] at hG8
            exact ⟨⟨_, _, _, _, _, _, rfl⟩, S8, hG8⟩
        · rintro σ' H7 ⟨⟨u6, u8, u9, u10, u11, u12, rfl⟩, S7, hG⟩
          rw [kvs_len, List.take_length] at hG
          refine ⟨S7 _ _ gD upd_same, _, rfl, ⟨G, _, _, _, _, _, _, _, _, _, _, rfl, ?_, ?_⟩, ?_⟩
          · exact ((S0.trans S1).trans (S2.trans S25)).free nG
          · rw [upd_ne (Ne.symm gD)]; exact hG
          · refine S2.trans fun c o hc => ?_
            by_cases e : c = D
            · subst e
              rw [hD] at hc
              rw [upd_same]; exact hc
            · rw [upd_ne e]
              exact keep5 H7 S7 c o (S25 _ _ hc) e
    · rintro σ' H2 ⟨⟨D, u3, u4, u5, u6, u7, u8, u9, u10, u11, u12, rfl, nD, hD⟩, S2⟩
      rw [List.length_map, t2, List.take_length] at hD
      exact ⟨_, rfl, q H2 D ((S0.trans S1).trans S2) nD hD⟩
end
end E3

set_option Elab.async false
set_option linter.all false
set_option maxRecDepth 100000
set_option maxHeartbeats 1000000
/-! rings: rings -/
namespace E3
open PySem PySem.Spec PyProof.Rows L2
open C8 (Cal Mak Met InsC pe_c pe_mt pe_mt0 call_isC clsBody)
theorem cast_back : ∀ {l : List Int}, (∀ x ∈ l, 0 ≤ x) → (l.map Int.toNat).map (fun n : Nat => (n : Int)) = l
  | [], _ => rfl
  | x :: l, h => by
    have h1 := cast_back (l := l) fun y hy => h y (List.mem_cons_of_mem _ hy)
    have h2 := h x (List.mem_cons_self ..)
    simp only [List.map_cons, h1, Int.toNat_of_nonneg h2]
theorem sorted_int {l : List Nat} {ns : List Int} (p : ns.Perm (l.map fun n : Nat => (n : Int))) (h : ns.Pairwise (· ≤ ·)) : ns = (sortI l).map fun n : Nat => (n : Int) := by
  have pos : ∀ x ∈ ns, 0 ≤ x := fun x hx => by
    obtain ⟨n, _, e⟩ := List.mem_map.mp (p.mem_iff.mp hx)
    omega
  have e := cast_back pos
  have p2 : (ns.map Int.toNat).Perm l := by
    have := p.map Int.toNat
    rw [List.map_map] at this
    have id_ : (Int.toNat ∘ fun n : Nat => (n : Int)) = id := by funext n; simp
    rw [id_, List.map_id] at this
    exact this
  have h2 : (ns.map Int.toNat).Pairwise (· ≤ ·) := by
    rw [List.pairwise_map]
    refine h.imp_of_mem fun ha hb hab => ?_
    omega
  obtain ⟨q1, q2⟩ := sortI_ok l
  rw [← sorted_eq (p2.trans q1.symm) h2 q2, e]
def spRingsM : Sp := fun vs H Q _ => ∃ r c : Nat, vs = [cI r, cI c] ∧ Tb r c ∧ cntF (facM (r * c - 1)) + 1 < sizeLine ∧ ∀ H' a, Same H H' → H a = none → PrsAt H' a (ringsM r (r * c - 1)) → Q (.ref a) H'
theorem kvs_keys (l : Dt) : (kvsOf l).map (·.1) = ((l.map (·.1)).map fun n : Nat => (n : Int)).map Sum.inl := by
  unfold kvsOf
  rw [List.map_map, List.map_map, List.map_map]; rfl
theorem ringsD_ok {r L : Nat} (hL : L < 2 ^ 40) : KeysB (ringsD r L) (2 ^ 40) ∧ (ringsD r L).length ≤ cntF (facM L) + 1 := by
  unfold ringsD
  by_cases h : 0 < L
  · rw [if_pos h]
    obtain ⟨g, hp⟩ := facM_ok h
    obtain ⟨a, b, c⟩ := places_ok g (r := r) (facM L).length
    rw [List.take_length] at a b c
    rw [hp] at a
    have a' : KeysB (placesM r (facM L)) (2 ^ 40) := fun j hj => ⟨(a j hj).1, by have := (a j hj).2; omega⟩
    exact ⟨a'.put (Nat.le_refl _) (by decide), Nat.le_trans (putI_len _ _ _) (by omega)⟩
  · rw [if_neg h]
    refine ⟨fun j hj => ?_, by have := cntF_pos (facM L); simp⟩
    have : j = 1 := by simpa using hj
    subst this
    decide
section
variable {P : Program} {w : World} {K : PySem.W.Frag} {mg : Str → Option Value} {base : Heap}
theorem scRings : FnScope ["rows", "columns", "last", "places", "length"] ["rows", "columns"] (defScope sRings) := ⟨rfl, rfl, rfl, by decide +kernel, rfl, by decide +kernel, by decide +kernel⟩
theorem ok_rings {f : Addr} {fd : FuncData} (F : Fun K "rings" "rings" sRings f fd) (B5 : Bt5 mg) (Cl : Cal P w K mg base 2 "check_lengths" spChkL []) (Pl : Cal P w K mg base 3 "places_by_length" spPlaces []) : FnOk P w K mg base CX0 4 f fd ["rows", "columns"] spRingsM := by
  refine F.ok scRings (fun vs H Q E h => ?_) (fun cdv A outer s H vs Q E hr h => ?_)
  · obtain ⟨r, c, rfl, _⟩ := h
    rfl
  · obtain ⟨r, c, rfl, hT, hc, q⟩ := h
    refine ⟨_, pss_cons (ps_expr (pe_c Cl hr (by decide) rfl (pa_cons (pv 0) (pa_cons (pv 1) pa_nil))))
      (pss_cons (ps_set (i := 2) scRings.nd rfl (Or.inl rfl) (pe_op op_sub (pe_op op_mul (pv 0) (pv 1)) pe_int))
      (pss_cons (ps_set (i := 3) scRings.nd rfl (Or.inr rfl) (pe_disp (pps_cons pe_int pe_int pps_nil) (by rfl) (by rfl) (fun z => by cases z) (by decide)))
      (pss_cons (ps_if (pt_cmpR op_gt (pv 2) pe_int (nomark _)) (pss_cons (ps_set (i := 3) scRings.nd rfl (Or.inr rfl) (pe_c Pl hr (by decide) rfl (pa_cons (pv 0) (pa_cons (pv 2) pa_nil))))
        (pss_one (ps_dput (hu_of hr) (pv 3) pe_int (pe_op op_add (pe_dget (hu_of hr) (pv 3) pe_int (fun _ _ => rfl)) pe_int) rfl))) pss_nil)
      (pss_one (ps_ret (pe_lc (own := [("length", 4)]) (g := gName 4) (tt := tYes) (te := tTupS (tCons (tVar 4) (tCons (tOp (rI CDivW fun i j => .int (i / j)) (tDGet (tVar 3) (tVar 4)) (tVar 4)) tNil))) rfl scRings.nd (pi_list (pe_callB (cr_sortedD rfl) (by rfl) B5.sorted_ (by decide +kernel) (pa_cons (pv 3) pa_nil)))
        (blkOk_by (own := [("length", 4)]) (N := ["rows", "columns", "last", "places", "length"]) (sc := defScope sRings) (by decide +kernel))
        (fun _ _ _ _ _ => pg_name (i := 4) scRings.nd rfl (Or.inl rfl)) (fun _ _ _ _ _ => pts_nil) (fun _ _ _ _ _ => by exact pe_tupS (pa_cons (pv 4) (pa_cons (pe_op op_fdivW (pe_dget (hu_of hr) (pv 3) (pv 4) (fun _ _ => rfl)) (pv 4)) pa_nil))))))))), ?_⟩
    obtain ⟨r1, c1, r2, c2⟩ := id hT
    obtain ⟨l1, l2⟩ := tb_lt hT
    refine ⟨_, rfl, _, rfl, r, c, rfl, hT, fun H1 S1 => ?_⟩
    have el := cI_last hT
    dsimp only
    refine seq_asg (te_mid (fun x H' => x = cI (r * c - 1) ∧ H1 = H') (fun R k => ⟨_, rfl, _, rfl, _, _, rfl, rfl, .inl ⟨by omega, by omega⟩, _, _, rfl, rfl, k _ _ ⟨el, rfl⟩⟩) ?_)
    rintro x _ ⟨rfl, rfl⟩
    generalize hL : r * c - 1 = L at el q hc
    have hLl : L < 2 ^ 40 := by omega
    refine seq_asg (te_mid (fun x H0 => ∃ D0, x = V.ref D0 ∧ H1 D0 = none ∧ Same H1 H0 ∧ H0 D0 = some (.dK (kvsOf [(1, 1)]))) (fun R k D0 n0 => ⟨upd_same, [(kI 1, cI 1)], rfl, by decide, k _ _ ⟨D0, rfl, n0, fun b o hb => ?_, upd_same⟩⟩) ?_)
    · rw [upd_ne (ne_of_none hb n0), upd_ne (ne_of_none hb n0)]
      exact hb
    rintro x H2 ⟨D0, rfl, n0, S2, hD0⟩
    have S12 := S1.trans S2
    refine ts_mid (fun σ' H' => ∃ D, σ' = [some (cI r), some (cI c), some (cI L), some (.ref D), none] ∧ Same H H' ∧ H' D = some (.dK (kvsOf (ringsD r L)))) (fun N k => ?_) ?_
    · refine ⟨_, rfl, _, _, rfl, rfl, _, rfl, iteD (fun hx => ?_) (fun hx => ?_)⟩
      · have h0 : 0 < L := by omega
        refine ⟨_, rfl, _, rfl, r, L, rfl, by omega, h0, hLl, by omega, fun H3 D S3 nD hD => ?_⟩
        obtain ⟨g, hp⟩ := facM_ok h0
        obtain ⟨a, b, c'⟩ := places_ok g (r := r) (facM L).length
        rw [List.take_length] at a b c'
        obtain ⟨v, hv⟩ := getI_some c'
        refine ⟨_, rfl, D, cI v, rfl, ?_, ((v : Nat) : Int), 1, rfl, rfl, _, rfl, D, _, rfl, DPut.k (k := kI 1) hD (by rw [kvs_len]; omega), ?_⟩
        · have := DGet.k (k := kI 1) hD
          rw [val_kvs, hv] at this
          exact this
        · refine k _ _ ⟨D, rfl, ?_, ?_⟩
          · intro b o hb
            rw [upd_ne (ne_of_none hb (S12.free nD))]
            exact S3 _ _ (S12 _ _ hb)
          · have ev : V.int (((v : Nat) : Int) + 1) = cI (v + 1) := cI_add v 1
            rw [upd_same]
            dsimp only
            rw [ev, put_kvs]
            unfold ringsD bumpM
            rw [if_pos h0, hv]; rfl
      · have h0 : ¬ 0 < L := by omega
        refine k _ _ ⟨D0, rfl, S12, ?_⟩
        rw [hD0]
        unfold ringsD
        rw [if_neg h0]
    · rintro σ' H3 ⟨D, rfl, S3, hD⟩
      obtain ⟨kb, kl⟩ := ringsD_ok (r := r) hLl
      refine ⟨_, rfl, D, _, _, rfl, .inl hD, kvs_keys _, fun ns' p1 p2 b H4 S4 n4 h4 => ?_⟩
      rw [sorted_int p1 p2] at h4
      have sk := sortI_ok ((ringsD r L).map (·.1))
      have hrl : (ringsM r L).length = (sortI ((ringsD r L).map (·.1))).length := by unfold ringsM; rw [List.length_map]
      refine ⟨b, rfl, ⟨_, SqL.of h4⟩, fun Dl nDl => lc_it (walk_list (xs := (List.map (fun n : Nat => (n : Int)) (sortI ((ringsD r L).map (·.1)))).map V.int)) (fun i H' => SameB Dl H4 H' ∧ PrsAt H' Dl ((ringsM r L).take i)) ⟨fun c o nc hc => by rw [upd_ne nc]; exact hc, .nil upd_same⟩ (fun i H' _ z => SqL.of (z.1 _ _ (ne_of_none h4 nDl) h4)) ?_ ?_⟩
      · rintro i x H5 H6 hi ⟨S5, pr⟩ ⟨rfl, hx⟩
        rw [List.length_map, List.length_map] at hi
        rw [List.getElem?_map, List.getElem?_map, List.getElem?_eq_getElem hi] at hx
        obtain rfl := Option.some.inj hx
        have hm : (sortI ((ringsD r L).map (·.1)))[i] ∈ (ringsD r L).map (·.1) := sk.1.mem_iff.mp (List.getElem_mem hi)
        have hri : (ringsM r L)[i]? = some ((sortI ((ringsD r L).map (·.1)))[i], ((getI (ringsD r L) ((sortI ((ringsD r L).map (·.1)))[i])).getD 0) / (sortI ((ringsD r L).map (·.1)))[i]) := by
          unfold ringsM
          rw [List.getElem?_map, List.getElem?_eq_getElem hi]; rfl
        generalize (sortI ((ringsD r L).map (·.1)))[i] = n at hm hri
        obtain ⟨n1, n2⟩ := kb n hm
        obtain ⟨v, hv⟩ := getI_some hm
        rw [hv] at hri
        have hD5 : H6 D = some (.dK (kvsOf (ringsD r L))) := S5 _ _ (ne_of_none (S4 _ _ hD) nDl) (S4 _ _ hD)
        obtain ⟨ts, t1, t2, t3⟩ := pr
        refine ⟨rfl, iteT (B := False) ⟨_, rfl, _, rfl, _, rfl, D, cI v, rfl, ?_, _, rfl, _, _, rfl, rfl, ⟨by show (0 : Int) < ((n : Nat) : Int); omega, ?_⟩, (by show 2 ≤ sizeLine; decide), fun t H7 S7 n7 h7 => ?_⟩⟩
        · have := DGet.k (k := kI n) hD5
          rw [val_kvs, hv] at this
          exact this
        · have := PySem.Flt.log2_lt_of (k := 41) (n := ((n : Nat) : Int).natAbs) (by decide) (by rw [Int.natAbs_natCast]; omega)
          show ((n : Nat) : Int).natAbs.log2 < 9000
          omega
        · have t1' := S7 _ _ t1
          refine ⟨_, t1', ?_, ?_, ?_⟩
          · rw [List.length_map, t2, List.length_take]
            have := sk.1.length_eq
            rw [List.length_map] at this
            omega
          · exact (S5.to S7).upd
          · rw [List.take_succ, hri]
            refine .snoc t1' t2 (fun i u z e1 e2 => S7 _ _ (t3 i u z e1 e2)) ?_
            rw [h7]
            exact congrArg (fun z => some (HO.tup [cI n, z])) (cI_div v n)
      · rintro H5 ⟨S5, pr⟩
        rw [List.length_map, List.length_map, ← hrl, List.take_length] at pr
        exact q H5 Dl (S5.toSame (S3.trans S4) ((S3.trans S4).free nDl)) ((S3.trans S4).free nDl) pr
end
end E3

set_option Elab.async false
set_option linter.all false
set_option maxRecDepth 100000
set_option maxHeartbeats 1000000
/-! rings: what is refused -/
namespace E3
open PySem PySem.Spec PyProof.Rows L2
open C8 (Cal Mak Met InsC pe_c pe_mt pe_mt0 call_isC clsBody)
/-- objects that may be handed in -/
inductive OddV (H : Hp) : V → Prop
  | int (i : Int) : OddV H (.int i)
  | bl (b : Bool) : OddV H (.bl b)
  | non : OddV H .non
  | str (z : Str) : OddV H (.str z)
  | lst {a : Addr} {xs : List V} (h : H a = some (.lst xs)) : OddV H (.ref a)
  | tup {a : Addr} {xs : List V} (h : H a = some (.tup xs)) : OddV H (.ref a)
  | dct {a : Addr} {xs : List (Key × V)} (h : H a = some (.dK xs)) : OddV H (.ref a)
theorem OddV.same {H H' : Hp} {v : V} (S : Same H H') : OddV H v → OddV H' v
  | .int i => .int i
  | .bl b => .bl b
  | .non => .non
  | .str z => .str z
  | .lst h => .lst (S _ _ h)
  | .tup h => .tup (S _ _ h)
  | .dct h => .dct (S _ _ h)
def isW : V → Bool
  | .int _ => true
  | _ => false
def posB : V → Bool
  | .int i => decide (1 ≤ i)
  | _ => false
def cntB : V → Bool
  | .int i => decide (0 ≤ i)
  | _ => false
theorem isW_true {v : V} (h : isW v = true) : ∃ n, v = .int n := by
  cases v <;> first | exact ⟨_, rfl⟩ | cases h
theorem isW_false {v : V} (h : isW v = false) : posB v = false := by
  cases v <;> first | rfl | cases h
theorem cntB_true {v : V} (h : cntB v = true) : ∃ n : Int, v = .int n ∧ 0 ≤ n := by
  cases v <;> first | exact ⟨_, rfl, of_decide_eq_true h⟩ | cases h
def spWhV : Sp := fun vs H Q _ => ∃ v : V, vs = [v] ∧ OddV H v ∧ Q (.bl (isW v)) H
def spCntV : Sp := fun vs H Q _ => ∃ v : V, vs = [v] ∧ OddV H v ∧ Q (.bl (cntB v)) H
/-- InvalidNumber of this object -/
def Rz (CN : Addr) (E : XK) (H : Hp) (v : V) : Prop := ∀ d H', Same H H' → H d = none → H' d = some (.xd [("value", v)]) → E (.ref CN) (some d) H'
theorem Rz.up {CN : Addr} {E : XK} {H H1 : Hp} {v : V} (h : Rz CN E H v) (S : Same H H1) : Rz CN E H1 v := fun d H' S' n e => h d H' (S.trans S') (S.free n) e
def spChkLX (CN : Addr) : Sp := fun vs H Q E => ∃ r c : V, vs = [r, c] ∧ OddV H r ∧ OddV H c ∧ (posB r = true → posB c = true → ∀ H', Same H H' → Q .non H') ∧ (posB r = false → Rz CN E H r) ∧ (posB r = true → posB c = false → Rz CN E H c)
def spChkPX (CN : Addr) : Sp := fun vs H Q E => ∃ r c p : V, vs = [r, c, p] ∧ OddV H r ∧ OddV H c ∧ OddV H p ∧ (posB r = false → Rz CN E H r) ∧ (posB r = true → posB c = false → Rz CN E H c) ∧
  (posB r = true → posB c = true → ∃ a b : Nat, r = cI a ∧ c = cI b ∧ Tb a b ∧ ((∃ q : Nat, p = cI q ∧ q < a * b ∧ ∀ H', Same H H' → Q .non H') ∨ (Rz CN E H p ∧ ∀ q : Nat, p = cI q → a * b ≤ q)))
def spTurnX (CN : Addr) : Sp := fun vs H Q E => ∃ r c p t : V, vs = [r, c, p, t] ∧ OddV H r ∧ OddV H c ∧ OddV H p ∧ OddV H t ∧ (posB r = false → Rz CN E H r) ∧ (posB r = true → posB c = false → Rz CN E H c) ∧
  (posB r = true → posB c = true → ∃ a b : Nat, r = cI a ∧ c = cI b ∧ Tb a b ∧ ((∃ q : Nat, p = cI q ∧ q < a * b ∧ cntB t = false ∧ Rz CN E H t) ∨ (Rz CN E H p ∧ ∀ q : Nat, p = cI q → a * b ≤ q)))
def spRingX (CN : Addr) : Sp := fun vs H Q E => ∃ r c p : V, vs = [r, c, p] ∧ OddV H r ∧ OddV H c ∧ OddV H p ∧ (posB r = false → Rz CN E H r) ∧ (posB r = true → posB c = false → Rz CN E H c) ∧
  (posB r = true → posB c = true → ∃ a b : Nat, r = cI a ∧ c = cI b ∧ Tb a b ∧ Rz CN E H p ∧ ∀ q : Nat, p = cI q → a * b ≤ q)
def spRingsX (CN : Addr) : Sp := fun vs H Q E => ∃ r c : V, vs = [r, c] ∧ OddV H r ∧ OddV H c ∧ (posB r = false → Rz CN E H r) ∧ (posB r = true → posB c = false ∧ Rz CN E H c)
section
variable {P : Program} {w : World} {K : PySem.W.Frag} {mg : Str → Option Value} {base : Heap} {CN : Addr}
theorem kit_bi : PySem.W.kitOne K (.type "bool") (.type "int") = some true := by kernel_rfl
theorem kit_bb : PySem.W.kitOne K (.type "bool") (.type "bool") = some true := by kernel_rfl
theorem kit_ni : PySem.W.kitOne K (.type "NoneType") (.type "int") = some false := by kernel_rfl
theorem kit_si : PySem.W.kitOne K (.type "str") (.type "int") = some false := by kernel_rfl
theorem kit_li : PySem.W.kitOne K (.type "list") (.type "int") = some false := by kernel_rfl
theorem kit_ti : PySem.W.kitOne K (.type "tuple") (.type "int") = some false := by kernel_rfl
theorem kit_di : PySem.W.kitOne K (.type "dict") (.type "int") = some false := by kernel_rfl
theorem ok_wholeV {f : Addr} {fd : FuncData} (F : Fun K "is_whole" "is_whole" sWhole f fd) (B : Bt5 mg) : FnOk P w K mg base CX0 1 f fd ["value"] spWhV := by
  refine F.ok scWhole (fun vs H Q E h => ?_) (fun cdv A outer s H vs Q E hr h => ?_)
  · obtain ⟨v, rfl, _⟩ := h
    rfl
  · obtain ⟨v, rfl, ho, q⟩ := h
    refine ⟨_, (pss_one (ps_ret (pe_and (pe_callB call_isi (by rfl) B.isi (by decide +kernel) (pa_cons (pv 0) (pa_cons (pe_bltn (v := .ty "int") (by rfl) B.int_ (by decide +kernel) rfl) pa_nil))) (pe_one (pe_not (pe_callB call_isi (by rfl) B.isi (by decide +kernel) (pa_cons (pv 0) (pa_cons (pe_bltn (v := .ty "bool") (by rfl) B.bool_ (by decide +kernel) rfl) pa_nil)))))))), ?_⟩
    cases ho with
    | int i =>
      refine ⟨_, rfl, _, _, _, _, true, rfl, .ty "int", .base (.int i), kit_ii, true, rfl, iteT (B := False) ?_⟩
      exact ⟨_, rfl, _, _, _, _, false, rfl, .ty "bool", .base (.int i), kit_ib, false, rfl, q⟩
    | bl b =>
      refine ⟨_, rfl, _, _, _, _, true, rfl, .ty "int", .base (.bl b), kit_bi, true, rfl, iteT (B := False) ?_⟩
      exact ⟨_, rfl, _, _, _, _, true, rfl, .ty "bool", .base (.bl b), kit_bb, true, rfl, q⟩
    | non => exact ⟨_, rfl, _, _, _, _, false, rfl, .ty "int", .base .non, kit_ni, false, rfl, iteF q⟩
    | str z => exact ⟨_, rfl, _, _, _, _, false, rfl, .ty "int", .base (.str z), kit_si, false, rfl, iteF q⟩
    | lst h => exact ⟨_, rfl, _, _, _, _, false, rfl, .ty "int", .base (.lst h), kit_li, false, rfl, iteF q⟩
    | tup h => exact ⟨_, rfl, _, _, _, _, false, rfl, .ty "int", .base (.tup h), kit_ti, false, rfl, iteF q⟩
    | dct h => exact ⟨_, rfl, _, _, _, _, false, rfl, .ty "int", .base (.dK h), kit_di, false, rfl, iteF q⟩
theorem ok_countV {f : Addr} {fd : FuncData} (F : Fun K "is_count" "is_count" sCount f fd) (Wh : Cal P w K mg base 1 "is_whole" spWhV []) : FnOk P w K mg base CX0 2 f fd ["value"] spCntV := by
  refine F.ok scCount (fun vs H Q E h => ?_) (fun cdv A outer s H vs Q E hr h => ?_)
  · obtain ⟨v, rfl, _⟩ := h
    rfl
  · obtain ⟨v, rfl, ho, q⟩ := h
    refine ⟨_, (pss_one (ps_ret (pe_and (pe_c Wh hr (by decide) rfl (pa_cons (pv 0) pa_nil)) (pe_one (pe_cmpR op_ge (pv 0) pe_int (nomark _)))))), ?_⟩
    refine ⟨_, rfl, _, rfl, ho, ?_⟩
    cases ho with
    | int i => exact ⟨true, rfl, iteT (B := False) ⟨_, rfl, _, _, rfl, rfl, q⟩⟩
    | _ => exact ⟨false, rfl, iteF q⟩
theorem ok_chkLX {f : Addr} {fd : FuncData} (F : Fun K "check_lengths" "check_lengths" sChkL f fd) (Wh : Cal P w K mg base 1 "is_whole" spWhV []) (T : ExR P w K mg base "InvalidNumber" CN "value") : FnOk P w K mg base (L2.CX P w) 3 f fd ["rows", "columns"] (spChkLX CN) := by
  refine F.okX scChkL (fun vs H Q E h => ?_) (fun cdv A outer s H vs Q E hr h => ?_)
  · obtain ⟨r, c, rfl, _⟩ := h
    rfl
  · obtain ⟨r, c, rfl, hor, hoc, good, bad1, bad2⟩ := h
    have tk : Takes (cxOf (L2.CX P w) P w K mg base ["rows", "columns", "value"] "check_lengths" (defScope sChkL) f cdv A outer s H E) (fun cls d _ H => E cls d H) := takes_of rfl rfl rfl rfl
    refine ⟨_, (pss_one (ps_for (passes_of rfl) rfl (pi_list (pe_lstS (pa_cons (pv 0) (pa_cons (pv 1) pa_nil)))) (pg_name (i := 2) scChkL.nd rfl (Or.inl rfl))
        (pss_one (ps_if (PW.pt (pw_or (pt_not (pt_val (pe_c Wh hr (by decide) rfl (pa_cons (pv 2) pa_nil)))) (pw_or1 (pt_cmpR op_lt (pv 2) pe_int (nomark _))))) (pss_one (ps_raise1 rfl tk T (hr.mono (by decide)) rfl (pv 2))) pss_nil)))), ?_⟩
    refine ⟨_, rfl, _, rfl, (by show 2 ≤ sizeLine; decide), fun l H1 S1 n1 h1 => ?_⟩
    refine ⟨l, rfl, ⟨_, SqL.of h1⟩, for_it (walk_list (xs := [r, c])) (fun i σ' H' => (∃ u, σ' = [some r, some c, u]) ∧ Same H1 H' ∧ (1 ≤ i → posB r = true) ∧ (2 ≤ i → posB c = true)) ⟨⟨none, rfl⟩, Same.refl _, fun h => absurd h (by decide), fun h => absurd h (by decide)⟩ (fun i σ' H' _ p => SqL.of (p.2.1 _ _ h1)) ?_ ?_⟩
    · rintro i x σ' H2 H3 hi ⟨⟨u, rfl⟩, S2, g1, g2⟩ ⟨rfl, hx⟩
      have S12 := S1.trans S2
      have hi2 : i < 2 := hi
      obtain ⟨ho, hb, hg⟩ : OddV H3 x ∧ (posB x = false → Rz CN E H3 x) ∧ (posB x = true → (1 ≤ i + 1 → posB r = true) ∧ (2 ≤ i + 1 → posB c = true)) := by
        match i, hi2, hx with
        | 0, _, hx =>
          cases hx
          exact ⟨hor.same S12, fun h => (bad1 h).up S12, fun h => ⟨fun _ => h, fun h => absurd h (by decide)⟩⟩
        | 1, _, hx =>
          cases hx
          exact ⟨hoc.same S12, fun h => (bad2 (g1 (Nat.le_refl _)) h).up S12, fun h => ⟨fun _ => g1 (Nat.le_refl _), fun _ => h⟩⟩
      refine ⟨_, rfl, _, rfl, ho, _, rfl, ?_⟩
      cases hw : isW x with
      | false =>
        have hp := isW_false hw
        exact ifT rfl (ifT rfl ⟨_, rfl, hb hp⟩)
      | true =>
        obtain ⟨n, rfl⟩ := isW_true hw
        refine ifF rfl ⟨_, rfl, _, _, rfl, rfl, _, rfl, ?_⟩
        by_cases c1 : 1 ≤ n
        · obtain ⟨e1, e2⟩ := hg (decide_eq_true c1)
          rw [decide_eq_false (by omega)]
          exact ifF rfl ⟨⟨_, rfl⟩, S2, e1, e2⟩
        · rw [decide_eq_true (by omega)]
          exact ifT rfl ⟨_, rfl, hb (decide_eq_false c1)⟩
    · rintro σ' H2 ⟨_, S2, g1, g2⟩
      exact good (g1 (by show 1 ≤ 2; decide)) (g2 (Nat.le_refl 2)) H2 (S1.trans S2)
theorem ok_chkPX {f : Addr} {fd : FuncData} (F : Fun K "check_place" "check_place" sChkP f fd) (L : CalX P w K mg base 3 "check_lengths" (spChkLX CN) []) (Cn : Cal P w K mg base 2 "is_count" spCntV []) (T : ExR P w K mg base "InvalidNumber" CN "value") : FnOk P w K mg base (L2.CX P w) 4 f fd ["rows", "columns", "place"] (spChkPX CN) := by
  refine F.okX scChkP (fun vs H Q E h => ?_) (fun cdv A outer s H vs Q E hr h => ?_)
  · obtain ⟨r, c, p, rfl, _⟩ := h
    rfl
  · obtain ⟨r, c, p, rfl, hor, hoc, hop, b1, b2, g⟩ := h
    have tk : Takes (cxOf (L2.CX P w) P w K mg base ["rows", "columns", "place"] "check_place" (defScope sChkP) f cdv A outer s H E) (fun cls d _ H => E cls d H) := takes_of rfl rfl rfl rfl
    refine ⟨_, (pss_cons (ps_expr (pe_cX tk L hr (by decide) rfl (pa_cons (pv 0) (pa_cons (pv 1) pa_nil))))
      (pss_one (ps_if (PW.pt (pw_or (pt_not (pt_val (pe_c Cn hr (by decide) rfl (pa_cons (pv 2) pa_nil)))) (pw_or1 (pt_cmpR op_ge (pv 2) (pe_op op_mul (pv 0) (pv 1)) (nomark _))))) (pss_one (ps_raise1 rfl tk T (hr.mono (by decide)) rfl (pv 2))) pss_nil))), ?_⟩
    refine ⟨_, rfl, _, rfl, r, c, rfl, hor, hoc, fun h1 h2 H1 S1 => ?_, b1, b2⟩
    obtain ⟨a, b, rfl, rfl, hT, gp⟩ := g h1 h2
    obtain ⟨r1, c1, r2, c2⟩ := id hT
    refine ⟨_, rfl, _, rfl, hop.same S1, _, rfl, ?_⟩
    rcases gp with ⟨q, rfl, hq, k⟩ | ⟨kz, far⟩
    · have e0 : cntB (cI q) = true := decide_eq_true (p := (0 : Int) ≤ ((q : Nat) : Int)) (by omega)
      rw [e0]
      refine ifF rfl ⟨_, rfl, _, rfl, _, rfl, _, _, rfl, rfl, .inl ⟨by omega, by omega⟩, _, _, rfl, rfl, _, rfl, ?_⟩
      rw [decide_eq_false (by
        have h0 : ((q : Nat) : Int) < ((a * b : Nat) : Int) := Int.ofNat_lt.mpr hq
        rw [Int.natCast_mul] at h0
        omega)]
      exact ifF rfl (k H1 S1)
    · cases hw : cntB p with
      | false => exact ifT rfl (ifT rfl ⟨_, rfl, kz.up S1⟩)
      | true =>
        obtain ⟨n, rfl, n0⟩ := cntB_true hw
        have hf := far n.toNat (by unfold cI; rw [Int.toNat_of_nonneg n0])
        refine ifF rfl ⟨_, rfl, _, rfl, _, rfl, _, _, rfl, rfl, .inl ⟨by omega, by omega⟩, _, _, rfl, rfl, _, rfl, ?_⟩
        rw [decide_eq_true (by
          have h0 : ((a * b : Nat) : Int) ≤ ((n.toNat : Nat) : Int) := Int.ofNat_le.mpr hf
          rw [Int.natCast_mul, Int.toNat_of_nonneg n0] at h0
          omega)]
        exact ifT rfl ⟨_, rfl, kz.up S1⟩
theorem ok_turnedX {f : Addr} {fd : FuncData} (F : FunD K "turned" "turned" (defArgs sTurned) (defBody sTurned) (defScope sTurned) [.int 1] [] f fd) (Cp : CalX P w K mg base 4 "check_place" (spChkPX CN) []) (Cn : Cal P w K mg base 2 "is_count" spCntV []) (T : ExR P w K mg base "InvalidNumber" CN "value") : FnOk P w K mg base (L2.CX P w) 5 f fd ["rows", "columns", "place", "times"] (spTurnX CN) := by
  refine F.ok (CX := L2.CX P w) scTurned (fun vs H Q E h => ?_) (fun cdv A outer s H vs Q E hr h => ?_)
  · obtain ⟨r, c, p, t, rfl, _⟩ := h
    rfl
  · obtain ⟨r, c, p, t, rfl, hor, hoc, hop, hot, b1, b2, g⟩ := h
    have tk : Takes (cxOf (L2.CX P w) P w K mg base ["rows", "columns", "place", "times", "last"] "turned" (defScope sTurned) f cdv A outer s H E) (fun cls d _ H => E cls d H) := takes_of rfl rfl rfl rfl
    refine ⟨_, (pss_cons (ps_expr (pe_cX tk Cp hr (by decide) rfl (pa_cons (pv 0) (pa_cons (pv 1) (pa_cons (pv 2) pa_nil)))))
      (pss_cons (ps_if (pt_not (pt_val (pe_c Cn hr (by decide) rfl (pa_cons (pv 3) pa_nil)))) (pss_one (ps_raise1 rfl tk T (hr.mono (by decide)) rfl (pv 3))) pss_nil)
      (pss_cons ps_never
      (pss_cons ps_never
      (pss_one ps_never))))), ?_⟩
    refine ⟨_, rfl, _, rfl, _, rfl, r, c, p, rfl, hor, hoc, hop, b1, b2, fun h1 h2 => ?_⟩
    obtain ⟨a, b, rfl, rfl, hT, gp⟩ := g h1 h2
    refine ⟨a, b, rfl, rfl, hT, ?_⟩
    rcases gp with ⟨q, rfl, hq, ht, kz⟩ | ⟨kz, far⟩
    · refine .inl ⟨q, rfl, hq, fun H1 S1 => ⟨_, rfl, _, rfl, hot.same S1, _, rfl, ?_⟩⟩
      rw [ht]
      exact ifT rfl ⟨_, rfl, kz.up S1⟩
    · exact .inr ⟨kz, far⟩
theorem ok_ringX {f : Addr} {fd : FuncData} (F : Fun K "ring_length" "ring_length" sRingLen f fd) (Cp : CalX P w K mg base 4 "check_place" (spChkPX CN) []) : FnOk P w K mg base (L2.CX P w) 5 f fd ["rows", "columns", "place"] (spRingX CN) := by
  refine F.okX scRingLen (fun vs H Q E h => ?_) (fun cdv A outer s H vs Q E hr h => ?_)
  · obtain ⟨r, c, p, rfl, _⟩ := h
    rfl
  · obtain ⟨r, c, p, rfl, hor, hoc, hop, b1, b2, g⟩ := h
    have tk : Takes (cxOf (L2.CX P w) P w K mg base ["rows", "columns", "place", "last", "found", "prime", "many"] "ring_length" (defScope sRingLen) f cdv A outer s H E) (fun cls d _ H => E cls d H) := takes_of rfl rfl rfl rfl
    refine ⟨_, (pss_cons (ps_expr (pe_cX tk Cp hr (by decide) rfl (pa_cons (pv 0) (pa_cons (pv 1) (pa_cons (pv 2) pa_nil)))))
      (pss_cons ps_never
      (pss_cons ps_never
      (pss_cons ps_never
      (pss_cons ps_never
      (pss_one ps_never)))))), ?_⟩
    refine ⟨_, rfl, _, rfl, _, rfl, r, c, p, rfl, hor, hoc, hop, b1, b2, fun h1 h2 => ?_⟩
    obtain ⟨a, b, rfl, rfl, hT, kz, far⟩ := g h1 h2
    exact ⟨a, b, rfl, rfl, hT, .inr ⟨kz, far⟩⟩
theorem ok_ringsX {f : Addr} {fd : FuncData} (F : Fun K "rings" "rings" sRings f fd) (Cl : CalX P w K mg base 3 "check_lengths" (spChkLX CN) []) : FnOk P w K mg base (L2.CX P w) 5 f fd ["rows", "columns"] (spRingsX CN) := by
  refine F.okX scRings (fun vs H Q E h => ?_) (fun cdv A outer s H vs Q E hr h => ?_)
  · obtain ⟨r, c, rfl, _⟩ := h
    rfl
  · obtain ⟨r, c, rfl, hor, hoc, b1, b2⟩ := h
    have tk : Takes (cxOf (L2.CX P w) P w K mg base ["rows", "columns", "last", "places", "length"] "rings" (defScope sRings) f cdv A outer s H E) (fun cls d _ H => E cls d H) := takes_of rfl rfl rfl rfl
    refine ⟨_, (pss_cons (ps_expr (pe_cX tk Cl hr (by decide) rfl (pa_cons (pv 0) (pa_cons (pv 1) pa_nil))))
      (pss_cons ps_never
      (pss_cons ps_never
      (pss_cons ps_never
      (pss_one ps_never))))), ?_⟩
    refine ⟨_, rfl, _, rfl, r, c, rfl, hor, hoc, fun h1 h2 => ?_, b1, fun h1 h2 => (b2 h1).2⟩
    rw [(b2 h1).1] at h2
    cases h2
end
end E3

set_option Elab.async false
set_option linter.all false
set_option maxRecDepth 100000
set_option maxHeartbeats 1000000
/-! repr of any data -/
namespace L2
open PySem PySem.Spec PyProof.Rows
def rReprA (K : PySem.W.Frag) : List V → Hp → VK → Prop := fun xs H Q => ∃ (v : V) (d : PyData), xs = [v] ∧ Shw K H v d ∧ d.showable = true ∧ d.depth ≤ 20 ∧ d.shown.length ≤ sizeLine ∧ Q (.str d.shown) H
theorem call_reprA {X : Cx} (hg : X.A.guards = some []) (hu : X.A.units + 64 < cLine) : CallR X (.builtin "repr") (rReprA X.K) := by
  rintro pins s σ H xs us Q I r ⟨v, d, rfl, hv, hs, hd, hz, q⟩
  obtain ⟨u, rfl, rv⟩ := vals1 r
  have byRef : ∀ {a : Addr}, v = .ref a → wpAny (model X.prog X.w) X.A (call (.builtin "repr") [u]) (EP X pins σ Q) X.xe s := fun {a} e => by
    subst e
    obtain rfl : u = Value.ref a := rv
    obtain ⟨as, ro, na⟩ := hv.reads I (u := .ref a) rfl
    exact repr_of_reads' ro hs na hg (by omega) (fun _ _ e => e) (fun h' u tk k => ⟨.str _, H, I.kept (t' := tk) k, ⟨u, rfl⟩, q⟩) hz
  cases hv with
  | d0 h => exact byRef rfl
  | d1 h => exact byRef rfl
  | dp h n =>
    cases h with
    | non =>
      obtain rfl : u = Value.none := rv
      have e : (PyData.none).shown = ("None" : Str) := by simp only [PyData.shown]
      rw [e] at q
      exact PySem.P.repr_of_none ⟨.str _, H, I.tok _, ⟨_, rfl⟩, q⟩
    | bl b =>
      obtain rfl : u = Value.bool b := rv
      have e : (PyData.bool b).shown = (if b then ("True" : Str) else ("False" : Str)) := by simp only [PyData.shown]
      rw [e] at q
      exact PySem.P.repr_of_bool ⟨.str _, H, I.tok _, ⟨_, rfl⟩, q⟩
    | int i =>
      obtain ⟨t, rfl⟩ := rv
      have e : (PyData.int i).shown = ((toString i : String) : Str) := by simp only [PyData.shown]
      rw [e] at q
      have hb : i.natAbs.log2 < 1920 := of_decide_eq_true (by simpa only [PyData.showable] using hs)
      exact PySem.P.repr_of_int hb ⟨.str _, H, I.tok _, ⟨_, rfl⟩, q⟩
    | str z =>
      obtain ⟨t, rfl⟩ := rv
      have e : (PyData.str z).shown = reprText z := by unfold PyData.shown; rfl
      rw [e] at q hz
      exact PySem.P.repr_of_str ⟨.str _, H, I.tok _, ⟨_, rfl⟩, q⟩ hz
    | _ => exact byRef rfl
end L2

set_option Elab.async false
set_option linter.all false
set_option maxRecDepth 100000
set_option maxHeartbeats 1000000
/-! _law_called, _law_is -/
namespace E3
open PySem PySem.Spec PyProof.Rows L2
open C8 (Cal Mak Met InsC pe_c pe_mt pe_mt0 call_isC clsBody)
abbrev sCalled : Stmt := top 22
abbrev sIs : Stmt := top 23
/-- what the rings' errors are to the law -/
structure ExU (K : PySem.W.Frag) (mg : Str → Option Value) (CN CE : Addr) : Prop where
  mgC : mg "InvalidNumber" = some (.ref CN)
  mgE : mg "CellError" = some (.ref CE)
  xc : ExcC K CN
  noF : PySem.W.findIn K (.ref CN) "value" = some none
  ex : PySem.W.exmOne K (.ref CN) (.ref CE) = some true
  is : PySem.W.kitOne K (.ref CN) (.ref CN) = some true
  isN : PySem.W.kitOne K (.type "NoneType") (.ref CN) = some false
def spTurn (CN : Addr) : Sp := fun vs H Q E => spTurnM vs H Q E ∨ spTurnX CN vs H Q E
def spRing (CN : Addr) : Sp := fun vs H Q E => spRingM vs H Q E ∨ spRingX CN vs H Q E
def spRings (CN : Addr) : Sp := fun vs H Q E => spRingsM vs H Q E ∨ spRingsX CN vs H Q E
/-- a place of the table -/
def okP : V → V → V → Bool
  | .int a, .int b, .int q => decide (0 ≤ q) && decide (q < a * b)
  | _, _, _ => false
/-- the object that is refused, if one is -/
def refV (way : Int) (r c p x : V) : Option V :=
  if posB r = false then some r else if posB c = false then some c else if way = 2 then none else if okP r c p = false then some p else if way = 0 ∧ cntB x = false then some x else none
theorem ref_1 {way : Int} {r c p x : V} (h1 : posB r = false) : refV way r c p x = some r := if_pos h1
theorem ref_2 {way : Int} {r c p x : V} (h1 : posB r = true) (h2 : posB c = false) : refV way r c p x = some c := by
  unfold refV
  rw [if_neg (by rw [h1]; decide), if_pos h2]
theorem ref_5 {r c p x : V} (h1 : posB r = true) (h2 : posB c = true) : refV 2 r c p x = none := by
  unfold refV
  rw [if_neg (by rw [h1]; decide), if_neg (by rw [h2]; decide), if_pos rfl]
theorem ref_3 {way : Int} {r c p x : V} (h1 : posB r = true) (h2 : posB c = true) (hw : way ≠ 2) (h3 : okP r c p = false) : refV way r c p x = some p := by
  unfold refV
  rw [if_neg (by rw [h1]; decide), if_neg (by rw [h2]; decide), if_neg hw, if_pos h3]
theorem ref_4 {r c p x : V} (h1 : posB r = true) (h2 : posB c = true) (h3 : okP r c p = true) (h4 : cntB x = false) : refV 0 r c p x = some x := by
  unfold refV
  rw [if_neg (by rw [h1]; decide), if_neg (by rw [h2]; decide), if_neg (by decide), if_neg (by rw [h3]; decide), if_pos ⟨rfl, h4⟩]
theorem ref_6 {way : Int} {r c p x : V} (h1 : posB r = true) (h2 : posB c = true) (h3 : okP r c p = true) (hw : way ≠ 2) (h4 : ¬ (way = 0 ∧ cntB x = false)) : refV way r c p x = none := by
  unfold refV
  rw [if_neg (by rw [h1]; decide), if_neg (by rw [h2]; decide), if_neg hw, if_neg (by rw [h3]; decide), if_neg h4]
theorem ref_none {way : Int} {r c p x : V} (h : refV way r c p x = none) (hw : way ≠ 2) : posB r = true ∧ posB c = true ∧ okP r c p = true := by
  cases h1 : posB r with
  | false => rw [ref_1 h1] at h; cases h
  | true => cases h2 : posB c with
    | false => rw [ref_2 h1 h2] at h; cases h
    | true => cases h3 : okP r c p with
      | false => rw [ref_3 h1 h2 hw h3] at h; cases h
      | true => exact ⟨rfl, rfl, rfl⟩
theorem ref_none2 {r c p x : V} (h : refV 2 r c p x = none) : posB r = true ∧ posB c = true := by
  cases h1 : posB r with
  | false => rw [ref_1 h1] at h; cases h
  | true => cases h2 : posB c with
    | false => rw [ref_2 h1 h2] at h; cases h
    | true => exact ⟨rfl, rfl⟩
theorem okP_true {a b : Nat} {p : V} (h : okP (cI a) (cI b) p = true) : ∃ q : Nat, p = cI q ∧ q < a * b := by
  cases p with
  | int n =>
    have h : (decide (0 ≤ n) && decide (n < (a : Int) * (b : Int))) = true := h
    simp only [Bool.and_eq_true, decide_eq_true_eq] at h
    refine ⟨n.toNat, by unfold cI; rw [Int.toNat_of_nonneg h.1], ?_⟩
    have e : ((a * b : Nat) : Int) = (a : Int) * (b : Int) := Int.natCast_mul a b
    omega
  | _ => cases h
theorem okP_false {a b : Nat} {p : V} (h : okP (cI a) (cI b) p = false) : ∀ q : Nat, p = cI q → a * b ≤ q := by
  rintro q rfl
  have h : (decide ((0 : Int) ≤ ((q : Nat) : Int)) && decide (((q : Nat) : Int) < (a : Int) * (b : Int))) = false := h
  have e : ((a * b : Nat) : Int) = (a : Int) * (b : Int) := Int.natCast_mul a b
  rw [decide_eq_true (by omega), Bool.true_and] at h
  have := of_decide_eq_false h
  omega
def spCalled : Sp := fun vs H Q _ => ∃ (way : Int) (t : Addr) (r c p x : V), vs = [.int way, .ref t] ∧ 0 ≤ way ∧ way ≤ 3 ∧ H t = some (.tup [r, c, p, x]) ∧ OddV H r ∧ OddV H c ∧ OddV H p ∧ OddV H x ∧
  (posB r = true → posB c = true → ∃ a b : Nat, r = cI a ∧ c = cI b ∧ Tb a b ∧ (way = 2 → cntF (facM (a * b - 1)) + 1 < sizeLine)) ∧ (∀ n, x = .int n → n < 2 ^ 200) ∧
  (refV way r c p x = none → ∀ H', Same H H' → Q .non H') ∧ ∀ v, refV way r c p x = some v → ∀ H' l, Same H H' → H l = none → H' l = some (.lst [.str "number", v]) → Q (.ref l) H'
section
variable {P : Program} {w : World} {K : PySem.W.Frag} {mg : Str → Option Value} {base : Heap} {CN CE : Addr}
theorem scCalled : FnScope ["_law_way", "_law_parts", "_law_caught", "error"] ["_law_way", "_law_parts"] (defScope sCalled) := ⟨rfl, rfl, rfl, by decide +kernel, rfl, by decide +kernel, by decide +kernel⟩
theorem ok_called {f : Addr} {fd : FuncData} (F : Fun K "_law_called" "_law_called" sCalled f fd) (B : Bt5 mg) (U : ExU K mg CN CE) (Tu : CalX P w K mg base 5 "turned" (spTurn CN) []) (TuD : CalX P w K mg base 5 "turned" (spTurn CN) [.int 1]) (Rl : CalX P w K mg base 5 "ring_length" (spRing CN) []) (Rs : CalX P w K mg base 5 "rings" (spRings CN) []) : FnOk P w K mg base CX0 6 f fd ["_law_way", "_law_parts"] spCalled := by
  refine F.ok scCalled (fun vs H Q E h => ?_) (fun cdv A outer s H vs Q E hr h => ?_)
  · obtain ⟨way, t, r, c, p, x, rfl, _⟩ := h
    rfl
  · obtain ⟨way, t, r, c, p, x, rfl, w0, w3, ht, hor, hoc, hop, hox, gd, xb, k1, k2⟩ := h
    refine ⟨_, (pss_cons (ps_set (i := 2) scCalled.nd rfl (Or.inl rfl) pe_non)
      (pss_cons (ps_try_keep (i := 3) rfl rfl scCalled.nd rfl rfl ⟨by rfl, by decide, .inl U.mgE⟩ takes0 (fun W pn xe tk po => (pss_one (ps_if (pt_cmpR op_eq (pv 0) pe_int (nomark _)) (pss_one (ps_expr (pe_cX tk Tu hr (by decide) rfl (pa_cons (pe_ix (ix_tup : IxR _ (rIxT K)) (pv 1) pe_int (fun _ _ => rfl)) (pa_cons (pe_ix (ix_tup : IxR _ (rIxT K)) (pv 1) pe_int (fun _ _ => rfl)) (pa_cons (pe_ix (ix_tup : IxR _ (rIxT K)) (pv 1) pe_int (fun _ _ => rfl)) (pa_cons (pe_ix (ix_tup : IxR _ (rIxT K)) (pv 1) pe_int (fun _ _ => rfl)) pa_nil))))))) (pss_one (ps_if (pt_cmpR op_eq (pv 0) pe_int (nomark _)) (pss_one (ps_expr (pe_cX tk Rl hr (by decide) rfl (pa_cons (pe_ix (ix_tup : IxR _ (rIxT K)) (pv 1) pe_int (fun _ _ => rfl)) (pa_cons (pe_ix (ix_tup : IxR _ (rIxT K)) (pv 1) pe_int (fun _ _ => rfl)) (pa_cons (pe_ix (ix_tup : IxR _ (rIxT K)) (pv 1) pe_int (fun _ _ => rfl)) pa_nil)))))) (pss_one (ps_if (pt_cmpR op_eq (pv 0) pe_int (nomark _)) (pss_one (ps_expr (pe_cX tk Rs hr (by decide) rfl (pa_cons (pe_ix (ix_tup : IxR _ (rIxT K)) (pv 1) pe_int (fun _ _ => rfl)) (pa_cons (pe_ix (ix_tup : IxR _ (rIxT K)) (pv 1) pe_int (fun _ _ => rfl)) pa_nil))))) (pss_one (ps_expr (pe_cX tk TuD hr (by decide) rfl (pa_cons (pe_ix (ix_tup : IxR _ (rIxT K)) (pv 1) pe_int (fun _ _ => rfl)) (pa_cons (pe_ix (ix_tup : IxR _ (rIxT K)) (pv 1) pe_int (fun _ _ => rfl)) (pa_cons (pe_ix (ix_tup : IxR _ (rIxT K)) (pv 1) pe_int (fun _ _ => rfl)) pa_nil))))))))))))) (fun a oe cls d pn z f => (pss_one (ps_set (i := 2) scCalled.nd rfl (Or.inl rfl) (pv 3)))))
      (pss_one (ps_ret (pe_ifExp (pt_val (pe_callB (call_isX.or call_isi) (by rfl) B.isi (by decide +kernel) (pa_cons (pv 2) (pa_cons (pe_glob (v := .ref CN) (by rfl) U.mgC rfl) pa_nil)))) (pe_lstS (pa_cons pe_str (pa_cons (pe_fldE (pv 2)) pa_nil))) (pv 2)))))), ?_⟩
    refine seq_asg ?_
    dsimp only [tC]
    refine ts_mid (fun σ' H' => ∃ cv, σ' = [some (.int way), some (.ref t), some cv, none] ∧ Same H H' ∧ ((refV way r c p x = none ∧ cv = .non) ∨ ∃ v e, refV way r c p x = some v ∧ cv = .ref e ∧ ExT H' e CN [("value", v)])) (fun N hN => ?_) ?_
    · unfold tTryK
      generalize hW : wKeep _ _ _ _ _ _ = W
      have bad : ∀ v, refV way r c p x = some v → Rz CN (fun cls d H' => W cls d [some (.int way), some (.ref t), some .non, none] H') H v := fun v e d H' S nd ed => by
        subst hW
        exact ⟨true, U.ex, fun _ a na => ⟨_, rfl, fun na' => hN _ _ ⟨.ref a, rfl, fun c o q => by rw [upd_ne (ne_of_none (S c o q) na)]; exact S c o q, .inr ⟨v, a, e, rfl, .kept upd_same (by rw [upd_ne (ne_of_none ed na)]; exact ed)⟩⟩⟩, fun z => nomatch z⟩
      clear hW
      have good : refV way r c p x = none → ∀ H', Same H H' → N [some (.int way), some (.ref t), some .non, none] H' := fun e H' S => hN _ _ ⟨.non, rfl, S, .inl ⟨e, rfl⟩⟩
      have b1 : posB r = false → Rz CN (fun cls d H' => W cls d [some (.int way), some (.ref t), some .non, none] H') H r := fun h => bad r (ref_1 h)
      have b2 : posB r = true → posB c = false → Rz CN (fun cls d H' => W cls d [some (.int way), some (.ref t), some .non, none] H') H c := fun h1 h2 => bad c (ref_2 h1 h2)
      have cases4 : way = 0 ∨ way = 1 ∨ way = 2 ∨ way = 3 := by omega
      rcases cases4 with rfl | rfl | rfl | rfl
      · refine ⟨_, rfl, rfl, _, rfl, ifT (decide_eq_true rfl) ?_⟩
        refine ⟨_, rfl, t, _, 0, _, rfl, rfl, SqT.of ht, rfl, _, rfl, t, _, 1, _, rfl, rfl, SqT.of ht, rfl, _, rfl, t, _, 2, _, rfl, rfl, SqT.of ht, rfl, _, rfl, t, _, 3, _, rfl, rfl, SqT.of ht, rfl, ?_⟩
        by_cases h : refV 0 r c p x = none
        · obtain ⟨h1, h2, h3⟩ := ref_none h (by decide)
          obtain ⟨a, b, rfl, rfl, hT, _⟩ := gd h1 h2
          obtain ⟨q, rfl, hq⟩ := okP_true h3
          have h4 : cntB x = true := by
            cases hc : cntB x with
            | true => rfl
            | false => rw [ref_4 h1 h2 h3 hc] at h; cases h
          obtain ⟨n, rfl, n0⟩ := cntB_true h4
          have hn := xb n rfl
          refine .inl ⟨a, b, q, n.toNat, by show [V.int _, V.int _, V.int _, V.int _] = [V.int _, V.int _, V.int _, V.int _]; rw [Int.toNat_of_nonneg n0], hT, hq, by omega, fun H' S => good h H' S⟩
        · refine .inr ⟨r, c, p, x, rfl, hor, hoc, hop, hox, b1, b2, fun h1 h2 => ?_⟩
          obtain ⟨a, b, rfl, rfl, hT, _⟩ := gd h1 h2
          refine ⟨a, b, rfl, rfl, hT, ?_⟩
          cases h3 : okP (cI a) (cI b) p with
          | false => exact .inr ⟨bad p (ref_3 h1 h2 (by decide) h3), okP_false h3⟩
          | true =>
            obtain ⟨q, rfl, hq⟩ := okP_true h3
            cases h4 : cntB x with
            | true => exact absurd (ref_6 h1 h2 h3 (by decide) (fun z => by rw [h4] at z; cases z.2)) h
            | false => exact .inl ⟨q, rfl, hq, rfl, bad x (ref_4 h1 h2 h3 h4)⟩
      · refine ⟨_, rfl, rfl, _, rfl, ifF (decide_eq_false (fun z => by cases z)) ⟨_, rfl, rfl, _, rfl, ifT (decide_eq_true rfl) ?_⟩⟩
        refine ⟨_, rfl, t, _, 0, _, rfl, rfl, SqT.of ht, rfl, _, rfl, t, _, 1, _, rfl, rfl, SqT.of ht, rfl, _, rfl, t, _, 2, _, rfl, rfl, SqT.of ht, rfl, ?_⟩
        by_cases h : refV 1 r c p x = none
        · obtain ⟨h1, h2, h3⟩ := ref_none h (by decide)
          obtain ⟨a, b, rfl, rfl, hT, _⟩ := gd h1 h2
          obtain ⟨q, rfl, hq⟩ := okP_true h3
          exact .inl ⟨a, b, q, rfl, hT, hq, fun H' S => good h H' S⟩
        · refine .inr ⟨r, c, p, rfl, hor, hoc, hop, b1, b2, fun h1 h2 => ?_⟩
          obtain ⟨a, b, rfl, rfl, hT, _⟩ := gd h1 h2
          refine ⟨a, b, rfl, rfl, hT, ?_⟩
          cases h3 : okP (cI a) (cI b) p with
          | false => exact ⟨bad p (ref_3 h1 h2 (by decide) h3), okP_false h3⟩
          | true => exact absurd (ref_6 h1 h2 h3 (by decide) (fun z => absurd z.1 (by decide))) h
      · refine ⟨_, rfl, rfl, _, rfl, ifF (decide_eq_false (fun z => by cases z)) ⟨_, rfl, rfl, _, rfl, ifF (decide_eq_false (fun z => by cases z)) ⟨_, rfl, rfl, _, rfl, ifT (decide_eq_true rfl) ?_⟩⟩⟩
        refine ⟨_, rfl, t, _, 0, _, rfl, rfl, SqT.of ht, rfl, _, rfl, t, _, 1, _, rfl, rfl, SqT.of ht, rfl, ?_⟩
        by_cases h : refV 2 r c p x = none
        · obtain ⟨h1, h2⟩ := ref_none2 h
          obtain ⟨a, b, rfl, rfl, hT, hc⟩ := gd h1 h2
          exact .inl ⟨a, b, rfl, hT, hc rfl, fun H' _ S _ _ => good h H' S⟩
        · refine .inr ⟨r, c, rfl, hor, hoc, b1, fun h1 => ?_⟩
          cases h2 : posB c with
          | false => exact ⟨rfl, b2 h1 h2⟩
          | true => exact absurd (ref_5 h1 h2) h
      · refine ⟨_, rfl, rfl, _, rfl, ifF (decide_eq_false (fun z => by cases z)) ⟨_, rfl, rfl, _, rfl, ifF (decide_eq_false (fun z => by cases z)) ⟨_, rfl, rfl, _, rfl, ifF (decide_eq_false (fun z => by cases z)) ?_⟩⟩⟩
        refine ⟨_, rfl, t, _, 0, _, rfl, rfl, SqT.of ht, rfl, _, rfl, t, _, 1, _, rfl, rfl, SqT.of ht, rfl, _, rfl, t, _, 2, _, rfl, rfl, SqT.of ht, rfl, ?_⟩
        by_cases h : refV 3 r c p x = none
        · obtain ⟨h1, h2, h3⟩ := ref_none h (by decide)
          obtain ⟨a, b, rfl, rfl, hT, _⟩ := gd h1 h2
          obtain ⟨q, rfl, hq⟩ := okP_true h3
          exact .inl ⟨a, b, q, 1, rfl, hT, hq, by decide, fun H' S => good h H' S⟩
        · refine .inr ⟨r, c, p, .int 1, rfl, hor, hoc, hop, .int 1, b1, b2, fun h1 h2 => ?_⟩
          obtain ⟨a, b, rfl, rfl, hT, _⟩ := gd h1 h2
          refine ⟨a, b, rfl, rfl, hT, ?_⟩
          cases h3 : okP (cI a) (cI b) p with
          | false => exact .inr ⟨bad p (ref_3 h1 h2 (by decide) h3), okP_false h3⟩
          | true => exact absurd (ref_6 h1 h2 h3 (by decide) (fun z => absurd z.1 (by decide))) h
    rintro σ' H1 ⟨cv, rfl, S1, hcv⟩
    rcases hcv with ⟨e, rfl⟩ | ⟨v, ea, e, rfl, ext⟩
    · exact ⟨_, rfl, .inr ⟨.non, .ref CN, .type "NoneType", .ref CN, false, rfl, .own CN, .base .non, U.isN, _, rfl, ifF rfl ⟨_, rfl, k1 e H1 S1⟩⟩⟩
    · exact ⟨_, rfl, .inl ⟨ea, CN, _, .ref CN, .ref CN, true, rfl, .own CN, ext, U.xc, U.is, _, rfl, ifT rfl ⟨_, rfl, ea, CN, _, v, rfl, ext, U.xc, U.noF, rfl, by show 2 ≤ sizeLine; decide, fun l H2 S2 nl hl => k2 v e H2 l (S1.trans S2) (S1.free nl) hl⟩⟩⟩
end
end E3

set_option Elab.async false
set_option linter.all false
set_option maxRecDepth 100000
set_option maxHeartbeats 1000000
/-! _law_is -/
namespace L2
open PySem PySem.Spec PyProof.Rows
theorem listText_le (ts : List Str) : (listText ts).length ≤ piled ts + 2 := by
  cases ts with
  | nil => rw [listText_nil]; decide
  | cons t r =>
    have h := textFrom_length_pos r 1 (("[" : Str) ++ (if (0 : Nat) > 0 then ", " else "" : String) ++ t) (Nat.succ_pos 0)
    have e : ((("[" : Str) ++ (if (0 : Nat) > 0 then ", " else "" : String) ++ t)).length = 1 + t.length := by
      rw [strLen_append, strLen_append]; rfl
    have hX : (listText (t :: r)).length = (textFrom 0 "[" (t :: r)).length + 1 := by
      show (textFrom 0 "[" (t :: r) ++ "]").length = _
      rw [strLen_append]; rfl
    have hY : (textFrom 0 "[" (t :: r)).length = (textFrom 1 (("[" : Str) ++ (if (0 : Nat) > 0 then ", " else "" : String) ++ t) r).length := rfl
    rw [hX, hY, h, e, piled_cons]; omega
end L2
namespace E3
open PySem PySem.Spec PyProof.Rows L2
open C8 (Cal Mak Met InsC pe_c pe_mt pe_mt0 call_isC clsBody)
/-- shown as d, in bounds -/
structure ShOk (K : PySem.W.Frag) (H : Hp) (v : V) (d : PyData) : Prop where
  sh : Shw K H v d
  ok : d.showable = true
  dp : d.depth ≤ 20
  ln : d.shown.length ≤ sizeLine
theorem int_len {i : Int} (h : i.natAbs < 2 ^ 500) : (PyData.int i).shown.length ≤ 501 ∧ (PyData.int i).showable = true := by
  have lg : i.natAbs.log2 < 500 := by
    by_cases z : i.natAbs = 0
    · rw [z]; decide
    · exact (Nat.log2_lt z).mpr h
  have e : (PyData.int i).shown = Str.ofString (toString i) := by unfold PyData.shown; rfl
  refine ⟨?_, ?_⟩
  · rw [e, PySem.ofString_length]
    exact int_text_length_le (by decide) lg
  · simp only [PyData.showable, decide_eq_true_eq]
    omega
theorem ints_shown : ∀ {l : List Int}, (∀ i ∈ l, i.natAbs < 2 ^ 500) → PyData.showableAll (l.map PyData.int) = true ∧ PyData.hasDictAll (l.map PyData.int) = false ∧ PyData.depthAll (l.map PyData.int) ≤ 5 ∧ piled (PyData.shownAll (l.map PyData.int)) ≤ 503 * l.length
  | [], _ => ⟨rfl, rfl, by decide, Nat.le_refl _⟩
  | i :: l, h => by
    obtain ⟨a, b, c, d⟩ := ints_shown (l := l) fun j hj => h j (List.mem_cons_of_mem _ hj)
    obtain ⟨h1, h2⟩ := int_len (h i List.mem_cons_self)
    rw [List.map_cons]
    refine ⟨by simp only [PyData.showableAll, h2, a, Bool.and_self], by simp only [PyData.hasDictAll, PyData.hasDict, b, Bool.or_self], by simp only [PyData.depthAll, PyData.depth]; omega, ?_⟩
    simp only [PyData.shownAll, piled_cons, List.length_cons]
    omega
theorem dp_ints {K : PySem.W.Frag} {H : Hp} : ∀ l : List Int, DpAll K H (l.map V.int) (l.map PyData.int)
  | [] => .nil
  | _ :: l => .cons (.int _) (dp_ints l)
theorem sh_int {K : PySem.W.Frag} {H : Hp} {i : Int} (h : i.natAbs < 2 ^ 500) : ShOk K H (.int i) (.int i) :=
  let ⟨h1, h2⟩ := int_len h
  ⟨.dp (.int i) rfl, h2, by simp only [PyData.depth]; omega, by rw [sizeLine_eq]; omega⟩
theorem sh_ints {K : PySem.W.Frag} {H : Hp} {a : Addr} {l : List Int} (ha : H a = some (.lst (l.map V.int))) (h : ∀ i ∈ l, i.natAbs < 2 ^ 500) (hl : l.length ≤ 100) : ShOk K H (.ref a) (.list (l.map PyData.int)) := by
  obtain ⟨h1, h2, h3, h4⟩ := ints_shown h
  refine ⟨.dp (.lst (SqL.of ha) (dp_ints l)) (by simp only [PyData.hasDict]; exact h2), by simp only [PyData.showable]; exact h1, by simp only [PyData.depth]; omega, ?_⟩
  have := listText_le (PyData.shownAll (l.map PyData.int))
  simp only [PyData.shown]
  rw [sizeLine_eq]
  omega
theorem dp_app {K : PySem.W.Frag} {H : Hp} : ∀ {vs ws : List V} {ds es : List PyData}, DpAll K H vs ds → DpAll K H ws es → DpAll K H (vs ++ ws) (ds ++ es)
  | [], _, [], _, .nil, h => h
  | _ :: _, _, _ :: _, _, .cons r t, h => .cons r (dp_app t h)
theorem later_facts (z : Str) (hz : (PyData.str z).shown.length ≤ 200) : ∀ {l : List PyData}, PyData.showableAll l = true → PyData.hasDictAll l = false → PyData.showableAll (l ++ [.str z]) = true ∧ PyData.hasDictAll (l ++ [.str z]) = false ∧ PyData.depthAll (l ++ [.str z]) ≤ PyData.depthAll l + 1 ∧ piled (PyData.shownAll (l ++ [.str z])) ≤ piled (PyData.shownAll l) + 300
  | [], _, _ => ⟨rfl, rfl, by simp [PyData.depthAll, PyData.depth], by simp only [List.nil_append, PyData.shownAll, piled_cons, piled_nil]; omega⟩
  | x :: l, h1, h2 => by
    simp only [PyData.showableAll, Bool.and_eq_true] at h1
    simp only [PyData.hasDictAll, Bool.or_eq_false_iff] at h2
    obtain ⟨a, b, c, d⟩ := later_facts z hz (l := l) h1.2 h2.2
    refine ⟨by simp only [List.cons_append, PyData.showableAll, h1.1, a, Bool.and_self], by simp only [List.cons_append, PyData.hasDictAll, h2.1, b, Bool.or_self], by simp only [List.cons_append, PyData.depthAll]; omega, ?_⟩
    simp only [List.cons_append, PyData.shownAll, piled_cons]
    omega
theorem later_len : (PyData.str "later").shown.length ≤ 200 := by
  have h := PySem.StrLaws.reprText_len (("later" : Str)) (by decide +kernel)
  have e : (PyData.str "later").shown = reprText "later" := by unfold PyData.shown; rfl
  rw [e]
  exact Nat.le_trans h (by decide +kernel)
theorem sh_later {K : PySem.W.Frag} {H : Hp} {a : Addr} {l : List Int} (ha : H a = some (.lst (l.map V.int ++ [V.str "later"]))) (h : ∀ i ∈ l, i.natAbs < 2 ^ 500) (hl : l.length ≤ 100) : ShOk K H (.ref a) (.list (l.map PyData.int ++ [.str "later"])) := by
  obtain ⟨h1, h2, h3, h4⟩ := ints_shown h
  obtain ⟨g1, g2, g3, g4⟩ := later_facts "later" later_len h1 h2
  refine ⟨.dp (.lst (SqL.of ha) (dp_app (dp_ints l) (.cons (.str _) .nil))) (by simp only [PyData.hasDict]; exact g2), by simp only [PyData.showable]; exact g1, by simp only [PyData.depth]; omega, ?_⟩
  have := listText_le (PyData.shownAll (l.map PyData.int ++ [.str "later"]))
  simp only [PyData.shown]
  rw [sizeLine_eq]
  omega
def spIs (K : PySem.W.Frag) : Sp := fun vs H Q _ => ∃ (l : Addr) (v : V), vs = [.ref l, v] ∧ H l = some (.lst [.str "number", v]) ∧
  ((∃ d t, ShOk K H v d ∧ TyX K H v t ∧ PySem.W.kitOne K t (.type "list") = some false ∧ Q (.bl true) H) ∨ ∃ (a : Addr) (ns : List Int), v = .ref a ∧ H a = some (.lst (ns.map V.int)) ∧ (∀ i ∈ ns, i.natAbs < 2 ^ 500) ∧ ns.length ≤ 100 ∧ ∀ H', Same H H' → Q (.bl true) H')
section
variable {P : Program} {w : World} {K : PySem.W.Frag} {mg : Str → Option Value} {base : Heap}
theorem kit_ll : PySem.W.kitOne K (.type "list") (.type "list") = some true := by kernel_rfl
theorem scIs : FnScope ["_law_found", "_law_value", "_law_right"] ["_law_found", "_law_value"] (defScope sIs) := ⟨rfl, rfl, rfl, by decide +kernel, rfl, by decide +kernel, by decide +kernel⟩
theorem ok_is {f : Addr} {fd : FuncData} (F : Fun K "_law_is" "_law_is" sIs f fd) (B : Bt5 mg) (hlist : mg "list" = none) (hrep : mg "repr" = none) : FnG P w K mg base 1 f fd ["_law_found", "_law_value"] (spIs K) := by
  refine F.okG scIs (fun vs H Q E h => ?_) (fun cdv A outer s H vs Q E gA hr h => ?_)
  · obtain ⟨l, v, rfl, _⟩ := h
    rfl
  · obtain ⟨l, v, rfl, hl, hv⟩ := h
    refine ⟨_, (pss_cons (ps_if (PW.pt (pw_or (pt_not (pt_val (pe_callB call_isi (by rfl) B.isi (by decide +kernel) (pa_cons (pv 0) (pa_cons (pe_bltn (v := .ty "list") (by rfl) hlist (by decide +kernel) rfl) pa_nil))))) (pw_or1 (pt_cmpR op_ne (pe_callB (call_reprA gA hr.units) (by rfl) hrep (by decide +kernel) (pa_cons (pe_ix ix_list (pv 0) pe_int (fun _ _ => rfl)) pa_nil)) (pe_callB (call_reprA gA hr.units) (by rfl) hrep (by decide +kernel) (pa_cons (pv 1) pa_nil)) (nomark _))))) (pss_one (ps_ret pe_bl)) pss_nil)
      (pss_cons (ps_if (pt_val (pe_callB call_isi (by rfl) B.isi (by decide +kernel) (pa_cons (pv 1) (pa_cons (pe_bltn (v := .ty "list") (by rfl) hlist (by decide +kernel) rfl) pa_nil)))) (pss_cons (ps_expr (pe_bm PySem.F.plainAttrs_list PySem.F.slot_list_append PySem.F.type_list_append mt_append (pv 1) (pa_cons pe_str pa_nil)))
      (pss_cons (ps_set (i := 2) scIs.nd rfl (Or.inl rfl) (pe_cmpR op_eq (pe_callB (call_reprA gA hr.units) (by rfl) hrep (by decide +kernel) (pa_cons (pe_ix ix_list (pv 0) pe_int (fun _ _ => rfl)) pa_nil)) (pe_callB (call_reprA gA hr.units) (by rfl) hrep (by decide +kernel) (pa_cons (pv 1) pa_nil)) (nomark _)))
      (pss_cons (ps_expr (pe_bm0 PySem.F.plainAttrs_list PySem.F.slot_list_pop PySem.F.type_list_pop mt_pop (pv 1)))
      (pss_one (ps_ret (pv 2)))))) pss_nil)
      (pss_one (ps_ret pe_bl)))), ?_⟩
    obtain ⟨d, sd⟩ : ∃ d, ShOk K H v d := by
      rcases hv with ⟨d, t, h, _⟩ | ⟨a, ns, rfl, ha, hb, hn, _⟩
      · exact ⟨d, h⟩
      · exact ⟨_, sh_ints ha hb hn⟩
    refine ⟨_, rfl, _, _, _, _, true, rfl, .ty "list", .base (.lst hl), kit_ll, true, rfl, iteF ?_⟩
    refine ⟨_, rfl, l, _, 1, _, rfl, rfl, SqL.of hl, rfl, v, d, rfl, sd.sh, sd.ok, sd.dp, sd.ln, _, rfl, v, d, rfl, sd.sh, sd.ok, sd.dp, sd.ln, rfl, _, rfl, ifF (by rw [decide_eq_true rfl]; rfl) ?_⟩
    rcases hv with ⟨d2, t, _, ty, hk, q⟩ | ⟨a, ns, rfl, ha, hb, hn, q⟩
    · exact ⟨_, rfl, _, _, _, _, false, rfl, .ty "list", ty, hk, false, rfl, ifF rfl q⟩
    · refine ⟨_, rfl, _, _, _, _, true, rfl, .ty "list", .base (.lst ha), kit_ll, true, rfl, ifT rfl ?_⟩
      have la : l ≠ a := fun e => by
        rw [e, ha] at hl
        have z := HO.lst.inj (Option.some.inj hl)
        cases ns with
        | nil => cases z
        | cons n r => cases (List.cons.inj z).1
      refine ⟨_, rfl, .inl ⟨rfl, _, SqL.of ha⟩, a, _, _, rfl, rfl, ha, by rw [List.length_map, sizeLine_eq]; omega, ?_⟩
      have h2 : (upd H a (.lst (ns.map V.int ++ [V.str "later"]))) a = some (.lst (ns.map V.int ++ [V.str "later"])) := upd_same
      have hl2 : (upd H a (.lst (ns.map V.int ++ [V.str "later"]))) l = some (.lst [.str "number", .ref a]) := by rw [upd_ne la]; exact hl
      have off : ∀ c o, c ≠ a → H c = some o → (upd H a (.lst (ns.map V.int ++ [V.str "later"]))) c = some o := fun c o n e => by rw [upd_ne n]; exact e
      generalize upd H a (.lst (ns.map V.int ++ [V.str "later"])) = H2 at h2 hl2 off ⊢
      have s2 : ShOk K H2 (.ref a) _ := sh_later h2 hb hn
      refine ⟨_, rfl, l, _, 1, _, rfl, rfl, SqL.of hl2, rfl, .ref a, _, rfl, s2.sh, s2.ok, s2.dp, s2.ln, _, rfl, .ref a, _, rfl, s2.sh, s2.ok, s2.dp, s2.ln, rfl, ?_⟩
      rw [decide_eq_true rfl]
      refine ⟨_, rfl, .inl ⟨rfl, _, SqL.of h2⟩, a, _, V.str "later", rfl, rfl, h2, by simp, ?_⟩
      rw [List.dropLast_concat]
      exact ⟨_, rfl, q _ fun c o e => by
        by_cases ca : c = a
        · subst ca
          rw [ha] at e
          cases e
          exact upd_same
        · rw [upd_ne ca]
          exact off c o ca e⟩
end
end E3

set_option Elab.async false
set_option linter.all false
set_option maxRecDepth 100000
set_option maxHeartbeats 1000000
/-! x not in (0, False), whatever x is -/
namespace PySem.MeetsSeq
open PySem PySem.P
theorem zI_dict (b : Int) (u : Tok) (q : Addr) (k : Value) (es : Array DictEntry) (ep : Nat) (dd : Option Addr) (sl : Array (Option Value)) :
    Meets (Builtin.«int.__eq__» ⟨[.int b u, .ref q], []⟩) (fun _ R s => s.heap.get? q = some { cls := k, dict := dd, data := .dict es ep, slots := sl } ∧ R (.ok (.ret .notImplemented)) s) :=
  .of_wp fun _ _ _ R s ⟨there, fin⟩ => by
    obtain ⟨h1, h2, h3, h4, h5⟩ := s
    wp_walk using wpAny_loadPart' there, wpAny_load there
    exact ⟨_, rfl, fin⟩
theorem zB_dict (b : Bool) (q : Addr) (k : Value) (es : Array DictEntry) (ep : Nat) (dd : Option Addr) (sl : Array (Option Value)) :
    Meets (Builtin.«int.__eq__» ⟨[.bool b, .ref q], []⟩) (fun _ R s => s.heap.get? q = some { cls := k, dict := dd, data := .dict es ep, slots := sl } ∧ R (.ok (.ret .notImplemented)) s) :=
  .of_wp fun _ _ _ R s ⟨there, fin⟩ => by
    obtain ⟨h1, h2, h3, h4, h5⟩ := s
    wp_walk using wpAny_loadPart' there, wpAny_load there
    exact ⟨_, rfl, fin⟩
theorem dict_zI (b : Int) (u : Tok) (q : Addr) (es : Array DictEntry) (ep : Nat) (dd : Option Addr) (sl : Array (Option Value)) :
    Meets (Builtin.«dict.__eq__» ⟨[.ref q, .int b u], []⟩) (fun _ R s => s.heap.get? q = some { cls := .type "dict", dict := dd, data := .dict es ep, slots := sl } ∧ R (.ok (.ret .notImplemented)) s) :=
  .of_wp fun _ _ _ R s ⟨there, fin⟩ => by
    obtain ⟨h1, h2, h3, h4, h5⟩ := s
    have f1 := F.sub_int_dict
    wp_walk using wpAny_loadPart' there, wpAny_load there
    exact ⟨_, rfl, fin⟩
theorem dict_zB (b : Bool) (q : Addr) (es : Array DictEntry) (ep : Nat) (dd : Option Addr) (sl : Array (Option Value)) :
    Meets (Builtin.«dict.__eq__» ⟨[.ref q, .bool b], []⟩) (fun _ R s => s.heap.get? q = some { cls := .type "dict", dict := dd, data := .dict es ep, slots := sl } ∧ R (.ok (.ret .notImplemented)) s) :=
  .of_wp fun _ _ _ R s ⟨there, fin⟩ => by
    obtain ⟨h1, h2, h3, h4, h5⟩ := s
    have f1 := F.sub_bool_dict
    wp_walk using wpAny_loadPart' there, wpAny_load there
    exact ⟨_, rfl, fin⟩
end PySem.MeetsSeq
namespace PySem.SeqAt
open PySem PySem.P PySem.MeetsSeq
section
variable {A : Around} {s : Shared} {q : Addr} {es : Array DictEntry} {ep : Nat} {dd : Option Addr} {sl : Array (Option Value)}
theorem eqZI_dict (b : Int) (u : Tok) (there : s.heap.get? q = some { cls := .type "dict", dict := dd, data := .dict es ep, slots := sl }) (hu : A.units < cLine) : EqAt A s (.int b u) (.ref q) false := fun prog w E Q fin => by
  have kd : s.TypeIs (.ref q) "dict" := ⟨_, there, rfl⟩
  unfold eqBool
  refine wpAny_holding (wpAny_ite_split (fun same => absurd (eq_of_beq same) nofun) fun _ => wpAny_bind ?_)
  exact rc_eq_decline_or (k := false) (typeIs_int s b u) kd (by decide) F.sub_dict_int F.slot_int_eq F.slot_dict_eq_refl
    (fun _ z => call_meets F.slot_int_eq (typeIs_int s b u) F.entry_int_eq (F.args_int_eq_2 _ _) (zI_dict b u q (.type "dict") es ep dd sl) ⟨there, z⟩)
    (fun _ z => call_meets F.slot_dict_eq_refl kd F.entry_dict_eq (F.args_dict_eq_2 _ _) (dict_zI b u q es ep dd sl) ⟨there, z⟩)
    (fun _ z => wpAny_of_eq (rfl : isSame (.int b u) (.ref q) = pure false) z) (.inr hu) (wpAny_truthy_bool fin)
theorem eqZB_dict (b : Bool) (there : s.heap.get? q = some { cls := .type "dict", dict := dd, data := .dict es ep, slots := sl }) (hu : A.units < cLine) : EqAt A s (.bool b) (.ref q) false := fun prog w E Q fin => by
  have kd : s.TypeIs (.ref q) "dict" := ⟨_, there, rfl⟩
  unfold eqBool
  refine wpAny_holding (wpAny_ite_split (fun same => absurd (eq_of_beq same) nofun) fun _ => wpAny_bind ?_)
  exact rc_eq_decline_or (k := false) rfl kd (by decide) F.sub_dict_bool F.slot_bool_eq F.slot_dict_eq_refl
    (fun _ z => call_meets F.slot_bool_eq rfl F.entry_int_eq (F.args_int_eq_2 _ _) (zB_dict b q (.type "dict") es ep dd sl) ⟨there, z⟩)
    (fun _ z => call_meets F.slot_dict_eq_refl kd F.entry_dict_eq (F.args_dict_eq_2 _ _) (dict_zB b q es ep dd sl) ⟨there, z⟩)
    (fun _ z => wpAny_of_eq (rfl : isSame (.bool b) (.ref q) = pure false) z) (.inr hu) (wpAny_truthy_bool fin)
end
end PySem.SeqAt
namespace L2
open PySem PySem.Spec PyProof.Rows
/-- objects that may be asked for -/
inductive ZedV (K : PySem.W.Frag) (H : Hp) : V → Prop
  | flat {x : V} (h : flatV x = true) : ZedV K H x
  | lst {a : Addr} {xs : List V} (h : H a = some (.lst xs)) : ZedV K H (.ref a)
  | tup {a : Addr} {xs : List V} (h : H a = some (.tup xs)) : ZedV K H (.ref a)
  | dct {a : Addr} {xs : List (Key × V)} (h : H a = some (.dK xs)) : ZedV K H (.ref a)
def rNotZ (K : PySem.W.Frag) : R2 := fun x y H Q => ∃ p, y = .ref p ∧ SqT K H p [.int 0, .bl false] ∧ ZedV K H x ∧ Q (.bl (!inV x [.int 0, .bl false])) H
theorem op_notZ {X : Cx} (hu : X.A.units + 64 < cLine) : OpR X (compareOp .NotIn) (rNotZ X.K) := by
  intro pins s σ H x y v u Q I rx ry h
  obtain ⟨p, rfl, hq, zed, q⟩ := h
  have byRef : ∀ {a : Addr}, x = .ref a → SeqAt.EqAt X.A.in1 s (.int 0 0) (.ref a) false → (∀ t, SeqAt.EqAt X.A.in1 s (.int 0 t) (.ref a) false) → SeqAt.EqAt X.A.in1 s (.bool false) (.ref a) false → wpAny (model X.prog X.w) X.A (compareOp .NotIn v u) (EP X pins σ Q) X.xe s := fun {a} ex _ hI hB => by
    subst ex
    obtain rfl : v = Value.ref a := rx
    cases ry
    obtain ⟨its, r, pl, hz⟩ := I.tuple hq
    cases r with
    | @cons _ v1 _ its1 r1 rt =>
      cases rt with
      | @cons _ v2 _ its2 r2 rt2 =>
        cases rt2
        obtain ⟨t, rfl⟩ := r1
        obtain rfl : v2 = Value.bool false := r2
        refine SeqAt.notIn_tupleAt (fun _ => false) pl (fun z hz => ?_) ⟨.bl _, H, I, rfl, ?_⟩
        · have hz : z = .int 0 t ∨ z = .bool false := by simpa using hz
          rcases hz with rfl | rfl
          · exact hI t
          · exact hB
        · have e : ((#[Value.int 0 t, Value.bool false] : Array Value).any fun _ => false) = false := by simp
          show Q (V.bl (!((#[Value.int 0 t, Value.bool false] : Array Value).any fun _ => false))) H
          rw [e]
          exact q
  have room : X.A.in1.units < cLine := by show X.A.units + 1 < cLine; omega
  cases zed with
  | flat hf => exact op_notIn_seq pins s σ H x (.ref p) v u Q I rx ry ⟨p, _, rfl, .inr hq, hf, rfl, q⟩
  | @lst a xs h =>
    obtain ⟨_, its, n, _, _, he⟩ := I.lstM h
    have il : s.heap.IsList a its.toArray := ⟨_, he, rfl, _, rfl⟩
    exact byRef rfl (SeqAt.EqAt.int_list 0 0 il room) (fun t => SeqAt.EqAt.int_list 0 t il room) (SeqAt.EqAt.bool_list false il room)
  | @tup a xs h =>
    obtain ⟨_, its, _, o, h1, h2, n, h3⟩ := (show ObjOk X.prog X.w H s.heap a (.tup xs) from I.hok a _ h)
    have it : s.heap.IsTuple a its.toArray := ⟨o, h1, h2, n, h3⟩
    exact byRef rfl (SeqAt.EqAt.int_tuple 0 0 it room) (fun t => SeqAt.EqAt.int_tuple 0 t it room) (SeqAt.EqAt.bool_tuple false it room)
  | @dct a xs h =>
    obtain ⟨_, _, vs, _, o, es, ep, ho, ex, hd, _⟩ := dk_of I.hok h
    obtain ⟨c1, c2, c3, c4⟩ := o
    obtain rfl := ex.1
    obtain rfl := hd
    exact byRef rfl (SeqAt.eqZI_dict 0 0 ho room) (fun t => SeqAt.eqZI_dict 0 t ho room) (SeqAt.eqZB_dict false ho room)
end L2

set_option Elab.async false
set_option linter.all false
set_option maxRecDepth 100000
set_option maxHeartbeats 1000000
/-! a call where no repr is under way -/
namespace L2
open PySem PySem.Spec PyProof.Rows
structure CalG (P : Program) (w : World) (K : PySem.W.Frag) (mg : Str → Option Value) (base : Heap) (k : Nat) (x : Str) (sp : Sp) : Prop where
  ex : ∃ (f : Addr) (fd : FuncData) (ps : List Str), FnG P w K mg base k f fd ps sp ∧ mg x = some (.ref f) ∧ PySem.W.keepIn K (.ref f) = true ∧ Binds K fd ps []
section
variable {X : Cx} {k j : Nat} {x : Str} {sp : Sp} {p pos : Pos} {e : Expr} {es : List Expr} {t : TA}
theorem pe_cG (gA : X.A.guards = some []) (c : CalG X.prog X.w X.K X.mg X.base k x sp) (hr : Room j X.A) (hk : k ≤ j) (hg : Gl X x) (ha : PA X (e :: es) t)
    (hdb : (x == ("__debug__" : Str)) = false := by decide) (he : starEach (e :: es) X.env = (false, eval e X.env) :: starEach es X.env := by rfl) (hpl : (backTo pos (starEach es X.env)).any (·.1) = false := by rfl) :
    PE X (.Call (.Name x p) (e :: es) [] pos) (tCall sp [] C8.E0 t) := by
  obtain ⟨f, fd, ps, F, hm, kp, hb⟩ := c.ex
  refine ⟨fun pins s σ H Q I h => ?_⟩
  refine wpAny_Call_Name_kw (ld_glob I hg hm ?_ hdb)
  refine PySem.W.callWith_K (h₀ := X.base) I.ok.mod.kin kp (thn (ha.run pos pins s σ H _ I h) fun us s1 ⟨vs, H1, I1, r, h1⟩ => ⟨I1.kIn, ?_⟩) he hpl
  have r2 : Vals (vs ++ []) (us ++ []) := r.append .nil
  have hl : (us ++ []).length = ps.length := by rw [← r2.length]; exact F.len _ _ _ _ h1
  refine wpAny_call (codeAny_mono (F.go X.A X.stack s1 H1 ⟨us, []⟩ (us ++ []) (vs ++ []) Q C8.E0 gA (hr.mono hk) I1.env0 (hb s1 us I1.kIn hl) r2 h1) fun r s' hq => ?_)
  cases r with
  | error e => exact pass0 pins σ H1 s1 e s' I1 hq
  | ok fl =>
    cases fl with
    | ret u => exact I1.after hq
    | next => exact False.elim hq
    | brk => exact False.elim hq
    | cont => exact False.elim hq
end
end L2

set_option Elab.async false
set_option linter.all false
set_option maxRecDepth 100000
set_option maxHeartbeats 1000000
/-! _law_firsts_right -/
namespace E3
open PySem PySem.Spec PyProof.Rows L2
open C8 (Cal Mak Met InsC pe_c pe_mt pe_mt0 call_isC clsBody)
abbrev sFi : Stmt := top 24
/-- the law's objects -/
inductive OL (H : Hp) : V → Prop
  | int (i : Int) (h : i.natAbs < 2 ^ 200) : OL H (.int i)
  | bl (b : Bool) : OL H (.bl b)
  | non : OL H .non
  | str (z : Str) (h : (PyData.str z).shown.length ≤ 200) : OL H (.str z)
  | lst {a : Addr} {ns : List Int} (h : H a = some (.lst (ns.map V.int))) (hb : ∀ i ∈ ns, i.natAbs < 2 ^ 200) (hl : ns.length ≤ 2) : OL H (.ref a)
  | tup {a : Addr} {ns : List Int} (h : H a = some (.tup (ns.map V.int))) (hb : ∀ i ∈ ns, i.natAbs < 2 ^ 200) (hl : ns.length ≤ 2) : OL H (.ref a)
  | dct {a : Addr} (h : H a = some (.dK [])) : OL H (.ref a)
theorem OL.same {H H' : Hp} {v : V} (S : Same H H') : OL H v → OL H' v
  | .int i h => .int i h
  | .bl b => .bl b
  | .non => .non
  | .str z h => .str z h
  | .lst h hb hl => .lst (S _ _ h) hb hl
  | .tup h hb hl => .tup (S _ _ h) hb hl
  | .dct h => .dct (S _ _ h)
theorem OL.purse {H H' : Hp} {v : V} {p : Addr} {n : Nat} (hp : PurseAt H p n) (S : SameB p H H') : OL H v → OL H' v := fun o => by
  obtain ⟨p0, p1, p2, e, _⟩ := hp
  cases o with
  | int i h => exact .int i h
  | bl b => exact .bl b
  | non => exact .non
  | str z h => exact .str z h
  | @lst a ns h hb hl =>
    refine .lst (S _ _ (ne_of h e fun z => ?_) h) hb hl
    have z := congrArg List.length (HO.lst.inj z)
    rw [List.length_map] at z
    simp at z
    omega
  | tup h hb hl => exact .tup (S _ _ (ne_of h e (by intro z; cases z)) h) hb hl
  | dct h => exact .dct (S _ _ (ne_of h e (by intro z; cases z)) h)
theorem OL.odd {H : Hp} {v : V} : OL H v → OddV H v
  | .int i _ => .int i
  | .bl b => .bl b
  | .non => .non
  | .str z _ => .str z
  | .lst h _ _ => .lst h
  | .tup h _ _ => .tup h
  | .dct h => .dct h
theorem OL.zed {K : PySem.W.Frag} {H : Hp} {v : V} : OL H v → ZedV K H v
  | .int i _ => .flat rfl
  | .bl b => .flat rfl
  | .non => .flat rfl
  | .str z _ => .flat rfl
  | .lst h _ _ => .lst h
  | .tup h _ _ => .tup h
  | .dct h => .dct h
theorem OL.num {H : Hp} {v : V} (o : OL H v) : ∀ n, v = .int n → n < 2 ^ 200 := by
  rintro n rfl
  cases o with
  | int i h => omega
theorem up500 {i : Int} (h : i.natAbs < 2 ^ 200) : i.natAbs < 2 ^ 500 := Nat.lt_of_lt_of_le h (Nat.pow_le_pow_right (by decide) (by decide))
theorem kit_il {K : PySem.W.Frag} : PySem.W.kitOne K (.type "int") (.type "list") = some false := by kernel_rfl
theorem kit_bl {K : PySem.W.Frag} : PySem.W.kitOne K (.type "bool") (.type "list") = some false := by kernel_rfl
theorem kit_nl {K : PySem.W.Frag} : PySem.W.kitOne K (.type "NoneType") (.type "list") = some false := by kernel_rfl
theorem kit_sl {K : PySem.W.Frag} : PySem.W.kitOne K (.type "str") (.type "list") = some false := by kernel_rfl
theorem kit_tl {K : PySem.W.Frag} : PySem.W.kitOne K (.type "tuple") (.type "list") = some false := by kernel_rfl
theorem kit_dl {K : PySem.W.Frag} : PySem.W.kitOne K (.type "dict") (.type "list") = some false := by kernel_rfl
theorem tupleText_le (ts : List Str) : (tupleText ts).length ≤ piled ts + 3 := by
  unfold tupleText
  rw [strLen_append, strLen_append]
  have e1 : ((("(" : String) : Str)).length = 1 := rfl
  have e3 : (((if ts.length == 1 then ",)" else ")" : String) : Str)).length ≤ 2 := by split <;> decide
  rw [e1]
  by_cases h : ts = []
  · subst h
    have : (Str.join ", " []).length = 0 := rfl
    omega
  · have := join_length_add ts h
    omega
theorem OL.is {K : PySem.W.Frag} {H : Hp} {v : V} {l : Addr} {Q : VK} {E : XK} (o : OL H v) (hl : H l = some (.lst [.str "number", v])) (k : ∀ H', Same H H' → Q (.bl true) H') : spIs K [.ref l, v] H Q E := by
  have k0 := k H fun _ _ e => e
  have small : (10 : Nat) ≤ sizeLine := by rw [sizeLine_eq]; omega
  cases o with
  | int i h => exact ⟨l, _, rfl, hl, .inl ⟨.int i, .type "int", sh_int (up500 h), .base (.int i), kit_il, k0⟩⟩
  | bl b => exact ⟨l, _, rfl, hl, .inl ⟨.bool b, .type "bool", ⟨.dp (.bl b) rfl, rfl, by simp only [PyData.depth]; omega, by
      simp only [PyData.shown]
      refine Nat.le_trans ?_ small
      cases b <;> decide +kernel⟩, .base (.bl b), kit_bl, k0⟩⟩
  | non => exact ⟨l, _, rfl, hl, .inl ⟨.none, .type "NoneType", ⟨.dp .non rfl, rfl, by simp only [PyData.depth]; omega, by
      simp only [PyData.shown]
      exact Nat.le_trans (by decide +kernel) small⟩, .base .non, kit_nl, k0⟩⟩
  | str z h => exact ⟨l, _, rfl, hl, .inl ⟨.str z, .type "str", ⟨.dp (.str z) rfl, rfl, by simp only [PyData.depth]; omega, by rw [sizeLine_eq]; omega⟩, .base (.str z), kit_sl, k0⟩⟩
  | @lst a ns h hb hn => exact ⟨l, _, rfl, hl, .inr ⟨a, ns, rfl, h, fun i hi => up500 (hb i hi), by omega, k⟩⟩
  | @tup a ns h hb hn =>
    obtain ⟨h1, h2, h3, h4⟩ := ints_shown (l := ns) fun i hi => up500 (hb i hi)
    refine ⟨l, _, rfl, hl, .inl ⟨.tuple (ns.map PyData.int), .type "tuple", ⟨.dp (.tup (SqT.of h) (dp_ints ns)) (by simp only [PyData.hasDict]; exact h2), by simp only [PyData.showable]; exact h1, by simp only [PyData.depth]; omega, ?_⟩, .base (.tup h), kit_tl, k0⟩⟩
    have := tupleText_le (PyData.shownAll (ns.map PyData.int))
    simp only [PyData.shown]
    rw [sizeLine_eq]
    omega
  | @dct a h => exact ⟨l, _, rfl, hl, .inl ⟨.dict [], .type "dict", ⟨.d0 h, rfl, by decide, by
      simp only [PyData.shown]
      exact Nat.le_trans (by decide +kernel) small⟩, .base (.dK h), kit_dl, k0⟩⟩
theorem called_ref {H : Hp} {way : Int} {t : Addr} {r c p x v0 : V} {Q : VK} {E : XK} (e : refV way r c p x = some v0) (w0 : 0 ≤ way) (w3 : way ≤ 3) (ht : H t = some (.tup [r, c, p, x])) (hor : OddV H r) (hoc : OddV H c) (hop : OddV H p) (hox : OddV H x)
    (gd : posB r = true → posB c = true → ∃ a b : Nat, r = cI a ∧ c = cI b ∧ Tb a b ∧ (way = 2 → cntF (facM (a * b - 1)) + 1 < sizeLine)) (xb : ∀ n, x = .int n → n < 2 ^ 200)
    (k : ∀ H' l, Same H H' → H l = none → H' l = some (.lst [.str "number", v0]) → Q (.ref l) H') : spCalled [.int way, .ref t] H Q E :=
  ⟨way, t, r, c, p, x, rfl, w0, w3, ht, hor, hoc, hop, hox, gd, xb, (fun h => absurd (e.symm.trans h) (fun z => nomatch z)), (fun v hv => by
    have z := e.symm.trans hv
    cases z
    exact k)⟩
theorem called_none {H : Hp} {way : Int} {t : Addr} {r c p x : V} {Q : VK} {E : XK} (e : refV way r c p x = none) (w0 : 0 ≤ way) (w3 : way ≤ 3) (ht : H t = some (.tup [r, c, p, x])) (hor : OddV H r) (hoc : OddV H c) (hop : OddV H p) (hox : OddV H x)
    (gd : posB r = true → posB c = true → ∃ a b : Nat, r = cI a ∧ c = cI b ∧ Tb a b ∧ (way = 2 → cntF (facM (a * b - 1)) + 1 < sizeLine)) (xb : ∀ n, x = .int n → n < 2 ^ 200)
    (k : ∀ H', Same H H' → Q .non H') : spCalled [.int way, .ref t] H Q E :=
  ⟨way, t, r, c, p, x, rfl, w0, w3, ht, hor, hoc, hop, hox, gd, xb, (fun _ => k), (fun v hv => absurd (e.symm.trans hv) (fun z => nomatch z))⟩
theorem posB_n {n : Nat} (h : 1 ≤ n) : posB (cI n) = true := decide_eq_true (p := (1 : Int) ≤ ((n : Nat) : Int)) (by omega)
theorem no_pos {r c : V} {R : Prop} (h : posB r = false) : posB r = true → posB c = true → R := fun z => by rw [h] at z; cases z
theorem no_pos2 {r c : V} {R : Prop} (h : posB c = false) : posB r = true → posB c = true → R := fun _ z => by rw [h] at z; cases z
theorem second_len : (PyData.str "second").shown.length ≤ 200 := by
  have h := PySem.StrLaws.reprText_len (("second" : Str)) (by decide +kernel)
  have e : (PyData.str "second").shown = reprText "second" := by unfold PyData.shown; rfl
  rw [e]
  exact Nat.le_trans h (by decide +kernel)
theorem ne_data {K : PySem.W.Frag} {H : Hp} {Q : VK} {x y : V} {d : PyData} (hx : Dp K H x d) (hy : Dp K H y d) (sh : SeqAt.shaped d = true) (q : Q (.bl false) H) : rNeD K x y H Q :=
  ⟨d, d, hx, hy, sh, sh, by rw [SeqAt.eqv_refl _ (SeqAt.canLay_of_shaped sh)]; exact q⟩
theorem okP_n {a b q : Nat} (h : q < a * b) : okP (cI a) (cI b) (cI q) = true := by
  have e : ((a * b : Nat) : Int) = (a : Int) * (b : Int) := Int.natCast_mul a b
  show (decide ((0 : Int) ≤ ((q : Nat) : Int)) && decide (((q : Nat) : Int) < (a : Int) * (b : Int))) = true
  rw [decide_eq_true (by omega), decide_eq_true (by omega)]
  rfl
def numD (i : Int) : PyData := .list [.str "number", .int i]
theorem dp_num {K : PySem.W.Frag} {H : Hp} {l : Addr} {i : Int} (h : H l = some (.lst [.str "number", .int i])) : Dp K H (.ref l) (numD i) := .lst (SqL.of h) (.cons (.str _) (.cons (.int _) .nil))
def spFi : Sp := fun vs H Q _ => ∃ (a : Addr) (odd : V) (h w s n : Nat), vs = [.ref a, odd, cI h, cI w, cI s] ∧ PurseAt H a (n + 4) ∧ OL H odd ∧ posB odd = false ∧ Tb h w ∧ cntF (facM (h * w - 1)) + 1 < sizeLine ∧ s < h * w ∧
  ∀ H', PurseAt H' a n → SameB a H H' → Q (.bl true) H'
section
variable {P : Program} {w : World} {K : PySem.W.Frag} {mg : Str → Option Value} {base : Heap}
theorem scFi : FnScope ["_law_purse_here", "_law_odd", "_law_high", "_law_wide", "_law_spot", "_law_second", "_law_way", "_law_first"] ["_law_purse_here", "_law_odd", "_law_high", "_law_wide", "_law_spot"] (defScope sFi) := ⟨rfl, rfl, rfl, by decide +kernel, rfl, by decide +kernel, by decide +kernel⟩
theorem ok_fi {f : Addr} {fd : FuncData} (F : Fun K "_law_firsts_right" "_law_firsts_right" sFi f fd) (B4 : Bt4 mg) (D : Cal P w K mg base 2 "_law_draw" spDraw []) (Cl : Cal P w K mg base 6 "_law_called" spCalled []) (Is : CalG P w K mg base 1 "_law_is" (spIs K)) : FnG P w K mg base 7 f fd ["_law_purse_here", "_law_odd", "_law_high", "_law_wide", "_law_spot"] spFi := by
  refine F.okG scFi (fun vs H Q E h => ?_) (fun cdv A outer s H vs Q E gA hr h => ?_)
  · obtain ⟨a, odd, h, w, s, n, rfl, _⟩ := h
    rfl
  · obtain ⟨a, odd, hh, ww, ss, n, rfl, hp, ho, hbad, hT, hc, hs, k⟩ := h
    refine ⟨_, (pss_cons (ps_set (i := 5) scFi.nd rfl (Or.inl rfl) (pe_ix ix_list (pe_lstS (pa_cons pe_str (pa_cons (pe_lstS (pa_cons pe_int pa_nil)) (pa_cons (pe_un un_neg pe_int) pa_nil)))) (pe_c D hr (by decide) rfl (pa_cons (pv 0) (pa_cons pe_int pa_nil))) (fun _ _ => rfl)))
      (pss_cons (ps_for PassesOwn.never rfl (pi_range1 rfl B4.rng_ (pa_cons pe_int pa_nil)) (pg_name (i := 6) scFi.nd rfl (Or.inl rfl))
        (pss_one (ps_if (pt_not (pt_val (pe_cG gA Is hr (by decide) rfl (pa_cons (pe_c Cl hr (by decide) rfl (pa_cons (pv 6) (pa_cons (pe_tupS (pa_cons (pv 1) (pa_cons (pv 5) (pa_cons (pe_un un_neg pe_int) (pa_cons (pe_un un_neg pe_int) pa_nil))))) pa_nil))) (pa_cons (pv 1) pa_nil))))) (pss_one (ps_ret pe_bl)) pss_nil)))
      (pss_cons (ps_set (i := 7) scFi.nd rfl (Or.inl rfl) (pe_lstS (pa_cons (pe_c Cl hr (by decide) rfl (pa_cons pe_int (pa_cons (pe_tupS (pa_cons pe_int (pa_cons (pe_un un_neg pe_int) (pa_cons (pe_un un_neg pe_int) (pa_cons (pe_un un_neg pe_int) pa_nil))))) pa_nil))) (pa_cons (pe_c Cl hr (by decide) rfl (pa_cons pe_int (pa_cons (pe_tupS (pa_cons (pv 2) (pa_cons pe_int (pa_cons (pe_un un_neg pe_int) (pa_cons (pe_un un_neg pe_int) pa_nil))))) pa_nil))) pa_nil))))
      (pss_cons (ps_expr (pe_bm PySem.F.plainAttrs_list PySem.F.slot_list_append PySem.F.type_list_append mt_append (pv 7) (pa_cons (pe_c Cl hr (by decide) rfl (pa_cons pe_int (pa_cons (pe_tupS (pa_cons (pv 2) (pa_cons (pe_un un_neg pe_int) (pa_cons pe_int (pa_cons pe_int pa_nil))))) pa_nil))) pa_nil)))
      (pss_cons (ps_set (i := 7) scFi.nd rfl (Or.inl rfl) (pe_op op_catS (pv 7) (pe_lstS (pa_cons (pe_c Cl hr (by decide) rfl (pa_cons pe_int (pa_cons (pe_tupS (pa_cons (pv 2) (pa_cons (pv 3) (pa_cons (pe_un un_neg pe_int) (pa_cons (pe_un un_neg pe_int) pa_nil))))) pa_nil))) (pa_cons (pe_c Cl hr (by decide) rfl (pa_cons pe_int (pa_cons (pe_tupS (pa_cons (pv 2) (pa_cons (pv 3) (pa_cons (pv 4) (pa_cons (pe_un un_neg pe_int) pa_nil))))) pa_nil))) pa_nil)))))
      (pss_cons (ps_if (pt_cmpR (op_neD hr.units) (pv 7) (pe_lstS (pa_cons (pe_lstS (pa_cons pe_str (pa_cons pe_int pa_nil))) (pa_cons (pe_lstS (pa_cons pe_str (pa_cons pe_int pa_nil))) (pa_cons (pe_lstS (pa_cons pe_str (pa_cons (pe_un un_neg pe_int) pa_nil))) (pa_cons (pe_lstS (pa_cons pe_str (pa_cons (pe_un un_neg pe_int) pa_nil))) (pa_cons (pe_lstS (pa_cons pe_str (pa_cons (pe_un un_neg pe_int) pa_nil))) pa_nil)))))) (nomark _)) (pss_one (ps_ret pe_bl)) pss_nil)
      (pss_one (ps_ret pe_bl)))))))), ?_⟩
    obtain ⟨r1, c1, r2, c2⟩ := id hT
    refine seq_asg ?_
    refine ⟨by show 1 ≤ sizeLine; decide, fun b1 H1 S1 n1 h1 => ⟨_, rfl, by show 3 ≤ sizeLine; decide, fun b2 H2 S2 n2 h2 => ?_⟩⟩
    have hp2 := (hp.same S1).same S2
    refine ⟨_, rfl, a, 3, n, rfl, hp2, by decide, by decide, fun d H3 d0 d1 hp3 S3 => ?_⟩
    have nb2 : b2 ≠ a := fun z => by
      obtain ⟨p0, p1, p2, e, _⟩ := hp2
      rw [z] at h2
      rw [h2] at e
      cases e
    have nb1 : b1 ≠ a := fun z => by
      obtain ⟨p0, p1, p2, e, _⟩ := hp2
      rw [z] at h1
      rw [S2 _ _ h1] at e
      cases e
    have h13 := S3 _ _ nb1 (S2 _ _ h1)
    obtain ⟨sec, es, hsec⟩ : ∃ sec, atI [V.str "second", V.ref b1, V.int (-9)] d = some sec ∧ OL H3 sec := by
      have : d = 0 ∨ d = 1 ∨ d = 2 := by omega
      rcases this with rfl | rfl | rfl
      · exact ⟨_, rfl, .str _ second_len⟩
      · exact ⟨_, rfl, .lst (ns := [7]) h13 (by decide) (by decide)⟩
      · exact ⟨_, rfl, .int _ (by decide)⟩
    refine ⟨b2, _, d, sec, rfl, rfl, SqL.of (S3 _ _ nb2 h2), es, ?_⟩
    have ho3 : OL H3 odd := ((ho.same S1).same S2).purse hp2 S3
    have S03 : SameB a H H3 := fun c o n e => S3 _ _ n (S2 _ _ (S1 _ _ e))
    clear S1 S2 n1 n2 h1 h2 S3 nb1 nb2 hp2 h13 ho hp
    refine ts_mid (fun σ' H' => (∃ u6, σ' = [some (.ref a), some odd, some (cI hh), some (cI ww), some (cI ss), some sec, u6, none]) ∧ Same H3 H') (fun N hN => ?_) ?_
    · refine ⟨4, rfl, by decide, by decide, for_it (walk_range (n := 4)) (fun i σ' H' => (∃ u6, σ' = [some (.ref a), some odd, some (cI hh), some (cI ww), some (cI ss), some sec, u6, none]) ∧ Same H3 H') ⟨⟨none, rfl⟩, fun _ _ e => e⟩ (fun _ _ _ _ _ => trivial) ?_ ?_⟩
      · rintro i x σ' H4 H5 hi ⟨⟨u6, rfl⟩, S5⟩ ⟨rfl, rfl⟩
        have i4 : i < 4 := hi
        refine ⟨_, rfl, _, rfl, _, rfl, _, rfl, _, rfl, by show 4 ≤ sizeLine; decide, fun t H6 S6 nt ht => ?_⟩
        have S36 := S5.trans S6
        dsimp only [tNil]
        refine called_ref (way := 0 + (i : Int)) (ref_1 hbad) (by omega) (by omega) ht (ho3.same S36).odd (hsec.same S36).odd (.int _) (.int _) (no_pos hbad) (fun n e => by cases e; decide) fun H7 l S7 nl hl => ?_
        refine ⟨_, rfl, ?_⟩
        dsimp only [tNil]
        refine ((ho3.same S36).same S7).is hl fun H8 S8 => ⟨_, rfl, ifF rfl ⟨⟨_, rfl⟩, S36.trans (S7.trans S8)⟩⟩
      · rintro σ' H4 ⟨⟨u6, rfl⟩, S4⟩
        exact hN _ _ ⟨⟨_, rfl⟩, S4⟩
    rintro σ' H4 ⟨⟨u6, rfl⟩, S34⟩
    have eH := posB_n r1
    have eW := posB_n c1
    refine seq_asg ?_
    refine ⟨_, rfl, _, rfl, _, rfl, by show 4 ≤ sizeLine; decide, fun t1 H5 S5 n5 g5 => ?_⟩
    dsimp only [tNil]
    refine called_ref (way := 0) (r := .int 0) (ref_1 (by decide)) (by decide) (by decide) g5 (.int _) (.int _) (.int _) (.int _) (no_pos (by decide)) (fun n e => by cases e; decide) fun H6 l1 S6 n6 k1 => ?_
    refine ⟨_, rfl, _, rfl, _, rfl, by show 4 ≤ sizeLine; decide, fun t2 H7 S7 n7 g7 => ?_⟩
    dsimp only [tNil]
    refine called_ref (way := 1) (ref_2 eH (by decide)) (by decide) (by decide) g7 (.int _) (.int _) (.int _) (.int _) (no_pos2 (by decide)) (fun n e => by cases e; decide) fun H8 l2 S8 n8 k2 => ?_
    refine ⟨by show 2 ≤ sizeLine; decide, fun fo H9 S9 nfo hfo => ?_⟩
    have k1' := S9 _ _ (S8 _ _ (S7 _ _ k1))
    have k2' := S9 _ _ k2
    have T8 : Same H4 H8 := S5.trans (S6.trans (S7.trans S8))
    have T9 : Same H4 H9 := S5.trans (S6.trans (S7.trans (S8.trans S9)))
    clear S5 S6 S7 S8 S9 k1 k2 g5 g7 n5 n6 n7 n8
    refine ⟨_, rfl, .inl ⟨rfl, _, SqL.of hfo⟩, _, rfl, _, rfl, by show 4 ≤ sizeLine; decide, fun t3 H5 S5 n5 g5 => ?_⟩
    dsimp only [tNil]
    refine called_ref (way := 2) (ref_2 eH (by decide)) (by decide) (by decide) g5 (.int _) (.int _) (.int _) (.int _) (no_pos2 (by decide)) (fun n e => by cases e; decide) fun H6 l3 S6 n6 k3 => ?_
    have hfo6 := S6 _ _ (S5 _ _ hfo)
    refine ⟨fo, _, _, rfl, rfl, hfo6, by show 2 < sizeLine; decide, ?_⟩
    dsimp only [tNil]
    have T6 : Same H9 H6 := S5.trans S6
    have nf : ∀ {l : Addr} {i : Int}, H6 l = some (.lst [.str "number", .int i]) → l ≠ fo := fun h => ne_of h hfo6 (by intro z; cases z)
    have m1 : (upd H6 fo (.lst ([V.ref l1, V.ref l2] ++ [V.ref l3]))) l1 = some (.lst [.str "number", .int 0]) := by rw [upd_ne (nf (T6 _ _ k1'))]; exact T6 _ _ k1'
    have m2 : (upd H6 fo (.lst ([V.ref l1, V.ref l2] ++ [V.ref l3]))) l2 = some (.lst [.str "number", .int 0]) := by rw [upd_ne (nf (T6 _ _ k2'))]; exact T6 _ _ k2'
    have m3 : (upd H6 fo (.lst ([V.ref l1, V.ref l2] ++ [V.ref l3]))) l3 = some (.lst [.str "number", .int (-4)]) := by rw [upd_ne (nf (i := -4) k3)]; exact k3
    have mf : (upd H6 fo (.lst ([V.ref l1, V.ref l2] ++ [V.ref l3]))) fo = some (.lst [V.ref l1, V.ref l2, V.ref l3]) := upd_same
    have hp9 := (hp3.same S34).same T9
    have fa : a ≠ fo := fun z => by
      obtain ⟨p0, p1, p2, e, _⟩ := hp9
      rw [z, hfo] at e
      cases e
    have hpU : PurseAt (upd H6 fo (.lst ([V.ref l1, V.ref l2] ++ [V.ref l3]))) a n := by
      obtain ⟨p0, p1, p2, e, r⟩ := hp9.same T6
      exact ⟨p0, p1, p2, by rw [upd_ne fa]; exact e, r⟩
    have SU : SameB a H (upd H6 fo (.lst ([V.ref l1, V.ref l2] ++ [V.ref l3]))) := fun c o nc e => by
      have e8 := T8 _ _ (S34 _ _ (S03 c o nc e))
      rw [upd_ne (ne_of_none e8 nfo)]
      exact T6 _ _ (T9 _ _ (S34 _ _ (S03 c o nc e)))
    generalize (upd H6 fo (.lst ([V.ref l1, V.ref l2] ++ [V.ref l3]))) = HU at m1 m2 m3 mf hpU SU
    clear T8 T9 T6 S5 S6 k3 k1' k2' hfo hfo6 nfo nf fa hp9 S34 S03 hp3 g5 n5 n6 ho3 hsec es
    refine seq_asg ?_
    refine ⟨_, rfl, _, rfl, _, rfl, _, rfl, _, rfl, by show 4 ≤ sizeLine; decide, fun t4 H1 S1 _ g4 => ?_⟩
    dsimp only [tNil]
    refine called_ref (way := 0) (ref_3 eH eW (by decide) rfl) (by decide) (by decide) g4 (.int _) (.int _) (.int _) (.int _) (fun _ _ => ⟨hh, ww, rfl, rfl, hT, fun z => absurd z (by decide)⟩) (fun n e => by cases e; decide) fun H2 l4 S2 _ k4 => ?_
    refine ⟨_, rfl, _, rfl, _, rfl, _, rfl, by show 4 ≤ sizeLine; decide, fun t5 H3 S3 _ g5 => ?_⟩
    dsimp only [tNil]
    refine called_ref (way := 0) (ref_4 eH eW (okP_n hs) (by decide)) (by decide) (by decide) g5 (.int _) (.int _) (.int _) (.int _) (fun _ _ => ⟨hh, ww, rfl, rfl, hT, fun z => absurd z (by decide)⟩) (fun n e => by cases e; decide) fun H4 l5 S4 _ k5 => ?_
    refine ⟨by show 2 ≤ sizeLine; decide, fun b H5 S5 _ hb => ?_⟩
    have S15 := S1.trans (S2.trans (S3.trans (S4.trans S5)))
    refine ⟨fo, b, _, _, rfl, rfl, S15 _ _ mf, hb, by show 5 ≤ sizeLine; decide, fun fo2 H6 S6 _ hf2 => ?_⟩
    have M1 := (S15.trans S6) _ _ m1
    have M2 := (S15.trans S6) _ _ m2
    have M3 := (S15.trans S6) _ _ m3
    have M4 := (S3.trans (S4.trans (S5.trans S6))) _ _ k4
    have M5 := (S5.trans S6) _ _ k5
    have hp6 := hpU.same (S15.trans S6)
    have SU6 : SameB a H H6 := fun c o nc e => S6 _ _ (S15 _ _ (SU c o nc e))
    clear S1 S2 S3 S4 S5 S6 S15 m1 m2 m3 k4 k5 g4 g5 hb mf hpU SU
    refine ⟨_, rfl, by show 2 ≤ sizeLine; decide, fun q1 H1 S1 _ x1 => ?_⟩
    refine ⟨by show 2 ≤ sizeLine; decide, fun q2 H2 S2 _ x2 => ?_⟩
    refine ⟨_, rfl, by show 2 ≤ sizeLine; decide, fun q3 H3 S3 _ x3 => ?_⟩
    refine ⟨_, rfl, by show 2 ≤ sizeLine; decide, fun q4 H4 S4 _ x4 => ?_⟩
    refine ⟨_, rfl, by show 2 ≤ sizeLine; decide, fun q5 H5 S5 _ x5 => ?_⟩
    refine ⟨by show 5 ≤ sizeLine; decide, fun qq H7 S7 _ xq => ?_⟩
    have T := S1.trans (S2.trans (S3.trans (S4.trans (S5.trans S7))))
    refine ne_data (d := .list [numD 0, numD 0, numD (-4), numD (-1), numD (-3)])
      (.lst (SqL.of (T _ _ hf2)) (.cons (dp_num (T _ _ M1)) (.cons (dp_num (T _ _ M2)) (.cons (dp_num (T _ _ M3)) (.cons (dp_num (T _ _ M4)) (.cons (dp_num (T _ _ M5)) .nil))))))
      (.lst (SqL.of xq) (.cons (dp_num ((S2.trans (S3.trans (S4.trans (S5.trans S7)))) _ _ x1)) (.cons (dp_num ((S3.trans (S4.trans (S5.trans S7))) _ _ x2)) (.cons (dp_num ((S4.trans (S5.trans S7)) _ _ x3)) (.cons (dp_num ((S5.trans S7) _ _ x4)) (.cons (dp_num (S7 _ _ x5)) .nil))))))
      (by decide +kernel) ⟨false, rfl, ifF rfl ?_⟩
    exact k H7 (hp6.same T) (fun c o nc e => T _ _ (SU6 c o nc e))
end
end E3

set_option linter.all false
set_option maxHeartbeats 400000
/-! primes, powers, Euler's theorem for powers of a prime -/
namespace E3
def Pr (p : Nat) : Prop := 2 ≤ p ∧ ∀ d, d ∣ p → d = 1 ∨ d = p
theorem Pr.cop {p : Nat} (h : Pr p) (x : Nat) (n : ¬ p ∣ x) : Nat.Coprime p x := by
  rcases h.2 _ (Nat.gcd_dvd_left p x) with e | e
  · exact e
  · exact absurd (e ▸ Nat.gcd_dvd_right p x) n
theorem Pr.mul {p a b : Nat} (h : Pr p) (d : p ∣ a * b) : p ∣ a ∨ p ∣ b := by
  by_cases n : p ∣ a
  · exact .inl n
  · exact .inr ((h.cop a n).dvd_of_dvd_mul_left d)
theorem Pr.same {p q : Nat} (hp : Pr p) (hq : Pr q) (d : p ∣ q) : p = q := (hq.2 p d).elim (fun e => absurd e (by have := hp.1; omega)) id
theorem pr_div : ∀ n, 2 ≤ n → ∃ q, Pr q ∧ q ∣ n := by
  intro n
  induction n using Nat.strongRecOn with
  | _ n ih =>
    intro h
    by_cases p : Pr n
    · exact ⟨n, p, Nat.dvd_refl n⟩
    · have : ∃ d, d ∣ n ∧ d ≠ 1 ∧ d ≠ n := by
        refine Classical.byContradiction fun z => p ⟨h, fun d hd => ?_⟩
        by_cases e : d = 1
        · exact .inl e
        · by_cases e2 : d = n
          · exact .inr e2
          · exact absurd ⟨d, hd, e, e2⟩ z
      obtain ⟨d, hd, d1, d2⟩ := this
      have dl := Nat.le_of_dvd (by omega) hd
      have d0 : d ≠ 0 := fun z => by subst z; have := Nat.eq_zero_of_zero_dvd hd; omega
      obtain ⟨q, hq, hqd⟩ := ih d (by omega) (by omega)
      exact ⟨q, hq, Nat.dvd_trans hqd hd⟩
/-! a list mapped into itself -/
end E3

set_option linter.all false
set_option maxHeartbeats 400000
/-! the factors are primes; the order -/
namespace E3
theorem strip_nd : ∀ (n p v e : Nat), 2 ≤ p → 1 ≤ v → v ≤ n → ¬ p ∣ (stripGo n p v e).1
  | 0, p, v, e, h, h1, h2 => by omega
  | n + 1, p, v, e, h, h1, h2 => by
    unfold stripGo
    by_cases z : v % p = 0
    · rw [if_pos z]
      have := Nat.div_lt_self (show 0 < v by omega) (show 1 < p by omega)
      exact strip_nd n p (v / p) (e + 1) h (div_pos' h1 z) (by omega)
    · rw [if_neg z]
      exact fun d => z (Nat.mod_eq_zero_of_dvd d)
theorem strip_pos {p v : Nat} (h : 2 ≤ p) (h1 : 1 ≤ v) (h2 : 0 < (stripGo v p v 0).2) : p ∣ v := by
  by_cases z : v % p = 0
  · exact Nat.dvd_of_mod_eq_zero z
  · exfalso
    have e : stripGo v p v 0 = (v, 0) := by
      match v, h1 with
      | k + 1, _ => exact if_neg z
    rw [e] at h2
    exact absurd h2 (Nat.lt_irrefl 0)
def Asc (l : List (Nat × Nat)) : Prop := (∀ x ∈ l, Pr x.1) ∧ l.Pairwise (fun x y => x.1 < y.1)
theorem pr_min {p : Nat} (h : 2 ≤ p) {v : Nat} (d : p ∣ v) (hq : ∀ q, 2 ≤ q → q < p → ¬ q ∣ v) : Pr p := by
  refine ⟨h, fun q hqp => ?_⟩
  have ql := Nat.le_of_dvd (by omega) hqp
  have q0 : q ≠ 0 := fun z => by rw [z] at hqp; have := Nat.eq_zero_of_zero_dvd hqp; omega
  by_cases e : q = 1
  · exact .inl e
  · by_cases e2 : q = p
    · exact .inr e2
    · exact absurd (Nat.dvd_trans hqp d) (hq q (by omega) (by omega))
theorem fin_pr {p v : Nat} {acc : List (Nat × Nat)} (h : 2 ≤ p) (hv : 1 ≤ v) (hq : ∀ q, 2 ≤ q → q < p → ¬ q ∣ v) (pv : v < p * p) (ha : Asc acc) (hl : ∀ x ∈ acc, x.1 < p) : Asc (facFin v acc) := by
  unfold facFin
  by_cases z : 1 < v
  · rw [if_pos z]
    have pl : p ≤ v := Nat.le_of_not_lt fun c => hq v z c (Nat.dvd_refl v)
    have vp : Pr v := by
      refine ⟨z, fun d hd => ?_⟩
      obtain ⟨e, rfl⟩ := hd
      by_cases d1 : d = 1
      · exact .inl d1
      · have d0 : d ≠ 0 := fun c => by subst c; simp at z
        have dp : p ≤ d := Nat.le_of_not_lt fun c => hq d (by omega) c (Nat.dvd_mul_right d e)
        by_cases e1 : e = 1
        · exact .inr (by rw [e1, Nat.mul_one])
        · have e0 : e ≠ 0 := fun c => by subst c; simp at z
          have ep : p ≤ e := Nat.le_of_not_lt fun c => hq e (by omega) c (Nat.dvd_mul_left e d)
          have := Nat.mul_le_mul dp ep
          omega
    refine ⟨fun x hx => ?_, List.pairwise_append.mpr ⟨ha.2, List.pairwise_singleton _ _, fun x hx y hy => ?_⟩⟩
    · rcases List.mem_append.mp hx with c | c
      · exact ha.1 x c
      · obtain rfl := List.mem_singleton.mp c
        exact vp
    · obtain rfl := List.mem_singleton.mp hy
      have := hl x hx
      show x.1 < v
      omega
  · rw [if_neg z]
    exact ha
theorem facGo_pr : ∀ (n p v : Nat) (acc : List (Nat × Nat)), v + 2 ≤ n + p → 2 ≤ p → 1 ≤ v → (∀ q, 2 ≤ q → q < p → ¬ q ∣ v) → Asc acc → (∀ x ∈ acc, x.1 < p) → Asc (facGo n p v acc)
  | 0, p, v, acc, hf, h, hv, hq, ha, hl => fin_pr h hv hq (by
      have : p ≤ p * p := Nat.le_mul_of_pos_left p (by omega)
      omega) ha hl
  | n + 1, p, v, acc, hf, h, hv, hq, ha, hl => by
    unfold facGo
    by_cases z : p * p ≤ v
    · rw [if_pos z]
      obtain ⟨a, b, c, d⟩ := strip_ok v p v 0 h hv
      have nd := strip_nd v p v 0 h hv (Nat.le_refl _)
      have sp := strip_pos (v := v) h hv
      have pv : p ≤ v := Nat.le_trans (Nat.le_mul_of_pos_left p (by omega)) z
      generalize stripGo v p v 0 = s at a b c d nd sp
      have sv : s.1 ∣ v := ⟨p ^ s.2, by rw [a]; simp⟩
      refine facGo_pr n (p + 1) s.1 _ (by omega) (by omega) b (fun q q2 ql hd => ?_) ?_ ?_
      · by_cases e : q = p
        · subst e; exact nd hd
        · exact hq q q2 (by omega) (Nat.dvd_trans hd sv)
      · by_cases y : 0 < s.2
        · rw [if_pos y]
          refine ⟨fun x hx => ?_, List.pairwise_append.mpr ⟨ha.2, List.pairwise_singleton _ _, fun x hx y hy => ?_⟩⟩
          · rcases List.mem_append.mp hx with c | c
            · exact ha.1 x c
            · obtain rfl := List.mem_singleton.mp c
              exact pr_min h (sp y) hq
          · obtain rfl := List.mem_singleton.mp hy
            exact hl x hx
        · rw [if_neg y]; exact ha
      · by_cases y : 0 < s.2
        · rw [if_pos y]
          intro x hx
          rcases List.mem_append.mp hx with c | c
          · have := hl x c; omega
          · obtain rfl := List.mem_singleton.mp c
            exact Nat.lt_succ_self p
        · rw [if_neg y]
          intro x hx
          have := hl x hx; omega
    · rw [if_neg z]
      exact fin_pr h hv hq (by omega) ha hl
theorem facM_pr {v : Nat} (hv : 1 ≤ v) : Asc (facM v) := facGo_pr v 2 v [] (Nat.le_refl _) (Nat.le_refl _) hv (fun q a b => by omega) ⟨fun x hx => (by cases hx), List.Pairwise.nil⟩ (fun x hx => by cases hx)
/-! powers that leave 1 -/
section
variable {r m : Nat}
def Ex (r m a : Nat) : Prop := r ^ a % m = 1
theorem Ex.zero (h : 2 ≤ m) : Ex r m 0 := by unfold Ex; rw [Nat.pow_zero]; exact Nat.mod_eq_of_lt h
theorem Ex.add (h : 2 ≤ m) {a b : Nat} (ha : Ex r m a) : Ex r m (a + b) ↔ Ex r m b := by
  unfold Ex at *
  rw [Nat.pow_add, Nat.mul_mod, ha, Nat.one_mul, Nat.mod_mod]
theorem Ex.mul (h : 2 ≤ m) {a : Nat} (ha : Ex r m a) : ∀ k, Ex r m (a * k)
  | 0 => Ex.zero h
  | k + 1 => by rw [Nat.mul_succ, Nat.add_comm]; exact (Ex.add h ha).mpr (Ex.mul h ha k)
theorem Ex.mod (h : 2 ≤ m) {a b : Nat} (ha : Ex r m a) (hb : Ex r m b) : Ex r m (b % a) := by
  have e := Nat.div_add_mod b a
  rw [← e] at hb
  have := (Ex.add h (Ex.mul h ha (b / a)) (b := b % a)).mp hb
  exact this
theorem Ex.gcd (h : 2 ≤ m) : ∀ (a b : Nat), Ex r m a → Ex r m b → Ex r m (Nat.gcd a b) := by
  intro a b
  induction a, b using Nat.gcd.induction with
  | H0 n => intro _ hb; rw [Nat.gcd_zero_left]; exact hb
  | H1 a b ha ih => intro h1 h2; rw [Nat.gcd_rec]; exact ih (Ex.mod h h1 h2) h1
theorem Ex.order (h : 2 ≤ m) {f : Nat} (f1 : 1 ≤ f) (hf : Ex r m f) (hq : ∀ q, Pr q → q ∣ f → ¬ Ex r m (f / q)) (k : Nat) : Ex r m k ↔ f ∣ k := by
  refine ⟨fun hk => ?_, fun ⟨c, e⟩ => e ▸ Ex.mul h hf c⟩
  have hg := Ex.gcd h f k hf hk
  obtain ⟨c, hc⟩ := Nat.gcd_dvd_left f k
  by_cases e : c = 1
  · rw [e, Nat.mul_one] at hc
    rw [hc]; exact Nat.gcd_dvd_right f k
  · have c0 : c ≠ 0 := fun z => by rw [z] at hc; omega
    obtain ⟨q, pq, d, hd⟩ := pr_div c (by omega)
    have q0 : 0 < q := by have := pq.1; omega
    have e1 : f = q * (Nat.gcd f k * d) := by
      conv => lhs; rw [hc, hd]
      simp only [Nat.mul_left_comm]
    have e2 : f / q = Nat.gcd f k * d := Nat.div_eq_of_eq_mul_right q0 e1
    exact absurd (e2 ▸ Ex.mul h hg d) (hq q pq ⟨_, e1⟩)
end
end E3

set_option linter.all false
set_option maxHeartbeats 400000
/-! sums over the dict of the lengths -/
namespace E3
theorem map_id {l : Dt} {k v : Nat} (h : k ∉ l.map (·.1)) : l.map (fun x => if x.1 = k then (x.1, v) else x) = l := by
  conv => rhs; rw [← List.map_id l]
  refine List.map_congr_left fun x hx => ?_
  rw [if_neg fun e => h (List.mem_map.mpr ⟨x, hx, e⟩)]; rfl
theorem asc_tail {x : Nat × Nat} {l : List (Nat × Nat)} (a : Asc (x :: l)) : Asc l := ⟨fun z hz => a.1 z (List.mem_cons_of_mem _ hz), (List.pairwise_cons.mp a.2).2⟩
end E3

set_option linter.all false
set_option maxHeartbeats 400000
/-! few divisors; Euclid's steps; the rings of small tables, turn by turn -/
namespace E3
/-! Euclid's steps -/
/-! turn by turn; m: the places seen, as bits -/
end E3

set_option linter.all false
set_option maxHeartbeats 400000
/-! what rings tells -/
namespace E3
/-- rows, columns, the last place -/
structure Rc (r c L : Nat) : Prop where
  r1 : 1 ≤ r
  c1 : 1 ≤ c
  e : r * c = L + 1
theorem Rc.nd {r c L : Nat} (h : Rc r c L) {p : Nat} (hp : 2 ≤ p) (d : p ∣ L) : ¬ p ∣ r := fun z => by
  have h1 : p ∣ L + 1 := h.e ▸ Nat.dvd_trans z (Nat.dvd_mul_right r c)
  have h2 : p ∣ 1 := (Nat.dvd_add_right d).mp h1
  have := Nat.le_of_dvd (by decide) h2
  omega
theorem fac_dvd {l : List (Nat × Nat)} {x : Nat × Nat} (h : x ∈ l) : x.1 ^ x.2 ∣ prodF l := by
  induction l with
  | nil => cases h
  | cons y l ih =>
    rcases List.mem_cons.mp h with rfl | h
    · exact Nat.dvd_mul_right _ _
    · exact Nat.dvd_trans (ih h) (Nat.dvd_mul_left _ _)
theorem fac_dvd1 {l : List (Nat × Nat)} {x : Nat × Nat} (b : 1 ≤ x.2) (h : x ∈ l) : x.1 ∣ prodF l := by
  have e : x.1 ∣ x.1 ^ x.2 := by
    have := Nat.pow_dvd_pow x.1 b
    rw [Nat.pow_one] at this
    exact this
  exact Nat.dvd_trans e (fac_dvd h)
theorem Rc.fac {r c L : Nat} (h : Rc r c L) (hL : 1 ≤ L) : ∀ x ∈ facM L, ¬ x.1 ∣ r := fun x hx => by
  obtain ⟨g, hp⟩ := facM_ok hL
  obtain ⟨a, b⟩ := g x hx
  exact h.nd a (by rw [← hp]; exact fac_dvd1 b hx)
/-! the ring of a place -/
/-! squares, single rows -/
end E3

set_option linter.all false
set_option maxHeartbeats 400000
/-! fewer divisors: by cubes -/
namespace E3
def cube (n : Nat) : Nat := n * n * n
theorem cube_le {a b : Nat} (h : a ≤ b) : cube a ≤ cube b := Nat.mul_le_mul (Nat.mul_le_mul h h) h
theorem cube_mul (a b : Nat) : cube (a * b) = cube a * cube b := by
  unfold cube
  simp only [Nat.mul_assoc, Nat.mul_left_comm, Nat.mul_comm]
theorem cube_step {u v a b k : Nat} (h : u * a ≤ v * b) (c : cube v ≤ cube u * k) (u0 : 0 < u) : cube a ≤ k * cube b := by
  have h1 := cube_le h
  rw [cube_mul, cube_mul] at h1
  have h2 : cube u * cube a ≤ cube u * (k * cube b) := Nat.le_trans h1 (by rw [← Nat.mul_assoc]; exact Nat.mul_le_mul_right _ c)
  exact Nat.le_of_mul_le_mul_left h2 (Nat.mul_pos (Nat.mul_pos u0 u0) u0)
theorem c8 : ∀ e, 1 ≤ e → cube (e + 1) ≤ 8 ^ e
  | 0, h => by omega
  | 1, _ => by decide
  | e + 2, _ => by
    have ih := c8 (e + 1) (by omega)
    have s : cube (e + 2 + 1) ≤ 8 * cube (e + 1 + 1) := cube_step (u := 1) (v := 2) (by omega) (by decide) (by decide)
    rw [Nat.pow_succ]
    omega
theorem c7 : ∀ e, 7 * cube (e + 1) ≤ 8 * 7 ^ e
  | 0 => by decide
  | 1 => by decide
  | e + 2 => by
    have ih := c7 (e + 1)
    have s : cube (e + 2 + 1) ≤ 7 * cube (e + 1 + 1) := cube_step (u := 2) (v := 3) (by omega) (by decide) (by decide)
    rw [Nat.pow_succ]
    omega
theorem c5 : ∀ e, 5 * cube (e + 1) ≤ 8 * 5 ^ e
  | 0 => by decide
  | 1 => by decide
  | e + 2 => by
    have ih := c5 (e + 1)
    have s : cube (e + 2 + 1) ≤ 5 * cube (e + 1 + 1) := cube_step (u := 2) (v := 3) (by omega) (by decide) (by decide)
    rw [Nat.pow_succ]
    omega
theorem c3 : ∀ e, cube (e + 1) ≤ 3 * 3 ^ e
  | 0 => by decide
  | 1 => by decide
  | 2 => by decide
  | e + 3 => by
    have ih := c3 (e + 2)
    have s : cube (e + 3 + 1) ≤ 3 * cube (e + 2 + 1) := cube_step (u := 3) (v := 4) (by omega) (by decide) (by decide)
    rw [Nat.pow_succ]
    omega
theorem c2 : ∀ e, cube (e + 1) ≤ 8 * 2 ^ e
  | 0 => by decide
  | 1 => by decide
  | 2 => by decide
  | 3 => by decide
  | e + 4 => by
    have ih := c2 (e + 3)
    have s : cube (e + 4 + 1) ≤ 2 * cube (e + 3 + 1) := cube_step (u := 4) (v := 5) (by omega) (by decide) (by decide)
    rw [Nat.pow_succ]
    omega
theorem cnt_cons (x : Nat × Nat) (l : List (Nat × Nat)) : cube (cntF (x :: l)) = cube (x.2 + 1) * cube (cntF l) := cube_mul _ _
theorem cn8 : ∀ {l : List (Nat × Nat)}, Good l → (∀ x ∈ l, 8 ≤ x.1) → cube (cntF l) ≤ prodF l
  | [], _, _ => Nat.le_refl _
  | x :: l, g, h => by
    have ih := cn8 (l := l) (fun y hy => g y (List.mem_cons_of_mem _ hy)) fun y hy => h y (List.mem_cons_of_mem _ hy)
    rw [cnt_cons]
    exact Nat.mul_le_mul (Nat.le_trans (c8 _ (g x (List.mem_cons_self ..)).2) (Nat.pow_le_pow_left (h x (List.mem_cons_self ..)) _)) ih
/-- one more prime ahead -/
theorem cn_step {x : Nat × Nat} {l : List (Nat × Nat)} {p a b A B : Nat} (hx : p ≤ x.1) (c : a * cube (x.2 + 1) ≤ b * p ^ x.2) (ih : A * cube (cntF l) ≤ B * prodF l) : a * A * cube (cntF (x :: l)) ≤ b * B * prodF (x :: l) := by
  rw [cnt_cons]
  have h1 := Nat.mul_le_mul (Nat.le_trans c (Nat.mul_le_mul_left b (Nat.pow_le_pow_left hx x.2))) ih
  show _ ≤ b * B * (x.1 ^ x.2 * prodF l)
  have e1 : a * A * (cube (x.2 + 1) * cube (cntF l)) = a * cube (x.2 + 1) * (A * cube (cntF l)) := by simp only [Nat.mul_assoc, Nat.mul_left_comm, Nat.mul_comm]
  have e2 : b * B * (x.1 ^ x.2 * prodF l) = b * x.1 ^ x.2 * (B * prodF l) := by simp only [Nat.mul_assoc, Nat.mul_left_comm, Nat.mul_comm]
  rw [e1, e2]
  exact h1
theorem good_tail {x : Nat × Nat} {l : List (Nat × Nat)} (g : Good (x :: l)) : Good l := fun y hy => g y (List.mem_cons_of_mem _ hy)
theorem not_pr {n d : Nat} (h : Pr n) (hd : d ∣ n) (d1 : d ≠ 1) (dn : d ≠ n) : False := (h.2 d hd).elim d1 dn
theorem cn7 {l : List (Nat × Nat)} (g : Good l) (a : Asc l) (h : ∀ x ∈ l, 7 ≤ x.1) : 7 * cube (cntF l) ≤ 8 * prodF l := by
  match l with
  | [] => decide
  | x :: l =>
    have hl : ∀ y ∈ l, 8 ≤ y.1 := fun y hy => by
      have := (List.pairwise_cons.mp a.2).1 y hy
      have := h x (List.mem_cons_self ..)
      omega
    have := cn_step (A := 1) (B := 1) (h x (List.mem_cons_self ..)) (c7 x.2) (by simpa using cn8 (good_tail g) hl)
    simpa using this
theorem cn5 {l : List (Nat × Nat)} (g : Good l) (a : Asc l) (h : ∀ x ∈ l, 5 ≤ x.1) : 5 * 7 * cube (cntF l) ≤ 8 * 8 * prodF l := by
  match l with
  | [] => decide
  | x :: l =>
    have hl : ∀ y ∈ l, 7 ≤ y.1 := fun y hy => by
      have := (List.pairwise_cons.mp a.2).1 y hy
      have := h x (List.mem_cons_self ..)
      have py := a.1 y (List.mem_cons_of_mem _ hy)
      have : y.1 ≠ 6 := fun e => not_pr (e ▸ py) (d := 2) (by decide) (by decide) (by decide)
      omega
    exact cn_step (h x (List.mem_cons_self ..)) (c5 x.2) (cn7 (good_tail g) (asc_tail a) hl)
theorem cn3 {l : List (Nat × Nat)} (g : Good l) (a : Asc l) (h : ∀ x ∈ l, 3 ≤ x.1) : 35 * cube (cntF l) ≤ 192 * prodF l := by
  match l with
  | [] => decide
  | x :: l =>
    have hl : ∀ y ∈ l, 5 ≤ y.1 := fun y hy => by
      have := (List.pairwise_cons.mp a.2).1 y hy
      have := h x (List.mem_cons_self ..)
      have py := a.1 y (List.mem_cons_of_mem _ hy)
      have : y.1 ≠ 4 := fun e => not_pr (e ▸ py) (d := 2) (by decide) (by decide) (by decide)
      omega
    have := cn_step (a := 1) (b := 3) (h x (List.mem_cons_self ..)) (by rw [Nat.one_mul]; exact c3 x.2) (cn5 (good_tail g) (asc_tail a) hl)
    simpa using this
theorem cn2 {l : List (Nat × Nat)} (g : Good l) (a : Asc l) : 35 * cube (cntF l) ≤ 1536 * prodF l := by
  match l with
  | [] => decide
  | x :: l =>
    have hl : ∀ y ∈ l, 3 ≤ y.1 := fun y hy => by
      have := (List.pairwise_cons.mp a.2).1 y hy
      have := (g x (List.mem_cons_self ..)).1
      omega
    have := cn_step (a := 1) (b := 8) (g x (List.mem_cons_self ..)).1 (by rw [Nat.one_mul]; exact c2 x.2) (cn3 (good_tail g) (asc_tail a) hl)
    simpa using this
theorem cnt_3500 {v : Nat} (h : v < 900000000) : cntF (facM v) < 3500 := by
  by_cases z : 1 ≤ v
  · obtain ⟨g, hp⟩ := facM_ok z
    have h1 := cn2 g (facM_pr z)
    rw [hp] at h1
    refine Nat.lt_of_not_le fun c => ?_
    have h2 := cube_le c
    have h3 : cube 3500 = 42875000000 := by decide
    omega
  · have : v = 0 := by omega
    subst this; decide
end E3

set_option Elab.async false
set_option linter.all false
set_option maxRecDepth 100000
set_option maxHeartbeats 2000000
/-! law_k70's law -/
namespace E3
open PySem PySem.Spec PyProof.Rows L2
open C8 (Cal Mak Met InsC pe_c pe_mt pe_mt0 call_isC clsBody)
abbrev sLaw : Stmt := top 25
def spLaw (K : PySem.W.Frag) : Sp := fun vs H Q _ => ∃ (sc : Addr) (ns : List Int), vs = [.ref sc] ∧ SqL K H sc (ns.map V.int) ∧ ns.length ≤ 63 ∧ ∀ H', Q (.bl true) H'
theorem few_of {r c : Nat} (h : r * c ≤ 900000000) (h1 : 1 ≤ r * c) : cntF (facM (r * c - 1)) + 1 < sizeLine := by
  have := cnt_3500 (v := r * c - 1) (by omega)
  rw [sizeLine_eq]
  omega
theorem nat_of {i : Int} (h : 0 ≤ i) : ∃ n : Nat, i = (n : Int) := ⟨i.toNat, (Int.toNat_of_nonneg h).symm⟩
/-- one of the twelve objects -/
def OdV (H : Hp) (v : V) : Prop := OL H v ∧ posB v = false ∧ (inV v [.int 0, .bl false] = false → (∀ h w : Nat, okP (cI h) (cI w) v = false) ∧ cntB v = false)
def odds (l1 t1 d1 l2 : Addr) : List V := [.int 0, .int (-1), .non, .bl true, .bl false, .str "2", .ref l1, .ref t1, .ref d1, .ref l2, .str "", .int (0 - 10 ^ 20)]
theorem two_len : (PyData.str "2").shown.length ≤ 200 := by
  have h := PySem.StrLaws.reprText_len (("2" : Str)) (by decide +kernel)
  have e : (PyData.str "2").shown = reprText "2" := by unfold PyData.shown; rfl
  rw [e]
  exact Nat.le_trans h (by decide +kernel)
theorem nul_len : (PyData.str "").shown.length ≤ 200 := by
  have h := PySem.StrLaws.reprText_len (("" : Str)) (by decide +kernel)
  have e : (PyData.str "").shown = reprText "" := by unfold PyData.shown; rfl
  rw [e]
  exact Nat.le_trans h (by decide +kernel)
theorem odds_ok {H : Hp} {l1 t1 d1 l2 : Addr} (h1 : H l1 = some (.lst [.int 2])) (h2 : H t1 = some (.tup [.int 2])) (h3 : H d1 = some (.dK [])) (h4 : H l2 = some (.lst [])) : ∀ v ∈ odds l1 t1 d1 l2, OdV H v := fun v hv => by
  unfold odds at hv
  simp only [List.mem_cons, List.not_mem_nil, or_false] at hv
  rcases hv with rfl | rfl | rfl | rfl | rfl | rfl | rfl | rfl | rfl | rfl | rfl | rfl
  · exact ⟨.int _ (by decide), rfl, fun z => absurd z (by decide)⟩
  · exact ⟨.int _ (by decide), rfl, fun _ => ⟨fun _ _ => rfl, rfl⟩⟩
  · exact ⟨.non, rfl, fun _ => ⟨fun _ _ => rfl, rfl⟩⟩
  · exact ⟨.bl _, rfl, fun _ => ⟨fun _ _ => rfl, rfl⟩⟩
  · exact ⟨.bl _, rfl, fun z => absurd z (by decide)⟩
  · exact ⟨.str _ two_len, rfl, fun _ => ⟨fun _ _ => rfl, rfl⟩⟩
  · exact ⟨.lst (ns := [2]) h1 (by decide) (by decide), rfl, fun _ => ⟨fun _ _ => rfl, rfl⟩⟩
  · exact ⟨.tup (ns := [2]) h2 (by decide) (by decide), rfl, fun _ => ⟨fun _ _ => rfl, rfl⟩⟩
  · exact ⟨.dct h3, rfl, fun _ => ⟨fun _ _ => rfl, rfl⟩⟩
  · exact ⟨.lst (ns := []) h4 (by decide) (by decide), rfl, fun _ => ⟨fun _ _ => rfl, rfl⟩⟩
  · exact ⟨.str _ nul_len, rfl, fun _ => ⟨fun _ _ => rfl, rfl⟩⟩
  · exact ⟨.int _ (by decide), rfl, fun _ => ⟨fun _ _ => rfl, rfl⟩⟩
/-- a call of the law, told in advance -/
structure CallOk (way : Int) (H : Hp) (y : V) (v0 : Option V) : Prop where
  w0 : 0 ≤ way
  w3 : way ≤ 3
  it : ∃ (t : Addr) (r c p x : V), y = .ref t ∧ H t = some (.tup [r, c, p, x]) ∧ OddV H r ∧ OddV H c ∧ OddV H p ∧ OddV H x ∧
    (posB r = true → posB c = true → ∃ a b : Nat, r = cI a ∧ c = cI b ∧ Tb a b ∧ (way = 2 → cntF (facM (a * b - 1)) + 1 < sizeLine)) ∧ (∀ n, x = .int n → n < 2 ^ 200) ∧ refV way r c p x = v0
theorem CallOk.ref {way : Int} {H : Hp} {y v0 : V} {Q : VK} {E : XK} (h : CallOk way H y (some v0)) (k : ∀ H' l, Same H H' → H l = none → H' l = some (.lst [.str "number", v0]) → Q (.ref l) H') : spCalled [.int way, y] H Q E := by
  obtain ⟨w0, w3, _, _, _, _, _, rfl, ht, h1, h2, h3, h4, gd, xb, e⟩ := h
  exact called_ref e w0 w3 ht h1 h2 h3 h4 gd xb k
theorem CallOk.none {way : Int} {H : Hp} {y : V} {Q : VK} {E : XK} (h : CallOk way H y none) (k : ∀ H', Same H H' → Q .non H') : spCalled [.int way, y] H Q E := by
  obtain ⟨w0, w3, _, _, _, _, _, rfl, ht, h1, h2, h3, h4, gd, xb, e⟩ := h
  exact called_none e w0 w3 ht h1 h2 h3 h4 gd xb k
theorem CallOk.same {way : Int} {H H' : Hp} {y : V} {v0 : Option V} (S : Same H H') : CallOk way H y v0 → CallOk way H' y v0
  | ⟨w0, w3, t, r, c, p, x, e, ht, h1, h2, h3, h4, h5⟩ => ⟨w0, w3, t, r, c, p, x, e, S _ _ ht, h1.same S, h2.same S, h3.same S, h4.same S, h5⟩
theorem ne_purse {H : Hp} {p c : Addr} {n : Nat} (hp : PurseAt H p n) (h : H c = none) : c ≠ p := fun z => by
  obtain ⟨p0, p1, p2, e, _⟩ := hp
  rw [z, e] at h
  cases h
theorem okP_ge {a b : Nat} {q : Int} (h : (a : Int) * (b : Int) ≤ q) : okP (cI a) (cI b) (.int q) = false := by
  show (decide ((0 : Int) ≤ q) && decide (q < (a : Int) * (b : Int))) = false
  rw [decide_eq_false (by omega : ¬ q < (a : Int) * (b : Int)), Bool.and_false]
theorem ref_good {way : Int} {a b q : Nat} {x : V} (ha : 1 ≤ a) (hb : 1 ≤ b) (hq : q < a * b) (hx : cntB x = true) : refV way (cI a) (cI b) (cI q) x = none := by
  by_cases h : way = 2
  · subst h
    exact ref_5 (posB_n ha) (posB_n hb)
  · exact ref_6 (posB_n ha) (posB_n hb) (okP_n hq) h (fun z => by rw [hx] at z; cases z.2)
theorem good_call {way : Int} {H : Hp} {t : Addr} {a b q : Nat} {n : Int} (w0 : 0 ≤ way) (w3 : way ≤ 3) (T : Tb a b) (hq : q < a * b) (few : cntF (facM (a * b - 1)) + 1 < sizeLine) (ht : H t = some (.tup [cI a, cI b, cI q, .int n])) (hx : cntB (.int n) = true) (hn : n < 2 ^ 200) : CallOk way H (.ref t) none :=
  ⟨w0, w3, t, _, _, _, _, rfl, ht, .int _, .int _, .int _, .int _, fun _ _ => ⟨a, b, rfl, rfl, T, fun _ => few⟩, fun m e => by cases e; exact hn, ref_good T.1 T.2.1 hq hx⟩
section
variable {P : Program} {w : World} {K : PySem.W.Frag} {mg : Str → Option Value} {base : Heap}
theorem scLaw : FnScope ["_law_script", "_law_cell", "_law_purse_here", "_law_most", "_law_high", "_law_wide", "_law_spot", "_law_odd", "_law_way", "_law_parts", "_law_far", "_law_good"] ["_law_script"] (defScope sLaw) := ⟨rfl, rfl, rfl, by decide +kernel, rfl, by decide +kernel, by decide +kernel⟩
theorem ok_law {f : Addr} {fd : FuncData} (F : Fun K "law" "law" sLaw f fd) (B4 : Bt4 mg) (Pu : Cal P w K mg base 1 "_law_purse" (spPurse K) []) (D : Cal P w K mg base 2 "_law_draw" spDraw []) (Cl : Cal P w K mg base 6 "_law_called" spCalled []) (Is : CalG P w K mg base 1 "_law_is" (spIs K)) (Fi : CalG P w K mg base 7 "_law_firsts_right" spFi) : FnG P w K mg base 8 f fd ["_law_script"] (spLaw K) := by
  refine F.okG scLaw (fun vs H Q E h => ?_) (fun cdv A outer s H vs Q E gA hr h => ?_)
  · obtain ⟨sc, ns, rfl, _⟩ := h
    rfl
  · obtain ⟨sc, ns, rfl, hs, hl, q⟩ := h
    refine ⟨_, ((pss_cons (ps_for PassesOwn.never rfl (pi_range1 rfl B4.rng_ (pa_cons (pe_callB (call_max2 rfl) (by rfl) B4.max_ (by decide +kernel) (pa_cons pe_int (pa_cons (pe_callB call_len_seq (by rfl) B4.len_ PySem.boot_len (pa_cons (pe_slice sl_listS (pv 0) po_none (po_some pe_int)) pa_nil)) pa_nil))) pa_nil)) (pg_name (i := 1) scLaw.nd rfl (Or.inl rfl))
        (pss_cons (ps_set (i := 2) scLaw.nd rfl (Or.inl rfl) (pe_c Pu hr (by decide) rfl (pa_cons (pv 0) (pa_cons (pv 1) pa_nil))))
      (pss_cons (ps_set (i := 3) scLaw.nd rfl (Or.inl rfl) (pe_ix ix_list (pe_lstS (pa_cons pe_int (pa_cons pe_int (pa_cons pe_int pa_nil)))) (pe_c D hr (by decide) rfl (pa_cons (pv 2) (pa_cons pe_int pa_nil))) (fun _ _ => rfl)))
      (pss_cons (ps_par (i := 4) (j := 5) (by rfl) scLaw.nd rfl rfl (by decide) rfl rfl (pa_cons (pe_op op_add pe_int (pe_c D hr (by decide) rfl (pa_cons (pv 2) (pa_cons (pv 3) pa_nil)))) (pa_cons (pe_op op_add pe_int (pe_c D hr (by decide) rfl (pa_cons (pv 2) (pa_cons (pv 3) pa_nil)))) pa_nil)) (by rfl))
      (pss_cons (ps_set (i := 6) scLaw.nd rfl (Or.inl rfl) (pe_c D hr (by decide) rfl (pa_cons (pv 2) (pa_cons (pe_op op_mul (pv 4) (pv 5)) pa_nil))))
      (pss_cons (ps_for PassesOwn.never rfl (pi_list (pe_lstS (pa_cons pe_int (pa_cons (pe_un un_neg pe_int) (pa_cons pe_non (pa_cons pe_bl (pa_cons pe_bl (pa_cons pe_str (pa_cons (pe_lstS (pa_cons pe_int pa_nil)) (pa_cons (pe_tupS (pa_cons pe_int pa_nil)) (pa_cons pe_dnewS (pa_cons (pe_lstS pa_nil) (pa_cons pe_str (pa_cons (pe_op op_sub pe_int (pe_op op_pow pe_int pe_int)) pa_nil)))))))))))))) (pg_name (i := 7) scLaw.nd rfl (Or.inl rfl))
        (pss_cons (ps_if (pt_not (pt_val (pe_cG gA Fi hr (by decide) rfl (pa_cons (pv 2) (pa_cons (pv 7) (pa_cons (pv 4) (pa_cons (pv 5) (pa_cons (pv 6) pa_nil)))))))) (pss_one (ps_ret pe_bl)) pss_nil)
      (pss_cons (ps_for PassesOwn.never rfl (pi_range1 rfl B4.rng_ (pa_cons pe_int pa_nil)) (pg_name (i := 8) scLaw.nd rfl (Or.inl rfl))
        (pss_cons (ps_for PassesOwn.never rfl (pi_list (pe_lstS (pa_cons (pe_tupS (pa_cons (pv 7) (pa_cons (pv 7) (pa_cons (pv 7) (pa_cons (pv 7) pa_nil))))) (pa_cons (pe_tupS (pa_cons (pv 7) (pa_cons (pv 5) (pa_cons (pv 6) (pa_cons pe_int pa_nil))))) (pa_cons (pe_tupS (pa_cons (pv 4) (pa_cons (pv 7) (pa_cons (pv 7) (pa_cons (pv 7) pa_nil))))) (pa_cons (pe_tupS (pa_cons (pv 4) (pa_cons (pv 7) (pa_cons (pv 6) (pa_cons pe_int pa_nil))))) pa_nil)))))) (pg_name (i := 9) scLaw.nd rfl (Or.inl rfl))
        (pss_one (ps_if (pt_not (pt_val (pe_cG gA Is hr (by decide) rfl (pa_cons (pe_c Cl hr (by decide) rfl (pa_cons (pv 8) (pa_cons (pv 9) pa_nil))) (pa_cons (pv 7) pa_nil))))) (pss_one (ps_ret pe_bl)) pss_nil)))
      (pss_one (ps_if (PW.pt (pw_and (pt_cmpR op_ne (pv 8) pe_int (nomark _)) (pw_and (pt_cmpR (op_notZ hr.units) (pv 7) (pe_tupS (pa_cons pe_int (pa_cons pe_bl pa_nil))) (by rfl)) (pw_and1 (pt_not (pt_val (pe_cG gA Is hr (by decide) rfl (pa_cons (pe_c Cl hr (by decide) rfl (pa_cons (pv 8) (pa_cons (pe_tupS (pa_cons (pv 4) (pa_cons (pv 5) (pa_cons (pv 7) (pa_cons (pv 7) pa_nil))))) pa_nil))) (pa_cons (pv 7) pa_nil))))))))) (pss_one (ps_ret pe_bl)) pss_nil))))
      (pss_one (ps_if (PW.pt (pw_and (pt_cmpR (op_notZ hr.units) (pv 7) (pe_tupS (pa_cons pe_int (pa_cons pe_bl pa_nil))) (by rfl)) (pw_and1 (pt_not (pt_val (pe_cG gA Is hr (by decide) rfl (pa_cons (pe_c Cl hr (by decide) rfl (pa_cons pe_int (pa_cons (pe_tupS (pa_cons (pv 4) (pa_cons (pv 5) (pa_cons (pv 6) (pa_cons (pv 7) pa_nil))))) pa_nil))) (pa_cons (pv 7) pa_nil)))))))) (pss_one (ps_ret pe_bl)) pss_nil)))))
      (pss_cons (ps_for PassesOwn.never rfl (pi_list (pe_lstS (pa_cons (pe_op op_mul (pv 4) (pv 5)) (pa_cons (pe_op op_add (pe_op op_mul (pv 4) (pv 5)) pe_int) (pa_cons (pe_op op_pow pe_int pe_int) (pa_cons pe_bl pa_nil)))))) (pg_name (i := 10) scLaw.nd rfl (Or.inl rfl))
        (pss_one (ps_for PassesOwn.never rfl (pi_tup (pe_tupS (pa_cons pe_int (pa_cons pe_int (pa_cons pe_int pa_nil))))) (pg_name (i := 8) scLaw.nd rfl (Or.inl rfl))
        (pss_one (ps_if (pt_not (pt_val (pe_cG gA Is hr (by decide) rfl (pa_cons (pe_c Cl hr (by decide) rfl (pa_cons (pv 8) (pa_cons (pe_tupS (pa_cons (pv 4) (pa_cons (pv 5) (pa_cons (pv 10) (pa_cons pe_non pa_nil))))) pa_nil))) (pa_cons (pv 10) pa_nil))))) (pss_one (ps_ret pe_bl)) pss_nil)))))
      (pss_cons (ps_if (pt_not (pt_val (pe_cG gA Is hr (by decide) rfl (pa_cons (pe_c Cl hr (by decide) rfl (pa_cons pe_int (pa_cons (pe_tupS (pa_cons (pv 4) (pa_cons (pv 5) (pa_cons pe_int (pa_cons pe_bl pa_nil))))) pa_nil))) (pa_cons pe_bl pa_nil))))) (pss_one (ps_ret pe_bl)) pss_nil)
      (pss_cons (ps_for PassesOwn.never rfl (pi_list (pe_lstS (pa_cons (pe_tupS (pa_cons pe_int (pa_cons pe_int (pa_cons pe_int (pa_cons pe_int pa_nil))))) (pa_cons (pe_tupS (pa_cons pe_int (pa_cons pe_int (pa_cons pe_int (pa_cons pe_int pa_nil))))) (pa_cons (pe_tupS (pa_cons pe_int (pa_cons pe_int (pa_cons pe_int (pa_cons pe_int pa_nil))))) pa_nil))))) (pg_name (i := 9) scLaw.nd rfl (Or.inl rfl))
        (pss_one (ps_for PassesOwn.never rfl (pi_range1 rfl B4.rng_ (pa_cons pe_int pa_nil)) (pg_name (i := 8) scLaw.nd rfl (Or.inl rfl))
        (pss_one (ps_if (pt_cmp (pc_notN (pe_c Cl hr (by decide) rfl (pa_cons (pv 8) (pa_cons (pv 9) pa_nil))))) (pss_one (ps_ret pe_bl)) pss_nil)))))
      (pss_one (ps_for PassesOwn.never rfl (pi_list (pe_lstS (pa_cons pe_int (pa_cons (pv 6) (pa_cons (pe_op op_sub (pe_op op_mul (pv 4) (pv 5)) pe_int) pa_nil))))) (pg_name (i := 11) scLaw.nd rfl (Or.inl rfl))
        (pss_one (ps_for PassesOwn.never rfl (pi_tup (pe_ifExp (pt_cmpR op_gt (pv 11) pe_int (nomark _)) (pe_tupS (pa_cons pe_int (pa_cons pe_int (pa_cons pe_int pa_nil)))) (pe_tupS (pa_cons pe_int (pa_cons pe_int (pa_cons pe_int (pa_cons pe_int pa_nil))))))) (pg_name (i := 8) scLaw.nd rfl (Or.inl rfl))
        (pss_one (ps_if (pt_cmp (pc_notN (pe_c Cl hr (by decide) rfl (pa_cons (pv 8) (pa_cons (pe_tupS (pa_cons (pv 4) (pa_cons (pv 5) (pa_cons (pv 11) (pa_cons (pe_c D hr (by decide) rfl (pa_cons (pv 2) (pa_cons (pe_op op_pow pe_int pe_int) pa_nil))) pa_nil))))) pa_nil))))) (pss_one (ps_ret pe_bl)) pss_nil)))))))))))))))
      (pss_one (ps_ret pe_bl)))), ?_⟩
    have lcut : (cutV (ns.map V.int) none (some 16)).length ≤ 63 := by
      unfold cutV
      refine Nat.le_trans (List.length_take_le' _ _) ?_
      rw [List.length_drop, List.length_map]
      omega
    refine ⟨_, rfl, 16, rfl, sc, _, rfl, hs, fun pc H1 S1 n1 h1 => ?_⟩
    refine ⟨pc, _, rfl, .inl (SqL.of h1), 1, _, rfl, _, rfl, ?_⟩
    generalize hm : (if (((cutV (ns.map V.int) none (some 16)).length : Nat) : Int) > 1 then (((cutV (ns.map V.int) none (some 16)).length : Nat) : Int) else 1) = m
    have m0 : 0 ≤ m ∧ m ≤ 63 := by
      rw [← hm]
      split <;> omega
    refine ⟨by omega, by omega, for_it (walk_range (n := m.toNat)) (fun i σ' H' => (∃ u1 u2 u3 u4 u5 u6 u7 u8 u9 u10 u11, σ' = [some (.ref sc), u1, u2, u3, u4, u5, u6, u7, u8, u9, u10, u11]) ∧ Same H H') ⟨⟨none, none, none, none, none, none, none, none, none, none, none, rfl⟩, S1⟩ (fun _ _ _ _ _ => trivial) ?_ ?_⟩
    · rintro i x σ' H9 H2 hi ⟨⟨u1, u2, u3, u4, u5, u6, u7, u8, u9, u10, u11, rfl⟩, S2⟩ ⟨rfl, hx⟩
      subst hx
      refine seq_asg ⟨_, rfl, _, rfl, sc, _, ns, rfl, hs.same S2, by omega, by omega, fun H4 p S4 np hp => ?_⟩
      refine seq_asg ⟨by show 3 ≤ sizeLine; decide, fun b H5 S5 n5 h5 => ⟨_, rfl, p, 3, 2 ^ 58, rfl, (hp.same S5).less (by decide), by decide, by decide, fun d H6 d0 d1 hp6 S6 => ?_⟩⟩
      have nb : b ≠ p := fun z => by
        obtain ⟨p0, p1, p2, e, _⟩ := hp
        rw [z, e] at n5
        cases n5
      obtain ⟨mo, es, mo1, mo2⟩ : ∃ mo : Nat, atI [V.int 3, V.int 100, V.int 30000] d = some (cI mo) ∧ 1 ≤ mo ∧ mo ≤ 30000 := by
        have : d = 0 ∨ d = 1 ∨ d = 2 := by omega
        rcases this with rfl | rfl | rfl
        · exact ⟨3, rfl, by decide, by decide⟩
        · exact ⟨100, rfl, by decide, by decide⟩
        · exact ⟨30000, rfl, by decide, by decide⟩
      refine ⟨b, _, d, _, rfl, rfl, SqL.of (S6 _ _ nb h5), es, ?_⟩
      have S46 : SameB p H4 H6 := ((SameB.refl p H4).to S5).trans S6
      clear S5 S6 n5 h5 nb es
      refine ts_mid (fun σ' H' => ∃ r c : Nat, σ' = [some (.ref sc), some (V.int (0 + (i : Nat))), some (.ref p), some (cI mo), some (cI r), some (cI c), u6, u7, u8, u9, u10, u11] ∧ 1 ≤ r ∧ r ≤ 30000 ∧ 1 ≤ c ∧ c ≤ 30000 ∧ SameB p H4 H' ∧ PurseAt H' p (2 ^ 56)) (fun N k => ?_) ?_
      · refine ⟨_, rfl, _, rfl, p, (mo : Int), 2 ^ 57, rfl, hp6.less (by decide), by omega, by omega, fun r H5 r0 r1 hp5 S5 => ⟨_, _, rfl, rfl, _, rfl, _, rfl, p, (mo : Int), 2 ^ 56, rfl, hp5.less (by decide), by omega, by omega, fun c H7 c0 c1 hp7 S7 => ⟨_, _, rfl, rfl, _, _, rfl, ?_⟩⟩⟩
        obtain ⟨r, rfl⟩ := nat_of r0
        obtain ⟨c, rfl⟩ := nat_of c0
        refine k _ _ ⟨1 + r, 1 + c, ?_, by omega, by omega, by omega, by omega, (S46.trans S5).trans S7, hp7⟩
        have e1 : V.int (1 + ((r : Nat) : Int)) = cI (1 + r) := cI_add 1 r
        have e2 : V.int (1 + ((c : Nat) : Int)) = cI (1 + c) := cI_add 1 c
        rw [← e1, ← e2]; rfl
      rintro σ' H5 ⟨hh, ww, rfl, r1, r2, c1, c2, S45, hp5⟩
      clear S46 hp6 d0 d1
      have hT : Tb hh ww := ⟨r1, c1, by omega, by omega⟩
      have hw1 : 1 ≤ hh * ww := Nat.mul_pos r1 c1
      have hw2 : hh * ww ≤ 900000000 := Nat.mul_le_mul r2 c2
      have hwe : ((hh : Nat) : Int) * ((ww : Nat) : Int) = ((hh * ww : Nat) : Int) := (Int.natCast_mul hh ww).symm
      have hcnt := few_of hw2 hw1
      have eH := posB_n r1
      have eW := posB_n c1
      refine seq_asg ⟨_, rfl, _, rfl, _, rfl, _, _, rfl, rfl, .inl ⟨by omega, by omega⟩, p, _, 2 ^ 55, rfl, hp5.less (by decide), by rw [hwe]; omega, by rw [hwe]; omega, fun s H6 s0 s1 hp6 S6 => ?_⟩
      rw [hwe] at s1
      obtain ⟨ss, rfl⟩ := nat_of s0
      have hs1 : ss < hh * ww := by omega
      have S46 := S45.trans S6
      clear S45 S6 hp5 s0 s1 hp
      refine ts_mid (fun σ' H' => (∃ u7 u8 u9, σ' = [some (.ref sc), some (V.int (0 + (i : Nat))), some (.ref p), some (cI mo), some (cI hh), some (cI ww), some (cI ss), u7, u8, u9, u10, u11]) ∧ SameB p H4 H' ∧ PurseAt H' p (2 ^ 54)) (fun N hN => ?_) ?_
      · refine ⟨_, rfl, by show 1 ≤ sizeLine; decide, fun l1 H7 S7 n7 h7 => ⟨by show 1 ≤ sizeLine; decide, fun t1 H8 S8 n8 h8 => ?_⟩⟩
        refine fun d1 H9 S9 n9 h9 => ⟨by show 0 ≤ sizeLine; decide, fun l2 H10 S10 n10 h10 => ?_⟩
        refine ⟨_, _, rfl, rfl, ⟨by decide, by decide, by decide⟩, _, _, rfl, rfl, by show 12 ≤ sizeLine; decide, fun lo H11 S11 n11 h11 => ?_⟩
        have hod := odds_ok (S11 _ _ (S10 _ _ (S9 _ _ (S8 _ _ h7)))) (S11 _ _ (S10 _ _ (S9 _ _ h8))) (S11 _ _ (S10 _ _ h9)) (S11 _ _ h10)
        have hlo : H11 lo = some (.lst (odds l1 t1 d1 l2)) := h11
        have T : Same H6 H11 := S7.trans (S8.trans (S9.trans (S10.trans S11)))
        have nlo := ne_purse (hp6.same (S7.trans (S8.trans (S9.trans S10)))) n11
        have hp11 := hp6.same T
        have S4B := S46.to T
        clear S7 S8 S9 S10 S11 n7 n8 n9 n10 n11 h7 h8 h9 h10 h11 T S46 hp6
        refine ⟨lo, rfl, ⟨_, SqL.of hlo⟩, for_it (walk_list (xs := odds l1 t1 d1 l2)) (fun j σ' H' => (∃ u7 u8 u9, σ' = [some (.ref sc), some (V.int (0 + (i : Nat))), some (.ref p), some (cI mo), some (cI hh), some (cI ww), some (cI ss), u7, u8, u9, u10, u11]) ∧ SameB p H11 H' ∧ PurseAt H' p (2 ^ 54 + 4 * (12 - j))) ⟨⟨_, _, _, rfl⟩, SameB.refl p H11, hp11.less (by decide)⟩ (fun _ _ _ _ z => (SqL.of hlo).sameB z.2.1 nlo) ?_ ?_⟩
        · rintro j v σ' H12 H13 hj ⟨⟨u7, u8, u9, rfl⟩, S12, hp12⟩ ⟨rfl, hv⟩
          obtain ⟨ol, nb, oz⟩ := hod v (List.mem_of_getElem? hv)
          have ol := OL.purse hp11 S12 ol
          have hj : j < 12 := hj
          refine ⟨_, rfl, _, rfl, _, rfl, _, rfl, _, rfl, p, v, hh, ww, ss, 2 ^ 54 + 4 * (12 - (j + 1)), rfl, hp12.less (by omega), ol, nb, hT, hcnt, hs1, fun H14 hp14 S14 => ⟨_, rfl, ifF rfl ?_⟩⟩
          have ol := OL.purse hp12 S14 ol
          have S14 := S12.trans S14
          clear S12 hp12 hv
          dsimp only [tNext]
          refine ts_mid (fun σ' H' => (∃ u8 u9, σ' = [some (.ref sc), some (V.int (0 + (i : Nat))), some (.ref p), some (cI mo), some (cI hh), some (cI ww), some (cI ss), some v, u8, u9, u10, u11]) ∧ Same H14 H') (fun N hN => ?_) ?_
          · refine ⟨4, rfl, by decide, by decide, for_it (walk_range (n := 4)) (fun k σ' H' => (∃ u8 u9, σ' = [some (.ref sc), some (V.int (0 + (i : Nat))), some (.ref p), some (cI mo), some (cI hh), some (cI ww), some (cI ss), some v, u8, u9, u10, u11]) ∧ Same H14 H') ⟨⟨_, _, rfl⟩, Same.refl _⟩ (fun _ _ _ _ _ => trivial) ?_ ?_⟩
            · rintro k x σ' H15 H16 hk ⟨⟨u8, u9, rfl⟩, S15⟩ ⟨rfl, rfl⟩
              have k4 : k < 4 := hk
              have ol := ol.same S15
              refine ts_mid (fun σ' H' => (∃ u9, σ' = [some (.ref sc), some (V.int (0 + (i : Nat))), some (.ref p), some (cI mo), some (cI hh), some (cI ww), some (cI ss), some v, some (.int (0 + (k : Int))), u9, u10, u11]) ∧ Same H16 H') (fun N hN => ?_) ?_
              · refine ⟨_, rfl, _, rfl, _, rfl, _, rfl, by show 4 ≤ sizeLine; decide, fun t1 H17 S17 n17 g1 => ?_⟩
                refine ⟨_, rfl, _, rfl, _, rfl, by show 4 ≤ sizeLine; decide, fun t2 H18 S18 n18 g2 => ?_⟩
                refine ⟨_, rfl, _, rfl, _, rfl, _, rfl, by show 4 ≤ sizeLine; decide, fun t3 H19 S19 n19 g3 => ?_⟩
                refine ⟨_, rfl, _, rfl, _, rfl, by show 4 ≤ sizeLine; decide, fun t4 H20 S20 n20 g4 => ?_⟩
                refine ⟨by show 4 ≤ sizeLine; decide, fun lp H21 S21 n21 g5 => ?_⟩
                have T17 := S17.trans (S18.trans (S19.trans (S20.trans S21)))
                have ol2 := ol.same T17
                have co : ∀ y ∈ [V.ref t1, V.ref t2, V.ref t3, V.ref t4], CallOk (0 + (k : Int)) H21 y (some v) := fun y hy => by
                  simp only [List.mem_cons, List.not_mem_nil, or_false] at hy
                  rcases hy with rfl | rfl | rfl | rfl
                  · exact ⟨by omega, by omega, t1, _, _, _, _, rfl, S21 _ _ (S20 _ _ (S19 _ _ (S18 _ _ g1))), ol2.odd, ol2.odd, ol2.odd, ol2.odd, no_pos nb, ol2.num, ref_1 nb⟩
                  · exact ⟨by omega, by omega, t2, _, _, _, _, rfl, S21 _ _ (S20 _ _ (S19 _ _ g2)), ol2.odd, .int _, .int _, .int _, no_pos nb, fun n e => by cases e; decide, ref_1 nb⟩
                  · exact ⟨by omega, by omega, t3, _, _, _, _, rfl, S21 _ _ (S20 _ _ g3), .int _, ol2.odd, ol2.odd, ol2.odd, no_pos2 nb, ol2.num, ref_2 eH nb⟩
                  · exact ⟨by omega, by omega, t4, _, _, _, _, rfl, S21 _ _ g4, .int _, ol2.odd, .int _, .int _, no_pos2 nb, fun n e => by cases e; decide, ref_2 eH nb⟩
                clear S17 S18 S19 S20 S21 n17 n18 n19 n20 n21 g1 g2 g3 g4
                refine ⟨lp, rfl, ⟨_, SqL.of g5⟩, for_it (walk_list (xs := [V.ref t1, V.ref t2, V.ref t3, V.ref t4])) (fun _ σ' H' => (∃ u9, σ' = [some (.ref sc), some (V.int (0 + (i : Nat))), some (.ref p), some (cI mo), some (cI hh), some (cI ww), some (cI ss), some v, some (.int (0 + (k : Int))), u9, u10, u11]) ∧ Same H21 H') ⟨⟨_, rfl⟩, Same.refl _⟩ (fun _ _ _ _ z => (SqL.of g5).same z.2) ?_ ?_⟩
                · rintro l y σ' H22 H23 hl2 ⟨⟨u9, rfl⟩, S22⟩ ⟨rfl, hy⟩
                  have co1 := (co y (List.mem_of_getElem? hy)).same S22
                  refine ⟨_, rfl, _, rfl, ?_⟩
                  dsimp only [tNil]
                  refine co1.ref fun H24 l S24 nl hl => ?_
                  refine ⟨_, rfl, ?_⟩
                  dsimp only [tNil]
                  refine OL.is ((ol2.same S22).same S24) hl fun H25 S25 => ⟨_, rfl, ifF rfl ⟨⟨_, rfl⟩, S22.trans (S24.trans S25)⟩⟩
                · rintro σ' H22 ⟨⟨u9, rfl⟩, S22⟩
                  exact hN _ _ ⟨⟨_, rfl⟩, T17.trans S22⟩
              rintro σ' H17 ⟨⟨u9, rfl⟩, S17⟩
              have ol := ol.same S17
              have S17 := S15.trans S17
              by_cases hk2 : (0 + (k : Int)) = 2
              · exact ⟨_, rfl, rfl, _, rfl, ifF (by rw [hk2]; rfl) (ifF rfl ⟨⟨_, _, rfl⟩, S17⟩)⟩
              · refine ⟨_, rfl, rfl, _, rfl, ifT (by rw [decide_eq_false (fun z => hk2 (V.int.inj z))]; rfl) ?_⟩
                refine ⟨_, rfl, by show 2 ≤ sizeLine; decide, fun tz H18 S18 n18 hz => ⟨tz, rfl, SqT.of hz, (ol.same S18).zed, _, rfl, ?_⟩⟩
                cases hin : inV v [V.int 0, V.bl false] with
                | true => exact ifF rfl (ifF rfl ⟨⟨_, _, rfl⟩, S17.trans S18⟩)
                | false =>
                  refine ifT rfl ⟨_, rfl, _, rfl, _, rfl, _, rfl, _, rfl, by show 4 ≤ sizeLine; decide, fun t H19 S19 _ g19 => ?_⟩
                  dsimp only [tNil]
                  have ol := (ol.same S18).same S19
                  refine called_ref (ref_3 eH eW hk2 ((oz hin).1 hh ww)) (by omega) (by omega) g19 (.int _) (.int _) ol.odd ol.odd (fun _ _ => ⟨hh, ww, rfl, rfl, hT, fun _ => hcnt⟩) ol.num fun H20 l S20 _ hl => ?_
                  refine ⟨_, rfl, ?_⟩
                  dsimp only [tNil]
                  exact OL.is (ol.same S20) hl fun H21 S21 => ⟨_, rfl, ifF rfl ⟨⟨_, _, rfl⟩, S17.trans (S18.trans (S19.trans (S20.trans S21)))⟩⟩
            · rintro σ' H15 ⟨⟨u8, u9, rfl⟩, S15⟩
              exact hN _ _ ⟨⟨_, _, rfl⟩, S15⟩
          rintro σ' H15 ⟨⟨u8, u9, rfl⟩, S15⟩
          have ol := ol.same S15
          have hp15 := hp14.same S15
          have S15 := S14.to S15
          refine ⟨_, rfl, by show 2 ≤ sizeLine; decide, fun tz H18 S18 n18 hz => ⟨tz, rfl, SqT.of hz, (ol.same S18).zed, _, rfl, ?_⟩⟩
          cases hin : inV v [V.int 0, V.bl false] with
          | true => exact ifF rfl (ifF rfl ⟨⟨_, _, _, rfl⟩, S15.to S18, hp15.same S18⟩)
          | false =>
            refine ifT rfl ⟨_, rfl, _, rfl, _, rfl, _, rfl, by show 4 ≤ sizeLine; decide, fun t H19 S19 _ g19 => ?_⟩
            dsimp only [tNil]
            have ol := (ol.same S18).same S19
            refine called_ref (way := 0) (ref_4 eH eW (okP_n hs1) (oz hin).2) (by decide) (by decide) g19 (.int _) (.int _) (.int _) ol.odd (fun _ _ => ⟨hh, ww, rfl, rfl, hT, fun _ => hcnt⟩) ol.num fun H20 l S20 _ hl => ?_
            refine ⟨_, rfl, ?_⟩
            dsimp only [tNil]
            exact OL.is (ol.same S20) hl fun H21 S21 => ⟨_, rfl, ifF rfl ⟨⟨_, _, _, rfl⟩, S15.to (S18.trans (S19.trans (S20.trans S21))), hp15.same (S18.trans (S19.trans (S20.trans S21)))⟩⟩
        · rintro σ' H12 ⟨⟨u7, u8, u9, rfl⟩, S12, hp12⟩
          exact hN _ _ ⟨⟨_, _, _, rfl⟩, S4B.trans S12, hp12.less (Nat.le_add_right _ _)⟩
      rintro σ' H7 ⟨⟨u7, u8, u9, rfl⟩, S47, hp7⟩
      refine ts_mid (fun σ' H' => (∃ u8 u10, σ' = [some (.ref sc), some (V.int (0 + (i : Nat))), some (.ref p), some (cI mo), some (cI hh), some (cI ww), some (cI ss), u7, u8, u9, u10, u11]) ∧ Same H7 H') (fun N hN => ?_) ?_
      · refine ⟨_, rfl, _, rfl, _, _, rfl, rfl, .inl ⟨by omega, by omega⟩, _, rfl, _, rfl, _, _, rfl, rfl, .inl ⟨by omega, by omega⟩, _, _, rfl, rfl, _, _, rfl, rfl, ⟨by decide, by decide, by decide⟩, by show 4 ≤ sizeLine; decide, fun lf H8 S8 n8 h8 => ?_⟩
        have hfar : ∀ v ∈ [V.int ((hh : Int) * (ww : Int)), V.int ((hh : Int) * (ww : Int) + 1), V.int (10 ^ 29), V.bl false], (∀ H, OL H v) ∧ okP (cI hh) (cI ww) v = false := fun v hv => by
          simp only [List.mem_cons, List.not_mem_nil, or_false] at hv
          rcases hv with rfl | rfl | rfl | rfl
          · exact ⟨fun _ => .int _ (by rw [hwe]; omega), okP_ge (by omega)⟩
          · exact ⟨fun _ => .int _ (by rw [hwe]; omega), okP_ge (by omega)⟩
          · exact ⟨fun _ => .int _ (by decide), okP_ge (by rw [hwe]; exact Int.le_trans (Int.ofNat_le.mpr hw2) (by decide))⟩
          · exact ⟨fun _ => .bl _, rfl⟩
        refine ⟨lf, rfl, ⟨_, SqL.of h8⟩, for_it (walk_list (xs := [V.int ((hh : Int) * (ww : Int)), V.int ((hh : Int) * (ww : Int) + 1), V.int (10 ^ 29), V.bl false])) (fun _ σ' H' => (∃ u8 u10, σ' = [some (.ref sc), some (V.int (0 + (i : Nat))), some (.ref p), some (cI mo), some (cI hh), some (cI ww), some (cI ss), u7, u8, u9, u10, u11]) ∧ Same H8 H') ⟨⟨_, _, rfl⟩, Same.refl _⟩ (fun _ _ _ _ z => (SqL.of h8).same z.2) ?_ ?_⟩
        · rintro j v σ' H9 H10 hj ⟨⟨u8, u10, rfl⟩, S9⟩ ⟨rfl, hv⟩
          obtain ⟨ol, hok⟩ := hfar v (List.mem_of_getElem? hv)
          refine ⟨by show 3 ≤ sizeLine; decide, fun tw H11 S11 n11 h11 => ?_⟩
          refine ⟨tw, rfl, ⟨_, SqT.of h11⟩, for_it (walk_tup (xs := [.int 0, .int 1, .int 3])) (fun _ σ' H' => (∃ u8, σ' = [some (.ref sc), some (V.int (0 + (i : Nat))), some (.ref p), some (cI mo), some (cI hh), some (cI ww), some (cI ss), u7, u8, u9, some v, u11]) ∧ Same H11 H') ⟨⟨_, rfl⟩, Same.refl _⟩ (fun _ _ _ _ z => SqT.of (z.2 _ _ h11)) ?_ ?_⟩
          · rintro k y σ' H12 H13 hk ⟨⟨u8, rfl⟩, S12⟩ ⟨rfl, hy⟩
            obtain ⟨way, rfl, w0, w3, w2⟩ : ∃ way : Int, y = .int way ∧ 0 ≤ way ∧ way ≤ 3 ∧ way ≠ 2 := by
              have := List.mem_of_getElem? hy
              simp only [List.mem_cons, List.not_mem_nil, or_false] at this
              rcases this with rfl | rfl | rfl <;> exact ⟨_, rfl, by decide, by decide, by decide⟩
            refine ⟨_, rfl, _, rfl, _, rfl, _, rfl, by show 4 ≤ sizeLine; decide, fun t H14 S14 _ g14 => ?_⟩
            dsimp only [tNil]
            refine called_ref (ref_3 eH eW w2 hok) w0 w3 g14 (.int _) (.int _) (ol _).odd .non (fun _ _ => ⟨hh, ww, rfl, rfl, hT, fun _ => hcnt⟩) (fun n e => nomatch e) fun H15 l S15 _ hl => ?_
            refine ⟨_, rfl, ?_⟩
            dsimp only [tNil]
            exact OL.is (ol _) hl fun H16 S16 => ⟨_, rfl, ifF rfl ⟨⟨_, rfl⟩, S12.trans (S14.trans (S15.trans S16))⟩⟩
          · rintro σ' H12 ⟨⟨u8, rfl⟩, S12⟩
            exact ⟨⟨_, _, rfl⟩, S9.trans (S11.trans S12)⟩
        · rintro σ' H9 ⟨⟨u8, u10, rfl⟩, S9⟩
          exact hN _ _ ⟨⟨_, _, rfl⟩, S8.trans S9⟩
      rintro σ' H8 ⟨⟨u8, u10, rfl⟩, S8⟩
      have hp8 := hp7.same S8
      have S48 := S47.to S8
      clear S8 S47 hp7
      refine ⟨_, rfl, _, rfl, by show 4 ≤ sizeLine; decide, fun t H9 S9 _ g9 => ?_⟩
      dsimp only [tNil]
      refine called_ref (way := 0) (v0 := .bl false) (ref_4 eH eW (okP_n (q := 0) hw1) rfl) (by decide) (by decide) g9 (.int _) (.int _) (.int _) (.bl _) (fun _ _ => ⟨hh, ww, rfl, rfl, hT, fun _ => hcnt⟩) (fun n e => nomatch e) fun H10 l S10 _ hl => ?_
      dsimp only [tCons, tC, tNil]
      refine OL.is (v := .bl false) (.bl false) hl fun H11 S11 => ⟨_, rfl, ifF rfl ?_⟩
      dsimp only [tNext]
      have S811 := S9.trans (S10.trans S11)
      have hp8 := hp8.same S811
      have S48 := S48.to S811
      clear S811 S9 S10 S11 g9 hl
      refine ts_mid (fun σ' H' => (∃ u8 u9, σ' = [some (.ref sc), some (V.int (0 + (i : Nat))), some (.ref p), some (cI mo), some (cI hh), some (cI ww), some (cI ss), u7, u8, u9, u10, u11]) ∧ Same H11 H') (fun N hN => ?_) ?_
      · refine ⟨by show 4 ≤ sizeLine; decide, fun t1 H17 S17 n17 g1 => ?_⟩
        refine ⟨by show 4 ≤ sizeLine; decide, fun t2 H18 S18 n18 g2 => ?_⟩
        refine ⟨by show 4 ≤ sizeLine; decide, fun t3 H19 S19 n19 g3 => ?_⟩
        refine ⟨by show 3 ≤ sizeLine; decide, fun lp H21 S21 n21 g5 => ?_⟩
        have co : ∀ y ∈ [V.ref t1, V.ref t2, V.ref t3], ∀ k : Nat, k < 4 → CallOk (0 + (k : Int)) H21 y none := fun y hy k k4 => by
          simp only [List.mem_cons, List.not_mem_nil, or_false] at hy
          rcases hy with rfl | rfl | rfl
          · exact good_call (a := 30001) (b := 3) (q := 7) (n := 2) (by omega) (by omega) ⟨by decide, by decide, by decide, by decide⟩ (by decide) (few_of (by decide) (by decide)) (S21 _ _ (S19 _ _ (S18 _ _ g1))) rfl (by decide)
          · exact good_call (a := 3) (b := 40000) (q := 7) (n := 2) (by omega) (by omega) ⟨by decide, by decide, by decide, by decide⟩ (by decide) (few_of (by decide) (by decide)) (S21 _ _ (S19 _ _ g2)) rfl (by decide)
          · exact good_call (a := 40000) (b := 1) (q := 0) (n := 0) (by omega) (by omega) ⟨by decide, by decide, by decide, by decide⟩ (by decide) (few_of (by decide) (by decide)) (S21 _ _ g3) rfl (by decide)
        have T17 := S17.trans (S18.trans (S19.trans S21))
        clear S17 S18 S19 S21 g1 g2 g3
        refine ⟨lp, rfl, ⟨_, SqL.of g5⟩, for_it (walk_list (xs := [V.ref t1, V.ref t2, V.ref t3])) (fun _ σ' H' => (∃ u8 u9, σ' = [some (.ref sc), some (V.int (0 + (i : Nat))), some (.ref p), some (cI mo), some (cI hh), some (cI ww), some (cI ss), u7, u8, u9, u10, u11]) ∧ Same H21 H') ⟨⟨_, _, rfl⟩, Same.refl _⟩ (fun _ _ _ _ z => (SqL.of g5).same z.2) ?_ ?_⟩
        · rintro j y σ' H22 H23 hj ⟨⟨u8, u9, rfl⟩, S22⟩ ⟨rfl, hy⟩
          have co1 := co y (List.mem_of_getElem? hy)
          refine ⟨4, rfl, by decide, by decide, for_it (walk_range (n := 4)) (fun k σ' H' => (∃ u8, σ' = [some (.ref sc), some (V.int (0 + (i : Nat))), some (.ref p), some (cI mo), some (cI hh), some (cI ww), some (cI ss), u7, u8, some y, u10, u11]) ∧ Same H21 H') ⟨⟨_, rfl⟩, S22⟩ (fun _ _ _ _ _ => trivial) ?_ ?_⟩
          · rintro k x σ' H24 H25 hk ⟨⟨u8, rfl⟩, S24⟩ ⟨rfl, rfl⟩
            refine ⟨_, rfl, _, rfl, ?_⟩
            dsimp only [tNil]
            exact ((co1 k hk).same S24).none fun H26 S26 => ⟨_, rfl, ifF rfl ⟨⟨_, rfl⟩, S24.trans S26⟩⟩
          · rintro σ' H24 ⟨⟨u8, rfl⟩, S24⟩
            exact ⟨⟨_, _, rfl⟩, S24⟩
        · rintro σ' H22 ⟨⟨u8, u9, rfl⟩, S22⟩
          exact hN _ _ ⟨⟨_, _, rfl⟩, T17.trans S22⟩
      rintro σ' H12 ⟨⟨u8, u9, rfl⟩, S12⟩
      have hp12 := hp8.same S12
      have S412 := S48.to S12
      clear S12 S48 hp8
      refine ⟨_, rfl, _, rfl, _, rfl, _, _, rfl, rfl, .inl ⟨by omega, by omega⟩, _, _, rfl, rfl, by show 3 ≤ sizeLine; decide, fun lg H8 S8 n8 h8 => ?_⟩
      have nlg := ne_purse hp12 n8
      have hgd : ∀ v ∈ [V.int 0, cI ss, V.int ((hh : Int) * (ww : Int) - 1)], ∃ g : Nat, v = cI g ∧ g < hh * ww := fun v hv => by
        simp only [List.mem_cons, List.not_mem_nil, or_false] at hv
        rcases hv with rfl | rfl | rfl
        · exact ⟨0, rfl, hw1⟩
        · exact ⟨ss, rfl, hs1⟩
        · refine ⟨hh * ww - 1, ?_, by omega⟩
          rw [hwe]
          have : ((hh * ww : Nat) : Int) - 1 = ((hh * ww - 1 : Nat) : Int) := by omega
          rw [this]
      refine ⟨lg, rfl, ⟨_, SqL.of h8⟩, for_it (walk_list (xs := [V.int 0, cI ss, V.int ((hh : Int) * (ww : Int) - 1)])) (fun j σ' H' => (∃ u8 u11, σ' = [some (.ref sc), some (V.int (0 + (i : Nat))), some (.ref p), some (cI mo), some (cI hh), some (cI ww), some (cI ss), u7, u8, u9, u10, u11]) ∧ SameB p H8 H' ∧ PurseAt H' p (2 ^ 40 + 100 * (3 - j))) ⟨⟨_, _, rfl⟩, SameB.refl _ _, (hp12.same S8).less (by decide)⟩ (fun _ _ _ _ z => (SqL.of h8).sameB z.2.1 nlg) ?_ ?_⟩
      · rintro j v σ' H9 H10 hj ⟨⟨u8, u11, rfl⟩, S9, hp9⟩ ⟨rfl, hv⟩
        have j3 : j < 3 := hj
        obtain ⟨g, rfl, hg⟩ := hgd v (List.mem_of_getElem? hv)
        refine ⟨_, rfl, _, _, rfl, rfl, _, rfl, ?_⟩
        cases hc : decide ((0 : Int) < ((g : Nat) : Int)) with
        | true =>
          · refine ifT rfl ⟨by show 3 ≤ sizeLine; decide, fun tw H11 S11 n11 h11 => ?_⟩
            have ntw := ne_purse hp9 n11
            refine ⟨tw, rfl, ⟨_, SqT.of h11⟩, for_it (walk_tup (xs := [.int 0, .int 1, .int 3])) (fun k σ' H' => (∃ u8, σ' = [some (.ref sc), some (V.int (0 + (i : Nat))), some (.ref p), some (cI mo), some (cI hh), some (cI ww), some (cI ss), u7, u8, u9, u10, some (cI g)]) ∧ SameB p H11 H' ∧ PurseAt H' p (2 ^ 40 + 100 * (3 - (j + 1)) + 4 * (4 - k))) ⟨⟨_, rfl⟩, SameB.refl _ _, (hp9.same S11).less (by omega)⟩ (fun _ _ _ _ z => SqT.of (z.2.1 _ _ ntw h11)) ?_ ?_⟩
            · rintro k y σ' H12 H13 hk ⟨⟨u8, rfl⟩, S12, hp12⟩ ⟨rfl, hy⟩
              have k4 : k < 3 := hk
              obtain ⟨way, rfl, w0, w3⟩ : ∃ way : Int, y = .int way ∧ 0 ≤ way ∧ way ≤ 3 := by
                have := List.mem_of_getElem? hy
                simp only [List.mem_cons, List.not_mem_nil, or_false] at this
                rcases this with rfl | rfl | rfl <;> exact ⟨_, rfl, by decide, by decide⟩
              refine ⟨_, rfl, _, rfl, _, rfl, _, rfl, _, rfl, _, _, rfl, rfl, ⟨by decide, by decide, by decide⟩, p, _, 2 ^ 40 + 100 * (3 - (j + 1)) + 4 * (4 - (k + 1)), rfl, hp12.less (by omega), by decide, by decide, fun r H14 r0 r1 hp14 S14 => ⟨by show 4 ≤ sizeLine; decide, fun t H15 S15 _ g15 => ?_⟩⟩
              dsimp only [tNil]
              have co : CallOk way H15 (.ref t) none := good_call w0 w3 hT hg hcnt g15 (decide_eq_true r0) (Int.lt_trans r1 (by decide))
              refine co.none fun H16 S16 => ⟨_, rfl, ifF rfl ⟨⟨_, rfl⟩, (S12.trans S14).to (S15.trans S16), hp14.same (S15.trans S16)⟩⟩
            · rintro σ' H12 ⟨⟨u8, rfl⟩, S12, hp12⟩
              exact ⟨⟨_, _, rfl⟩, (S9.to S11).trans S12, hp12.less (Nat.le_add_right _ _)⟩
        | false =>
          · refine ifF rfl ⟨by show 4 ≤ sizeLine; decide, fun tw H11 S11 n11 h11 => ?_⟩
            have ntw := ne_purse hp9 n11
            refine ⟨tw, rfl, ⟨_, SqT.of h11⟩, for_it (walk_tup (xs := [.int 0, .int 1, .int 2, .int 3])) (fun k σ' H' => (∃ u8, σ' = [some (.ref sc), some (V.int (0 + (i : Nat))), some (.ref p), some (cI mo), some (cI hh), some (cI ww), some (cI ss), u7, u8, u9, u10, some (cI g)]) ∧ SameB p H11 H' ∧ PurseAt H' p (2 ^ 40 + 100 * (3 - (j + 1)) + 4 * (4 - k))) ⟨⟨_, rfl⟩, SameB.refl _ _, (hp9.same S11).less (by omega)⟩ (fun _ _ _ _ z => SqT.of (z.2.1 _ _ ntw h11)) ?_ ?_⟩
            · rintro k y σ' H12 H13 hk ⟨⟨u8, rfl⟩, S12, hp12⟩ ⟨rfl, hy⟩
              have k4 : k < 4 := hk
              obtain ⟨way, rfl, w0, w3⟩ : ∃ way : Int, y = .int way ∧ 0 ≤ way ∧ way ≤ 3 := by
                have := List.mem_of_getElem? hy
                simp only [List.mem_cons, List.not_mem_nil, or_false] at this
                rcases this with rfl | rfl | rfl | rfl <;> exact ⟨_, rfl, by decide, by decide⟩
              refine ⟨_, rfl, _, rfl, _, rfl, _, rfl, _, rfl, _, _, rfl, rfl, ⟨by decide, by decide, by decide⟩, p, _, 2 ^ 40 + 100 * (3 - (j + 1)) + 4 * (4 - (k + 1)), rfl, hp12.less (by omega), by decide, by decide, fun r H14 r0 r1 hp14 S14 => ⟨by show 4 ≤ sizeLine; decide, fun t H15 S15 _ g15 => ?_⟩⟩
              dsimp only [tNil]
              have co : CallOk way H15 (.ref t) none := good_call w0 w3 hT hg hcnt g15 (decide_eq_true r0) (Int.lt_trans r1 (by decide))
              refine co.none fun H16 S16 => ⟨_, rfl, ifF rfl ⟨⟨_, rfl⟩, (S12.trans S14).to (S15.trans S16), hp14.same (S15.trans S16)⟩⟩
            · rintro σ' H12 ⟨⟨u8, rfl⟩, S12, hp12⟩
              exact ⟨⟨_, _, rfl⟩, (S9.to S11).trans S12, hp12.less (Nat.le_add_right _ _)⟩
      · rintro σ' H9 ⟨⟨u8, u11, rfl⟩, S9, hp9⟩
        exact ⟨⟨_, _, _, _, _, _, _, _, _, _, _, rfl⟩, S2.trans (((S412.to S8).trans S9).toSame S4 np)⟩
    · rintro σ' H2 ⟨⟨u1, u2, u3, u4, u5, u6, u7, u8, u9, u10, u11, rfl⟩, S2⟩
      exact q H2
end
end E3

set_option Elab.async false
set_option linter.all false
set_option maxRecDepth 100000
set_option maxHeartbeats 1000000
namespace L2
open PySem PySem.Spec PyProof.Rows
/-- the goal that the head leaves, where the law calls repr: the frame as the facts give it -/
theorem walk_ofGE {l : PySem.W.OpenLaw} {n k : Nat} {q : Program} {loose : List Str} {XP : (Str → Option Value) → Heap → Prop} {YP : World → Heap → Prop} {d : DefRec} {x : Str}
    (hn : l.most = some n) (hn2 : n ≤ sizeLine) (hdf : d.params.defaults = []) (hr : Room k callerA)
    (F : ∀ (w : World) (mg : Str → Option Value) (fa : Addr) (h : Heap), YP w h → h.Ns mainGlobals mg → mg d.name = some (.ref fa) →
      ∃ (K : PySem.W.Frag) (fd : FuncData) (sp : Sp), K.In h ∧ (∀ (s : Shared) (u : Value), BindsTo s fd ⟨[u], []⟩ [(x, u)]) ∧
        (∀ (H : Hp) (a : Addr) (ns : List Int), ns.length ≤ n → SqL K H a (ns.map V.int) → sp [.ref a] H (fun v _ => v = .bl true) fun _ _ _ => False) ∧
        ∀ base : Heap, K.In base → base.Ns mainGlobals mg → FnG l.prog w K mg base k fa fd [x] sp) :
    PySem.W.WalkO q loose XP YP l.row.toRowW d [] (fun f vs => PySem.call f vs) := by
  refine Att.attach_call hn hdf fun w s₀ s₁ mg mb fa o pm cd doc a vs ns G Y ho hd hcd hmg hobj hints hlen hg => ?_
  obtain ⟨K, fd, sp, X, b, s, O⟩ := F w mg fa _ Y G.T.g hmg
  exact call_lawG X G.T.g G.T.b G.T.builtins G.T.nolimit hg hobj hints (Nat.le_trans hlen hn2) hr O b fun H hS _ => s H a ns hlen hS
end L2

set_option Elab.async false
set_option linter.all false
set_option maxRecDepth 100000
set_option maxHeartbeats 1000000
/-! law_k70: what the head wants -/
namespace E3
open PySem PySem.Spec PyProof.Rows L2
open C8 (Cal Mak Met InsC)
section
variable {P : Program} {w : World} {K : PySem.W.Frag} {mg : Str → Option Value} {base : Heap}
theorem calX_of {x : Str} {f : Addr} {fd : FuncData} {ps : List Str} {k : Nat} {sp : Sp} (kp : PySem.W.keepIn K (.ref f) = true) (g : mg x = some (.ref f)) (b : Binds K fd ps []) (O : FnOk P w K mg base (L2.CX P w) k f fd ps sp) : CalX P w K mg base k x sp [] := ⟨f, fd, ps, [], O, g, kp, b, .nil⟩
theorem exr_value {x qual : Str} {C fI : Addr} {fd : FuncData} {p1 p2 p3 q1 q2 q3 q4 : Pos} (gC : mg x = some (.ref C)) (oex : OexC K C) (noF : PySem.W.findIn K (.ref C) "value" = some none) (iC : PySem.W.findIn K (.ref C) "__init__" = some (some (.ref fI))) (tI : PySem.W.typeIn K (.ref fI) = some (.type "function"))
    (F : FunD K "__init__" qual (exArgs "value" p1 p2 p3) (exBody "value" q1 q2 q3 q4) (exScope "value") [.non] [] fI fd) : ExR P w K mg base x C "value" :=
  ⟨gC, oex, noF, fI, fd, ["self", "value"], iC, tI, okEx_value F, fun s us hK hl => match us, hl with
    | [u, v], _ => (bindEx_value F).1 u v s hK⟩
theorem bd4 {f : Addr} {fd : FuncData} (F : FunD K "turned" "turned" (defArgs sTurned) (defBody sTurned) (defScope sTurned) [.int 1] [] f fd) : Binds K fd ["rows", "columns", "place", "times"] [] := by
  obtain ⟨ds, h1, h2⟩ := F.binds1 (ps := ["rows", "columns", "place", "times"]) 4 1 (by simp) rfl fun T kV doc pm an cdv ct us its h1 h2 => match us, its, h1, h2 with
    | [_, _, _, _], [_], _, _ => ⟨_, rfl, rfl⟩
  cases h1
  exact h2
theorem bd3 {f : Addr} {fd : FuncData} (F : FunD K "turned" "turned" (defArgs sTurned) (defBody sTurned) (defScope sTurned) [.int 1] [] f fd) : ∃ ds, Vals [V.int 1] ds ∧ Binds K fd ["rows", "columns", "place", "times"] ds :=
  F.binds1 (ps := ["rows", "columns", "place", "times"]) 3 0 (by simp) rfl fun T kV doc pm an cdv ct us its h1 h2 => match us, its, h1, h2 with
    | [_, _, _], [_], _, _ => ⟨_, rfl, rfl⟩
end
end E3

set_option Elab.async false
set_option linter.all false
set_option maxRecDepth 100000
set_option maxHeartbeats 1000000
/-! A head by facts: one Bool of the law's own, and the defs, with defaults. -/
namespace Hb
open PySem PySem.Spec PyProof.Rows L2 He
abbrev AlC : Type := Bool × List FnW
def obsC (ex : PySem.W.Frag → Bool) (fn : List DefD) (K : PySem.W.Frag) : AlC := (ex K && fn.all fun d => d.ok K, fn.map fun d => fnW K d.at_)
def valC (fn : List DefD) : AlC := (true, fn.map DefD.val)
def SaysC (ex : PySem.W.Frag → Bool) (fn : List DefD) (K : PySem.W.Frag) : Prop := obsC ex fn K = valC fn
def lookC (n : Nat) (ex : PySem.W.Frag → Bool) (fn : List DefD) (g : Addr → Option Obj) : AlC := obsC ex fn (frG g (asD g n))
def hookC (n : Nat) (ex : PySem.W.Frag → Bool) (fn : List DefD) : PySem.W.Hook where
  α := AlC
  obs := fun s => lookC n ex fn s.heap.get?
  val := fun _ => valC fn
  says := fun _ h => ∃ K : PySem.W.Frag, K.In h ∧ SaysC ex fn K
  of := fun _ _ e => ⟨_, frG_in, e⟩
  keeps := fun _ _ _ ⟨K, hK, c⟩ k => ⟨K, PySem.W.Frag.In.keeps hK k, c⟩
theorem lookC_eq {n : Nat} {ex : PySem.W.Frag → Bool} {fn : List DefD} {g : Addr → Option Obj} {s : Shared} (h : ∀ a, g a = s.heap.get? a) : lookC n ex fn g = (hookC n ex fn).obs s := by
  have e : g = s.heap.get? := funext h
  rw [e] <;> rfl
/-- a def of the text, by its statement -/
def dD (at_ : Str × Option Str) (name qual : Str) (st : Stmt) (dfl : List Dv := []) : DefD := { at_ := at_, name := name, qual := qual, params := defArgs st, body := defBody st, scope := defScope st, dfl := dfl }
section
variable {ex : PySem.W.Frag → Bool} {fn : List DefD} {K : PySem.W.Frag}
theorem SaysC.bool (c : SaysC ex fn K) : ex K = true := (ba (show (ex K && fn.all fun d => d.ok K) = true from congrArg (fun z : AlC => z.1) c)).1
theorem SaysC.def_ (c : SaysC ex fn K) (i : Nat) {d : DefD} (h : fn[i]? = some d := by rfl) : ∃ fd, FunD K d.name d.qual d.params d.body d.scope (d.dvs K) (d.kws K) (fAd K d.at_) fd := by
  have c2 := (ba (show (ex K && fn.all fun d => d.ok K) = true from congrArg (fun z : AlC => z.1) c)).2
  have e : fn.map (fun d => fnW K d.at_) = fn.map DefD.val := congrArg (fun z : AlC => z.2) c
  have e2 : (fn.map fun d => fnW K d.at_)[i]? = (fn.map DefD.val)[i]? := by rw [e]
  rw [List.getElem?_map, List.getElem?_map, h] at e2
  exact DefD.funD (Option.some.inj e2) (List.all_eq_true.mp c2 d (List.mem_of_getElem? h))
theorem SaysC.fun_ (c : SaysC ex fn K) (i : Nat) {at_ : Str × Option Str} {name qual : Str} {st : Stmt} (h : fn[i]? = some (dD at_ name qual st) := by rfl) : ∃ fd, L2.Fun K name qual st (fAd K at_) fd :=
  let ⟨fd, F⟩ := c.def_ i h
  ⟨fd, FunD.plain F⟩
end
end Hb

set_option Elab.async false
set_option linter.all false
set_option maxRecDepth 100000
set_option maxHeartbeats 1000000
/-! what the top left: each def with its promise -/
namespace E3
open PySem PySem.Spec PyProof.Rows L2 He Hb
open C8 (Cal Mak Met InsC)
def fnR : List DefD := [dD ("is_whole", none) "is_whole" "is_whole" sWhole,
  dD ("is_count", none) "is_count" "is_count" sCount,
  dD ("turned", none) "turned" "turned" sTurned [.int 1],
  dD ("ring_length", none) "ring_length" "ring_length" sRingLen,
  dD ("rings", none) "rings" "rings" sRings,
  dD ("check_lengths", none) "check_lengths" "check_lengths" sChkL,
  dD ("check_place", none) "check_place" "check_place" sChkP,
  dD ("places_by_length", none) "places_by_length" "places_by_length" sPlaces,
  dD ("order", none) "order" "order" sOrder,
  dD ("units", none) "units" "units" sUnits,
  dD ("factors", none) "factors" "factors" sFactors,
  dD ("power", none) "power" "power" sPower,
  dD ("_law_purse", none) "_law_purse" "_law_purse" sPurse,
  dD ("_law_mixed", none) "_law_mixed" "_law_mixed" sMixed,
  dD ("_law_draw", none) "_law_draw" "_law_draw" sDraw,
  dD ("_law_called", none) "_law_called" "_law_called" sCalled,
  dD ("_law_is", none) "_law_is" "_law_is" sIs,
  dD ("_law_firsts_right", none) "_law_firsts_right" "_law_firsts_right" sFi,
  dD ("law", none) "law" "law" sLaw,
  dD ("InvalidNumber", some "__init__") "__init__" "InvalidNumber.__init__" (inClass (top 3) 0) [.non]]
def faR : List Fa := [.glo "is_whole", .glo "is_count", .glo "turned", .glo "ring_length", .glo "rings", .glo "check_lengths", .glo "check_place", .glo "places_by_length", .glo "order", .glo "units", .glo "factors", .glo "power", .glo "_law_purse", .glo "_law_mixed", .glo "_law_draw", .glo "_law_called", .glo "_law_is", .glo "_law_firsts_right", .glo "law", .free "isinstance", .free "int", .free "bool", .free "sorted", .free "sum", .free "max", .free "range", .free "len", .free "repr", .free "list", .glo "InvalidNumber", .glo "CellError", .noat "InvalidNumber" "value", .exm "InvalidNumber" "CellError" true]
def bsR (K : PySem.W.Frag) : List Bool := [bltB K "gcd" "math.gcd", bltB K "lcm" "math.lcm", oexB K (ga K "InvalidNumber"), xcB K (ga K "InvalidNumber"), decide (PySem.W.kitOne K (.ref (ga K "InvalidNumber")) (.ref (ga K "InvalidNumber")) = some true), decide (PySem.W.kitOne K (.type "NoneType") (.ref (ga K "InvalidNumber")) = some false), eqO (PySem.W.findIn K (.ref (ga K "InvalidNumber")) "__init__") (some (some (.ref (ma K (ga K "InvalidNumber") "__init__")))), decide (PySem.W.typeIn K (.ref (ma K (ga K "InvalidNumber") "__init__")) = some (.type "function"))]
def exR (K : PySem.W.Frag) : Bool := (faR.all fun f => f.ok K) && (bsR K).all id
section
variable {P : Program} {w : World} {K : PySem.W.Frag} {mg : Str → Option Value} {base : Heap}
theorem cal_of {x : Str} {f : Addr} {fd : FuncData} {ps : List Str} {k : Nat} {sp : Sp} (kp : PySem.W.keepIn K (.ref f) = true) (g : mg x = some (.ref f)) (b : Binds K fd ps []) (O : FnOk P w K mg base CX0 k f fd ps sp) : Cal P w K mg base k x sp [] := ⟨f, fd, ps, [], O, g, kp, b, .nil⟩
end
theorem facts {P : Program} {w : World} {K : PySem.W.Frag} {h : Heap} {mg : Str → Option Value} {fl : Addr} (X : K.In h) (G : h.Ns mainGlobals mg) (hfa : mg "law" = some (.ref fl)) (c : SaysC exR fnR K) :
    ∃ fd : FuncData, (∀ (s : Shared) (u : Value), BindsTo s fd ⟨[u], []⟩ [("_law_script", u)]) ∧ ∀ base : Heap, K.In base → base.Ns mainGlobals mg → FnG P w K mg base 8 fl fd ["_law_script"] (spLaw K) := by
  have cb := ba (show ((faR.all fun f => f.ok K) && (bsR K).all id) = true from c.bool)
  have ca := cb.1
  have cc := cb.2
  obtain ⟨d_is_whole, F_is_whole⟩ := c.fun_ 0 (at_ := ("is_whole", none)) (name := "is_whole") (qual := "is_whole") (st := sWhole) rfl
  have g_is_whole : mg "is_whole" = some (.ref (ga K "is_whole")) := glo_ok X G (fa_ok ca 0 (f := .glo "is_whole") rfl)
  have b_is_whole := F_is_whole.binds (ps := ["value"]) fun _ _ _ _ _ _ us hl => match us, hl with | [_], _ => rfl
  obtain ⟨d_is_count, F_is_count⟩ := c.fun_ 1 (at_ := ("is_count", none)) (name := "is_count") (qual := "is_count") (st := sCount) rfl
  have g_is_count : mg "is_count" = some (.ref (ga K "is_count")) := glo_ok X G (fa_ok ca 1 (f := .glo "is_count") rfl)
  have b_is_count := F_is_count.binds (ps := ["value"]) fun _ _ _ _ _ _ us hl => match us, hl with | [_], _ => rfl
  obtain ⟨d_turned, F_turned⟩ := c.def_ 2 (d := dD ("turned", none) "turned" "turned" sTurned [.int 1]) rfl
  have g_turned : mg "turned" = some (.ref (ga K "turned")) := glo_ok X G (fa_ok ca 2 (f := .glo "turned") rfl)
  obtain ⟨d_ring_length, F_ring_length⟩ := c.fun_ 3 (at_ := ("ring_length", none)) (name := "ring_length") (qual := "ring_length") (st := sRingLen) rfl
  have g_ring_length : mg "ring_length" = some (.ref (ga K "ring_length")) := glo_ok X G (fa_ok ca 3 (f := .glo "ring_length") rfl)
  have b_ring_length := F_ring_length.binds (ps := ["rows", "columns", "place"]) fun _ _ _ _ _ _ us hl => match us, hl with | [_, _, _], _ => rfl
  obtain ⟨d_rings, F_rings⟩ := c.fun_ 4 (at_ := ("rings", none)) (name := "rings") (qual := "rings") (st := sRings) rfl
  have g_rings : mg "rings" = some (.ref (ga K "rings")) := glo_ok X G (fa_ok ca 4 (f := .glo "rings") rfl)
  have b_rings := F_rings.binds (ps := ["rows", "columns"]) fun _ _ _ _ _ _ us hl => match us, hl with | [_, _], _ => rfl
  obtain ⟨d_check_lengths, F_check_lengths⟩ := c.fun_ 5 (at_ := ("check_lengths", none)) (name := "check_lengths") (qual := "check_lengths") (st := sChkL) rfl
  have g_check_lengths : mg "check_lengths" = some (.ref (ga K "check_lengths")) := glo_ok X G (fa_ok ca 5 (f := .glo "check_lengths") rfl)
  have b_check_lengths := F_check_lengths.binds (ps := ["rows", "columns"]) fun _ _ _ _ _ _ us hl => match us, hl with | [_, _], _ => rfl
  obtain ⟨d_check_place, F_check_place⟩ := c.fun_ 6 (at_ := ("check_place", none)) (name := "check_place") (qual := "check_place") (st := sChkP) rfl
  have g_check_place : mg "check_place" = some (.ref (ga K "check_place")) := glo_ok X G (fa_ok ca 6 (f := .glo "check_place") rfl)
  have b_check_place := F_check_place.binds (ps := ["rows", "columns", "place"]) fun _ _ _ _ _ _ us hl => match us, hl with | [_, _, _], _ => rfl
  obtain ⟨d_places_by_length, F_places_by_length⟩ := c.fun_ 7 (at_ := ("places_by_length", none)) (name := "places_by_length") (qual := "places_by_length") (st := sPlaces) rfl
  have g_places_by_length : mg "places_by_length" = some (.ref (ga K "places_by_length")) := glo_ok X G (fa_ok ca 7 (f := .glo "places_by_length") rfl)
  have b_places_by_length := F_places_by_length.binds (ps := ["rows", "last"]) fun _ _ _ _ _ _ us hl => match us, hl with | [_, _], _ => rfl
  obtain ⟨d_order, F_order⟩ := c.fun_ 8 (at_ := ("order", none)) (name := "order") (qual := "order") (st := sOrder) rfl
  have g_order : mg "order" = some (.ref (ga K "order")) := glo_ok X G (fa_ok ca 8 (f := .glo "order") rfl)
  have b_order := F_order.binds (ps := ["base", "prime", "exponent"]) fun _ _ _ _ _ _ us hl => match us, hl with | [_, _, _], _ => rfl
  obtain ⟨d_units, F_units⟩ := c.fun_ 9 (at_ := ("units", none)) (name := "units") (qual := "units") (st := sUnits) rfl
  have g_units : mg "units" = some (.ref (ga K "units")) := glo_ok X G (fa_ok ca 9 (f := .glo "units") rfl)
  have b_units := F_units.binds (ps := ["prime", "exponent"]) fun _ _ _ _ _ _ us hl => match us, hl with | [_, _], _ => rfl
  obtain ⟨d_factors, F_factors⟩ := c.fun_ 10 (at_ := ("factors", none)) (name := "factors") (qual := "factors") (st := sFactors) rfl
  have g_factors : mg "factors" = some (.ref (ga K "factors")) := glo_ok X G (fa_ok ca 10 (f := .glo "factors") rfl)
  have b_factors := F_factors.binds (ps := ["value"]) fun _ _ _ _ _ _ us hl => match us, hl with | [_], _ => rfl
  obtain ⟨d_power, F_power⟩ := c.fun_ 11 (at_ := ("power", none)) (name := "power") (qual := "power") (st := sPower) rfl
  have g_power : mg "power" = some (.ref (ga K "power")) := glo_ok X G (fa_ok ca 11 (f := .glo "power") rfl)
  have b_power := F_power.binds (ps := ["base", "exponent", "modulus"]) fun _ _ _ _ _ _ us hl => match us, hl with | [_, _, _], _ => rfl
  obtain ⟨d__law_purse, F__law_purse⟩ := c.fun_ 12 (at_ := ("_law_purse", none)) (name := "_law_purse") (qual := "_law_purse") (st := sPurse) rfl
  have g__law_purse : mg "_law_purse" = some (.ref (ga K "_law_purse")) := glo_ok X G (fa_ok ca 12 (f := .glo "_law_purse") rfl)
  have b__law_purse := F__law_purse.binds (ps := ["_law_script", "_law_at"]) fun _ _ _ _ _ _ us hl => match us, hl with | [_, _], _ => rfl
  obtain ⟨d__law_mixed, F__law_mixed⟩ := c.fun_ 13 (at_ := ("_law_mixed", none)) (name := "_law_mixed") (qual := "_law_mixed") (st := sMixed) rfl
  have g__law_mixed : mg "_law_mixed" = some (.ref (ga K "_law_mixed")) := glo_ok X G (fa_ok ca 13 (f := .glo "_law_mixed") rfl)
  have b__law_mixed := F__law_mixed.binds (ps := ["_law_seed", "_law_step"]) fun _ _ _ _ _ _ us hl => match us, hl with | [_, _], _ => rfl
  obtain ⟨d__law_draw, F__law_draw⟩ := c.fun_ 14 (at_ := ("_law_draw", none)) (name := "_law_draw") (qual := "_law_draw") (st := sDraw) rfl
  have g__law_draw : mg "_law_draw" = some (.ref (ga K "_law_draw")) := glo_ok X G (fa_ok ca 14 (f := .glo "_law_draw") rfl)
  have b__law_draw := F__law_draw.binds (ps := ["_law_purse_here", "_law_many"]) fun _ _ _ _ _ _ us hl => match us, hl with | [_, _], _ => rfl
  obtain ⟨d__law_called, F__law_called⟩ := c.fun_ 15 (at_ := ("_law_called", none)) (name := "_law_called") (qual := "_law_called") (st := sCalled) rfl
  have g__law_called : mg "_law_called" = some (.ref (ga K "_law_called")) := glo_ok X G (fa_ok ca 15 (f := .glo "_law_called") rfl)
  have b__law_called := F__law_called.binds (ps := ["_law_way", "_law_parts"]) fun _ _ _ _ _ _ us hl => match us, hl with | [_, _], _ => rfl
  obtain ⟨d__law_is, F__law_is⟩ := c.fun_ 16 (at_ := ("_law_is", none)) (name := "_law_is") (qual := "_law_is") (st := sIs) rfl
  have g__law_is : mg "_law_is" = some (.ref (ga K "_law_is")) := glo_ok X G (fa_ok ca 16 (f := .glo "_law_is") rfl)
  have b__law_is := F__law_is.binds (ps := ["_law_found", "_law_value"]) fun _ _ _ _ _ _ us hl => match us, hl with | [_, _], _ => rfl
  obtain ⟨d__law_firsts_right, F__law_firsts_right⟩ := c.fun_ 17 (at_ := ("_law_firsts_right", none)) (name := "_law_firsts_right") (qual := "_law_firsts_right") (st := sFi) rfl
  have g__law_firsts_right : mg "_law_firsts_right" = some (.ref (ga K "_law_firsts_right")) := glo_ok X G (fa_ok ca 17 (f := .glo "_law_firsts_right") rfl)
  have b__law_firsts_right := F__law_firsts_right.binds (ps := ["_law_purse_here", "_law_odd", "_law_high", "_law_wide", "_law_spot"]) fun _ _ _ _ _ _ us hl => match us, hl with | [_, _, _, _, _], _ => rfl
  obtain ⟨d_law, F_law⟩ := c.fun_ 18 (at_ := ("law", none)) (name := "law") (qual := "law") (st := sLaw) rfl
  have g_law : mg "law" = some (.ref (ga K "law")) := glo_ok X G (fa_ok ca 18 (f := .glo "law") rfl)
  have b_law := F_law.binds (ps := ["_law_script"]) fun _ _ _ _ _ _ us hl => match us, hl with | [_], _ => rfl
  have z_isinstance : mg "isinstance" = none := free_ok X G (fa_ok ca 19 (f := .free "isinstance") rfl)
  have z_int : mg "int" = none := free_ok X G (fa_ok ca 20 (f := .free "int") rfl)
  have z_bool : mg "bool" = none := free_ok X G (fa_ok ca 21 (f := .free "bool") rfl)
  have z_sorted : mg "sorted" = none := free_ok X G (fa_ok ca 22 (f := .free "sorted") rfl)
  have z_sum : mg "sum" = none := free_ok X G (fa_ok ca 23 (f := .free "sum") rfl)
  have z_max : mg "max" = none := free_ok X G (fa_ok ca 24 (f := .free "max") rfl)
  have z_range : mg "range" = none := free_ok X G (fa_ok ca 25 (f := .free "range") rfl)
  have z_len : mg "len" = none := free_ok X G (fa_ok ca 26 (f := .free "len") rfl)
  have z_repr : mg "repr" = none := free_ok X G (fa_ok ca 27 (f := .free "repr") rfl)
  have z_list : mg "list" = none := free_ok X G (fa_ok ca 28 (f := .free "list") rfl)
  have hgcd : mg "gcd" = some (.builtin "math.gcd") := bltB_ok X G (bool_ok cc 0 rfl)
  have hlcm : mg "lcm" = some (.builtin "math.lcm") := bltB_ok X G (bool_ok cc 1 rfl)
  have e := hfa.symm.trans g_law
  cases e
  refine ⟨d_law, fun s u => bindsA (ps := ["_law_script"]) F_law (fun _ _ _ _ _ _ us hl => match us, hl with | [_], _ => rfl) s [u] rfl, fun base _ _ => ?_⟩
  have B4 : Bt4 mg := ⟨z_sum, z_max, z_range, z_len⟩
  have B5 : Bt5 mg := ⟨z_isinstance, z_int, z_bool, z_sorted⟩
  obtain ⟨d_in, F_in⟩ := c.def_ 19 (d := dD ("InvalidNumber", some "__init__") "__init__" "InvalidNumber.__init__" (inClass (top 3) 0) [.non]) rfl
  have g_IN : mg "InvalidNumber" = some (.ref (ga K "InvalidNumber")) := glo_ok X G (fa_ok ca 29 (f := .glo "InvalidNumber") rfl)
  have g_CE : mg "CellError" = some (.ref (ga K "CellError")) := glo_ok X G (fa_ok ca 30 (f := .glo "CellError") rfl)
  have nf : PySem.W.findIn K (.ref (ga K "InvalidNumber")) "value" = some none := eqO_ok (show eqO (PySem.W.findIn K (.ref (ga K "InvalidNumber")) "value") (some none) = true from fa_ok ca 31 (f := .noat "InvalidNumber" "value") rfl)
  have em : PySem.W.exmOne K (.ref (ga K "InvalidNumber")) (.ref (ga K "CellError")) = some true := of_decide_eq_true (show decide (PySem.W.exmOne K (.ref (ga K "InvalidNumber")) (.ref (ga K "CellError")) = some true) = true from fa_ok ca 32 (f := .exm "InvalidNumber" "CellError" true) rfl)
  have oe := oex_of (bool_ok cc 2 rfl)
  have xe := xc_of (bool_ok cc 3 rfl)
  have ki := of_decide_eq_true (bool_ok cc 4 rfl)
  have kn := of_decide_eq_true (bool_ok cc 5 rfl)
  have fi := eqO_ok (bool_ok cc 6 rfl)
  have ti := of_decide_eq_true (bool_ok cc 7 rfl)
  have U : ExU K mg (ga K "InvalidNumber") (ga K "CellError") := ⟨g_IN, g_CE, xe, nf, em, ki, kn⟩
  have T : ExR P w K mg base "InvalidNumber" (ga K "InvalidNumber") "value" := exr_value g_IN oe nf fi ti F_in
  have Wh : Cal P w K mg base 1 "is_whole" spWh1 [] := cal_of F_is_whole.kp g_is_whole b_is_whole (ok_whole1 F_is_whole B5)
  have Cn : Cal P w K mg base 2 "is_count" spCnt1 [] := cal_of F_is_count.kp g_is_count b_is_count (ok_count1 F_is_count Wh)
  have Cl : Cal P w K mg base 2 "check_lengths" spChkL [] := cal_of F_check_lengths.kp g_check_lengths b_check_lengths (ok_chkL F_check_lengths Wh)
  have Cp : Cal P w K mg base 3 "check_place" spChkP [] := cal_of F_check_place.kp g_check_place b_check_place (ok_chkP F_check_place Cl Cn)
  have WhV : Cal P w K mg base 1 "is_whole" spWhV [] := cal_of F_is_whole.kp g_is_whole b_is_whole (ok_wholeV F_is_whole B5)
  have CnV : Cal P w K mg base 2 "is_count" spCntV [] := cal_of F_is_count.kp g_is_count b_is_count (ok_countV F_is_count WhV)
  have ClX : CalX P w K mg base 3 "check_lengths" (spChkLX (ga K "InvalidNumber")) [] := calX_of F_check_lengths.kp g_check_lengths b_check_lengths (ok_chkLX F_check_lengths WhV T)
  have CpX : CalX P w K mg base 4 "check_place" (spChkPX (ga K "InvalidNumber")) [] := calX_of F_check_place.kp g_check_place b_check_place (ok_chkPX F_check_place ClX CnV T)
  have Pw : Cal P w K mg base 1 "power" spPower [] := cal_of F_power.kp g_power b_power (ok_power F_power)
  have U_ : Cal P w K mg base 1 "units" spUnits [] := cal_of F_units.kp g_units b_units (ok_units F_units B4)
  have Fa : Cal P w K mg base 1 "factors" spFactors [] := cal_of F_factors.kp g_factors b_factors (ok_factors F_factors)
  have Or_ : Cal P w K mg base 2 "order" spOrder [] := cal_of F_order.kp g_order b_order (ok_order F_order U_ Fa Pw)
  have Pl : Cal P w K mg base 3 "places_by_length" spPlaces [] := cal_of F_places_by_length.kp g_places_by_length b_places_by_length (ok_places F_places_by_length B4 hlcm U_ Fa Or_)
  have OT := FnOk.or (((ok_turned (P := P) (w := w) (base := base) F_turned Cp Cn Pw).mono (k := 5) (by decide)).calm) (ok_turnedX F_turned CpX CnV T)
  have Tu : CalX P w K mg base 5 "turned" (spTurn (ga K "InvalidNumber")) [] := calX_of F_turned.kp g_turned (bd4 F_turned) OT
  have TuD : CalX P w K mg base 5 "turned" (spTurn (ga K "InvalidNumber")) [.int 1] := by
    obtain ⟨ds, h1, h2⟩ := bd3 F_turned
    exact ⟨_, d_turned, _, ds, OT, g_turned, F_turned.kp, h2, h1⟩
  have Rl : CalX P w K mg base 5 "ring_length" (spRing (ga K "InvalidNumber")) [] := calX_of F_ring_length.kp g_ring_length b_ring_length (FnOk.or (((ok_ringLen F_ring_length hgcd hlcm Cp Fa Or_).mono (k := 5) (by decide)).calm) (ok_ringX F_ring_length CpX))
  have Rg : CalX P w K mg base 5 "rings" (spRings (ga K "InvalidNumber")) [] := calX_of F_rings.kp g_rings b_rings (FnOk.or (((ok_rings F_rings B5 Cl Pl).mono (k := 5) (by decide)).calm) (ok_ringsX F_rings ClX))
  have Pu : Cal P w K mg base 1 "_law_purse" (spPurse K) [] := cal_of F__law_purse.kp g__law_purse b__law_purse (ok_purse F__law_purse B4)
  have Mi : Cal P w K mg base 1 "_law_mixed" spMixed [] := cal_of F__law_mixed.kp g__law_mixed b__law_mixed (ok_mixed F__law_mixed)
  have D : Cal P w K mg base 2 "_law_draw" spDraw [] := cal_of F__law_draw.kp g__law_draw b__law_draw (ok_draw F__law_draw B4 Mi)
  have Ca : Cal P w K mg base 6 "_law_called" spCalled [] := cal_of F__law_called.kp g__law_called b__law_called (ok_called F__law_called B5 U Tu TuD Rl Rg)
  have Is : CalG P w K mg base 1 "_law_is" (spIs K) := ⟨⟨_, _, _, ok_is F__law_is B5 z_list z_repr, g__law_is, F__law_is.kp, b__law_is⟩⟩
  have Fi : CalG P w K mg base 7 "_law_firsts_right" spFi := ⟨⟨_, _, _, ok_fi F__law_firsts_right B4 D Ca Is, g__law_firsts_right, F__law_firsts_right.kp, b__law_firsts_right⟩⟩
  exact ok_law F_law B4 Pu D Ca Is Fi
end E3

set_option Elab.async false
set_option linter.all false
set_option maxRecDepth 100000
set_option maxHeartbeats 0
/-! the head: the top's run, and the law -/
namespace E3
open PySem PySem.Spec PyProof.Rows L2 He
abbrev R : PySem.W.OpenRow := PySem.W.OpenLaw.row PySem.Challenge.rw_cellplaces_k70_rings_refused
abbrev hk : PySem.W.Hook := Hb.hookC 5 exR fnR
def ob (s : PySem.W.SharedT) : Hb.AlC := Hb.lookC 5 exR fnR (HandSHeadRun.getT s)
theorem ob_eq (s : PySem.W.SharedT) : ob s = hk.obs s.abs := Hb.lookC_eq (HandSHeadRun.getT_eq s)
def loose0 : List PySem.Str := ["CellError", "InvalidNumber", "is_whole", "is_count", "turned", "ring_length", "rings", "check_lengths", "check_place", "places_by_length", "order", "units"]
def loose1 : List PySem.Str := ["factors", "power", "_law_purse", "_law_mixed", "_law_draw", "_law_called", "_law_is", "_law_firsts_right"]
def looseAll : List PySem.Str := loose0 ++ loose1
theorem run (w : World) : HandSHeadRun.RunEqI R (PySem.W.view R.prog [0, 25]) hk ob 6000 looseAll w := by
  unfold HandSHeadRun.RunEqI; kernel_rfl
end E3
open PySem PySem.W PySem.Calls PyProof.Rows
set_option maxRecDepth 100000 in
set_option maxHeartbeats 0 in
theorem PySem.Challenge.cw_cellplaces_k70_rings_refused_holds : PySem.Challenge.rw_cellplaces_k70_rings_refused.Holds := by
  w_on; o_law
  refine HandSHeadRun.head_imp (r := OpenLaw.row PySem.Challenge.rw_cellplaces_k70_rings_refused) (q := view (OpenLaw.row PySem.Challenge.rw_cellplaces_k70_rings_refused).prog [0, 25]) (H := E3.hk) (ob := E3.ob) (M := 6000) (loose := E3.looseAll) (d := HandSHeadRun.topDef (OpenLaw.row PySem.Challenge.rw_cellplaces_k70_rings_refused).prog 25) (kwd := []) E3.ob_eq
    E3.run (by kernel_rfl) (by kernel_rfl) (by kernel_rfl) (by rfl) (by first | assumption | decide +kernel) (by decide +kernel) ⟨rfl, rfl, rfl, rfl, rfl, by decide +kernel⟩ ?hw ?hc
  case hw => w_witness2
  case hc =>
    refine L2.walk_ofGE (l := PySem.Challenge.rw_cellplaces_k70_rings_refused) (n := 63) (k := 8) (x := "_law_script") rfl (by decide) (by kernel_rfl) ⟨rfl, by decide, by decide⟩ ?F
    intro w mg fa h Y G hmg0
    obtain ⟨K, KX, c⟩ := Y
    have hmg : mg ("law" : PySem.Str) = some (.ref fa) := by
      have e : (HandSHeadRun.topDef (OpenLaw.row PySem.Challenge.rw_cellplaces_k70_rings_refused).prog 25).name = ("law" : PySem.Str) := by kernel_rfl
      rw [← e]
      exact hmg0
    obtain ⟨fd, hb, hF⟩ := E3.facts (P := (PySem.Challenge.rw_cellplaces_k70_rings_refused).prog) (w := w) KX G hmg c
    exact ⟨K, fd, E3.spLaw K, KX, hb, fun H a ns hl hS => ⟨a, ns, rfl, hS, hl, fun _ => rfl⟩, hF⟩
