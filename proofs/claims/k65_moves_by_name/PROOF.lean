import PyProof.Rows.All
import Wide.All
import OpenK.AllK
import Wide.FinOn
import HandS.ForExc
import HandS.ExcInit
import HandS.ExcIs
import HandS.ExcField
import HandS.Defaults
import HandS.IsInst
import HandS.ExcValue
import HandS.ForMost
import KE.KOpsOwn
import HandS.Ends
import HandS.Words
import HandS.Codes
import HandS.Head0
import HandS.Head1
import HandS.Head2
import HandS.HeadEnd
import HandS.HeadHook1
import HandS.List
import HandS.Conv
import PyProof.TupleOfSeq
import PyProof.Rows.SortShellAny
import HandS.SetBool
import HandS.Walk
import HandS.Wide
import HandS.WideBits
import HandS.Comp
import HandS.SetFor
import HandS.DictComp
import HandS.More
import HandS.Iter
import KE.KDictWalk
import KE.KDictDisplayH
import HandS.Gcd
import HandS.WordsDict
import HandS.Lambda
import KE.SortKeyHeap
import KE.KLam
import HandS.New
import HandS.Text
import KE.KStateDown
import HandS.Head3
import HandS.HeadWalk
import HandS.HeadHook4
import HandS.DictEq
import PyProof.InstNe
import HandS.Flow
import HandS.OwnEq
import PyProof.NeKinds
import HandS.Strs
import KE.DataFind
import HandS.Sort
import KE.KDictList
import PyProof.CompUse
import HandS.MakeKw
import PyProof.MeetsIn
import KE.KEqDict
import HandS.SortInts
import HandS.Dict
import HandS.Style
import HandS.Finally
import HandS.Deep
import PyProof.P3Eq
import HandS.TupAny
import HandS.RaiseMore
import PySem.Challenge.RW_cellplaces_k65_moves_by_name
set_option Elab.async false
set_option linter.all false
set_option maxRecDepth 100000
set_option maxHeartbeats 4000000
/-! An own exception class called with one keyword: the maker takes it and lets it be, the own __init__ gets it. -/
namespace KwE
open PySem PySem.W PySem.Calls PyProof.Rows PySem.HandSPX
section
variable {prog : Program} {w : World} {A : Around} {E : Value → Shared → Prop} {R : Result → Shared → Prop} {hp : Heap} {gs : Array GenState} {dr : Drawn} {tk : Nat} {os : OsState}
variable {nm q : Str} {C N fI : Addr} {bs bm bmB : List Value} {hd : Bool} {sn : List Str} {sub : List Value} {ab : Bool} {col : Option Bool} {dd : Option Addr} {k0 k1 k2 k3 k5 : Option Value} {B new_ init_ : String} {us : List Value} {kn : Str} {kv : Value}
/-- what the class's line says of the base's names -/
structure Line (B : String) (C : Addr) (bm : List Value) : Prop where
  b : (Value.ref C :: bm).contains (.type B) = true
  a : (Value.ref C :: bm).contains (.type "AttributeError") = false
  n : (Value.ref C :: bm).contains (.type "NameError") = false
theorem Line.of (F : ExcBaseFacts B new_ init_ bmB) (same : ∀ X : String, bm.contains (.type X) = bmB.contains (.type X)) : Line B C bm := by
  constructor <;> rw [List.contains_cons, same]
  · rw [F.hasB, Bool.or_true]
  · rw [F.noAttr]; rfl
  · rw [F.noName]; rfl
end
end KwE

set_option Elab.async false
set_option linter.all false
set_option maxRecDepth 100000
set_option maxHeartbeats 4000000
namespace PySem.W
open PySem PySem.Spec PySem.Calls PyProof.Rows
section
variable {prog : Program} {w : World} {A : Around} {E : Value → Shared → Prop} {s : Shared} {K : Frag} {x D : Addr} {ox : Obj} {od : Option Obj}
end
end PySem.W
namespace L2
open PySem PySem.Spec PyProof.Rows
/-- an exception object of the own class at C: with its attributes, or bare -/
inductive ExT (H : Hp) (e C : Addr) : List (Str × V) → Prop where
  | own {d : Addr} {fs : List (Str × V)} (h1 : H e = some (exo e C (some d))) (h2 : H d = some (exd d fs)) : ExT H e C fs
  | bare (h : H e = some (ExO (.ref C) e)) : ExT H e C []
theorem ExT.same {H H' : Hp} {e C : Addr} {fs : List (Str × V)} (S : Same H H') : ExT H e C fs → ExT H' e C fs
  | .own h1 h2 => .own (S _ _ h1) (S _ _ h2)
  | .bare h => .bare (S _ _ h)
section
variable {X : Cx} {pins : List (Addr × Obj)} {σ : St} {H : Hp} {s : Shared} {e C : Addr} {fs : List (Str × V)}
end
/-- __init__(self, f): self.f = f -/
def spExI (K : PySem.W.Frag) (f : Str) : Sp := fun vs H Q _ => ∃ (a C : Addr) (y : V), vs = [.ref a, y] ∧ OexC K C ∧ PySem.W.findIn K (.ref C) f = some none ∧ H a = some (exo a C none) ∧
  ∀ dx, H dx = none → dx ≠ a → Q .non (upd (upd H dx (exd dx [(f, y)])) a (exo a C (some dx)))
end L2

set_option Elab.async false
set_option linter.all false
set_option maxRecDepth 100000
set_option maxHeartbeats 4000000
namespace L2
open PySem PySem.Spec PyProof.Rows
/-- an own exception class at C, called x, whose __init__ sets the one attribute f (None where it is not given) -/
structure ExM (P : Program) (w : World) (K : PySem.W.Frag) (mg : Str → Option Value) (base : Heap) (x : Str) (C : Addr) (f : Str) : Prop where
  mgC : mg x = some (.ref C)
  oex : OexC K C
  xc : ExcC K C
  noF : PySem.W.findIn K (.ref C) f = some none
  hmk : ∃ (fI : Addr) (fd : FuncData) (ps : List Str), PySem.W.findIn K (.ref C) "__init__" = some (some (.ref fI)) ∧ PySem.W.typeIn K (.ref fI) = some (.type "function") ∧ FnOk P w K mg base CX0 1 fI fd ps (spExI K f) ∧
    (∀ (self u : Value) (s' : Shared), K.In s'.heap → BindsTo s' fd ⟨[self, u], []⟩ (ps.zip [self, u])) ∧ (∀ (self u : Value) (s' : Shared), K.In s'.heap → BindsTo s' fd ⟨[self], [(f, u)]⟩ (ps.zip [self, u])) ∧
    (∀ (self : Value) (s' : Shared), K.In s'.heap → BindsTo s' fd ⟨[self], []⟩ (ps.zip [self, .none]))
/-- an own exception class at C, called x, without an __init__ of its own -/
structure ExB (K : PySem.W.Frag) (mg : Str → Option Value) (x : Str) (C : Addr) : Prop where
  mgC : mg x = some (.ref C)
  xc : ExcC K C
  kC : PySem.W.keepIn K (.ref C) = true
  is : ∃ bmB, ExcBaseFacts "ValueError" "ValueError.__new__" "ValueError.__init__" bmB ∧ PySem.W.excIn K C bmB "ValueError.__new__" = true
section
variable {X : Cx} {x f : Str} {C : Addr} {e : Expr} {te : TE} {p pos kpos : Pos}
end

end L2

set_option Elab.async false
set_option linter.all false
set_option maxRecDepth 100000
set_option maxHeartbeats 400000
namespace L2
open PySem PySem.Spec PyProof.Rows
section
variable {P : Program} {w : World} {K : PySem.W.Frag} {mg : Str → Option Value} {base : Heap} {x qual : Str} {C fI : Addr} {fd : FuncData} {p1 p2 p3 q1 q2 q3 q4 : Pos}
end
end L2

set_option Elab.async false
set_option linter.all false
set_option maxRecDepth 100000
set_option maxHeartbeats 1000000
namespace L2
open PySem PySem.Spec PyProof.Rows
/-- a def's promise where no repr is under way around it -/
structure FnG (P : Program) (w : World) (K : PySem.W.Frag) (mg : Str → Option Value) (base : Heap) (k : Nat) (f : Addr) (fd : FuncData) (ps : List Str) (sp : Sp) : Prop where
  len : ∀ vs H Q E, sp vs H Q E → vs.length = ps.length
  go : ∀ (A : Around) (outer : List Env) (s : Shared) (H : Hp) (args : Args) (us : List Value) (vs : List V) (Q : VK) (E : XK), A.guards = some [] → Room k A → Env0 P w K mg base A outer s H → BindsTo s fd args (ps.zip us) → Vals vs us →
    sp vs H Q E → codeAny (model P w) A (.call (.ref f) args) (CR CX0 outer P w H s Q E) s
section
variable {P : Program} {w : World} {K : PySem.W.Frag} {mg : Str → Option Value} {base : Heap}
end
end L2

set_option Elab.async false
set_option linter.all false
set_option maxRecDepth 100000
set_option maxHeartbeats 1000000
namespace L2
open PySem PySem.Spec PyProof.Rows
theorem Same.upd {H : Hp} {p : Addr} {o : HO} (h : H p = none) : Same H (L2.upd H p o) := fun b u q => by
  rw [upd_ne (ne_of_none q h)]
  exact q
section
variable {X : Cx} {x y : Str} {C : Addr} {p q r pos : Pos} {i : Nat}
end
end L2

set_option Elab.async false
set_option linter.all false
set_option maxRecDepth 100000
set_option maxHeartbeats 1000000
namespace L2
open PySem PySem.Spec PyProof.Rows
/-- v shows as the data d: data without dicts, or a flat dict -/
inductive Shw (K : PySem.W.Frag) (H : Hp) : V → PyData → Prop where
  | dp {v : V} {d : PyData} (h : Dp K H v d) (n : d.hasDict = false) : Shw K H v d
  | d0 {q : Addr} (h : H q = some (.dK [])) : Shw K H (.ref q) (.dict [])
  | d1 {q : Addr} {x : Str} {i : Int} (h : H q = some (.dK [(.inr x, .int i)])) : Shw K H (.ref q) (.dict [(.str x, .int i)])
section
variable {X : Cx} {pins : List (Addr × Obj)} {σ : St} {H : Hp} {s : Shared}
theorem Shw.reads (I : Inv X pins σ H s) {v : V} {d : PyData} {u : Value} (h : Shw X.K H v d) (r : RelV v u) : ∃ as, Reads s.heap u d as ∧ (d.hasDict = true → sysModules ∉ as) := by
  cases h with
  | dp h n =>
    obtain ⟨as, q⟩ := Dp.reads I d v u h r
    exact ⟨as, q, fun z => by rw [n] at z; cases z⟩
  | @d0 q h =>
    obtain rfl : u = Value.ref q := r
    obtain ⟨_, ne, vs, kv, o, es, ep, ho, ex, hd, _, ps, _⟩ := dk_of I.hok h
    cases kv
    have e0 : es.toList = [] := by
      cases hl : es.toList with
      | nil => rfl
      | cons a l => rw [hl] at ps; cases ps
    refine ⟨_, Reads.dict (kvs := []) ho ex.1 hd (by rw [e0]; exact .nil) (by rw [e0]; exact .nil), fun _ hm => ?_⟩
    have hm' : sysModules ∈ [q] := by simpa using hm
    have e : sysModules = q := by simpa using hm'
    rw [← e] at ne
    exact absurd ne (by decide)
  | @d1 q x i h =>
    obtain rfl : u = Value.ref q := r
    obtain ⟨_, ne, vs, kv, o, es, ep, ho, ex, hd, _, ps, _⟩ := dk_of I.hok h
    cases kv with
    | @cons _ kw _ vs' hk kt =>
      cases kt
      obtain ⟨k, w'⟩ := kw
      obtain ⟨ek, ri⟩ := hk
      dsimp only at ek ri
      subst ek
      obtain ⟨t', rfl⟩ := (show ∃ t, w' = Value.int i t from ri)
      generalize hl : es.toList = l at ps
      cases ps with
      | @cons a _ l' _ k1 k2 pl =>
        cases pl
        rcases keyIs_shape (show keyIs (.inr x) a.key = true from k1) with ⟨_, _, z, _⟩ | ⟨y, ty, z, e2⟩
        · cases z
        · cases z
          refine ⟨_, Reads.dict (kvs := [(.str x, .int i)]) ho ex.1 hd (by rw [hl]; exact .cons (by show Reads s.heap a.key (.str x) _; rw [e2]; exact .str x ty) .nil) (by rw [hl]; exact .cons (by show Reads s.heap a.val (.int i) _; rw [k2]; exact .int i t') .nil), fun _ hm => ?_⟩
          have e : sysModules = q := by simpa using hm
          rw [← e] at ne
          exact absurd ne (by decide)
end
end L2

set_option Elab.async false
set_option linter.all false
set_option maxRecDepth 100000
set_option maxHeartbeats 1000000
namespace L2
open PySem PySem.Spec PyProof.Rows
/-- a new object at p, all else as it was: what is wanted of it -/
def NewQ (H : Hp) (o : HO) (Q : VK) : Prop := ∀ p H', Same H H' → H p = none → H' p = some o → Q (.ref p) H'
theorem NewQ.at {H : Hp} {o : HO} {Q : VK} (h : NewQ H o Q) {p : Addr} (n : H p = none) : Q (.ref p) (L2.upd H p o) := h p _ (Same.upd n) n upd_same
def tLstS (t : TA) : TE := fun σ H Q => t σ H fun xs H1 => xs.length ≤ sizeLine ∧ NewQ H1 (.lst xs) Q
def tTupS (t : TA) : TE := fun σ H Q => t σ H fun xs H1 => xs.length ≤ sizeLine ∧ NewQ H1 (.tup xs) Q
def rCatS : R2 := fun x y H Q => ∃ l b xs zs, x = .ref l ∧ y = .ref b ∧ H l = some (.lst xs) ∧ H b = some (.lst zs) ∧ xs.length + zs.length ≤ sizeLine ∧ NewQ H (.lst (xs ++ zs)) Q
def rSlW (K : PySem.W.Frag) : V → Option Int → Option Int → Hp → VK → Prop := fun x lo hi H Q => ∃ a xs, x = .ref a ∧ SqL K H a xs ∧ NewQ H (.lst (cutV xs lo hi)) Q
section
variable {X : Cx} {es : List Expr} {t : TA} {pos : Pos}
theorem pe_lstS (h : PA X es t) : PE X (.List es pos) (tLstS t) :=
  ⟨fun pins s σ H Q I hq => wpAny_List_spliced (thn (h.run pos pins s σ H _ I hq) fun us s1 ⟨xs, H1, I1, r, z, q⟩ => ⟨by rw [← r.length]; exact z,
    .ref s1.heap.objs.size, _, I1.laid (t' := s1.toks) (o := .lst xs) (fun _ _ e => Heap.get?_push_of_some _ e) (Nat.le_refl _) ⟨z, us, 0, r, Heap.get?_push_size _ rfl⟩, rfl, q.at I1.fresh⟩)⟩
theorem pe_tupS {x1} (h : PA X es t) : PE X (.Tuple es x1 pos) (tTupS t) :=
  ⟨fun pins s σ H Q I hq => wpAny_Tuple_spliced (thn (h.run pos pins s σ H _ I hq) fun us s1 ⟨xs, H1, I1, r, z, q⟩ => ⟨by rw [← r.length]; exact z,
    .ref s1.heap.objs.size, _, I1.laid (t' := s1.toks) (o := .tup xs) (fun _ _ e => Heap.get?_push_of_some _ e) (Nat.le_refl _) ⟨z, us, r, ⟨_, Heap.get?_push_size _ rfl, rfl, _, rfl⟩⟩, rfl, q.at I1.fresh⟩)⟩
theorem op_catS : OpR X (binaryOp .Add) rCatS := fun pins s σ H x y v u Q I rx ry ⟨l, b, xs, zs, e1, e2, h1, h2, hz, q⟩ => op_cat pins s σ H x y v u Q I rx ry ⟨l, b, xs, zs, e1, e2, h1, h2, hz, fun _ n => q.at n⟩
theorem sl_listS : SlR X (rSlW X.K) := fun pins s σ H x v vl vu lo hi sl Q I rx hs hl hh ⟨a, xs, e, h, q⟩ => sl_list pins s σ H x v vl vu lo hi sl Q I rx hs hl hh ⟨a, xs, e, h, fun _ n => q.at n⟩
/-- {} with text or int keys -/
theorem pe_dnewS : PE X (.Dict [] [] pos) (fun _ H Q => NewQ H (.dK []) Q) := ⟨fun pins s σ H Q I h => pe_dnewK.run pins s σ H Q I fun _ n => NewQ.at h n⟩
end
theorem Same.lst {H H' : Hp} {a : Addr} {o : HO} (S : Same H H') (h : H a = some o) : H' a = some o := S _ _ h
end L2

set_option Elab.async false
set_option linter.all false
set_option maxRecDepth 100000
set_option maxHeartbeats 1000000
/-! a + b, a * b, -a where a is an instance of an own class that says what they are. -/
namespace L2
open PySem PySem.Spec PyProof.Rows
theorem back_of {X : Cx} {pins : List (Addr × Obj)} {σ : St} {Q : VK} {u : Value} {s : Shared} (h : EP X pins σ Q u s) : PySem.W.CmpBack (EP X pins σ Q) u s := by
  obtain ⟨v, H, I, r, q⟩ := h
  have h : EP X pins σ Q u s := ⟨v, H, I, r, q⟩
  cases v with
  | non => obtain rfl := (show u = Value.none from r); exact h
  | bl b => obtain rfl := (show u = Value.bool b from r); exact h
  | int i => obtain ⟨t, rfl⟩ := (show ∃ t, u = Value.int i t from r); exact h
  | str i => obtain ⟨t, rfl⟩ := (show ∃ t, u = Value.str i t from r); exact h
  | byt i => obtain ⟨t, rfl⟩ := (show ∃ t, u = Value.bytes i t from r); exact h
  | flt i => obtain ⟨t, rfl⟩ := (show ∃ t, u = Value.float i t from r); exact h
  | ref a => obtain rfl := (show u = Value.ref a from r); exact h
  | ty n => obtain rfl := (show u = Value.type n from r); exact h
/-- what the class says of an operator's method -/
structure OwnOp (K : PySem.W.Frag) (C : Addr) (name : Str) (f : Addr) : Prop where
  first : PySem.W.selfFirst K C = true
  has : PySem.W.findIn K (.ref C) name = some (some (.ref f))
  fn : PySem.W.isFn K (.ref f) = true
/-- the same where the right side is a whole number: int's own slots, and no reflected method of the class's -/
structure OwnOpI (K : PySem.W.Frag) (C : Addr) (name : String) (f : Addr) : Prop where
  one : OwnOp K C (PySem.dunder name) f
  refl : ∃ rc, PySem.W.findIn K (.ref C) (dunderR name) = some rc ∧ (rc = none ∨ ∃ g : Addr, rc = some (.ref g))
  i1 : ∃ fo, PySem.W.findIn K (.type "int") (PySem.dunder name) = some fo
  i2 : ∃ ro, PySem.W.findIn K (.type "int") (dunderR name) = some ro
  sub : PySem.W.subIn K (.type "int") (.ref C) = some false
def rOwn (C : Addr) (sp : Sp) : R2 := fun x y H Q => ∃ p q dx fs dy gs, x = .ref p ∧ y = .ref q ∧ H p = some (.ins C dx fs) ∧ H q = some (.ins C dy gs) ∧ sp [x, y] H Q E0
def rOwnN (C : Addr) (sp : Sp) : V → Hp → VK → Prop := fun x H Q => ∃ p dx fs, x = .ref p ∧ H p = some (.ins C dx fs) ∧ sp [x] H Q E0
section
variable {X : Cx} {op : Operator} {C f : Addr} {fd : FuncData} {ps : List Str} {sp : Sp} {k : Nat}
theorem inst_of {pins : List (Addr × Obj)} {σ : St} {H : Hp} {s : Shared} {p dx : Addr} {fs : List (Str × V)} (I : Inv X pins σ H s) (e : H p = some (.ins C dx fs)) : ∃ ox od, PySem.W.InstAt s.heap p ox C od := by
  obtain ⟨mA, O, _⟩ := ins_get I.hok e
  obtain ⟨od, J, _⟩ := O.look
  exact ⟨_, _, J⟩
theorem op_own (O : OwnOp X.K C (PySem.dunder op.info.2) f) (F : FnOk X.prog X.w X.K X.mg X.base CX0 k f fd ps sp) (hr : Room k X.A) (hb : Binds X.K fd ps []) : OpR X (binaryOp op) (rOwn C sp) := by
  intro pins s σ H x y v u Q I rx ry h
  obtain ⟨p, q, dx, fs, dy, gs, rfl, rfl, ep, eq, hq⟩ := h
  have run := run_fn (dvs := []) (E := E0) F hr hb .nil pass0 I (.cons rx (.cons ry .nil)) hq
  obtain rfl : v = Value.ref p := rx
  obtain rfl : u = Value.ref q := ry
  obtain ⟨ox, od, J⟩ := inst_of I ep
  obtain ⟨oy, oe, J2⟩ := inst_of I eq
  obtain ⟨m, fr⟩ := I.fr
  exact PySem.W.binop_K fr I.ok.mod.kin J J2.type O.first O.has O.fn (thn run fun _ _ z => back_of z)
theorem un_own (O : OwnOp X.K C "__neg__" f) (F : FnOk X.prog X.w X.K X.mg X.base CX0 k f fd ps sp) (hr : Room k X.A) (hb : Binds X.K fd ps []) : UnR X (unaryOp .USub) (rOwnN C sp) := by
  intro pins s σ H x v Q I rx h
  obtain ⟨p, dx, fs, rfl, ep, hq⟩ := h
  have run := run_fn (dvs := []) (E := E0) F hr hb .nil pass0 I (.cons rx .nil) hq
  obtain rfl : v = Value.ref p := rx
  obtain ⟨ox, od, J⟩ := inst_of I ep
  obtain ⟨m, fr⟩ := I.fr
  exact PySem.W.ksp_neg fr I.ok.mod.kin J O.has O.fn run
end
end L2

set_option Elab.async false
set_option linter.all false
set_option maxRecDepth 100000
set_option maxHeartbeats 1000000
/-! A head by facts: one Bool of the law's own, and the defs. -/
namespace Hb
open PySem PySem.Spec PyProof.Rows L2 He
abbrev AlB : Type := Bool × List FnV
def obsB (ex : PySem.W.Frag → Bool) (fn : List FnD) (K : PySem.W.Frag) : AlB := (ex K && fn.all fun d => (Fa.code d.at_ d.qual).ok K && PySem.W.keepIn K (.ref (fAd K d.at_)), fn.map fun d => fnObs K d.at_)
def valB (fn : List FnD) : AlB := (true, fn.map FnD.val)
def SaysB (ex : PySem.W.Frag → Bool) (fn : List FnD) (K : PySem.W.Frag) : Prop := obsB ex fn K = valB fn
section
variable {ex : PySem.W.Frag → Bool} {fn : List FnD} {K : PySem.W.Frag}
theorem SaysB.bool (c : SaysB ex fn K) : ex K = true := (ba (show (ex K && fn.all fun d => (Fa.code d.at_ d.qual).ok K && PySem.W.keepIn K (.ref (fAd K d.at_))) = true from congrArg (fun z : AlB => z.1) c)).1
end
theorem bindsA {K : PySem.W.Frag} {x qual : Str} {st : Stmt} {f : Addr} {fd : FuncData} {ps : List Str} (F : L2.Fun K x qual st f fd)
    (h : ∀ (kV doc pm : Value) (an : Option Addr) (cdv ct : Value) (us : List Value), us.length = ps.length → bindArgs (PySem.W.fnOf x qual (defArgs st) (defBody st) (defScope st) .none kV doc pm an cdv ct) ⟨us, []⟩ = pure (ps.zip us)) (s : Shared) (us : List Value) (hl : us.length = ps.length) : BindsTo s fd ⟨us, []⟩ (ps.zip us) := by
  obtain ⟨oc, od, kV, doc, pm, an, cdv, ct, osl, rfl, lk, hcd⟩ := F.ex
  exact .of_eq (h kV doc pm an cdv ct us hl)
/-! own operators, isinstance, as Bools -/
section
variable {K : PySem.W.Frag} {C : Addr}
def ownB (K : PySem.W.Frag) (C : Addr) (m : Str) : Bool := PySem.W.selfFirst K C && (eqO (PySem.W.findIn K (.ref C) m) (some (some (.ref (ma K C m)))) && PySem.W.isFn K (.ref (ma K C m)))
theorem ownB_ok {m : Str} (h : ownB K C m = true) : OwnOp K C m (ma K C m) :=
  let ⟨h1, h2⟩ := ba h
  let ⟨h3, h4⟩ := ba h2
  ⟨h1, eqO_ok h3, h4⟩
def insB (K : PySem.W.Frag) (C : Addr) : Bool := eqO (PySem.W.findIn K (.ref C) "__class__") (some (some (.builtin "object.__class__"))) && (eqO (PySem.W.specialIn K (.builtin "object.__class__") "__get__") (some (some (.builtin "getset_descriptor.__get__"))) &&
  (decide (PySem.W.takesIn K (.builtin "object.__class__") = some true) && (decide (PySem.W.mroIn K C (.type "object") = some true) && decide (PySem.W.kitOne K (.ref C) (.ref C) = some true))))
theorem insB_ok (c : Cls K C) (h : insB K C = true) : C8.InsC K C := by
  obtain ⟨h1, h⟩ := ba h
  obtain ⟨h2, h⟩ := ba h
  obtain ⟨h3, h⟩ := ba h
  obtain ⟨h4, h5⟩ := ba h
  exact ⟨c, eqO_ok h1, eqO_ok h2, of_decide_eq_true h3, of_decide_eq_true h4, of_decide_eq_true h5⟩
/-- a global that is a built-in function -/
def bltB (K : PySem.W.Frag) (x : Str) (n : String) : Bool := eqO (PySem.W.nsIn K mainGlobals x) (some (some (.builtin n)))
theorem bltB_ok {h : Heap} {mg : Str → Option Value} (X : K.In h) (G : h.Ns mainGlobals mg) {x : Str} {n : String} (c : bltB K x n = true) : mg x = some (.builtin n) := PySem.W.mg_of X G (eqO_ok c)
theorem bool_ok {l : List Bool} (h : (l.all id) = true) (i : Nat) {b : Bool} (hi : l[i]? = some b := by rfl) : b = true := List.all_eq_true.mp h b (List.mem_of_getElem? hi)
end
end Hb

set_option Elab.async false
set_option linter.all false
set_option maxRecDepth 100000
set_option maxHeartbeats 1000000
/-! sorted(t), t a tuple of texts -/
namespace L2
open PySem PySem.Spec PyProof.Rows
end L2

set_option Elab.async false
set_option linter.all false
set_option maxRecDepth 100000
set_option maxHeartbeats 2000000
/-! A set of texts, by the list of its members. -/
namespace L2
open PySem PySem.Spec PyProof.Rows
/-- an entry is a text under its hash -/
def GoodS (P : Program) (w : World) (e : Int × Value) : Prop := ∃ (x : Str) (t : Tok), e = ((PySem.strKind P w).hash x, .str x t)
def keyS (e : Int × Value) : Str := match e.2 with
  | .str x _ => x
  | _ => Str.empty
def SetS (P : Program) (w : World) (h : Heap) (a : Addr) (ks : List Str) : Prop := ∃ o es ep t, h.get? a = some o ∧ o.ExactSet ∧ o.data = .set es ep t ∧ (∀ e ∈ es.toList, GoodS P w e) ∧ (es.toList.map keyS).Perm ks ∧ ks.Nodup ∧
  es.size < scanBound ∧ t.fits es.size = true ∧ Ris t.place.toList ∧ (w.params.followText "set-order" = true ∨ t.led = true)
section
variable {P : Program} {w : World} {h h' : Heap} {a : Addr} {ks : List Str}
theorem SetS.at (R : SetS P w h a ks) (k : ∀ o, h.get? a = some o → h'.get? a = some o) : SetS P w h' a ks := let ⟨o, es, ep, t, ho, r⟩ := R; ⟨o, es, ep, t, k o ho, r⟩
theorem goodS_is {e : Int × Value} (g : GoodS P w e) (k : Str) : (PySem.strKind P w).is k e.2 = true ↔ keyS e = k := by
  obtain ⟨x, t, rfl⟩ := g
  unfold keyS
  show Value.isStrOf k (.str x t) = true ↔ x = k
  simp [Value.isStrOf]
theorem goodS_elems {l : List (Int × Value)} (g : ∀ e ∈ l, GoodS P w e) : ElemsOf (PySem.strKind P w) l := fun e he => by
  obtain ⟨x, t, rfl⟩ := g e he
  exact ⟨⟨x, strKind_is P w x t, rfl⟩, rfl⟩
theorem goodS_mem {l : List (Int × Value)} (g : ∀ e ∈ l, GoodS P w e) (k : Str) : k ∈ l.map keyS ↔ ∃ e ∈ l, (PySem.strKind P w).is k e.2 = true := by
  rw [List.mem_map]
  exact ⟨fun ⟨e, he, q⟩ => ⟨e, he, (goodS_is (g e he) k).mpr q⟩, fun ⟨e, he, q⟩ => ⟨e, he, (goodS_is (g e he) k).mp q⟩⟩
theorem setS_new (w : World) (P : Program) (h : Heap) : SetS P w (h.push { cls := .type "set", dict := none, data := .set #[] 0 (.fresh 0 0 (!w.params.followText "set-order")) }) h.objs.size [] := by
  refine ⟨_, #[], 0, _, Heap.get?_push_size _ rfl, ⟨rfl, rfl, rfl⟩, rfl, fun e he => absurd he (by simp), .nil, List.nodup_nil, by decide, rfl, List.Pairwise.nil, ?_⟩
  cases c : w.params.followText "set-order" with
  | true => exact .inl rfl
  | false => exact .inr rfl
end
section
variable {P : Program} {w : World} {A : Around} {E : Value → Shared → Prop} {s : Shared} {a : Addr} {ks : List Str}
/-- sorted of it -/
theorem setS_sorted {Q : Value → Shared → Prop} (R : SetS P w s.heap a ks) (hh : A.handled = none)
    (hQ : ∀ s' p (out : Array Value) (c : Nat) (ys : List Str), (∀ b o, s.heap.get? b = some o → s'.heap.get? b = some o) → s'.gens = s.gens → s'.os = s.os → s.heap.objs.size ≤ p → s'.heap.get? p = some (seqObj "list" out c) → StrsAre out.toList ys → ys.Perm ks → sortedS ys = true → Q (.ref p) s') :
    wpAny (model P w) A (call (.builtin "sorted") [.ref a]) Q E s := by
  obtain ⟨o, es, ep, t, ho, hex, hd, g, pm0, nd, hb, hf, hr, hl⟩ := R
  refine Calls.call_function_entry kind_sorted plain_sorted entry_sorted (args_sorted1 _) ?_
  unfold Builtin.«sorted»
  refine wpAny_bind (m := checkCount "sorted" 1 1 _) (wpAny_pure ?_)
  refine wpAny_bind (collect_set (A := A.in1) hh ⟨o, ho, hex.1, hd⟩ hf hb hr hl fun s1 vs k1 hz g1 o1 pm => ?_)
  have vl : vs.length < scanBound := by rw [pm.length_eq, List.length_map, Array.length_toList]; exact hb
  have texts : ∀ l : List Value, (∀ v ∈ l, ∃ x tk, v = Value.str x tk) → StrsAre l (l.map fun v => keyS (0, v)) := by
    intro l
    induction l with
    | nil => intro _; exact .nil
    | cons v l ih =>
      intro h
      obtain ⟨x, tk, rfl⟩ := h v (List.mem_cons.mpr (.inl rfl))
      exact .cons x tk (ih fun u hu => h u (List.mem_cons.mpr (.inr hu)))
  have hS := texts vs fun v hv => by
    obtain ⟨e, he, q⟩ := List.mem_map.mp (pm.mem_iff.mp hv)
    obtain ⟨x, tk, rfl⟩ := g e he
    exact ⟨x, tk, q.symm⟩
  have pk : (vs.map fun v => keyS (0, v)).Perm ks := by
    refine (pm.map fun v => keyS (0, v)).trans ?_
    rw [List.map_map]
    exact pm0
  have zl : vs.length ≤ sizeLine := fits_of_scanBound vl
  refine wpAny_bind (wpAny_newList ?_ zl)
  have hoL : (s1.heap.push (seqObj "list" vs.toArray 0)).get? s1.heap.objs.size = some (seqObj "list" vs.toArray 0) := Heap.get?_push_size _ rfl
  refine wpAny_bind (wpAny_holding (wpAny_call_entry slot_list_sort ⟨_, hoL, rfl⟩ entry_list_sort (list_sort_treeKAny strKind_oneLt hoL hS.keysOf (fun v₁ v₂ rest e => keyKind_strs (by rw [← e]; exact hS)) zl fun st' hp hs => ⟨_, rfl, ?_⟩) (args_list_sort _)))
  obtain ⟨ys, h1, h2, h3⟩ := sorted_out_str hS hp hs
  obtain ⟨c, hc⟩ := sortedHeap_at (vs := vs) (out := (arrOf st').map (·.2)) hoL
  refine wpAny_pure ⟨_, rfl, hQ _ s1.heap.objs.size _ c ys (fun b u e => ?_) g1 o1 hz hc h1 (h2.trans pk) h3⟩
  have q := k1 b u e
  have hlt := Heap.lt_size q
  show (sortedHeap (s1.heap.push (seqObj "list" vs.toArray 0)) s1.heap.objs.size vs _).get? b = some u
  rw [sortedHeap_old (Nat.ne_of_lt hlt) (by rw [size_push']; exact Nat.lt_succ_of_lt hlt)]
  exact Heap.get?_push_of_some _ q
end
end L2

set_option Elab.async false
set_option linter.all false
set_option maxRecDepth 100000
set_option maxHeartbeats 2000000
/-! A set of texts: one more. -/
namespace L2
open PySem PySem.Spec PyProof.Rows
section
variable {P : Program} {w : World} {A : Around} {E : Value → Shared → Prop} {s : Shared} {a : Addr} {ks : List Str}
/-- the entries laid down, and once more where the table is too full -/
theorem setS_tail {g : Bool → Sem Unit} (hg : ∀ (b : Bool) (s₁ : Shared) (Q' : Unit → Shared → Prop), Q' () s₁ → wpAny (model P w) A (g b) Q' E s₁) {o : Obj} {es es1 : Array (Int × Value)} {ep : Nat} {t t2 : SetTable} {ks1 : List Str}
    (ho : s.heap.get? a = some o) (hex : o.ExactSet) (hd : o.data = .set es ep t) (g1 : ∀ e ∈ es1.toList, GoodS P w e) (p1 : (es1.toList.map keyS).Perm ks1) (n1 : ks1.Nodup) (hb : es1.size < scanBound) (hf : t2.fits es1.size = true) (hr : Ris t2.place.toList)
    (hl : w.params.followText "set-order" = true ∨ t2.led = true) {wasDummy : Bool} {R : Option Bool → Shared → Prop} (hR : ∀ h', Heap.SameBut a s.heap h' → SetS P w h' a ks1 → R (some true) { s with heap := h' }) :
    wpAny (model P w) A (do
        storeSet a es1 t2
        if (!wasDummy && t2.tooFull) = true then do
            g (relayAll t2 es1 (SetTable.grown es1.size)).2.2
            storeSet a (relayAll t2 es1 (SetTable.grown es1.size)).1 (relayAll t2 es1 (SetTable.grown es1.size)).2.1
            pure (some true)
          else pure (some true)) R E s := by
  have at_ : ∀ {h : Heap} {o : Obj} {es es' : Array (Int × Value)} {ep : Nat} {t t' : SetTable}, h.get? a = some o → o.data = .set es ep t → (h.update a (Obj.putSet es' t')).get? a = some { o with data := .set es' (ep + 1) t' } := by
    intro h o es es' ep t t' ho hd
    have q := Heap.get?_update_self (Obj.putSet es' t') ho (by rw [putSet_of es' t' hd]; rfl)
    rwa [putSet_of es' t' hd] at q
  refine wpAny_bind (wpAny_storeSet_of ho hd ?_ (fits_of_scanBound hb))
  have h1 := at_ (es' := es1) (t' := t2) ho hd
  have b1 := Heap.SameBut.update s.heap a (Obj.putSet es1 t2)
  split
  · have pm := relayAll_perm t2 es1 (SetTable.grown es1.size)
    have z1 := relayAll_fits t2 es1 (SetTable.grown es1.size)
    have z2 := relayAll_ris t2 es1 (SetTable.grown es1.size)
    have z3 := relayAll_led t2 es1 (SetTable.grown es1.size)
    generalize relayAll t2 es1 (SetTable.grown es1.size) = Z at pm z1 z2 z3 ⊢
    obtain ⟨es2, t3, gave⟩ := Z
    dsimp only at pm z1 z2 z3 ⊢
    have es : es2.size = es1.size := by rw [← Array.length_toList, pm.length_eq, Array.length_toList]
    refine wpAny_bind (hg _ _ _ (wpAny_bind (wpAny_storeSet_of h1 rfl (wpAny_pure (hR _ (b1.trans (Heap.SameBut.update _ a _)) ?_)) (fits_of_scanBound (by rw [es]; exact hb)))))
    exact ⟨_, es2, _, t3, at_ h1 rfl, hex, rfl, fun e he => g1 e (pm.mem_iff.mp he), (pm.map keyS).trans p1, n1, by rw [es]; exact hb, z1, z2, hl.imp id fun z => by rw [z3]; exact z⟩
  · exact wpAny_pure (hR _ b1 ⟨_, es1, _, t2, h1, hex, rfl, g1, p1, n1, hb, hf, hr, hl⟩)
theorem setS_hashed {x : Str} {tk : Tok} {Q : Bool → Shared → Prop} (R : SetS P w s.heap a ks) (room : ks.length + 1 < scanBound)
    (hQ : ∀ b h', Heap.SameBut a s.heap h' → SetS P w h' a (if x ∈ ks then ks else x :: ks) → Q b { s with heap := h' }) : wpAny (model P w) A (setAddHashed a (.str x tk) ((PySem.strKind P w).hash x)) Q E s := by
  obtain ⟨o, es, ep, t, ho, hex, hd, g, pm0, nd, hb, hf, hr, hl⟩ := R
  have hkey : (PySem.strKind P w).is x (.str x tk) = true := strKind_is P w x tk
  have hsc : (Value.str x tk).scannable = true := rfl
  have hel := goodS_elems g
  unfold setAddHashed setAddHashedIn
  refine wpAny_holding (wpAny_bind (wpAny_setState_of ho hd hf ?_))
  dsimp only
  rw [byScan_of hsc hb hel]
  simp only [↓reduceIte]
  unfold setAddByScan
  refine wpAny_bind ?_
  refine wpAny_bind (wpAny_rule ?_)
  refine wpAny_bind (wpAny_setScan_of hkey ho hd hf hel ?_)
  cases hfi : List.findIdx? (fun e => (PySem.strKind P w).is x e.2) es.toList with
  | some j =>
    dsimp only
    obtain ⟨hj, pj, _⟩ := List.findIdx?_eq_some_iff_getElem.mp hfi
    have hin : x ∈ ks := pm0.mem_iff.mp ((goodS_mem g x).mpr ⟨es.toList[j], List.getElem_mem hj, pj⟩)
    refine wpAny_pure (wpAny_pure (hQ _ s.heap (Heap.SameBut.refl a s.heap) ?_))
    rw [if_pos hin]
    exact ⟨o, es, ep, t, ho, hex, hd, g, pm0, nd, hb, hf, hr, hl⟩
  | none =>
    dsimp only
    have hnot : x ∉ ks := fun z => by
      obtain ⟨e, he, q⟩ := (goodS_mem g x).mp (pm0.mem_iff.mpr z)
      have c := List.findIdx?_eq_none_iff.mp hfi e he
      rw [q] at c
      cases c
    rw [if_neg hnot] at hQ
    have gw : ∀ (b : Bool) {s₁ : Shared} {Q' : Unit → Shared → Prop}, Q' () s₁ → wpAny (model P w) A (match b with | true => rule "set.scan.the-table-gave-way" | false => pure ()) Q' E s₁ :=
      fun b s₁ Q' q => by cases b <;> first | exact wpAny_pure q | exact wpAny_rule q
    have pm := layNew_perm t es ((PySem.strKind P w).hash x) (.str x tk)
    have y1 := layNew_fits t es ((PySem.strKind P w).hash x) (.str x tk)
    have y2 := layNew_ris t es ((PySem.strKind P w).hash x) (.str x tk) hr
    have y3 := layNew_led t es ((PySem.strKind P w).hash x) (.str x tk)
    generalize layNew t es ((PySem.strKind P w).hash x) (.str x tk) = Z at pm y1 y2 y3 ⊢
    obtain ⟨es1, t1, wasDummy, gave⟩ := Z
    dsimp only at pm y1 y2 y3 ⊢
    rw [Array.toList_push] at pm
    have pc : es1.toList.Perm (((PySem.strKind P w).hash x, Value.str x tk) :: es.toList) := pm.trans (List.perm_append_singleton _ _)
    have g1 : ∀ e ∈ es1.toList, GoodS P w e := fun e he => by
      rcases List.mem_cons.mp (pc.mem_iff.mp he) with z | z
      · exact ⟨x, tk, z⟩
      · exact g e z
    have p1 : (es1.toList.map keyS).Perm (x :: ks) := (pc.map keyS).trans (List.Perm.cons x pm0)
    have n1 : (x :: ks).Nodup := List.nodup_cons.mpr ⟨hnot, nd⟩
    have size1 : es1.size = ks.length + 1 := by
      have := p1.length_eq
      rw [List.length_map, Array.length_toList, List.length_cons] at this
      exact this
    have b1 : es1.size < scanBound := by rw [size1]; exact room
    have l1 : w.params.followText "set-order" = true ∨ t1.led = true := hl.imp id fun z => by rw [y3]; exact z
    refine wpAny_bind (gw _ ?_)
    split
    · refine wpAny_bind ?_
      rw [hashByValue_scannable 8 hsc]
      refine wpAny_pure ?_
      refine setS_tail ?_ ho hex hd g1 p1 n1 b1 ?_ ?_ ?_ ?_
      · intro b s₁ Q' q; cases b <;> first | exact wpAny_pure q | exact wpAny_rule q
      · first | (split <;> first | exact y1 | exact SetTable.fits_plain_off y1) | exact y1
      · first | (split <;> exact y2) | exact y2
      · first | (split <;> exact l1) | exact l1
      · intro h' sb r; dsimp only; exact wpAny_pure (hQ _ h' sb r)
    · refine wpAny_bind (wpAny_pure ?_)
      simp only [↓reduceIte]
      refine setS_tail ?_ ho hex hd g1 p1 n1 b1 y1 y2 l1 ?_
      · intro b s₁ Q' q; cases b <;> first | exact wpAny_pure q | exact wpAny_rule q
      · intro h' sb r; dsimp only; exact wpAny_pure (hQ _ h' sb r)
theorem SetS.typeIs (R : SetS P w s.heap a ks) : s.TypeIs (.ref a) "set" := let ⟨o, _, _, _, ho, hex, _⟩ := R; ⟨o, ho, hex.1⟩
theorem setS_add {x : Str} {tk : Tok} {Q : Value → Shared → Prop} (R : SetS P w s.heap a ks) (room : ks.length + 1 < scanBound)
    (hQ : ∀ h' t, Heap.SameBut a s.heap h' → SetS P w h' a (if x ∈ ks then ks else x :: ks) → Q .none { s with heap := h', toks := t }) : wpAny (model P w) A (call (.builtin "set.add") [.ref a, .str x tk]) Q E s := by
  refine wpAny_call_entry F.slot_set_add R.typeIs F.entry_set_add ?_ (F.args_set_add_2 _ _)
  unfold Builtin.«set.add» Builtin.Frozenset.oneOther
  simp only [List.isEmpty_nil, bind_assoc]
  unfold Builtin.Frozenset.addrOf setAdd
  refine wpAny_bind (wpAny_pure ?_)
  try dsimp only
  refine wpAny_bind (wpAny_pure ?_)
  try dsimp only
  refine wpAny_bind ?_
  refine wpAny_holding ?_
  refine wpAny_bind ((PySem.strKind P w).pyHash (strKind_is P w x tk) ?_)
  refine setS_hashed (s := { s with toks := s.toks + 1 }) R room fun _ h' sb r => ?_
  show wpAny _ _ (ret Value.none) _ _ _
  exact wpAny_pure ⟨_, rfl, hQ h' _ sb r⟩
end
end L2

set_option Elab.async false
set_option linter.all false
set_option maxRecDepth 100000
set_option maxHeartbeats 2000000
/-! A set of texts made by a comprehension of two clauses without tests. -/
namespace L2
open PySem PySem.Spec PyProof.Rows
/-- the set of texts at a, as a thing that is followed -/
def SetSO (P : Program) (w : World) (a : Addr) (ks : List Str) : HO := .ext fun h => SetS P w h a ks
theorem setSO_new {P P' : Program} {w w' : World} {H : Hp} {h : Heap} {a : Addr} {ks : List Str} (R : SetS P w h a ks) : ObjOk P' w' H h a (SetSO P w a ks) := by
  have ⟨o, _, _, _, ho, _⟩ := R
  exact ⟨R, ⟨o, ho⟩, fun h1 h2 p k => SetS.at p k⟩
/-- one text more -/
def putS (ks : List Str) (x : Str) : List Str := if x ∈ ks then ks else x :: ks
section
variable {X : Cx}
theorem setSO_get {pins : List (Addr × Obj)} {σ : L2.St} {H : Hp} {s : Shared} {P : Program} {w : World} {a : Addr} {ks : List Str} (I : Inv X pins σ H s) (ha : H a = some (SetSO P w a ks)) : SetS P w s.heap a ks := (I.hok a _ ha).1
theorem addS_ok {pins : List (Addr × Obj)} {σ : L2.St} {H : Hp} {s : Shared} {E : Value → Shared → Prop} {D : Addr} {ks : List Str} {x : Str} {tk : Tok} {Q : Value → Shared → Prop} (I : Inv X pins σ H s) (hD : H D = some (SetSO X.prog X.w D ks)) (room : ks.length + 1 < scanBound)
    (h : ∀ s', Inv X pins σ (upd H D (SetSO X.prog X.w D (putS ks x))) s' → Q .none s') : wpAny (model X.prog X.w) X.A (call (.builtin "set.add") [.ref D, .str x tk]) Q E s := by
  refine setS_add (setSO_get I hD) room fun h' t sb new => ?_
  obtain ⟨o, _, _, _, ho, _⟩ := id new
  exact h _ (I.write (e := D) (t' := t) (by rw [hD]; trivial) (.inl rfl) (fun b u hb hu => (sb.2 b hb).trans hu) ⟨o, ho⟩ (setSO_new new))
end
section
variable {prog : Program} {w : World} {A : Around} {R : Result → Shared → Prop} {s : Shared} {elt t0 i0 t1 i1 : Expr} {scope : Scope} {pos : Pos} {it acc : Value} {env : Env}
end
end L2
namespace L2
open PySem PySem.Spec PyProof.Rows
section
variable {prog : Program} {w : World} {A : Around} {R : Result → Shared → Prop} {s : Shared} {elt t0 i0 t1 i1 : Expr} {scope : Scope} {pos : Pos} {it acc : Value} {env : Env}
/-- nothing is raised -/
abbrev NoE : Value → Shared → Prop := fun _ _ => False
end
section
variable {X : Cx}
/-- what a block's part is, wherever the block starts -/
abbrev InBlk (X : Cx) (scope : Scope) (p : Cx → Prop) : Prop := ∀ (s : Shared) (H : Hp) (C : Addr) (cl : List (Str × Addr)) (fp : List Addr), p (X.blk s H scope (compEnvC scope cl C X.env) fp)
end
end L2

set_option Elab.async false
set_option linter.all false
set_option maxRecDepth 100000
set_option maxHeartbeats 2000000
/-! comprehensions of any number of clauses, without tests: a clause at a time -/
namespace L2
open PySem PySem.Spec PyProof.Rows
/-- what a turn does behind the store of its item -/
abbrev PWt := Value → Env → (Shared → Prop) → Shared → Prop
section
variable (prog : Program) (w : World) (A : Around)
def LoopOk (E : Expr) (k : Nat) (t : Expr) (pw : PWt) : Prop := ∀ (R : Result → Shared → Prop) (it acc : Value) (env : Env) (J : Nat → Shared → Prop),
  (∀ n s, J n s → wpAny (model prog w) A (pyNext it) (fun r s1 => match r with
      | none => R (.ok .next) s1
      | some v => wpAny (model prog w) A (letOwnedTupleGo t it v) (fun _ s2 => wpAny (model prog w) A (assign t env v) (fun _ s3 => pw acc env (fun s' => ∃ m, m < n ∧ J m s') s3) NoE s2) NoE s1) NoE s) →
  ∀ n s, J n s → codeAny (model prog w) A (.compLoop E k it acc env) R s
def StartOk (E : Expr) (k : Nat) : Prop := ∀ (R : Result → Shared → Prop) (it acc : Value) (env : Env) (s : Shared), codeAny (model prog w) A (.compLoop E k it acc env) R s →
  wpAny (model prog w) A (pyIter it) (fun it' s' => codeAny (model prog w) A (.compLoop E k it' acc env) R s') (notedBy (model prog w) A env fun x s' => R (.error x) s') s → codeAny (model prog w) A (.compStart E k it acc env) R s
/-- the next clause starts -/
def pwMid (E : Expr) (k : Nat) (i : Expr) : PWt := fun acc env N s => wpAny (model prog w) A (eval i env) (fun x s4 => wpAny (model prog w) A (pyIter x) (fun it1 s5 =>
  codeAny (model prog w) A (.compStart E k it1 acc env) (fun r s' => match r with
    | .ok _ => N s'
    | .error _ => False) s5) NoE s4) NoE s
/-- an item is put in -/
def pwAdd (f : String) (elt : Expr) : PWt := fun acc env N s => wpAny (model prog w) A (eval elt env) (fun x s4 => wpAny (model prog w) A (call (.builtin f) [acc, x]) (fun _ s5 => N s5) NoE s4) NoE s
end
section
variable {prog : Program} {w : World} {A : Around} {elt t0 i0 t1 i1 t2 i2 : Expr} {scope : Scope} {pos : Pos}
abbrev sc3 (elt t0 i0 t1 i1 t2 i2 : Expr) (scope : Scope) (pos : Pos) : Expr := .SetComp elt [⟨t0, i0, [], 0⟩, ⟨t1, i1, [], 0⟩, ⟨t2, i2, [], 0⟩] scope pos
abbrev lc3 (elt t0 i0 t1 i1 t2 i2 : Expr) (scope : Scope) (pos : Pos) : Expr := .ListComp elt [⟨t0, i0, [], 0⟩, ⟨t1, i1, [], 0⟩, ⟨t2, i2, [], 0⟩] scope pos
theorem mid_loop {E : Expr} {k k' : Nat} {t i : Expr} {p1 p2 : Pos} (hT : ∀ it acc env, compTurn E k it acc env = (do
      standAt p1
      match ← pyNext it with
      | none => pure (.done .next)
      | some v =>
        letOwnedTupleGo t it v
        assign t env v
        let src ← eval i env
        standAt p2
        let src ← foldedSetIterable i env src
        let _ ← runOwn (.compStart E k' (← holding [src] (pyIter src)) acc env) env
        again (.compLoop E k it acc env)))
    (hs : ∀ env x, foldedSetIterable i env x = pure x)
    (hu : ∀ it acc env, A.under (.compLoop E k it acc env) = A) (hd : ∀ it acc env, (model prog w).den (.compLoop E k it acc env) = (compTurn E k it acc env).onRaise (fun x => do noteFrame x env; theTreesLotGoes x)) : LoopOk prog w A E k t (pwMid prog w A E k' i) := by
  intro R it acc env J turn n s h
  refine codeAny_loop rfl J (fun n s hJ => ?_) n h
  rw [hu, hd]
  refine wpAny_noted ?_
  rw [hT]
  refine wpAny_bind (wpAny_standAt (wpAny_bind (thnF (turn n s hJ) fun r s1 h1 => ?_)))
  cases r with
  | none => exact wpAny_pure h1
  | some v =>
    refine wpAny_bind (thnF h1 fun _ s2 h2 => wpAny_bind (thnF h2 fun _ s3 h3 => wpAny_bind (thnF h3 fun x s4 h4 => wpAny_bind (wpAny_standAt (wpAny_bind (wpAny_of_eq (hs env x) (wpAny_bind (wpAny_holding (thnF h4 fun it1 s5 h5 => ?_)))))))))
    refine wpAny_bind (wpAny_runOwn ?_)
    rw [Around.mark_none]
    refine codeAny_mono h5 fun r s' hr => ?_
    cases r with
    | ok f => first | exact wpAny_pure ⟨rfl, hr⟩ | exact wpAny_bind (wpAny_pure (wpAny_pure ⟨rfl, hr⟩))
    | error e => exact hr.elim
theorem add_loopS {E : Expr} {k : Nat} {t : Expr} {p1 : Pos} (hT : ∀ it acc env, compTurn E k it acc env = (do
      standAt p1
      match ← pyNext it with
      | none => pure (.done .next)
      | some v =>
        letOwnedTupleGo t it v
        assign t env v
        (do let u ← eval elt env; standAt elt.pos; let _ ← call (.builtin "set.add") [acc, u])
        again (.compLoop E k it acc env)))
    (hu : ∀ it acc env, A.under (.compLoop E k it acc env) = A) (hd : ∀ it acc env, (model prog w).den (.compLoop E k it acc env) = (compTurn E k it acc env).onRaise (fun x => do noteFrame x env; theTreesLotGoes x)) : LoopOk prog w A E k t (pwAdd prog w A "set.add" elt) := by
  intro R it acc env J turn n s h
  refine codeAny_loop rfl J (fun n s hJ => ?_) n h
  rw [hu, hd]
  refine wpAny_noted ?_
  rw [hT]
  refine wpAny_bind (wpAny_standAt (wpAny_bind (thnF (turn n s hJ) fun r s1 h1 => ?_)))
  cases r with
  | none => exact wpAny_pure h1
  | some v =>
    refine wpAny_bind (thnF h1 fun _ s2 h2 => wpAny_bind (thnF h2 fun _ s3 h3 => ?_))
    exact wpAny_bind (wpAny_bind (thnF h3 fun x s4 h4 => wpAny_bind (wpAny_standAt (wpAny_bind (thnF h4 fun _ s5 h5 => wpAny_pure (wpAny_pure ⟨rfl, h5⟩))))))
theorem add_loopL {E : Expr} {k : Nat} {t : Expr} {p1 : Pos} (hT : ∀ it acc env, compTurn E k it acc env = (do
      standAt p1
      match ← pyNext it with
      | none => pure (.done .next)
      | some v =>
        letOwnedTupleGo t it v
        assign t env v
        (do let _ ← call (.builtin "list.append") [acc, ← eval elt env])
        again (.compLoop E k it acc env)))
    (hu : ∀ it acc env, A.under (.compLoop E k it acc env) = A) (hd : ∀ it acc env, (model prog w).den (.compLoop E k it acc env) = (compTurn E k it acc env).onRaise (fun x => do noteFrame x env; theTreesLotGoes x)) : LoopOk prog w A E k t (pwAdd prog w A "list.append" elt) := by
  intro R it acc env J turn n s h
  refine codeAny_loop rfl J (fun n s hJ => ?_) n h
  rw [hu, hd]
  refine wpAny_noted ?_
  rw [hT]
  refine wpAny_bind (wpAny_standAt (wpAny_bind (thnF (turn n s hJ) fun r s1 h1 => ?_)))
  cases r with
  | none => exact wpAny_pure h1
  | some v =>
    refine wpAny_bind (thnF h1 fun _ s2 h2 => wpAny_bind (thnF h2 fun _ s3 h3 => ?_))
    exact wpAny_bind (wpAny_bind (thnF h3 fun x s4 h4 => wpAny_bind (thnF h4 fun _ s5 h5 => wpAny_pure (wpAny_pure ⟨rfl, h5⟩))))
theorem sc3_l0 (hs : ∀ env x, foldedSetIterable i1 env x = pure x) : LoopOk prog w A (sc3 elt t0 i0 t1 i1 t2 i2 scope pos) 0 t0 (pwMid prog w A (sc3 elt t0 i0 t1 i1 t2 i2 scope pos) 1 i1) := mid_loop (p1 := i0.pos) (p2 := i1.pos) (fun _ _ _ => by rfl) hs (fun _ _ _ => rfl) (fun _ _ _ => rfl)
theorem sc3_l1 (hs : ∀ env x, foldedSetIterable i2 env x = pure x) : LoopOk prog w A (sc3 elt t0 i0 t1 i1 t2 i2 scope pos) 1 t1 (pwMid prog w A (sc3 elt t0 i0 t1 i1 t2 i2 scope pos) 2 i2) := mid_loop (p1 := i1.pos) (p2 := i2.pos) (fun _ _ _ => by rfl) hs (fun _ _ _ => rfl) (fun _ _ _ => rfl)
theorem sc3_l2 : LoopOk prog w A (sc3 elt t0 i0 t1 i1 t2 i2 scope pos) 2 t2 (pwAdd prog w A "set.add" elt) := add_loopS (p1 := i2.pos) (fun _ _ _ => by rfl) (fun _ _ _ => rfl) (fun _ _ _ => rfl)
theorem lc3_l0 (hs : ∀ env x, foldedSetIterable i1 env x = pure x) : LoopOk prog w A (lc3 elt t0 i0 t1 i1 t2 i2 scope pos) 0 t0 (pwMid prog w A (lc3 elt t0 i0 t1 i1 t2 i2 scope pos) 1 i1) := mid_loop (p1 := i0.pos) (p2 := i1.pos) (fun _ _ _ => by rfl) hs (fun _ _ _ => rfl) (fun _ _ _ => rfl)
theorem lc3_l1 (hs : ∀ env x, foldedSetIterable i2 env x = pure x) : LoopOk prog w A (lc3 elt t0 i0 t1 i1 t2 i2 scope pos) 1 t1 (pwMid prog w A (lc3 elt t0 i0 t1 i1 t2 i2 scope pos) 2 i2) := mid_loop (p1 := i1.pos) (p2 := i2.pos) (fun _ _ _ => by rfl) hs (fun _ _ _ => rfl) (fun _ _ _ => rfl)
theorem lc3_l2 : LoopOk prog w A (lc3 elt t0 i0 t1 i1 t2 i2 scope pos) 2 t2 (pwAdd prog w A "list.append" elt) := add_loopL (p1 := i2.pos) (fun _ _ _ => by rfl) (fun _ _ _ => rfl) (fun _ _ _ => rfl)
theorem sc3_s1 : StartOk prog w A (sc3 elt t0 i0 t1 i1 t2 i2 scope pos) 1 := by
  intro R it acc env s h0 h
  refine codeAny_of_tree ?_
  show wpAny _ _ ((compStart (sc3 elt t0 i0 t1 i1 t2 i2 scope pos) 1 it acc env).onRaise (fun x => do noteFrame x env; standAt theWindowsPlace)) _ _ s
  refine wpAny_notedAt ?_
  unfold compStart
  show wpAny _ _ (ask >>= _) _ _ s
  refine wpAny_bind (wpAny_askSetting (wpAny_ite ?_))
  split
  · first
      | exact wpAny_bind (wpAny_pure (wpAny_pure (And.intro rfl h0)))
      | exact wpAny_pure (And.intro rfl h0)
  · first
      | exact wpAny_bind (wpAny_rule (wpAny_bind (wpAny_standAt (wpAny_bind (wpAny_mono h (fun it' s' h' => wpAny_pure (And.intro rfl h')) fun _ _ x => x)))))
      | (refine wpAny_bind (wpAny_rule ?_); show wpAny _ _ (standAt i1.pos >>= _) _ _ s; exact wpAny_bind (wpAny_standAt (wpAny_bind (wpAny_mono h (fun it' s' h' => wpAny_pure (And.intro rfl h')) fun _ _ x => x))))
theorem sc3_s2 : StartOk prog w A (sc3 elt t0 i0 t1 i1 t2 i2 scope pos) 2 := by
  intro R it acc env s h0 h
  refine codeAny_of_tree ?_
  show wpAny _ _ ((compStart (sc3 elt t0 i0 t1 i1 t2 i2 scope pos) 2 it acc env).onRaise (fun x => do noteFrame x env; standAt theWindowsPlace)) _ _ s
  refine wpAny_notedAt ?_
  unfold compStart
  show wpAny _ _ (ask >>= _) _ _ s
  refine wpAny_bind (wpAny_askSetting (wpAny_ite ?_))
  split
  · first
      | exact wpAny_bind (wpAny_pure (wpAny_pure (And.intro rfl h0)))
      | exact wpAny_pure (And.intro rfl h0)
  · first
      | exact wpAny_bind (wpAny_rule (wpAny_bind (wpAny_standAt (wpAny_bind (wpAny_mono h (fun it' s' h' => wpAny_pure (And.intro rfl h')) fun _ _ x => x)))))
      | (refine wpAny_bind (wpAny_rule ?_); show wpAny _ _ (standAt i2.pos >>= _) _ _ s; exact wpAny_bind (wpAny_standAt (wpAny_bind (wpAny_mono h (fun it' s' h' => wpAny_pure (And.intro rfl h')) fun _ _ x => x))))
theorem lc3_s1 : StartOk prog w A (lc3 elt t0 i0 t1 i1 t2 i2 scope pos) 1 := by
  intro R it acc env s h0 h
  refine codeAny_of_tree ?_
  show wpAny _ _ ((compStart (lc3 elt t0 i0 t1 i1 t2 i2 scope pos) 1 it acc env).onRaise (fun x => do noteFrame x env; standAt theWindowsPlace)) _ _ s
  refine wpAny_notedAt ?_
  unfold compStart
  show wpAny _ _ (ask >>= _) _ _ s
  refine wpAny_bind (wpAny_askSetting (wpAny_ite ?_))
  split
  · first
      | exact wpAny_bind (wpAny_pure (wpAny_pure (And.intro rfl h0)))
      | exact wpAny_pure (And.intro rfl h0)
  · first
      | exact wpAny_bind (wpAny_rule (wpAny_bind (wpAny_standAt (wpAny_bind (wpAny_mono h (fun it' s' h' => wpAny_pure (And.intro rfl h')) fun _ _ x => x)))))
      | (refine wpAny_bind (wpAny_rule ?_); show wpAny _ _ (standAt i1.pos >>= _) _ _ s; exact wpAny_bind (wpAny_standAt (wpAny_bind (wpAny_mono h (fun it' s' h' => wpAny_pure (And.intro rfl h')) fun _ _ x => x))))
theorem lc3_s2 : StartOk prog w A (lc3 elt t0 i0 t1 i1 t2 i2 scope pos) 2 := by
  intro R it acc env s h0 h
  refine codeAny_of_tree ?_
  show wpAny _ _ ((compStart (lc3 elt t0 i0 t1 i1 t2 i2 scope pos) 2 it acc env).onRaise (fun x => do noteFrame x env; standAt theWindowsPlace)) _ _ s
  refine wpAny_notedAt ?_
  unfold compStart
  show wpAny _ _ (ask >>= _) _ _ s
  refine wpAny_bind (wpAny_askSetting (wpAny_ite ?_))
  split
  · first
      | exact wpAny_bind (wpAny_pure (wpAny_pure (And.intro rfl h0)))
      | exact wpAny_pure (And.intro rfl h0)
  · first
      | exact wpAny_bind (wpAny_rule (wpAny_bind (wpAny_standAt (wpAny_bind (wpAny_mono h (fun it' s' h' => wpAny_pure (And.intro rfl h')) fun _ _ x => x)))))
      | (refine wpAny_bind (wpAny_rule ?_); show wpAny _ _ (standAt i2.pos >>= _) _ _ s; exact wpAny_bind (wpAny_standAt (wpAny_bind (wpAny_mono h (fun it' s' h' => wpAny_pure (And.intro rfl h')) fun _ _ x => x))))
end
/-- the part of a turn behind the store of its item, as it reads in a context; vs: the slots that it may change -/
structure PPart (Y : Cx) (pw : PWt) (acc : Value) (tp : L2.St → Hp → (Hp → Prop) → Prop) (vs : List Nat) : Prop where
  run : ∀ (pins : List (Addr × Obj)) (s : Shared) (σ : L2.St) (H : Hp) (N : Hp → Prop) (N' : Shared → Prop), Inv Y pins σ H s → tp σ H N → (∀ H' s', Inv Y pins (wipe σ vs) H' s' → N H' → N' s') → pw acc Y.env N' s
def tAddS (P : Program) (w : World) (D : Addr) (te : TE) : L2.St → Hp → (Hp → Prop) → Prop := fun σ H N => te σ H fun y H7 => ∃ z ks, y = .str z ∧ H7 D = some (SetSO P w D ks) ∧ ks.length + 1 < scanBound ∧ N (upd H7 D (SetSO P w D (putS ks z)))
def tAddL (D : Addr) (te : TE) : L2.St → Hp → (Hp → Prop) → Prop := fun σ H N => te σ H fun y H7 => ∃ acc, H7 D = some (.lst acc) ∧ acc.length < sizeLine ∧ N (upd H7 D (.lst (acc ++ [y])))
def tMid (wi : TI) (g : TG) (tp : L2.St → Hp → (Hp → Prop) → Prop) (vs : List Nat) : L2.St → Hp → (Hp → Prop) → Prop := fun σ H N => wi σ H fun J H4 => ∃ W : Nat → Nat → Hp → Prop, (∃ m, W 0 m H4) ∧ ∀ j k H, W j k H →
  (J.stop j H ∧ N H) ∨ (J.go j H ∧ ∃ Nx : Hp → Prop, (∀ H', Nx H' → ∃ k', k' < k ∧ W (j + 1) k' H') ∧ ∀ x H', J.yld j H x H' → g x (wipe σ vs) H' fun σ2 H2 => wipe σ2 vs = wipe σ vs ∧ tp σ2 H2 Nx)
section
variable {Y : Cx}
theorem part_addS {elt : Expr} {te : TE} {D : Addr} (hxe : Y.xe = NoE) (he : PE Y elt te) : PPart Y (pwAdd Y.prog Y.w Y.A "set.add" elt) (.ref D) (tAddS Y.prog Y.w D te) [] := by
  refine ⟨fun pins s σ H N N' I h k => ?_⟩
  unfold pwAdd
  have r := he.run pins s σ H _ I h
  rw [hxe] at r
  refine thnF r fun v s1 ⟨y, H1, I1, r1, z, ks, ey, hD, room, nx⟩ => ?_
  subst ey
  obtain ⟨tk, rfl⟩ : ∃ tk, v = Value.str z tk := r1
  exact addS_ok I1 hD room fun s2 I2 => k _ s2 I2 nx
theorem part_addL {elt : Expr} {te : TE} {D : Addr} (hxe : Y.xe = NoE) (he : PE Y elt te) : PPart Y (pwAdd Y.prog Y.w Y.A "list.append" elt) (.ref D) (tAddL D te) [] := by
  refine ⟨fun pins s σ H N N' I h k => ?_⟩
  unfold pwAdd
  have r := he.run pins s σ H _ I h
  rw [hxe] at r
  refine thnF r fun v s1 ⟨y, H1, I1, r1, acc, hD, room, nx⟩ => ?_
  exact app_ok I1 hD room r1 fun s2 I2 => k _ s2 I2 nx
theorem part_mid {E : Expr} {k : Nat} {t i : Expr} {pw : PWt} {acc : Value} {wi : TI} {g : TG} {tp : L2.St → Hp → (Hp → Prop) → Prop} {vs vs' : List Nat} (hxe : Y.xe = NoE) (hc : Y.calm = true) (hv : ∀ i ∈ vs', i ∈ vs) (hi : PI Y t i wi) (hg : PG Y t g)
    (hp : PPart Y pw acc tp vs') (hL : LoopOk Y.prog Y.w Y.A E k t pw) (hS : StartOk Y.prog Y.w Y.A E k) : PPart Y (pwMid Y.prog Y.w Y.A E k i) acc (tMid wi g tp vs) vs := by
  refine ⟨fun pins s σ H N N' I h kk => ?_⟩
  have r0 := hi.run pins s σ H _ I h
  rw [hxe] at r0
  refine thnF r0 fun xv s1 hx => ?_
  refine thnF hx fun itv s2 h2 => ?_
  obtain ⟨it1, fp1, tn1, J1, H2, rfl, I2, T1, st2, f2, W1, ⟨m1, w1⟩, turn1⟩ := h2
  have loop1 : codeAny (model Y.prog Y.w) Y.A (.compLoop E k (.ref it1) acc Y.env)
      (fun r s' => match r with
        | .ok _ => N' s'
        | .error _ => False) s2 := by
    refine hL _ _ _ _ (fun n s' => ∃ j H', Inv Y pins (wipe σ vs) H' s' ∧ tn1 j s'.heap ∧ (∀ b ∈ fp1, H' b = none) ∧ W1 j n H') ?_ m1 _ ⟨0, H2, I2.weak (wipe_length _ _) (fun j v e => (wipe_some e).1), st2, fun b hb => (f2 b hb).1, w1⟩
    rintro n s3 ⟨j, H3, I3, st3, n3, w3⟩
    rcases turn1 j n H3 w3 with ⟨stop1, nx1⟩ | ⟨go1, Nx1, hNx1, step1⟩
    · refine thnF (T1.done Y rfl rfl rfl hc j _ s3 _ H3 NoE I3 (fun b hb => ⟨n3 b hb, (f2 b hb).2⟩) st3 stop1) fun r s4 ⟨hr, I4⟩ => ?_
      subst hr
      exact kk _ _ I4 nx1
    · refine thnF (T1.item Y rfl rfl rfl hc j _ s3 _ H3 NoE I3 (fun b hb => ⟨n3 b hb, (f2 b hb).2⟩) st3 go1) fun r s4 ⟨u1, hr, h4⟩ => ?_
      subst hr
      refine thnF h4 fun _ s5 ⟨x1, H5, I5, r5, y5, st5, n5⟩ => ?_
      have I5p := I5.pinned (fun b hb => ⟨n5 b hb, (f2 b hb).2⟩) (T1.obj _ _ st5)
      have rg := hg.run _ s5 _ H5 x1 u1 _ I5p r5 (step1 x1 H5 y5)
      rw [hxe] at rg
      refine thnF rg fun _ s6 ⟨σ6, H6, I6, hw6, q6⟩ => ?_
      refine hp.run _ s6 σ6 H6 Nx1 _ I6 q6 fun H7 s7 I7 nx => ?_
      obtain ⟨m', hm, w'⟩ := hNx1 _ nx
      have pin' : ∀ b ∈ fp1, ∀ o, s5.heap.get? b = some o → s7.heap.get? b = some o ∧ H7 b = none := fun b hb o e =>
        let z := I7.pin (b, o) (List.mem_append_right _ (List.mem_append_right _ (mem_pinsAt hb e)))
        ⟨z.1, z.2.1⟩
      refine ⟨m', hm, j + 1, H7, I7.unpinned.weak ?_ (fun j v e => ?_), T1.keep _ _ _ st5 fun b hb o e => (pin' b hb o e).1, fun b hb => ?_, w'⟩
      · have z := congrArg List.length hw6
        rw [wipe_length, wipe_length] at z
        rw [wipe_length, wipe_length]
        exact z.symm
      · rw [← hw6] at e
        obtain ⟨e1, e2⟩ := wipe_some e
        rw [wipe_out fun z => e2 (hv j z)]
        exact e1
      · obtain ⟨o, e, _⟩ := T1.obj _ _ st5 b hb
        exact (pin' b hb o e).2
  exact hS _ _ _ _ _ loop1 (T1.self Y.A 0 _ _ _ st2 loop1)
end
end L2

set_option Elab.async false
set_option linter.all false
set_option maxRecDepth 100000
set_option maxHeartbeats 2000000
/-! comprehensions of any number of clauses: the first clause and the whole -/
namespace L2
open PySem PySem.Spec PyProof.Rows
def tScN (P : Program) (w : World) (wi : TI) (g : TG) (tp : Addr → L2.St → Hp → (Hp → Prop) → Prop) (vs : List Nat) : TE := fun σ H Q => wi σ H fun J H1 => ∀ D, H1 D = none → ∃ W : Nat → Nat → Hp → Prop, (∃ m, W 0 m (upd H1 D (SetSO P w D []))) ∧ ∀ i m H, W i m H →
  (J.stop i H ∧ Q (.ref D) H) ∨ (J.go i H ∧ ∃ Nx : Hp → Prop, (∀ H', Nx H' → ∃ m', m' < m ∧ W (i + 1) m' H') ∧ ∀ x H', J.yld i H x H' → g x (wipe σ vs) H' fun σ2 H2 => wipe σ2 vs = wipe σ vs ∧ tp D σ2 H2 Nx)
def tLcN (wi : TI) (g : TG) (tp : Addr → L2.St → Hp → (Hp → Prop) → Prop) (vs : List Nat) : TE := fun σ H Q => wi σ H fun J H1 => ∀ D, H1 D = none → ∃ W : Nat → Nat → Hp → Prop, (∃ m, W 0 m (upd H1 D (.lst []))) ∧ ∀ i m H, W i m H →
  (J.stop i H ∧ Q (.ref D) H) ∨ (J.go i H ∧ ∃ Nx : Hp → Prop, (∀ H', Nx H' → ∃ m', m' < m ∧ W (i + 1) m' H') ∧ ∀ x H', J.yld i H x H' → g x (wipe σ vs) H' fun σ2 H2 => wipe σ2 vs = wipe σ vs ∧ tp D σ2 H2 Nx)
/-- a clause's turns, Pv by the turn and the heap -/
theorem cl_it {J : It} {n : Nat} {G : Hp → Prop} {Y : Nat → Hp → V → Hp → Prop} (wk : Walk J n G Y) {g : TG} {tp : L2.St → Hp → (Hp → Prop) → Prop} {vs : List Nat} {σ : L2.St} {H0 : Hp} {Qd : Hp → Prop} (Pv : Nat → Hp → Prop) (h0 : Pv 0 H0) (hG : ∀ i H, i ≤ n → Pv i H → G H)
    (hs : ∀ i x H H', i < n → Pv i H → Y i H x H' → g x (wipe σ vs) H' fun σ2 H2 => wipe σ2 vs = wipe σ vs ∧ tp σ2 H2 (Pv (i + 1))) (hd : ∀ H, Pv n H → Qd H) :
    ∃ W : Nat → Nat → Hp → Prop, (∃ m, W 0 m H0) ∧ ∀ i m H, W i m H →
      (J.stop i H ∧ Qd H) ∨ (J.go i H ∧ ∃ Nx : Hp → Prop, (∀ H', Nx H' → ∃ m', m' < m ∧ W (i + 1) m' H') ∧ ∀ x H', J.yld i H x H' → g x (wipe σ vs) H' fun σ2 H2 => wipe σ2 vs = wipe σ vs ∧ tp σ2 H2 Nx) := by
  refine ⟨fun i m H => m = n - i ∧ i ≤ n ∧ Pv i H, ⟨n, by simp, Nat.zero_le _, h0⟩, ?_⟩
  rintro i m H ⟨rfl, hi, p⟩
  have q := hG i H hi p
  by_cases hlt : i < n
  · exact .inr ⟨wk.goes i H hlt q, Pv (i + 1), fun H' p' => ⟨n - (i + 1), by omega, rfl, hlt, p'⟩, fun x H' y => hs i x H H' hlt p (wk.yields i H x H' hlt q y)⟩
  · obtain rfl : i = n := by omega
    exact .inl ⟨wk.stops H q, hd H p⟩
section
variable {X : Cx}
theorem pe_scN {elt tg iter : Expr} {rest : List Comprehension} {scope : Scope} {own : List (Str × Nat)} {vs' : List Nat} {pos : Pos} {wi : TI} {g : TG} {pw : PWt} {tp : Addr → L2.St → Hp → (Hp → Prop) → Prop} (hc : X.calm = true) (hN : X.N.Nodup) (hi : PI X tg iter wi) (ok : BlkOk X.N X.env.scope scope own) (hv : ∀ i ∈ vs', i ∈ own.map (·.2))
    (hg : InBlk X scope fun Y => PG Y tg g) (hp : ∀ D, InBlk X scope fun Y => PPart Y pw (.ref D) (tp D) vs')
    (hL : LoopOk X.prog X.w X.A (.SetComp elt (⟨tg, iter, [], 0⟩ :: rest) scope pos) 0 tg pw)
    (hs : ∀ x, foldedSetIterable iter X.env x = pure x := by intro _; rfl) :
    PE X (.SetComp elt (⟨tg, iter, [], 0⟩ :: rest) scope pos) (tScN X.prog X.w wi g tp (own.map (·.2))) := by
  refine ⟨fun pins s σ H Q I h => ?_⟩
  rw [show eval (.SetComp elt (⟨tg, iter, [], 0⟩ :: rest) scope pos) X.env = comprehension (.SetComp elt (⟨tg, iter, [], 0⟩ :: rest) scope pos) scope X.env (firstIterPos (⟨tg, iter, [], 0⟩ :: rest) pos) (newSet (.type "set")) false (eval iter X.env) from rfl]
  have caught : ∀ y ∈ scope.names, y.2 = .free → ∃ c, X.env.cells.lookup y.1 = some c := fun y hy e => by
    rcases ok.free y hy e with k | k
    · exact I.ok.has _ (.inl k)
    · exact I.ok.has _ (.inr k)
  refine wpAny_comprehension_free (use := none) rfl hs (closure_ok caught) ok.kind (fun y hy e => by rw [ok.uniq y hy, e]) (thn (hi.run pins s σ H _ I h) fun xv s1 hx => thn hx fun itv s2 h2 => ?_)
  obtain ⟨it, fp, tn, J, H2, rfl, I2, T, st2, f2, q⟩ := h2
  refine PpSet.newSet_ok (newEnv_comp ?_)
  generalize hD : s2.heap.objs.size = D
  obtain ⟨W, ⟨m0, w0⟩, turn⟩ := q D (I2.hok.fresh (Nat.le_of_eq hD))
  have fb : ∀ b ∈ fp, b < s2.heap.objs.size := fun b hb => let ⟨o, e, _⟩ := T.obj _ _ st2 b hb; Heap.lt_size e
  have nw := setS_new X.w X.prog s2.heap
  generalize hnew : s2.heap.push { cls := .type "set", dict := none, data := .set #[] 0 (.fresh 0 0 (!X.w.params.followText "set-order")) } = h3 at nw
  have keep3 : ∀ b o, s2.heap.get? b = some o → h3.get? b = some o := fun b o e => by rw [← hnew]; exact Heap.get?_push_of_some _ e
  have size3 : h3.objs.size = s2.heap.objs.size + 1 := by rw [← hnew, Heap.size_push]
  rw [hD] at nw
  have I3 : Inv X pins σ (upd H2 D (SetSO X.prog X.w D [])) { s2 with heap := h3 } := I2.laid (t' := s2.toks) keep3 (Nat.le_of_eq hD) (setSO_new nw)
  have f3 : ∀ b ∈ fp, FpOk X pins (upd H2 D (SetSO X.prog X.w D [])) b ∧ b < h3.objs.size := fun b hb => by
    refine ⟨⟨?_, (f2 b hb).2⟩, by rw [size3]; exact Nat.lt_succ_of_lt (fb b hb)⟩
    rw [upd_ne (by rw [← hD]; exact Nat.ne_of_lt (fb b hb))]
    exact (f2 b hb).1
  have st3 : tn 0 h3 := T.keep _ _ _ st2 fun b _ o e => keep3 b o e
  generalize hs3 : ({ s2 with heap := h3 } : Shared) = s3 at I3
  have eh : s3.heap = h3 := by rw [← hs3]
  rw [← eh] at st3 f3 size3
  have I4 := block_start I3 ok hN f3
  generalize hH3 : upd H2 D (SetSO X.prog X.w D []) = H3 at I3 I4 w0 f3
  show codeAny _ _ (.compStart (.SetComp elt (⟨tg, iter, [], 0⟩ :: rest) scope pos) 0 (.ref it) (.ref D) (compEnvC scope (cellsFrom (s3.heap.objs.size + 1) scope.names (cloFrom X.env.cells scope.names [])) s3.heap.objs.size X.env))
    (compPost (model X.prog X.w) X.A X.xe none (EP X pins σ Q) (.ref D) s3.heap.objs.size) { s3 with heap := pushCells (s3.heap.push { cls := .type "dict", data := .dict #[] }) scope.names }
  have pg := hg s3 H3 s3.heap.objs.size (cellsFrom (s3.heap.objs.size + 1) scope.names (cloFrom X.env.cells scope.names [])) fp
  have pp := hp D s3 H3 s3.heap.objs.size (cellsFrom (s3.heap.objs.size + 1) scope.names (cloFrom X.env.cells scope.names [])) fp
  generalize hce : compEnvC scope (cellsFrom (s3.heap.objs.size + 1) scope.names (cloFrom X.env.cells scope.names [])) s3.heap.objs.size X.env = ce at I4 pg pp ⊢
  have cL : ce.locals = s3.heap.objs.size := by rw [← hce]; rfl
  generalize hs4 : ({ s3 with heap := pushCells (s3.heap.push { cls := .type "dict", data := .dict #[] }) scope.names } : Shared) = s4 at I4 ⊢
  have st4 : tn 0 s4.heap := by
    rw [← hs4]
    exact T.keep _ _ _ st3 fun b _ o e => pushCells_keeps _ _ _ _ (Heap.get?_push_of_some _ e)
  have pinned : ∀ {σ' : L2.St} {H' : Hp} {s' : Shared}, Inv (X.blk s3 H3 scope ce fp) [] σ' H' s' → (∀ b ∈ fp, H' b = none) → ∀ b ∈ fp, FpOk (X.blk s3 H3 scope ce fp) [] H' b := fun {σ' H' s'} I' hn b hb =>
    ⟨hn b hb, (I'.ok.exf b hb).1, I'.ok.exfs b hb, .inl hb, fun x c e => (I'.ok.exf b hb).2 x c e, fun p hp => absurd (show p ∈ ([] : List (Addr × Obj)) ++ [] from hp) (by simp)⟩
  have loop : codeAny (model X.prog X.w) X.A (.compLoop (.SetComp elt (⟨tg, iter, [], 0⟩ :: rest) scope pos) 0 (.ref it) (.ref D) ce) (compPost (model X.prog X.w) X.A X.xe none (EP X pins σ Q) (.ref D) s3.heap.objs.size) s4 := by
    refine hL _ _ _ _ (fun n s' => ∃ i H', Inv (X.blk s3 H3 scope ce fp) [] (wipe σ (own.map (·.2))) H' s' ∧ tn i s'.heap ∧ (∀ b ∈ fp, H' b = none) ∧ W i n H') ?_ m0 _ ⟨0, H3, I4, st4, fun b hb => (f3 b hb).1.1, w0⟩
    rintro n s5 ⟨i, H5, I5, st5, n5, w5⟩
    rcases turn i n H5 w5 with ⟨stop, qq⟩ | ⟨go, Nx, hNx, step⟩
    · refine thnF (T.done (X.blk s3 H3 scope ce fp) rfl rfl rfl hc i [] s5 _ H5 NoE I5 (pinned I5 n5) st5 stop) fun r s6 ⟨hr, I6⟩ => ?_
      subst hr
      have I7 : Inv X pins σ H5 s6 := I3.call' (ch := fp) I6.os I6.base I6.hok I6.bare fun b hb => ⟨(f3 b hb).1.2.2.2.1, (f3 b hb).1.2.1, (f3 b hb).1.2.2.2.2.1, (f3 b hb).1.2.2.2.2.2⟩
      have free5 : H5 ce.locals = none := I6.free
      obtain ⟨m, hn, _⟩ := I6.loc
      have hn : s6.heap.Ns ce.locals m := hn
      rw [cL] at hn free5
      obtain ⟨f0, f1, _, g3, f4, f5⟩ := I3.fpOk (Nat.le_refl _) free5
      exact ⟨m, hn, fun h'' sb => ⟨.ref D, H5, I7.turned (t' := s6.toks) (fun b o hb e => (sb.2 b hb).trans e) f0 f1 g3 f4 f5, rfl, qq⟩⟩
    · refine thnF (T.item (X.blk s3 H3 scope ce fp) rfl rfl rfl hc i [] s5 _ H5 NoE I5 (pinned I5 n5) st5 go) fun r s6 ⟨u, hr, h6⟩ => ?_
      subst hr
      refine thnF h6 fun _ s7 ⟨x, H7, I7, r7, y7, st7, n7⟩ => ?_
      have I7p := I7.pinned (pinned I7 n7) (T.obj _ _ st7)
      refine thnF (pg.run _ s7 _ H7 x u _ I7p r7 (step x H7 y7)) fun _ s8 ⟨σ8, H8, I8, hw8, q8⟩ => ?_
      refine pp.run _ s8 σ8 H8 Nx _ I8 q8 fun H13 s13 I13 nx => ?_
      obtain ⟨m', hm, w'⟩ := hNx H13 nx
      have pin' : ∀ b ∈ fp, ∀ o, s7.heap.get? b = some o → s13.heap.get? b = some o ∧ H13 b = none := fun b hb o e =>
        let z := I13.pin (b, o) (List.mem_append_right _ (List.mem_append_right _ (mem_pinsAt hb e)))
        ⟨z.1, z.2.1⟩
      refine ⟨m', hm, i + 1, H13, (I13.unpinned (pins := [])).weak ?_ (fun j v e => ?_), T.keep _ _ _ st7 fun b hb o e => (pin' b hb o e).1, fun b hb => ?_, w'⟩
      · have z := congrArg List.length hw8
        rw [wipe_length, wipe_length] at z
        rw [wipe_length, wipe_length]
        exact z.symm
      · rw [← hw8] at e
        obtain ⟨e1, e2⟩ := wipe_some e
        rw [wipe_out fun z => e2 (hv j z)]
        exact e1
      · obtain ⟨o, e, _⟩ := T.obj _ _ st7 b hb
        exact (pin' b hb o e).2
  exact PpSet.codeAny_compStart_set loop (T.self X.A 0 _ _ _ st4 loop)
theorem pe_lcN {elt tg iter : Expr} {rest : List Comprehension} {scope : Scope} {own : List (Str × Nat)} {vs' : List Nat} {pos : Pos} {wi : TI} {g : TG} {pw : PWt} {tp : Addr → L2.St → Hp → (Hp → Prop) → Prop} (hc : X.calm = true) (hN : X.N.Nodup) (hi : PI X tg iter wi) (ok : BlkOk X.N X.env.scope scope own) (hv : ∀ i ∈ vs', i ∈ own.map (·.2))
    (hg : InBlk X scope fun Y => PG Y tg g) (hp : ∀ D, InBlk X scope fun Y => PPart Y pw (.ref D) (tp D) vs')
    (hL : LoopOk X.prog X.w X.A (.ListComp elt (⟨tg, iter, [], 0⟩ :: rest) scope pos) 0 tg pw)
    (hs : ∀ x, foldedSetIterable iter X.env x = pure x := by intro _; rfl) :
    PE X (.ListComp elt (⟨tg, iter, [], 0⟩ :: rest) scope pos) (tLcN wi g tp (own.map (·.2))) := by
  refine ⟨fun pins s σ H Q I h => ?_⟩
  rw [show eval (.ListComp elt (⟨tg, iter, [], 0⟩ :: rest) scope pos) X.env = comprehension (.ListComp elt (⟨tg, iter, [], 0⟩ :: rest) scope pos) scope X.env (firstIterPos (⟨tg, iter, [], 0⟩ :: rest) pos) (newList []) false (eval iter X.env) from rfl]
  have caught : ∀ y ∈ scope.names, y.2 = .free → ∃ c, X.env.cells.lookup y.1 = some c := fun y hy e => by
    rcases ok.free y hy e with k | k
    · exact I.ok.has _ (.inl k)
    · exact I.ok.has _ (.inr k)
  refine wpAny_comprehension_free (use := none) rfl hs (closure_ok caught) ok.kind (fun y hy e => by rw [ok.uniq y hy, e]) (thn (hi.run pins s σ H _ I h) fun xv s1 hx => thn hx fun itv s2 h2 => ?_)
  obtain ⟨it, fp, tn, J, H2, rfl, I2, T, st2, f2, q⟩ := h2
  refine wpAny_newObj_type (newEnv_comp ?_) (by show 0 ≤ sizeLine; decide)
  generalize hD : s2.heap.objs.size = D
  obtain ⟨W, ⟨m0, w0⟩, turn⟩ := q D (I2.hok.fresh (Nat.le_of_eq hD))
  have fb : ∀ b ∈ fp, b < s2.heap.objs.size := fun b hb => let ⟨o, e, _⟩ := T.obj _ _ st2 b hb; Heap.lt_size e
  generalize hs3 : ({ s2 with heap := s2.heap.push { cls := .type "list", data := .seq ([] : List Value).toArray } } : Shared) = s3
  have I3 : Inv X pins σ (upd H2 D (.lst [])) s3 := by
    rw [← hs3]
    refine I2.laid (t' := s2.toks) (fun b o e => Heap.get?_push_of_some _ e) (Nat.le_of_eq hD) ⟨Nat.zero_le _, [], 0, .nil, ?_⟩
    rw [← hD]
    exact Heap.get?_push_size _ rfl
  have h3 : s3.heap = s2.heap.push { cls := .type "list", data := .seq ([] : List Value).toArray } := by rw [← hs3]
  have f3 : ∀ b ∈ fp, FpOk X pins (upd H2 D (.lst [])) b ∧ b < s3.heap.objs.size := fun b hb => by
    have hlt := fb b hb
    refine ⟨⟨?_, (f2 b hb).2⟩, by rw [h3, Heap.size_push]; exact Nat.lt_succ_of_lt hlt⟩
    rw [upd_ne (by rw [← hD]; exact Nat.ne_of_lt hlt)]
    exact (f2 b hb).1
  have st3 : tn 0 s3.heap := T.keep _ _ _ st2 fun b _ o e => by rw [h3]; exact Heap.get?_push_of_some _ e
  have I4 := block_start I3 ok hN f3
  generalize hH3 : upd H2 D (.lst []) = H3 at I3 I4 w0 f3
  show codeAny _ _ (.compStart (.ListComp elt (⟨tg, iter, [], 0⟩ :: rest) scope pos) 0 (.ref it) (.ref D) (compEnvC scope (cellsFrom (s3.heap.objs.size + 1) scope.names (cloFrom X.env.cells scope.names [])) s3.heap.objs.size X.env))
    (compPost (model X.prog X.w) X.A X.xe none (EP X pins σ Q) (.ref D) s3.heap.objs.size) { s3 with heap := pushCells (s3.heap.push { cls := .type "dict", data := .dict #[] }) scope.names }
  have pg := hg s3 H3 s3.heap.objs.size (cellsFrom (s3.heap.objs.size + 1) scope.names (cloFrom X.env.cells scope.names [])) fp
  have pp := hp D s3 H3 s3.heap.objs.size (cellsFrom (s3.heap.objs.size + 1) scope.names (cloFrom X.env.cells scope.names [])) fp
  generalize hce : compEnvC scope (cellsFrom (s3.heap.objs.size + 1) scope.names (cloFrom X.env.cells scope.names [])) s3.heap.objs.size X.env = ce at I4 pg pp ⊢
  have cL : ce.locals = s3.heap.objs.size := by rw [← hce]; rfl
  generalize hs4 : ({ s3 with heap := pushCells (s3.heap.push { cls := .type "dict", data := .dict #[] }) scope.names } : Shared) = s4 at I4 ⊢
  have st4 : tn 0 s4.heap := by
    rw [← hs4]
    exact T.keep _ _ _ st3 fun b _ o e => pushCells_keeps _ _ _ _ (Heap.get?_push_of_some _ e)
  have pinned : ∀ {σ' : L2.St} {H' : Hp} {s' : Shared}, Inv (X.blk s3 H3 scope ce fp) [] σ' H' s' → (∀ b ∈ fp, H' b = none) → ∀ b ∈ fp, FpOk (X.blk s3 H3 scope ce fp) [] H' b := fun {σ' H' s'} I' hn b hb =>
    ⟨hn b hb, (I'.ok.exf b hb).1, I'.ok.exfs b hb, .inl hb, fun x c e => (I'.ok.exf b hb).2 x c e, fun p hp => absurd (show p ∈ ([] : List (Addr × Obj)) ++ [] from hp) (by simp)⟩
  have loop : codeAny (model X.prog X.w) X.A (.compLoop (.ListComp elt (⟨tg, iter, [], 0⟩ :: rest) scope pos) 0 (.ref it) (.ref D) ce) (compPost (model X.prog X.w) X.A X.xe none (EP X pins σ Q) (.ref D) s3.heap.objs.size) s4 := by
    refine hL _ _ _ _ (fun n s' => ∃ i H', Inv (X.blk s3 H3 scope ce fp) [] (wipe σ (own.map (·.2))) H' s' ∧ tn i s'.heap ∧ (∀ b ∈ fp, H' b = none) ∧ W i n H') ?_ m0 _ ⟨0, H3, I4, st4, fun b hb => (f3 b hb).1.1, w0⟩
    rintro n s5 ⟨i, H5, I5, st5, n5, w5⟩
    rcases turn i n H5 w5 with ⟨stop, qq⟩ | ⟨go, Nx, hNx, step⟩
    · refine thnF (T.done (X.blk s3 H3 scope ce fp) rfl rfl rfl hc i [] s5 _ H5 NoE I5 (pinned I5 n5) st5 stop) fun r s6 ⟨hr, I6⟩ => ?_
      subst hr
      have I7 : Inv X pins σ H5 s6 := I3.call' (ch := fp) I6.os I6.base I6.hok I6.bare fun b hb => ⟨(f3 b hb).1.2.2.2.1, (f3 b hb).1.2.1, (f3 b hb).1.2.2.2.2.1, (f3 b hb).1.2.2.2.2.2⟩
      have free5 : H5 ce.locals = none := I6.free
      obtain ⟨m, hn, _⟩ := I6.loc
      have hn : s6.heap.Ns ce.locals m := hn
      rw [cL] at hn free5
      obtain ⟨f0, f1, _, g3, f4, f5⟩ := I3.fpOk (Nat.le_refl _) free5
      exact ⟨m, hn, fun h'' sb => ⟨.ref D, H5, I7.turned (t' := s6.toks) (fun b o hb e => (sb.2 b hb).trans e) f0 f1 g3 f4 f5, rfl, qq⟩⟩
    · refine thnF (T.item (X.blk s3 H3 scope ce fp) rfl rfl rfl hc i [] s5 _ H5 NoE I5 (pinned I5 n5) st5 go) fun r s6 ⟨u, hr, h6⟩ => ?_
      subst hr
      refine thnF h6 fun _ s7 ⟨x, H7, I7, r7, y7, st7, n7⟩ => ?_
      have I7p := I7.pinned (pinned I7 n7) (T.obj _ _ st7)
      refine thnF (pg.run _ s7 _ H7 x u _ I7p r7 (step x H7 y7)) fun _ s8 ⟨σ8, H8, I8, hw8, q8⟩ => ?_
      refine pp.run _ s8 σ8 H8 Nx _ I8 q8 fun H13 s13 I13 nx => ?_
      obtain ⟨m', hm, w'⟩ := hNx H13 nx
      have pin' : ∀ b ∈ fp, ∀ o, s7.heap.get? b = some o → s13.heap.get? b = some o ∧ H13 b = none := fun b hb o e =>
        let z := I13.pin (b, o) (List.mem_append_right _ (List.mem_append_right _ (mem_pinsAt hb e)))
        ⟨z.1, z.2.1⟩
      refine ⟨m', hm, i + 1, H13, (I13.unpinned (pins := [])).weak ?_ (fun j v e => ?_), T.keep _ _ _ st7 fun b hb o e => (pin' b hb o e).1, fun b hb => ?_, w'⟩
      · have z := congrArg List.length hw8
        rw [wipe_length, wipe_length] at z
        rw [wipe_length, wipe_length]
        exact z.symm
      · rw [← hw8] at e
        obtain ⟨e1, e2⟩ := wipe_some e
        rw [wipe_out fun z => e2 (hv j z)]
        exact e1
      · obtain ⟨o, e, _⟩ := T.obj _ _ st7 b hb
        exact (pin' b hb o e).2
  exact codeAny_compStart_list loop (T.self X.A 0 _ _ _ st4 loop)
/-- three clauses -/
theorem pe_sc3 {elt t0 i0 t1 i1 t2 i2 : Expr} {scope : Scope} {own : List (Str × Nat)} {v1 v2 : List Nat} {pos : Pos} {w0 w1 w2 : TI} {g0 g1 g2 : TG} {te : TE} (hc : X.calm = true) (hN : X.N.Nodup) (ok : BlkOk X.N X.env.scope scope own) (hv1 : ∀ i ∈ v1, i ∈ own.map (·.2)) (hv2 : ∀ i ∈ v2, i ∈ v1)
    (hi0 : PI X t0 i0 w0) (hg0 : InBlk X scope fun Y => PG Y t0 g0) (hi1 : InBlk X scope fun Y => PI Y t1 i1 w1) (hg1 : InBlk X scope fun Y => PG Y t1 g1) (hi2 : InBlk X scope fun Y => PI Y t2 i2 w2) (hg2 : InBlk X scope fun Y => PG Y t2 g2) (he : InBlk X scope fun Y => PE Y elt te)
    (hs : ∀ x, foldedSetIterable i0 X.env x = pure x := by intro _; rfl) (hs1 : ∀ env x, foldedSetIterable i1 env x = pure x := by intro _ _; rfl) (hs2 : ∀ env x, foldedSetIterable i2 env x = pure x := by intro _ _; rfl) :
    PE X (sc3 elt t0 i0 t1 i1 t2 i2 scope pos) (tScN X.prog X.w w0 g0 (fun D => tMid w1 g1 (tMid w2 g2 (tAddS X.prog X.w D te) v2) v1) (own.map (·.2))) := by
  refine pe_scN hc hN hi0 ok hv1 hg0 (fun D s H C cl fp => ?_) (sc3_l0 hs1) hs
  refine part_mid rfl hc hv2 (hi1 s H C cl fp) (hg1 s H C cl fp) ?_ (sc3_l1 hs2) sc3_s1
  exact part_mid rfl hc (fun _ h => absurd h List.not_mem_nil) (hi2 s H C cl fp) (hg2 s H C cl fp) (part_addS rfl (he s H C cl fp)) sc3_l2 sc3_s2
theorem pe_lc3 {elt t0 i0 t1 i1 t2 i2 : Expr} {scope : Scope} {own : List (Str × Nat)} {v1 v2 : List Nat} {pos : Pos} {w0 w1 w2 : TI} {g0 g1 g2 : TG} {te : TE} (hc : X.calm = true) (hN : X.N.Nodup) (ok : BlkOk X.N X.env.scope scope own) (hv1 : ∀ i ∈ v1, i ∈ own.map (·.2)) (hv2 : ∀ i ∈ v2, i ∈ v1)
    (hi0 : PI X t0 i0 w0) (hg0 : InBlk X scope fun Y => PG Y t0 g0) (hi1 : InBlk X scope fun Y => PI Y t1 i1 w1) (hg1 : InBlk X scope fun Y => PG Y t1 g1) (hi2 : InBlk X scope fun Y => PI Y t2 i2 w2) (hg2 : InBlk X scope fun Y => PG Y t2 g2) (he : InBlk X scope fun Y => PE Y elt te)
    (hs : ∀ x, foldedSetIterable i0 X.env x = pure x := by intro _; rfl) (hs1 : ∀ env x, foldedSetIterable i1 env x = pure x := by intro _ _; rfl) (hs2 : ∀ env x, foldedSetIterable i2 env x = pure x := by intro _ _; rfl) :
    PE X (lc3 elt t0 i0 t1 i1 t2 i2 scope pos) (tLcN w0 g0 (fun D => tMid w1 g1 (tMid w2 g2 (tAddL D te) v2) v1) (own.map (·.2))) := by
  refine pe_lcN hc hN hi0 ok hv1 hg0 (fun D s H C cl fp => ?_) (lc3_l0 hs1) hs
  refine part_mid rfl hc hv2 (hi1 s H C cl fp) (hg1 s H C cl fp) ?_ (lc3_l1 hs2) lc3_s1
  exact part_mid rfl hc (fun _ h => absurd h List.not_mem_nil) (hi2 s H C cl fp) (hg2 s H C cl fp) (part_addL rfl (he s H C cl fp)) lc3_l2 lc3_s2
end
end L2

set_option Elab.async false
set_option linter.all false
set_option maxRecDepth 100000
set_option maxHeartbeats 1000000
/-! rows without forms: what is said of heaps, tests, powers -/
namespace L2
open PySem PySem.Spec PyProof.Rows
theorem iteD {p : Prop} [Decidable p] {A B : Prop} (h1 : p → A) (h2 : ¬ p → B) : if decide p = true then A else B := by
  by_cases h : p
  · rw [if_pos (decide_eq_true h)]; exact h1 h
  · rw [if_neg (by simpa using h)]; exact h2 h
theorem ifT {b : Bool} {A B : Prop} (h : b = true) (x : A) : if b = true then A else B := by rw [if_pos h]; exact x
theorem ifF {b : Bool} {A B : Prop} (h : b = false) (x : B) : if b = true then A else B := by rw [if_neg (by rw [h]; exact Bool.false_ne_true)]; exact x
def CPowX (i j : Int) : Prop := 0 ≤ j ∧ (Builtin.Int.intBits i : Int) * j ≤ 2 ^ 27
theorem op_powX {X : Cx} : OpR X (binaryOp .Pow) (rI CPowX fun i j => .int (i ^ j.toNat)) := opI fun _ _ _ _ _ _ _ hc q => pow_int hc.1 hc.2 q
/-- all but D as it was -/
def SameB (D : Addr) (H H' : Hp) : Prop := ∀ b o, b ≠ D → H b = some o → H' b = some o
theorem SameB.refl (D : Addr) (H : Hp) : SameB D H H := fun _ _ _ h => h
theorem SameB.to {D : Addr} {H H1 H2 : Hp} (S : SameB D H H1) (T : Same H1 H2) : SameB D H H2 := fun b o n h => T b o (S b o n h)
theorem SameB.trans {D : Addr} {H H1 H2 : Hp} (S : SameB D H H1) (T : SameB D H1 H2) : SameB D H H2 := fun b o n h => T b o n (S b o n h)
theorem SameB.upd {D : Addr} {H H1 : Hp} {o : HO} (S : SameB D H H1) : SameB D H (L2.upd H1 D o) := fun b u n h => by rw [upd_ne n]; exact S b u n h
theorem SqL.same {K : PySem.W.Frag} {H H' : Hp} {a : Addr} {xs : List V} (h : SqL K H a xs) (S : Same H H') : SqL K H' a xs := by
  rcases h with (h | ⟨o, h⟩) | h
  · exact .inl (.inl (S _ _ h))
  · exact .inl (.inr ⟨o, S _ _ h⟩)
  · exact .inr h
theorem SqL.sameB {K : PySem.W.Frag} {D : Addr} {H H' : Hp} {a : Addr} {xs : List V} (h : SqL K H a xs) (S : SameB D H H') (n : a ≠ D) : SqL K H' a xs := by
  rcases h with (h | ⟨o, h⟩) | h
  · exact .inl (.inl (S _ _ n h))
  · exact .inl (.inr ⟨o, S _ _ n h⟩)
  · exact .inr h
theorem seq_asg {te : TE} {i : Nat} {u : TS} {D : Ends} {σ : St} {H : Hp} (h : te σ H fun x H1 => u D (σ.set i (some x)) H1) : tSeq (tAsg te (gName i)) u D σ H := h
theorem te_mid {t : TE} {σ : St} {H : Hp} {Q : VK} (G : V → Hp → Prop) (h : ∀ R : VK, (∀ x H', G x H' → R x H') → t σ H R) (k : ∀ x H', G x H' → Q x H') : t σ H Q := h Q k
theorem ts_mid {t u : TS} {D : Ends} {σ : St} {H : Hp} (G : St → Hp → Prop) (h : ∀ N : St → Hp → Prop, (∀ σ' H', G σ' H' → N σ' H') → t { D with nx := N } σ H) (k : ∀ σ' H', G σ' H' → u D σ' H') : tSeq t u D σ H := h _ k
theorem cut_ints (ns : List Int) (lo hi : Option Int) : ∃ ms : List Int, cutV (ns.map V.int) lo hi = ms.map V.int :=
  ⟨(ns.drop (HT.sIx (ns.map V.int).length 0 lo)).take (HT.sIx (ns.map V.int).length (ns.map V.int).length hi - HT.sIx (ns.map V.int).length 0 lo), by unfold cutV; rw [← List.map_drop, ← List.map_take]⟩
end L2

set_option Elab.async false
set_option linter.all false
set_option maxRecDepth 100000
set_option maxHeartbeats 1000000
/-! tuples whose object is known to have no dict: made, and called by their methods -/
namespace L2
open PySem PySem.Spec PyProof.Rows
/-- a tuple that this program made: its object bears no dict -/
def TupN (H : Hp) (q : Addr) (xs : List V) : Prop := ∃ o : Obj, H q = some (.frz o (.tup xs)) ∧ o.dict = none
theorem TupN.sq {K : PySem.W.Frag} {H : Hp} {q : Addr} {xs : List V} (h : TupN H q xs) : SqT K H q xs := let ⟨o, h1, _⟩ := h; .inl (.inr ⟨o, h1⟩)
theorem TupN.same {H H' : Hp} {q : Addr} {xs : List V} (h : TupN H q xs) (S : Same H H') : TupN H' q xs := let ⟨o, h1, h2⟩ := h; ⟨o, S _ _ h1, h2⟩
theorem TupN.sameB {D : Addr} {H H' : Hp} {q : Addr} {xs : List V} (h : TupN H q xs) (S : SameB D H H') (n : q ≠ D) : TupN H' q xs := let ⟨o, h1, h2⟩ := h; ⟨o, S _ _ n h1, h2⟩
/-- a new one, all else as it was -/
def NewN (H : Hp) (xs : List V) (Q : VK) : Prop := ∀ p H', Same H H' → H p = none → TupN H' p xs → Q (.ref p) H'
theorem tupN_laid {X : Cx} {pins : List (Addr × Obj)} {σ : St} {H : Hp} {s : Shared} {xs : List V} {its : List Value} (I : Inv X pins σ H s) (rv : Vals xs its) (hz : xs.length ≤ sizeLine) : 
    Inv X pins σ (upd H s.heap.objs.size (.frz { cls := .type "tuple", data := .seq its.toArray } (.tup xs))) { s with heap := s.heap.push { cls := .type "tuple", data := .seq its.toArray } } :=
  I.laid (t' := s.toks) (fun _ _ e => Heap.get?_push_of_some _ e) (Nat.le_refl _) ⟨Heap.get?_push_size _ rfl, hz, its, rv, IsTup.new _ _⟩
/-- tuple(xs), xs a list -/
def rTupN (K : PySem.W.Frag) : List V → Hp → VK → Prop := fun vs H Q => ∃ p ys, vs = [.ref p] ∧ SqL K H p ys ∧ NewN H ys Q
theorem cr_tupN {X : Cx} : CallR X (.type "tuple") (rTupN X.K) := by
  intro pins s σ H vs us Q I r h
  obtain ⟨p, ys, rfl, hs, q⟩ := h
  rw [Vals.ref1 r]
  obtain ⟨its, rv, pl, hz⟩ := I.list hs
  have ln := rv.length
  refine call_tuple_list pl.isList (fun h' kp => ?_) (by rw [List.size_toArray]; omega)
  have I1 : Inv X pins σ H { s with heap := h' } := I.kept (t' := s.toks) kp
  have n1 : H h'.objs.size = none := I1.hok.fresh (Nat.le_refl _)
  exact ⟨.ref h'.objs.size, _, tupN_laid I1 rv hz, rfl, q _ _ (Same.upd n1) n1 ⟨_, upd_same, rfl⟩⟩
section
variable {X : Cx} {o e : Expr} {es : List Expr} {to : TE} {t : TA} {name : Str} {apos cpos : Pos} {id : String} {r : V → List V → Hp → VK → Prop}
end
end L2

set_option Elab.async false
set_option linter.all false
set_option maxRecDepth 100000
set_option maxHeartbeats 1000000
/-! dicts whose keys are such tuples: found, stored, made -/
namespace L2
open PySem PySem.Spec PyProof.Rows
abbrev KAV := List (List Key × Addr × Value)
def DnR (P : Program) (w : World) (h : Heap) (d : Addr) (xs : KAV) : Prop := xs.length ≤ sizeLine ∧ (d == sysModules) = false ∧ (xs.map (·.1)).Nodup ∧
  ∃ o es ep, h.get? d = some o ∧ o.ExactDict ∧ o.data = .dict es ep ∧ es.toList = xs.map (entryOfKey (tupleKind (mixKind P w)))
/-- such a dict at d -/
def DnO (P : Program) (w : World) (d : Addr) (xs : KAV) : HO := .ext fun h => DnR P w h d xs
theorem DnR.at {P : Program} {w : World} {h h' : Heap} {d : Addr} {xs : KAV} (R : DnR P w h d xs) (k : ∀ o, h.get? d = some o → h'.get? d = some o) : DnR P w h' d xs :=
  let ⟨a, b, c, o, es, ep, e1, e2⟩ := R
  ⟨a, b, c, o, es, ep, k _ e1, e2⟩
theorem dn_ok {P : Program} {w : World} {H : Hp} {h : Heap} {d : Addr} {xs : KAV} (R : DnR P w h d xs) : ObjOk P w H h d (DnO P w d xs) :=
  ⟨R, let ⟨_, _, _, o, _, _, e, _⟩ := R; ⟨o, e⟩, fun _ _ r k => r.at k⟩
/-- the keys stand as tuples without a dict of their own -/
def KeysN (H : Hp) (xs : KAV) : Prop := ∀ x ∈ xs, TupN H x.2.1 (x.1.map kV)
theorem KeysN.same {H H' : Hp} {xs : KAV} (h : KeysN H xs) (S : Same H H') : KeysN H' xs := fun x hx => (h x hx).same S
section
variable {X : Cx} {pins : List (Addr × Obj)} {σ : St} {H : Hp} {s : Shared} {d b : Addr} {xs : KAV} {k : List Key}
theorem dn_get (I : Inv X pins σ H s) (e : Rd H d (DnO X.prog X.w d xs)) : DnR X.prog X.w s.heap d xs := by
  rcases e with e | ⟨o, e⟩
  · exact (I.hok d _ e).1
  · exact (I.hok d _ e).2.1
theorem key_N (I : Inv X pins σ H s) (h : SqT X.K H b (k.map kV)) : (tupleKind (mixKind X.prog X.w)).is s.heap k b := by
  obtain ⟨its, rv, ⟨o, h1, h2, n, h3⟩, _⟩ := I.tuple h
  exact ⟨o, its.toArray, n, h1, h2, h3, by simpa using items_are rv⟩
theorem dn_of (I : Inv X pins σ H s) (e : Rd H d (DnO X.prog X.w d xs)) (ks : KeysN H xs) : s.heap.DictOfH (tupleKind (mixKind X.prog X.w)) d xs := by
  obtain ⟨_, _, nd, o, es, ep, h1, h2, h3, h4⟩ := dn_get I e
  exact ⟨o, es, ep, h1, h2, h3, h4, fun x hx => key_N I (ks x hx).sq, nd⟩
end
section
variable {X : Cx}
def rDnGet (X : Cx) : R2 := fun x y H Q => ∃ (d : Addr) (xs : KAV) (b : Addr) (k : List Key) (p : Addr × Value) (v : V), x = .ref d ∧ y = .ref b ∧ Rd H d (DnO X.prog X.w d xs) ∧ KeysN H xs ∧ SqT X.K H b (k.map kV) ∧ atKey xs k = some p ∧ RelV v p.2 ∧ Q v H
theorem ix_dn (hu : X.A.units + 1 < cLine) : IxR X (rDnGet X) := by
  intro value slice pins s σ H x y v u Q I rx ry h hs
  obtain ⟨d, xs, b, k, p, z, rfl, rfl, e, ks, sb, hp, rz, q⟩ := h
  obtain rfl : v = Value.ref d := rx
  obtain rfl : u = Value.ref b := ry
  have dd := dn_of I e ks
  exact tail_any dd.typeIs slot_dict_getitem.lookup (wpAny_getItem_heap (tupleKind_room_in1 hu) (key_N I sb) dd hp ⟨z, H, I.tok _, rz, q⟩) hs
def rDnPut (X : Cx) : TSet := fun o i v H Q => ∃ (d : Addr) (xs : KAV) (b a : Addr) (k : List Key), o = .ref d ∧ i = .ref b ∧ v = .ref a ∧ H d = some (DnO X.prog X.w d xs) ∧ KeysN H xs ∧ SqT X.K H b (k.map kV) ∧ xs.length < sizeLine ∧ Q (upd H d (DnO X.prog X.w d (storedH xs k b (.ref a))))
theorem set_dn (hu : X.A.units + 1 < cLine) : PSet X (rDnPut X) := by
  intro pins s σ H o i v ov iv u Q I ro ri rv h
  obtain ⟨d, xs, b, a, k, rfl, rfl, rfl, e, ks, sb, hl, q⟩ := h
  obtain rfl : ov = Value.ref d := ro
  obtain rfl : iv = Value.ref b := ri
  obtain rfl : u = Value.ref a := rv
  have dd := dn_of I (.inl e) ks
  obtain ⟨hz, hm, _⟩ := dn_get I (.inl e)
  refine wpAny_setItem_heap (hsz := hz) (tupleKind_room_in1 hu) (key_N I sb) dd fun h' dd' hs => ⟨_, ?_, q⟩
  obtain ⟨o', es, ep, h1, h2, h3, h4, _, h5⟩ := dd'
  have ln : (storedH xs k b (Value.ref a)).length ≤ sizeLine := by
    unfold storedH
    split
    · rw [List.length_map]; exact hz
    · rw [List.length_append]; exact hl
  exact d_write I (by rw [e]; exact True.intro) hs ⟨o', h1⟩ (dn_ok ⟨ln, hm, h5, o', es, ep, h1, h2, h3, h4⟩)
end
end L2

set_option Elab.async false
set_option linter.all false
set_option maxRecDepth 100000
set_option maxHeartbeats 2000000
/-! for .. in d, d.values(), d.items(): d a dict whose keys are tuples without a dict of their own -/
namespace L2
open PySem PySem.Spec PyProof.Rows
/-- keys, their places, the places of the values -/
abbrev NAV := List (List Key × Addr × Addr)
def toV (x : List Key × Addr × Addr) : List Key × Addr × Value := (x.1, x.2.1, Value.ref x.2.2)
def DfO (P : Program) (w : World) (d : Addr) (l : NAV) : HO := DnO P w d (l.map toV)
section
variable {X : Cx} {pins : List (Addr × Obj)} {σ : St} {H : Hp} {s : Shared} {d : Addr} {o : Obj} {l : NAV}
theorem Inv.frzN (I : Inv X pins σ H s) (h : H d = some (.frz o (DfO X.prog X.w d l))) :
    (d == sysModules) = false ∧ s.heap.get? d = some o ∧ o.ExactDict ∧ ∃ (es : Array DictEntry) (ep : Nat), o.data = .dict es ep ∧ s.heap.DictRaw d es ep ∧ es.size = l.length ∧
      ∀ (i : Nat) (k : List Key) (q a : Addr) (hi : i < es.size), l[i]? = some (k, q, a) → es[i].key = .ref q ∧ es[i].val = .ref a := by
  obtain ⟨hd, ⟨_, hs, _, o', es, ep, ho, hx, hdt, he⟩, _⟩ := I.hok d _ h
  rw [hd] at ho
  cases ho
  have l1 := size_of_entries he
  rw [List.length_map] at l1
  refine ⟨hs, hd, hx, es, ep, hdt, ⟨o, hd, hx, hdt⟩, l1, fun i k q a hi e => ?_⟩
  have z := entry_at he i
  rw [List.getElem?_map, e, Array.getElem?_eq_getElem hi] at z
  have z2 := Option.some.inj z
  rw [z2]
  exact ⟨rfl, rfl⟩
end
def ItkN (P : Program) (w : World) (d : Addr) (o : Obj) (l : NAV) : It :=
  ⟨fun i H => H d = some (.frz o (DfO P w d l)) ∧ i < l.length, fun i H x H' => H' = H ∧ ∃ k q a, l[i]? = some (k, q, a) ∧ x = .ref q, fun i H => H d = some (.frz o (DfO P w d l)) ∧ l.length ≤ i⟩
def ItiN (P : Program) (w : World) (d : Addr) (o : Obj) (l : NAV) : It :=
  ⟨fun i H => H d = some (.frz o (DfO P w d l)) ∧ i < l.length, fun i H x H' => ∃ T k q a, l[i]? = some (k, q, a) ∧ x = .ref T ∧ H T = none ∧ H' = upd H T (.tup [.ref q, .ref a]), fun i H => H d = some (.frz o (DfO P w d l)) ∧ l.length ≤ i⟩
section
variable {P : Program} {w : World} {K : PySem.W.Frag} {tg : Expr} {d : Addr} {o : Obj} {es : Array DictEntry} {ep : Nat} {l : NAV}
theorem turn_keysN (it : Addr) (hod : o.data = .dict es ep) : Turn P w K tg (ItkN P w d o l) [it] it (fun i h => h.IsKeyIter it d i l.length ep) where
  mem := by simp
  obj := fun i h st b hb => by
    obtain rfl : b = it := by simpa using hb
    obtain ⟨oi, e, c, dd⟩ := st
    exact ⟨oi, e, fun v z => by rw [dd] at z; cases z⟩
  keep := fun i h h' st k => st.at fun oi e => k it (by simp) oi e
  item := by
    intro X hP hw hK hc i pins s σ H E I hf st hg
    subst hP hw hK
    obtain ⟨hd, hi⟩ := hg
    obtain ⟨f0, f1, f2, f3, f4, f5⟩ := hf it (by simp)
    obtain ⟨hs, hgd, hx, es', ep', hdt, raw, hsz, ent⟩ := I.frzN hd
    obtain ⟨rfl, rfl⟩ := dict_ep hod hdt
    obtain ⟨⟨k, q, a⟩, hkv⟩ : ∃ p, l[i]? = some p := ⟨l[i], List.getElem?_eq_getElem hi⟩
    have hi' : i < es'.size := by omega
    obtain ⟨ek, ev⟩ := ent i k q a hi' hkv
    refine next_key_item st hgd hdt hsz (Array.getElem?_eq_getElem hi') fun h' st' sb => ?_
    have I1 : Inv X pins σ H { s with heap := h' } := I.turned (t' := s.toks) (fun b ob hb e => (sb.2 b hb).trans e) f0 f1 f3 f4 f5
    obtain ⟨oi, e, c, dd⟩ := id st'
    exact ⟨es'[i].key, rfl, go_of (s := { s with heap := h' }) e c dd (by decide) ⟨.ref q, H, I1, ek, ⟨rfl, k, q, a, hkv, rfl⟩, st', fun b hb => (hf b hb).1⟩⟩
  done := by
    intro X hP hw hK hc i pins s σ H E I hf st hg
    subst hP hw hK
    obtain ⟨hd, hi⟩ := hg
    obtain ⟨f0, f1, f2, f3, f4, f5⟩ := hf it (by simp)
    obtain ⟨hs, hgd, hx, es', ep', hdt, raw, hsz, ent⟩ := I.frzN hd
    obtain ⟨rfl, rfl⟩ := dict_ep hod hdt
    exact next_key_end (I.ok.hd hc) st hgd hdt hsz hi fun h' eb => ⟨rfl, I.turned (t' := s.toks) (fun b ob hb e => eb b ob hb e) f0 f1 f3 f4 f5⟩
  self := fun A i s Q E st h => by
    refine wpAny_pyIter_slot st.typeIs F.slot_dict_keyiterator_iter (wpAny_call_entry F.slot_dict_keyiterator_iter st.typeIs F.entry_dict_keyiterator_iter ?_ (F.args_dict_keyiterator_iter_1 _))
    exact wpAny_pure ⟨_, rfl, "dict_keyiterator", _, st.typeIs, F.slot_dict_keyiterator_next.lookup, h⟩
theorem turn_itemsN {elts : List Expr} {kk : Nat} {tpos : Pos} (it : Addr) (hod : o.data = .dict es ep) :
    Turn P w K (.Tuple elts kk tpos) (ItiN P w d o l) [it] it (fun i h => ∃ ok ov, IsItemIter h it d i l.length ep ok ov) where
  mem := by simp
  obj := fun i h st b hb => by
    obtain rfl : b = it := by simpa using hb
    obtain ⟨ok, ov, e⟩ := st
    exact ⟨_, e, fun v z => nomatch z⟩
  keep := fun i h h' st k => let ⟨ok, ov, e⟩ := st; ⟨ok, ov, k it (by simp) _ e⟩
  item := by
    intro X hP hw hK hc i pins s σ H E I hf st hg
    subst hP hw hK
    obtain ⟨hd, hi⟩ := hg
    obtain ⟨hs, hgd, hx, es', ep', hdt, raw, hsz, ent⟩ := I.frzN hd
    obtain ⟨rfl, rfl⟩ := dict_ep hod hdt
    obtain ⟨⟨k, q, a⟩, hkv⟩ : ∃ p, l[i]? = some p := ⟨l[i], List.getElem?_eq_getElem hi⟩
    have hi' : i < es'.size := by omega
    obtain ⟨ek, ev⟩ := ent i k q a hi' hkv
    obtain ⟨ok, ov, he⟩ := st
    rw [← hsz] at he
    have hlt : it < s.heap.objs.size := Heap.lt_size he
    refine wpAny_pyNext_items_item_raw he raw hi' fun h' ho hT hz hk => ?_
    refine ⟨_, rfl, wpAny_letOwnedTupleGo_items (s := { s with heap := h' }) ho fun h'' he' sb => ?_⟩
    have hT2 : h''.get? s.heap.objs.size = some { cls := .type "tuple", data := .seq #[.ref q, .ref a] } := by rw [← ek, ← ev]; exact (sb.2 _ (Nat.ne_of_gt hlt)).trans hT
    have new : ObjOk X.prog X.w (upd H s.heap.objs.size (.tup [.ref q, .ref a])) h'' s.heap.objs.size (.tup [.ref q, .ref a]) :=
      ⟨by show 2 ≤ sizeLine; decide, [.ref q, .ref a], .cons rfl (.cons rfl .nil), ⟨_, hT2, rfl, _, rfl⟩⟩
    have I1 : Inv X pins σ (upd H s.heap.objs.size (.tup [.ref q, .ref a])) { s with heap := h'' } :=
      I.turnedNew (t' := s.toks) (ch := [it]) (fun b ob hb e => (sb.2 b (by simpa using hb)).trans (hk b ob (by simpa using hb) e)) hf (Nat.le_refl _) new
    refine ⟨.ref s.heap.objs.size, _, I1, rfl, ⟨_, k, q, a, hkv, rfl, I.hok.fresh (Nat.le_refl _), rfl⟩, ⟨es'[i].key, es'[i].val, ?_⟩, fun b hb => ?_⟩
    · rw [← hsz]; exact he'
    · have e : b = it := by simpa using hb
      rw [e, upd_ne (Nat.ne_of_lt hlt)]
      exact (hf it (by simp)).1
  done := by
    intro X hP hw hK hc i pins s σ H E I hf st hg
    subst hP hw hK
    obtain ⟨hd, hi⟩ := hg
    obtain ⟨f0, f1, f2, f3, f4, f5⟩ := hf it (by simp)
    obtain ⟨hs, hgd, hx, es', ep', hdt, raw, hsz, ent⟩ := I.frzN hd
    obtain ⟨rfl, rfl⟩ := dict_ep hod hdt
    obtain ⟨ok, ov, he⟩ := st
    rw [← hsz] at he hi
    exact wpAny_pyNext_items_end_raw (I.ok.hd hc) he raw hi fun h' eb => ⟨rfl, I.turned (t' := s.toks) (fun b ob hb e => eb b ob hb e) f0 f1 f3 f4 f5⟩
  self := fun A i s Q E st h => let ⟨_, _, e⟩ := st; PySem.W.kcp_self e h
end
def iKeysN (P : Program) (w : World) (td : TE) : TI := fun σ H R => td σ H fun x H1 => ∃ d o l, x = .ref d ∧ H1 d = some (.frz o (DfO P w d l)) ∧ R (ItkN P w d o l) H1
def iItemsN (P : Program) (w : World) (td : TE) : TI := fun σ H R => td σ H fun x H1 => ∃ d o l, x = .ref d ∧ H1 d = some (.frz o (DfO P w d l)) ∧ R (ItiN P w d o l) H1
section
variable {X : Cx} {tg e : Expr} {td : TE} {apos cpos : Pos}
theorem noDict_raw {s : Shared} {d : Addr} {es : Array DictEntry} {ep : Nat} (x : s.heap.DictRaw d es ep) : ∀ a : Addr, Value.ref d = Value.ref a → ∃ ob, s.heap.get? a = some ob ∧ ob.dict = none := by
  obtain ⟨o, h, c, _⟩ := x
  intro a e
  cases e
  exact ⟨o, h, c.2.1⟩
theorem pi_keysN (he : PE X e td) : PI X tg e (iKeysN X.prog X.w td) := by
  refine ⟨fun pins s σ H R I h => thn (he.run pins s σ H _ I h) fun u s1 hh => ?_⟩
  obtain ⟨x, H1, I1, rx, d, o, l, rfl, hd, q⟩ := hh
  obtain rfl : u = Value.ref d := rx
  obtain ⟨hs, hgd, hx, es, ep, hdt, raw, hsz, ent⟩ := I1.frzN hd
  refine iter_keys hs hgd hx hdt (pi_one (tk := s1.toks) I1 _ (turn_keysN _ hdt) ⟨_, Heap.get?_push_size _ rfl, rfl, ?_⟩ q)
  rw [hsz] <;> rfl
theorem pi_itemsN {elts : List Expr} {kk : Nat} {tpos : Pos} (he : PE X e td) (hbase : attributeBase e "items" X.env (eval e X.env) = eval e X.env := by rfl) (hline : (apos.endLine == cpos.line) = true := by rfl) :
    PI X (.Tuple elts kk tpos) (.Call (.Attribute e "items" apos) [] [] cpos) (iItemsN X.prog X.w td) := by
  refine ⟨fun pins s σ H R I h => wpAny_Call_method (T := "dict") (id := "dict.items") hbase rfl hline F.plainAttrs_dict F.slot_dict_items F.type_dict_items (thn (he.run pins s σ H _ I h) fun u s1 hh => ?_)⟩
  obtain ⟨x, H1, I1, rx, d, o, l, rfl, hd, q⟩ := hh
  obtain rfl : u = Value.ref d := rx
  obtain ⟨hs, hgd, hx, es, ep, hdt, raw, hsz, ent⟩ := I1.frzN hd
  refine ⟨raw.typeIs, noDict_raw raw, ?_⟩
  have I2 : Inv X pins σ H1 { s1 with heap := s1.heap.push { cls := .type "dict_items", data := .fields #[.ref d] } } := I1.kept (t' := s1.toks) fun b ob q => Heap.get?_push_of_some _ q
  have fin : wpAny (model X.prog X.w) X.A (pyIter (.ref s1.heap.objs.size)) (PIE X pins σ (.Tuple elts kk tpos) R) X.xe { s1 with heap := s1.heap.push { cls := .type "dict_items", data := .fields #[.ref d] } } := by
    refine wpAny_pyIter_items_raw (d := d) ⟨_, Heap.get?_push_size _ rfl, rfl, rfl⟩ (raw.at fun _ e => Heap.get?_push_of_some _ e) (pi_one (tk := s1.toks) I2 _ (turn_itemsN _ hdt) ⟨.none, .none, ?_⟩ q)
    rw [← hsz]
    exact Heap.get?_push_size _ rfl
  show wpAny _ _ (callWith cpos (.builtin "dict.items") [.ref d] [] []) _ X.xe s1
  exact method_meetsIn F.slot_dict_items F.entry_dict_items rfl (PySem.evalArgs_none ⟨rfl, raw.typeIs, F.args_dict_items_1 _, _, meets_dict_items_raw d hs, ⟨es, ep, raw⟩, fin⟩)
end
section
variable {P : Program} {w : World} {d : Addr} {o : Obj} {l : NAV}
theorem walk_keysN : Walk (ItkN P w d o l) l.length (fun H => H d = some (.frz o (DfO P w d l))) (fun i H x H' => H' = H ∧ ∃ k q a, l[i]? = some (k, q, a) ∧ x = .ref q) :=
  ⟨fun _ _ hi q => ⟨q, hi⟩, fun _ q => ⟨q, Nat.le_refl _⟩, fun _ _ _ _ _ _ y => y⟩
theorem walk_itemsN : Walk (ItiN P w d o l) l.length (fun H => H d = some (.frz o (DfO P w d l)))
    (fun i H x H' => ∃ T k q a, l[i]? = some (k, q, a) ∧ x = .ref T ∧ H T = none ∧ H' = upd H T (.tup [.ref q, .ref a])) :=
  ⟨fun _ _ hi q => ⟨q, hi⟩, fun _ q => ⟨q, Nat.le_refl _⟩, fun _ _ _ _ _ _ y => y⟩
end
end L2

set_option Elab.async false
set_option linter.all false
set_option maxRecDepth 100000
set_option maxHeartbeats 1000000
/-! such dicts: d[k], d.get(k, x), d[k] = v, {} -/
namespace L2
open PySem PySem.Spec PyProof.Rows
def findN (l : NAV) (k : List Key) : Option (Addr × Addr) := (l.find? fun x => decide (x.1 = k)).map (·.2)
def putN (l : NAV) (k : List Key) (b a : Addr) : NAV := if (findN l k).isSome = true then l.map (fun x => if x.1 = k then (x.1, x.2.1, a) else x) else l ++ [(k, b, a)]
theorem atKey_toV (l : NAV) (k : List Key) : atKey (l.map toV) k = (findN l k).map fun p => (p.1, Value.ref p.2) := by
  unfold atKey findN
  induction l with
  | nil => rfl
  | cons x r ih =>
    rw [List.map_cons, List.find?_cons, List.find?_cons]
    by_cases c : x.1 = k
    · rw [decide_eq_true c, decide_eq_true (show (toV x).1 = k from c)]
      rfl
    · rw [decide_eq_false c, decide_eq_false (show ¬ (toV x).1 = k from c)]
      exact ih
theorem storedH_toV (l : NAV) (k : List Key) (b a : Addr) : storedH (l.map toV) k b (.ref a) = (putN l k b a).map toV := by
  unfold storedH putN
  rw [atKey_toV, Option.isSome_map]
  by_cases c : (findN l k).isSome = true
  · rw [if_pos c, if_pos c, List.map_map, List.map_map]
    refine List.map_congr_left fun x _ => ?_
    show putAt k (Value.ref a) (toV x) = toV (if x.1 = k then (x.1, x.2.1, a) else x)
    unfold putAt
    by_cases e : x.1 = k
    · rw [if_pos e, if_pos (show (toV x).1 = k from e)]
      rfl
    · rw [if_neg e, if_neg (show ¬ (toV x).1 = k from e)]
  · rw [if_neg c, if_neg c, List.map_append]
    rfl
/-- the keys stand -/
def KeysD (H : Hp) (l : NAV) : Prop := ∀ x ∈ l, TupN H x.2.1 (x.1.map kV)
theorem KeysD.same {H H' : Hp} {l : NAV} (h : KeysD H l) (S : Same H H') : KeysD H' l := fun x hx => (h x hx).same S
theorem KeysD.sameB {D : Addr} {H H' : Hp} {l : NAV} {P : Program} {w : World} {m : KAV} (h : KeysD H l) (S : SameB D H H') (hD : H D = some (DnO P w D m)) : KeysD H' l := fun x hx => (h x hx).sameB S fun e => by
  obtain ⟨o, h1, _⟩ := h x hx
  rw [e, hD] at h1
  cases h1
theorem KeysD.toN {H : Hp} {l : NAV} (h : KeysD H l) : KeysN H (l.map toV) := fun x hx => by
  obtain ⟨y, hy, rfl⟩ := List.mem_map.mp hx
  exact h y hy
theorem KeysD.put {H : Hp} {l : NAV} {k : List Key} {b a : Addr} (h : KeysD H l) (hb : TupN H b (k.map kV)) : KeysD H (putN l k b a) := by
  unfold putN
  split
  · intro x hx
    obtain ⟨y, hy, rfl⟩ := List.mem_map.mp hx
    by_cases e : y.1 = k
    · rw [if_pos e]; exact h y hy
    · rw [if_neg e]; exact h y hy
  · intro x hx
    rcases List.mem_append.mp hx with hx | hx
    · exact h x hx
    · rw [List.mem_singleton.mp hx]; exact hb
/-- what the dict at d holds at y -/
def GetN (P : Program) (w : World) (K : PySem.W.Frag) (H : Hp) (d : Addr) (y : V) (r : Option Addr) : Prop := ∃ (l : NAV) (b : Addr) (k : List Key), Rd H d (DfO P w d l) ∧ KeysD H l ∧ y = .ref b ∧ SqT K H b (k.map kV) ∧ r = (findN l k).map (·.2)
def orV (r : Option Addr) (z : V) : V := match r with
  | some a => .ref a
  | none => z
def rDf (P : Program) (w : World) (K : PySem.W.Frag) : R2 := fun x y H Q => ∃ (d a : Addr), x = .ref d ∧ GetN P w K H d y (some a) ∧ Q (.ref a) H
def rDfPut (X : Cx) : TSet := fun o i v H Q => ∃ (d b a : Addr) (l : NAV) (k : List Key), o = .ref d ∧ i = .ref b ∧ v = .ref a ∧ H d = some (DfO X.prog X.w d l) ∧ KeysD H l ∧ SqT X.K H b (k.map kV) ∧ l.length < sizeLine ∧ Q (upd H d (DfO X.prog X.w d (putN l k b a)))
def tGet2N (X : Cx) (td ty tx : TE) : TE := fun σ H Q => td σ H fun x H1 => ∃ (d : Addr) (m : NAV), x = .ref d ∧ Rd H1 d (DfO X.prog X.w d m) ∧ ty σ H1 fun y H2 => tx σ H2 fun z H3 => ∃ r, GetN X.prog X.w X.K H3 d y r ∧ Q (orV r z) H3
section
variable {X : Cx} {o e f : Expr} {apos cpos pos : Pos} {td ty tx : TE}
theorem ix_df (hu : X.A.units + 1 < cLine) : IxR X (rDf X.prog X.w X.K) := by
  intro value slice pins s σ H x y v u Q I rx ry h hs
  obtain ⟨d, a, rfl, ⟨l, b, k, hd, ks, rfl, sb, hr⟩, q⟩ := h
  obtain ⟨p, hp, rfl⟩ := Option.map_eq_some_iff.mp hr.symm
  exact ix_dn hu value slice pins s σ H _ _ v u Q I rx ry ⟨d, l.map toV, b, k, (p.1, .ref p.2), .ref p.2, rfl, rfl, hd, ks.toN, sb, by rw [atKey_toV, hp]; rfl, rfl, q⟩ hs
theorem set_df (hu : X.A.units + 1 < cLine) : PSet X (rDfPut X) := by
  intro pins s σ H o i v ov iv u Q I ro ri rv h
  obtain ⟨d, b, a, l, k, e1, e2, e3, hd, ks, sb, hl, q⟩ := h
  refine set_dn hu pins s σ H o i v ov iv u Q I ro ri rv ⟨d, l.map toV, b, a, k, e1, e2, e3, hd, ks.toN, sb, by rw [List.length_map]; exact hl, ?_⟩
  rw [storedH_toV]
  exact q
theorem dfo_is {pins : List (Addr × Obj)} {σ : St} {H : Hp} {s : Shared} {d : Addr} {l : NAV} (I : Inv X pins σ H s) (h : Rd H d (DfO X.prog X.w d l)) : s.TypeIs (.ref d) "dict" ∧ ∀ a : Addr, Value.ref d = .ref a → ∃ ob, s.heap.get? a = some ob ∧ ob.dict = none := by
  obtain ⟨_, _, _, ob, es, ep, h1, h2, _⟩ := dn_get I h
  refine ⟨⟨ob, h1, h2.1⟩, fun a ea => ?_⟩
  cases ea
  exact ⟨ob, h1, h2.2.1⟩
theorem pe_get2N (hu : X.A.units + 1 < cLine) (ho : PE X o td) (he : PE X e ty) (hf : PE X f tx) (m : M2 X o "get" apos e f cpos) : PE X (.Call (.Attribute o "get" apos) [e, f] [] cpos) (tGet2N X td ty tx) := by
  refine ⟨fun pins s σ H Q I h => wpAny_Call_method m.base m.few m.line PySem.F.plainAttrs_dict PySem.F.slot_dict_get PySem.F.type_dict_get (thn (ho.run pins s σ H _ I h) fun u s1 hh => ?_)⟩
  obtain ⟨x, H1, I1, rx, d, m', rfl, hd1, q1⟩ := hh
  obtain rfl : u = Value.ref d := rx
  obtain ⟨t1, t2⟩ := dfo_is I1 hd1
  refine ⟨t1, t2, ?_⟩
  rw [m.trees]
  refine Calls.callWith_builtin rfl (Calls.evalArgs_plain (Calls.spliced_cons (thn (he.run pins s1 σ H1 _ I1 q1) fun iv s2 h2 => ?_)))
  obtain ⟨y, H2, I2, ry, q2⟩ := h2
  refine Calls.spliced_cons (thn (hf.run pins s2 σ H2 _ I2 q2) fun fv s3 h3 => Calls.spliced_nil ?_)
  obtain ⟨z, H3, I3, rz, r, ⟨l, b, k, hd, ks, rfl, sb, hr⟩, q3⟩ := h3
  obtain rfl : iv = Value.ref b := ry
  have dd := dn_of I3 hd ks.toN
  obtain ⟨_, hm, _⟩ := dn_get I3 hd
  refine call_meetsIn PySem.F.slot_dict_get dd.typeIs PySem.F.entry_dict_get (PySem.F.args_dict_get_3 _ _ _) (meetsH_dict_get_default (tupleKind (mixKind X.prog X.w)) d b hm fv) ⟨tupleKind_room_in1 hu, k, l.map toV, key_N I3 sb, dd, orV r z, H3, I3.tok _, ?_, q3⟩
  rw [atKey_toV, hr]
  cases findN l k with
  | none => exact rz
  | some p => rfl
end
end L2

set_option Elab.async false
set_option linter.all false
set_option maxRecDepth 100000
set_option maxHeartbeats 2000000
/-! {k: v for target in iter if ..} whose keys are tuples; items() of such a dict. -/
namespace L2
open PySem PySem.Spec PyProof.Rows
theorem dn_empty {P : Program} {w : World} {H : Hp} (h : Heap) (hb : sysModules < h.objs.size) : ObjOk P w H (h.push { cls := .type "dict", data := .dict #[] }) h.objs.size (DfO P w h.objs.size []) :=
  dn_ok ⟨Nat.zero_le _, beq_eq_false_iff_ne.mpr (Ne.symm (Nat.ne_of_lt hb)), List.nodup_nil, _, #[], 0, Heap.get?_push_size _ rfl, ⟨rfl, rfl, rfl⟩, rfl, rfl⟩
/-- d[y] = z by a comprehension -/
theorem dN_set {X : Cx} {pins : List (Addr × Obj)} {σ : St} {H : Hp} {s : Shared} {D b a : Addr} {l : NAV} {k : List Key} {u r : Value} {Q : Unit → Shared → Prop} {E : Value → Shared → Prop} (hu : X.A.units < cLine) (I : Inv X pins σ H s) (hD : H D = some (DfO X.prog X.w D l)) (ks : KeysD H l) (hb : SqT X.K H b (k.map kV))
    (hz : l.length < sizeLine) (ry : RelV (.ref b) u) (rv : RelV (.ref a) r) (h : ∀ s', Inv X pins σ (upd H D (DfO X.prog X.w D (putN l k b a))) s' → Q () s') : wpAny (model X.prog X.w) X.A (dictSet D u r) Q E s := by
  obtain rfl : u = Value.ref b := ry
  obtain rfl : r = Value.ref a := rv
  have dd := dn_of I (.inl hD) ks.toN
  obtain ⟨z0, hm, _⟩ := dn_get I (.inl hD)
  refine wpAny_dictSet_heap (hsz := z0) hu (key_N I hb) dd fun h' dd' hs => h _ ?_
  rw [storedH_toV] at dd'
  obtain ⟨o, es, ep, ho, h2, h3, h4, _, h5⟩ := dd'
  have ln : ((putN l k b a).map toV).length ≤ sizeLine := by
    rw [List.length_map]
    unfold putN
    split
    · rw [List.length_map]; omega
    · rw [List.length_append]; exact hz
  exact d_write I (by rw [hD]; exact True.intro) hs ⟨o, ho⟩ (dn_ok ⟨ln, hm, h5, o, es, ep, ho, h2, h3, h4⟩)
/-- what a turn of such a comprehension leaves -/
def TurnN (P : Program) (w : World) (K : PySem.W.Frag) (D : Addr) (Nx : Hp → Prop) (y z : V) (H : Hp) : Prop := ∃ l k b a, y = .ref b ∧ z = .ref a ∧ SqT K H b (k.map kV) ∧ H D = some (DfO P w D l) ∧ KeysD H l ∧ l.length < sizeLine ∧ Nx (upd H D (DfO P w D (putN l k b a)))
/-- its reading: D the new dict -/
def tDcN (P : Program) (w : World) (K : PySem.W.Frag) (wi : TI) (g : TG) (tt : TT) (tk tv : TE) (vs : List Nat) : TE := fun σ H Q => wi σ H fun J H1 => ∀ D, H1 D = none → ∃ W : Nat → Nat → Hp → Prop, (∃ m, W 0 m (upd H1 D (DfO P w D []))) ∧ ∀ i m H, W i m H →
  (J.stop i H ∧ Q (.ref D) H) ∨ (J.go i H ∧ ∃ Nx : Hp → Prop, (∀ H', Nx H' → ∃ m', m' < m ∧ W (i + 1) m' H') ∧ ∀ x H', J.yld i H x H' → g x (wipe σ vs) H' fun σ2 H2 => wipe σ2 vs = wipe σ vs ∧ tt σ2 H2 fun b H3 =>
    if b = true then tk σ2 H3 fun y H4 => tv σ2 H4 fun z H5 => TurnN P w K D Nx y z H5 else Nx H3)
section
variable {X : Cx} {kx vx tg iter : Expr} {ifs : List Expr} {scope : Scope} {own : List (Str × Nat)} {pos : Pos} {wi : TI} {g : TG} {tt : TT} {tk tv : TE}
/-- a comprehension's block may be read in any state of the block's own context -/
structure BlkRN (X : Cx) (tg kx vx : Expr) (ifs : List Expr) (scope : Scope) (g : TG) (tt : TT) (tk tv : TE) : Prop where
  tg : ∀ (s : Shared) (H : Hp) (C : Addr) (cl : List (Str × Addr)) (fp : List Addr), PG (X.blk s H scope (compEnvC scope cl C X.env) fp) tg g
  ifs : ∀ (s : Shared) (H : Hp) (C : Addr) (cl : List (Str × Addr)) (fp : List Addr), PTs (X.blk s H scope (compEnvC scope cl C X.env) fp) ifs tt
  key : ∀ (s : Shared) (H : Hp) (C : Addr) (cl : List (Str × Addr)) (fp : List Addr), PE (X.blk s H scope (compEnvC scope cl C X.env) fp) kx tk
  val : ∀ (s : Shared) (H : Hp) (C : Addr) (cl : List (Str × Addr)) (fp : List Addr), PE (X.blk s H scope (compEnvC scope cl C X.env) fp) vx tv
theorem dcN_core {pins : List (Addr × Obj)} {s : Shared} {σ : St} {H : Hp} {Q : VK} {pos' : Pos} {use : Option (Value → Sem Unit)} {Qf : Value → Shared → Prop} (hu : X.A.units < cLine) (hc : X.calm = true) (hN : X.N.Nodup) (I : Inv X pins σ H s) (hi : PI X tg iter wi) (ok : BlkOk X.N X.env.scope scope own) (B : BlkRN X tg kx vx ifs scope g tt tk tv) (hs : ∀ x, foldedSetIterable iter X.env x = pure x)
    (h : tDcN X.prog X.w X.K wi g tt tk tv (own.map (·.2)) σ H Q)
    (fin : ∀ D C s' m H', Inv X pins σ H' s' → Q (.ref D) H' → s'.heap.Ns C m → FpOk X pins H' C → compPost (model X.prog X.w) X.A X.xe use Qf (.ref D) C (.ok .next) s') :
    wpAny (model X.prog X.w) X.A (comprehension (.DictComp kx vx [⟨tg, iter, ifs, 0⟩] scope pos) scope X.env pos' newDict false (eval iter X.env) use) Qf X.xe s := by
  have cells : ∀ y ∈ scope.names, y.2 = .free → ∃ c, X.env.cells.lookup y.1 = some c := fun y hy e => I.ok.has _ (ok.free y hy e)
  refine wpAny_comprehension_free (use := use) rfl hs (closure_ok cells) ok.kind (fun y hy e => by rw [ok.uniq y hy, e]) (thn (hi.run pins s σ H _ I h) fun xv s1 hx => thn hx fun itv s2 h2 => ?_)
  obtain ⟨it, fp, tn, J, H2, rfl, I2, T, st2, f2, q⟩ := h2
  refine wpAny_newObj_type (newEnv_comp ?_)
  -- the new dict, at D
  generalize hD : s2.heap.objs.size = D
  have Dn : H2 D = none := I2.hok.fresh (Nat.le_of_eq hD)
  obtain ⟨W, ⟨m0, w0⟩, turn⟩ := q D Dn
  generalize hs3 : ({ s2 with heap := s2.heap.push { cls := .type "dict", data := .dict #[] } } : Shared) = s3
  have h3 : s3.heap = s2.heap.push { cls := .type "dict", data := .dict #[] } := by rw [← hs3]
  have I3 : Inv X pins σ (upd H2 D (DfO X.prog X.w D [])) s3 := by
    subst hs3 hD
    exact I2.laid (t' := s2.toks) (fun _ _ e => Heap.get?_push_of_some _ e) (Nat.le_refl _) (dn_empty s2.heap I2.big)
  have below : ∀ b ∈ fp, b < s2.heap.objs.size := fun b hb => let ⟨o, e, _⟩ := T.obj _ _ st2 b hb; Heap.lt_size e
  have f3 : ∀ b ∈ fp, FpOk X pins (upd H2 D (DfO X.prog X.w D [])) b ∧ b < s3.heap.objs.size := fun b hb =>
    ⟨⟨by rw [upd_ne (by rw [← hD]; exact Nat.ne_of_lt (below b hb))]; exact (f2 b hb).1, (f2 b hb).2⟩, by rw [h3, Heap.size_push]; exact Nat.lt_succ_of_lt (below b hb)⟩
  have st3 : tn 0 s3.heap := T.keep _ _ _ st2 fun b _ o e => by rw [h3]; exact Heap.get?_push_of_some _ e
  have I4 := block_start I3 ok hN f3
  show codeAny _ _ (.compStart (.DictComp kx vx [⟨tg, iter, ifs, 0⟩] scope pos) 0 (.ref it) (.ref D) (compEnvC scope (cellsFrom (s3.heap.objs.size + 1) scope.names (cloFrom X.env.cells scope.names [])) s3.heap.objs.size X.env)) (compPost (model X.prog X.w) X.A X.xe use Qf (.ref D) s3.heap.objs.size) { s3 with heap := pushCells (s3.heap.push { cls := .type "dict", data := .dict #[] }) scope.names }
  have B1 := B.tg s3 (upd H2 D (DfO X.prog X.w D [])) s3.heap.objs.size (cellsFrom (s3.heap.objs.size + 1) scope.names (cloFrom X.env.cells scope.names [])) fp
  have B2 := B.ifs s3 (upd H2 D (DfO X.prog X.w D [])) s3.heap.objs.size (cellsFrom (s3.heap.objs.size + 1) scope.names (cloFrom X.env.cells scope.names [])) fp
  have B3 := B.key s3 (upd H2 D (DfO X.prog X.w D [])) s3.heap.objs.size (cellsFrom (s3.heap.objs.size + 1) scope.names (cloFrom X.env.cells scope.names [])) fp
  have B4 := B.val s3 (upd H2 D (DfO X.prog X.w D [])) s3.heap.objs.size (cellsFrom (s3.heap.objs.size + 1) scope.names (cloFrom X.env.cells scope.names [])) fp
  generalize hce : compEnvC scope (cellsFrom (s3.heap.objs.size + 1) scope.names (cloFrom X.env.cells scope.names [])) s3.heap.objs.size X.env = ce at I4 B1 B2 B3 B4 ⊢
  have cL : ce.locals = s3.heap.objs.size := by subst hce; rfl
  generalize hH3 : upd H2 D (DfO X.prog X.w D []) = H3 at I3 I4 B1 B2 B3 B4 w0 f3
  generalize hs4 : ({ s3 with heap := pushCells (s3.heap.push { cls := .type "dict", data := .dict #[] }) scope.names } : Shared) = s4 at I4 ⊢
  have st4 : tn 0 s4.heap := T.keep _ _ _ st3 fun b _ o e => by rw [← hs4]; exact pushCells_keeps _ _ _ _ (Heap.get?_push_of_some _ e)
  -- the iterator's objects are nobody's else
  have mine : ∀ {σ' : St} {H' : Hp} {s' : Shared}, Inv (X.blk s3 H3 scope ce fp) [] σ' H' s' → (∀ b ∈ fp, H' b = none) → ∀ b ∈ fp, FpOk (X.blk s3 H3 scope ce fp) [] H' b := fun {σ' H' s'} I' hn b hb =>
    ⟨hn b hb, (I'.ok.exf b hb).1, I'.ok.exfs b hb, .inl hb, fun x c e => (I'.ok.exf b hb).2 x c e, fun p hp => (List.not_mem_nil (show p ∈ ([] : List (Addr × Obj)) from hp)).elim⟩
  refine codeAny_compStart_dict ?loop (T.self X.A 0 _ _ _ st4 ?loop)
  refine compLoop_anyD (fun n s' => ∃ i H', Inv (X.blk s3 H3 scope ce fp) [] (wipe σ (own.map (·.2))) H' s' ∧ tn i s'.heap ∧ (∀ b ∈ fp, H' b = none) ∧ W i n H') ?_ m0 ⟨0, H3, I4, st4, fun b hb => (f3 b hb).1.1, w0⟩
  rintro n s5 ⟨i, H5, I5, st5, n5, w5⟩
  rcases turn i n H5 w5 with ⟨stop, fq⟩ | ⟨go, Nx, next, step⟩
  · -- no item is left: back to the def
    refine thnF (T.done (X.blk s3 H3 scope ce fp) rfl rfl rfl hc i [] s5 _ H5 (fun _ _ => False) I5 (mine I5 n5) st5 stop) fun r s6 hr => ?_
    obtain ⟨rfl, I6⟩ := hr
    have I7 : Inv X pins σ H5 s6 := I3.call' (ch := fp) I6.os I6.base I6.hok I6.bare fun b hb => ⟨(f3 b hb).1.2.2.2.1, (f3 b hb).1.2.1, (f3 b hb).1.2.2.2.2.1, (f3 b hb).1.2.2.2.2.2⟩
    obtain ⟨m, hn, _⟩ := I6.loc
    have nC : H5 s3.heap.objs.size = none := cL ▸ (show H5 ce.locals = none from I6.free)
    have hn' : s6.heap.Ns s3.heap.objs.size m := cL ▸ (show s6.heap.Ns ce.locals m from hn)
    exact fin D s3.heap.objs.size s6 m H5 I7 fq hn' (I3.fpOk (Nat.le_refl _) nC)
  · -- a turn
    refine thnF (T.item (X.blk s3 H3 scope ce fp) rfl rfl rfl hc i [] s5 _ H5 (fun _ _ => False) I5 (mine I5 n5) st5 go) fun r s6 hr => ?_
    obtain ⟨u, rfl, h6⟩ := hr
    refine thnF h6 fun _ s7 hh => ?_
    obtain ⟨x, H7, I7, r7, y7, st7, n7⟩ := hh
    have P7 := I7.pinned (mine I7 n7) (T.obj _ _ st7)
    refine thnF (B1.run _ s7 _ H7 x u _ P7 r7 (step x H7 y7)) fun _ s8 hh => ?_
    obtain ⟨σ8, H8, I8, hw8, q8⟩ := hh
    refine thnF (B2.run _ s8 σ8 H8 _ I8 q8) fun b s9 hh => ?_
    obtain ⟨H9, I9, q9⟩ := hh
    have close : ∀ {s' : Shared} {H' : Hp}, Inv (X.blk s3 H3 scope ce fp) ([] ++ pinsAt fp s7.heap) σ8 H' s' → Nx H' → ∃ m, m < n ∧ ∃ i H', Inv (X.blk s3 H3 scope ce fp) [] (wipe σ (own.map (·.2))) H' s' ∧ tn i s'.heap ∧ (∀ b ∈ fp, H' b = none) ∧ W i m H' := by
      intro s' H' I' nx
      obtain ⟨m', hm, w'⟩ := next H' nx
      have pin' : ∀ b ∈ fp, ∀ o, s7.heap.get? b = some o → s'.heap.get? b = some o ∧ H' b = none := fun b hb o e =>
        let z := I'.pin (b, o) (List.mem_append_right _ (List.mem_append_right _ (mem_pinsAt hb e)))
        ⟨z.1, z.2.1⟩
      refine ⟨m', hm, i + 1, H', (I'.unpinned (pins := [])).weak (by rw [← hw8, wipe_length]) (fun j v e => (wipe_some (hw8 ▸ e)).1), T.keep _ _ _ st7 fun b hb o e => (pin' b hb o e).1, fun b hb => ?_, w'⟩
      obtain ⟨o, e, _⟩ := T.obj _ _ st7 b hb
      exact (pin' b hb o e).2
    cases b with
    | false => exact close I9 (by simpa using q9)
    | true =>
      have q9' : tk σ8 H9 fun y H4 => tv σ8 H4 fun z H5 => TurnN X.prog X.w X.K D Nx y z H5 := by simpa using q9
      show wpAny _ _ (eval kx ce) _ _ _
      refine thnF (B3.run _ s9 σ8 H9 _ I9 q9') fun kv s10 hh => ?_
      obtain ⟨y, H10, I10, r10, q10⟩ := hh
      refine thnF (B4.run _ s10 σ8 H10 _ I10 q10) fun vv s11 hh => ?_
      obtain ⟨z, H11, I11, r11, l, k, b, a, rfl, rfl, hb, hD11, ksd, hz, nx⟩ := hh
      exact dN_set (X := X.blk s3 H3 scope ce fp) hu I11 hD11 ksd hb hz r10 r11 fun s12 I12 => close I12 nx
/-- as a value -/
theorem pe_dcN (hu : X.A.units < cLine) (hc : X.calm = true) (hN : X.N.Nodup) (hi : PI X tg iter wi) (ok : BlkOk X.N X.env.scope scope own) (B : BlkRN X tg kx vx ifs scope g tt tk tv) (hs : ∀ x, foldedSetIterable iter X.env x = pure x := by intro _; rfl) :
    PE X (.DictComp kx vx [⟨tg, iter, ifs, 0⟩] scope pos) (tDcN X.prog X.w X.K wi g tt tk tv (own.map (·.2))) := by
  refine ⟨fun pins s σ H Q I h => ?_⟩
  rw [arm_eval_DictComp]
  exact dcN_core hu hc hN I hi ok B hs h fun D C s' m H' I' q hn f => ⟨m, hn, fun h'' sb => ⟨.ref D, H', I'.turned (t' := s'.toks) (fun b o hb e => (sb.2 b hb).trans e) f.1 f.2.1 f.2.2.2.1 f.2.2.2.2.1 f.2.2.2.2.2, rfl, q⟩⟩
/-- name = {..} on one line, the name a local of the def's own -/
theorem ps_dcN {i : Nat} {y : Str} {py spos : Pos} (hsw : swapsWith (.DictComp kx vx [⟨tg, iter, ifs, 0⟩] scope pos) (some (.Name y py)) spos.line X.env = pure true) (hu : X.A.units < cLine) (hc : X.calm = true) (hN : X.N.Nodup) (hy : X.N[i]? = some y) (hyl : X.env.scope.names.lookup y = some .local)
    (hi : PI X tg iter wi) (ok : BlkOk X.N X.env.scope scope own) (B : BlkRN X tg kx vx ifs scope g tt tk tv) (hs : ∀ x, foldedSetIterable iter X.env x = pure x := by intro _; rfl) :
    PS X (.Assign [.Name y py] (.DictComp kx vx [⟨tg, iter, ifs, 0⟩] scope pos) spos) (tAsg (tDcN X.prog X.w X.K wi g tt tk tv (own.map (·.2))) (gName i)) := by
  refine ⟨fun pins s σ H D I h => ?_⟩
  rw [exec_Assign_Name_used _ _ _ _ hsw]
  refine wpAny_bind (wpAny_standAt (wpAny_bind ?_))
  show wpAny _ X.A (do let _ ← comprehension (.DictComp kx vx [⟨tg, iter, ifs, 0⟩] scope pos) scope X.env (firstIterPos [⟨tg, iter, ifs, 0⟩] pos) newDict false (eval iter X.env) (some (assign (.Name y py) X.env))) _ _ s
  refine wpAny_bind (thn (dcN_core (Q := fun x H1 => gName i x σ H1 D.nx) (Qf := fun _ s' => SP X pins D .next s') hu hc hN I hi ok B hs h fun L C s' m H' I' q hn f => ?_) fun _ s' hq => wpAny_pure (wpAny_pure hq))
  refine wpAny_assign_Name (store_ok2 (v := V.ref L) I' hN hy (.inl hyl) rfl (fun s2 I2 ⟨a, sb, ha⟩ => ?_) (.inr hyl))
  have ne : C ≠ a := by
    rcases ha with z | z
    · rw [z]; exact f.2.1
    · exact fun e => f.2.2.2.2.1 y a z e.symm
  exact ⟨m, hn.sameBut sb ne, fun h3 sb3 => ⟨_, H', I2.turned (t' := s2.toks) (fun b o hb e => (sb3.2 b hb).trans e) f.1 f.2.1 f.2.2.2.1 f.2.2.2.2.1 f.2.2.2.2.2, q⟩⟩
theorem swD_true {y : Str} {gs : List Comprehension} {py : Pos} {l : Nat} {env : Env} (hk : env.scope.kind = .function) (hy : env.scope.names.lookup y = some .local) (hl : (py.line == pos.line) = true)
    (ha : (scope.names.any fun (n, k) => n == y && (k == .local || k == .cell)) = false) : swapsWith (.DictComp kx vx gs scope pos) (some (.Name y py)) l env = pure true := by
  have ky : env.kindOf y = some .local := hy
  have hb : env.blockKind = .function := by unfold Env.blockKind; rw [hk]; rfl
  unfold swapsWith
  simp only [hb, ky, ha, Expr.pos, hl]
  rfl
end
end L2

set_option Elab.async false
set_option linter.all false
set_option maxRecDepth 100000
set_option maxHeartbeats 1000000
/-! {k: v}, k a tuple without a dict of its own; (a, b) as such a tuple -/
namespace L2
open PySem PySem.Spec PyProof.Rows
def tTupN (t : TA) : TE := fun σ H Q => t σ H fun xs H1 => xs.length ≤ sizeLine ∧ NewN H1 xs Q
theorem pe_tupN {X : Cx} {es : List Expr} {t : TA} {pos : Pos} {x1} (h : PA X es t) : PE X (.Tuple es x1 pos) (tTupN t) := by
  refine ⟨fun pins s σ H Q I hq => wpAny_Tuple_spliced (thn (h.run pos pins s σ H _ I hq) fun us s1 hh => ?_)⟩
  obtain ⟨xs, H1, I1, r, z, q⟩ := hh
  have n1 : H1 s1.heap.objs.size = none := I1.hok.fresh (Nat.le_refl _)
  exact ⟨by rw [← r.length]; exact z, .ref s1.heap.objs.size, _, tupN_laid I1 r z, rfl, q _ _ (Same.upd n1) n1 ⟨_, upd_same, rfl⟩⟩
def tDispN (X : Cx) (tk tv : TE) : TE := fun σ H Q => ∀ p, H p = none → tk σ (upd H p (DfO X.prog X.w p [])) fun x H1 => tv σ H1 fun y H2 => H2 p = some (DfO X.prog X.w p []) ∧ ∃ k b a, x = .ref b ∧ y = .ref a ∧ SqT X.K H2 b (k.map kV) ∧ Q (.ref p) (upd H2 p (DfO X.prog X.w p [(k, b, a)]))
section
variable {X : Cx} {k v : Expr} {tk tv : TE} {pos : Pos}
theorem pe_dispN (hu : X.A.units < cLine) (hk : PE X k tk) (hv : PE X v tv) : PE X (.Dict [some k] [v] pos) (tDispN X tk tv) := by
  refine ⟨fun pins s σ H Q I q => ?_⟩
  have hn := I.hok.fresh (Nat.le_refl s.heap.objs.size)
  generalize hp : s.heap.objs.size = p at hn
  have I1 : Inv X pins σ (upd H p (DfO X.prog X.w p [])) { s with heap := s.heap.push { cls := .type "dict", data := .dict #[] } } := by
    subst hp
    exact I.laid (t' := s.toks) (fun _ _ e => Heap.get?_push_of_some _ e) (Nat.le_refl _) (dn_empty s.heap I.big)
  have one : (pairTrees [some k] [v] X.env pos).length = 1 := rfl
  rw [arm_eval_Dict, zip_pairTrees [some k] [v] X.env pos rfl rfl, dictDisplay_pairs _ (by intro e; rw [e] at one; cases one) (by rw [one]; decide)]
  refine wpAny_bind (wpAny_standAt (wpAny_bind (wpAny_subDictH (knd := tupleKind (mixKind X.prog X.w)) (Q := fun d s' => wpAny (model X.prog X.w) X.A (pure (Value.ref d)) (EP X pins σ Q) X.xe s') hu (by rw [one]; decide) ?_)))
  refine thn ((pps_cons (pos := pos) hk hv pps_nil).run pins _ σ _ (fun ps H2 => match ps with
    | [(x, y)] => H2 p = some (DfO X.prog X.w p []) ∧ ∃ k b a, x = .ref b ∧ y = .ref a ∧ SqT X.K H2 b (k.map kV) ∧ Q (.ref p) (upd H2 p (DfO X.prog X.w p [(k, b, a)]))
    | _ => False) I1 (q p hn)) fun ws s2 hh => ?_
  obtain ⟨ps, H2, I2, rel, hh⟩ := hh
  match ps, hh with
  | [(x, y)], ⟨hD, kk, b, a, ex, ey, hb, hq⟩ =>
    subst ex ey
    unfold VV at rel
    cases rel with
    | @cons _ w1 _ _ h t =>
    cases t
    obtain ⟨w1a, w1b⟩ := w1
    obtain ⟨rx, ry⟩ := h
    obtain rfl : w1a = Value.ref b := rx
    obtain rfl : w1b = Value.ref a := ry
    have dd := dn_of I2 (.inl hD) (fun x hx => absurd hx List.not_mem_nil)
    rw [hp]
    refine ⟨[(kk, b, .ref a)], ⟨rfl, rfl, key_N I2 hb, trivial⟩, dd, fun h' tk dd' hs => wpAny_pure ⟨.ref p, _, ?_, rfl, hq⟩⟩
    obtain ⟨_, hm, _⟩ := dn_get I2 (.inl hD)
    obtain ⟨o, es, ep, ho, h2, h3, h4, _, h5⟩ := dd'
    exact d_write I2 (by rw [hD]; exact True.intro) hs ⟨o, ho⟩ (dn_ok ⟨by show 1 ≤ sizeLine; decide, hm, List.nodup_cons.mpr ⟨List.not_mem_nil, List.nodup_nil⟩, o, es, ep, ho, h2, h3, h4⟩)
end
end L2

set_option Elab.async false
set_option linter.all false
set_option maxRecDepth 100000
/-! Forms as lists of (letters, coefficient): the mathematics. -/
namespace L2
open PySem PySem.Spec PyProof.Rows
/-- the pair that lowest makes -/
def loq (a b : Int) : Int × Int :=
  let g : Int := ((Nat.gcd a.natAbs b.natAbs : Nat) : Int)
  let s := if b > 0 then g else -g
  (a.fdiv s, b.fdiv s)
theorem fdiv_dvd {a s : Int} (hs : s ≠ 0) (h : s ∣ a) : a.fdiv s = a / s := by
  obtain ⟨k, rfl⟩ := h
  rw [Int.mul_fdiv_cancel_left _ hs, Int.mul_ediv_cancel_left _ hs]
theorem loq_eq {a b : Int} (hb : b ≠ 0) : loq a b = ((Rat.divInt a b).num, ((Rat.divInt a b).den : Int)) := by
  have gp : 0 < Nat.gcd a.natAbs b.natAbs := Nat.gcd_pos_of_pos_right _ (by omega)
  have d1 : ((Nat.gcd a.natAbs b.natAbs : Nat) : Int) ∣ a := PySem.W.mg_dvd_left a b
  have d2 : ((Nat.gcd a.natAbs b.natAbs : Nat) : Int) ∣ b := PySem.W.mg_dvd_right a b
  unfold loq
  rw [Rat.num_divInt, Rat.den_divInt, if_neg hb]
  have gc : b.gcd a = Nat.gcd a.natAbs b.natAbs := by unfold Int.gcd; exact Nat.gcd_comm _ _
  rw [gc]
  generalize Nat.gcd a.natAbs b.natAbs = g at gp d1 d2
  have hg : (g : Int) ≠ 0 := by omega
  rcases Int.lt_or_gt_of_ne hb with h | h
  · have s1 : b.sign = -1 := Int.sign_eq_neg_one_of_neg h
    have e1 : a.fdiv (-(g : Int)) = b.sign * a / (g : Int) := by
      rw [fdiv_dvd (by omega) (Int.neg_dvd.mpr d1), s1]
      rw [Int.ediv_neg, show (-1 : Int) * a = -a by omega, Int.neg_ediv_of_dvd d1]
    have e2 : b.fdiv (-(g : Int)) = ((b.natAbs / g : Nat) : Int) := by
      rw [fdiv_dvd (by omega) (Int.neg_dvd.mpr d2), Int.ediv_neg, ← Int.neg_ediv_of_dvd d2]
      rw [Int.natCast_ediv]
      congr 1
      omega
    simp only [show ¬ (b > 0) by omega, if_false]
    rw [e1, e2]
  · have s1 : b.sign = 1 := Int.sign_eq_one_of_pos h
    have e1 : a.fdiv (g : Int) = b.sign * a / (g : Int) := by
      rw [fdiv_dvd hg d1, s1, Int.one_mul]
    have e2 : b.fdiv (g : Int) = ((b.natAbs / g : Nat) : Int) := by
      rw [fdiv_dvd hg d2, Int.natCast_ediv]
      congr 1
      omega
    simp only [show b > 0 from h, if_true]
    rw [e1, e2]
theorem loq_add (p q : Rat) : loq (p.num * (q.den : Int) + q.num * (p.den : Int)) ((p.den : Int) * (q.den : Int)) = ((p + q).num, ((p + q).den : Int)) := by
  have hp : (p.den : Int) ≠ 0 := by have := p.den_nz; omega
  have hq : (q.den : Int) ≠ 0 := by have := q.den_nz; omega
  rw [loq_eq (by intro e; rcases Int.mul_eq_zero.mp e with h | h <;> contradiction)]
  have e : Rat.divInt (p.num * (q.den : Int) + q.num * (p.den : Int)) ((p.den : Int) * (q.den : Int)) = p + q := by
    rw [← Rat.divInt_add_divInt _ _ hp hq, Rat.num_divInt_den, Rat.num_divInt_den]
  rw [e]
theorem rat_num (q : Rat) : (q.num : Rat) = q * (q.den : Rat) := by
  have h := Rat.num_divInt_den q
  rw [Rat.divInt_eq_div] at h
  have hd : ((q.den : Int) : Rat) ≠ 0 := by
    intro e
    have := Rat.intCast_inj.mp (e.trans (by rfl : (0 : Rat) = ((0 : Int) : Rat)))
    have := q.den_nz
    omega
  rw [Rat.intCast_natCast] at h hd
  grind
/-- a fraction's tuple -/
def frac (x : Rat) : List V := [.int x.num, .int x.den]
/-- q is z over D, z no more than M -/
def Bq (D M : Nat) (q : Rat) : Prop := ∃ z : Int, q * (D : Rat) = (z : Rat) ∧ z.natAbs ≤ M
theorem Bq.den {D M : Nat} {q : Rat} (h : Bq D M q) : q.den ∣ D := by
  obtain ⟨z, e, _⟩ := h
  have h1 : q.num * (D : Int) = z * (q.den : Int) := by
    have e1 : (q.num : Rat) = q * (q.den : Rat) := rat_num q
    have : ((q.num * (D : Int) : Int) : Rat) = ((z * (q.den : Int) : Int) : Rat) := by
      rw [Rat.intCast_mul, Rat.intCast_mul, e1, Rat.intCast_natCast, Rat.intCast_natCast, ← e]
      grind
    exact Rat.intCast_inj.mp this
  have h2 : q.den ∣ q.num.natAbs * D := by
    have h3 : (q.den : Int) ∣ q.num * (D : Int) := ⟨z, by rw [h1, Int.mul_comm]⟩
    have h4 := Int.natAbs_dvd_natAbs.mpr h3
    rwa [Int.natAbs_mul, Int.natAbs_natCast, Int.natAbs_natCast] at h4
  exact Nat.Coprime.dvd_of_dvd_mul_left (Nat.Coprime.symm q.reduced) h2
theorem Bq.den_le {D M : Nat} {q : Rat} (h : Bq D M q) (hD : 0 < D) : q.den ≤ D := Nat.le_of_dvd hD h.den
theorem Bq.num_le {D M : Nat} {q : Rat} (h : Bq D M q) (hD : 0 < D) : q.num.natAbs ≤ M := by
  obtain ⟨k, hk⟩ := h.den
  obtain ⟨z, e, hz⟩ := h
  have hk0 : 0 < k := by
    rcases Nat.eq_zero_or_pos k with r | r
    · rw [r, Nat.mul_zero] at hk; omega
    · exact r
  have h1 : q.num * (k : Int) = z := by
    have e1 : (q.num : Rat) = q * (q.den : Rat) := rat_num q
    have : ((q.num * (k : Int) : Int) : Rat) = (z : Rat) := by
      rw [Rat.intCast_mul, e1, Rat.intCast_natCast, ← e, hk, Rat.natCast_mul]
      grind
    exact Rat.intCast_inj.mp this
  have h2 : z.natAbs = q.num.natAbs * k := by rw [← h1, Int.natAbs_mul, Int.natAbs_natCast]
  rw [h2] at hz
  exact Nat.le_trans (Nat.le_mul_of_pos_right _ hk0) hz
theorem Bq.mono {D M M' : Nat} {q : Rat} (h : Bq D M q) (hM : M ≤ M') : Bq D M' q := let ⟨z, e, l⟩ := h; ⟨z, e, Nat.le_trans l hM⟩
theorem Bq.scale {D M k : Nat} {q : Rat} (h : Bq D M q) : Bq (D * k) (M * k) q := by
  obtain ⟨z, e, l⟩ := h
  refine ⟨z * k, ?_, ?_⟩
  · rw [Rat.natCast_mul, Rat.intCast_mul, Rat.intCast_natCast, ← e]; grind
  · rw [Int.natAbs_mul, Int.natAbs_natCast]; exact Nat.mul_le_mul_right _ l
theorem Bq.add {D M N : Nat} {p q : Rat} (h : Bq D M p) (k : Bq D N q) : Bq D (M + N) (p + q) := by
  obtain ⟨z, e, l⟩ := h
  obtain ⟨y, f, m⟩ := k
  refine ⟨z + y, ?_, ?_⟩
  · rw [Rat.intCast_add, ← e, ← f]; grind
  · have := Int.natAbs_add_le z y; omega
theorem Bq.neg {D M : Nat} {q : Rat} (h : Bq D M q) : Bq D M (-q) := by
  obtain ⟨z, e, l⟩ := h
  refine ⟨-z, ?_, ?_⟩
  · rw [Rat.intCast_neg, ← e]; grind
  · omega
theorem Bq.zero {D : Nat} : Bq D 0 0 := ⟨0, by rw [Rat.zero_mul]; rfl, Nat.le_refl _⟩
theorem Bq.int {n : Int} : Bq 1 n.natAbs (n : Rat) := ⟨n, by grind, Nat.le_refl _⟩
end L2

set_option Elab.async false
set_option linter.all false
set_option maxRecDepth 100000
set_option maxHeartbeats 1000000
/-! A form's dict: keys and fractions. -/
namespace L2
open PySem PySem.Spec PyProof.Rows
abbrev MonR := List Str
abbrev Fm := List (MonR × Rat)
def kS (m : MonR) : List Key := m.map Sum.inr
theorem kS_inj {m n : MonR} (h : kS m = kS n) : m = n := by
  unfold kS at h
  exact (List.map_inj_right (fun a b e => Sum.inr.inj e)).mp h
/-- what holds of tuples in H holds in H' -/
structure Mv (K : PySem.W.Frag) (H H' : Hp) : Prop where
  sq : ∀ a xs, SqT K H a xs → SqT K H' a xs
  tn : ∀ q xs, TupN H q xs → TupN H' q xs
/-- the dict's items are the form's terms -/
def FmKv (K : PySem.W.Frag) (H : Hp) (l : NAV) (fm : Fm) : Prop := Paired (fun e mq => e.1 = kS mq.1 ∧ TupN H e.2.1 (e.1.map kV) ∧ SqT K H e.2.2 (frac mq.2)) l fm
def valM (fm : Fm) (m : MonR) : Option Rat := (fm.find? fun x => decide (x.1 = m)).map (·.2)
def putM (fm : Fm) (m : MonR) (q : Rat) : Fm := if (fm.any fun x => decide (x.1 = m)) = true then fm.map (fun x => if x.1 = m then (x.1, q) else x) else fm ++ [(m, q)]
theorem SqT.same {K : PySem.W.Frag} {H H' : Hp} {a : Addr} {xs : List V} (h : SqT K H a xs) (S : Same H H') : SqT K H' a xs := by
  rcases h with (h | ⟨o, h⟩) | h
  · exact .inl (.inl (S _ _ h))
  · exact .inl (.inr ⟨o, S _ _ h⟩)
  · exact .inr h
theorem SqT.off {K : PySem.W.Frag} {H : Hp} {a d : Addr} {xs : List V} {u v : HO} (h : SqT K H a xs) (hd : H d = some u) (n1 : u ≠ .tup xs) (n2 : ∀ o, u ≠ .frz o (.tup xs)) : SqT K (upd H d v) a xs := by
  rcases h with (h | ⟨o, h⟩) | h
  · refine .inl (.inl ?_)
    rw [upd_ne]
    · exact h
    · rintro rfl
      rw [hd] at h
      exact n1 (Option.some.inj h)
  · refine .inl (.inr ⟨o, ?_⟩)
    rw [upd_ne]
    · exact h
    · rintro rfl
      rw [hd] at h
      exact n2 o (Option.some.inj h)
  · exact .inr h
theorem TupN.off {H : Hp} {q d : Addr} {xs : List V} {u v : HO} (h : TupN H q xs) (hd : H d = some u) (n2 : ∀ o, u ≠ .frz o (.tup xs)) : TupN (upd H d v) q xs := by
  obtain ⟨o, h1, h2⟩ := h
  refine ⟨o, ?_, h2⟩
  rw [upd_ne]
  · exact h1
  · rintro rfl
    rw [hd] at h1
    exact n2 o (Option.some.inj h1)
/-- no tuple, locked or not -/
def NoTup (u : HO) : Prop := (∀ xs, u ≠ .tup xs) ∧ ∀ o xs, u ≠ .frz o (.tup xs)
theorem noTup_df {P : Program} {w : World} {d : Addr} {l : NAV} : NoTup (DfO P w d l) := ⟨fun _ z => (nomatch (show HO.ext _ = _ from z)), fun _ _ z => (nomatch (show HO.ext _ = _ from z))⟩
theorem noTup_fz {P : Program} {w : World} {d : Addr} {o : Obj} {l : NAV} : NoTup (.frz o (DfO P w d l)) := ⟨fun _ z => (nomatch z), fun _ _ z => by
  injection z with _ e
  exact (nomatch (show HO.ext _ = _ from e))⟩
theorem Mv.refl {K : PySem.W.Frag} (H : Hp) : Mv K H H := ⟨fun _ _ h => h, fun _ _ h => h⟩
theorem Mv.trans {K : PySem.W.Frag} {H H' H'' : Hp} (a : Mv K H H') (b : Mv K H' H'') : Mv K H H'' := ⟨fun x y h => b.sq x y (a.sq x y h), fun x y h => b.tn x y (a.tn x y h)⟩
theorem Mv.same {K : PySem.W.Frag} {H H' : Hp} (S : Same H H') : Mv K H H' := ⟨fun _ _ h => h.same S, fun _ _ h => h.same S⟩
theorem Mv.off {K : PySem.W.Frag} {H : Hp} {d : Addr} {u v : HO} (hd : H d = some u) (n : NoTup u) : Mv K H (upd H d v) := ⟨fun _ xs h => h.off hd (n.1 xs) fun o => n.2 o xs, fun _ xs h => h.off hd fun o => n.2 o xs⟩
theorem Mv.sameB {K : PySem.W.Frag} {D : Addr} {H H' : Hp} {u : HO} (S : SameB D H H') (hD : H D = some u) (n : NoTup u) : Mv K H H' := ⟨fun a xs h => by
  rcases h with (h | ⟨o, h⟩) | h
  · exact .inl (.inl (S _ _ (fun e => by rw [e, hD] at h; exact n.1 xs (Option.some.inj h)) h))
  · exact .inl (.inr ⟨o, S _ _ (fun e => by rw [e, hD] at h; exact n.2 o xs (Option.some.inj h)) h⟩)
  · exact .inr h, fun q xs h => by
  obtain ⟨o, h1, h2⟩ := h
  exact ⟨o, S _ _ (fun e => by rw [e, hD] at h1; exact n.2 o xs (Option.some.inj h1)) h1, h2⟩⟩
section
variable {K : PySem.W.Frag} {H H' : Hp} {l : NAV} {fm : Fm}
theorem FmKv.imp (h : FmKv K H l fm) (f : Mv K H H') : FmKv K H' l fm := Paired.mapP h fun _ _ z => ⟨z.1, f.tn _ _ z.2.1, f.sq _ _ z.2.2⟩
theorem FmKv.same (h : FmKv K H l fm) (S : Same H H') : FmKv K H' l fm := h.imp (.same S)
theorem FmKv.length (h : FmKv K H l fm) : l.length = fm.length := Paired.length h
theorem FmKv.keys (h : FmKv K H l fm) : KeysD H l := by
  unfold FmKv at h
  induction h with
  | nil => intro x hx; exact absurd hx List.not_mem_nil
  | cons r t ih =>
    intro x hx
    rcases List.mem_cons.mp hx with rfl | hx
    · exact r.2.1
    · exact ih x hx
theorem findN_hit {x : List Key × Addr × Addr} {r : NAV} {k : List Key} (e : x.1 = k) : findN (x :: r) k = some x.2 := by simp [findN, List.find?_cons, e]
theorem findN_miss {x : List Key × Addr × Addr} {r : NAV} {k : List Key} (e : ¬ x.1 = k) : findN (x :: r) k = findN r k := by simp [findN, List.find?_cons, e]
theorem FmKv.val (h : FmKv K H l fm) (m : MonR) : (findN l (kS m) = none ∧ valM fm m = none) ∨ ∃ b a q, findN l (kS m) = some (b, a) ∧ valM fm m = some q ∧ SqT K H a (frac q) := by
  unfold FmKv at h
  induction h with
  | nil => exact .inl ⟨rfl, rfl⟩
  | @cons p x ps xs r t ih =>
    obtain ⟨e, _, sa⟩ := r
    by_cases c : x.1 = m
    · exact .inr ⟨p.2.1, p.2.2, x.2, findN_hit (by rw [e, c]), by simp [valM, List.find?_cons, c], sa⟩
    · rw [findN_miss fun z => c (kS_inj (e.symm.trans z)), show valM (x :: xs) m = valM xs m by simp [valM, List.find?_cons, c]]
      exact ih
theorem FmKv.any (h : FmKv K H l fm) (m : MonR) : (findN l (kS m)).isSome = (fm.any fun x => decide (x.1 = m)) := by
  unfold FmKv at h
  induction h with
  | nil => rfl
  | @cons p x ps xs r t ih =>
    rw [List.any_cons]
    by_cases c : x.1 = m
    · rw [findN_hit (by rw [r.1, c]), decide_eq_true c]
      rfl
    · rw [findN_miss fun z => c (kS_inj (r.1.symm.trans z)), ih, decide_eq_false c, Bool.false_or]
theorem FmKv.put (h : FmKv K H l fm) (m : MonR) {q : Rat} {b a : Addr} (hb : TupN H b ((kS m).map kV)) (sa : SqT K H a (frac q)) : FmKv K H (putN l (kS m) b a) (putM fm m q) := by
  unfold putN putM
  rw [h.any m]
  split
  · have e : ∀ {l : NAV} {n : Fm}, FmKv K H l n → FmKv K H (l.map fun x => if x.1 = kS m then (x.1, x.2.1, a) else x) (n.map fun x => if x.1 = m then (x.1, q) else x) := by
      intro l n g
      unfold FmKv at g ⊢
      induction g with
      | nil => exact .nil
      | @cons p x ps xs r t ih =>
        rw [List.map_cons, List.map_cons]
        refine .cons ?_ ih
        by_cases c : x.1 = m
        · rw [if_pos c, if_pos (by rw [r.1, c])]
          exact ⟨r.1, r.2.1, sa⟩
        · rw [if_neg c, if_neg fun z => c (kS_inj (r.1.symm.trans z))]
          exact r
    exact e h
  · exact Paired.snoc h ⟨rfl, hb, sa⟩
theorem FmKv.get (h : FmKv K H l fm) {i : Nat} {e : List Key × Addr × Addr} (g : l[i]? = some e) : ∃ m q b a, fm[i]? = some (m, q) ∧ e = (kS m, b, a) ∧ TupN H b ((kS m).map kV) ∧ SqT K H a (frac q) := by
  obtain ⟨b, hb, e1, e2, sa⟩ := paired_get h g
  exact ⟨b.1, b.2, e.2.1, e.2.2, hb, Prod.ext e1 rfl, by rw [← e1]; exact e2, sa⟩
end
theorem putM_new {fm : Fm} {m : MonR} (q : Rat) (h : m ∉ fm.map (·.1)) : putM fm m q = fm ++ [(m, q)] := by
  unfold putM
  rw [if_neg]
  intro z
  obtain ⟨x, hx, e⟩ := List.any_eq_true.mp z
  exact h (List.mem_map.mpr ⟨x, hx, of_decide_eq_true e⟩)
theorem same_back {H H' : Hp} {d : Addr} {u z : HO} (hd : H d = some u) (S : Same (upd H d z) H') : Same H (upd H' d u) := by
  intro b o e
  by_cases c : b = d
  · subst c
    rw [upd_same]
    rw [hd] at e
    exact e
  · rw [upd_ne c]
    exact S b o (by rw [upd_ne c]; exact e)
end L2

set_option Elab.async false
set_option linter.all false
set_option maxRecDepth 100000
set_option maxHeartbeats 1000000
/-! lambda x: (len(x), x), called with a tuple of texts -/
namespace L2
open PySem PySem.Spec PySem.Calls PyProof.Rows PySem.W
section
variable {prog : Program} {w : World} {A : Around} {s : Shared}
end
end L2

set_option Elab.async false
set_option linter.all false
set_option maxRecDepth 100000
set_option maxHeartbeats 1000000
/-! lambda row: len(row[2]), called with a tuple whose third item is a list; sorted by it -/
namespace L2
open PySem PySem.Spec PySem.Calls PyProof.Rows PySem.W
abbrev lpPar (p : Pos) : Arguments := { posonlyargs := [], args := [{ arg := "row", annotation := none, pos := p }], vararg := none, kwonlyargs := [], kw_defaults := [], kwarg := none, defaults := [] }
abbrev lpBody (p1 p2 p3 p4 p5 : Pos) : Expr := .Call (.Name "len" p1) [.Subscript (.Name "row" p2) (.Constant (.int 2) 0 p3) p4] [] p5
abbrev lpScope : Scope := { kind := .function, names := [("row", .local), ("len", .globalImplicit)], isGenerator := false, isCoroutine := false, more := [] }
section
variable {prog : Program} {w : World} {A : Around} {s : Shared}
theorem lam_keyP {p p1 p2 p3 p4 p5 : Pos} {f c' t l : Addr} {qual : Str} {pm ctv : Value} {mg mb : Str → Option Value} {its : Array Value} {xs : Array Value}
    (hroom : A.depth < recursionLimit) (hf : s.heap.get? f = some (kla_obj "<lambda>" qual (lpPar p) (lpBody p1 p2 p3 p4 p5) lpScope [] pm c' ctv)) (hcd : s.heap.CodeRec (.ref c') qual) (hnl : s.heap.NoLimit)
    (hg : s.heap.Ns mainGlobals mg) (hlen : mg "len" = none) (hb : s.heap.Ns builtinsNs mb) (hmb : mb "len" = some (.builtin "len")) (ht : IsTup s.heap t its) (hx : its[2]? = some (.ref l)) (hsz : its.size = 3) (hl : s.heap.IsList l xs) (small : xs.size ≤ sizeLine) :
    wpAny (model prog w) A (call (.ref f) [.ref t]) (KeyPure (.int (xs.size : Int)) s) (fun _ _ => False) s := by
  refine wpAny_call (kla_callFunE hroom hf rfl rfl rfl rfl hcd ?_)
  rw [show bindArgs (kla_fn "<lambda>" qual (lpPar p) (lpBody p1 p2 p3 p4 p5) lpScope [] pm (.ref c') ctv) ⟨[Value.ref t], []⟩ = pure [(("row" : Str), Value.ref t)] from rfl]
  refine wpAny_pure (wpAny_newFunctionEnv (fun y hy => ?_) (fun y hy => ?_) (fun h₁ hns hsb => ⟨hnl.fresh _ hsb, ?_⟩) rfl)
  · intro z
    simp only [List.mem_cons, List.not_mem_nil, or_false] at hy
    rcases hy with rfl | rfl <;> cases z
  · rw [List.mem_singleton.mp hy]
    rfl
  have kp : ∀ b o, s.heap.get? b = some o → h₁.get? b = some o := fun b o e => (hsb.2 b (Nat.ne_of_lt (Heap.lt_size e))).trans (Heap.get?_push_of_some _ e)
  refine kla_codeExpr ?_
  generalize henv : newEnv (kla_fn "<lambda>" qual (lpPar p) (lpBody p1 p2 p3 p4 p5) lpScope [] pm (.ref c') ctv).scope s.heap.objs.size _ _ _ _ _ _ _ = env
  have name : ∀ {A' : Around} {pos : Pos} {s1 : Shared} {Q : Value → Shared → Prop} {E : Value → Shared → Prop}, s1.heap = h₁ → Q (.ref t) s1 → wpAny (model prog w) A' (eval (.Name "row" pos) env) Q E s1 := fun e q =>
    wpAny_Name (wpAny_loadName_local (by rw [← henv]; rfl) (by rw [← henv]; rfl) (by rw [e, ← henv]; exact hns) (by rfl) q) (by decide)
  have sl : xs.size < 2 ^ 63 := Nat.lt_of_le_of_lt small (by rw [sizeLine_eq]; decide)
  refine wpAny_Call_Name_kw (Name_function_global (by rw [← henv]; rfl) (by rw [← henv]; rfl) (loadGlobal_builtin (mg := mg) (mb := mb) (by rw [← henv]; exact hg.keeps kp) hlen (by rw [← henv]; exact hb.keeps kp) hmb ?_))
  refine callWith_builtin1 (wpAny_Subscript_Constant_late (name rfl (fun _ _ _ => ?_)))
  refine ⟨"tuple", _, slot_tuple_getitem.lookup, ?_, ?_⟩
  · obtain ⟨o, ho, hc, _⟩ := ht
    exact ⟨o, kp _ _ ho, hc⟩
  refine getItem_tuple (j := 2) (items := its) (let ⟨o, ho, r⟩ := ht; ⟨o, kp _ _ ho, r⟩) (by decide) (by decide) (by rw [hsz]; rfl) hx ?_
  refine Calls.call_len_list (items := xs) (let ⟨o, ho, r⟩ := hl; ⟨o, kp _ _ ho, r⟩) (by omega) ?_
  exact ⟨_, _, rfl, kp, .int _ _⟩
end
end L2

set_option Elab.async false
set_option linter.all false
set_option maxRecDepth 100000
set_option maxHeartbeats 1000000
/-! sorted(xs, key=lambda row: len(row[2])), xs a list of tuples of three -/
namespace L2
open PySem PySem.Spec PySem.Calls PyProof.Rows
open PySem.W (dataLe AllAlike Sortable EachIs)
open LamX (Tabs ExtN TabB CodeO)
def NewT (H : Hp) (p : Addr) : Prop := ∀ o, H p = some o → ∃ ps, o = .tbl ps
theorem SqL.extN {K : PySem.W.Frag} {H H' : Hp} {a : Addr} {xs : List V} (h : SqL K H a xs) (S : ExtN H H') : SqL K H' a xs := by
  rcases h with (h | ⟨o, h⟩) | h
  · exact .inl (.inl (S _ _ h fun _ z => nomatch z))
  · exact .inl (.inr ⟨o, S _ _ h fun _ z => nomatch z⟩)
  · exact .inr h
theorem SqT.extN {K : PySem.W.Frag} {H H' : Hp} {a : Addr} {xs : List V} (h : SqT K H a xs) (S : ExtN H H') : SqT K H' a xs := by
  rcases h with (h | ⟨o, h⟩) | h
  · exact .inl (.inl (S _ _ h fun _ z => nomatch z))
  · exact .inl (.inr ⟨o, S _ _ h fun _ z => nomatch z⟩)
  · exact .inr h
section
variable {β : Type} (ad : β → Addr) (ln : β → Nat)
/-- in the order of the lengths, those of one length in the order they had -/
def sortB (xs : List β) : List β := xs.mergeSort (dataLe false fun x => .int (ln x : Int))
end
section
variable {β : Type} {ad : β → Addr} {ln : β → Nat}
theorem each_of_vals {ams : List β} {its : List Value} (r : Vals (ams.map fun x => V.ref (ad x)) its) : EachIs (fun (v : Value) (x : β) => v = Value.ref (ad x)) its ams := by
  induction ams generalizing its with
  | nil => cases r; exact .nil
  | cons x xs ih =>
    cases r with
    | cons h t => exact .cons h (ih t)
theorem vals_of_each {ams : List β} {out : List Value} (e : EachIs (fun (v : Value) (x : β) => v = Value.ref (ad x)) out ams) : Vals (ams.map fun x => V.ref (ad x)) out := by
  induction e with
  | nil => exact .nil
  | cons h t ih => exact .cons h ih
end
def tSortP {β : Type} (ad : β → Addr) (ln : β → Nat) (T : List (Addr × Str)) (K : PySem.W.Frag) (te : TE) : TE := fun σ H Q => te σ H fun v H1 => ∃ (l : Addr) (ams : List β), v = .ref l ∧ SqL K H1 l (ams.map fun x => V.ref (ad x)) ∧ (∀ x ∈ ams, ∃ (a b : V) (c : Addr) (zs : List V), SqT K H1 (ad x) [a, b, .ref c] ∧ SqL K H1 c zs ∧ zs.length = ln x) ∧ ams.length ≤ sizeLine ∧ Tabs T H1 ∧
  ∀ (H2 : Hp) (p : Addr), ExtN H1 H2 → Tabs T H2 → NewT H1 p → H2 p = some (.lst ((sortB ln ams).map fun x => V.ref (ad x))) → Q (.ref p) H2
section
variable {X : Cx} {e : Expr} {te : TE} {T : List (Addr × Str)} {c P : Addr} {p p1 p2 p3 p4 p5 p6 q kpos pos : Pos} {β : Type} {ad : β → Addr} {ln : β → Nat}
theorem pe_sortedP (hr : Room 0 X.A) (hg : Gl X "sorted") (hm : X.mg "sorted" = none) (hlen : X.mg "len" = none) (TB : TabB X.base X.mg c P) (hcode : X.env.code = .ref c) (hmT : (P, X.env.qual ++ "<lambda>") ∈ T) (hu : ∀ p ∈ T, p.1 = P → p.2 = X.env.qual ++ "<lambda>") (he : PE X e te)
    (hes : backTo pos (starEach [e] X.env) = (false, eval e X.env) :: backTo pos (starEach [] X.env) := by rfl) (hpl : (backTo pos (starEach [e] X.env)).any (·.1) = false := by rfl) :
    PE X (.Call (.Name "sorted" q) [e] [⟨some "key", .Lambda (lpPar p) (lpBody p1 p2 p3 p4 p5) lpScope p6, kpos⟩] pos) (tSortP ad ln T X.K te) := by
  refine ⟨fun pins s σ H Q I h => ?_⟩
  refine wpAny_Call_Name_kw (ld_blt (u := .builtin "sorted") I hg hm (by decide +kernel) ?_)
  refine callWith_kw ?_ hes hpl rfl rfl
  rw [hes]
  refine spliced_cons (thn (he.run pins s σ H _ I h) fun u s1 ⟨v, H1, I1, rv, l, ams, ev, hl, ht, hz, tb, q⟩ => spliced_nil ?_)
  subst ev
  obtain rfl : u = Value.ref l := rv
  show wpAny _ _ (evalAll [do let v ← eval (.Lambda (lpPar p) (lpBody p1 p2 p3 p4 p5) lpScope p6) X.env; standAt pos; pure v]) _ _ s1
  refine wpAny_evalAll_cons (wpAny_bind (LamX.lam_make2 I1 TB hcode hmT hu tb rfl (fun y hy z => ?_) fun f c' pm ctv H2 s2 I2 ex tb2 hf nf _ hc => wpAny_bind (wpAny_standAt (wpAny_pure (wpAny_evalAll_nil ?_)))))
  · simp only [List.mem_cons, List.not_mem_nil, or_false] at hy
    rcases hy with rfl | rfl <;> cases z
  show wpAny _ _ (call (.builtin "sorted") [.ref l] [(Str.ofString "key", .ref f)]) _ _ s2
  obtain ⟨its, rl, pl, hz2⟩ := I2.list (hl.extN ex)
  have lits := rl.length
  rw [List.length_map] at lits
  obtain ⟨⟨oc, vs, tq, hoc, hd, hv⟩, _, _⟩ := I2.hok c' _ hc
  obtain ⟨mb, hb1, hb2⟩ := I2.mod.blt
  refine PySem.W.sorted_key_data (b := false) (fun x : β => PyData.int (ln x : Int)) pl.isList (each_of_vals rl) (fun d hd d' hd' => ?_) (.inr fun d hd => ?_) hz (fun x _ => ?_) (PyProof.Rows.ksk_s1 _ _) (fun x => PyProof.Rows.ksk_l1 _ _) (fun x => PyProof.Rows.ksk_t1 _ _) (fun v x hR hx h tk kp => ?_) fun out cc h' tk kp n0 hp lo eo => ?_
  · obtain ⟨x, _, rfl⟩ := List.mem_map.mp hd
    obtain ⟨y, _, rfl⟩ := List.mem_map.mp hd'
    rfl
  · obtain ⟨x, _, rfl⟩ := List.mem_map.mp hd
    exact ⟨nofun, fun _ => nofun⟩
  · have := hr.un
    show X.A.units + 2 + PyData.depth (.int _) < cLine
    simp [PyData.depth]
    omega
  · subst hR
    obtain ⟨a1, b1, c1, zs, hx1, hx2, hx3⟩ := ht x hx
    have I3 : Inv X pins σ H2 { s2 with heap := h, toks := tk } := I2.kept kp
    obtain ⟨its2, rv2, tp, hz3⟩ := I3.tuple (hx1.extN ex)
    obtain ⟨its3, rv3, lp, hz4⟩ := I3.list (hx2.extN ex)
    have l2 := rv2.length
    have l3 := rv3.length
    have i2 : its2.toArray[2]? = some (.ref c1) := by
      cases rv2 with
      | cons _ r => cases r with
        | cons _ r => cases r with
          | cons h r => cases h; rfl
    have e4 : (ln x : Int) = (its3.toArray.size : Int) := by rw [List.size_toArray, ← l3, hx3]
    rw [e4]
    exact lam_keyP (s := { s2 with heap := h, toks := tk }) hr.depth (kp _ _ hf) ⟨c', oc, vs, tq, rfl, kp _ _ hoc, hd, hv⟩ I3.nolimit (I3.mod.glob.keeps I3.bk) hlen (hb1.keeps I3.bk) ((hb2 _ (by decide)).trans (by decide +kernel)) (let ⟨o, ho, hc, n, hd⟩ := tp; ⟨o, ho, hc, n, hd⟩) i2 (by rw [List.size_toArray, ← l2]; rfl) lp.isList (by rw [List.size_toArray, ← l3]; exact hz4)
  · have lo2 : (sortB ln ams).length ≤ sizeLine := by unfold sortB; rw [List.length_mergeSort]; exact hz
    refine ⟨.ref (s2.heap.objs.size + 1), _, I2.laid (t' := tk) (o := .lst ((sortB ln ams).map fun x => V.ref (ad x))) kp (Nat.le_succ _) ⟨by rw [List.length_map]; exact lo2, _, cc, vals_of_each eo, hp⟩, rfl, ?_⟩
    have np : H2 (s2.heap.objs.size + 1) = none := I2.hok.fresh (Nat.le_succ _)
    have up : ExtN H2 (upd H2 (s2.heap.objs.size + 1) (.lst ((sortB ln ams).map fun x => V.ref (ad x)))) := ExtN.of fun b o e => by rw [upd_ne (ne_of_none e np)]; exact e
    refine q _ _ (ex.trans up) (tb2.ext fun b o e => by rw [upd_ne (ne_of_none e np)]; exact e) ?_ upd_same
    intro o e1
    apply Classical.byContradiction
    intro no
    have z := ex _ _ e1 fun ps e2 => no ⟨ps, e2⟩
    rw [np] at z
    cases z
end
end L2

set_option Elab.async false
set_option linter.all false
set_option maxRecDepth 100000
set_option maxHeartbeats 1000000
/-! {names: .. for .. in a form's dict} -/
namespace L2
open PySem PySem.Spec PyProof.Rows
/-- a comprehension over n turns: Pv by the turn and the heap (the new dict at D within) -/
theorem dcN_it {P : Program} {w : World} {K : PySem.W.Frag} {J : It} {n : Nat} {G : Hp → Prop} {Y : Nat → Hp → V → Hp → Prop} (wk : Walk J n G Y) {g : TG} {tt : TT} {tk tv : TE} {vs : List Nat} {σ : St} {H1 : Hp} {D : Addr} {Qd : Hp → Prop} (Pv : Nat → Hp → Prop) (h0 : Pv 0 (upd H1 D (DfO P w D [])))
    (hG : ∀ i H, i ≤ n → Pv i H → G H) (hs : ∀ i x H H', i < n → Pv i H → Y i H x H' → g x (wipe σ vs) H' fun σ2 H2 => wipe σ2 vs = wipe σ vs ∧ tt σ2 H2 fun b H3 =>
      if b = true then tk σ2 H3 fun y H4 => tv σ2 H4 fun z H5 => TurnN P w K D (Pv (i + 1)) y z H5 else Pv (i + 1) H3) (hd : ∀ H, Pv n H → Qd H) :
    ∃ W : Nat → Nat → Hp → Prop, (∃ m, W 0 m (upd H1 D (DfO P w D []))) ∧ ∀ i m H, W i m H →
      (J.stop i H ∧ Qd H) ∨ (J.go i H ∧ ∃ Nx : Hp → Prop, (∀ H', Nx H' → ∃ m', m' < m ∧ W (i + 1) m' H') ∧ ∀ x H', J.yld i H x H' → g x (wipe σ vs) H' fun σ2 H2 => wipe σ2 vs = wipe σ vs ∧ tt σ2 H2 fun b H3 =>
        if b = true then tk σ2 H3 fun y H4 => tv σ2 H4 fun z H5 => TurnN P w K D Nx y z H5 else Nx H3) := by
  refine ⟨fun i m H => m + i = n ∧ Pv i H, ⟨n, rfl, h0⟩, fun i m H hw => ?_⟩
  obtain ⟨hm, p⟩ := hw
  have q := hG i H (by omega) p
  cases m with
  | zero =>
    have hi : i = n := by omega
    subst hi
    exact .inl ⟨wk.stops H q, hd H p⟩
  | succ k => exact .inr ⟨wk.goes i H (by omega) q, Pv (i + 1), fun H' p' => ⟨k, Nat.lt_succ_self k, by omega, p'⟩, fun x H' y => hs i x H H' (by omega) p (wk.yields i H x H' (by omega) q y)⟩
/-- the terms that p keeps, their coefficients by f -/
def mapM (p : Rat → Bool) (f : Rat → Rat) (fm : Fm) : Fm := (fm.filter fun x => p x.2).map fun x => (x.1, f x.2)
theorem mapM_keys {p : Rat → Bool} {f : Rat → Rat} {fm : Fm} {m : MonR} (h : m ∈ (mapM p f fm).map (·.1)) : m ∈ fm.map (·.1) := by
  unfold mapM at h
  rw [List.map_map] at h
  obtain ⟨x, hx, e⟩ := List.mem_map.mp h
  exact List.mem_map.mpr ⟨x, (List.mem_filter.mp hx).1, e⟩
theorem mapM_snoc {p : Rat → Bool} {f : Rat → Rat} {fm : Fm} {m : MonR} {q : Rat} : mapM p f (fm ++ [(m, q)]) = if p q = true then mapM p f fm ++ [(m, f q)] else mapM p f fm := by
  unfold mapM
  rw [List.filter_append]
  by_cases c : p q = true
  · rw [if_pos c, List.filter_cons, if_pos c, List.filter_nil, List.map_append]
    rfl
  · rw [if_neg c, List.filter_cons, if_neg c, List.filter_nil, List.append_nil]
theorem mapM_nodup {p : Rat → Bool} {f : Rat → Rat} {fm : Fm} (h : (fm.map (·.1)).Nodup) : ((mapM p f fm).map (·.1)).Nodup := by
  unfold mapM
  rw [List.map_map]
  exact List.Nodup.sublist ((List.filter_sublist).map _) h
theorem take_snoc {α : Type} {l : List α} {i : Nat} {x : α} (h : l[i]? = some x) : l.take (i + 1) = l.take i ++ [x] := by
  rw [List.take_succ, h]
  rfl
theorem nodup_new {fm : Fm} (h : (fm.map (·.1)).Nodup) {i : Nat} {m : MonR} {q : Rat} (e : fm[i]? = some (m, q)) : m ∉ (fm.take i).map (·.1) := by
  intro z
  rw [List.map_take] at z
  obtain ⟨j, hj⟩ := List.getElem?_of_mem z
  have hji : j < i := by
    rcases Nat.lt_or_ge j i with c | c
    · exact c
    · rw [List.getElem?_eq_none (by rw [List.length_take]; omega)] at hj
      cases hj
  rw [List.getElem?_take_of_lt hji] at hj
  have e' : (fm.map (·.1))[i]? = some m := by rw [List.getElem?_map, e]; rfl
  obtain ⟨li, ei⟩ := List.getElem?_eq_some_iff.mp e'
  obtain ⟨lj, ej⟩ := List.getElem?_eq_some_iff.mp hj
  have := (List.getElem_inj (xs := fm.map (·.1)) h).mp (ej.trans ei.symm)
  omega
/-- over d.items(): what a turn does with a term -/
theorem dcN_fm {P : Program} {w : World} {K : PySem.W.Frag} {H1 : Hp} {d D : Addr} {o : Obj} {l : NAV} {fm : Fm} {p : Rat → Bool} {f : Rat → Rat} {g : TG} {tt : TT} {tk tv : TE} {vs : List Nat} {σ : St} {Qd : Hp → Prop}
    (hd : H1 d = some (.frz o (DfO P w d l))) (hD : H1 D = none) (hf : FmKv K H1 l fm) (hn : (fm.map (·.1)).Nodup) (hz : fm.length ≤ sizeLine)
    (hs : ∀ (i : Nat) (m : MonR) (q : Rat) (H' : Hp) (T b a : Addr) (put : V → V → Hp → Prop) (skip : Hp → Prop), fm[i]? = some (m, q) → Same H1 H' → H' T = some (.tup [.ref b, .ref a]) → TupN H' b ((kS m).map kV) → SqT K H' a (frac q) →
      (p q = true → ∀ H5 (b' a' : Addr), Same H' H5 → TupN H5 b' ((kS m).map kV) → SqT K H5 a' (frac (f q)) → put (.ref b') (.ref a') H5) → (p q = false → ∀ H5, Same H' H5 → skip H5) →
      g (.ref T) (wipe σ vs) H' fun σ2 H2 => wipe σ2 vs = wipe σ vs ∧ tt σ2 H2 fun c H3 => if c = true then tk σ2 H3 fun y H4 => tv σ2 H4 fun z H5 => put y z H5 else skip H3)
    (hq : ∀ H' l', Same H1 H' → H' D = some (DfO P w D l') → FmKv K H' l' (mapM p f fm) → Qd H') :
    ∃ W : Nat → Nat → Hp → Prop, (∃ m, W 0 m (upd H1 D (DfO P w D []))) ∧ ∀ i m H, W i m H →
      ((ItiN P w d o l).stop i H ∧ Qd H) ∨ ((ItiN P w d o l).go i H ∧ ∃ Nx : Hp → Prop, (∀ H', Nx H' → ∃ m', m' < m ∧ W (i + 1) m' H') ∧ ∀ x H', (ItiN P w d o l).yld i H x H' → g x (wipe σ vs) H' fun σ2 H2 => wipe σ2 vs = wipe σ vs ∧ tt σ2 H2 fun b H3 =>
        if b = true then tk σ2 H3 fun y H4 => tv σ2 H4 fun z H5 => TurnN P w K D Nx y z H5 else Nx H3) := by
  refine dcN_it walk_itemsN (fun i H' => Same H1 H' ∧ ∃ l', H' D = some (DfO P w D l') ∧ FmKv K H' l' (mapM p f (fm.take i))) ⟨Same.upd hD, [], upd_same, .nil⟩ (fun i H _ q => q.1 _ _ hd) ?_ ?_
  · rintro i x H H' hi ⟨S, l', hD', kv'⟩ ⟨T, k, qb, av, hkv, rfl, nT, rfl⟩
    obtain ⟨m, q, b, a, hm, e, tb, sa⟩ := hf.get hkv
    obtain ⟨rfl, e2⟩ := Prod.mk.inj e
    obtain ⟨rfl, rfl⟩ := Prod.mk.inj e2
    have S2 : Same H (upd H T (.tup [.ref qb, .ref av])) := Same.upd nT
    have hD2 := S2 _ _ hD'
    have tk1 := take_snoc hm
    have ml : (mapM p f (fm.take i)).length ≤ i := by
      unfold mapM
      rw [List.length_map]
      exact Nat.le_trans (List.length_filter_le _ _) (by rw [List.length_take]; exact Nat.min_le_left _ _)
    have hil : i < fm.length := by rw [← hf.length]; exact hi
    refine hs i m q _ T qb av _ _ hm (S.trans S2) upd_same ((tb.same S).same S2) ((sa.same S).same S2) (fun pq H5 b' a' S5 hb' sa' => ?_) (fun pq H5 S5 => ?_)
    · have k5 : FmKv K H5 l' (mapM p f (fm.take i)) := (kv'.same S2).same S5
      refine ⟨l', kS m, b', a', rfl, rfl, hb'.sq, S5 _ _ hD2, k5.keys, ?_, ?_, ?_⟩
      · rw [kv'.length]
        omega
      · intro c u e
        rw [upd_ne (ne_of_none e hD)]
        exact S5 _ _ (S2 _ _ (S _ _ e))
      · refine ⟨_, upd_same, ?_⟩
        rw [tk1, mapM_snoc, if_pos pq]
        have n5 : m ∉ (mapM p f (fm.take i)).map (·.1) := fun z => nodup_new hn hm (mapM_keys z)
        have k6 := k5.put m hb' sa'
        rw [putM_new _ n5] at k6
        exact k6.imp (.off (S5 _ _ hD2) noTup_df)
    · refine ⟨(S.trans S2).trans S5, l', S5 _ _ hD2, ?_⟩
      rw [tk1, mapM_snoc, if_neg (by rw [pq]; exact Bool.false_ne_true)]
      exact (kv'.same S2).same S5
  · rintro H ⟨S, l', hD', kv'⟩
    rw [hf.length, List.take_length] at kv'
    exact hq H l' S hD' kv'
/-- the dict locked, its items walked by a dict comprehension, the dict open again -/
theorem lock_items {P : Program} {w : World} {K : PySem.W.Frag} {H : Hp} {d : Addr} {l : NAV} {fm : Fm} {p : Rat → Bool} {f : Rat → Rat} {td : TE} {g : TG} {tt : TT} {tk tv : TE} {vs : List Nat} {σ : St} {Q : VK}
    (hd : H d = some (DfO P w d l)) (hf : FmKv K H l fm) (hn : (fm.map (·.1)).Nodup) (hz : fm.length ≤ sizeLine)
    (hte : ∀ (od : Obj) (R : VK), R (.ref d) (upd H d (.frz od (DfO P w d l))) → td σ (upd H d (.frz od (DfO P w d l))) R)
    (hs : ∀ (H1 : Hp), Mv K H H1 → ∀ (i : Nat) (m : MonR) (q : Rat) (H' : Hp) (T b a : Addr) (put : V → V → Hp → Prop) (skip : Hp → Prop), fm[i]? = some (m, q) → Same H1 H' → H' T = some (.tup [.ref b, .ref a]) → TupN H' b ((kS m).map kV) → SqT K H' a (frac q) →
      (p q = true → ∀ H5 (b' a' : Addr), Same H' H5 → TupN H5 b' ((kS m).map kV) → SqT K H5 a' (frac (f q)) → put (.ref b') (.ref a') H5) → (p q = false → ∀ H5, Same H' H5 → skip H5) →
      g (.ref T) (wipe σ vs) H' fun σ2 H2 => wipe σ2 vs = wipe σ vs ∧ tt σ2 H2 fun c H3 => if c = true then tk σ2 H3 fun y H4 => tv σ2 H4 fun z H5 => put y z H5 else skip H3)
    (hq : ∀ H' D l', Same H H' → H D = none → H' D = some (DfO P w D l') → FmKv K H' l' (mapM p f fm) → Q (.ref D) H') :
    tLockE (tDcN P w K (iItemsN P w td) g tt tk tv vs) σ H Q := by
  refine ⟨d, DfO P w d l, hd, trivial, fun od => ?_⟩
  have M1 : Mv K H (upd H d (.frz od (DfO P w d l))) := .off hd noTup_df
  refine hte od _ ⟨d, od, l, rfl, upd_same, fun D nD => ?_⟩
  have neD : D ≠ d := by
    rintro rfl
    rw [upd_same] at nD
    cases nD
  have nD' : H D = none := by rwa [upd_ne neD] at nD
  refine dcN_fm (p := p) (f := f) upd_same nD (hf.imp M1) hn hz (hs _ M1) fun H' l' S hD kv => ⟨S _ _ upd_same, ?_⟩
  exact hq _ D l' (same_back hd S) nD' (by rw [upd_ne neD]; exact hD) (kv.imp (.off (S _ _ upd_same) noTup_fz))
end L2

set_option Elab.async false
set_option linter.all false
set_option maxRecDepth 100000
set_option maxHeartbeats 2000000
/-! sorted of a set of texts; a set of texts from a form's terms -/
namespace L2
open PySem PySem.Spec PyProof.Rows
def rSortedSS (P : Program) (w : World) : List V → Hp → VK → Prop := fun vs H Q => ∃ (a : Addr) (ks : List Str), vs = [V.ref a] ∧ H a = some (SetSO P w a ks) ∧ ∀ ys : List Str, ys.Perm ks → ks.Nodup → sortedS ys = true → NewQ H (.lst (ys.map V.str)) Q
theorem cr_sortedSS {X : Cx} (hc : X.calm = true) : CallR X (.builtin "sorted") (rSortedSS X.prog X.w) := by
  intro pins s σ H vs us Q I r h
  obtain ⟨a, ks, rfl, ha, q⟩ := h
  have R := setSO_get I ha
  rw [Vals.ref1 r]
  refine setS_sorted R (I.ok.hd hc) fun s' p out c ys kp gn os pn ho ss pm so => ?_
  obtain ⟨_, es, _, _, _, _, _, _, pm0, nd, hb, _⟩ := R
  have lk : ks.length = es.size := by rw [← pm0.length_eq, List.length_map, Array.length_toList]
  have hlen : (ys.map V.str).length ≤ sizeLine := by
    rw [List.length_map, pm.length_eq, lk]
    exact fits_of_scanBound hb
  have I2 : Inv X pins σ (upd H p (.lst (ys.map V.str))) { s with heap := s'.heap, toks := s.toks } := I.laid (t' := s.toks) kp pn ⟨hlen, _, c, vals_of_strs ss, ho⟩
  have I3 : Inv X pins σ (upd H p (.lst (ys.map V.str))) s' := I2.call' (ch := []) os (Un.kept fun _ _ e => e) (I2.hok.kept fun _ _ e => e) (by rw [gn]; exact I2.bare) (fun _ z => nomatch z)
  exact ⟨.ref p, _, I3, rfl, (q ys pm nd so).at (I.hok.fresh pn)⟩
theorem mem_putS {ks : List Str} {x z : Str} : x ∈ putS ks z ↔ x ∈ ks ∨ x = z := by
  unfold putS
  split
  · rename_i h
    exact ⟨.inl, fun q => q.elim id fun e => e ▸ h⟩
  · rw [List.mem_cons]
    exact ⟨fun q => q.elim .inr .inl, fun q => q.elim .inr .inl⟩
theorem len_putS (ks : List Str) (z : Str) : (putS ks z).length ≤ ks.length + 1 := by
  unfold putS
  split
  · exact Nat.le_succ _
  · exact Nat.le_refl _
/-- these texts, laid one by one -/
def putAll (ks xs : List Str) : List Str := xs.foldl putS ks
theorem mem_putAll : ∀ {xs ks : List Str} {x : Str}, x ∈ putAll ks xs ↔ x ∈ ks ∨ x ∈ xs
  | [], ks, x => by simp [putAll]
  | z :: xs, ks, x => by
    show x ∈ putAll (putS ks z) xs ↔ _
    rw [mem_putAll, mem_putS, List.mem_cons, or_assoc]
theorem len_putAll : ∀ (xs ks : List Str), (putAll ks xs).length ≤ ks.length + xs.length
  | [], ks => Nat.le_refl _
  | z :: xs, ks => by
    have h1 := len_putAll xs (putS ks z)
    have h2 := len_putS ks z
    show (putAll (putS ks z) xs).length ≤ _
    rw [List.length_cons]
    omega
theorem putAllS_snoc (ks xs : List Str) (z : Str) : putS (putAll ks xs) z = putAll ks (xs ++ [z]) := by unfold putAll; rw [List.foldl_append]; rfl
theorem nodup_putS {ks : List Str} {x : Str} (h : ks.Nodup) : (putS ks x).Nodup := by
  unfold putS
  split
  · exact h
  · rename_i c
    exact List.nodup_cons.mpr ⟨c, h⟩
theorem nodup_putAll : ∀ {xs ks : List Str}, ks.Nodup → (putAll ks xs).Nodup
  | [], _, h => h
  | z :: xs, ks, h => nodup_putAll (xs := xs) (nodup_putS (x := z) h)
theorem putAll_nodup {xs : List Str} : ∀ {ks : List Str}, xs.Nodup → (∀ x ∈ xs, x ∉ ks) → (putAll ks xs).length = ks.length + xs.length := by
  induction xs with
  | nil => intro ks _ _; rfl
  | cons z xs ih =>
    intro ks nd h
    have hz := h z List.mem_cons_self
    obtain ⟨n1, n2⟩ := List.nodup_cons.mp nd
    have e : putS ks z = z :: ks := by unfold putS; rw [if_neg hz]
    show (putAll (putS ks z) xs).length = _
    rw [e, ih n2 fun x hx => ?_]
    · rw [List.length_cons, List.length_cons]; omega
    · intro q
      rcases List.mem_cons.mp q with rfl | q
      · exact n1 hx
      · exact h x (List.mem_cons_of_mem _ hx) q
/-- len of a set of texts -/
theorem cr_lenSS {X : Cx} : CallR X (.builtin "len") (fun vs H Q => ∃ (a : Addr) (ks : List Str), vs = [V.ref a] ∧ H a = some (SetSO X.prog X.w a ks) ∧ Q (.int (ks.length : Nat)) H) := by
  intro pins s σ H vs us Q I r h
  obtain ⟨a, ks, rfl, ha, q⟩ := h
  obtain ⟨o, es, ep, t, ho, hex, hd, _, pm, _, hb, hf, _⟩ := setSO_get I ha
  rw [Vals.ref1 r]
  have lk : es.size = ks.length := by rw [← pm.length_eq, List.length_map, Array.length_toList]
  have hb' := fits_of_scanBound hb
  have := line63
  refine call_len_set ho hex hd hf (by omega) ⟨.int ks.length, H, I.tok _, ⟨_, by rw [lk]⟩, q⟩
end L2

set_option Elab.async false
set_option linter.all false
set_option maxRecDepth 100000
/-! set(xs), xs a list of texts -/
namespace L2
open PySem PySem.Spec PyProof.Rows
abbrev nSetT (w : World) : Obj := { cls := .type "set", dict := none, data := .set #[] 0 (.fresh 0 0 (!w.params.followText "set-order")) }
section
variable {P : Program} {w : World} {A : Around} {E : Value → Shared → Prop} {s : Shared} {l : Addr} {items : Array Value} {xs : List Str}
theorem setS_new_at {h : Heap} {a : Addr} (ho : h.get? a = some (nSetT w)) : SetS P w h a [] := by
  refine ⟨_, #[], 0, _, ho, ⟨rfl, rfl, rfl⟩, rfl, fun e he => absurd he (by simp), .nil, List.nodup_nil, by decide, rfl, List.Pairwise.nil, ?_⟩
  cases c : w.params.followText "set-order" with
  | true => exact .inl rfl
  | false => exact .inr rfl
theorem set_update_strs {I : Addr} {fp wr : List Addr} {G : Array GenState → Array GenState → Prop} {n : Nat} {Pv : Nat → Value → Prop} {St : Nat → Shared → Prop} {R : Result → Shared → Prop}
    (W : WalksS P w A.in1 I fp wr G n Pv St) (S : Addr) (hSf : S ∉ fp) (xs : List Str) (hn : n = xs.length) (hb : ∀ i, (putAll [] (xs.take i)).length + 1 < scanBound) (hval : ∀ i v, Pv i v → ∃ z t, xs[i]? = some z ∧ v = .str z t) :
    ∀ (k i : Nat) (s : Shared), n - i = k → i ≤ n → St i s → SetS P w s.heap S (putAll [] (xs.take i)) →
      (∀ s', Moved (S :: wr) G s s' → SetS P w s'.heap S (putAll [] xs) → R (.ok (.ret .none)) s') →
      codeAny (model P w) A (.builtin "set.update.loop" ⟨[.ref S, .ref I], []⟩) R s := by
  have hSw : S ∉ wr := fun h => hSf (W.sub _ h)
  have hsub : ∀ b ∈ wr, b ∈ S :: wr := fun b hb => List.mem_cons_of_mem _ hb
  intro k
  induction k with
  | zero =>
    intro i s hk' hi hst hS hR
    have hin : i = n := by omega
    subst hin
    refine codeAny_builtin F.entry_set_update_loop ?_
    rw [Around.under_plainId F.plain_set_update_loop _]
    show wpAny _ A.in1 (pyNext (.ref I) >>= _) _ _ s
    refine wpAny_bind (W.done s _ _ hst fun s' hm => ?_)
    show wpAny _ A.in1 (ret Value.none) _ _ s'
    have e : xs.take i = xs := List.take_of_length_le (by omega)
    rw [e] at hS
    exact wpAny_pure (hR s' (hm.mono hsub) (hS.at fun o e => hm.heap S o hSw e))
  | succ k ih =>
    intro i s hk' hi hst hS hR
    have hlt : i < n := by omega
    refine codeAny_builtin F.entry_set_update_loop ?_
    rw [Around.under_plainId F.plain_set_update_loop _]
    show wpAny _ A.in1 (pyNext (.ref I) >>= _) _ _ s
    refine wpAny_bind (W.item i s _ _ hlt hst fun v s' hP hst' hm => ?_)
    obtain ⟨z, t, hz, rfl⟩ := hval i v hP
    have hS' : SetS P w s'.heap S (putAll [] (xs.take i)) := hS.at fun o e => hm.heap S o hSw e
    have room := hb i
    show wpAny _ A.in1 (holding [Value.str z t] (setAdd S (.str z t)) >>= _) _ _ s'
    refine wpAny_bind (wpAny_holding ?_)
    unfold setAdd
    refine wpAny_holding ?_
    refine wpAny_bind ((PySem.strKind P w).pyHash (strKind_is P w z t) ?_)
    refine setS_hashed (s := { s' with toks := s'.toks + 1 }) hS' room fun _ h' hsb hS2 => ?_
    have hS3 : SetS P w h' S (putAll [] (xs.take (i + 1))) := by
      rw [take_snoc hz, ← putAllS_snoc]
      exact hS2
    refine wpAny_pure ⟨plainId_quiet F.plain_set_update_loop _, ih (i + 1) _ (by omega) hlt (W.frame _ s' _ _ hst' (Nat.le_succ _) fun b hb o e => ?_) hS3 fun s'' hm'' hS'' => ?_⟩
    · rw [hsb.2 b (fun h : b = S => hSf (by rw [← h]; exact hb))]; exact e
    · refine hR s'' (Moved.trans W.gtrans ((hm.mono hsub).then_heap (Nat.le_succ _) fun b o hb e => ?_) hm'') hS''
      rw [hsb.2 b (fun h : b = S => hb (by rw [h]; exact List.mem_cons_self))]; exact e
abbrev SetTDone (P : Program) (w : World) (s : Shared) (xs : List Str) (s₂ : Shared) : Prop := ∃ h' tk, s₂ = { s with heap := h', toks := tk } ∧ SetS P w h' s.heap.objs.size (putAll [] xs) ∧ ∀ b o, s.heap.get? b = some o → h'.get? b = some o
theorem strsV_at (hit : StrsAre items.toList xs) (i : Nat) (v : Value) (hv : items[i]? = some v) : ∃ z t, xs[i]? = some z ∧ v = .str z t := by
  have e : items.toList[i]? = some v := by rw [Array.getElem?_toList]; exact hv
  generalize items.toList = us at hit e
  clear hv
  induction hit generalizing i with
  | nil => cases e
  | cons n t r ih =>
    cases i with
    | zero => cases e; exact ⟨_, _, rfl, rfl⟩
    | succ i => exact ih i e
theorem strs_len {us : List Value} {xs : List Str} (h : StrsAre us xs) : us.length = xs.length := by
  induction h with
  | nil => rfl
  | cons n t r ih => simp [ih]
set_option maxHeartbeats 3200000 in
theorem set_init_strs (hh : A.handled = none) (hl : s.heap.IsList l items) (hit : StrsAre items.toList xs) (hb : ∀ i, (putAll [] (xs.take i)).length + 1 < scanBound) (T : Shared.TypeIs { s with heap := s.heap.push (nSetT w) } (.ref s.heap.objs.size) "set") {R : Result → Shared → Prop} (hR : ∀ s₂, SetTDone P w s xs s₂ → R (.ok (.ret .none)) s₂) :
    wpAny (model P w) A.in1 (Builtin.«set.__init__» ⟨[.ref s.heap.objs.size, .ref l], []⟩) (fun fin s' => match fin with | .done f => R (.ok f) s' | .again c' => c'.quiet = true ∧ codeAny (model P w) A c' R s') (fun e s' => R (.error e) s') { s with heap := s.heap.push (nSetT w) } := by
  have hS : (s.heap.push (nSetT w)).get? s.heap.objs.size = some (nSetT w) := Heap.get?_push_size _ rfl
  obtain ⟨⟨oc, od, dt, osl⟩, hol, rfl, nl, rfl⟩ := hl
  have h1 : (s.heap.push (nSetT w)).get? l = some { cls := .type "list", dict := od, data := .seq items nl, slots := osl } := Heap.get?_push_of_some _ hol
  have L1 : (s.heap.push (nSetT w)).IsList l items := ⟨_, h1, rfl, nl, rfl⟩
  have lS : l < s.heap.objs.size := Heap.lt_size hol
  have n1 := F.sub_list_set
  have n2 := F.sub_list_frozenset
  have n3 : (Value.type "list" == Value.type "dict") = false := by decide
  have isz : items.size = xs.length := by rw [← Array.length_toList]; exact strs_len hit
  unfold Builtin.«set.__init__» noKeywords Builtin.Frozenset.updateFrom
  generalize hPI : pyIter = PI
  wp_walk
  subst hPI
  refine wpAny_pyIter_list L1 ?_
  refine wpAny_bind (wpAny_runValue ?_)
  have sz : (s.heap.push (nSetT w)).objs.size = s.heap.objs.size + 1 := Heap.size_push ..
  have ne1 : l ≠ (s.heap.push (nSetT w)).objs.size := by rw [sz]; exact Nat.ne_of_lt (Nat.lt_succ_of_lt lS)
  have nf : s.heap.objs.size ∉ [(s.heap.push (nSetT w)).objs.size, l] := by
    rw [sz]
    simp only [List.mem_cons, List.not_mem_nil, or_false, not_or]
    exact ⟨Nat.ne_of_lt (Nat.lt_succ_self _), Nat.ne_of_gt lS⟩
  refine set_update_strs ((Walks.list (by simp [hh]) _ l ne1 items).toS) s.heap.objs.size nf xs isz hb (strsV_at hit) (items.size - 0) 0 _ (by omega) (Nat.zero_le _) ⟨⟨_, Heap.get?_push_size _ rfl, rfl, rfl⟩, L1.push _⟩ (setS_new_at (Heap.get?_push_of_some _ hS)) ?_
  rintro ⟨h', g2, d', tk', os'⟩ hm hS'
  obtain rfl : g2 = s.gens := hm.gens
  obtain rfl : d' = s.drawn := hm.drawn
  obtain rfl : os' = s.os := hm.os
  refine wpAny_pure ?_
  refine wpAny_pure (hR _ ⟨h', tk', rfl, hS', fun b o e => ?_⟩)
  have b0 : b < s.heap.objs.size := Heap.lt_size e
  refine hm.heap b o ?_ (Heap.get?_push_of_some _ (Heap.get?_push_of_some _ e))
  simp only [List.mem_cons, List.not_mem_nil, or_false, not_or]
  exact ⟨Nat.ne_of_lt b0, by rw [sz]; exact Nat.ne_of_lt (Nat.lt_succ_of_lt b0)⟩
set_option maxHeartbeats 3200000 in
theorem call_set_strs {Q : Value → Shared → Prop} (hh : A.handled = none) (hl : s.heap.IsList l items) (hit : StrsAre items.toList xs) (hb : ∀ i, (putAll [] (xs.take i)).length + 1 < scanBound) (h : ∀ s₂, SetTDone P w s xs s₂ → Q (.ref s.heap.objs.size) s₂) : wpAny (model P w) A (call (.type "set") [.ref l]) Q E s := by
  obtain ⟨c, tl, m1⟩ := F.called_set.mro
  have m2 := F.called_set.made
  have m3 := F.called_set.sub
  have m4 := F.called_set.notType
  have m5 := F.called_set.canCreate
  have m6 := F.typeCall_set_1 (.ref l)
  have T : Shared.TypeIs { s with heap := s.heap.push (nSetT w) } (.ref s.heap.objs.size) "set" := ⟨_, Heap.get?_push_size _ rfl, rfl⟩
  have m7 := F.called_set.init.lookup
  have m8 := F.called_set.init.bind (.ref s.heap.objs.size)
  refine wpAny_call (codeAny_of_tree (show wpAny _ _ (callAny (.type "set") _) _ _ _ from wpAny_pure ⟨Code.quiet_builtin _ (by decide +kernel), codeAny_builtin F.entry_type_call ?_⟩))
  rw [Around.under_plain (weight_type_call_type "set" [.ref l] []) rfl]
  repeat (any_goals (first | assumption | wp_step))
  refine codeAny_mono (code_set_led1 (.ref l) (E := E) (Q₁ := fun obj s₁ => obj = .ref s.heap.objs.size ∧ s₁ = { s with heap := s.heap.push (nSetT w) }) ⟨rfl, rfl⟩) fun r s₁ hr => ?_
  match r, hr with
  | .error e, hr => exact hr
  | .ok (.ret obj), ⟨e1, e2⟩ =>
    subst e1 e2
    repeat (any_goals (first | assumption | wp_step))
    refine codeAny_mono (codeAny_call_builtin (R := wants (fun r s₂ => r = .none ∧ SetTDone P w s xs s₂) E) F.called_set.init.plain F.entry_set_init (check_set_init_1 T (set_init_strs (by simp [hh]) hl hit hb T fun s₂ d => ⟨rfl, d⟩))) fun r₂ s₂ hr₂ => ?_
    match r₂, hr₂ with
    | .error e, hr₂ => exact hr₂
    | .ok (.ret r), ⟨e1, d⟩ =>
      subst e1
      repeat (any_goals (first | assumption | wp_step))
      exact h _ d
end
/-- set(xs), texts -/
def rSetLS (K : PySem.W.Frag) (P : Program) (w : World) : List V → Hp → VK → Prop := fun vs H Q => ∃ (a : Addr) (xs : List Str), vs = [V.ref a] ∧ SqL K H a (xs.map V.str) ∧ (∀ i, (putAll [] (xs.take i)).length + 1 < scanBound) ∧ ∀ p, H p = none → Q (.ref p) (upd H p (SetSO P w p (putAll [] xs)))
theorem cr_setLS {X : Cx} (hc : X.calm = true) : CallR X (.type "set") (rSetLS X.K X.prog X.w) := by
  intro pins s σ H vs us Q I r h
  obtain ⟨a, xs, rfl, hs, hz, q⟩ := h
  obtain ⟨its, rv, hl, _⟩ := I.list hs
  rw [Vals.ref1 r]
  refine call_set_strs (P := X.prog) (w := X.w) (I.ok.hd hc) hl.isList (by simpa using rv.strs) hz fun s₂ d => ?_
  obtain ⟨h', tk, rfl, R, k⟩ := d
  exact ⟨.ref s.heap.objs.size, _, I.laid (t' := tk) k (Nat.le_refl _) (setSO_new R), rfl, q _ (I.hok.fresh (Nat.le_refl _))⟩
end L2

set_option Elab.async false
set_option linter.all false
set_option maxRecDepth 100000
set_option maxHeartbeats 1000000
/-! the one sorted list of a list's texts; sums and products of forms as functions -/
namespace L2
open PySem PySem.Spec PyProof.Rows
theorem ltCps_eq : ∀ a b : List Nat, ltCps a b = decide (a < b)
  | [], [] => rfl
  | [], _ :: _ => by rw [decide_eq_true (List.nil_lt_cons _ _)]; rfl
  | _ :: _, [] => by rw [decide_eq_false (List.not_lt_nil _)]; rfl
  | x :: a, y :: b => by
    have ih := ltCps_eq a b
    unfold ltCps
    rw [ih]
    by_cases c : x < y
    · rw [decide_eq_true (List.cons_lt_cons_iff.mpr (.inl c))]
      simp [c]
    · by_cases d : x = y
      · subst d
        have : decide (x :: a < x :: b) = decide (a < b) := by
          by_cases e : a < b
          · rw [decide_eq_true e, decide_eq_true (List.cons_lt_cons_iff.mpr (.inr ⟨rfl, e⟩))]
          · rw [decide_eq_false e, decide_eq_false fun z => (List.cons_lt_cons_iff.mp z).elim (fun h => Nat.lt_irrefl _ h) fun h => e h.2]
        rw [this]
        simp
      · rw [decide_eq_false fun z => (List.cons_lt_cons_iff.mp z).elim c fun h => d h.1]
        simp [c, d]
/-- a ≤ b -/
def leT (a b : Str) : Bool := !ltCps b.cps.toList a.cps.toList
theorem leT_iff {a b : Str} : leT a b = true ↔ a.cps.toList ≤ b.cps.toList := by
  unfold leT
  rw [ltCps_eq]
  simp [List.not_lt]
theorem leT_trans {a b c : Str} (h : leT a b = true) (k : leT b c = true) : leT a c = true := leT_iff.mpr (List.le_trans (leT_iff.mp h) (leT_iff.mp k))
theorem leT_total (a b : Str) : leT a b = true ∨ leT b a = true := by
  rw [leT_iff, leT_iff]
  exact List.le_total _ _
theorem str_ext {a b : Str} (h : a.cps.toList = b.cps.toList) : a = b := by
  cases a
  cases b
  congr 1
  exact Array.toList_inj.mp h
theorem leT_anti {a b : Str} (h : leT a b = true) (k : leT b a = true) : a = b := str_ext (List.le_antisymm (leT_iff.mp h) (leT_iff.mp k))
theorem rising_pw : ∀ (r : List Str) (x : Str), risingS x r = true → List.Pairwise (fun a b => leT a b = true) (x :: r)
  | [], x, _ => List.pairwise_cons.mpr ⟨fun _ h => absurd h List.not_mem_nil, .nil⟩
  | y :: r, x, h => by
    rw [risingS.eq_2, Bool.and_eq_true] at h
    have ih := rising_pw r y h.2
    refine List.pairwise_cons.mpr ⟨fun z hz => ?_, ih⟩
    rcases List.mem_cons.mp hz with rfl | hz
    · exact h.1
    · exact leT_trans h.1 ((List.pairwise_cons.mp ih).1 z hz)
theorem sorted_pw {l : List Str} (h : sortedS l = true) : List.Pairwise (fun a b => leT a b = true) l := by
  cases l with
  | nil => exact .nil
  | cons x r => exact rising_pw r x h
def insT (x : Str) : List Str → List Str
  | [] => [x]
  | y :: r => if leT x y then x :: y :: r else y :: insT x r
def sortT (l : List Str) : List Str := l.foldr insT []
theorem insT_perm (x : Str) : ∀ l, (insT x l).Perm (x :: l)
  | [] => List.Perm.refl _
  | y :: r => by
    unfold insT
    split
    · exact List.Perm.refl _
    · exact ((insT_perm x r).cons y).trans (List.Perm.swap x y r)
theorem sortT_perm : ∀ l, (sortT l).Perm l
  | [] => List.Perm.refl _
  | x :: r => (insT_perm x _).trans ((sortT_perm r).cons x)
theorem insT_pw (x : Str) : ∀ l, List.Pairwise (fun a b => leT a b = true) l → List.Pairwise (fun a b => leT a b = true) (insT x l)
  | [], _ => List.pairwise_cons.mpr ⟨fun _ h => absurd h List.not_mem_nil, .nil⟩
  | y :: r, h => by
    unfold insT
    split
    · rename_i c
      refine List.pairwise_cons.mpr ⟨fun z hz => ?_, h⟩
      rcases List.mem_cons.mp hz with rfl | hz
      · exact c
      · exact leT_trans c ((List.pairwise_cons.mp h).1 z hz)
    · rename_i c
      refine List.pairwise_cons.mpr ⟨fun z hz => ?_, insT_pw x r (List.pairwise_cons.mp h).2⟩
      rcases List.mem_cons.mp ((insT_perm x r).mem_iff.mp hz) with rfl | hz
      · exact (leT_total _ _).resolve_left c
      · exact (List.pairwise_cons.mp h).1 z hz
theorem sortT_pw : ∀ l, List.Pairwise (fun a b => leT a b = true) (sortT l)
  | [] => .nil
  | x :: r => insT_pw x _ (sortT_pw r)
/-- sorted lists of the same texts are the same -/
theorem sortT_one {l ys : List Str} (p : ys.Perm l) (s : sortedS ys = true) : ys = sortT l :=
  List.Perm.eq_of_pairwise (le := fun a b => leT a b = true) (fun _ _ _ _ => leT_anti) (sorted_pw s) (sortT_pw l) (p.trans (sortT_perm l).symm)
end L2

set_option Elab.async false
set_option linter.all false
set_option maxRecDepth 100000
set_option maxHeartbeats 1000000
/-! f(k=v, ..): a def called with keywords alone -/
namespace L2
open PySem PySem.Spec PyProof.Rows
def CalK (P : Program) (w : World) (K : PySem.W.Frag) (mg : Str → Option Value) (base : Heap) (k : Nat) (x : Str) (sp : Sp) (ks : List Str) (gV : List V → List V → List V) : Prop :=
  ∃ (f : Addr) (fd : FuncData) (ps : List Str) (g : List Value → List Value → List Value), FnOk P w K mg base CX0 k f fd ps sp ∧ mg x = some (.ref f) ∧ PySem.W.keepIn K (.ref f) = true ∧ KBinds K fd ps ks g gV
section
variable {X : Cx} {k j : Nat} {x : Str} {sp : Sp} {ks : List Str} {gV : List V → List V → List V} {p pos : Pos} {kws : List Keyword} {tk : TA}
theorem pe_cK (c : CalK X.prog X.w X.K X.mg X.base k x sp ks gV) (hr : Room j X.A) (hk : k ≤ j) (hg : Gl X x) (hkw : PK X kws tk)
    (hall : (backToKw pos (keywordEach kws X.env)).all (·.1.isSome) = true := by rfl) (hks : (backToKw pos (keywordEach kws X.env)).filterMap (·.1) = ks := by rfl)
    (hdb : (x == ("__debug__" : Str)) = false := by decide)
    (hpl : ((backTo pos (starEach [] X.env)).any (·.1) || (backToKw pos (keywordEach kws X.env)).any (·.1.isNone)) = false := by rfl) :
    PE X (.Call (.Name x p) [] kws pos) (tCallK sp gV C8.E0 tNil tk) := by
  obtain ⟨f, fd, ps, g, F, hm, kp, hb⟩ := c
  refine ⟨fun pins s σ H Q I h => ?_⟩
  refine wpAny_Call_Name_kw (ld_glob I hg hm ?_ hdb)
  refine PySem.W.callWith_KW0 (h₀ := X.base) I.ok.mod.kin kp hall (thn (hkw.run pos pins s σ H _ I h) fun ws s2 ⟨zs, H2, I2, rz, q2⟩ => ⟨I2.kIn, ?_⟩) hpl
  rw [hks]
  exact run_fnk F (hr.mono hk) hb pass0 I2 .nil rz q2
end
end L2

set_option Elab.async false
set_option linter.all false
set_option maxRecDepth 100000
set_option maxHeartbeats 1000000
/-! the row's statements -/
namespace E4
open PySem PySem.Spec PyProof.Rows L2
open C8 (Cal Mak Met InsC pe_c pe_mt pe_mt0 call_isC clsBody)
def top (i : Nat) : Stmt := PySem.Challenge.pw_cellplaces_k65_moves_by_name.main.body.getD i (.Pass ⟨0, 0, 0, 0⟩)
abbrev sIsWhole : Stmt := top 13
abbrev sIsLetter : Stmt := top 14
abbrev sProductAt : Stmt := top 22
abbrev sPlain : Stmt := top 27
abbrev sOwnOrder : Stmt := top 28
abbrev sHole : Stmt := top 29
abbrev sCheckTable : Stmt := top 30
abbrev sCheckOwn : Stmt := top 31
abbrev sIsSides : Stmt := top 32
abbrev sIsSide : Stmt := top 33
abbrev sIsProduct : Stmt := top 34
abbrev sNamesOf : Stmt := top 35
abbrev sOrdered : Stmt := top 36
abbrev sMisfit : Stmt := top 37
abbrev sLeftOf : Stmt := top 38
abbrev sTwos : Stmt := top 39
def meth (i : Nat) : Stmt := (clsBody sPlain).getD i (.Pass ⟨0, 0, 0, 0⟩)
abbrev sInit : Stmt := meth 0
abbrev sEq : Stmt := meth 1
abbrev sSides : Stmt := meth 3
abbrev sSizes : Stmt := meth 4
end E4

set_option Elab.async false
set_option linter.all false
set_option maxRecDepth 100000
set_option maxHeartbeats 0
/-! the head's own run, before all else: it wants the most memory -/
namespace E4
open PySem PySem.Spec PyProof.Rows L2 He Hb
open C8 (Cal Mak Met InsC)
open LamX (Tabs ExtN TabB CodeO TabS)
/-- a def of the text, by its statement -/
def dX (at_ : Str × Option Str) (name qual : Str) (st : Stmt) : DefD := { at_ := at_, name := name, qual := qual, params := defArgs st, body := defBody st, scope := defScope st, dfl := [] }
theorem plainD {K : PySem.W.Frag} {x qual : Str} {st : Stmt} {f : Addr} {fd : FuncData} (F : FunD K x qual (defArgs st) (defBody st) (defScope st) [] [] f fd) : L2.Fun K x qual st f fd := by
  obtain ⟨oc, od, dV, kV, doc, pm, an, cdv, ct, osl, rfl, lk, hcd, hD, hK⟩ := F.ex
  rcases hD with ⟨_, rfl⟩ | ⟨e, _⟩
  · exact ⟨⟨oc, od, kV, doc, pm, an, cdv, ct, osl, rfl, lk, hcd⟩, F.kp⟩
  · exact absurd rfl e
theorem funX {fa : List Fa} {fn : List DefD} {K : PySem.W.Frag} (c : SaysD fa fn K) (i : Nat) {at_ : Str × Option Str} {name qual : Str} {st : Stmt} (h : fn[i]? = some (dX at_ name qual st) := by rfl) : ∃ fd, L2.Fun K name qual st (fAd K at_) fd :=
  let ⟨fd, F⟩ := c.def_ i h
  ⟨fd, plainD F⟩
def neB (K : PySem.W.Frag) (C : Addr) : Bool := eqO (PySem.W.findIn K (.ref C) "__ne__") (some (some (.builtin "object.__ne__"))) && (eqO (PySem.W.findIn K (.ref C) "__eq__") (some (some (.ref (ma K C "__eq__")))) && (PySem.W.isFn K (.ref (ma K C "__eq__")) && decide (PySem.W.subIn K (.ref C) (.type "object") = some true)))
def methF (i : Nat) : Stmt := (C8.clsBody (top 17)).getD i (.Pass ⟨0, 0, 0, 0⟩)
def fnR : List DefD := [dX ("is_whole", none) "is_whole" "is_whole" (top 13),
  dX ("is_letter", none) "is_letter" "is_letter" (top 14),
  dX ("number", none) "number" "number" (top 18),
  dX ("product_form", none) "product_form" "product_form" (top 19),
  dX ("right_side", none) "right_side" "right_side" (top 20),
  dX ("without_noughts", none) "without_noughts" "without_noughts" (top 21),
  dX ("product_at", none) "product_at" "product_at" (top 22),
  dX ("lowest", none) "lowest" "lowest" (top 23),
  dX ("fraction_sum", none) "fraction_sum" "fraction_sum" (top 24),
  dX ("own_order", none) "own_order" "own_order" (top 28),
  dX ("hole", none) "hole" "hole" (top 29),
  dX ("check_table", none) "check_table" "check_table" (top 30),
  dX ("check_own_places", none) "check_own_places" "check_own_places" (top 31),
  dX ("is_sides", none) "is_sides" "is_sides" (top 32),
  dX ("is_side", none) "is_side" "is_side" (top 33),
  dX ("is_product", none) "is_product" "is_product" (top 34),
  dX ("names_of", none) "names_of" "names_of" (top 35),
  dX ("ordered", none) "ordered" "ordered" (top 36),
  dX ("misfit", none) "misfit" "misfit" (top 37),
  dX ("left_of", none) "left_of" "left_of" (top 38),
  dX ("twos", none) "twos" "twos" (top 39),
  dX ("jumps", none) "jumps" "jumps" (top 41),
  dX ("smooth", none) "smooth" "smooth" (top 42),
  dX ("kept", none) "kept" "kept" (top 43),
  dX ("arranged", none) "arranged" "arranged" (top 44),
  dX ("joined", none) "joined" "joined" (top 45),
  dX ("same_run", none) "same_run" "same_run" (top 46),
  dX ("primes", none) "primes" "primes" (top 49),
  dX ("first_unlike", none) "first_unlike" "first_unlike" (top 50),
  dX ("check_walk", none) "check_walk" "check_walk" (top 47),
  dX ("inside_out", none) "inside_out" "inside_out" (top 48),
  dX ("_law_purse", none) "_law_purse" "_law_purse" (top 52),
  dX ("_law_mixed", none) "_law_mixed" "_law_mixed" (top 53),
  dX ("_law_draw", none) "_law_draw" "_law_draw" (top 54),
  dX ("_law_one_of", none) "_law_one_of" "_law_one_of" (top 55),
  dX ("_law_shuffled", none) "_law_shuffled" "_law_shuffled" (top 56),
  dX ("_law_letters", none) "_law_letters" "_law_letters" (top 57),
  dX ("_law_names", none) "_law_names" "_law_names" (top 58),
  dX ("_law_chain", none) "_law_chain" "_law_chain" (top 59),
  dX ("law", none) "law" "law" (top 60),
  dX ("Plain", some "__init__") "__init__" "Plain.__init__" (sInit),
  dX ("Plain", some "__eq__") "__eq__" "Plain.__eq__" (sEq),
  dX ("Plain", some "sides") "sides" "Plain.sides" (sSides),
  dX ("Plain", some "sizes") "sizes" "Plain.sizes" (sSizes),
  dX ("Form", some "__init__") "__init__" "Form.__init__" (methF 0),
  dX ("Form", some "__add__") "__add__" "Form.__add__" (methF 1),
  dX ("Form", some "__sub__") "__sub__" "Form.__sub__" (methF 2),
  dX ("Form", some "__neg__") "__neg__" "Form.__neg__" (methF 4),
  dX ("Form", some "__eq__") "__eq__" "Form.__eq__" (methF 5)]
def faR : List Fa := [.glo "is_whole", .glo "is_letter", .glo "number", .glo "product_form", .glo "right_side", .glo "without_noughts", .glo "product_at", .glo "lowest", .glo "fraction_sum", .glo "own_order", .glo "hole", .glo "check_table", .glo "check_own_places", .glo "is_sides", .glo "is_side", .glo "is_product", .glo "names_of", .glo "ordered", .glo "misfit", .glo "left_of", .glo "twos", .glo "jumps", .glo "smooth", .glo "kept", .glo "arranged", .glo "joined", .glo "same_run", .glo "primes", .glo "first_unlike", .glo "check_walk", .glo "inside_out", .glo "_law_purse", .glo "_law_mixed", .glo "_law_draw", .glo "_law_one_of", .glo "_law_shuffled", .glo "_law_letters", .glo "_law_names", .glo "_law_chain", .glo "law", .glo "Plain", .glo "Form", .free "isinstance", .free "int", .free "bool", .free "str", .free "len", .free "all", .free "any", .free "list", .free "tuple", .free "dict", .free "set", .free "sorted", .free "zip", .free "reversed", .free "divmod", .free "enumerate", .free "sum", .free "max", .free "min", .free "range", .cls "Plain", .noat "Plain" "_sides", .mkr "Plain", .cls "Form", .noat "Form" "_parts", .mkr "Form", .meth "Plain" "sides", .meth "Plain" "sizes"]
def bsR (K : PySem.W.Frag) : List Bool := [insB K (ga K "Plain"), neB K (ga K "Plain"), insB K (ga K "Form"), neB K (ga K "Form"), bltB K "gcd" "math.gcd", ownB K (ga K "Form") "__add__", ownB K (ga K "Form") "__sub__", ownB K (ga K "Form") "__neg__", decide (PySem.W.kitOne K (.ref (ga K "Form")) (.type "int") = some false)]
def exR (K : PySem.W.Frag) : Bool := (bsR K).all id
def tsR : List Tab := []
def pT0 : Defn := ("ordered", none)
def qT0 : Str := "ordered.<locals>.<lambda>"
abbrev R : PySem.W.OpenRow := PySem.W.OpenLaw.row PySem.Challenge.rw_cellplaces_k65_moves_by_name
abbrev hk : PySem.W.Hook := He.hookX 4 faR fnR tsR [pT0] exR
def ob (s : PySem.W.SharedT) : He.AlX := He.obsX 4 faR fnR tsR [pT0] exR (HandSHeadRun.getT s)
theorem ob_eq (s : PySem.W.SharedT) : ob s = hk.obs s.abs := He.obsX_eq (HandSHeadRun.getT_eq s)
def loose0 : List PySem.Str := ["_wall", "CellError", "InvalidForm", "InvalidLetter", "InvalidNumber", "InvalidValues", "InvalidSides", "InvalidTable", "InvalidWalk", "SharedPlaces", "is_whole", "is_letter"]
def loose1 : List PySem.Str := ["is_values", "Form", "number", "product_form", "right_side", "without_noughts", "product_at", "lowest", "fraction_sum", "fraction_product", "Plain", "own_order"]
def loose2 : List PySem.Str := ["hole", "check_table", "check_own_places", "is_sides", "is_side", "is_product", "names_of", "ordered", "misfit", "left_of", "twos", "jumps"]
def loose3 : List PySem.Str := ["smooth", "kept", "arranged", "joined", "same_run", "check_walk", "inside_out", "primes", "first_unlike", "_law_purse", "_law_mixed", "_law_draw"]
def loose4 : List PySem.Str := ["_law_one_of", "_law_shuffled", "_law_letters", "_law_names", "_law_chain"]
def looseAll : List PySem.Str := loose0 ++ loose1 ++ loose2 ++ loose3 ++ loose4
theorem run (w : World) : HandSHeadRun.RunEqI R (PySem.W.view R.prog [0, 60]) hk ob 20000 looseAll w := by
  unfold HandSHeadRun.RunEqI; kernel_rfl
end E4

set_option Elab.async false
set_option linter.all false
set_option maxRecDepth 100000
set_option maxHeartbeats 1000000
/-! Sums of forms: the mathematics; {names: d[names] for names in d}. -/
namespace L2
open PySem PySem.Spec PyProof.Rows
def prodI : List Int → Int
  | [] => 1
  | x :: r => x * prodI r
theorem prodI_append : ∀ (l r : List Int), prodI (l ++ r) = prodI l * prodI r
  | [], r => by show prodI r = 1 * prodI r; omega
  | x :: l, r => by
    show x * prodI (l ++ r) = x * prodI l * prodI r
    rw [prodI_append l r, Int.mul_assoc]
def evM (σ : Str → Int) (m : MonR) : Int := prodI (m.map σ)
def ev (σ : Str → Int) : Fm → Rat
  | [] => 0
  | x :: r => x.2 * (evM σ x.1 : Rat) + ev σ r
theorem putM_hit {x : MonR × Rat} {r : Fm} {m : MonR} {q : Rat} (e : x.1 = m) (h : m ∉ r.map (·.1)) : putM (x :: r) m q = (m, q) :: r := by
  unfold putM
  rw [if_pos (by simp [e]), List.map_cons, if_pos e, e]
  congr 1
  have : ∀ l : Fm, m ∉ l.map (·.1) → l.map (fun y => if y.1 = m then (y.1, q) else y) = l := by
    intro l
    induction l with
    | nil => intro _; rfl
    | cons y l ih =>
      intro hl
      rw [List.map_cons] at hl
      rw [List.map_cons, if_neg fun z => hl (List.mem_cons.mpr (.inl z.symm)), ih fun z => hl (List.mem_cons.mpr (.inr z))]
  exact this r h
theorem putM_miss {x : MonR × Rat} {r : Fm} {m : MonR} {q : Rat} (e : ¬ x.1 = m) : putM (x :: r) m q = x :: putM r m q := by
  unfold putM
  rw [List.any_cons, decide_eq_false e, Bool.false_or]
  split
  · rw [List.map_cons, if_neg e]
  · rfl
theorem valM_hit {x : MonR × Rat} {r : Fm} {m : MonR} (e : x.1 = m) : valM (x :: r) m = some x.2 := by simp [valM, List.find?_cons, e]
theorem valM_miss {x : MonR × Rat} {r : Fm} {m : MonR} (e : ¬ x.1 = m) : valM (x :: r) m = valM r m := by simp [valM, List.find?_cons, e]
theorem keys_putM (m : MonR) (q : Rat) : ∀ fm : Fm, ∀ n ∈ (putM fm m q).map (·.1), n ∈ fm.map (·.1) ∨ n = m := by
  intro fm n hn
  unfold putM at hn
  split at hn
  · left
    rw [List.map_map] at hn
    obtain ⟨x, hx, e⟩ := List.mem_map.mp hn
    refine List.mem_map.mpr ⟨x, hx, ?_⟩
    by_cases c : x.1 = m
    · simpa [Function.comp, c] using e
    · simpa [Function.comp, c] using e
  · rw [List.map_append] at hn
    rcases List.mem_append.mp hn with h | h
    · exact .inl h
    · exact .inr (by simpa using h)
theorem nodup_putM (m : MonR) (q : Rat) : ∀ fm : Fm, (fm.map (·.1)).Nodup → ((putM fm m q).map (·.1)).Nodup
  | [], _ => by simp [putM]
  | x :: r, h => by
    rw [List.map_cons] at h
    obtain ⟨h1, h2⟩ := List.nodup_cons.mp h
    by_cases c : x.1 = m
    · rw [putM_hit c (by rw [← c]; exact h1), List.map_cons, ← c]
      exact List.nodup_cons.mpr ⟨h1, h2⟩
    · rw [putM_miss c, List.map_cons]
      refine List.nodup_cons.mpr ⟨fun z => ?_, nodup_putM m q r h2⟩
      rcases keys_putM m q r _ z with z | z
      · exact h1 z
      · exact c z
theorem mem_putM {m : MonR} {q : Rat} {fm : Fm} {x : MonR × Rat} (h : x ∈ putM fm m q) : x ∈ fm ∨ x = (m, q) := by
  unfold putM at h
  split at h
  · obtain ⟨y, hy, e⟩ := List.mem_map.mp h
    by_cases c : y.1 = m
    · rw [if_pos c] at e
      exact .inr (by rw [← e, c])
    · rw [if_neg c] at e
      exact .inl (e ▸ hy)
  · rcases List.mem_append.mp h with h | h
    · exact .inl h
    · exact .inr (by simpa using h)
theorem length_putM (m : MonR) (q : Rat) (fm : Fm) : (putM fm m q).length ≤ fm.length + 1 := by
  unfold putM
  split
  · rw [List.length_map]; omega
  · rw [List.length_append]; exact Nat.le_refl _
theorem mem_valM {m : MonR} {fm : Fm} {q : Rat} (h : valM fm m = some q) : (m, q) ∈ fm := by
  unfold valM at h
  obtain ⟨x, hx, e⟩ := Option.map_eq_some_iff.mp h
  have h1 := List.find?_some hx
  have h2 := List.mem_of_find?_eq_some hx
  have h3 : x = (m, q) := Prod.ext (of_decide_eq_true h1) e
  rwa [← h3]
/-- a term more -/
def add1 (acc : Fm) (x : MonR × Rat) : Fm := putM acc x.1 ((valM acc x.1).getD 0 + x.2)
def addTo (acc l : Fm) : Fm := l.foldl add1 acc
theorem addTo_snoc (acc l : Fm) (x : MonR × Rat) : addTo acc (l ++ [x]) = add1 (addTo acc l) x := by
  unfold addTo
  rw [List.foldl_append]
  rfl
theorem nodup_addTo : ∀ (l acc : Fm), (acc.map (·.1)).Nodup → ((addTo acc l).map (·.1)).Nodup
  | [], _, h => h
  | x :: l, acc, h => nodup_addTo l (add1 acc x) (nodup_putM _ _ _ h)
theorem length_addTo : ∀ (l acc : Fm), (addTo acc l).length ≤ acc.length + l.length
  | [], _ => Nat.le_refl _
  | x :: l, acc => by
    have h1 := length_addTo l (add1 acc x)
    have h2 : (add1 acc x).length ≤ acc.length + 1 := length_putM _ _ _
    rw [List.length_cons]
    show (addTo (add1 acc x) l).length ≤ _
    omega
theorem bq_add1 {D M N : Nat} {acc : Fm} {x : MonR × Rat} (h : ∀ y ∈ acc, Bq D M y.2) (hx : Bq D N x.2) : ∀ y ∈ add1 acc x, Bq D (M + N) y.2 := by
  intro y hy
  rcases mem_putM hy with hy | rfl
  · exact (h y hy).mono (Nat.le_add_right _ _)
  · rcases hv : valM acc x.1 with _ | q
    · refine Bq.mono (M := 0 + N) ?_ (by omega)
      rw [Option.getD_none]
      exact Bq.zero.add hx
    · rw [Option.getD_some]
      exact (h _ (mem_valM hv)).add hx
theorem bq_addTo {D N : Nat} : ∀ (l acc : Fm) (M : Nat), (∀ y ∈ acc, Bq D M y.2) → (∀ y ∈ l, Bq D N y.2) → ∀ y ∈ addTo acc l, Bq D (M + l.length * N) y.2
  | [], acc, M, h, _ => fun y hy => (h y hy).mono (Nat.le_add_right _ _)
  | x :: l, acc, M, h, hl => fun y hy => by
    have z := bq_addTo l (add1 acc x) (M + N) (bq_add1 h (hl x (List.mem_cons.mpr (.inl rfl)))) (fun y hy => hl y (List.mem_cons.mpr (.inr hy))) y hy
    refine z.mono ?_
    rw [List.length_cons, Nat.add_mul]
    omega
theorem keys_addTo : ∀ (l acc : Fm) (n : MonR), n ∈ (addTo acc l).map (·.1) → n ∈ acc.map (·.1) ∨ n ∈ l.map (·.1)
  | [], _, _, h => .inl h
  | x :: l, acc, n, h => by
    rcases keys_addTo l (add1 acc x) n h with h | h
    · rcases keys_putM _ _ _ _ h with h | h
      · exact .inl h
      · exact .inr (List.mem_cons.mpr (.inl h))
    · exact .inr (List.mem_cons.mpr (.inr h))
theorem take_addTo {acc l : Fm} {i : Nat} {x : MonR × Rat} (h : l[i]? = some x) : addTo acc (l.take (i + 1)) = add1 (addTo acc (l.take i)) x := by
  rw [take_snoc h, addTo_snoc]
end L2

set_option Elab.async false
set_option linter.all false
set_option maxRecDepth 100000
set_option maxHeartbeats 2000000
/-! Two dicts whose keys are tuples: ==. -/
namespace L2
open PySem PySem.Spec PyProof.Rows
section
variable {prog : Program} {w : World} {K : Type} [DecidableEq K] {knd : HeapKind prog w K} {A : Around} {E : Value → Shared → Prop} {s : Shared}
/-- what the other dict has to show for an entry: f tells whether it does -/
def ShowsH (knd : HeapKind prog w K) (A : Around) (s : Shared) (xb : List (K × Addr × Value)) (f : K → Bool) (x : K × Addr × Value) : Prop :=
  (atKey xb x.1 = none ∧ f x.1 = false) ∨ ∃ p, atKey xb x.1 = some p ∧ SeqAt.EqP prog w A s x.2.2 p.2 (f x.1)
theorem take_all_succ {α : Type} {l : List α} {i : Nat} {x : α} {f : α → Bool} (h : l[i]? = some x) : (l.take (i + 1)).all f = ((l.take i).all f && f x) := by
  rw [take_snoc h, List.all_append]
  simp
theorem all_stop {α : Type} {l : List α} {i : Nat} {x : α} {f : α → Bool} (h : l[i]? = some x) (hf : f x = false) : l.all f = false := by
  rw [List.all_eq_false]
  exact ⟨x, List.mem_of_getElem? h, by rw [hf]; exact Bool.false_ne_true⟩
theorem samePairsH {nm : String} {a b : Addr} {xa xb : List (K × Addr × Value)} {f : K → Bool} {Q : Bool → Shared → Prop} (ha : (a == sysModules) = false) (hb : (b == sysModules) = false) (hu : knd.room A)
    (da : s.heap.DictOfH knd a xa) (db : s.heap.DictOfH knd b xb) (hits : ∀ x ∈ xa, ShowsH knd A s xb f x) (h : Q (xa.length == xb.length && xa.all fun x => f x.1) s) :
    wpAny (model prog w) A (Builtin.Dict.samePairs nm a b) Q E s := by
  obtain ⟨oa, es, ep, hoa, _, hda, hea, hia, hna⟩ := da
  obtain ⟨ob, es', ep', hob, _, hdb, heb, hib, hnb⟩ := db
  have hla := size_of_entries hea
  have hlb := size_of_entries heb
  unfold Builtin.Dict.samePairs Builtin.Dict.showsAll
  rw [if_neg (show ¬ (a == sysModules) = true by rw [ha]; exact Bool.false_ne_true), if_neg (show ¬ (b == sysModules) = true by rw [hb]; exact Bool.false_ne_true)]
  refine wpAny_bind (wpAny_pure (wpAny_bind (wpAny_pure (wpAny_bind (wpAny_dictEntries hoa hda ?_)))))
  dsimp only
  refine wpAny_bind (wpAny_dictEntries hob hdb ?_)
  by_cases hsz : es.size = es'.size
  case neg =>
    rw [if_pos (by simpa using hsz)]
    have hbf : (xa.length == xb.length) = false := by rw [← hla, ← hlb]; simpa using hsz
    rw [hbf, Bool.false_and] at h
    exact wpAny_bind (wpAny_rule (wpAny_pure h))
  case pos =>
    have hbt : (xa.length == xb.length) = true := by rw [← hla, ← hlb]; simpa using hsz
    rw [hbt, Bool.true_and] at h
    rw [if_neg (by rw [hsz]; simp)]
    refine wpAny_bind (wpAny_dictEpoch hoa hda (wpAny_bind ?_))
    rw [Std.Legacy.Range.forIn_eq_forIn_range']
    simp only [Std.Legacy.Range.size, Nat.sub_zero, Nat.add_sub_cancel, Nat.div_one]
    refine wpAny_forIn_list _ (fun rest q s' => s' = s ∧ q = (none, ()) ∧ ∃ i, rest = List.range' i (es.size - i) ∧ i ≤ es.size ∧ ((xa.take i).all fun x => f x.1) = true) _ ?_ ?_ _ _ ⟨rfl, rfl, 0, by simp, Nat.zero_le _, rfl⟩
    · rintro j rest q s' ⟨rfl, rfl, i, hr, hi, pre⟩
      have hlt : i < es.size := by
        rcases Nat.lt_or_ge i es.size with z | z
        · exact z
        · rw [Nat.sub_eq_zero_of_le z] at hr; simp at hr
      obtain ⟨rfl, hrest⟩ : j = i ∧ rest = List.range' (i + 1) (es.size - (i + 1)) := by
        have e : es.size - i = (es.size - (i + 1)) + 1 := by omega
        rw [e, List.range'_succ] at hr
        injection hr with h1 h2
        exact ⟨h1, h2⟩
      have hlx : j < xa.length := by omega
      obtain ⟨⟨k, ad, v⟩, hx⟩ : ∃ x, xa[j]? = some x := ⟨_, List.getElem?_eq_getElem hlx⟩
      have hes : es[j]? = some (entryOfKey knd (k, ad, v)) := by rw [entry_at hea j, hx]; rfl
      refine wpAny_bind (wpAny_dictEntries hoa hda ?_)
      rw [hes]
      have hmem := List.mem_of_getElem? hx
      have stop : f k = false → Q false s' := fun e => by
        have z := all_stop (f := fun x : K × Addr × Value => f x.1) hx e
        rw [z] at h
        exact h
      show wpAny _ _ (holding [.ref ad, v] _ >>= _) _ _ _
      refine wpAny_bind (wpAny_holding (wpAny_bind (wpAny_dictFind_heap hu (hia _ hmem) hob hdb heb hib hnb (fun no => ?_) (fun i' p hp => ?_))))
      · have hn : atKey xb k = none := atKey_none_of_get no
        rcases hits _ hmem with ⟨_, er⟩ | ⟨p, hy, _⟩
        · refine wpAny_pure ?_
          show wpAny _ _ (if (!false) = true then _ else _) _ _ _
          rw [if_pos (by decide)]
          exact wpAny_pure (wpAny_pure (stop er))
        · rw [show atKey xb k = some p from hy] at hn
          cases hn
      · have hv := atKey_of_get hnb hp
        refine wpAny_bind (wpAny_dictEntries hob hdb ?_)
        rw [entry_at heb i', hp]
        rcases hits _ hmem with ⟨hn, _⟩ | ⟨p', hy, he⟩
        · rw [show atKey xb k = none from hn] at hv
          cases hv
        · rw [show atKey xb k = some p' from hy] at hv
          cases hv
          refine wpAny_holding (he _ _ ?_)
          cases ef : f k with
          | false =>
            show wpAny _ _ (if (!false) = true then _ else _) _ _ _
            rw [if_pos (by decide)]
            exact wpAny_pure (wpAny_pure (stop ef))
          | true =>
            show wpAny _ _ (if (!true) = true then _ else _) _ _ _
            rw [if_neg (by decide)]
            refine wpAny_bind (wpAny_dictEpoch hoa hda ?_)
            rw [if_neg (by simp)]
            refine wpAny_pure ⟨rfl, rfl, j + 1, hrest, hlt, ?_⟩
            rw [take_all_succ hx, pre]
            exact ef
    · rintro q s' ⟨rfl, rfl, i, hr, hi, pre⟩
      have hin : i = es.size := by
        rcases Nat.lt_or_ge i es.size with z | z
        · have e : es.size - i = (es.size - (i + 1)) + 1 := by omega
          rw [e, List.range'_succ] at hr
          cases hr
        · exact Nat.le_antisymm hi z
      refine wpAny_pure ?_
      rw [hin, hla, List.take_length] at pre
      rw [pre] at h
      exact h
theorem rcP_dictsH {a b : Addr} {xa xb : List (K × Addr × Value)} {f : K → Bool} (ha : (a == sysModules) = false) (hb : (b == sysModules) = false) (hu : A.units < cLine) (hk : knd.room A.in1)
    (da : s.heap.DictOfH knd a xa) (db : s.heap.DictOfH knd b xb) (hits : ∀ x ∈ xa, ShowsH knd A.in1 s xb f x) (E Q : Value → Shared → Prop) (h : Q (.bool (xa.length == xb.length && xa.all fun x => f x.1)) s) : wpAny (model prog w) A (richCompare .Eq (.ref a) (.ref b)) Q E s := by
  refine wpAny_richCompare_same_room (op := .Eq) da.typeIs db.typeIs PySem.F.slot_dict_eq (wpAny_call_entry PySem.F.slot_dict_eq da.typeIs PySem.F.entry_dict_eq ?_ (PySem.F.args_dict_eq_2 _ _)) hu
  show wpAny _ _ (Builtin.Dict.dictSlotArgs "__eq__" ⟨[.ref a, .ref b], []⟩ >>= _) _ _ s
  refine wpAny_bind ?_
  unfold Builtin.Dict.dictSlotArgs
  refine wpAny_bind (PySem.wpAny_notOrdered_dict da.typeIs ?_)
  show wpAny _ _ (pure (Value.ref a, Value.ref b)) _ _ s
  refine wpAny_pure (wpAny_bind (wpAny_isInstance (T := "dict") db.typeIs PySem.F.sub_dict_dict ?_))
  simp only [Bool.not_true, Bool.false_eq_true, if_false]
  refine wpAny_bind (wpAny_pure (wpAny_bind (wpAny_pure (wpAny_bind (samePairsH ha hb hk da db hits ?_)))))
  refine wpAny_pure ⟨_, rfl, ?_, ?_⟩
  · exact fun z => nomatch z
  · simpa using h
end
end L2

set_option Elab.async false
set_option linter.all false
set_option maxRecDepth 100000
set_option maxHeartbeats 1000000
/-! the row's statements, and what stands where -/
namespace L2
open PySem PySem.Spec PyProof.Rows
/-- // by any number but 0 -/
def CDivX (_ j : Int) : Prop := j ≠ 0 ∧ j.natAbs.log2 < 9000
section
variable {X : Cx}
theorem op_fdivX : OpR X (binaryOp .FloorDiv) (rI CDivX fun i j => .int (i.fdiv j)) := opI fun i j _ _ _ _ _ hc q => floordiv_int hc.1 q (.inl (PyProof.noPylong_of_log2 hc.2))
end
end L2
namespace E2
open PySem L2
def top (i : Nat) : Stmt := PySem.Challenge.pw_cellplaces_k65_moves_by_name.main.body.getD i (.Pass ⟨0, 0, 0, 0⟩)
abbrev sIsWhole : Stmt := top 13
abbrev sIsLetter : Stmt := top 14
abbrev sForm : Stmt := top 17
abbrev sNumber : Stmt := top 18
abbrev sRightSide : Stmt := top 20
abbrev sWithout : Stmt := top 21
abbrev sProductAt : Stmt := top 22
abbrev sLowest : Stmt := top 23
abbrev sFracSum : Stmt := top 24
/-- a def of the module's, by its name -/
structure DefOk (P : Program) (w : World) (K : PySem.W.Frag) (mg : Str → Option Value) (base : Heap) (k : Nat) (x : Str) (ps : List Str) (sp : Sp) : Prop where
  ex : ∃ (f : Addr) (fd : FuncData), mg x = some (.ref f) ∧ PySem.W.keepIn K (.ref f) = true ∧ FnOk P w K mg base CX0 k f fd ps sp ∧ Binds K fd ps []
end E2

set_option Elab.async false
set_option linter.all false
set_option maxRecDepth 100000
set_option maxHeartbeats 1000000
/-! lowest, fraction_sum, fraction_product -/
namespace E2
open PySem PySem.Spec PyProof.Rows L2
open C8 (Cal Mak Met InsC pe_c pe_mt pe_mt0 call_isC clsBody)
theorem log2_mono {a b : Nat} (h : a ≤ b) : a.log2 ≤ b.log2 := by
  rcases Nat.eq_zero_or_pos a with r | r
  · rw [r]; exact Nat.zero_le _
  · rw [Nat.le_log2 (by omega)]
    exact Nat.le_trans (Nat.log2_self_le (by omega)) h
def spLowest : Sp := fun vs H Q _ => ∃ a b : Int, vs = [.int a, .int b] ∧ b ≠ 0 ∧ b.natAbs.log2 < 9000 ∧ NewQ H (.tup [.int (loq a b).1, .int (loq a b).2]) Q
section
variable {P : Program} {w : World} {K : PySem.W.Frag} {mg : Str → Option Value} {base : Heap}
theorem scLowest : FnScope ["top", "bottom", "shared"] ["top", "bottom"] (defScope sLowest) := ⟨rfl, rfl, rfl, by decide +kernel, rfl, by decide +kernel, by decide +kernel⟩
theorem ok_lowest {f : Addr} {fd : FuncData} (F : Fun K "lowest" "lowest" sLowest f fd) (hgcd : mg "gcd" = some (.builtin "math.gcd")) : FnOk P w K mg base CX0 1 f fd ["top", "bottom"] spLowest := by
  refine F.ok scLowest (fun vs H Q E h => ?_) (fun cdv A outer s H vs Q E hr h => ?_)
  · obtain ⟨a, b, rfl, _⟩ := h
    rfl
  · obtain ⟨a, b, rfl, hb, hl, k⟩ := h
    refine ⟨_, pss_cons (ps_set (i := 2) scLowest.nd rfl (Or.inl rfl) (pe_ifExp (pt_cmpR op_gt (pv 1) pe_int (by rfl))
        (pe_callBfun cr_gcd rfl hgcd (pa_cons (pv 0) (pa_cons (pv 1) pa_nil))) (pe_un un_neg (pe_callBfun cr_gcd rfl hgcd (pa_cons (pv 0) (pa_cons (pv 1) pa_nil))))))
      (pss_one (ps_ret (pe_tupS (pa_cons (pe_op op_fdivX (pv 0) (pv 2)) (pa_cons (pe_op op_fdivX (pv 1) (pv 2)) pa_nil))))), ?_⟩
    have gp : 0 < Nat.gcd a.natAbs b.natAbs := Nat.gcd_pos_of_pos_right _ (by omega)
    have gl : (Nat.gcd a.natAbs b.natAbs).log2 < 9000 := Nat.lt_of_le_of_lt (log2_mono (Nat.gcd_le_right _ (by omega))) hl
    refine ⟨_, rfl, b, 0, rfl, rfl, _, rfl, ?_⟩
    refine iteD (fun h => ?_) (fun h => ?_)
    · refine ⟨_, rfl, _, rfl, a, b, rfl, ?_⟩
      have c : CDivX a ((Nat.gcd a.natAbs b.natAbs : Nat) : Int) := ⟨by omega, by simpa using gl⟩
      refine ⟨_, rfl, _, rfl, _, _, rfl, rfl, c, _, rfl, _, rfl, _, _, rfl, rfl, c, (by show 2 ≤ sizeLine; decide), ?_⟩
      have e : loq a b = (a.fdiv ((Nat.gcd a.natAbs b.natAbs : Nat) : Int), b.fdiv ((Nat.gcd a.natAbs b.natAbs : Nat) : Int)) := by
        unfold loq
        simp only [show b > 0 from h, if_true]
      rw [e] at k
      exact k
    · refine ⟨_, rfl, _, rfl, a, b, rfl, _, rfl, ?_⟩
      have c : CDivX a (-((Nat.gcd a.natAbs b.natAbs : Nat) : Int)) := ⟨by omega, by simpa using gl⟩
      refine ⟨_, rfl, _, rfl, _, _, rfl, rfl, c, _, rfl, _, rfl, _, _, rfl, rfl, c, (by show 2 ≤ sizeLine; decide), ?_⟩
      have e : loq a b = (a.fdiv (-((Nat.gcd a.natAbs b.natAbs : Nat) : Int)), b.fdiv (-((Nat.gcd a.natAbs b.natAbs : Nat) : Int))) := by
        unfold loq
        simp only [show ¬ (b > 0) from h, if_false]
      rw [e] at k
      exact k

/-- two fractions, each a tuple; the third, a new one -/
def spFrac (K : PySem.W.Frag) (g : Rat → Rat → Rat) : Sp := fun vs H Q _ => ∃ (p q : Addr) (x y : Rat), vs = [.ref p, .ref q] ∧ SqT K H p (frac x) ∧ SqT K H q (frac y) ∧ x.num.natAbs < 2 ^ 400000 ∧ y.num.natAbs < 2 ^ 400000 ∧ x.den < 2 ^ 4000 ∧ y.den < 2 ^ 4000 ∧ NewQ H (.tup (frac (g x y))) Q
theorem cmw {i j : Int} {a b : Nat} (ha : i.natAbs < 2 ^ a) (hb : j.natAbs < 2 ^ b) (h0 : 0 < a) (h1 : 0 < b) (h : a + b ≤ 1000000) : CMulW i j := wide_mul ha hb h0 h1 h
theorem den_log {a b : Nat} (ha : a < 2 ^ 4000) (hb : b < 2 ^ 4000) : ((a : Int) * (b : Int)).natAbs.log2 < 9000 := by
  have e : ((a : Int) * (b : Int)).natAbs < 2 ^ (4000 + 4000) := wide_lt (a := 4000) (b := 4000) (by rw [Int.natAbs_natCast]; exact ha) (by rw [Int.natAbs_natCast]; exact hb)
  exact Nat.lt_of_lt_of_le (PySem.Flt.log2_lt_of (by decide) e) (by decide)
theorem den_ne {x y : Rat} : (x.den : Int) * (y.den : Int) ≠ 0 := by
  have h1 := x.den_nz
  have h2 := y.den_nz
  intro e
  rcases Int.mul_eq_zero.mp e with h | h <;> omega
theorem scFracSum : FnScope ["one", "other"] ["one", "other"] (defScope sFracSum) := ⟨rfl, rfl, rfl, by decide +kernel, rfl, by decide +kernel, by decide +kernel⟩
theorem ok_fracSum {f : Addr} {fd : FuncData} (F : Fun K "fraction_sum" "fraction_sum" sFracSum f fd) (L : Cal P w K mg base 1 "lowest" spLowest []) : FnOk P w K mg base CX0 2 f fd ["one", "other"] (spFrac K (· + ·)) := by
  refine F.ok scFracSum (fun vs H Q E h => ?_) (fun cdv A outer s H vs Q E hr h => ?_)
  · obtain ⟨p, q, x, y, rfl, _⟩ := h
    rfl
  · obtain ⟨p, q, x, y, rfl, hp, hq, nx, ny, dx, dy, k⟩ := h
    refine ⟨_, pss_one (ps_ret (pe_c L hr (by decide) rfl (pa_cons (pe_op op_add (pe_op op_mulW (pe_ix ix_tup (pv 0) pe_int (fun _ _ => rfl)) (pe_ix ix_tup (pv 1) pe_int (fun _ _ => rfl))) (pe_op op_mulW (pe_ix ix_tup (pv 1) pe_int (fun _ _ => rfl)) (pe_ix ix_tup (pv 0) pe_int (fun _ _ => rfl))))
      (pa_cons (pe_op op_mulW (pe_ix ix_tup (pv 0) pe_int (fun _ _ => rfl)) (pe_ix ix_tup (pv 1) pe_int (fun _ _ => rfl))) pa_nil)))), ?_⟩
    have cx : (x.den : Int).natAbs < 2 ^ 4000 := by rw [Int.natAbs_natCast]; exact dx
    have cy : (y.den : Int).natAbs < 2 ^ 4000 := by rw [Int.natAbs_natCast]; exact dy
    refine ⟨_, rfl, p, _, 0, _, rfl, rfl, hp, rfl, _, rfl, q, _, 1, _, rfl, rfl, hq, rfl, _, _, rfl, rfl, cmw nx cy (by decide) (by decide) (by decide), ?_⟩
    refine ⟨_, rfl, q, _, 0, _, rfl, rfl, hq, rfl, _, rfl, p, _, 1, _, rfl, rfl, hp, rfl, _, _, rfl, rfl, cmw ny cx (by decide) (by decide) (by decide), ?_⟩
    refine ⟨_, _, rfl, rfl, ?_⟩
    refine ⟨_, rfl, p, _, 1, _, rfl, rfl, hp, rfl, _, rfl, q, _, 1, _, rfl, rfl, hq, rfl, _, _, rfl, rfl, cmw cx cy (by decide) (by decide) (by decide), ?_⟩
    refine ⟨_, _, rfl, den_ne, den_log dx dy, ?_⟩
    rw [loq_add]
    exact k
end
end E2

set_option Elab.async false
set_option linter.all false
set_option maxRecDepth 100000
set_option maxHeartbeats 1000000
/-! Forms as objects: Form(..), -a, a.over(n), a + b, .. -/
namespace L2
open PySem PySem.Spec PyProof.Rows
open C8 (Cal Mak Met InsC)
/-- the form at a -/
def FmAt (P : Program) (w : World) (K : PySem.W.Frag) (C : Addr) (H : Hp) (a : Addr) (fm : Fm) : Prop := ∃ dx d kvs, H a = some (.ins C dx [("_parts", .ref d)]) ∧ H d = some (DfO P w d kvs) ∧ FmKv K H kvs fm
theorem FmAt.same {P : Program} {w : World} {K : PySem.W.Frag} {C : Addr} {H H' : Hp} {a : Addr} {fm : Fm} (h : FmAt P w K C H a fm) (S : Same H H') : FmAt P w K C H' a fm :=
  let ⟨dx, d, kvs, h1, h2, h3⟩ := h; ⟨dx, d, kvs, S _ _ h1, S _ _ h2, h3.same S⟩
def spInit (C : Addr) : Sp := fun vs H Q _ => ∃ a dx v, vs = [.ref a, v] ∧ H a = some (.ins C dx []) ∧ Q .non (upd H a (.ins C dx [("_parts", v)]))
def tMkF (C : Addr) (te : TE) : TE := fun σ H Q => te σ H fun v H1 => ∀ a dx H', Same H1 H' → H1 a = none → H' a = some (.ins C dx [("_parts", v)]) → Q (.ref a) H'
theorem seq_lockasg {te : TE} {i : Nat} {u : TS} {D : Ends} {σ : St} {H : Hp} (h : tLockE te σ H fun x H1 => u D (σ.set i (some x)) H1) : tSeq (tLock (tAsg te (gName i))) u D σ H :=
  let ⟨d, v, hd, mu, h⟩ := h; ⟨d, v, hd, mu, fun od => h od⟩
theorem call_one {sp : Sp} {E : XK} {i : Nat} {v : V} {σ : St} {H : Hp} {Q : VK} (hs : σ[i]? = some (some v)) (h : sp [v] H Q E) : tCall sp [] E (tCons (tVar i) tNil) σ H Q := ⟨v, hs, h⟩
/-- for .. in d.items(), d locked meanwhile -/
theorem seq_for_items {P : Program} {w : World} {K : PySem.W.Frag} {H : Hp} {d : Addr} {l : NAV} {fm : Fm} {td : TE} {g : TG} {tb u : TS} {D : Ends} {σ : St} (hd : H d = some (DfO P w d l)) (hf : FmKv K H l fm)
    (hte : ∀ (od : Obj) (R : VK), R (.ref d) (upd H d (.frz od (DfO P w d l))) → td σ (upd H d (.frz od (DfO P w d l))) R) (Pv : Obj → Nat → St → Hp → Prop) (h0 : ∀ od, Pv od 0 σ (upd H d (.frz od (DfO P w d l))))
    (hl : ∀ od i σ' H', Pv od i σ' H' → H' d = some (.frz od (DfO P w d l)) ∧ Mv K (upd H d (.frz od (DfO P w d l))) H')
    (hs : ∀ (od : Obj) (i : Nat) (m : MonR) (q : Rat) (σ' : St) (H' : Hp) (T b a : Addr) (rt : VK) (bk : St → Hp → Prop), fm[i]? = some (m, q) → Pv od i σ' H' → H' T = none → TupN H' b ((kS m).map kV) → SqT K H' a (frac q) →
      g (.ref T) σ' (upd H' T (.tup [.ref b, .ref a])) fun σ2 H2 => tb { nx := Pv od (i + 1), rt := rt, bk := bk, ct := Pv od (i + 1) } σ2 H2)
    (he : ∀ od σ' H', Pv od fm.length σ' H' → u D σ' (upd H' d (DfO P w d l))) : tSeq (tLock (tFor (iItemsN P w td) g tb)) u D σ H := by
  refine ⟨d, DfO P w d l, hd, trivial, fun od => ?_⟩
  have hf0 : FmKv K (upd H d (.frz od (DfO P w d l))) l fm := hf.imp (.off hd noTup_df)
  refine hte od _ ⟨d, od, l, rfl, upd_same, for_it walk_itemsN (Pv od) (h0 od) (fun i σ' H' _ p => (hl od i σ' H' p).1) ?_ ?_⟩
  · rintro i x σ' H' H'' hi p ⟨T, k, qb, av, hkv, rfl, nT, rfl⟩
    obtain ⟨m, q, b, a, hm, e, tb, sa⟩ := hf0.get hkv
    obtain ⟨rfl, e2⟩ := Prod.mk.inj e
    obtain ⟨rfl, rfl⟩ := Prod.mk.inj e2
    exact hs od i m q σ' H' T qb av _ _ hm p nT ((hl od i σ' H' p).2.tn _ _ tb) ((hl od i σ' H' p).2.sq _ _ sa)
  · intro σ' H' p
    rw [hf.length] at p
    exact ⟨(hl od _ σ' H' p).1, he od σ' H' p⟩
theorem ret_of {te : TE} {D : Ends} {σ : St} {H : Hp} (h : te σ H D.rt) : tRet te D σ H := h
theorem ret_mkF {C : Addr} {te : TE} {D : Ends} {σ : St} {H : Hp} (h : te σ H fun v H1 => ∀ a dx H', Same H1 H' → H1 a = none → H' a = some (.ins C dx [("_parts", v)]) → D.rt (.ref a) H') : tRet (tMkF C te) D σ H := h
section
variable {X : Cx} {C : Addr} {x : Str} {e : Expr} {te : TE} {p pos : Pos} {j : Nat}
theorem pe_mkF (c : Mak X.prog X.w X.K X.mg X.base 1 x C (spInit C) []) (hr : Room j X.A) (hk : 2 ≤ j) (hg : Gl X x) (he : PE X e te)
    (hdb : (x == ("__debug__" : Str)) = false := by decide) (hs : starEach [e] X.env = (false, eval e X.env) :: starEach [] X.env := by rfl) (hpl : (backTo pos (starEach [] X.env)).any (·.1) = false := by rfl) :
    PE X (.Call (.Name x p) [e] [] pos) (tMkF C te) := by
  obtain ⟨f, fd, ps, ds, M, F, hm, b, d⟩ := c.ex
  refine ⟨fun pins s σ H Q I h => ?_⟩
  refine wpAny_Call_Name_kw (ld_glob I hg hm ?_ hdb)
  refine PySem.W.callWith_K (h₀ := X.base) I.ok.mod.kin M.kp ?_ hs hpl
  rw [hs]
  show wpAny _ _ (spliced ((false, eval e X.env) :: backTo pos (starEach [] X.env))) _ _ s
  refine Calls.spliced_cons (thn (he.run pins s σ H _ I h) fun u s1 hh => ?_)
  obtain ⟨v, H1, I1, rv, q⟩ := hh
  refine Calls.spliced_nil ⟨I1.kIn, ?_⟩
  refine run_make (E := E0) M F (hr.mono hk) b d pass0 I1 (.cons rv .nil) fun y dx hy hdx ne => ?_
  refine ⟨y, dx, v, rfl, upd_same, rfl, ?_⟩
  refine q y dx _ ?_ hy upd_same
  intro c o e
  have n1 : c ≠ y := ne_of_none e hy
  have n2 : c ≠ dx := ne_of_none e hdx
  rw [upd_ne n1, upd_ne n1, upd_ne n2]
  exact e
end
end L2
namespace E2
open PySem PySem.Spec PyProof.Rows L2
open C8 (Cal Mak Met InsC pe_c pe_mt pe_mt0 call_isC clsBody)
def meth (i : Nat) : Stmt := (clsBody sForm).getD i (.Pass ⟨0, 0, 0, 0⟩)
abbrev sInit : Stmt := meth 0
abbrev sAdd : Stmt := meth 1
abbrev sSub : Stmt := meth 2
abbrev sNeg : Stmt := meth 4
abbrev sLetters : Stmt := meth 8
/-- the class Form, as the top left it -/
structure Fx (P : Program) (w : World) (K : PySem.W.Frag) (mg : Str → Option Value) (base : Heap) (C : Addr) : Prop where
  cl : Cls K C
  na : NoAttr K C "_parts"
  maks : Mak P w K mg base 1 "Form" C (spInit C) []
def spNeg (P : Program) (w : World) (K : PySem.W.Frag) (C : Addr) (f : Rat → Rat) : Sp := fun vs H Q _ => ∃ a fm, vs = [.ref a] ∧ FmAt P w K C H a fm ∧ (fm.map (·.1)).Nodup ∧ fm.length ≤ sizeLine ∧ ∀ H' b, Same H H' → H b = none → FmAt P w K C H' b (mapM (fun _ => true) f fm) → Q (.ref b) H'
section
variable {P : Program} {w : World} {K : PySem.W.Frag} {mg : Str → Option Value} {base : Heap} {C : Addr}
theorem scInit : FnScope ["self", "parts"] ["self", "parts"] (defScope sInit) := ⟨rfl, rfl, rfl, by decide +kernel, rfl, by decide +kernel, by decide +kernel⟩
theorem ok_init {f : Addr} {fd : FuncData} (F : Fun K "__init__" "Form.__init__" sInit f fd) (c : Cls K C) (n : NoAttr K C "_parts") : FnOk P w K mg base CX0 1 f fd ["self", "parts"] (spInit C) := by
  refine F.ok scInit (fun vs H Q E h => ?_) (fun cdv A outer s H vs Q E hr h => ?_)
  · obtain ⟨a, dx, v, rfl, _⟩ := h
    rfl
  · obtain ⟨a, dx, v, rfl, ha, k⟩ := h
    refine ⟨_, pss_one (ps_fld (pv 0) (pv 1) rfl), ?_⟩
    exact ⟨_, rfl, _, rfl, a, C, dx, [], rfl, ha, c, n, by decide, k⟩
theorem scNeg : FnScope ["self", "names", "top", "bottom"] ["self"] (defScope sNeg) := ⟨rfl, rfl, rfl, by decide +kernel, rfl, by decide +kernel, by decide +kernel⟩
theorem ok_neg {f : Addr} {fd : FuncData} (F : Fun K "__neg__" "Form.__neg__" sNeg f fd) (T : Fx P w K mg base C) : FnOk P w K mg base CX0 3 f fd ["self"] (spNeg P w K C (fun q => -q)) := by
  refine F.ok scNeg (fun vs H Q E h => ?_) (fun cdv A outer s H vs Q E hr h => ?_)
  · obtain ⟨a, fm, rfl, _⟩ := h
    rfl
  · obtain ⟨a, fm, rfl, ⟨dx, d, kvs, ha, hd, hf⟩, hn, hz, k⟩ := h
    refine ⟨_, pss_one (ps_ret (pe_mkF T.maks hr (by decide) rfl (pe_lock (pe_dcN (own := [("names", 1), ("top", 2), ("bottom", 3)]) (g := gTup K 2 (gCons (gName 1) (gCons (gTup K 2 (gCons (gName 2) (gCons (gName 3) gNil))) gNil))) (tt := tYes) (tk := tVar 1) (tv := tTupS (tCons (tUn (rU fun i => V.int (-i)) (tVar 2)) (tCons (tVar 3) tNil))) (Nat.lt_of_le_of_lt (Nat.le_add_right _ 64) hr.units) rfl scNeg.nd (pi_itemsN (pe_fld (pv 0) rfl))
      (blkOk_by (own := [("names", 1), ("top", 2), ("bottom", 3)]) (N := ["self", "names", "top", "bottom"]) (sc := defScope sNeg) (by decide +kernel))
      ⟨fun _ _ _ _ _ => pg_tup rfl (pgs_cons (pg_name (i := 1) scNeg.nd rfl (Or.inl rfl)) (pgs_cons (pg_tup rfl (pgs_cons (pg_name (i := 2) scNeg.nd rfl (Or.inl rfl)) (pgs_cons (pg_name (i := 3) scNeg.nd rfl (Or.inl rfl)) pgs_nil))) pgs_nil)),
       fun _ _ _ _ _ => pts_nil, fun _ _ _ _ _ => pv 1, fun _ _ _ _ _ => by exact pe_tupS (pa_cons (pe_un un_neg (pv 2)) (pa_cons (pv 3) pa_nil))⟩)))), ?_⟩
    refine ret_mkF (lock_items (p := fun _ => true) (f := fun q => -q) hd hf hn hz (fun od R h => ⟨_, rfl, a, C, dx, _, _, rfl, by rw [upd_ne (ne_of ha hd (by intro z; cases z))]; exact ha, T.cl, T.na, rfl, h⟩) ?_ ?_)
    · intro H1 lk i m q H' T b a put skip hm S hT hb sa hput hskip
      refine ⟨T, _, rfl, SqT.of hT, rfl, _, _, rfl, _, _, rfl, ⟨a, _, rfl, sa, rfl, _, _, rfl, _, _, rfl, rfl, rfl, rfl, ?_⟩⟩
      refine iteT (B := skip H') ?_
      exact ⟨_, rfl, _, rfl, _, rfl, _, rfl, (by show 2 ≤ sizeLine; decide), fun p2 H5 S5 n5 h5 => hput rfl H5 b p2 S5 (hb.same S5) (SqT.of h5)⟩
    · intro H' D kvs' S nD hD kv b dx' H2 S2 nb hb
      exact k _ _ (S.trans S2) (S.free nb) ⟨dx', D, kvs', hb, S2 _ _ hD, kv.same S2⟩
end
end E2

set_option Elab.async false
set_option linter.all false
set_option maxRecDepth 100000
set_option maxHeartbeats 2000000
/-! Two forms' dicts: ==. -/
namespace L2
open PySem PySem.Spec PyProof.Rows
/-- the same terms, whatever their order -/
def eqFm (a b : Fm) : Bool := a.length == b.length && a.all fun x => decide (valM b x.1 = valM a x.1)
def kQ (fm : Fm) (k : List Key) : Option Rat := (fm.find? fun x => decide (kS x.1 = k)).map (·.2)
theorem kQ_kS (fm : Fm) (m : MonR) : kQ fm (kS m) = valM fm m := by
  unfold kQ valM
  congr 1
  congr 1
  funext x
  by_cases c : x.1 = m
  · rw [decide_eq_true c, decide_eq_true (by rw [c])]
  · rw [decide_eq_false c, decide_eq_false fun e => c (kS_inj e)]
theorem dp_frac {K : PySem.W.Frag} {H : Hp} {a : Addr} {q : Rat} (h : SqT K H a (frac q)) : Dp K H (.ref a) (.tuple [.int q.num, .int (q.den : Int)]) := .tup h (.cons (.int _) (.cons (.int _) .nil))
theorem eqv_frac (p q : Rat) : PyData.eqv (.tuple [.int p.num, .int (p.den : Int)]) (.tuple [.int q.num, .int (q.den : Int)]) = decide (p = q) := by
  have e : PyData.eqv (.tuple [.int p.num, .int (p.den : Int)]) (.tuple [.int q.num, .int (q.den : Int)]) = (decide (p.num = q.num) && decide ((p.den : Int) = (q.den : Int))) := by
    simp [PyData.eqv, PyData.eqvAll]
    try rfl
  rw [e]
  by_cases c : p = q
  · subst c
    simp
  · rw [decide_eq_false c]
    by_cases h1 : p.num = q.num
    · have h2 : ¬ p.den = q.den := fun z => c (Rat.ext h1 z)
      rw [decide_eq_true h1, Bool.true_and]
      exact decide_eq_false fun z => h2 (Int.ofNat.inj z)
    · rw [decide_eq_false h1, Bool.false_and]
theorem fm_keys {K : PySem.W.Frag} {H : Hp} {ks : NAV} {fm : Fm} (r : FmKv K H ks fm) : ks.map (·.1) = (fm.map (·.1)).map kS := by
  unfold FmKv at r
  induction r with
  | nil => rfl
  | cons h t ih => rw [List.map_cons, List.map_cons, List.map_cons, ih, h.1]
theorem valM_at {fm : Fm} {i : Nat} {m : MonR} {q : Rat} (nd : (fm.map (·.1)).Nodup) (h : fm[i]? = some (m, q)) : valM fm m = some q := by
  induction fm generalizing i with
  | nil => cases h
  | cons x xs ih =>
    rw [List.map_cons, List.nodup_cons] at nd
    cases i with
    | zero =>
      cases h
      simp [valM, List.find?_cons]
    | succ j =>
      have hj : xs[j]? = some (m, q) := h
      have ne : ¬ x.1 = m := fun e => nd.1 (e ▸ List.mem_map.mpr ⟨(m, q), List.mem_of_getElem? hj, rfl⟩)
      have z : valM (x :: xs) m = valM xs m := by simp [valM, List.find?_cons, ne]
      rw [z]
      exact ih nd.2 hj
theorem nodup_of_map {α β : Type} (f : α → β) {l : List α} (h : (l.map f).Nodup) : l.Nodup := by
  induction l with
  | nil => exact List.nodup_nil
  | cons x xs ih =>
    rw [List.map_cons, List.nodup_cons] at h
    exact List.nodup_cons.mpr ⟨fun z => h.1 (List.mem_map.mpr ⟨x, z, rfl⟩), ih h.2⟩
theorem depth_frac (a b : Int) : PyData.depth (.tuple [.int a, .int b]) ≤ 8 := by
  simp [PyData.depth, PyData.depthAll] <;> first | omega | decide
def rEqFm (P : Program) (w : World) (K : PySem.W.Frag) : R2 := fun x y H Q => ∃ d e ks ls fa fb, x = .ref d ∧ y = .ref e ∧ H d = some (DfO P w d ks) ∧ H e = some (DfO P w e ls) ∧ FmKv K H ks fa ∧ FmKv K H ls fb ∧ Q (.bl (eqFm fa fb)) H
theorem op_eqFm {X : Cx} (hu : X.A.units + 64 < cLine) : OpR X (compareOp .Eq) (rEqFm X.prog X.w X.K) := by
  intro pins s σ H x y v u Q I rx ry h
  obtain ⟨d, e, ks, ls, fa, fb, rfl, rfl, hd, he, ha, hb, q⟩ := h
  obtain rfl : v = Value.ref d := rx
  obtain rfl : u = Value.ref e := ry
  have da := dn_of I (.inl hd) ha.keys.toN
  have db := dn_of I (.inl he) hb.keys.toN
  obtain ⟨_, y1, nd1, _⟩ := dn_get I (.inl hd)
  obtain ⟨_, y2, _⟩ := dn_get I (.inl he)
  have nda : (fa.map (·.1)).Nodup := by
    rw [List.map_map] at nd1
    have e1 : ks.map ((fun x : List Key × Addr × Value => x.1) ∘ toV) = ks.map (·.1) := rfl
    rw [e1, fm_keys ha] at nd1
    exact nodup_of_map _ nd1
  have la : (ks.map toV).length = fa.length := by rw [List.length_map, ha.length]
  have lb : (ls.map toV).length = fb.length := by rw [List.length_map, hb.length]
  refine rcP_dictsH (f := fun k => decide (kQ fb k = kQ fa k)) y1 y2 (Nat.lt_of_le_of_lt (Nat.le_add_right _ 64) hu) (show X.A.in1.units < cLine from ?_) da db (fun x hx => ?_) _ _ ?_
  · show X.A.units + 1 < cLine
    omega
  · obtain ⟨kv, hkv, rfl⟩ := List.mem_map.mp hx
    obtain ⟨i, hi⟩ := List.mem_iff_getElem?.mp hkv
    obtain ⟨m, p, b1, a1, hm, rfl, _, sa⟩ := ha.get hi
    have va : valM fa m = some p := valM_at nda hm
    rw [show toV (kS m, b1, a1) = (kS m, b1, Value.ref a1) from rfl]
    unfold ShowsH
    dsimp only
    rw [kQ_kS, kQ_kS, va, atKey_toV]
    rcases hb.val m with ⟨f1, f2⟩ | ⟨b2, a2, p2, f1, f2, sb⟩
    · rw [f1, f2]
      exact .inl ⟨rfl, rfl⟩
    · rw [f1, f2]
      refine .inr ⟨(b2, .ref a2), rfl, ?_⟩
      obtain ⟨as, r1⟩ := Dp.reads I _ _ (Value.ref a1) (dp_frac sa) rfl
      obtain ⟨bs, r2⟩ := Dp.reads I _ _ (Value.ref a2) (dp_frac sb) rfl
      have q := SeqAt.eqAt_reads _ _ X.A.in1 s _ _ _ _ r1 r2 (by rfl) (by rfl) (by show X.A.units + 1 + _ < cLine; have : min (PyData.depth (.tuple [.int p.num, .int (p.den : Int)])) (PyData.depth (.tuple [.int p2.num, .int (p2.den : Int)])) ≤ 8 := Nat.le_trans (Nat.min_le_left _ _) (depth_frac _ _); omega)
      rw [eqv_frac] at q
      have e9 : decide (p = p2) = decide (some p2 = some p) := by
        by_cases c2 : p = p2
        · rw [c2]; simp
        · rw [decide_eq_false c2, decide_eq_false fun z => c2 (Option.some.inj z).symm]
      rw [← e9]
      exact q.eqP
  · refine ⟨.bl _, H, I, rfl, ?_⟩
    have e : ((ks.map toV).length == (ls.map toV).length && (ks.map toV).all fun x => decide (kQ fb x.1 = kQ fa x.1)) = eqFm fa fb := by
      unfold eqFm
      rw [la, lb]
      congr 1
      have all2 : ∀ {l : NAV} {n : Fm}, FmKv X.K H l n → ((l.map toV).all fun x => decide (kQ fb x.1 = kQ fa x.1)) = n.all fun x => decide (valM fb x.1 = valM fa x.1) := by
        intro l n r
        unfold FmKv at r
        induction r with
        | nil => rfl
        | @cons p x ps xs h t ih =>
          rw [List.map_cons, List.all_cons, List.all_cons, ih]
          congr 1
          rw [show (toV p).1 = kS x.1 from h.1, kQ_kS, kQ_kS]
      exact all2 ha
    rw [e]
    exact q
end L2

set_option Elab.async false
set_option linter.all false
set_option maxRecDepth 100000
set_option maxHeartbeats 1000000
/-! a != b, both of one own class that has __eq__ alone. -/
namespace PySem.W
open PySem PySem.Calls PyProof.Rows
section
variable {prog : Program} {w : World} {A : Around} {E : Value → Shared → Prop} {s : Shared} {K : Frag} {x y C L f : Addr} {h₀ : Heap} {m : Str → Option Value} {ox : Obj} {od : Option Obj}
/-- what the class says of != -/
structure NoNe (K : Frag) (C f : Addr) : Prop where
  ne : findIn K (.ref C) "__ne__" = some (some (.builtin "object.__ne__"))
  eq : findIn K (.ref C) "__eq__" = some (some (.ref f))
  fn : isFn K (.ref f) = true
  sub : subIn K (.ref C) (.type "object") = some true
theorem check_ne (X : K.In s.heap) (I : InstAt s.heap x ox C od) (N : NoNe K C f) {b : Value} {Q : Unit → Shared → Prop} (hq : Q () s) : wpAny (model prog w) A (checkBuiltinCall "object.__ne__" ⟨[.ref x, b], []⟩) Q E s := by
  simp only [checkBuiltinCall, F.cmpKind_ne, F.cmpSplit_ne]
  refine wpAny_bind ?_
  unfold isInstance
  refine wpAny_bind (I.type.here ?_)
  refine (looks_subIn X N.sub).here ?_
  have ha := F.cmpArgs_ne (.ref x) b
  cases hsig : Manifest.signature? "object.__ne__" with
  | none => exact wpAny_pure hq
  | some sig =>
    simp only [argsOk, hsig] at ha
    have h2 : Bind.checkArgs "object.__ne__" sig ⟨[.ref x, b], []⟩ = pure () := ha
    show wpAny _ A (Bind.checkArgs "object.__ne__" sig ⟨[.ref x, b], []⟩) Q E _
    rw [h2]
    exact wpAny_pure hq
theorem entry_ne (X : K.In s.heap) (I : InstAt s.heap x ox C od) (N : NoNe K C f) (hu : A.units < cLine) {b : Value} {Q : Fin → Shared → Prop}
    (h : wpAny (model prog w) A (call (.ref f) [.ref x, b]) (fun v s' => ∃ r, v = .bool r ∧ Q (.done (.ret (.bool (!r)))) s') E s) : wpAny (model prog w) A (Builtin.«object.__ne__» ⟨[.ref x, b], []⟩) Q E s := by
  unfold Builtin.«object.__ne__»
  repeat (first
    | with_reducible refine wpAny_cRoomFor hu ?_
    | (refine wpAny_bind (m := callSpecialIfBound? (.ref x) (Str.ofString "__eq__") [b])
        (ifBound_K X I N.eq N.fn (wpAny_mono h (fun r s' hr => by
          obtain ⟨b, rfl, hq⟩ := hr
          repeat (first | exact hq | exact wpAny_pure hq | exact wpAny_truthy_bool hq | (refine wpAny_bind (m := truthy (.bool _)) (wpAny_truthy_bool ?_)) | wp_step)) fun _ _ e => e)))
    | wp_step)
theorem try_ne (X : K.In s.heap) (I : InstAt s.heap x ox C od) (N : NoNe K C f) (hu : A.units + 1 < cLine) {b : Value} {Q : Option Value → Shared → Prop}
    (h : wpAny (model prog w) A.in1 (call (.ref f) [.ref x, b]) (fun v s' => ∃ r, v = .bool r ∧ Q (some (.bool (!r))) s') E s) : wpAny (model prog w) A (tryCompare (.ref x) "__ne__" b) Q E s := by
  simp only [tryCompare]
  refine wpAny_bind ?_
  simp only [callSpecialIfBound?, bindSpecialIfBound?]
  refine wpAny_holding (wpAny_bind (wpAny_bind (wpAny_bind (I.type.here ((looks_findIn X N.ne).here ?_)))))
  simp only [F.cmp_object.ne.bind]
  refine wpAny_bind (wpAny_askSetting (wpAny_ite ?_))
  have back : wpAny (model prog w) A (call (.builtin "object.__ne__") [.ref x, b]) (fun v s' => ∃ r, v = .bool r ∧ Q (some (.bool r)) s') E s :=
    wpAny_call (codeAny_call_builtin F.cmp_object.ne.plain F.cmpEntry_ne (check_ne X I N (entry_ne (A := A.in1) X I N hu (wpAny_mono h (fun v s' hv => by
      obtain ⟨r, rfl, hq⟩ := hv
      exact ⟨r, rfl, _, rfl, hq⟩) fun _ _ e => e))))
  split
  · refine wpAny_bind (wpAny_pure (wpAny_pure (wpAny_bind (wpAny_mono back (fun v s' hv => ?_) fun _ _ e => e))))
    obtain ⟨r, rfl, hq⟩ := hv
    exact wpAny_pure (wpAny_pure hq)
  · refine wpAny_tryCatch (wpAny_bind (wpAny_pure (wpAny_pure (wpAny_bind (wpAny_mono back (fun v s' hv => ?_) fun _ _ e => e)))))
    obtain ⟨r, rfl, hq⟩ := hv
    exact wpAny_pure (wpAny_pure hq)
theorem ne_K {Q : Value → Shared → Prop} (hu : A.units + 1 < cLine) (X : K.In s.heap) (I : InstAt s.heap x ox C od) (hb : Looks (model prog w) s.heap (typeOf (.ref y)) (.ref C)) (N : NoNe K C f)
    (h : wpAny (model prog w) A.in1 (call (.ref f) [.ref x, .ref y]) (fun v s' => ∃ r, v = .bool r ∧ Q (.bool (!r)) s') E s) : wpAny (model prog w) A (richCompare .NotEq (.ref x) (.ref y)) Q E s := by
  unfold richCompare
  simp only [oneThing_ref]
  refine wpAny_holding (wpAny_bind (wpAny_cRoomFor (Nat.lt_of_succ_lt hu) ?_))
  rw [cmpInfo_NotEq]
  dsimp only
  refine wpAny_bind (I.type.here (wpAny_bind (hb.here ?_)))
  rw [show (Value.ref C != Value.ref C) = false from by simp]
  simp only [Bool.false_eq_true, if_false]
  refine wpAny_bind (wpAny_pure ?_)
  simp only [Bool.false_eq_true, if_false]
  refine wpAny_bind (try_ne X I N hu (wpAny_mono h (fun v s' hv => ?_) fun _ _ e => e))
  obtain ⟨r, rfl, hq⟩ := hv
  exact ⟨r, rfl, wpAny_pure hq⟩
end
end PySem.W

set_option Elab.async false
set_option linter.all false
set_option maxRecDepth 100000
set_option maxHeartbeats 1000000
/-! is_whole, right_side, number, without_noughts, over -/
namespace E2
open PySem PySem.Spec PyProof.Rows L2
open C8 (Cal Mak Met InsC pe_c pe_mt pe_mt0 call_isC clsBody)
/-- builtin names that the module leaves alone, and the class for isinstance -/
structure Bt (K : PySem.W.Frag) (mg : Str → Option Value) (C : Addr) : Prop where
  isi : mg "isinstance" = none
  int_ : mg "int" = none
  bool_ : mg "bool" = none
  ins : InsC K C
  ki : PySem.W.kitOne K (.ref C) (.type "int") = some false
  mgF : mg "Form" = some (.ref C)
def spWhole (C : Addr) : Sp := fun vs H Q _ => ∃ v, vs = [v] ∧ ((∃ i : Int, v = .int i ∧ Q (.bl true) H) ∨ ∃ a dx fs, v = .ref a ∧ H a = some (.ins C dx fs) ∧ Q (.bl false) H)
section
variable {P : Program} {w : World} {K : PySem.W.Frag} {mg : Str → Option Value} {base : Heap} {C : Addr}
theorem kit_ii : PySem.W.kitOne K (.type "int") (.type "int") = some true := by kernel_rfl
theorem kit_ib : PySem.W.kitOne K (.type "int") (.type "bool") = some false := by kernel_rfl
theorem scWhole : FnScope ["value"] ["value"] (defScope sIsWhole) := ⟨rfl, rfl, rfl, by decide +kernel, rfl, by decide +kernel, by decide +kernel⟩
theorem ok_whole {f : Addr} {fd : FuncData} (F : Fun K "is_whole" "is_whole" sIsWhole f fd) (B : Bt K mg C) : FnOk P w K mg base CX0 1 f fd ["value"] (spWhole C) := by
  refine F.ok scWhole (fun vs H Q E h => ?_) (fun cdv A outer s H vs Q E hr h => ?_)
  · obtain ⟨v, rfl, _⟩ := h
    rfl
  · obtain ⟨v, rfl, k⟩ := h
    refine ⟨_, pss_one (ps_ret (pe_and (pe_callB call_isi (by rfl) B.isi (by decide +kernel) (pa_cons (pv 0) (pa_cons (pe_bltn (v := .ty "int") (by rfl) B.int_ (by decide +kernel) rfl) pa_nil)))
      (pe_one (pe_not (pe_callB call_isi (by rfl) B.isi (by decide +kernel) (pa_cons (pv 0) (pa_cons (pe_bltn (v := .ty "bool") (by rfl) B.bool_ (by decide +kernel) rfl) pa_nil))))))), ?_⟩
    rcases k with ⟨i, rfl, q⟩ | ⟨a, dx, fs, rfl, ha, q⟩
    · refine ⟨_, rfl, _, _, _, _, true, rfl, .ty "int", .base (.int i), kit_ii, true, rfl, iteT (B := False) ?_⟩
      exact ⟨_, rfl, _, _, _, _, false, rfl, .ty "bool", .base (.int i), kit_ib, false, rfl, q⟩
    · refine ⟨_, rfl, _, _, _, _, false, rfl, .ty "int", .base (.ins ha B.ins.cl B.ins.ha B.ins.hn B.ins.htk B.ins.hm), B.ki, false, rfl, iteF ?_⟩
      exact q
def spWithout (P : Program) (w : World) (K : PySem.W.Frag) : Sp := fun vs H Q _ => ∃ d kvs fm, vs = [.ref d] ∧ H d = some (DfO P w d kvs) ∧ FmKv K H kvs fm ∧ (fm.map (·.1)).Nodup ∧ fm.length ≤ sizeLine ∧ ∀ H' D kvs', Same H H' → H D = none → H' D = some (DfO P w D kvs') → FmKv K H' kvs' (mapM (fun q => !decide (q = 0)) id fm) → Q (.ref D) H'
theorem scWithout : FnScope ["parts", "names", "worth"] ["parts"] (defScope sWithout) := ⟨rfl, rfl, rfl, by decide +kernel, rfl, by decide +kernel, by decide +kernel⟩
theorem ok_without {f : Addr} {fd : FuncData} (F : Fun K "without_noughts" "without_noughts" sWithout f fd) : FnOk P w K mg base CX0 1 f fd ["parts"] (spWithout P w K) := by
  refine F.ok scWithout (fun vs H Q E h => ?_) (fun cdv A outer s H vs Q E hr h => ?_)
  · obtain ⟨d, kvs, fm, rfl, _⟩ := h
    rfl
  · obtain ⟨d, kvs, fm, rfl, hd, hf, hn, hz, k⟩ := h
    refine ⟨_, pss_one (ps_ret (pe_lock (pe_dcN (own := [("names", 1), ("worth", 2)]) (g := gTup K 2 (gCons (gName 1) (gCons (gName 2) gNil))) (tt := tTest (tOp rNe (tOp (rIxT K) (tVar 2) (tC (.int 0))) (tC (.int 0)))) (tk := tVar 1) (tv := tVar 2) (Nat.lt_of_le_of_lt (Nat.le_add_right _ 64) hr.units) rfl scWithout.nd (pi_itemsN (pv 0))
      (blkOk_by (own := [("names", 1), ("worth", 2)]) (N := ["parts", "names", "worth"]) (sc := defScope sWithout) (by decide +kernel))
      ⟨fun _ _ _ _ _ => pg_tup rfl (pgs_cons (pg_name (i := 1) scWithout.nd rfl (Or.inl rfl)) (pgs_cons (pg_name (i := 2) scWithout.nd rfl (Or.inl rfl)) pgs_nil)),
       fun _ _ _ _ _ => pts_one (by exact pt_cmpR op_ne (pe_ix ix_tup (pv 2) pe_int (fun _ _ => rfl)) pe_int (nomark _)), fun _ _ _ _ _ => pv 1, fun _ _ _ _ _ => pv 2⟩))), ?_⟩
    refine ret_of (lock_items (p := fun q => !decide (q = 0)) (f := id) hd hf hn hz (fun od R h => ⟨_, rfl, h⟩) ?_ fun H' D kvs' S nD hD kv => k H' D kvs' S nD hD kv)
    intro H1 lk i m q H' T b a put skip hm S hT hb sa hput hskip
    refine ⟨T, _, rfl, SqT.of hT, rfl, _, _, rfl, _, _, rfl, rfl, rfl, ?_⟩
    have e : (!decide (V.int q.num = V.int 0)) = (!decide (q = 0)) := by
      rw [dec_int]
      congr 1
      by_cases h : q = 0
      · rw [decide_eq_true h]
        exact beq_iff_eq.mpr (Rat.num_eq_zero.mpr h)
      · rw [decide_eq_false h]
        exact beq_eq_false_iff_ne.mpr fun z => h (Rat.num_eq_zero.mp z)
    refine ⟨_, rfl, a, _, 0, _, rfl, rfl, sa, rfl, rfl, !decide (q = 0), congrArg V.bl e, ?_⟩
    cases hc : (!decide (q = 0)) with
    | true => exact iteT (B := skip H') ⟨_, rfl, _, rfl, hput hc H' b a (Same.refl H') hb sa⟩
    | false => exact iteF (hskip hc H' (Same.refl H'))
/-- the coefficients that the fractions' arithmetic takes -/
def Sm (fm : Fm) : Prop := ∀ x ∈ fm, x.2.num.natAbs < 2 ^ 400000 ∧ x.2.den < 2 ^ 4000
end
end E2

set_option Elab.async false
set_option linter.all false
set_option maxRecDepth 100000
set_option maxHeartbeats 1000000
/-! a == b, a != b of two forms -/
namespace L2
open PySem PySem.Spec PyProof.Rows
open C8 (Cal Mak Met InsC)
section
variable {X : Cx}
/-- an around where a def of this level may be called -/
structure SubA (X : Cx) (k : Nat) (A : Around) : Prop where
  room : Room k A
  fr : A.frames = X.A.frames
/-- a def called where the around is deeper -/
theorem run_sub {A : Around} {k : Nat} {f : Addr} {fd : FuncData} {ps : List Str} {sp : Sp} {pins : List (Addr × Obj)} {σ : L2.St} {H : Hp} {s : Shared} {Q : VK} {us : List Value} {vs : List V} (sb : SubA X k A) (F : FnOk X.prog X.w X.K X.mg X.base CX0 k f fd ps sp) (hb : Binds X.K fd ps [])
    (I : Inv X pins σ H s) (r : Vals vs us) (hsp : sp vs H Q E0) : wpAny (model X.prog X.w) A (call (.ref f) us) (EP X pins σ Q) X.xe s := by
  have e0 : Env0 X.prog X.w X.K X.mg X.base A X.stack s H := by
    have e := I.env0
    exact ⟨by rw [sb.fr]; exact e.frames, e.mod, e.bs, e.bsz, e.funs, e.frf, e.hok, e.bare⟩
  have hl := F.len _ _ _ _ hsp
  have hlu : us.length = ps.length := by rw [← r.length]; exact hl
  refine wpAny_call (codeAny_mono (F.run A X.stack s H ⟨us, []⟩ us vs _ E0 sb.room e0 (by
    have := hb s us I.kIn (by simpa using hlu)
    simpa using this) r hsp) fun r s' hq => ?_)
  cases r with
  | error e => exact pass0 pins σ H s e s' I hq
  | ok fl =>
    cases fl with
    | ret w =>
      obtain ⟨z, H', I', rz, q⟩ := I.after hq
      exact ⟨z, H', I', rz, q⟩
    | next => exact False.elim hq
    | brk => exact False.elim hq
    | cont => exact False.elim hq
end
def spEqF (P : Program) (w : World) (K : PySem.W.Frag) (C : Addr) : Sp := fun vs H Q _ => ∃ a b fa fb, vs = [.ref a, .ref b] ∧ FmAt P w K C H a fa ∧ FmAt P w K C H b fb ∧ Q (.bl (eqFm fa fb)) H
/-- what == and != of two forms lean on -/
structure EqM (P : Program) (w : World) (K : PySem.W.Frag) (mg : Str → Option Value) (base : Heap) (k : Nat) (C : Addr) : Prop where
  ex : ∃ (f : Addr) (fd : FuncData) (ps : List Str), PySem.W.NoNe K C f ∧ FnOk P w K mg base CX0 k f fd ps (spEqF P w K C) ∧ Binds K fd ps []
def rNeO (P : Program) (w : World) (K : PySem.W.Frag) (C : Addr) : R2 := fun x y H Q => ∃ a b fa fb, x = .ref a ∧ y = .ref b ∧ FmAt P w K C H a fa ∧ FmAt P w K C H b fb ∧ Q (.bl (!eqFm fa fb)) H
section
variable {X : Cx} {C : Addr} {k j : Nat}
theorem op_neO (O : EqM X.prog X.w X.K X.mg X.base k C) (hr : Room j X.A) (hk : k + 1 ≤ j) : OpR X (compareOp .NotEq) (rNeO X.prog X.w X.K C) := by
  obtain ⟨f, fd, ps, N, F, hb⟩ := O.ex
  intro pins s σ H x y v u Q I rx ry h
  obtain ⟨a, b, fa, fb, rfl, rfl, ha, hb2, q⟩ := h
  obtain rfl : v = Value.ref a := rx
  obtain rfl : u = Value.ref b := ry
  have ha1 := ha
  have hb1 := hb2
  obtain ⟨dx, d, kvs, ea, _⟩ := ha1
  obtain ⟨dy, e, kvs2, eb, _⟩ := hb1
  obtain ⟨ox, od, J⟩ := inst_of I ea
  obtain ⟨oy, oe, J2⟩ := inst_of I eb
  have hrk : Room (k + 1) X.A := hr.mono hk
  have sb : SubA X k X.A.in1 := ⟨hrk.in1, rfl⟩
  refine PySem.W.ne_K (A := X.A) (Nat.lt_of_le_of_lt (Nat.add_le_add_left (by decide : 1 ≤ 64) _) hrk.units) I.kIn J J2.type N ?_
  refine thn (run_sub (Q := fun v H' => v = .bl (eqFm fa fb) ∧ H' = H) (vs := [V.ref a, V.ref b]) sb F hb I (.cons rfl (.cons rfl .nil)) ⟨a, b, fa, fb, rfl, ha, hb2, rfl, rfl⟩) fun r s' z => ?_
  obtain ⟨z, H', I', rz, rfl, rfl⟩ := z
  obtain rfl : r = Value.bool (eqFm fa fb) := rz
  exact ⟨_, rfl, .bl (!eqFm fa fb), H', I', rfl, q⟩
end
end L2
namespace E2
open PySem PySem.Spec PyProof.Rows L2
open C8 (Cal Mak Met InsC pe_c pe_mt pe_mt0 call_isC clsBody)
abbrev sEq : Stmt := meth 5
section
variable {P : Program} {w : World} {K : PySem.W.Frag} {mg : Str → Option Value} {base : Heap} {C : Addr}
theorem scEq : FnScope ["self", "other"] ["self", "other"] (defScope sEq) := ⟨rfl, rfl, rfl, by decide +kernel, rfl, by decide +kernel, by decide +kernel⟩
theorem ok_eq {f : Addr} {fd : FuncData} (F : Fun K "__eq__" "Form.__eq__" sEq f fd) (T : Fx P w K mg base C) (B : Bt K mg C) : FnOk P w K mg base CX0 1 f fd ["self", "other"] (spEqF P w K C) := by
  refine F.ok scEq (fun vs H Q E h => ?_) (fun cdv A outer s H vs Q E hr h => ?_)
  · obtain ⟨a, b, fa, fb, rfl, _⟩ := h
    rfl
  · obtain ⟨a, b, fa, fb, rfl, ⟨dx, d, kvs, ha, hd, hf⟩, ⟨dy, e, kvs2, hb, he, hf2⟩, k⟩ := h
    refine ⟨_, pss_one (ps_ret (pe_and (pe_callB (call_isC B.ins) (by rfl) B.isi (by decide +kernel) (pa_cons (pv 1) (pa_cons (pe_glob (v := .ref C) (by rfl) B.mgF rfl) pa_nil))) (pe_one (pe_cmpR (op_eqFm hr.units) (pe_fld (pv 0) rfl) (pe_fld (pv 1) rfl) (nomark _))))), ?_⟩
    exact ⟨_, rfl, b, dy, _, rfl, hb, true, rfl, iteT (B := False) ⟨_, rfl, a, C, dx, _, _, rfl, ha, T.cl, T.na, rfl, _, rfl, b, C, dy, _, _, rfl, hb, T.cl, T.na, rfl, d, e, kvs, kvs2, fa, fb, rfl, rfl, hd, he, hf, hf2, k⟩⟩
end
end E2

set_option Elab.async false
set_option linter.all false
set_option maxRecDepth 100000
set_option maxHeartbeats 1000000
/-! a != b of two lists whose items are seen to be equal, objects of own classes among them -/
namespace GN
open PySem PySem.SeqAt GQ
open AutoSeq1 (wpAny_loadPart')
open MeetsSeq MeetsSeq2 MeetsSeq3 SeqRoads2
section
variable {prog : Program} {w : World} {A : Around} {R : Result → Shared → Prop}
theorem ne_loop (p q : Addr) (len : Nat) (J : Nat → Shared → Prop) (hJ : ListI prog w A (fun e s' => R (.error e) s') p q len J)
    (done : ∀ s, J len s → R (.ok (.ret (.bool false))) s) (left : Nat) :
    ∀ j : Nat, len - j = left → j ≤ len → ∀ s, J j s →
      wpAny (model prog w) A.in1 (Builtin.«list.__eq__.loop» ⟨[.ref p, .ref q, rawInt j, rawInt 3], []⟩) (FinOf prog w A R) (fun e s' => R (.error e) s') s := by
  induction left with
  | zero =>
    intro j hk hj s h
    obtain ⟨us, vs, n, n2, e1, e2, z1, z2, _⟩ := hJ _ _ h
    obtain rfl : j = len := by omega
    have hR : R (.ok (.ret (.bool false))) s := done s h
    obtain ⟨hp, g, d, tk, os⟩ := s
    wp_walk using wpAny_loadPart' e1, wpAny_loadPart' e2
    have o1 : us[((j : Nat) : Int).toNat]? = none := by simp; omega
    have o2 : vs[((j : Nat) : Int).toNat]? = none := by simp; omega
    rw [o1, o2]
    wp_walk using wpAny_loadPart' e1, wpAny_loadPart' e2
    show R (.ok (.ret (.bool (us.size != vs.size)))) _
    rw [z1, z2]
    simpa using hR
  | succ left ih =>
    intro j hk hj s h
    obtain ⟨us, vs, n, n2, e1, e2, z1, z2, turn⟩ := hJ _ _ h
    have lt1 : j < us.size := by omega
    have lt2 : j < vs.size := by omega
    have ht := turn lt1 lt2
    obtain ⟨hp, g, d, tk, os⟩ := s
    wp_walk using wpAny_loadPart' e1, wpAny_loadPart' e2
    have o1 : us[((j : Nat) : Int).toNat]? = some us[j] := by simp [lt1]
    have o2 : vs[((j : Nat) : Int).toNat]? = some vs[j] := by simp [lt2]
    have ec : ((j : Int) + 1) = ((j + 1 : Nat) : Int) := by omega
    rw [o1, o2]
    refine wpAny_bind (wpAny_mono ht (fun r s2 h2 => ?_) fun _ _ x => x)
    obtain ⟨rfl, h2⟩ := h2
    have again := ih (j + 1) (by omega) (by omega) s2 h2
    obtain ⟨hp2, g2, d2, tk2, os2⟩ := s2
    wp_walk
    rw [ec]
    exact ⟨plainId_quiet plain_eq_loop _, codeAny_builtin entry_eq_loop (by
      rw [Around.under_plainId plain_eq_loop _]
      exact again)⟩
theorem list_ne (p q : Addr) (len : Nat) (J : Nat → Shared → Prop) (hJ : ListI prog w A (fun e s' => R (.error e) s') p q len J)
    (done : ∀ s, J len s → R (.ok (.ret (.bool false))) s) {s : Shared} (h : J 0 s) :
    wpAny (model prog w) A.in1 (Builtin.«list.__ne__» ⟨[.ref p, .ref q], []⟩) (FinOf prog w A R) (fun e s' => R (.error e) s') s := by
  obtain ⟨us, vs, n, n2, e1, e2, z1, z2, _⟩ := hJ _ _ h
  have again := ne_loop (A := A) (R := R) p q len J hJ done _ 0 rfl (Nat.zero_le _) s h
  obtain ⟨hp, g, d, tk, os⟩ := s
  have f3 := AutoSeq1.sub_list_list
  have dif : ¬ (us.size != vs.size) = true := by simp [z1, z2]
  wp_walk using wpAny_loadPart' e1, wpAny_loadPart' e2
  exact ⟨plainId_quiet plain_eq_loop _, codeAny_builtin entry_eq_loop (by
    rw [Around.under_plainId plain_eq_loop _]
    exact again)⟩
end
theorem rc_listN {prog : Program} {w : World} {A : Around} {E : Value → Shared → Prop} {s : Shared} {p q : Addr} {len : Nat} {Q : Value → Shared → Prop} (hu : A.units < cLine) (J : Nat → Shared → Prop) (hJ : ListI prog w A E p q len J)
    (done : ∀ s, J len s → Q (.bool false) s) (h : J 0 s) : wpAny (model prog w) A (richCompare .NotEq (.ref p) (.ref q)) Q E s := by
  obtain ⟨us, vs, n, n2, e1, e2, _, _, _⟩ := hJ _ _ h
  refine wpAny_richCompare_same_room (op := .NotEq) ⟨_, e1, rfl⟩ ⟨_, e2, rfl⟩ F.slot_list_ne (call_here F.slot_list_ne ⟨_, e1, rfl⟩ F.entry_list_ne (F.args_list_ne_2 _ _) ?_) hu
  exact list_ne (R := wants (fun v s' => v ≠ .notImplemented ∧ Q v s') E) p q len J hJ (fun s' z => ⟨(fun x => nomatch x), done s' z⟩) h
end GN
namespace L2
open PySem PySem.Spec PyProof.Rows
/-- x != y of two lists, False -/
def rNeG (D : Eqv) : R2 := fun x y H Q => DList D x y H ∧ ∀ H', Ext H H' → Q (.bl false) H'
section
variable {X : Cx} {n k : Nat} {D : Eqv}
theorem op_neG (hD : Mon D) (h : EqG X n D) (hr : Room (n + 1) X.A) : OpR X (compareOp .NotEq) (rNeG D) := by
  intro pins s σ H x y v u Q I rx ry hq
  obtain ⟨⟨a, b, xs, ys, rfl, rfl, ha, hb, p⟩, q⟩ := hq
  cases rx
  cases ry
  refine GN.rc_listN (len := xs.length) hr.units0 (fun _ s' => LoopI X pins σ H s') (fun i s' z => ?_) (fun s' z => ?_) ⟨H, I, Ext.rfl'⟩
  · obtain ⟨H1, I1, e1⟩ := id z
    obtain ⟨z1, its, k, r, e⟩ := I1.hok a _ (e1 _ _ ha)
    obtain ⟨z2, its2, k2, r2, e2⟩ := I1.hok b _ (e1 _ _ hb)
    exact ⟨its.toArray, its2.toArray, k, k2, e, e2, by rw [List.size_toArray, ← r.length], by rw [List.size_toArray, ← r2.length, ← p.1], fun h1 h2 => turnG hD h ⟨hr, rfl⟩ p r r2 i h1 h2 s' z⟩
  · obtain ⟨H1, I1, e1⟩ := z
    exact ⟨.bl false, H1, I1, rfl, q H1 e1⟩
/-- two forms that are equal -/
def DFm (P : Program) (w : World) (K : PySem.W.Frag) (C : Addr) : Eqv := fun x y H => ∃ a b fa fb, x = .ref a ∧ y = .ref b ∧ FmAt P w K C H a fa ∧ FmAt P w K C H b fb ∧ eqFm fa fb = true
theorem mon_fm {P : Program} {w : World} {K : PySem.W.Frag} {C : Addr} : Mon (DFm P w K C) := fun x y H H' e ⟨a, b, fa, fb, h1, h2, h3, h4, h5⟩ => ⟨a, b, fa, fb, h1, h2, h3.same e, h4.same e, h5⟩
theorem rcG_fm {C : Addr} (O : EqM X.prog X.w X.K X.mg X.base k C) : RcG X k (DFm X.prog X.w X.K C) := by
  obtain ⟨f, fd, ps, N, F, hb⟩ := O.ex
  intro A pins s σ H x y v u sb I rx ry h
  obtain ⟨a, b, fa, fb, rfl, rfl, ha, hb2, q⟩ := h
  obtain rfl : v = Value.ref a := rx
  obtain rfl : u = Value.ref b := ry
  obtain ⟨dx, d, kvs, ea, _⟩ := id ha
  obtain ⟨dy, e, kvs2, eb, _⟩ := id hb2
  obtain ⟨ox, od, J⟩ := inst_of I ea
  obtain ⟨oy, oe, J2⟩ := inst_of I eb
  obtain ⟨m, fr⟩ := I.fr
  refine PySem.W.cmp_K (op := .Eq) (tb := .ref C) sb.room.units0 fr I.ok.mod.kin J J2.type (by simp [PySem.W.notFirst]) N.eq N.fn ?_
  refine thn (run_sub (Q := fun v H' => v = .bl (eqFm fa fb) ∧ H' = H) ⟨sb.room, sb.fr⟩ (vs := [V.ref a, V.ref b]) F hb I (.cons rfl (.cons rfl .nil)) ⟨a, b, fa, fb, rfl, ha, hb2, rfl, rfl⟩) fun r s' z => ?_
  obtain ⟨z, H', I', rz, rfl, rfl⟩ := z
  rw [q] at rz
  obtain rfl : r = Value.bool true := rz
  exact ⟨rfl, _, I', Ext.rfl'⟩
theorem eqG_fm {C : Addr} (O : EqM X.prog X.w X.K X.mg X.base k C) : EqG X k (DFm X.prog X.w X.K C) := (rcG_fm O).eqG fun _ _ _ d => let ⟨a, b, _, _, hx, hy, _⟩ := d; ⟨a, b, hx, hy⟩
end
end L2

set_option Elab.async false
set_option linter.all false
set_option maxRecDepth 100000
set_option maxHeartbeats 1000000
/-! is_whole, is_count, is_letter, is_product, is_side -/
namespace E4
open PySem PySem.Spec PyProof.Rows L2
open C8 (Cal Mak Met InsC pe_c pe_mt pe_mt0 call_isC clsBody)
theorem iteP {p : Prop} [Decidable p] {A B : Prop} (hp : p) (h : B) : if (!decide p) = true then A else B := by
  rw [decide_eq_true hp]
  exact h
theorem iteN {p : Prop} [Decidable p] {A B : Prop} (hp : ¬ p) (h : A) : if (!decide p) = true then A else B := by
  rw [decide_eq_false hp]
  exact h
/-- a letter -/
def LetOk (z : Str) : Prop := 1 ≤ z.length ∧ z.length ≤ 10 ∧ ∀ c ∈ z.cps.toList, 97 ≤ c ∧ c ≤ 122
/-- builtin names that the module leaves alone -/
structure Bl (mg : Str → Option Value) : Prop where
  isi : mg "isinstance" = none
  int_ : mg "int" = none
  bool_ : mg "bool" = none
  str_ : mg "str" = none
  len_ : mg "len" = none
  all_ : mg "all" = none
  any_ : mg "any" = none
  lst_ : mg "list" = none
  tup_ : mg "tuple" = none
  dict_ : mg "dict" = none
  set_ : mg "set" = none
  srt_ : mg "sorted" = none
  zip_ : mg "zip" = none
  rev_ : mg "reversed" = none
  dm_ : mg "divmod" = none
/-- a side: its name, its size, its step -/
abbrev Sd := Str × List Str × List Str
def SdOk (x : Sd) : Prop := LetOk x.1 ∧ (∀ z ∈ x.2.1, LetOk z) ∧ (∀ z ∈ x.2.2, LetOk z) ∧ x.2.1.length ≤ 60 ∧ x.2.2.length ≤ 60
def SdAt (H : Hp) (t : Addr) (x : Sd) : Prop := ∃ a b, H t = some (.tup [.str x.1, .ref a, .ref b]) ∧ H a = some (.lst (x.2.1.map V.str)) ∧ H b = some (.lst (x.2.2.map V.str))
theorem SdAt.same {H H' : Hp} {t : Addr} {x : Sd} (h : SdAt H t x) (S : Same H H') : SdAt H' t x := let ⟨a, b, h1, h2, h3⟩ := h; ⟨a, b, S _ _ h1, S _ _ h2, S _ _ h3⟩
def SdsAt (H : Hp) (ts : List Addr) (xs : List Sd) : Prop := Paired (SdAt H) ts xs
theorem SdsAt.imp {H H' : Hp} {ts : List Addr} {xs : List Sd} (h : SdsAt H ts xs) (k : ∀ t ∈ ts, ∀ x, SdAt H t x → SdAt H' t x) : SdsAt H' ts xs := by
  unfold SdsAt at h ⊢
  induction h with
  | nil => exact .nil
  | cons r t ih => exact .cons (k _ List.mem_cons_self _ r) (ih fun z hz => k z (List.mem_cons_of_mem _ hz))
theorem SdsAt.same {H H' : Hp} {ts : List Addr} {xs : List Sd} (h : SdsAt H ts xs) (S : Same H H') : SdsAt H' ts xs := h.imp fun _ _ _ q => q.same S
theorem paired_ix {α β : Type} {R : α → β → Prop} {as : List α} {bs : List β} (h : Paired R as bs) {i : Nat} {b : β} (e : bs[i]? = some b) : ∃ a, as[i]? = some a ∧ R a b := by
  induction h generalizing i with
  | nil => cases e
  | cons r t ih =>
    cases i with
    | zero => cases e; exact ⟨_, rfl, r⟩
    | succ i => exact ih e
theorem paired_at {α β : Type} {R : α → β → Prop} {as : List α} {bs : List β} (h : Paired R as bs) {i : Nat} {a : α} (e : as[i]? = some a) : ∃ b, bs[i]? = some b ∧ R a b := by
  induction h generalizing i with
  | nil => cases e
  | cons r t ih =>
    cases i with
    | zero => cases e; exact ⟨_, rfl, r⟩
    | succ i => exact ih e
theorem paired_snoc {α β : Type} {R : α → β → Prop} {as : List α} {bs : List β} {a : α} {b : β} (h : Paired R as bs) (r : R a b) : Paired R (as ++ [a]) (bs ++ [b]) := by
  induction h with
  | nil => exact .cons r .nil
  | cons r' t ih => exact .cons r' ih
def spWhole : Sp := fun vs H Q _ => ∃ i : Int, vs = [.int i] ∧ Q (.bl true) H
def spIsLet : Sp := fun vs H Q _ => ∃ z : Str, vs = [.str z] ∧ LetOk z ∧ ∀ H', Same H H' → Q (.bl true) H'
def spProdOk : Sp := fun vs H Q _ => ∃ (a : Addr) (xs : List Str), vs = [.ref a] ∧ H a = some (.lst (xs.map V.str)) ∧ (∀ z ∈ xs, LetOk z) ∧ xs.length ≤ 60 ∧ ∀ H', Same H H' → Q (.bl true) H'
def spSideOk : Sp := fun vs H Q _ => ∃ (t : Addr) (x : Sd), vs = [.ref t, .int 2] ∧ SdAt H t x ∧ SdOk x ∧ ∀ H', Same H H' → Q (.bl true) H'
theorem all_true (n : Nat) : (List.replicate n true).all id = true := by simp
section
variable {P : Program} {w : World} {K : PySem.W.Frag} {mg : Str → Option Value} {base : Heap}
theorem kit_ss : PySem.W.kitOne K (.type "str") (.type "str") = some true := by kernel_rfl
theorem kit_ii : PySem.W.kitOne K (.type "int") (.type "int") = some true := by kernel_rfl
theorem kit_ib : PySem.W.kitOne K (.type "int") (.type "bool") = some false := by kernel_rfl
theorem kit_tt : PySem.W.kitOne K (.type "tuple") (.type "tuple") = some true := by kernel_rfl
theorem kit_ll : PySem.W.kitOne K (.type "list") (.type "list") = some true := by kernel_rfl
theorem scWhole : FnScope ["value"] ["value"] (defScope sIsWhole) := ⟨rfl, rfl, rfl, by decide +kernel, rfl, by decide +kernel, by decide +kernel⟩
theorem ok_whole {f : Addr} {fd : FuncData} (F : Fun K "is_whole" "is_whole" sIsWhole f fd) (B : Bl mg) : FnOk P w K mg base CX0 1 f fd ["value"] spWhole := by
  refine F.ok scWhole (fun vs H Q E h => ?_) (fun cdv A outer s H vs Q E hr h => ?_)
  · obtain ⟨v, rfl, _⟩ := h
    rfl
  · obtain ⟨i, rfl, q⟩ := h
    refine ⟨_, pss_one (ps_ret (pe_and (pe_callB call_isi (by rfl) B.isi (by decide +kernel) (pa_cons (pv 0) (pa_cons (pe_bltn (v := .ty "int") (by rfl) B.int_ (by decide +kernel) rfl) pa_nil)))
      (pe_one (pe_not (pe_callB call_isi (by rfl) B.isi (by decide +kernel) (pa_cons (pv 0) (pa_cons (pe_bltn (v := .ty "bool") (by rfl) B.bool_ (by decide +kernel) rfl) pa_nil))))))), ?_⟩
    refine ⟨_, rfl, _, _, _, _, true, rfl, .ty "int", .base (.int i), kit_ii, true, rfl, iteT (B := False) ?_⟩
    exact ⟨_, rfl, _, _, _, _, false, rfl, .ty "bool", .base (.int i), kit_ib, false, rfl, q⟩
theorem scIsLet : FnScope ["name", "sign"] ["name"] (defScope sIsLetter) := ⟨rfl, rfl, rfl, by decide +kernel, rfl, by decide +kernel, by decide +kernel⟩
abbrev rLeS : R2 := fun x y H Q => ∃ i j, x = .str i ∧ y = .str j ∧ Q (.bl (!decide (j.cps.toList < i.cps.toList))) H
theorem ok_isLet {f : Addr} {fd : FuncData} (F : Fun K "is_letter" "is_letter" sIsLetter f fd) (B : Bl mg) : FnOk P w K mg base CX0 1 f fd ["name"] spIsLet := by
  refine F.ok scIsLet (fun vs H Q E h => ?_) (fun cdv A outer s H vs Q E hr h => ?_)
  · obtain ⟨z, rfl, _⟩ := h
    rfl
  · obtain ⟨z, rfl, ⟨l1, l2, hc⟩, k⟩ := h
    refine ⟨_, pss_cons (ps_if (PW.pt (pw_or (pt_not (pt_val (pe_callB call_isi (by rfl) B.isi (by decide +kernel) (pa_cons (pv 0) (pa_cons (pe_bltn (v := .ty "str") (by rfl) B.str_ (by decide +kernel) rfl) pa_nil)))))
        (pw_or1 (pt_not (pt_chain op_le op_le pe_int (pe_callB call_len_str (by rfl) B.len_ PySem.boot_len (pa_cons (pv 0) pa_nil)) pe_int))))) (pss_one (ps_ret pe_bl)) pss_nil)
      (pss_one (ps_ret (pe_callB (cr_all rfl) (by rfl) B.all_ (by decide +kernel) (pa_cons (pe_lc (own := [("sign", 1)]) (g := gName 1) (tt := tYes) (te := tChain rLeS rLeS (tC (.str "a")) (tVar 1) (tC (.str "z"))) rfl scIsLet.nd (pi_str (pv 0))
        (blkOk_by (own := [("sign", 1)]) (N := ["name", "sign"]) (sc := defScope sIsLetter) (by decide +kernel))
        (fun _ _ _ _ _ => pg_name (i := 1) scIsLet.nd rfl (Or.inl rfl)) (fun _ _ _ _ _ => pts_nil) (fun _ _ _ _ _ => by exact pe_chain op_le_str op_le_str pe_str (pv 1) pe_str)) pa_nil)))), ?_⟩
    have hz : z.length ≤ sizeLine := by rw [sizeLine_eq]; omega
    refine ⟨_, rfl, _, _, _, _, true, rfl, .ty "str", .base (.str z), kit_ss, true, rfl, iteF ?_⟩
    refine ⟨_, rfl, z, rfl, hz, _, _, rfl, rfl, _, rfl, iteD (fun _ => ?_) (fun h => absurd (by omega) h)⟩
    refine ⟨_, _, rfl, rfl, _, rfl, iteP (by omega) ?_⟩
    refine ⟨_, rfl, z, rfl, fun D nD => lc_it walk_str (fun i H' => Same H H' ∧ H' D = some (.lst (List.replicate i (V.bl true)))) ⟨Same.upd nD, upd_same⟩ (fun _ _ _ _ => trivial) ?_ ?_⟩
    · rintro i x H1 H1' hi ⟨S, hD⟩ ⟨rfl, c, hcz, rfl⟩
      have hm : c ∈ z.cps.toList := by
        rw [← Array.getElem?_toList] at hcz
        exact List.mem_of_getElem? hcz
      obtain ⟨c1, c2⟩ := hc c hm
      have n1 : ¬ ((⟨#[c]⟩ : Str).cps.toList < ("a" : Str).cps.toList) := by
        show ¬ ([c] < [97])
        rw [List.cons_lt_cons_iff]
        rintro (h | ⟨_, h⟩)
        · omega
        · exact absurd h (by decide)
      have n2 : ¬ (("z" : Str).cps.toList < (⟨#[c]⟩ : Str).cps.toList) := by
        show ¬ ([122] < [c])
        rw [List.cons_lt_cons_iff]
        rintro (h | ⟨_, h⟩)
        · omega
        · exact absurd h (by decide)
      refine ⟨rfl, iteT (B := False) ⟨_, rfl, _, _, rfl, rfl, _, rfl, iteN n1 ⟨_, _, rfl, rfl, _, hD, ?_, ?_, ?_⟩⟩⟩
      · rw [List.length_replicate]
        have : i < z.length := hi
        omega
      · intro b o hb
        rw [upd_ne (ne_of_none hb nD)]
        exact S _ _ hb
      · rw [upd_same, decide_eq_false n2, List.replicate_succ']
        rfl
    · rintro H1 ⟨S, hD⟩
      refine ⟨D, List.replicate z.cps.size true, rfl, SqL.of ?_, ?_⟩
      · rw [List.map_replicate]
        exact hD
      · rw [show (List.replicate z.cps.size true).all id = true by simp]
        exact k H1 S
theorem scProdOk : FnScope ["product", "name"] ["product"] (defScope sIsProduct) := ⟨rfl, rfl, rfl, by decide +kernel, rfl, by decide +kernel, by decide +kernel⟩
theorem ok_prodOk {f : Addr} {fd : FuncData} (F : Fun K "is_product" "is_product" sIsProduct f fd) (B : Bl mg) (L : Cal P w K mg base 1 "is_letter" spIsLet []) : FnOk P w K mg base CX0 2 f fd ["product"] spProdOk := by
  refine F.ok scProdOk (fun vs H Q E h => ?_) (fun cdv A outer s H vs Q E hr h => ?_)
  · obtain ⟨a, xs, rfl, _⟩ := h
    rfl
  · obtain ⟨a, xs, rfl, ha, hx, hz, k⟩ := h
    refine ⟨_, pss_one (ps_ret (pe_and (pe_callB call_isi (by rfl) B.isi (by decide +kernel) (pa_cons (pv 0) (pa_cons (pe_bltn (v := .ty "list") (by rfl) B.lst_ (by decide +kernel) rfl) pa_nil)))
      (pe_one (pe_callB (cr_all rfl) (by rfl) B.all_ (by decide +kernel) (pa_cons (pe_lc (own := [("name", 1)]) (g := gName 1) (tt := tYes) (te := tCall spIsLet [] C8.E0 (tCons (tVar 1) tNil)) rfl scProdOk.nd (pi_list (pv 0))
        (blkOk_by (own := [("name", 1)]) (N := ["product", "name"]) (sc := defScope sIsProduct) (by decide +kernel))
        (fun _ _ _ _ _ => pg_name (i := 1) scProdOk.nd rfl (Or.inl rfl)) (fun _ _ _ _ _ => pts_nil) (fun _ _ _ _ _ => by exact pe_c L hr (by decide) rfl (pa_cons (pv 1) pa_nil))) pa_nil))))), ?_⟩
    refine ⟨_, rfl, _, _, _, _, true, rfl, .ty "list", .base (.lst ha), kit_ll, true, rfl, iteT (B := False) ?_⟩
    refine ⟨_, rfl, a, rfl, ⟨_, SqL.of ha⟩, fun D nD => lc_it (walk_list (xs := xs.map V.str)) (fun i H' => Same H H' ∧ H' D = some (.lst (List.replicate i (V.bl true)))) ⟨Same.upd nD, upd_same⟩ (fun i H' _ q => SqL.of (q.1 _ _ ha)) ?_ ?_⟩
    · rintro i x H2 H3 hi ⟨S, hD⟩ ⟨rfl, hx2⟩
      rw [List.length_map] at hi
      rw [List.getElem?_map] at hx2
      obtain ⟨z, hzz, rfl⟩ := Option.map_eq_some_iff.mp hx2
      refine ⟨rfl, iteT (B := False) ⟨_, rfl, z, rfl, hx z (List.mem_of_getElem? hzz), fun H4 S4 => ⟨_, S4 _ _ hD, ?_, ?_, ?_⟩⟩⟩
      · rw [List.length_replicate, sizeLine_eq]
        omega
      · intro b o hb
        rw [upd_ne (ne_of_none hb nD)]
        exact S4 _ _ (S _ _ hb)
      · rw [upd_same, List.replicate_succ']
    · rintro H2 ⟨S, hD⟩
      refine ⟨D, List.replicate xs.length true, rfl, SqL.of ?_, ?_⟩
      · rw [List.map_replicate]
        rw [List.length_map] at hD
        exact hD
      · rw [all_true]
        exact k H2 S
theorem scSideOk : FnScope ["side", "many", "product"] ["side", "many"] (defScope sIsSide) := ⟨rfl, rfl, rfl, by decide +kernel, rfl, by decide +kernel, by decide +kernel⟩
theorem cut12 (x y z : V) : cutV [x, y, z] (some 1) none = [y, z] := by rfl
theorem ok_sideOk {f : Addr} {fd : FuncData} (F : Fun K "is_side" "is_side" sIsSide f fd) (B : Bl mg) (L : Cal P w K mg base 1 "is_letter" spIsLet []) (Pr : Cal P w K mg base 2 "is_product" spProdOk []) : FnOk P w K mg base CX0 3 f fd ["side", "many"] spSideOk := by
  refine F.ok scSideOk (fun vs H Q E h => ?_) (fun cdv A outer s H vs Q E hr h => ?_)
  · obtain ⟨t, x, rfl, _⟩ := h
    rfl
  · obtain ⟨t, x, rfl, ⟨a, b, ht, ha, hb⟩, ⟨o1, o2, o3, o4, o5⟩, k⟩ := h
    refine ⟨_, pss_cons (ps_if (PW.pt (pw_or (pt_not (pt_val (pe_callB call_isi (by rfl) B.isi (by decide +kernel) (pa_cons (pv 0) (pa_cons (pe_bltn (v := .ty "tuple") (by rfl) B.tup_ (by decide +kernel) rfl) pa_nil)))))
        (pw_or1 (pt_cmpR op_ne (pe_callB call_len_seq (by rfl) B.len_ PySem.boot_len (pa_cons (pv 0) pa_nil)) (pe_op op_add pe_int (pv 1)) (by rfl))))) (pss_one (ps_ret pe_bl)) pss_nil)
      (pss_one (ps_ret (pe_and (pe_c L hr (by decide) rfl (pa_cons (pe_ix ix_tup (pv 0) pe_int (fun _ _ => rfl)) pa_nil))
        (pe_one (pe_callB (cr_all rfl) (by rfl) B.all_ (by decide +kernel) (pa_cons (pe_lc (own := [("product", 2)]) (g := gName 2) (tt := tYes) (te := tCall spProdOk [] C8.E0 (tCons (tVar 2) tNil)) rfl scSideOk.nd (pi_tup (pe_slice sl_tup (pv 0) (po_some pe_int) po_none))
          (blkOk_by (own := [("product", 2)]) (N := ["side", "many", "product"]) (sc := defScope sIsSide) (by decide +kernel))
          (fun _ _ _ _ _ => pg_name (i := 2) scSideOk.nd rfl (Or.inl rfl)) (fun _ _ _ _ _ => pts_nil) (fun _ _ _ _ _ => by exact pe_c Pr hr (by decide) rfl (pa_cons (pv 2) pa_nil))) pa_nil)))))), ?_⟩
    refine ⟨_, rfl, _, _, _, _, true, rfl, .ty "tuple", .base (.tup ht), kit_tt, true, rfl, iteF ?_⟩
    refine ⟨_, rfl, t, _, rfl, .inr (SqT.of ht), _, rfl, 1, 2, rfl, rfl, rfl, _, rfl, ifF rfl ?_⟩
    dsimp only [tNext]
    refine ⟨_, rfl, t, _, 0, _, rfl, rfl, SqT.of ht, rfl, x.1, rfl, o1, fun H1 S1 => ⟨true, rfl, iteT (B := False) ?_⟩⟩
    refine ⟨_, rfl, 1, rfl, t, _, rfl, SqT.of (S1 _ _ ht), (fun h => absurd (show HT.sIx 3 0 (some 1) = 0 from h.1) (by decide)), fun p np => ?_⟩
    rw [cut12]
    have S2 : Same H1 (upd H1 p (.tup [.ref a, .ref b])) := Same.upd np
    have hp : (upd H1 p (.tup [.ref a, .ref b])) p = some (.tup [.ref a, .ref b]) := upd_same
    generalize upd H1 p (.tup [.ref a, .ref b]) = H2 at S2 hp ⊢
    refine ⟨p, rfl, ⟨_, SqT.of hp⟩, fun D nD => lc_it (walk_tup (xs := [.ref a, .ref b])) (fun i H' => Same H2 H' ∧ H' D = some (.lst (List.replicate i (V.bl true)))) ⟨Same.upd nD, upd_same⟩ (fun i H' _ q => SqT.of (q.1 _ _ hp)) ?_ ?_⟩
    · rintro i x1 H3 H4 hi ⟨S, hD⟩ ⟨rfl, hx2⟩
      have key : ∃ (a : Addr) (xs : List Str), [x1] = [V.ref a] ∧ H4 a = some (HO.lst (xs.map V.str)) ∧ (∀ z ∈ xs, LetOk z) ∧ xs.length ≤ 60 := by
        match i, hi with
        | 0, _ => cases hx2; exact ⟨a, x.2.1, rfl, S _ _ (S2 _ _ (S1 _ _ ha)), o2, o4⟩
        | 1, _ => cases hx2; exact ⟨b, x.2.2, rfl, S _ _ (S2 _ _ (S1 _ _ hb)), o3, o5⟩
      obtain ⟨c, zs, e, hc, hl, hz⟩ := key
      refine ⟨rfl, iteT (B := False) ⟨_, rfl, c, zs, e, hc, hl, hz, fun H5 S4 => ⟨_, S4 _ _ hD, ?_, ?_, ?_⟩⟩⟩
      · rw [List.length_replicate, sizeLine_eq]
        have : i < 2 := hi
        omega
      · intro b o hb
        rw [upd_ne (ne_of_none hb nD)]
        exact S4 _ _ (S _ _ hb)
      · rw [upd_same, List.replicate_succ']
    · rintro H3 ⟨S, hD⟩
      refine ⟨D, List.replicate 2 true, rfl, SqL.of hD, ?_⟩
      exact k H3 (S1.trans (S2.trans S))
end
end E4

set_option Elab.async false
set_option linter.all false
set_option maxRecDepth 100000
set_option maxHeartbeats 1000000
/-! names_of, is_sides -/
namespace E4
open PySem PySem.Spec PyProof.Rows L2
open C8 (Cal Mak Met InsC pe_c pe_mt pe_mt0 call_isC clsBody)
/-- good sides -/
structure SdsOk (xs : List Sd) : Prop where
  ne : xs ≠ []
  ok : ∀ x ∈ xs, SdOk x
  nd : (xs.map (·.1)).Nodup
  free : ∀ x ∈ xs, ∀ y ∈ xs, ∀ z, z ∈ x.2.1 ∨ z ∈ x.2.2 → z ≠ y.1
  len : xs.length ≤ 16
def spNames (K : PySem.W.Frag) : Sp := fun vs H Q _ => ∃ (l : Addr) (ts : List Addr) (xs : List Sd), vs = [.ref l] ∧ SqL K H l (ts.map V.ref) ∧ SdsAt H ts xs ∧ xs.length ≤ 60 ∧ ∀ H' p, Same H H' → H p = none → H' p = some (.lst ((xs.map (·.1)).map V.str)) → Q (.ref p) H'
def spSidesOk : Sp := fun vs H Q _ => ∃ (l : Addr) (ts : List Addr) (xs : List Sd), vs = [.ref l, .int 2] ∧ H l = some (.lst (ts.map V.ref)) ∧ SdsAt H ts xs ∧ SdsOk xs ∧ ∀ H', Same H H' → Q (.bl true) H'
theorem any_false (l : List Bool) (h : ∀ b ∈ l, b = false) : l.any id = false := by
  rw [List.any_eq_false]
  intro b hb
  rw [h b hb]
  decide
section
variable {P : Program} {w : World} {K : PySem.W.Frag} {mg : Str → Option Value} {base : Heap}
theorem scNames : FnScope ["sides", "side"] ["sides"] (defScope sNamesOf) := ⟨rfl, rfl, rfl, by decide +kernel, rfl, by decide +kernel, by decide +kernel⟩
theorem ok_names {f : Addr} {fd : FuncData} (F : Fun K "names_of" "names_of" sNamesOf f fd) : FnOk P w K mg base CX0 1 f fd ["sides"] (spNames K) := by
  refine F.ok scNames (fun vs H Q E h => ?_) (fun cdv A outer s H vs Q E hr h => ?_)
  · obtain ⟨l, ts, xs, rfl, _⟩ := h
    rfl
  · obtain ⟨l, ts, xs, rfl, hl, hx, hz, k⟩ := h
    refine ⟨_, pss_one (ps_ret (pe_lc (own := [("side", 1)]) (g := gName 1) (tt := tYes) (te := tOp (rIxT K) (tVar 1) (tC (.int 0))) rfl scNames.nd (pi_list (pv 0))
        (blkOk_by (own := [("side", 1)]) (N := ["sides", "side"]) (sc := defScope sNamesOf) (by decide +kernel))
        (fun _ _ _ _ _ => pg_name (i := 1) scNames.nd rfl (Or.inl rfl)) (fun _ _ _ _ _ => pts_nil) (fun _ _ _ _ _ => by exact pe_ix ix_tup (pv 1) pe_int (fun _ _ => rfl)))), ?_⟩
    have lt := hx.length
    refine ⟨_, rfl, l, rfl, ⟨_, hl⟩, fun D nD => lc_it (walk_list (xs := ts.map V.ref)) (fun i H' => Same H H' ∧ H' D = some (.lst (((xs.take i).map (·.1)).map V.str))) ⟨Same.upd nD, upd_same⟩ (fun i H' _ q => hl.same q.1) ?_ ?_⟩
    · rintro i x H1 H2 hi ⟨S, hD⟩ ⟨rfl, hx2⟩
      rw [List.length_map] at hi
      rw [List.getElem?_map] at hx2
      obtain ⟨t, htt, rfl⟩ := Option.map_eq_some_iff.mp hx2
      obtain ⟨y, hy, a, b, h1, _⟩ := paired_at hx htt
      refine ⟨rfl, iteT (B := False) ⟨_, rfl, t, _, 0, _, rfl, rfl, SqT.of (S _ _ h1), rfl, _, hD, ?_, ?_, ?_⟩⟩
      · rw [List.length_map, List.length_map, List.length_take, sizeLine_eq]
        omega
      · intro c o e
        rw [upd_ne (ne_of_none e nD)]
        exact S _ _ e
      · rw [upd_same, take_snoc hy, List.map_append, List.map_append]
        rfl
    · rintro H1 ⟨S, hD⟩
      rw [List.length_map, lt, List.take_length] at hD
      exact k H1 D S nD hD
theorem scSidesOk : FnScope ["sides", "many", "side", "names", "product", "part"] ["sides", "many"] (defScope sIsSides) := ⟨rfl, rfl, rfl, by decide +kernel, rfl, by decide +kernel, by decide +kernel⟩
theorem ok_sidesOk {f : Addr} {fd : FuncData} (F : Fun K "is_sides" "is_sides" sIsSides f fd) (B : Bl mg) (Sd : Cal P w K mg base 3 "is_side" spSideOk []) (Nm : Cal P w K mg base 1 "names_of" (spNames K) []) : FnOk P w K mg base CX0 4 f fd ["sides", "many"] spSidesOk := by
  refine F.ok scSidesOk (fun vs H Q E h => ?_) (fun cdv A outer s H vs Q E hr h => ?_)
  · obtain ⟨l, ts, xs, rfl, _⟩ := h
    rfl
  · obtain ⟨l, ts, xs, rfl, hl, hx, ok, k⟩ := h
    refine ⟨_, pss_cons (ps_if (PW.pt (pw_or (pt_not (pt_val (pe_callB call_isi (by rfl) B.isi (by decide +kernel) (pa_cons (pv 0) (pa_cons (pe_bltn (v := .ty "list") (by rfl) B.lst_ (by decide +kernel) rfl) pa_nil)))))
        (pw_or1 (pt_cmpR op_eq (pe_callB call_len_seq (by rfl) B.len_ PySem.boot_len (pa_cons (pv 0) pa_nil)) pe_int (by rfl))))) (pss_one (ps_ret pe_bl)) pss_nil)
      (pss_cons (ps_if (pt_not (pt_val (pe_callB (cr_all rfl) (by rfl) B.all_ (by decide +kernel) (pa_cons (pe_lc (own := [("side", 2)]) (g := gName 2) (tt := tYes) (te := tCall spSideOk [] C8.E0 (tCons (tVar 2) (tCons (tVar 1) tNil))) rfl scSidesOk.nd (pi_list (pv 0))
          (blkOk_by (own := [("side", 2)]) (N := ["sides", "many", "side", "names", "product", "part"]) (sc := defScope sIsSides) (by decide +kernel))
          (fun _ _ _ _ _ => pg_name (i := 2) scSidesOk.nd rfl (Or.inl rfl)) (fun _ _ _ _ _ => pts_nil) (fun _ _ _ _ _ => by exact pe_c Sd hr (by decide) rfl (pa_cons (pv 2) (pa_cons (pv 1) pa_nil)))) pa_nil)))) (pss_one (ps_ret pe_bl)) pss_nil)
      (pss_cons (ps_set (i := 3) scSidesOk.nd rfl (Or.inr rfl) (pe_c Nm hr (by decide) rfl (pa_cons (pv 0) pa_nil)))
      (pss_cons (ps_if (pt_cmpR op_lt (pe_callB cr_lenSS (by rfl) B.len_ PySem.boot_len (pa_cons (pe_callTy (cr_setLS rfl) (by rfl) B.set_ (by decide +kernel) (pa_cons (pv 3) pa_nil)) pa_nil)) (pe_callB call_len_seq (by rfl) B.len_ PySem.boot_len (pa_cons (pv 3) pa_nil)) (by rfl)) (pss_one (ps_ret pe_bl)) pss_nil)
      (pss_one (ps_ret (pe_not (pe_callB (cr_any rfl) (by rfl) B.any_ (by decide +kernel) (pa_cons (pe_lc3 (own := [("side", 2), ("product", 4), ("part", 5)]) (v1 := [4, 5]) (v2 := [5]) (g0 := gName 2) (w1 := iTup K (tSl (rSlT K) (tVar 2) (tPart (tC (.int 1))) tNoPart)) (g1 := gName 4) (w2 := iList K (tVar 4)) (g2 := gName 5) (te := tOp (rIn K false) (tVar 5) (tVar 3)) rfl scSidesOk.nd
          (blkOk_by (own := [("side", 2), ("product", 4), ("part", 5)]) (N := ["sides", "many", "side", "names", "product", "part"]) (sc := defScope sIsSides) (by decide +kernel)) (by decide) (by decide) (pi_list (pv 0))
          (fun _ _ _ _ _ => pg_name (i := 2) scSidesOk.nd rfl (Or.inl rfl)) (fun _ _ _ _ _ => by exact pi_tup (pe_slice sl_tup (pv 2) (po_some pe_int) po_none)) (fun _ _ _ _ _ => pg_name (i := 4) scSidesOk.nd rfl (Or.inl rfl))
          (fun _ _ _ _ _ => by exact pi_list (pv 4)) (fun _ _ _ _ _ => pg_name (i := 5) scSidesOk.nd rfl (Or.inl rfl)) (fun _ _ _ _ _ => by exact pe_cmpR op_in_seq (pv 5) (pv 3) (by rfl))) pa_nil)))))))), ?_⟩
    have lt := hx.length
    have zl := ok.len
    refine ⟨_, rfl, _, _, _, _, true, rfl, .ty "list", .base (.lst hl), kit_ll, true, rfl, iteF ?_⟩
    refine ⟨_, rfl, l, _, rfl, .inl (SqL.of hl), ?_⟩
    have hne : (ts.map V.ref).length ≠ 0 := by
      have : xs.length ≠ 0 := fun e => ok.ne (List.length_eq_zero_iff.mp e)
      rw [List.length_map]
      omega
    refine ⟨rfl, _, rfl, ifF (decide_eq_false fun e => hne (Int.ofNat.inj (V.int.inj e))) ?_⟩
    dsimp only [tNext]
    -- the first comprehension
    refine ⟨_, rfl, l, rfl, ⟨_, SqL.of hl⟩, fun D nD => lc_it (walk_list (xs := ts.map V.ref)) (fun i H' => Same H H' ∧ H' D = some (.lst (List.replicate i (V.bl true)))) ⟨Same.upd nD, upd_same⟩ (fun i H' _ q => SqL.of (q.1 _ _ hl)) ?_ ?_⟩
    · rintro i x H2 H3 hi ⟨S, hD⟩ ⟨rfl, hx2⟩
      rw [List.length_map] at hi
      rw [List.getElem?_map] at hx2
      obtain ⟨t, htt, rfl⟩ := Option.map_eq_some_iff.mp hx2
      obtain ⟨y, hy, sy⟩ := paired_at hx htt
      refine ⟨rfl, iteT (B := False) ⟨_, rfl, _, rfl, t, y, rfl, sy.same S, ok.ok y (List.mem_of_getElem? hy), fun H4 S4 => ⟨_, S4 _ _ hD, ?_, ?_, ?_⟩⟩⟩
      · rw [List.length_replicate, sizeLine_eq]
        omega
      · intro b o hb
        rw [upd_ne (ne_of_none hb nD)]
        exact S4 _ _ (S _ _ hb)
      · rw [upd_same, List.replicate_succ']
    rintro H2 ⟨S2, hD⟩
    refine ⟨D, List.replicate ts.length true, rfl, SqL.of (by rw [List.map_replicate]; rw [List.length_map] at hD; exact hD), true, by rw [all_true], iteF ?_⟩
    dsimp only [tNext]
    refine seq_asg ⟨_, rfl, l, ts, xs, rfl, SqL.of (S2 _ _ hl), hx.same S2, by omega, fun H3 p S3 np hp => ?_⟩
    -- the names
    have S03 := S2.trans S3
    refine ⟨_, rfl, p, xs.map (·.1), rfl, SqL.of hp, fun i => ?_, fun sa nsa => ?_⟩
    · have h1 := len_putAll ((xs.map (·.1)).take i) []
      rw [List.length_take, List.length_map] at h1
      have : (0 : Nat) + 60 + 1 < scanBound := by decide
      simp only [List.length_nil] at h1
      omega
    have S34 : Same H3 (upd H3 sa (SetSO P w sa (putAll [] (xs.map (·.1))))) := Same.upd nsa
    refine ⟨sa, _, rfl, upd_same, ?_⟩
    refine ⟨_, rfl, p, _, rfl, .inl (SqL.of (S34 _ _ hp)), ?_⟩
    have e1 := putAll_nodup (ks := []) ok.nd fun _ _ h => absurd h List.not_mem_nil
    refine ⟨_, _, rfl, rfl, _, rfl, ifF (decide_eq_false ?_) ?_⟩
    · rw [e1, List.length_map]
      simp
    dsimp only [tNext]
    show tRet _ _ _ (upd H3 sa (SetSO P w sa (putAll [] (xs.map (·.1)))))
    generalize upd H3 sa (SetSO P w sa (putAll [] (xs.map (·.1)))) = H4 at S34 ⊢
    have S04 := S03.trans S34
    have hp4 := S34 _ _ hp
    -- the last comprehension
    have big : ∀ m : Nat, m ≤ 120 * 60 → m < sizeLine := fun m h => by rw [sizeLine_eq]; omega
    refine ⟨_, rfl, l, rfl, ⟨_, SqL.of (S04 _ _ hl)⟩, fun D2 nD2 => ?_⟩
    have up : ∀ {H' : Hp} {v : HO}, Same H4 H' → Same H4 (upd H' D2 v) := fun S c o e => by
      rw [upd_ne (ne_of_none e nD2)]
      exact S _ _ e
    refine cl_it (walk_list (xs := ts.map V.ref)) (fun i H' => Same H4 H' ∧ ∃ m, m ≤ 120 * i ∧ H' D2 = some (.lst (List.replicate m (V.bl false)))) ⟨Same.upd nD2, 0, Nat.le_refl _, upd_same⟩ (fun i H' _ q => SqL.of (q.1 _ _ (S04 _ _ hl))) ?_ ?_
    · rintro i x H5 H6 hi ⟨S5, m, hm, hD⟩ ⟨rfl, hx2⟩
      rw [List.length_map] at hi
      rw [List.getElem?_map] at hx2
      obtain ⟨t, htt, rfl⟩ := Option.map_eq_some_iff.mp hx2
      obtain ⟨y, hy, a, b, h1, h2, h3⟩ := paired_at hx htt
      have ym := List.mem_of_getElem? hy
      obtain ⟨o1, o2, o3, o4, o5⟩ := ok.ok y ym
      have S45 := S04.trans S5
      refine ⟨rfl, _, rfl, 1, rfl, t, _, rfl, SqT.of (S45 _ _ h1), (fun h => absurd (show HT.sIx 3 0 (some 1) = 0 from h.1) (by decide)), fun q nq => ?_⟩
      rw [cut12]
      have nqD : q ≠ D2 := (ne_of_none hD nq).symm
      refine ⟨q, rfl, ⟨_, SqT.of upd_same⟩, ?_⟩
      refine cl_it (walk_tup (xs := [.ref a, .ref b])) (fun j H' => Same H4 H' ∧ H' q = some (.tup [.ref a, .ref b]) ∧ ∃ m, m ≤ 120 * i + 60 * j ∧ H' D2 = some (.lst (List.replicate m (V.bl false)))) ⟨S5.trans (Same.upd nq), upd_same, m, hm, by rw [upd_ne nqD.symm]; exact hD⟩ (fun j H' _ q => SqT.of q.2.1) ?_ ?_
      · rintro j x2 H7 H8 hj ⟨S7, hq7, m7, hm7, hD7⟩ ⟨rfl, hx3⟩
        have S47 := S04.trans S7
        have key : ∃ (c : Addr) (zs : List Str), x2 = .ref c ∧ H8 c = some (.lst (zs.map V.str)) ∧ zs.length ≤ 60 ∧ c ≠ D2 ∧ ∀ z ∈ zs, z ∈ y.2.1 ∨ z ∈ y.2.2 := by
          match j, hj with
          | 0, _ => cases hx3; exact ⟨a, y.2.1, rfl, S47 _ _ h2, o4, ne_of_none (S04 _ _ h2) nD2, fun z hz => .inl hz⟩
          | 1, _ => cases hx3; exact ⟨b, y.2.2, rfl, S47 _ _ h3, o5, ne_of_none (S04 _ _ h3) nD2, fun z hz => .inr hz⟩
        obtain ⟨c, zs, rfl, hc, hz, ncD, hzs⟩ := key
        refine ⟨rfl, _, rfl, c, rfl, ⟨_, SqL.of hc⟩, ?_⟩
        refine cl_it (walk_list (xs := zs.map V.str)) (fun k H' => Same H4 H' ∧ H' q = some (.tup [.ref a, .ref b]) ∧ H' c = some (.lst (zs.map V.str)) ∧ H' D2 = some (.lst (List.replicate (m7 + k) (V.bl false)))) ⟨S7, hq7, hc, hD7⟩ (fun k H' _ q => SqL.of q.2.2.1) ?_ ?_
        · rintro k x3 H9 H10 hk ⟨S9, hq9, hc9, hD9⟩ ⟨rfl, hx4⟩
          rw [List.length_map] at hk
          rw [List.getElem?_map] at hx4
          obtain ⟨z, hzz, rfl⟩ := Option.map_eq_some_iff.mp hx4
          have nin : inV (.str z) ((xs.map (·.1)).map V.str) = false := by
            unfold inV
            rw [List.any_eq_false]
            intro v hv
            obtain ⟨n, hn, rfl⟩ := List.mem_map.mp hv
            obtain ⟨y2, hy2, rfl⟩ := List.mem_map.mp hn
            have := ok.free y ym y2 hy2 z (hzs z (List.mem_of_getElem? hzz))
            simp [eqV, Ne.symm this]
          have fl : ((xs.map (·.1)).map V.str).all flatV = true := by
            rw [List.all_eq_true]
            intro v hv
            obtain ⟨n, hn, rfl⟩ := List.mem_map.mp hv
            rfl
          refine ⟨rfl, _, rfl, _, rfl, p, _, rfl, .inl (SqL.of (S9 _ _ hp4)), rfl, fl, ?_⟩
          have hi2 : i < 60 := by omega
          have hj2 : j < 2 := hj
          refine ⟨_, hD9, by rw [List.length_replicate]; exact big _ (by omega), up S9, ?_, ?_, ?_⟩
          · rw [upd_ne nqD]; exact hq9
          · rw [upd_ne ncD]; exact hc9
          · rw [upd_same, ← Nat.add_assoc, List.replicate_succ']
            show some (HO.lst (_ ++ [V.bl (inV _ _)])) = _
            rw [nin]
        · rintro H9 ⟨S9, hq9, hc9, hD9⟩
          rw [List.length_map] at hD9
          exact ⟨S9, hq9, m7 + zs.length, by omega, hD9⟩
      · rintro H7 ⟨S7, hq7, m7, hm7, hD7⟩
        exact ⟨S7, m7, by simp only [List.length_cons, List.length_nil] at hm7; omega, hD7⟩
    · rintro H5 ⟨S5, m, hm, hD⟩
      refine ⟨D2, List.replicate m false, rfl, SqL.of (by rw [List.map_replicate]; exact hD), ?_⟩
      rw [any_false _ fun b hb => (List.mem_replicate.mp hb).2]
      exact ⟨false, rfl, k _ (S04.trans S5)⟩
end
end E4

set_option Elab.async false
set_option linter.all false
set_option maxRecDepth 100000
set_option maxHeartbeats 1000000
/-! Plain: the constructor, sides(), sizes() -/
namespace E4
open PySem PySem.Spec PyProof.Rows L2
open C8 (Cal Mak Met InsC pe_c pe_mt pe_mt0 call_isC clsBody)
/-- a side with sorted products -/
def norm (x : Sd) : Sd := (x.1, sortT x.2.1, sortT x.2.2)
/-- the table at a: its sides, their products in order -/
def PlAt (C : Addr) (H : Hp) (a : Addr) (ss : List Sd) : Prop := ∃ dx l ts, H a = some (.ins C dx [("_sides", .ref l)]) ∧ H l = some (.lst (ts.map V.ref)) ∧ SdsAt H ts ss
theorem PlAt.same {C : Addr} {H H' : Hp} {a : Addr} {ss : List Sd} (h : PlAt C H a ss) (S : Same H H') : PlAt C H' a ss := let ⟨dx, l, ts, h1, h2, h3⟩ := h; ⟨dx, l, ts, S _ _ h1, S _ _ h2, h3.same S⟩
theorem str_ref {xs : List Str} {ts : List Addr} (h : xs.map V.str = ts.map V.ref) : ts = [] := by
  cases ts with
  | nil => rfl
  | cons t r =>
    cases xs with
    | nil => cases h
    | cons x y => cases (List.cons.inj h).1
/-- sides stay when a list of refs grows -/
theorem SdsAt.off {H H' : Hp} {D : Addr} {ts : List Addr} {xs : List Sd} {v : HO} (h : SdsAt H ts xs) (hD : H D = some (.lst (ts.map V.ref))) (hn : ∀ t ∈ ts, t ≠ D) (S : ∀ c o, c ≠ D → H c = some o → H' c = some o) : SdsAt H' ts xs := by
  refine h.imp fun t ht x hx => ?_
  obtain ⟨a, b, h1, h2, h3⟩ := hx
  have no : ∀ (c : Addr) (zs : List Str), H c = some (.lst (zs.map V.str)) → c ≠ D := fun c zs e z => by
    rw [z, hD] at e
    have := str_ref (HO.lst.inj (Option.some.inj e)).symm
    rw [this] at ht
    cases ht
  exact ⟨a, b, S _ _ (hn t ht) h1, S _ _ (no _ _ h2) h2, S _ _ (no _ _ h3) h3⟩
theorem length_sortT (l : List Str) : (sortT l).length = l.length := (sortT_perm l).length_eq
theorem SdOk.norm {x : Sd} (h : SdOk x) : SdOk (norm x) := by
  obtain ⟨h1, h2, h3, h4, h5⟩ := h
  exact ⟨h1, fun z hz => h2 z ((sortT_perm _).mem_iff.mp hz), fun z hz => h3 z ((sortT_perm _).mem_iff.mp hz), by show (sortT _).length ≤ 60; rw [length_sortT]; exact h4, by show (sortT _).length ≤ 60; rw [length_sortT]; exact h5⟩
theorem SdsOk.norm {xs : List Sd} (h : SdsOk xs) : SdsOk (xs.map norm) := by
  refine ⟨fun e => h.ne (List.map_eq_nil_iff.mp e), fun y hy => ?_, ?_, fun y hy z hz u hu => ?_, by rw [List.length_map]; exact h.len⟩
  · obtain ⟨x, hx, rfl⟩ := List.mem_map.mp hy
    exact (h.ok x hx).norm
  · rw [List.map_map]
    exact h.nd
  · obtain ⟨x, hx, rfl⟩ := List.mem_map.mp hy
    obtain ⟨x2, hx2, rfl⟩ := List.mem_map.mp hz
    refine h.free x hx x2 hx2 u ?_
    rcases hu with hu | hu
    · exact .inl ((sortT_perm _).mem_iff.mp hu)
    · exact .inr ((sortT_perm _).mem_iff.mp hu)
structure Px (P : Program) (w : World) (K : PySem.W.Frag) (mg : Str → Option Value) (base : Heap) (C : Addr) : Prop where
  cl : Cls K C
  na : NoAttr K C "_sides"
def spInit (C : Addr) : Sp := fun vs H Q _ => ∃ (a dx l : Addr) (ts : List Addr) (xs : List Sd), vs = [.ref a, .ref l] ∧ H a = some (.ins C dx []) ∧ H l = some (.lst (ts.map V.ref)) ∧ SdsAt H ts xs ∧ SdsOk xs ∧
  ∀ H' l' ts', SameB a H H' → H' a = some (.ins C dx [("_sides", .ref l')]) → H' l' = some (.lst (ts'.map V.ref)) → SdsAt H' ts' (xs.map norm) → Q .non H'
def spSides (C : Addr) : Sp := fun vs H Q _ => ∃ (a : Addr) (ss : List Sd), vs = [.ref a] ∧ PlAt C H a ss ∧ SdsOk ss ∧
  ∀ H' p ts', Same H H' → H p = none → H' p = some (.lst (ts'.map V.ref)) → SdsAt H' ts' ss → Q (.ref p) H'
section
variable {P : Program} {w : World} {K : PySem.W.Frag} {mg : Str → Option Value} {base : Heap} {C : Addr}
theorem scInit : FnScope ["self", "sides", "name", "size", "step"] ["self", "sides"] (defScope sInit) := ⟨rfl, rfl, rfl, by decide +kernel, rfl, by decide +kernel, by decide +kernel⟩
theorem ok_init {f : Addr} {fd : FuncData} (F : Fun K "__init__" "Plain.__init__" sInit f fd) (B : Bl mg) (T : Px P w K mg base C) (Is : Cal P w K mg base 4 "is_sides" spSidesOk []) : FnOk P w K mg base CX0 5 f fd ["self", "sides"] (spInit C) := by
  refine F.ok scInit (fun vs H Q E h => ?_) (fun cdv A outer s H vs Q E hr h => ?_)
  · obtain ⟨a, dx, l, ts, xs, rfl, _⟩ := h
    rfl
  · obtain ⟨a, dx, l, ts, xs, rfl, ha, hl, hx, ok, k⟩ := h
    refine ⟨_, pss_cons (ps_if (pt_not (pt_val (pe_c Is hr (by decide) rfl (pa_cons (pv 1) (pa_cons pe_int pa_nil))))) (pss_one ps_never) pss_nil)
      (pss_one (ps_fld (pv 0) (pe_lc (own := [("name", 2), ("size", 3), ("step", 4)]) (g := gTup K 3 (gCons (gName 2) (gCons (gName 3) (gCons (gName 4) gNil)))) (tt := tYes) (te := tTupS (tCons (tVar 2) (tCons (tCB (rSortedS K) (tCons (tVar 3) tNil)) (tCons (tCB (rSortedS K) (tCons (tVar 4) tNil)) tNil)))) rfl scInit.nd (pi_list (pv 1))
        (blkOk_by (own := [("name", 2), ("size", 3), ("step", 4)]) (N := ["self", "sides", "name", "size", "step"]) (sc := defScope sInit) (by decide +kernel))
        (fun _ _ _ _ _ => pg_tup rfl (pgs_cons (pg_name (i := 2) scInit.nd rfl (Or.inl rfl)) (pgs_cons (pg_name (i := 3) scInit.nd rfl (Or.inl rfl)) (pgs_cons (pg_name (i := 4) scInit.nd rfl (Or.inl rfl)) pgs_nil)))) (fun _ _ _ _ _ => pts_nil)
        (fun _ _ _ _ _ => by exact pe_tupS (pa_cons (pv 2) (pa_cons (pe_callB cr_sortedS (by rfl) B.srt_ (by decide +kernel) (pa_cons (pv 3) pa_nil)) (pa_cons (pe_callB cr_sortedS (by rfl) B.srt_ (by decide +kernel) (pa_cons (pv 4) pa_nil)) pa_nil))))) rfl)), ?_⟩
    have lt := hx.length
    have zl := ok.len
    refine ⟨_, rfl, l, ts, xs, rfl, hl, hx, ok, fun H1 S1 => ⟨true, rfl, iteF ?_⟩⟩
    dsimp only [tNext]
    have ha1 := S1 _ _ ha
    have hl1 := S1 _ _ hl
    have hx1 := hx.same S1
    refine ⟨_, rfl, l, rfl, ⟨_, SqL.of hl1⟩, fun D nD => ?_⟩
    refine lc_it (walk_list (xs := ts.map V.ref)) (fun i H' => Same H1 H' ∧ ∃ ts' : List Addr, H' D = some (.lst (ts'.map V.ref)) ∧ ts'.length = i ∧ SdsAt H' ts' ((xs.take i).map norm) ∧ ∀ t ∈ ts', t ≠ D) ⟨Same.upd nD, [], upd_same, rfl, .nil, fun _ h => absurd h List.not_mem_nil⟩ (fun i H' _ q => SqL.of (q.1 _ _ hl1)) ?_ ?_
    · rintro i x H2 H3 hi ⟨S2, ts', hD, lt', hs, ht'⟩ ⟨rfl, hx2⟩
      rw [List.length_map] at hi
      rw [List.getElem?_map] at hx2
      obtain ⟨t, htt, rfl⟩ := Option.map_eq_some_iff.mp hx2
      obtain ⟨y, hy, u, v, h1, h2, h3⟩ := paired_at hx1 htt
      obtain ⟨o1, o2, o3, o4, o5⟩ := ok.ok y (List.mem_of_getElem? hy)
      refine ⟨t, _, rfl, SqT.of (S2 _ _ h1), rfl, _, _, rfl, _, _, rfl, _, _, rfl, rfl, rfl, iteT (B := False) ?_⟩
      refine ⟨_, rfl, _, rfl, u, y.2.1, rfl, SqL.of (S2 _ _ h2), by omega, fun ys p pm so np => ?_⟩
      have ep : ∀ v : HO, Same H3 (upd H3 p v) := fun v => Same.upd np
      have S4 := S2.trans (ep (.lst (ys.map V.str)))
      have hp4 : (upd H3 p (.lst (ys.map V.str))) p = some (.lst (ys.map V.str)) := upd_same
      have hD4 := ep (.lst (ys.map V.str)) _ _ hD
      have S34 := ep (.lst (ys.map V.str))
      generalize upd H3 p (.lst (ys.map V.str)) = H4 at S4 hp4 hD4 S34 ⊢
      refine ⟨_, rfl, v, y.2.2, rfl, SqL.of (S4 _ _ h3), by omega, fun zs q pm2 so2 nq => ?_⟩
      have eq : ∀ v : HO, Same H4 (upd H4 q v) := fun v => Same.upd nq
      refine ⟨by show 3 ≤ sizeLine; decide, fun t6 H6 S6 n6 h6 => ?_⟩
      have S46 := (eq (.lst (zs.map V.str))).trans S6
      have S16 := S4.trans S46
      have hD6 := S46 _ _ hD4
      have hp6 := S46 _ _ hp4
      have hq6 := S6 _ _ (upd_same (H := H4) (a := q) (o := .lst (zs.map V.str)))
      have off : ∀ {c : Addr} {o u : HO}, c ≠ D → H6 c = some o → (upd H6 D u) c = some o := fun n e => by rw [upd_ne n]; exact e
      have npD : p ≠ D := (ne_of_none hD np).symm
      have nqD : q ≠ D := (ne_of_none hD4 nq).symm
      have n6D : t6 ≠ D := ne_of h6 hD6 (by intro z; cases z)
      refine ⟨_, hD6, by rw [List.length_map, lt', sizeLine_eq]; omega, fun c o e => off (ne_of_none e nD) (S16 _ _ e), ts' ++ [t6], by rw [upd_same, List.map_append]; rfl, by rw [List.length_append, lt']; rfl, ?_, ?_⟩
      · rw [take_snoc hy, List.map_append]
        refine paired_snoc (SdsAt.off (v := .lst []) hs hD ht' fun c o n e => off n (S46 _ _ (S34 _ _ e))) ⟨p, q, off n6D (by rw [h6]; rfl), off npD (by rw [hp6, sortT_one pm so]; rfl), off nqD (by rw [hq6, sortT_one pm2 so2]; rfl)⟩
      · intro t3 h3
        rcases List.mem_append.mp h3 with h | h
        · exact ht' t3 h
        · rw [List.mem_singleton.mp h]
          exact n6D
    · rintro H2 ⟨S2, ts', hD, lt', hs, _⟩
      rw [List.length_map, lt, List.take_length] at hs
      refine ⟨_, rfl, a, C, dx, [], rfl, S2 _ _ ha1, T.cl, T.na, by decide, ?_⟩
      have nDa : D ≠ a := (ne_of_none ha1 nD).symm
      refine k _ D ts' (fun c o n e => by rw [upd_ne n]; exact S2 _ _ (S1 _ _ e)) upd_same (by rw [upd_ne nDa]; exact hD) (hs.imp fun t3 _ x3 ⟨a3, b3, r1, r2, r3⟩ => ?_)
      have h5 := S2 _ _ ha1
      exact ⟨a3, b3, by rw [upd_ne (ne_of r1 h5 (by intro z; cases z))]; exact r1, by rw [upd_ne (ne_of r2 h5 (by intro z; cases z))]; exact r2, by rw [upd_ne (ne_of r3 h5 (by intro z; cases z))]; exact r3⟩
end
end E4

set_option Elab.async false
set_option linter.all false
set_option maxRecDepth 100000
set_option maxHeartbeats 1000000
/-! Plain: sides(), sizes() -/
namespace E4
open PySem PySem.Spec PyProof.Rows L2
open C8 (Cal Mak Met InsC pe_c pe_mt pe_mt0 call_isC clsBody)
/-- all letters of the products, one behind the other -/
def letsOf (ss : List Sd) : List Str := ss.flatMap fun x => x.2.1 ++ x.2.2
/-- the size letters in order -/
def sizesOf (ss : List Sd) : List Str := sortT (putAll [] (letsOf ss))
theorem mem_sizesOf {ss : List Sd} {z : Str} : z ∈ sizesOf ss ↔ ∃ x ∈ ss, z ∈ x.2.1 ∨ z ∈ x.2.2 := by
  unfold sizesOf letsOf
  rw [(sortT_perm _).mem_iff, mem_putAll, List.mem_flatMap]
  constructor
  · rintro (h | ⟨x, hx, h⟩)
    · cases h
    · exact ⟨x, hx, List.mem_append.mp h⟩
  · rintro ⟨x, hx, h⟩
    exact .inr ⟨x, hx, List.mem_append.mpr h⟩
theorem sizesOf_nodup (ss : List Sd) : (sizesOf ss).Nodup := (sortT_perm _).nodup_iff.mpr (nodup_putAll List.nodup_nil)
theorem length_lets : ∀ {ss : List Sd}, (∀ x ∈ ss, SdOk x) → (letsOf ss).length ≤ 120 * ss.length
  | [], _ => Nat.zero_le _
  | x :: ss, h => by
    have ih := length_lets (ss := ss) fun y hy => h y (List.mem_cons_of_mem _ hy)
    obtain ⟨_, _, _, h4, h5⟩ := h x List.mem_cons_self
    unfold letsOf at ih ⊢
    rw [List.flatMap_cons, List.length_append, List.length_append, List.length_cons]
    omega
theorem length_sizes {ss : List Sd} (h : SdsOk ss) : (sizesOf ss).length ≤ 1920 := by
  unfold sizesOf
  rw [length_sortT]
  have h1 := len_putAll (letsOf ss) []
  have h2 := length_lets h.ok
  have := h.len
  simp only [List.length_nil] at h1
  omega
def spSizes (C : Addr) : Sp := fun vs H Q _ => ∃ (a : Addr) (ss : List Sd), vs = [.ref a] ∧ PlAt C H a ss ∧ SdsOk ss ∧
  ∀ H' p, Same H H' → H p = none → H' p = some (.lst ((sizesOf ss).map V.str)) → Q (.ref p) H'
section
variable {P : Program} {w : World} {K : PySem.W.Frag} {mg : Str → Option Value} {base : Heap} {C : Addr}
theorem scSides : FnScope ["self", "name", "size", "step"] ["self"] (defScope sSides) := ⟨rfl, rfl, rfl, by decide +kernel, rfl, by decide +kernel, by decide +kernel⟩
/-- a tuple whose lists are new -/
def NewTup (H H' : Hp) (t : Addr) : Prop := ∃ n u v, H' t = some (.tup [n, .ref u, .ref v]) ∧ H u = none ∧ H v = none
def spSidesN (C : Addr) : Sp := fun vs H Q _ => ∃ (a : Addr) (ss : List Sd), vs = [.ref a] ∧ PlAt C H a ss ∧ SdsOk ss ∧
  ∀ H' p ts', Same H H' → H p = none → H' p = some (.lst (ts'.map V.ref)) → SdsAt H' ts' ss → (∀ t ∈ ts', NewTup H H' t) → Q (.ref p) H'
theorem ok_sidesN {f : Addr} {fd : FuncData} (F : Fun K "sides" "Plain.sides" sSides f fd) (B : Bl mg) (T : Px P w K mg base C) : FnOk P w K mg base CX0 1 f fd ["self"] (spSidesN C) := by
  refine F.ok scSides (fun vs H Q E h => ?_) (fun cdv A outer s H vs Q E hr h => ?_)
  · obtain ⟨a, ss, rfl, _⟩ := h
    rfl
  · obtain ⟨a, xs, rfl, ⟨dx, l, ts, ha, hl, hx⟩, ok, k⟩ := h
    refine ⟨_, pss_one (ps_ret (pe_lc (own := [("name", 1), ("size", 2), ("step", 3)]) (g := gTup K 3 (gCons (gName 1) (gCons (gName 2) (gCons (gName 3) gNil)))) (tt := tYes) (te := tTupS (tCons (tVar 1) (tCons (tCB (fun xs H Q => ∃ p ys, xs = [.ref p] ∧ (SqL K H p ys ∨ SqT K H p ys) ∧ ∀ l, H l = none → Q (.ref l) (upd H l (.lst ys))) (tCons (tVar 2) tNil)) (tCons (tCB (fun xs H Q => ∃ p ys, xs = [.ref p] ∧ (SqL K H p ys ∨ SqT K H p ys) ∧ ∀ l, H l = none → Q (.ref l) (upd H l (.lst ys))) (tCons (tVar 3) tNil)) tNil)))) rfl scSides.nd (pi_list (pe_fld (pv 0) rfl))
        (blkOk_by (own := [("name", 1), ("size", 2), ("step", 3)]) (N := ["self", "name", "size", "step"]) (sc := defScope sSides) (by decide +kernel))
        (fun _ _ _ _ _ => pg_tup rfl (pgs_cons (pg_name (i := 1) scSides.nd rfl (Or.inl rfl)) (pgs_cons (pg_name (i := 2) scSides.nd rfl (Or.inl rfl)) (pgs_cons (pg_name (i := 3) scSides.nd rfl (Or.inl rfl)) pgs_nil)))) (fun _ _ _ _ _ => pts_nil)
        (fun _ _ _ _ _ => by exact pe_tupS (pa_cons (pv 1) (pa_cons (pe_callTy call_list_of (by rfl) B.lst_ (by decide +kernel) (pa_cons (pv 2) pa_nil)) (pa_cons (pe_callTy call_list_of (by rfl) B.lst_ (by decide +kernel) (pa_cons (pv 3) pa_nil)) pa_nil)))))), ?_⟩
    have lt := hx.length
    have zl := ok.len
    refine ⟨_, rfl, a, C, dx, _, _, rfl, ha, T.cl, T.na, rfl, l, rfl, ⟨_, SqL.of hl⟩, fun D nD => ?_⟩
    refine lc_it (walk_list (xs := ts.map V.ref)) (fun i H' => Same H H' ∧ ∃ ts' : List Addr, H' D = some (.lst (ts'.map V.ref)) ∧ ts'.length = i ∧ SdsAt H' ts' (xs.take i) ∧ ∀ t ∈ ts', t ≠ D ∧ NewTup H H' t) ⟨Same.upd nD, [], upd_same, rfl, .nil, fun _ h => absurd h List.not_mem_nil⟩ (fun i H' _ q => SqL.of (q.1 _ _ hl)) ?_ ?_
    · rintro i x H2 H3 hi ⟨S2, ts', hD, lt', hs, ht'⟩ ⟨rfl, hx2⟩
      rw [List.length_map] at hi
      rw [List.getElem?_map] at hx2
      obtain ⟨t, htt, rfl⟩ := Option.map_eq_some_iff.mp hx2
      obtain ⟨y, hy, u, v, h1, h2, h3⟩ := paired_at hx htt
      refine ⟨t, _, rfl, SqT.of (S2 _ _ h1), rfl, _, _, rfl, _, _, rfl, _, _, rfl, rfl, rfl, iteT (B := False) ?_⟩
      refine ⟨_, rfl, _, rfl, u, _, rfl, .inl (SqL.of (S2 _ _ h2)), fun p np => ?_⟩
      have ep : ∀ v : HO, Same H3 (upd H3 p v) := fun v => Same.upd np
      have S4 := S2.trans (ep (.lst (y.2.1.map V.str)))
      have S34 := ep (.lst (y.2.1.map V.str))
      have hp4 : (upd H3 p (.lst (y.2.1.map V.str))) p = some (.lst (y.2.1.map V.str)) := upd_same
      have hD4 := ep (.lst (y.2.1.map V.str)) _ _ hD
      generalize upd H3 p (.lst (y.2.1.map V.str)) = H4 at S4 hp4 hD4 S34 ⊢
      refine ⟨_, rfl, v, _, rfl, .inl (SqL.of (S4 _ _ h3)), fun q nq => ?_⟩
      have eq : ∀ v : HO, Same H4 (upd H4 q v) := fun v => Same.upd nq
      refine ⟨by show 3 ≤ sizeLine; decide, fun t6 H6 S6 n6 h6 => ?_⟩
      have S46 := (eq (.lst (y.2.2.map V.str))).trans S6
      have S16 := S4.trans S46
      have hD6 := S46 _ _ hD4
      have hp6 := S46 _ _ hp4
      have hq6 := S6 _ _ (upd_same (H := H4) (a := q) (o := .lst (y.2.2.map V.str)))
      have off : ∀ {c : Addr} {o u : HO}, c ≠ D → H6 c = some o → (upd H6 D u) c = some o := fun n e => by rw [upd_ne n]; exact e
      have npD : p ≠ D := (ne_of_none hD np).symm
      have nqD : q ≠ D := (ne_of_none hD4 nq).symm
      have n6D : t6 ≠ D := ne_of h6 hD6 (by intro z; cases z)
      refine ⟨_, hD6, by rw [List.length_map, lt', sizeLine_eq]; omega, fun c o e => off (ne_of_none e nD) (S16 _ _ e), ts' ++ [t6], by rw [upd_same, List.map_append]; rfl, by rw [List.length_append, lt']; rfl, ?_, ?_⟩
      · rw [take_snoc hy]
        exact paired_snoc (SdsAt.off (v := .lst []) hs hD (fun t ht => (ht' t ht).1) fun c o n e => off n (S46 _ _ (S34 _ _ e))) ⟨p, q, off n6D h6, off npD hp6, off nqD hq6⟩
      · intro t3 h3
        rcases List.mem_append.mp h3 with h | h
        · obtain ⟨r1, n0, u0, v0, r2, r3, r4⟩ := ht' t3 h
          exact ⟨r1, n0, u0, v0, off r1 (S46 _ _ (S34 _ _ r2)), r3, r4⟩
        · rw [List.mem_singleton.mp h]
          exact ⟨n6D, _, p, q, off n6D h6, S2.free np, (S2.trans S34).free nq⟩
    · rintro H2 ⟨S2, ts', hD, lt', hs, hnw⟩
      rw [List.length_map, lt, List.take_length] at hs
      exact k H2 D ts' S2 nD hD hs fun t ht => (hnw t ht).2
theorem ok_sides {f : Addr} {fd : FuncData} (F : Fun K "sides" "Plain.sides" sSides f fd) (B : Bl mg) (T : Px P w K mg base C) : FnOk P w K mg base CX0 1 f fd ["self"] (spSides C) :=
  (ok_sidesN F B T).imp fun vs H Q E ⟨a, ss, h1, h2, h3, k⟩ => ⟨a, ss, h1, h2, h3, fun H' p ts S n h hs _ => k H' p ts S n h hs⟩
theorem scSizes : FnScope ["self", "side", "product", "part"] ["self"] (defScope sSizes) := ⟨rfl, rfl, rfl, by decide +kernel, rfl, by decide +kernel, by decide +kernel⟩
theorem ok_sizes {f : Addr} {fd : FuncData} (F : Fun K "sizes" "Plain.sizes" sSizes f fd) (B : Bl mg) (T : Px P w K mg base C) : FnOk P w K mg base CX0 1 f fd ["self"] (spSizes C) := by
  refine F.ok scSizes (fun vs H Q E h => ?_) (fun cdv A outer s H vs Q E hr h => ?_)
  · obtain ⟨a, ss, rfl, _⟩ := h
    rfl
  · obtain ⟨a, xs, rfl, ⟨dx, l, ts, ha, hl, hx⟩, ok, k⟩ := h
    refine ⟨_, pss_one (ps_ret (pe_callB (cr_sortedSS rfl) (by rfl) B.srt_ (by decide +kernel) (pa_cons (pe_sc3 (own := [("side", 1), ("product", 2), ("part", 3)]) (v1 := [2, 3]) (v2 := [3]) (g0 := gName 1) (w1 := iTup K (tSl (rSlT K) (tVar 1) (tPart (tC (.int 1))) tNoPart)) (g1 := gName 2) (w2 := iList K (tVar 2)) (g2 := gName 3) (te := tVar 3) rfl scSizes.nd
          (blkOk_by (own := [("side", 1), ("product", 2), ("part", 3)]) (N := ["self", "side", "product", "part"]) (sc := defScope sSizes) (by decide +kernel)) (by decide) (by decide) (pi_list (pe_fld (pv 0) rfl))
          (fun _ _ _ _ _ => pg_name (i := 1) scSizes.nd rfl (Or.inl rfl)) (fun _ _ _ _ _ => by exact pi_tup (pe_slice sl_tup (pv 1) (po_some pe_int) po_none)) (fun _ _ _ _ _ => pg_name (i := 2) scSizes.nd rfl (Or.inl rfl))
          (fun _ _ _ _ _ => by exact pi_list (pv 2)) (fun _ _ _ _ _ => pg_name (i := 3) scSizes.nd rfl (Or.inl rfl)) (fun _ _ _ _ _ => pv 3)) pa_nil))), ?_⟩
    have lt := hx.length
    have zl := ok.len
    have all4 : ∀ l : List Str, l.length ≤ 1920 → (putAll [] l).length + 1 < scanBound := fun l h => by
      have h1 := len_putAll l []
      have : (1920 : Nat) + 1 < scanBound := by decide
      simp only [List.length_nil] at h1
      omega
    have lim : ∀ (i : Nat) (y : Sd) (n : List Str), xs[i]? = some y → n.length ≤ 120 → (letsOf (xs.take i) ++ n).length ≤ 1920 := fun i y n hy hn => by
      have h1 := length_lets (ss := xs.take i) fun x hx => ok.ok x (List.mem_of_mem_take hx)
      have h2 := (List.getElem?_eq_some_iff.mp hy).1
      rw [List.length_take] at h1
      rw [List.length_append]
      omega
    refine ⟨_, rfl, a, C, dx, _, _, rfl, ha, T.cl, T.na, rfl, l, rfl, ⟨_, SqL.of hl⟩, fun D nD => ?_⟩
    have up : ∀ {H' : Hp} {v : HO}, Same H H' → Same H (upd H' D v) := fun S c o e => by
      rw [upd_ne (ne_of_none e nD)]
      exact S _ _ e
    refine cl_it (walk_list (xs := ts.map V.ref)) (fun i H' => Same H H' ∧ H' D = some (SetSO P w D (putAll [] (letsOf (xs.take i))))) ⟨Same.upd nD, upd_same⟩ (fun i H' _ q => SqL.of (q.1 _ _ hl)) ?_ ?_
    · rintro i x H5 H6 hi ⟨S5, hD⟩ ⟨rfl, hx2⟩
      rw [List.length_map] at hi
      rw [List.getElem?_map] at hx2
      obtain ⟨t, htt, rfl⟩ := Option.map_eq_some_iff.mp hx2
      obtain ⟨y, hy, u, v, h1, h2, h3⟩ := paired_at hx htt
      obtain ⟨o1, o2, o3, o4, o5⟩ := ok.ok y (List.mem_of_getElem? hy)
      have lt2 : letsOf (xs.take (i + 1)) = letsOf (xs.take i) ++ (y.2.1 ++ y.2.2) := by
        unfold letsOf
        rw [take_snoc hy, List.flatMap_append, List.flatMap_cons, List.flatMap_nil, List.append_nil]
      refine ⟨rfl, _, rfl, 1, rfl, t, _, rfl, SqT.of (S5 _ _ h1), (fun h => absurd (show HT.sIx 3 0 (some 1) = 0 from h.1) (by decide)), fun q nq => ?_⟩
      rw [cut12]
      have nqD : q ≠ D := (ne_of_none hD nq).symm
      refine ⟨q, rfl, ⟨_, SqT.of upd_same⟩, ?_⟩
      have fa : u ≠ D := ne_of_none h2 nD
      have fb : v ≠ D := ne_of_none h3 nD
      refine cl_it (walk_tup (xs := [.ref u, .ref v])) (fun j H' => Same H H' ∧ H' q = some (.tup [.ref u, .ref v]) ∧ H' D = some (SetSO P w D (putAll [] (letsOf (xs.take i) ++ ([y.2.1, y.2.2].take j).flatten)))) ⟨S5.trans (Same.upd nq), upd_same, by rw [upd_ne nqD.symm, hD]; simp⟩ (fun j H' _ q => SqT.of q.2.1) ?_ ?_
      · rintro j x2 H7 H8 hj ⟨S7, hq7, hD7⟩ ⟨rfl, hx3⟩
        have key : ∃ (c : Addr) (zs ps : List Str), x2 = .ref c ∧ H8 c = some (.lst (zs.map V.str)) ∧ c ≠ D ∧ ps = ([y.2.1, y.2.2].take j).flatten ∧ ([y.2.1, y.2.2].take (j + 1)).flatten = ps ++ zs ∧ ps.length + zs.length ≤ 120 := by
          match j, hj with
          | 0, _ => cases hx3; exact ⟨u, y.2.1, [], rfl, S7 _ _ h2, fa, rfl, by simp, by simp; omega⟩
          | 1, _ => cases hx3; exact ⟨v, y.2.2, y.2.1, rfl, S7 _ _ h3, fb, by simp, by simp, by omega⟩
        obtain ⟨c, zs, ps, rfl, hc, ncD, e1, e2, hz⟩ := key
        rw [← e1] at hD7
        refine ⟨rfl, _, rfl, c, rfl, ⟨_, SqL.of hc⟩, ?_⟩
        refine cl_it (walk_list (xs := zs.map V.str)) (fun k H' => Same H H' ∧ H' q = some (.tup [.ref u, .ref v]) ∧ H' c = some (.lst (zs.map V.str)) ∧ H' D = some (SetSO P w D (putAll [] (letsOf (xs.take i) ++ (ps ++ zs.take k))))) ⟨S7, hq7, hc, by rw [List.take_zero, List.append_nil]; exact hD7⟩ (fun k H' _ q => SqL.of q.2.2.1) ?_ ?_
        · rintro k x3 H9 H10 hk ⟨S9, hq9, hc9, hD9⟩ ⟨rfl, hx4⟩
          rw [List.length_map] at hk
          rw [List.getElem?_map] at hx4
          obtain ⟨z, hzz, rfl⟩ := Option.map_eq_some_iff.mp hx4
          refine ⟨rfl, _, rfl, z, _, rfl, hD9, ?_, up S9, ?_, ?_, ?_⟩
          · refine all4 _ (lim i y _ hy ?_)
            rw [List.length_append, List.length_take]
            omega
          · rw [upd_ne nqD]; exact hq9
          · rw [upd_ne ncD]; exact hc9
          · rw [upd_same, putAllS_snoc, take_snoc hzz, List.append_assoc, List.append_assoc]
            rfl
        · rintro H9 ⟨S9, hq9, hc9, hD9⟩
          rw [List.length_map, List.take_length] at hD9
          exact ⟨S9, hq9, by rw [e2]; exact hD9⟩
      · rintro H7 ⟨S7, hq7, hD7⟩
        refine ⟨S7, ?_⟩
        rw [hD7, lt2]
        simp
    · rintro H5 ⟨S5, hD⟩
      rw [List.length_map, lt, List.take_length] at hD
      refine ⟨D, _, rfl, hD, fun ys pm nd so p H6 S6 np hp => ?_⟩
      rw [sortT_one pm so] at hp
      exact k H6 p (S5.trans S6) (S5.free np) hp
end
end E4

set_option Elab.async false
set_option linter.all false
set_option maxRecDepth 100000
set_option maxHeartbeats 1000000
/-! list.remove of a text -/
namespace L2
open PySem PySem.Spec PyProof.Rows
theorem erase_ix : ∀ {zs : List Str} {k : Str}, k ∈ zs → ∃ j, zs[j]? = some k ∧ (∀ m, m < j → zs[m]? ≠ some k) ∧ zs.eraseIdx j = zs.erase k
  | z :: zs, k, h => by
    by_cases e : z = k
    · subst e
      exact ⟨0, rfl, fun m hm => absurd hm (Nat.not_lt_zero _), by simp⟩
    · have hk : k ∈ zs := by
        rcases List.mem_cons.mp h with q | q
        · exact absurd q.symm e
        · exact q
      obtain ⟨j, h1, h2, h3⟩ := erase_ix hk
      refine ⟨j + 1, h1, fun m hm => ?_, ?_⟩
      · cases m with
        | zero => intro q; exact e (Option.some.inj q)
        | succ m => exact h2 m (by omega)
      · rw [List.eraseIdx_cons_succ, h3, List.erase_cons_tail (by simpa using e)]
theorem erase_mapS : ∀ (l : List Str) (j : Nat), (l.map V.str).eraseIdx j = (l.eraseIdx j).map V.str
  | [], j => by simp
  | a :: r, 0 => by simp
  | a :: r, j + 1 => by
    have ih := erase_mapS r j
    simp [ih]
def rRemS : V → List V → Hp → VK → Prop := fun x xs H Q => ∃ (l : Addr) (zs : List Str) (k : Str), x = .ref l ∧ xs = [.str k] ∧ H l = some (.lst (zs.map V.str)) ∧ k ∈ zs ∧ Q .non (upd H l (.lst ((zs.erase k).map V.str)))
theorem mt_removeS {X : Cx} : MtM X "list.remove" rRemS := by
  intro pins s σ H x xs v us Q I rx rxs h
  obtain ⟨l, zs, k, rfl, rfl, hH, hk, q⟩ := h
  obtain ⟨j, hj, hno, ej⟩ := erase_ix hk
  cases rx
  obtain ⟨u, rfl, ru⟩ := rxs.one
  obtain ⟨t, rfl⟩ := ru
  obtain ⟨z, its, n, r, hl, e⟩ := I.lstM hH
  rw [List.length_map] at hl z
  have hjn : j < zs.length := (List.getElem?_eq_some_iff.mp hj).1
  have hjl : j < its.toArray.size := by rw [List.size_toArray]; omega
  have hi := strsAre_of r
  refine call_meets PySem.F.slot_list_remove ⟨_, e, rfl⟩ PySem.F.entry_list_remove (PySem.F.args_list_remove_2 _ _)
    (SeqAt.list_removeAt l its.toArray n none #[] (.str k t) (eqU (.str k)) j hjl ?_ ?_ (by rw [List.size_toArray]; omega)) ⟨e, fun w hw => mem_eqAt (x := .str k) ⟨t, rfl⟩ rfl r (flat_strs zs) w (by simpa using hw), ?_⟩
  · obtain ⟨tj, hjt⟩ := hi.get j k hj
    obtain ⟨h1, h2⟩ := List.getElem?_eq_some_iff.mp hjt
    have e1 : its.toArray[j] = .str k tj := by simpa using h2
    rw [e1]
    show (k == k) = true
    exact beq_self_eq_true k
  · intro m hm hmj
    have hmn : m < zs.length := by omega
    obtain ⟨tm, hmt⟩ := hi.get m _ (List.getElem?_eq_getElem hmn)
    obtain ⟨h1, h2⟩ := List.getElem?_eq_some_iff.mp hmt
    have e1 : its.toArray[m] = .str zs[m] tm := by simpa using h2
    rw [e1]
    show (zs[m] == k) = false
    refine beq_eq_false_iff_ne.mpr fun e2 => hno m hmj ?_
    rw [List.getElem?_eq_getElem hmn, e2]
  · have rr := r.eraseIdx j
    rw [erase_mapS, ej] at rr
    refine ⟨.non, _, I.lset (its' := its.eraseIdx j) (t' := s.toks) hH e ?_ rr ?_, rfl, q⟩
    · show its.toArray.eraseIdxIfInBounds j = (its.eraseIdx j).toArray
      rw [List.eraseIdxIfInBounds_toArray]
    · rw [List.length_map]
      have := List.length_erase_le (a := k) (l := zs)
      omega
end L2

set_option Elab.async false
set_option linter.all false
set_option maxRecDepth 100000
set_option maxHeartbeats 1000000
/-! left_of, misfit -/
namespace E4
open PySem PySem.Spec PyProof.Rows L2
open C8 (Cal Mak Met InsC pe_c pe_mt pe_mt0 call_isC clsBody)
/-- what is left of p -/
def leftOf (p o : List Str) : List Str := o.foldl (fun l z => l.erase z) p
theorem leftOf_snoc (p o : List Str) (z : Str) : leftOf p (o ++ [z]) = (leftOf p o).erase z := by unfold leftOf; rw [List.foldl_append]; rfl
theorem erase_not {z : Str} {l : List Str} (h : z ∉ l) : l.erase z = l := List.erase_of_not_mem h
def spLeft (K : PySem.W.Frag) : Sp := fun vs H Q _ => ∃ (a b : Addr) (p o : List Str), vs = [.ref a, .ref b] ∧ SqL K H a (p.map V.str) ∧ SqL K H b (o.map V.str) ∧ p.length ≤ 1000 ∧ o.length ≤ 1000 ∧ ∀ H' q, Same H H' → H q = none → H' q = some (.lst ((leftOf p o).map V.str)) → Q (.ref q) H'
section
variable {P : Program} {w : World} {K : PySem.W.Frag} {mg : Str → Option Value} {base : Heap} {C : Addr}
theorem inV_str (z : Str) : ∀ xs : List Str, inV (.str z) (xs.map V.str) = decide (z ∈ xs)
  | [] => by simp [inV]
  | x :: xs => by
    have ih := inV_str z xs
    unfold inV at ih ⊢
    rw [List.map_cons, List.any_cons, ih]
    by_cases e : x = z
    · subst e; simp [eqV]
    · have e2 : ¬ z = x := fun q => e q.symm
      simp [eqV, e, e2]
theorem scLeft : FnScope ["product", "other", "left", "name"] ["product", "other"] (defScope sLeftOf) := ⟨rfl, rfl, rfl, by decide +kernel, rfl, by decide +kernel, by decide +kernel⟩
theorem ok_left {f : Addr} {fd : FuncData} (F : Fun K "left_of" "left_of" sLeftOf f fd) (B : Bl mg) : FnOk P w K mg base CX0 1 f fd ["product", "other"] (spLeft K) := by
  refine F.ok scLeft (fun vs H Q E h => ?_) (fun cdv A outer s H vs Q E hr h => ?_)
  · obtain ⟨a, b, p, o, rfl, _⟩ := h
    rfl
  · obtain ⟨a, b, p, o, rfl, ha, hb, zp, zo, k⟩ := h
    refine ⟨_, pss_cons (ps_set (i := 2) scLeft.nd rfl (Or.inl rfl) (pe_callTy call_list_of (by rfl) B.lst_ (by decide +kernel) (pa_cons (pv 0) pa_nil)))
      (pss_cons (ps_for PassesOwn.never rfl (pi_list (pv 1)) (pg_name (i := 3) scLeft.nd rfl (Or.inl rfl))
        (pss_one (ps_if (pt_cmpR op_in_seq (pv 3) (pv 2) (by rfl)) (pss_one (ps_expr (pe_bm PySem.F.plainAttrs_list PySem.F.slot_list_remove PySem.F.type_list_remove mt_removeS (pv 2) (pa_cons (pv 3) pa_nil)))) pss_nil)))
      (pss_one (ps_ret (pv 2)))), ?_⟩
    refine seq_asg ⟨_, rfl, a, _, rfl, .inl ha, fun q nq => ?_⟩
    have S1 : ∀ v : HO, Same H (upd H q v) := fun v => Same.upd nq
    refine ⟨_, rfl, b, rfl, ⟨_, hb.same (S1 _)⟩, for_it (walk_list (xs := o.map V.str)) (fun i σ' H' => ∃ u, σ' = [some (.ref a), some (.ref b), some (.ref q), u] ∧ Same H H' ∧ H' q = some (.lst ((leftOf p (o.take i)).map V.str))) ⟨none, rfl, S1 _, by rw [upd_same]; rfl⟩ (fun i σ' H' _ h => let ⟨_, _, S, _⟩ := h; hb.same S) ?_ ?_⟩
    · rintro i v σ' H1 H2 hi ⟨u, rfl, S, hq⟩ ⟨rfl, hx⟩
      rw [List.length_map] at hi
      rw [List.getElem?_map] at hx
      obtain ⟨z, hz, rfl⟩ := Option.map_eq_some_iff.mp hx
      have fl : ((leftOf p (o.take i)).map V.str).all flatV = true := flat_strs _
      refine ⟨_, rfl, _, rfl, q, _, rfl, .inl (SqL.of hq), rfl, fl, ?_⟩
      have e := leftOf_snoc p (o.take i) z
      rw [← take_snoc hz] at e
      show ∃ k, V.bl (inV (.str z) ((leftOf p (o.take i)).map V.str)) = V.bl k ∧ _
      rw [inV_str]
      refine ⟨_, rfl, ?_⟩
      refine iteD (fun hm => ?_) (fun hm => ?_)
      · refine ⟨_, rfl, .inl ⟨rfl, _, SqL.of hq⟩, _, rfl, q, _, z, rfl, rfl, hq, hm, ?_⟩
        refine ⟨_, rfl, fun c x ec => by rw [upd_ne (ne_of_none ec nq)]; exact S _ _ ec, ?_⟩
        rw [e, upd_same]
      · refine ⟨_, rfl, S, ?_⟩
        rw [e, erase_not hm]
        exact hq
    · rintro σ' H1 ⟨u, rfl, S, hq⟩
      rw [List.length_map, List.take_length] at hq
      exact ⟨_, rfl, k H1 q S nq hq⟩
end
end E4

set_option Elab.async false
set_option linter.all false
set_option maxRecDepth 100000
set_option maxHeartbeats 1000000
/-! misfit, check_table, ordered, own_order -/
namespace E4
open PySem PySem.Spec PyProof.Rows L2
open C8 (Cal Mak Met InsC pe_c pe_mt pe_mt0 call_isC clsBody)
theorem cut_tail (xs : List V) : cutV xs (some 1) none = xs.drop 1 := by
  unfold cutV
  cases xs with
  | nil => rfl
  | cons x r =>
    have e1 : HT.sIx (x :: r).length 0 (some 1) = 1 := by
      simp [HT.sIx, List.length_cons]
      try omega
    have e2 : HT.sIx (x :: r).length (x :: r).length none = (x :: r).length := by rfl
    rw [e1, e2]
    simp
def Fit (x y : Sd) : Prop := leftOf (x.2.2 ++ x.2.1) y.2.2 = []
instance (x y : Sd) : Decidable (Fit x y) := inferInstanceAs (Decidable (_ = _))
def spMisfit (K : PySem.W.Frag) : Sp := fun vs H Q _ => ∃ (l : Addr) (ts : List Addr) (ss : List Sd), vs = [.ref l] ∧ SqL K H l (ts.map V.ref) ∧ SdsAt H ts ss ∧ (∀ x ∈ ss, SdOk x) ∧ ss.length ≤ 60 ∧
  (∀ i x y a b, ss[i]? = some x → ss[i + 1]? = some y → ts[i]? = some a → ts[i + 1]? = some b → ¬ Fit x y → (∀ j, j < i → ∀ x y, ss[j]? = some x → ss[j + 1]? = some y → Fit x y) → ∀ H' p, Same H H' → H p = none → H' p = some (.tup [.ref a, .ref b]) → Q (.ref p) H') ∧
  ((∀ j x y, ss[j]? = some x → ss[j + 1]? = some y → Fit x y) → ∀ H', Same H H' → Q .non H')
section
variable {P : Program} {w : World} {K : PySem.W.Frag} {mg : Str → Option Value} {base : Heap} {C : Addr}
theorem scMisfit : FnScope ["sides", "inner", "outer"] ["sides"] (defScope sMisfit) := ⟨rfl, rfl, rfl, by decide +kernel, rfl, by decide +kernel, by decide +kernel⟩
theorem ok_misfit {f : Addr} {fd : FuncData} (F : Fun K "misfit" "misfit" sMisfit f fd) (B : Bl mg) (L : Cal P w K mg base 1 "left_of" (spLeft K) []) : FnOk P w K mg base CX0 2 f fd ["sides"] (spMisfit K) := by
  refine F.ok scMisfit (fun vs H Q E h => ?_) (fun cdv A outer s H vs Q E hr h => ?_)
  · obtain ⟨l, ts, ss, rfl, _⟩ := h
    rfl
  · obtain ⟨l, ts, ss, rfl, hl, hx, ok, hz, k1, k2⟩ := h
    refine ⟨_, pss_cons (ps_for PassesOwn.never rfl (pi_zip (by rfl) B.zip_ (pa_cons (pv 0) (pa_cons (pe_slice sl_listS (pv 0) (po_some pe_int) po_none) pa_nil))) (pg_tup rfl (pgs_cons (pg_name (i := 1) scMisfit.nd rfl (Or.inl rfl)) (pgs_cons (pg_name (i := 2) scMisfit.nd rfl (Or.inl rfl)) pgs_nil)))
        (pss_one (ps_if (pt_cmpR op_gt (pe_callB call_len_seq (by rfl) B.len_ PySem.boot_len (pa_cons (pe_c L hr (by decide) rfl (pa_cons (pe_op op_catS (pe_ix ix_tup (pv 1) pe_int (fun _ _ => rfl)) (pe_ix ix_tup (pv 1) pe_int (fun _ _ => rfl))) (pa_cons (pe_ix ix_tup (pv 2) pe_int (fun _ _ => rfl)) pa_nil))) pa_nil)) pe_int (by rfl))
          (pss_one (ps_ret (pe_tupS (pa_cons (pv 1) (pa_cons (pv 2) pa_nil))))) pss_nil)))
      (pss_one (ps_ret pe_non)), ?_⟩
    have lt := hx.length
    refine ⟨_, rfl, _, rfl, 1, rfl, l, _, rfl, hl, fun p H1 S1 np hp => ?_⟩
    rw [cut_tail] at hp
    refine ⟨l, p, _, _, rfl, hl.same S1, SqL.of hp, ?_⟩
    refine for_it (walk_zip (xs := ts.map V.ref) (ys := (ts.map V.ref).drop 1) (n := ss.length - 1) ?_) (fun i σ' H' => Same H1 H' ∧ (∃ u v, σ' = [some (.ref l), u, v]) ∧ ∀ j, j < i → ∀ x y, ss[j]? = some x → ss[j + 1]? = some y → Fit x y) ⟨fun _ _ e => e, ⟨none, none, rfl⟩, fun j hj => absurd hj (Nat.not_lt_zero _)⟩ (fun i σ' H' _ q => ⟨(hl.same S1).same q.1, SqL.of (q.1 _ _ hp)⟩) ?_ ?_
    · rw [List.length_drop, List.length_map, lt]
      omega
    · rintro i v σ' H2 H3 hi ⟨S2, ⟨u1, u2, rfl⟩, hf⟩ ⟨T, xv, yv, rfl, nT, rfl, e1, e2⟩
      replace e1 : (ts.map V.ref)[i]? = some xv := e1
      replace e2 : ((ts.map V.ref).drop 1)[i]? = some yv := e2
      rw [List.getElem?_drop] at e2
      rw [List.getElem?_map] at e1 e2
      obtain ⟨a, ha, rfl⟩ := Option.map_eq_some_iff.mp e1
      obtain ⟨b, hb, rfl⟩ := Option.map_eq_some_iff.mp e2
      rw [Nat.add_comm 1 i] at hb
      obtain ⟨x, hxi, a1, a2, r1, r2, r3⟩ := paired_at hx ha
      obtain ⟨y, hyi, b1, b2, q1, q2, q3⟩ := paired_at hx hb
      have S3 : Same H2 (upd H2 T (.tup [.ref a, .ref b])) := Same.upd nT
      have S03 := S1.trans (S2.trans S3)
      obtain ⟨_, _, _, x4, x5⟩ := ok x (List.mem_of_getElem? hxi)
      obtain ⟨_, _, _, y4, y5⟩ := ok y (List.mem_of_getElem? hyi)
      refine ⟨T, _, rfl, SqT.of upd_same, rfl, _, _, rfl, _, _, rfl, rfl, ?_⟩
      refine ⟨_, rfl, a, _, 2, _, rfl, rfl, SqT.of (S03 _ _ r1), rfl, _, rfl, a, _, 1, _, rfl, rfl, SqT.of (S03 _ _ r1), rfl, a2, a1, _, _, rfl, rfl, S03 _ _ r3, S03 _ _ r2, by rw [List.length_map, List.length_map, sizeLine_eq]; omega, fun c H4 S4 nc hc => ?_⟩
      have S04 := S03.trans S4
      refine ⟨_, rfl, b, _, 2, _, rfl, rfl, SqT.of (S04 _ _ q1), rfl, ?_⟩
      refine ⟨c, b2, x.2.2 ++ x.2.1, y.2.2, rfl, SqL.of (by rw [hc, List.map_append]), SqL.of (S04 _ _ q3), by rw [List.length_append]; omega, by omega, fun H5 q S5 nq hq => ?_⟩
      refine ⟨q, _, rfl, .inl (SqL.of hq), ?_⟩
      have S25 := S3.trans (S4.trans S5)
      have S05 := S04.trans S5
      rw [List.length_map]
      refine ⟨_, _, rfl, rfl, _, rfl, iteD (fun h0 => ?_) (fun h0 => ?_)⟩
      · have nf : ¬ Fit x y := fun e => by
          unfold Fit at e
          rw [e] at h0
          exact absurd h0 (by decide)
        refine ⟨_, rfl, _, rfl, by show 2 ≤ sizeLine; decide, fun t6 H6 S6 n6 h6 => ?_⟩
        exact k1 i x y a b hxi hyi ha hb nf hf H6 t6 (S05.trans S6) (S05.free n6) h6
      · have f : Fit x y := by
          unfold Fit
          rw [← List.length_eq_zero_iff]
          omega
        refine ⟨S2.trans S25, ⟨_, _, rfl⟩, fun j hj x2 y2 hx2 hy2 => ?_⟩
        by_cases e : j = i
        · subst e
          rw [hxi] at hx2
          rw [hyi] at hy2
          cases hx2
          cases hy2
          exact f
        · exact hf j (by omega) x2 y2 hx2 hy2
    · rintro σ' H2 ⟨S2, ⟨u, v, rfl⟩, hf⟩
      refine k2 (fun j x y hj hj1 => hf j ?_ x y hj hj1) H2 (S1.trans S2)
      have := (List.getElem?_eq_some_iff.mp hj1).1
      omega
end
end E4

set_option Elab.async false
set_option linter.all false
set_option maxRecDepth 100000
set_option maxHeartbeats 1000000
/-! check_table, ordered, own_order -/
namespace L2
open PySem PySem.Spec PyProof.Rows
open LamX (Tabs ExtN TabB CodeO)
theorem sortB_map {β γ : Type} {f : β → γ} {ln : γ → Nat} (xs : List β) : (sortB (fun x => ln (f x)) xs).map f = sortB ln (xs.map f) := List.map_mergeSort fun _ _ _ _ => rfl
theorem newT_of {H H2 : Hp} {p : Addr} (ex : ExtN H H2) (n : H2 p = none) : NewT H p := fun o e => Classical.byContradiction fun no => by
  have z := ex _ _ e fun ps e2 => no ⟨ps, e2⟩
  rw [n] at z
  cases z
theorem NewT.none {H : Hp} {p : Addr} (h : NewT H p) {o : HO} (e : H p = some o) (t : ∀ ps, o ≠ .tbl ps) : False := let ⟨ps, q⟩ := h o e; t ps q
/-- a def whose code object is known: its body as a term -/
theorem Fun.okC {P : Program} {w : World} {K : PySem.W.Frag} {mg : Str → Option Value} {base : Heap} {x qual : Str} {st : Stmt} {f c : Addr} {fd : FuncData} {N ps : List Str} {k : Nat} {sp : Sp} (F : Fun K x qual st f fd) (hc : fd.code = .ref c) (S : FnScope N ps (defScope st)) (len : ∀ vs H Q E, sp vs H Q E → vs.length = ps.length)
    (hbody : ∀ (A : Around) (outer : List Env) (s : Shared) (H : Hp) (vs : List V) (Q : VK) (E : XK), Room k (A.deeper (envOfC qual (defScope st) s.heap.objs.size f (.ref c))) → sp vs H Q E →
      ∃ t, PSs (cxOf CX0 P w K mg base N qual (defScope st) f (.ref c) A outer s H E).nox (defBody st) t ∧ t { nx := fun _ H' => Q .non H', rt := Q } (start N vs) H) : FnOk P w K mg base CX0 (k + 1) f fd ps sp := by
  obtain ⟨oc, od, kV, doc, pm, an, cdv, ct, osl, rfl, lk, hcd⟩ := F.ex
  obtain rfl : cdv = .ref c := hc
  refine fn_of lk hcd S len fun A outer s H vs Q E hr hsp => ?_
  obtain ⟨t, h, q⟩ := hbody A outer s H vs Q E hr hsp
  exact ⟨t, h.nox, q⟩
end L2
namespace E4
open PySem PySem.Spec PyProof.Rows L2
open C8 (Cal Mak Met InsC pe_c pe_mt pe_mt0 call_isC clsBody)
open LamX (Tabs ExtN TabB CodeO)
theorem SdAt.ext {H H' : Hp} {t : Addr} {x : Sd} (h : SdAt H t x) (S : ExtN H H') : SdAt H' t x :=
  let ⟨a, b, h1, h2, h3⟩ := h; ⟨a, b, S _ _ h1 (fun _ z => nomatch z), S _ _ h2 (fun _ z => nomatch z), S _ _ h3 (fun _ z => nomatch z)⟩
theorem SdsAt.ext {H H' : Hp} {ts : List Addr} {xs : List Sd} (h : SdsAt H ts xs) (S : ExtN H H') : SdsAt H' ts xs := h.imp fun _ _ _ q => q.ext S
theorem PlAt.ext {C : Addr} {H H' : Hp} {a : Addr} {ss : List Sd} (h : PlAt C H a ss) (S : ExtN H H') : PlAt C H' a ss :=
  let ⟨dx, l, ts, h1, h2, h3⟩ := h; ⟨dx, l, ts, S _ _ h1 (fun _ z => nomatch z), S _ _ h2 (fun _ z => nomatch z), h3.ext S⟩
/-- the sides with two cells or more, those with fewer letters in their step first -/
def ordL (ss : List Sd) : List Sd := sortB (fun x : Sd => x.2.2.length) (ss.filter fun x => decide (0 < x.2.1.length))
theorem mem_ordL {ss : List Sd} {x : Sd} : x ∈ ordL ss ↔ x ∈ ss ∧ 0 < x.2.1.length := by
  unfold ordL sortB
  rw [List.mem_mergeSort, List.mem_filter, decide_eq_true_iff]
theorem length_ordL (ss : List Sd) : (ordL ss).length ≤ ss.length := by
  unfold ordL sortB
  rw [List.length_mergeSort]
  exact List.length_filter_le ..
/-- the class as a value -/
structure Cv (K : PySem.W.Frag) (mg : Str → Option Value) (C : Addr) : Prop where
  ins : InsC K C
  mgP : mg "Plain" = some (.ref C)
def spCheckT (C : Addr) : Sp := fun vs H Q _ => ∃ (a : Addr) (dx : Addr) (fs : List (Str × V)), vs = [.ref a] ∧ H a = some (.ins C dx fs) ∧ Q .non H
def spOrdered (T : List (Addr × Str)) (C : Addr) : Sp := fun vs H Q _ => ∃ (a : Addr) (ss : List Sd), vs = [.ref a] ∧ PlAt C H a ss ∧ SdsOk ss ∧ Tabs T H ∧
  ∀ H' p ts, ExtN H H' → Tabs T H' → NewT H p → H' p = some (.lst (ts.map V.ref)) → SdsAt H' ts (ordL ss) → Q (.ref p) H'
section
variable {P : Program} {w : World} {K : PySem.W.Frag} {mg : Str → Option Value} {base : Heap} {C : Addr}
theorem scCheckT : FnScope ["table"] ["table"] (defScope sCheckTable) := ⟨rfl, rfl, rfl, by decide +kernel, rfl, by decide +kernel, by decide +kernel⟩
theorem ok_checkT {f : Addr} {fd : FuncData} (F : Fun K "check_table" "check_table" sCheckTable f fd) (B : Bl mg) (V : Cv K mg C) : FnOk P w K mg base CX0 1 f fd ["table"] (spCheckT C) := by
  refine F.ok scCheckT (fun vs H Q E h => ?_) (fun cdv A outer s H vs Q E hr h => ?_)
  · obtain ⟨a, dx, fs, rfl, _⟩ := h
    rfl
  · obtain ⟨a, dx, fs, rfl, ha, k⟩ := h
    refine ⟨_, pss_one (ps_if (pt_not (pt_val (pe_callB (call_isC V.ins) (by rfl) B.isi (by decide +kernel) (pa_cons (pv 0) (pa_cons (pe_glob (v := .ref C) (by rfl) V.mgP rfl) pa_nil))))) (pss_one ps_never) pss_nil), ?_⟩
    exact ⟨_, rfl, a, dx, fs, rfl, ha, true, rfl, iteF k⟩
end
end E4

set_option Elab.async false
set_option linter.all false
set_option maxRecDepth 100000
set_option maxHeartbeats 1000000
/-! own_order, check_own_places, product_at -/
namespace E4
open PySem PySem.Spec PyProof.Rows L2
open C8 (Cal Mak Met InsC pe_c pe_mt pe_mt0 call_isC clsBody)
open LamX (Tabs ExtN TabB CodeO)
/-- each fits into the step of the next -/
def ChnL (ss : List Sd) : Prop := ∀ (j : Nat) x y, ss[j]? = some x → ss[j + 1]? = some y → Fit x y
/-- the cells have places of their own -/
def Chn (ss : List Sd) : Prop := ChnL (ordL ss)
def spOwn (T : List (Addr × Str)) (C : Addr) : Sp := fun vs H Q _ => ∃ (a : Addr) (ss : List Sd), vs = [.ref a] ∧ PlAt C H a ss ∧ SdsOk ss ∧ Tabs T H ∧
  (Chn ss → ∀ H' p, ExtN H H' → Tabs T H' → NewT H p → H' p = some (.lst (((ordL ss).map (·.1)).map V.str)) → Q (.ref p) H') ∧ (¬ Chn ss → ∀ H', ExtN H H' → Tabs T H' → Q .non H')
def spCheckO (T : List (Addr × Str)) (C : Addr) : Sp := fun vs H Q _ => ∃ (a : Addr) (ss : List Sd), vs = [.ref a] ∧ PlAt C H a ss ∧ SdsOk ss ∧ Tabs T H ∧ Chn ss ∧ ∀ H', ExtN H H' → Tabs T H' → Q .non H'
def prodI (l : List Int) : Int := l.foldr (· * ·) 1
theorem prodI_append (a b : List Int) : prodI (a ++ b) = prodI a * prodI b := by
  unfold prodI
  induction a with
  | nil => simp
  | cons x a ih => rw [List.cons_append, List.foldr_cons, List.foldr_cons, ih, Int.mul_assoc]
def spProd (K : PySem.W.Frag) : Sp := fun vs H Q _ => ∃ (t d : Addr) (m : List Str) (kvs : List (Key × V)) (g : Str → Int), vs = [.ref t, .ref d] ∧ SqL K H t (m.map V.str) ∧ H d = some (.dK kvs) ∧ (∀ x ∈ m, valV kvs (Sum.inr x) = some (.int (g x))) ∧ m.length ≤ 1000 ∧ (∀ x ∈ m, (g x).natAbs < 2 ^ 400) ∧ Q (.int (prodI (m.map g))) H
theorem cmw {i j : Int} {a b : Nat} (ha : i.natAbs < 2 ^ a) (hb : j.natAbs < 2 ^ b) (h0 : 0 < a) (h1 : 0 < b) (h : a + b ≤ 1000000) : CMulW i j := wide_mul ha hb h0 h1 h
theorem prod_lt (g : Str → Int) : ∀ l : List Str, (∀ x ∈ l, (g x).natAbs < 2 ^ 400) → (prodI (l.map g)).natAbs < 2 ^ (1 + l.length * 400)
  | [], _ => by show (1 : Int).natAbs < 2 ^ (1 + 0 * 400); decide
  | x :: l, h => by
    have ih := prod_lt g l fun y hy => h y (List.mem_cons.mpr (.inr hy))
    have hx := h x (List.mem_cons.mpr (.inl rfl))
    have e := wide_lt (a := 400) (b := 1 + l.length * 400) hx ih
    have e2 : 400 + (1 + l.length * 400) = 1 + (x :: l).length * 400 := by rw [List.length_cons, Nat.add_mul]; omega
    rw [e2] at e
    exact e
section
variable {P : Program} {w : World} {K : PySem.W.Frag} {mg : Str → Option Value} {base : Heap} {C : Addr}
theorem scOwn : FnScope ["table", "sides"] ["table"] (defScope sOwnOrder) := ⟨rfl, rfl, rfl, by decide +kernel, rfl, by decide +kernel, by decide +kernel⟩
theorem ok_own {T : List (Addr × Str)} {f : Addr} {fd : FuncData} (F : Fun K "own_order" "own_order" sOwnOrder f fd) (Ct : Cal P w K mg base 1 "check_table" (spCheckT C) []) (Or_ : Cal P w K mg base 2 "ordered" (spOrdered T C) []) (Mf : Cal P w K mg base 2 "misfit" (spMisfit K) []) (Nm : Cal P w K mg base 1 "names_of" (spNames K) []) :
    FnOk P w K mg base CX0 3 f fd ["table"] (spOwn T C) := by
  refine F.ok scOwn (fun vs H Q E h => ?_) (fun cdv A outer s H vs Q E hr h => ?_)
  · obtain ⟨a, ss, rfl, _⟩ := h
    rfl
  · obtain ⟨a, ss, rfl, hp, ok, tb, k1, k2⟩ := h
    refine ⟨_, pss_cons (ps_expr (pe_c Ct hr (by decide) rfl (pa_cons (pv 0) pa_nil)))
      (pss_cons (ps_set (i := 1) scOwn.nd rfl (Or.inl rfl) (pe_c Or_ hr (by decide) rfl (pa_cons (pv 0) pa_nil)))
      (pss_one (ps_ret (pe_ifExp (pt_cmp (pc_isN (pe_c Mf hr (by decide) rfl (pa_cons (pv 1) pa_nil)))) (pe_c Nm hr (by decide) rfl (pa_cons (pv 1) pa_nil)) pe_non)))), ?_⟩
    obtain ⟨dx, l0, ts0, ha, hl0, hx0⟩ := id hp
    refine ⟨_, rfl, a, dx, _, rfl, ha, ?_⟩
    dsimp only
    refine seq_asg ⟨_, rfl, a, ss, rfl, hp, ok, tb, fun H1 p ts ex tb1 np hpp hx => ?_⟩
    have lo : (ordL ss).length ≤ 60 := Nat.le_trans (length_ordL ss) (by have := ok.len; omega)
    have oko : ∀ x ∈ ordL ss, SdOk x := fun x hx1 => ok.ok x (mem_ordL.mp hx1).1
    refine ret_of ?_
    refine ⟨_, rfl, p, ts, ordL ss, rfl, SqL.of hpp, hx, oko, lo, fun i x y ta tb' h1 h2 h3 h4 nf hf H2 q S2 nq hq => ?_, fun hall H2 S2 => ?_⟩
    · refine ⟨_, rfl, ifF rfl ?_⟩
      exact k2 (fun c => nf (c i x y h1 h2)) H2 (ex.trans (ExtN.of S2)) (tb1.ext S2)
    · refine ⟨_, rfl, ifT rfl ?_⟩
      refine ⟨_, rfl, p, ts, ordL ss, rfl, SqL.of (S2 _ _ hpp), hx.same S2, lo, fun H3 q S3 nq hq => ?_⟩
      have ex3 := ex.trans (ExtN.of (S2.trans S3))
      refine k1 hall H3 q ex3 ((tb1.ext S2).ext S3) (fun o e => ?_) hq
      exact newT_of (ex.trans (ExtN.of S2)) nq o e
theorem scCheckO : FnScope ["table"] ["table"] (defScope sCheckOwn) := ⟨rfl, rfl, rfl, by decide +kernel, rfl, by decide +kernel, by decide +kernel⟩
theorem ok_checkO {T : List (Addr × Str)} {f : Addr} {fd : FuncData} (F : Fun K "check_own_places" "check_own_places" sCheckOwn f fd) (Ow : Cal P w K mg base 3 "own_order" (spOwn T C) []) : FnOk P w K mg base CX0 4 f fd ["table"] (spCheckO T C) := by
  refine F.ok scCheckO (fun vs H Q E h => ?_) (fun cdv A outer s H vs Q E hr h => ?_)
  · obtain ⟨a, ss, rfl, _⟩ := h
    rfl
  · obtain ⟨a, ss, rfl, hp, ok, tb, hc, k⟩ := h
    refine ⟨_, pss_one (ps_if (pt_cmp (pc_isN (pe_c Ow hr (by decide) rfl (pa_cons (pv 0) pa_nil)))) (pss_one ps_never) pss_nil), ?_⟩
    refine ⟨_, rfl, a, ss, rfl, hp, ok, tb, fun _ H1 p ex tb1 np hpp => ?_, fun no => absurd hc no⟩
    exact ⟨_, rfl, ifF rfl (k H1 ex tb1)⟩
theorem scProd : FnScope ["names", "values", "found", "name"] ["names", "values"] (defScope sProductAt) := ⟨rfl, rfl, rfl, by decide +kernel, rfl, by decide +kernel, by decide +kernel⟩
theorem ok_prod {f : Addr} {fd : FuncData} (F : Fun K "product_at" "product_at" sProductAt f fd) : FnOk P w K mg base CX0 1 f fd ["names", "values"] (spProd K) := by
  refine F.ok scProd (fun vs H Q E h => ?_) (fun cdv A outer s H vs Q E hr h => ?_)
  · obtain ⟨t, d, m, kvs, g, rfl, _⟩ := h
    rfl
  · obtain ⟨t, d, m, kvs, g, rfl, ht, hd, hg, hl, hb, k⟩ := h
    have u1 := Nat.lt_of_le_of_lt (Nat.add_le_add_left (by decide : 1 ≤ 64) _) hr.units
    refine ⟨_, pss_cons (ps_set (i := 2) scProd.nd rfl (Or.inl rfl) pe_int)
      (pss_cons (ps_for PassesOwn.never rfl (pi_list (pv 0)) (pg_name (i := 3) scProd.nd rfl (Or.inl rfl)) (pss_one (ps_set (i := 2) scProd.nd rfl (Or.inl rfl) (pe_op op_mulW (pv 2) (pe_dget u1 (pv 1) (pv 3) (fun _ _ => rfl))))))
      (pss_one (ps_ret (pv 2)))), ?_⟩
    refine seq_asg ⟨_, rfl, t, rfl, ⟨_, ht⟩, for_it (walk_list (xs := m.map V.str)) (fun i σ H' => H' = H ∧ ∃ u, σ = [some (.ref t), some (.ref d), some (.int (prodI ((m.take i).map g))), u]) ⟨rfl, none, rfl⟩ ?_ ?_ ?_⟩
    · rintro i σ H' _ ⟨rfl, _⟩
      exact ht
    · rintro i x σ H1 H2 hi ⟨rfl, u, rfl⟩ ⟨rfl, hx⟩
      rw [List.length_map] at hi
      rw [List.getElem?_map] at hx
      obtain ⟨z, hz, rfl⟩ := Option.map_eq_some_iff.mp hx
      have hm := List.mem_of_getElem? hz
      have p1 := prod_lt g (m.take i) fun y hy => hb y (List.mem_of_mem_take hy)
      have tl : (m.take i).length ≤ 1000 := by rw [List.length_take]; omega
      refine ⟨_, rfl, _, rfl, _, rfl, d, _, rfl, by rw [← hg z hm]; exact DGet.k (k := Sum.inr z) hd, _, _, rfl, rfl, cmw p1 (hb z hm) (by omega) (by decide) (by omega), rfl, some (V.str z), ?_⟩
      rw [take_snoc hz, List.map_append, prodI_append]
      show _ = [_, _, some (V.int (_ * (g z * 1))), _]
      rw [Int.mul_one]
      rfl
    · rintro σ H1 ⟨rfl, u, rfl⟩
      rw [List.length_map, List.take_length]
      exact ⟨_, rfl, k⟩
end
end E4

set_option Elab.async false
set_option linter.all false
set_option maxRecDepth 100000
set_option maxHeartbeats 1000000
/-! is_values, check_values, twos, cell_on -/
namespace E4
open PySem PySem.Spec PyProof.Rows L2
open C8 (Cal Mak Met InsC pe_c pe_mt pe_mt0 call_isC clsBody)
/-- a dict of whole numbers by texts -/
abbrev Vls := List (Str × Int)
def dI (l : Vls) : List (Key × V) := l.map fun x => (Sum.inr x.1, V.int x.2)
def getI (l : Vls) (z : Str) : Option Int := (l.find? fun x => decide (x.1 = z)).map (·.2)
def setI (l : Vls) (z : Str) (n : Int) : Vls := if (l.any fun x => decide (x.1 = z)) = true then l.map (fun x => if x.1 = z then (x.1, n) else x) else l ++ [(z, n)]
theorem valV_dI (z : Str) : ∀ l : Vls, valV (dI l) (Sum.inr z) = (getI l z).map V.int
  | [] => rfl
  | x :: l => by
    have ih := valV_dI z l
    unfold dI getI at ih ⊢
    rw [List.map_cons]
    by_cases e : x.1 = z
    · rw [valV_pos (by rw [e])]
      simp [e]
    · rw [valV_neg (by intro q; exact e (Sum.inr.inj q)), ih]
      simp [e]
theorem any_dI (z : Str) (l : Vls) : ((dI l).any fun kv => decide (kv.1 = Sum.inr z)) = l.any fun x => decide (x.1 = z) := by
  unfold dI
  rw [List.any_map]
  congr 1
  funext x
  simp
theorem putK_dI (l : Vls) (z : Str) (n : Int) : putK (dI l) (Sum.inr z) (V.int n) = dI (setI l z n) := by
  unfold putK setI
  rw [any_dI]
  split
  · unfold dI
    rw [List.map_map, List.map_map]
    refine List.map_congr_left fun x _ => ?_
    by_cases e : x.1 = z
    · simp [e]
    · simp [e]
  · unfold dI
    rw [List.map_append]
    rfl
theorem keys_set_new {l : Vls} {z : Str} {n : Int} (h : z ∉ l.map (·.1)) : setI l z n = l ++ [(z, n)] := by
  have : ¬ (l.any fun x => decide (x.1 = z)) = true := fun c => by
    obtain ⟨x, hx, e⟩ := List.any_eq_true.mp c
    exact h (List.mem_map.mpr ⟨x, hx, of_decide_eq_true e⟩)
  unfold setI
  rw [if_neg this]
theorem getI_isSome {l : Vls} {z : Str} (h : z ∈ l.map (·.1)) : ∃ n, getI l z = some n ∧ (z, n) ∈ l := by
  obtain ⟨x, hx, e⟩ := List.mem_map.mp h
  unfold getI
  cases c : l.find? fun x => decide (x.1 = z) with
  | none => exact absurd (decide_eq_true e) (by simpa using List.find?_eq_none.mp c x hx)
  | some y =>
    have h1 := List.find?_some c
    have h2 := List.mem_of_find?_eq_some c
    have h3 : y.1 = z := of_decide_eq_true h1
    exact ⟨y.2, rfl, by rw [← h3]; exact h2⟩
section
variable {P : Program} {w : World} {K : PySem.W.Frag} {mg : Str → Option Value} {base : Heap} {C : Addr}
theorem len_dI (l : Vls) : (dI l).length = l.length := List.length_map ..
end
end E4

set_option Elab.async false
set_option linter.all false
set_option maxRecDepth 100000
set_option maxHeartbeats 1000000
/-! twos, cell_on -/
namespace E4
open PySem PySem.Spec PyProof.Rows L2
open C8 (Cal Mak Met InsC pe_c pe_mt pe_mt0 call_isC clsBody)
def twosL (ss : List Sd) : Vls := (sizesOf ss).map fun z => (z, 2)
def spTwos (C : Addr) : Sp := fun vs H Q _ => ∃ (a : Addr) (ss : List Sd), vs = [.ref a] ∧ PlAt C H a ss ∧ SdsOk ss ∧ ∀ H' p, Same H H' → H p = none → H' p = some (.dK (dI (twosL ss))) → Q (.ref p) H'
section
variable {P : Program} {w : World} {K : PySem.W.Frag} {mg : Str → Option Value} {base : Heap} {C : Addr}
theorem scTwos : FnScope ["table", "name"] ["table"] (defScope sTwos) := ⟨rfl, rfl, rfl, by decide +kernel, rfl, by decide +kernel, by decide +kernel⟩
theorem ok_twos {f : Addr} {fd : FuncData} (F : Fun K "twos" "twos" sTwos f fd) (Sz : Met P w K mg base 1 C "sizes" (spSizes C) []) : FnOk P w K mg base CX0 2 f fd ["table"] (spTwos C) := by
  refine F.ok scTwos (fun vs H Q E h => ?_) (fun cdv A outer s H vs Q E hr h => ?_)
  · obtain ⟨a, ss, rfl, _⟩ := h
    rfl
  · obtain ⟨a, ss, rfl, hp, ok, k⟩ := h
    refine ⟨_, pss_one (ps_ret (pe_dc (own := [("name", 1)]) (g := gName 1) (tt := tYes) (tk := tVar 1) (tv := tC (.int 2)) rfl scTwos.nd (pi_list (pe_mt0 Sz hr (by decide) (pv 0)))
        (blkOk_by (own := [("name", 1)]) (N := ["table", "name"]) (sc := defScope sTwos) (by decide +kernel))
        (fun _ _ _ _ _ => pg_name (i := 1) scTwos.nd rfl (Or.inl rfl)) (fun _ _ _ _ _ => pts_nil) (fun _ _ _ _ _ => pv 1) (fun _ _ _ _ _ => by exact pe_int))), ?_⟩
    obtain ⟨dx, l0, ts0, ha, hl0, hx0⟩ := id hp
    refine ⟨_, rfl, a, dx, _, rfl, ha, rfl, a, ss, rfl, hp, ok, fun H1 p S1 np hpp => ?_⟩
    refine ⟨p, rfl, ⟨_, SqL.of hpp⟩, fun D nD => ?_⟩
    have lz := length_sizes ok
    have nds := sizesOf_nodup ss
    generalize hzs : sizesOf ss = zs at hpp lz nds
    let w := walk_list (K := K) (a := p) (xs := zs.map V.str)
    let Pv : Nat → Hp → Prop := fun i H' => Same H1 H' ∧ H' D = some (.dK (dI ((zs.take i).map fun z => (z, (2 : Int)))))
    refine ⟨fun i m H => m = zs.length - i ∧ i ≤ zs.length ∧ Pv i H, ⟨zs.length, by simp, Nat.zero_le _, Same.upd nD, upd_same⟩, ?_⟩
    rintro i m H2 ⟨rfl, hi, S2, hD⟩
    have q : SqL K H2 p (zs.map V.str) := SqL.of (S2 _ _ hpp)
    by_cases hlt : i < zs.length
    · refine .inr ⟨w.goes i H2 (by rw [List.length_map]; exact hlt) q, Pv (i + 1), fun H' p' => ⟨zs.length - (i + 1), by omega, rfl, hlt, p'⟩, fun x H' y => ?_⟩
      obtain ⟨rfl, hx⟩ := w.yields i H2 x H' (by rw [List.length_map]; exact hlt) q y
      rw [List.getElem?_map] at hx
      obtain ⟨z, hz, rfl⟩ := Option.map_eq_some_iff.mp hx
      have nin : z ∉ ((zs.take i).map fun z => (z, (2 : Int))).map (·.1) := fun c => by
        rw [List.map_map] at c
        have c2 : z ∈ zs.take i := by
          obtain ⟨u, hu, rfl⟩ := List.mem_map.mp c
          exact hu
        obtain ⟨j, hj⟩ := List.mem_iff_getElem?.mp c2
        have hj2 : j < i := by
          have := (List.getElem?_eq_some_iff.mp hj).1
          rw [List.length_take] at this
          omega
        rw [List.getElem?_take_of_lt hj2] at hj
        have := (List.getElem?_inj (i := j) (j := i) (by omega) nds).mp (hj.trans hz.symm)
        omega
      refine ⟨rfl, iteT (B := False) ⟨_, rfl, _, Sum.inr z, rfl, hD, ?_, ?_, ?_⟩⟩
      · rw [len_dI, List.length_map, List.length_take, sizeLine_eq]
        omega
      · intro c o ec
        rw [upd_ne (ne_of_none ec nD)]
        exact S2 _ _ ec
      · rw [upd_same, putK_dI, keys_set_new nin, take_snoc hz, List.map_append]
        rfl
    · have e : i = zs.length := by omega
      subst e
      rw [List.take_length] at hD
      refine .inl ⟨by have := w.stops H2 q; rw [List.length_map] at this; exact this, ?_⟩
      refine k H2 D (S1.trans S2) (S1.free nD) ?_
      rw [hD]
      unfold twosL
      rw [hzs]
end
end E4

set_option Elab.async false
set_option linter.all false
set_option maxRecDepth 100000
set_option maxHeartbeats 1000000
set_option exponentiation.threshold 500
/-! values_of_clash -/
namespace E4
open PySem PySem.Spec PyProof.Rows L2
open C8 (Cal Mak Met InsC pe_c pe_mt pe_mt0 call_isC clsBody)
theorem keys_twos (ss : List Sd) : (twosL ss).map (·.1) = sizesOf ss := by
  unfold twosL
  rw [List.map_map]
  exact List.map_id _
theorem getI_twos {ss : List Sd} {z : Str} (h : z ∈ sizesOf ss) : getI (twosL ss) z = some 2 := by
  obtain ⟨n, hn, hm⟩ := getI_isSome (l := twosL ss) (z := z) (by rw [keys_twos]; exact h)
  obtain ⟨u, _, e⟩ := List.mem_map.mp hm
  cases e
  exact hn
theorem prod_twos : ∀ l : List Str, prodI (l.map fun _ => (2 : Int)) = 2 ^ l.length
  | [] => rfl
  | x :: l => by
    have ih := prod_twos l
    show 2 * prodI (l.map fun _ => (2 : Int)) = _
    rw [ih, List.length_cons, Int.pow_succ, Int.mul_comm]
section
variable {P : Program} {w : World} {K : PySem.W.Frag} {mg : Str → Option Value} {base : Heap} {C : Addr}
end
end E4

set_option Elab.async false
set_option linter.all false
set_option maxRecDepth 100000
set_option maxHeartbeats 1000000
set_option exponentiation.threshold 500
/-! clash -/
namespace E4
open PySem PySem.Spec PyProof.Rows L2
open C8 (Cal Mak Met InsC pe_c pe_mt pe_mt0 call_isC clsBody)
open LamX (Tabs ExtN TabB CodeO)
/-- the value of a letter -/
def gOf (vl : Vls) (z : Str) : Int := (getI vl z).getD 0
def AllV (p : Int → Prop) (l : Vls) : Prop := ∀ x ∈ l, p x.2
theorem AllV.set {p : Int → Prop} {l : Vls} {z : Str} {n : Int} (h : AllV p l) (hn : p n) : AllV p (setI l z n) := by
  unfold setI
  split
  · intro x hx
    obtain ⟨y, hy, rfl⟩ := List.mem_map.mp hx
    split
    · exact hn
    · exact h y hy
  · intro x hx
    rcases List.mem_append.mp hx with q | q
    · exact h x q
    · rw [List.mem_singleton.mp q]
      exact hn
theorem gOf_at {vl : Vls} {ks : List Str} {p : Int → Prop} (hk : vl.map (·.1) = ks) (ha : AllV p vl) {z : Str} (hz : z ∈ ks) : getI vl z = some (gOf vl z) ∧ p (gOf vl z) := by
  obtain ⟨n, hn, hm⟩ := getI_isSome (l := vl) (z := z) (by rw [hk]; exact hz)
  have e : gOf vl z = n := by unfold gOf; rw [hn]; rfl
  rw [e]
  exact ⟨hn, ha _ hm⟩
section
variable {P : Program} {w : World} {K : PySem.W.Frag} {mg : Str → Option Value} {base : Heap} {C : Addr}
end
end E4

set_option Elab.async false
set_option linter.all false
set_option maxRecDepth 100000
set_option maxHeartbeats 1000000
set_option exponentiation.threshold 500
/-! hole -/
namespace E4
open PySem PySem.Spec PyProof.Rows L2
open C8 (Cal Mak Met InsC pe_c pe_mt pe_mt0 call_isC clsBody)
open LamX (Tabs ExtN TabB CodeO)
theorem strOk_of {z : Str} (h : LetOk z) : PyData.strOk z = true := by
  unfold PyData.strOk
  rw [← Array.all_toList, List.all_eq_true]
  intro c hc
  have := (h.2.2 c hc).2
  exact decide_eq_true (by omega)
theorem canLay_strs (l : List Str) (h : ∀ z ∈ l, PyData.strOk z = true) : PyData.canLayAll0 (l.map PyData.str) = true := by
  induction l with
  | nil => rfl
  | cons b l ih => simpa [PyData.canLayAll0, PyData.canLay0] using ⟨h b (List.mem_cons.mpr (.inl rfl)), ih fun z hz => h z (List.mem_cons.mpr (.inr hz))⟩
theorem depth_strs (l : List Str) : PyData.depthAll (l.map PyData.str) = 0 := by
  induction l with
  | nil => rfl
  | cons b l ih =>
    show max (PyData.depth (.str b)) (PyData.depthAll (l.map PyData.str)) = 0
    rw [ih]
    rfl
theorem shaped_strs (l : List Str) (h : ∀ z ∈ l, PyData.strOk z = true) : SeqAt.shaped (.list (l.map PyData.str)) = true := by
  have h1 : PyData.canLay0 (.list (l.map PyData.str)) = true := by simpa [PyData.canLay0] using canLay_strs l h
  have h2 : PyData.depth (.list (l.map PyData.str)) ≤ 64 := by
    simp only [PyData.depth]
    rw [depth_strs]
    decide
  show (PyData.canLay0 _ && decide (PyData.depth _ ≤ 64)) = true
  rw [h1, decide_eq_true h2]
  rfl
theorem dp_strs {K : PySem.W.Frag} {H : Hp} (l : List Str) : DpAll K H (l.map V.str) (l.map PyData.str) := by
  induction l with
  | nil => exact .nil
  | cons b l ih => exact .cons (.str b) ih
theorem eqv_strs : ∀ xs ys : List Str, PyData.eqvAll (xs.map PyData.str) (ys.map PyData.str) = decide (xs = ys)
  | [], [] => rfl
  | [], y :: ys => by simp [PyData.eqvAll]
  | x :: xs, [] => by simp [PyData.eqvAll]
  | x :: xs, y :: ys => by
    rw [List.map_cons, List.map_cons]
    simp only [PyData.eqvAll, PyData.eqv]
    rw [eqv_strs xs ys]
    by_cases a : x = y
    · subst a; simp
    · simp [a]
theorem eqv_listS (xs ys : List Str) : PyData.eqv (.list (xs.map PyData.str)) (.list (ys.map PyData.str)) = decide (xs = ys) := by rw [← eqv_strs]; simp [PyData.eqv]
/-- the letters of the sizes of the first i rows -/
def dn (ss : List Sd) (i : Nat) : List Str := (ss.take i).flatMap (·.2.1)
theorem dn_snoc {ss : List Sd} {i : Nat} {x : Sd} (h : ss[i]? = some x) : dn ss (i + 1) = dn ss i ++ x.2.1 := by
  unfold dn
  rw [take_snoc h, List.flatMap_append, List.flatMap_cons, List.flatMap_nil, List.append_nil]
theorem leftOf_len : ∀ (o p : List Str), p.length ≤ (leftOf p o).length + o.length
  | [], p => Nat.le_refl _
  | z :: o, p => by
    have h := leftOf_len o (p.erase z)
    show p.length ≤ (leftOf (p.erase z) o).length + (o.length + 1)
    by_cases c : z ∈ p
    · rw [List.length_erase_of_mem c] at h
      omega
    · rw [List.erase_of_not_mem c] at h ⊢
      omega
theorem dn_len {ss : List Sd} (hc : ChnL ss) (ok : ∀ x ∈ ss, SdOk x) : ∀ (i : Nat), (∀ j, j < i → ∀ y, ss[j]? = some y → sortT (dn ss j) = y.2.2) → (∃ y, ss[i]? = some y) → (dn ss i).length ≤ 60
  | 0, _, _ => by simp [dn]
  | i + 1, h, ⟨y, hy⟩ => by
    have hl := (List.getElem?_eq_some_iff.mp hy).1
    have hx : ss[i]? = some ss[i] := List.getElem?_eq_getElem (by omega)
    generalize ss[i] = x at hx
    have f := hc i x y hx hy
    unfold Fit at f
    have h1 := leftOf_len y.2.2 (x.2.2 ++ x.2.1)
    rw [f] at h1
    have e := h i (Nat.lt_succ_self _) x hx
    rw [dn_snoc hx, List.length_append, ← length_sortT, e]
    rw [List.length_append] at h1
    have := (ok y (List.mem_of_getElem? hy)).2.2.2.2
    simp only [List.length_nil] at h1
    omega
def HoleAt (H : Hp) (p : Addr) (ss : List Sd) (i : Nat) : Prop := ∃ d, H p = some (.tup [.ref d, .int (2 ^ (dn (ordL ss) i).length)]) ∧ H d = some (.dK (dI (twosL ss)))
def spHole (T : List (Addr × Str)) (C : Addr) : Sp := fun vs H Q _ => ∃ (a : Addr) (ss : List Sd), vs = [.ref a] ∧ PlAt C H a ss ∧ SdsOk ss ∧ Tabs T H ∧ Chn ss ∧
  (∀ i x, (ordL ss)[i]? = some x → sortT (dn (ordL ss) i) ≠ x.2.2 → (∀ j, j < i → ∀ y, (ordL ss)[j]? = some y → sortT (dn (ordL ss) j) = y.2.2) → ∀ H' p, ExtN H H' → Tabs T H' → NewT H p → HoleAt H' p ss i → (∀ d n, H' p = some (.tup [.ref d, n]) → NewT H d) → Q (.ref p) H') ∧
  ((∀ (j : Nat) y, (ordL ss)[j]? = some y → sortT (dn (ordL ss) j) = y.2.2) → ∀ H', ExtN H H' → Tabs T H' → Q .non H')
section
variable {P : Program} {w : World} {K : PySem.W.Frag} {mg : Str → Option Value} {base : Heap} {C : Addr}
theorem scHole : FnScope ["table", "values", "done", "_", "size", "step"] ["table"] (defScope sHole) := ⟨rfl, rfl, rfl, by decide +kernel, rfl, by decide +kernel, by decide +kernel⟩
theorem ok_hole {T : List (Addr × Str)} {f : Addr} {fd : FuncData} (F : Fun K "hole" "hole" sHole f fd) (B : Bl mg) (Ct : Cal P w K mg base 1 "check_table" (spCheckT C) []) (Cw : Cal P w K mg base 4 "check_own_places" (spCheckO T C) []) (Or_ : Cal P w K mg base 2 "ordered" (spOrdered T C) [])
    (Tw : Cal P w K mg base 2 "twos" (spTwos C) []) (Pr : Cal P w K mg base 1 "product_at" (spProd K) []) :
    FnOk P w K mg base CX0 5 f fd ["table"] (spHole T C) := by
  refine F.ok scHole (fun vs H Q E h => ?_) (fun cdv A outer s H vs Q E hr h => ?_)
  · obtain ⟨a, ss, rfl, _⟩ := h
    rfl
  · obtain ⟨a, ss, rfl, hp, ok, tb, hc, k1, k2⟩ := h
    refine ⟨_, pss_cons (ps_expr (pe_c Ct hr (by decide) rfl (pa_cons (pv 0) pa_nil)))
      (pss_cons (ps_expr (pe_c Cw hr (by decide) rfl (pa_cons (pv 0) pa_nil)))
      (pss_cons (ps_set (i := 1) scHole.nd rfl (Or.inl rfl) (pe_c Tw hr (by decide) rfl (pa_cons (pv 0) pa_nil)))
      (pss_cons (ps_set (i := 2) scHole.nd rfl (Or.inl rfl) (pe_lstS pa_nil))
      (pss_cons (ps_for PassesOwn.never rfl (pi_list (pe_c Or_ hr (by decide) rfl (pa_cons (pv 0) pa_nil))) (pg_tup rfl (pgs_cons (pg_name (i := 3) scHole.nd rfl (Or.inl rfl)) (pgs_cons (pg_name (i := 4) scHole.nd rfl (Or.inl rfl)) (pgs_cons (pg_name (i := 5) scHole.nd rfl (Or.inl rfl)) pgs_nil))))
        (pss_cons (ps_if (pt_cmpR (op_neD hr.units) (pe_callB cr_sortedS (by rfl) B.srt_ (by decide +kernel) (pa_cons (pv 2) pa_nil)) (pv 5) (by rfl)) (pss_one (ps_ret (pe_tupS (pa_cons (pv 1) (pa_cons (pe_c Pr hr (by decide) rfl (pa_cons (pv 2) (pa_cons (pv 1) pa_nil))) pa_nil))))) pss_nil)
        (pss_one (ps_set (i := 2) scHole.nd rfl (Or.inl rfl) (pe_op op_catS (pv 2) (pv 4))))))
      (pss_one (ps_ret pe_non)))))), ?_⟩
    obtain ⟨dx, l0, ts0, ha, hl0, hx0⟩ := id hp
    refine ⟨_, rfl, a, dx, _, rfl, ha, ?_⟩
    dsimp only
    refine ⟨_, rfl, a, ss, rfl, hp, ok, tb, hc, fun H1 ex1 tb1 => ?_⟩
    dsimp only
    refine seq_asg ⟨_, rfl, a, ss, rfl, hp.ext ex1, ok, fun H2 va S2 nva hva => ?_⟩
    refine seq_asg ⟨by show 0 ≤ sizeLine; decide, fun d0 H3 S3 nd0 hd0 => ?_⟩
    have ex3 := ex1.trans (ExtN.of (S2.trans S3))
    have tb3 := (tb1.ext S2).ext S3
    have hva3 := S3 _ _ hva
    refine ⟨_, rfl, a, ss, rfl, hp.ext ex3, ok, tb3, fun H4 p ts ex4 tb4 np hpp hx => ?_⟩
    have ex04 := ex3.trans ex4
    have hva4 := ex4 _ _ hva3 (fun _ z => nomatch z)
    have hd4 := ex4 _ _ hd0 (fun _ z => nomatch z)
    have lt := hx.length
    have lo : (ordL ss).length ≤ 16 := Nat.le_trans (length_ordL ss) ok.len
    have oko : ∀ x ∈ ordL ss, SdOk x := fun x hx1 => ok.ok x (mem_ordL.mp hx1).1
    have mo : ∀ x ∈ ordL ss, ∀ z ∈ x.2.1, z ∈ sizesOf ss := fun x hx1 z hz => mem_sizesOf.mpr ⟨x, (mem_ordL.mp hx1).1, .inl hz⟩
    unfold Chn at hc
    generalize hoo : ordL ss = oo at hc k1 k2 hx lt lo oko mo
    refine ⟨p, rfl, ⟨_, SqL.of hpp⟩, for_it (walk_list (xs := ts.map V.ref)) (fun i σ' H' => ∃ d u3 u4 u5, σ' = [some (.ref a), some (.ref va), some (.ref d), u3, u4, u5] ∧ Same H4 H' ∧ H' d = some (.lst ((dn oo i).map V.str)) ∧ ∀ j, j < i → ∀ y, oo[j]? = some y → sortT (dn oo j) = y.2.2) ⟨d0, none, none, none, rfl, fun _ _ e => e, by rw [hd4]; rfl, fun j hj => absurd hj (Nat.not_lt_zero _)⟩ (fun i σ' H' _ q => let ⟨_, _, _, _, _, S, _⟩ := q; SqL.of (S _ _ hpp)) ?_ ?_⟩
    · rintro i v σ' H5 H6 hi ⟨d, u3, u4, u5, rfl, S5, hd, hj⟩ ⟨rfl, hxi⟩
      rw [List.length_map] at hi
      rw [List.getElem?_map] at hxi
      obtain ⟨t, htt, rfl⟩ := Option.map_eq_some_iff.mp hxi
      obtain ⟨y, hy, c1, c2, r0, r1, r2⟩ := paired_at hx htt
      have oy := oko y (List.mem_of_getElem? hy)
      have ll := dn_len hc oko i hj ⟨y, hy⟩
      have dmem : ∀ z ∈ dn oo i, ∃ x ∈ oo, z ∈ x.2.1 := fun z hz => by
        unfold dn at hz
        obtain ⟨x, hx1, hz2⟩ := List.mem_flatMap.mp hz
        exact ⟨x, List.mem_of_mem_take hx1, hz2⟩
      have dlet : ∀ z ∈ dn oo i, LetOk z := fun z hz => by
        obtain ⟨x, hx1, hz2⟩ := dmem z hz
        exact (oko x hx1).2.1 z hz2
      refine ⟨t, _, rfl, SqT.of (S5 _ _ r0), rfl, _, _, rfl, _, _, rfl, _, _, rfl, rfl, ?_⟩
      refine ⟨_, rfl, d, dn oo i, rfl, SqL.of hd, by omega, fun ys q pm so nq => ?_⟩
      have e1 := sortT_one pm so
      subst e1
      have S6 : ∀ v : HO, Same H6 (upd H6 q v) := fun v => Same.upd nq
      refine ⟨_, rfl, .list ((sortT (dn oo i)).map PyData.str), .list (y.2.2.map PyData.str), .lst (SqL.of upd_same) (dp_strs _), .lst (SqL.of (S6 _ _ _ (S5 _ _ r2))) (dp_strs _), shaped_strs _ (fun z hz => strOk_of (dlet z ((sortT_perm _).mem_iff.mp hz))), shaped_strs _ (fun z hz => strOk_of (oy.2.2.1 z hz)), _, rfl, ?_⟩
      by_cases c : sortT (dn oo i) = y.2.2
      · refine ifF (by rw [eqv_listS, decide_eq_true c]; rfl) ?_
        refine ⟨_, rfl, _, rfl, d, c1, _, _, rfl, rfl, S6 _ _ _ hd, S6 _ _ _ (S5 _ _ r1), by rw [List.length_map, List.length_map, sizeLine_eq]; have := oy.2.2.2.1; omega, fun e H7 S7 ne he => ?_⟩
        refine ⟨e, _, _, _, rfl, S5.trans ((S6 _).trans S7), by rw [he, dn_snoc hy, List.map_append], fun j hj2 y2 hy2 => ?_⟩
        by_cases ej : j = i
        · subst ej
          rw [hy] at hy2
          cases hy2
          exact c
        · exact hj j (by omega) y2 hy2
      · refine ifT (by rw [eqv_listS, decide_eq_false c]; rfl) ?_
        have dz : ∀ z ∈ dn oo i, z ∈ sizesOf ss := fun z hz => by
          obtain ⟨x, hx1, hz2⟩ := dmem z hz
          exact mo x hx1 z hz2
        have hva6 := S6 (.lst ((sortT (dn oo i)).map V.str)) _ _ (S5 _ _ hva4)
        have hd6 := S6 (.lst ((sortT (dn oo i)).map V.str)) _ _ hd
        have S46 := S5.trans (S6 (.lst ((sortT (dn oo i)).map V.str)))
        refine ⟨_, rfl, _, rfl, _, rfl, d, va, dn oo i, dI (twosL ss), fun _ => 2, rfl, SqL.of hd6, hva6, fun z hz => ?_, by omega, fun _ _ => Nat.lt_of_lt_of_le (show (2 : Nat) < 2 ^ 2 by decide) (Nat.pow_le_pow_right (by decide) (by decide)), ?_⟩
        · rw [valV_dI, getI_twos (dz z hz)]
          rfl
        rw [prod_twos]
        refine ⟨by show 2 ≤ sizeLine; decide, fun t6 H7 S7 n7 h7 => ?_⟩
        have S47 := S46.trans S7
        refine k1 i y hy c hj H7 t6 (ex04.trans (ExtN.of S47)) (tb4.ext S47) (newT_of (ex04.trans (ExtN.of S46)) n7) ⟨va, by rw [hoo]; exact h7, S7 _ _ hva6⟩ fun d' n' e => by
          rw [h7] at e
          cases e
          exact newT_of ex1 nva
    · rintro σ' H5 ⟨d, u3, u4, u5, rfl, S5, hd, hj⟩
      rw [List.length_map] at hj
      refine k2 (fun j y hy => hj j ?_ y hy) H5 (ex04.trans (ExtN.of S5)) (tb4.ext S5)
      have := (List.getElem?_eq_some_iff.mp hy).1
      omega
end
end E4

set_option Elab.async false
set_option linter.all false
set_option maxRecDepth 100000
set_option maxHeartbeats 1000000
/-! list(d.values()) -/
namespace L2
open PySem PySem.Spec PyProof.Rows
section
variable {X : Cx}
variable {o : Expr} {p pos apos mpos : Pos} {td : TE}
end
end L2

set_option Elab.async false
set_option linter.all false
set_option maxRecDepth 100000
set_option maxHeartbeats 1000000
/-! name = {k: v for ..} on one line, the name a local -/
namespace L2
open PySem PySem.Spec PyProof.Rows
section
variable {X : Cx}
end
end L2

set_option Elab.async false
set_option linter.all false
set_option maxRecDepth 100000
set_option maxHeartbeats 1000000
set_option exponentiation.threshold 5000
/-! cell_of -/
namespace E4
open PySem PySem.Spec PyProof.Rows L2
open C8 (Cal Mak Met InsC pe_c pe_mt pe_mt0 call_isC clsBody)
open LamX (Tabs ExtN TabB CodeO)
section
variable {P : Program} {w : World} {K : PySem.W.Frag} {mg : Str → Option Value} {base : Heap} {C : Addr}
end
end E4

set_option Elab.async false
set_option linter.all false
set_option maxRecDepth 100000
set_option maxHeartbeats 1000000
/-! Plain(rows), Plain(sides=rows); __eq__ -/
namespace L2
open PySem PySem.Spec PyProof.Rows
open C8 (Cal Mak Met InsC)
/-- C(k=v, ..): keywords alone -/
structure MakK (P : Program) (w : World) (K : PySem.W.Frag) (mg : Str → Option Value) (base : Heap) (k : Nat) (x : Str) (C : Addr) (sp : Sp) (ks : List Str) (gV : List V → List V → List V) : Prop where
  ex : ∃ (f : Addr) (fd : FuncData) (ps : List Str) (g : List Value → List Value → List Value), Mk K C f ∧ FnOk P w K mg base CX0 k f fd ps sp ∧ mg x = some (.ref C) ∧ KBn K fd ps 1 ks g gV
section
variable {X : Cx} {C : Addr} {x : Str} {p pos : Pos} {j k : Nat} {e : Expr} {es : List Expr} {t : TA}
/-- C(e): as it is told of __init__ -/
theorem pe_mk1 {sp : Sp} (c : Mak X.prog X.w X.K X.mg X.base k x C sp []) (hr : Room j X.A) (hk : k + 1 ≤ j) (hg : Gl X x) (ha : PA X (e :: es) t)
    (hdb : (x == ("__debug__" : Str)) = false := by decide) (hs : starEach (e :: es) X.env = (false, eval e X.env) :: starEach es X.env := by rfl) (hpl : (backTo pos (starEach es X.env)).any (·.1) = false := by rfl) :
    PE X (.Call (.Name x p) (e :: es) [] pos) (tMake C sp [] C8.E0 t) := by
  obtain ⟨f, fd, ps, ds, M, F, hm, b, d⟩ := c.ex
  refine ⟨fun pins s σ H Q I h => ?_⟩
  refine wpAny_Call_Name_kw (ld_glob I hg hm ?_ hdb)
  refine PySem.W.callWith_K (h₀ := X.base) I.ok.mod.kin M.kp (thn (ha.run pos pins s σ H _ I h) fun us s1 ⟨vs, H1, I1, r, q⟩ => ⟨I1.kIn, ?_⟩) hs hpl
  exact run_make (E := C8.E0) M F (hr.mono hk) b d pass0 I1 r fun y dx hy hdx ne => q y dx hy hdx ne
end
end L2
namespace E4
open PySem PySem.Spec PyProof.Rows L2
open C8 (Cal Mak Met InsC pe_c pe_mt pe_mt0 call_isC clsBody)
def sdD (x : Sd) : PyData := .tuple [.str x.1, .list (x.2.1.map PyData.str), .list (x.2.2.map PyData.str)]
theorem dp_sds {K : PySem.W.Frag} {H : Hp} {ts : List Addr} {xs : List Sd} (h : SdsAt H ts xs) : DpAll K H (ts.map V.ref) (xs.map sdD) := by
  unfold SdsAt at h
  induction h with
  | nil => exact .nil
  | cons r t ih =>
    obtain ⟨a, b, h1, h2, h3⟩ := r
    exact .cons (.tup (SqT.of h1) (.cons (.str _) (.cons (.lst (SqL.of h2) (dp_strs _)) (.cons (.lst (SqL.of h3) (dp_strs _)) .nil)))) ih
theorem canLay_sds : ∀ {xs : List Sd}, (∀ x ∈ xs, SdOk x) → PyData.canLayAll0 (xs.map sdD) = true
  | [], _ => rfl
  | x :: xs, h => by
    obtain ⟨h1, h2, h3, _, _⟩ := h x List.mem_cons_self
    have ih := canLay_sds (xs := xs) fun y hy => h y (List.mem_cons_of_mem _ hy)
    have c1 := canLay_strs x.2.1 fun z hz => strOk_of (h2 z hz)
    have c2 := canLay_strs x.2.2 fun z hz => strOk_of (h3 z hz)
    have c0 := strOk_of h1
    simp [sdD, PyData.canLayAll0, PyData.canLay0, c0, c1, c2, ih]
theorem depth_sds : ∀ xs : List Sd, PyData.depthAll (xs.map sdD) ≤ 3
  | [] => Nat.zero_le _
  | x :: xs => by
    have ih := depth_sds xs
    have d1 := depth_strs x.2.1
    have d2 := depth_strs x.2.2
    simp [sdD, PyData.depthAll, PyData.depth, d1, d2]
    try omega
theorem shaped_sds {xs : List Sd} (h : ∀ x ∈ xs, SdOk x) : SeqAt.shaped (.list (xs.map sdD)) = true := by
  have h1 : PyData.canLay0 (.list (xs.map sdD)) = true := by simpa [PyData.canLay0] using canLay_sds h
  have h2 : PyData.depth (.list (xs.map sdD)) ≤ 64 := by
    simp only [PyData.depth]
    have := depth_sds xs
    omega
  show (PyData.canLay0 _ && decide (PyData.depth _ ≤ 64)) = true
  rw [h1, decide_eq_true h2]
  rfl
/-- equal tables are equal -/
def spEq (C : Addr) : Sp := fun vs H Q _ => ∃ (a b : Addr) (ss : List Sd), vs = [.ref a, .ref b] ∧ PlAt C H a ss ∧ PlAt C H b ss ∧ SdsOk ss ∧ Q (.bl true) H
section
variable {P : Program} {w : World} {K : PySem.W.Frag} {mg : Str → Option Value} {base : Heap} {C : Addr}
theorem scEq : FnScope ["self", "other"] ["self", "other"] (defScope sEq) := ⟨rfl, rfl, rfl, by decide +kernel, rfl, by decide +kernel, by decide +kernel⟩
theorem ok_eq {f : Addr} {fd : FuncData} (F : Fun K "__eq__" "Plain.__eq__" sEq f fd) (B : Bl mg) (V : Cv K mg C) (T : Px P w K mg base C) : FnOk P w K mg base CX0 1 f fd ["self", "other"] (spEq C) := by
  refine F.ok scEq (fun vs H Q E h => ?_) (fun cdv A outer s H vs Q E hr h => ?_)
  · obtain ⟨a, b, ss, rfl, _⟩ := h
    rfl
  · obtain ⟨a, b, ss, rfl, ⟨dx, l, ts, ha, hl, hx⟩, ⟨dy, m, us, hb, hm, hy⟩, ok, k⟩ := h
    refine ⟨_, pss_one (ps_ret (pe_and (pe_callB (call_isC V.ins) (by rfl) B.isi (by decide +kernel) (pa_cons (pv 1) (pa_cons (pe_glob (v := .ref C) (by rfl) V.mgP rfl) pa_nil)))
      (pe_one (pe_cmpR (op_eqD hr.units) (pe_fld (pv 0) rfl) (pe_fld (pv 1) rfl) (by rfl))))), ?_⟩
    refine ⟨_, rfl, b, dy, _, rfl, hb, true, rfl, iteT (B := False) ?_⟩
    refine ⟨_, rfl, a, C, dx, _, _, rfl, ha, T.cl, T.na, rfl, _, rfl, b, C, dy, _, _, rfl, hb, T.cl, T.na, rfl, _, _, .lst (SqL.of hl) (dp_sds hx), .lst (SqL.of hm) (dp_sds hy), shaped_sds ok.ok, shaped_sds ok.ok, ?_⟩
    rw [SeqAt.eqv_refl _ (by simpa [PyData.canLay0] using canLay_sds ok.ok)]
    exact k
end
end E4

set_option Elab.async false
set_option linter.all false
set_option maxRecDepth 100000
set_option maxHeartbeats 1000000
/-! a def called beneath a comparison -/
namespace L2
open PySem PySem.Spec PyProof.Rows
section
variable {X : Cx}
end

end L2

set_option Elab.async false
set_option linter.all false
set_option maxRecDepth 100000
set_option maxHeartbeats 1000000
/-! a != b, tuples whose items are equal in this program and world (dicts among them) -/
namespace L2
open PySem PySem.Spec PyProof.Rows
open AutoSeq1 (wpAny_loadPart')
def EqIn (prog : Program) (w : World) (A : Around) (s : Shared) (x y : Value) : Prop := ∀ (E : Value → Shared → Prop) (Q : Bool → Shared → Prop), Q true s → wpAny (model prog w) A (eqBool x y) Q E s
theorem tuple_same {prog : Program} {w : World} (l b : Addr) (us vs : Array Value) (n1 n2 : Nat) (d1 d2 : Option Addr) (s1 s2 : Array (Option Value)) :
    MeetsIn prog w (Builtin.«tuple.__ne__» ⟨[.ref l, .ref b], []⟩)
      (fun A R s => s.heap.get? l = some { cls := .type "tuple", dict := d1, data := .seq us n1, slots := s1 } ∧ s.heap.get? b = some { cls := .type "tuple", dict := d2, data := .seq vs n2, slots := s2 } ∧
        us.size = vs.size ∧ (∀ p ∈ us.toList.zip vs.toList, EqIn prog w A.in1 s p.1 p.2) ∧ R (.ok (.ret (.bool false))) s) := by
  intro A R s h
  obtain ⟨hp, g, d, tk, os⟩ := s
  obtain ⟨hl, hb, hs, he, h⟩ := h
  have f2 := AutoSeq1.sub_tuple_tuple
  wp_walk using wpAny_loadPart' hl, wpAny_loadPart' hb, wpAny_forIn_list _ (fun rest r s' => r.1 = none ∧ s' = ⟨hp, g, d, tk, os⟩ ∧ ∀ p ∈ rest, EqIn prog w A.in1 ⟨hp, g, d, tk, os⟩ p.1 p.2) _
  case turn =>
    rintro ⟨y, x⟩ rest r s' ⟨hr, rfl, hall⟩
    refine wpAny_bind (hall _ List.mem_cons_self _ _ ?_)
    wp_walk
    exact ⟨rfl, rfl, fun p q => hall p (List.mem_cons_of_mem _ q)⟩
  case fin =>
    rintro ⟨r1, r2⟩ s' ⟨hr, rfl, _⟩
    simp only at hr
    subst hr
    wp_walk
    simpa [Builtin.Tuple.tupleCompareSizes, hs] using h
  case h => exact ⟨rfl, rfl, he⟩
/-- two tuples of one length whose items are equal -/
theorem ne_same {prog : Program} {w : World} {A : Around} {E : Value → Shared → Prop} {s : Shared} {l b : Addr} {us vs : Array Value} {Q : Value → Shared → Prop} (hl : s.heap.IsTuple l us) (hb : s.heap.IsTuple b vs) (hu : A.units < cLine) (hs : us.size = vs.size)
    (he : ∀ p ∈ us.toList.zip vs.toList, EqIn prog w A.in1 s p.1 p.2) (h : Q (.bool false) s) : wpAny (model prog w) A (compareOp .NotEq (.ref l) (.ref b)) Q E s := by
  obtain ⟨⟨c1, d1, t1, s1⟩, ho, hc, n1, hd⟩ := id hl
  obtain ⟨⟨c2, d2, t2, s2⟩, ho2, hc2, n2, hd2⟩ := id hb
  simp only at hc hd hc2 hd2
  subst hc hd hc2 hd2
  exact wpAny_richCompare_same_room (op := .NotEq) ⟨_, ho, rfl⟩ ⟨_, ho2, rfl⟩ F.slot_tuple_ne (call_meetsIn F.slot_tuple_ne ⟨_, ho, rfl⟩ F.entry_tuple_ne (F.args_tuple_ne_2 _ _) (tuple_same l b us vs n1 n2 d1 d2 s1 s2)
    ⟨ho, ho2, hs, he, show Value.bool false ≠ Value.notImplemented ∧ Q (.bool false) s from ⟨(fun x => nomatch x), h⟩⟩) hu
theorem EqIn.of {prog : Program} {w : World} {A : Around} {s : Shared} {x y : Value} (h : SeqAt.EqAt A s x y true) : EqIn prog w A s x y := fun E Q q => h prog w E Q q
/-- two dicts -/
theorem EqIn.refs {prog : Program} {w : World} {A : Around} {s : Shared} {a b : Addr} (h : ∀ (E : Value → Shared → Prop) (Q : Value → Shared → Prop), Q (.bool true) s → wpAny (model prog w) A (compareOp .Eq (.ref a) (.ref b)) Q E s) : EqIn prog w A s (.ref a) (.ref b) := fun E Q q => by
  by_cases e : a = b
  · subst e
    exact SeqAt.EqAt.same (.ref a) prog w E Q q
  · unfold eqBool
    refine wpAny_holding ?_
    refine wpAny_ite_split (fun c => absurd (by have := eq_of_beq c; injection this) e) (fun _ => ?_)
    exact wpAny_bind (h E _ (wpAny_truthy_bool q))
end L2

set_option Elab.async false
set_option linter.all false
set_option maxRecDepth 100000
set_option maxHeartbeats 1000000
/-! a != b: tuples of data and of dicts, the items equal one by one -/
namespace L2
open PySem PySem.Spec PyProof.Rows
/-- equal data, or dicts with equal entries -/
inductive SamV (K : PySem.W.Frag) (H : Hp) : V → V → Prop where
  | dat {x y : V} {d : PyData} (hx : Dp K H x d) (hy : Dp K H y d) (hl : PyData.canLay0 d = true) (hd : PyData.depth d ≤ 16) : SamV K H x y
  | dict {a b : Addr} {ks ls : List (Key × V)} (ha : H a = some (.dK ks)) (hb : H b = some (.dK ls)) (hn : ks.length = ls.length) (hp : ∀ p ∈ ks, valV ls p.1 = some p.2 ∧ flatB p.2 = true) : SamV K H (.ref a) (.ref b)
def rNeTD (K : PySem.W.Frag) : R2 := fun x y H Q => ∃ (a b : Addr) (xs ys : List V), x = .ref a ∧ y = .ref b ∧ SqT K H a xs ∧ SqT K H b ys ∧ Paired (SamV K H) xs ys ∧ Q (.bl false) H
section
variable {X : Cx}
theorem samV_eq {pins : List (Addr × Obj)} {σ : St} {H : Hp} {s : Shared} (I : Inv X pins σ H s) (hu : X.A.in1.units + 16 < cLine) {x y : V} {u v : Value} (h : SamV X.K H x y) (rx : RelV x u) (ry : RelV y v) : EqIn X.prog X.w X.A.in1 s u v := by
  cases h with
  | dat hx hy hl hd =>
    obtain ⟨as, r1⟩ := Dp.reads I _ _ _ hx rx
    obtain ⟨bs, r2⟩ := Dp.reads I _ _ _ hy ry
    have e := SeqAt.eqAt_reads _ _ X.A.in1 s u v as bs r1 r2 hl hl (by omega)
    rw [SeqAt.eqv_refl _ hl] at e
    exact .of e
  | dict ha hb hn hp =>
    cases rx
    cases ry
    obtain ⟨_, ya, va, ra, da⟩ := (show ObjOk X.prog X.w H s.heap _ (.dK _) from I.hok _ _ ha)
    obtain ⟨_, yb, vb, rb, db⟩ := (show ObjOk X.prog X.w H s.heap _ (.dK _) from I.hok _ _ hb)
    have hl : va.length = vb.length := by rw [← ra.length, ← rb.length]; exact hn
    refine .refs fun E Q q => PySem.W.keq_eq (knd := mixKind X.prog X.w) (r := true) ya yb da db (by omega) (fun _ => hits_all rb ra hp) ?_
    rw [hl]
    simpa using q
theorem zip_same {pins : List (Addr × Obj)} {σ : St} {H : Hp} {s : Shared} (I : Inv X pins σ H s) (hu : X.A.in1.units + 16 < cLine) : ∀ {xs ys : List V} {us vs : List Value}, Vals xs us → Vals ys vs → Paired (SamV X.K H) xs ys → ∀ p ∈ us.zip vs, EqIn X.prog X.w X.A.in1 s p.1 p.2
  | _, _, _, _, .nil, _, _, p, hp => absurd hp (by simp)
  | _, _, _, _, .cons rx tx, .cons ry ty, .cons h t, p, hp => by
    rw [List.zip_cons_cons] at hp
    rcases List.mem_cons.mp hp with rfl | hp
    · exact samV_eq I hu h rx ry
    · exact zip_same I hu tx ty t p hp
theorem op_neTD (hu : X.A.in1.units + 16 < cLine) (hv : X.A.units < cLine) : OpR X (compareOp .NotEq) (rNeTD X.K) := by
  intro pins s σ H x y v u Q I rx ry h
  obtain ⟨a, b, xs, ys, rfl, rfl, h1, h2, hp, q⟩ := h
  cases rx
  cases ry
  obtain ⟨its, r1, t1, _⟩ := I.tuple h1
  obtain ⟨its2, r2, t2, _⟩ := I.tuple h2
  have hs : its.toArray.size = its2.toArray.size := by rw [List.size_toArray, List.size_toArray, ← r1.length, ← r2.length]; exact hp.length
  exact ne_same t1 t2 hv hs (fun p hp2 => zip_same I hu r1 r2 hp p (by simpa using hp2)) ⟨.bl false, H, I, rfl, q⟩
/-- None and None, or such tuples, or data -/
def rNeA (K : PySem.W.Frag) : R2 := fun x y H Q => (x = .non ∧ y = .non ∧ Q (.bl false) H) ∨ rNeTD K x y H Q ∨ rNeD K x y H Q
theorem op_neA {k : Nat} (hr : Room k X.A) : OpR X (compareOp .NotEq) (rNeA X.K) := by
  intro pins s σ H x y v u Q I rx ry h
  have un := hr.un
  rcases h with ⟨rfl, rfl, q⟩ | h | h
  · exact op_ne pins s σ H .non .non v u Q I rx ry ⟨rfl, by simpa using q⟩
  · exact op_neTD (by show X.A.units + 1 + 16 < cLine; omega) (by omega) pins s σ H x y v u Q I rx ry h
  · exact op_neD hr.units pins s σ H x y v u Q I rx ry h
end
end L2

set_option Elab.async false
set_option linter.all false
set_option maxRecDepth 100000
set_option maxHeartbeats 1000000
/-! a != b, two equal tables -/
namespace E4
open PySem PySem.Spec PyProof.Rows L2
open C8 (Cal Mak Met InsC pe_c pe_mt pe_mt0 call_isC clsBody)
/-- what != of two tables leans on -/
structure EqP (P : Program) (w : World) (K : PySem.W.Frag) (mg : Str → Option Value) (base : Heap) (k : Nat) (C : Addr) : Prop where
  ex : ∃ (f : Addr) (fd : FuncData) (ps : List Str), PySem.W.NoNe K C f ∧ FnOk P w K mg base CX0 k f fd ps (spEq C) ∧ Binds K fd ps []
def rNeP (C : Addr) : R2 := fun x y H Q => ∃ a b ss, x = .ref a ∧ y = .ref b ∧ PlAt C H a ss ∧ PlAt C H b ss ∧ SdsOk ss ∧ Q (.bl false) H
theorem op_neP {X : Cx} {C : Addr} {k j : Nat} (O : EqP X.prog X.w X.K X.mg X.base k C) (hr : Room j X.A) (hk : k + 1 ≤ j) : OpR X (compareOp .NotEq) (rNeP C) := by
  obtain ⟨f, fd, ps, N, F, hb⟩ := O.ex
  intro pins s σ H x y v u Q I rx ry h
  obtain ⟨a, b, ss, rfl, rfl, ha, hb2, ok, q⟩ := h
  obtain rfl : v = Value.ref a := rx
  obtain rfl : u = Value.ref b := ry
  obtain ⟨dx, l, ts, ea, _⟩ := id ha
  obtain ⟨dy, m, us, eb, _⟩ := id hb2
  obtain ⟨ox, od, J⟩ := inst_of I ea
  obtain ⟨oy, oe, J2⟩ := inst_of I eb
  have hrk : Room (k + 1) X.A := hr.mono hk
  have sb : SubA X k X.A.in1 := ⟨hrk.in1, rfl⟩
  refine PySem.W.ne_K (A := X.A) (Nat.lt_of_le_of_lt (Nat.add_le_add_left (by decide : 1 ≤ 64) _) hrk.units) I.kIn J J2.type N ?_
  refine thn (run_sub (Q := fun v H' => v = .bl true ∧ H' = H) (vs := [V.ref a, V.ref b]) sb F hb I (.cons rfl (.cons rfl .nil)) ⟨a, b, ss, rfl, ha, hb2, ok, rfl, rfl⟩) fun r s' z => ?_
  obtain ⟨z, H', I', rz, rfl, rfl⟩ := z
  obtain rfl : r = Value.bool true := rz
  exact ⟨true, rfl, .bl false, H', I', rfl, q⟩
end E4

set_option Elab.async false
set_option linter.all false
set_option maxRecDepth 100000
set_option maxHeartbeats 1000000
/-! the draws of stage 3's laws: _law_purse, _law_mixed, _law_draw -/
namespace E3
open PySem PySem.Spec PyProof.Rows L2
open C8 (Cal Mak Met InsC pe_c pe_mt pe_mt0 call_isC clsBody)
def top (i : Nat) : Stmt := PySem.Challenge.pw_cellplaces_k65_moves_by_name.main.body.getD i (.Pass ⟨0, 0, 0, 0⟩)
abbrev sPurse : Stmt := top 52
abbrev sMixed : Stmt := top 53
abbrev sDraw : Stmt := top 54
abbrev sLaw : Stmt := top 60
structure Bt4 (mg : Str → Option Value) : Prop where
  sum_ : mg "sum" = none
  max_ : mg "max" = none
  rng_ : mg "range" = none
  len_ : mg "len" = none
/-- a purse, with so many draws left -/
def PurseAt (H : Hp) (a : Addr) (n : Nat) : Prop := ∃ p0 p1 p2 : Int, H a = some (.lst [.int p0, .int p1, .int p2]) ∧ 0 ≤ p0 ∧ p0 < 10 ^ 480 ∧ 0 ≤ p1 ∧ p1 < 2 ^ 31 ∧ 0 ≤ p2 ∧ p2 + n ≤ 2 ^ 60
theorem PurseAt.same {H H' : Hp} {a : Addr} {n : Nat} (h : PurseAt H a n) (S : Same H H') : PurseAt H' a n :=
  let ⟨p0, p1, p2, h1, h2⟩ := h
  ⟨p0, p1, p2, S _ _ h1, h2⟩
theorem PurseAt.less {H : Hp} {a : Addr} {n m : Nat} (h : PurseAt H a n) (l : m ≤ n) : PurseAt H a m :=
  let ⟨p0, p1, p2, h1, h2, h3, h4, h5, h6, h7⟩ := h
  ⟨p0, p1, p2, h1, h2, h3, h4, h5, h6, by omega⟩
def spPurse (K : PySem.W.Frag) : Sp := fun vs H Q _ => ∃ (sc : Addr) (i : Int) (ns : List Int), vs = [.ref sc, .int i] ∧ SqL K H sc (ns.map V.int) ∧ 0 ≤ i ∧ i < 100 ∧ ∀ H' p, Same H H' → H p = none → PurseAt H' p (2 ^ 59) → Q (.ref p) H'
def spMixed : Sp := fun vs H Q _ => ∃ a b : Int, vs = [.int a, .int b] ∧ 0 ≤ a ∧ a < 2 ^ 31 ∧ 0 ≤ b ∧ b < 2 ^ 61 ∧ ∀ r : Int, 0 ≤ r → r < 2147483587 → Q (.int r) H
def spDraw : Sp := fun vs H Q _ => ∃ (a : Addr) (many : Int) (n : Nat), vs = [.ref a, .int many] ∧ PurseAt H a (n + 4) ∧ 1 ≤ many ∧ many < 2 ^ 100 ∧ ∀ r H', 0 ≤ r → r < many → PurseAt H' a n → SameB a H H' → Q (.int r) H'
theorem bits_100 {m : Int} (h0 : 1 ≤ m) (h : m < 2 ^ 100) : Builtin.Int.intBits m ≤ 100 := by
  unfold Builtin.Int.intBits
  rw [if_neg (by intro e; have := eq_of_beq e; omega)]
  have h1 : m.natAbs < 2 ^ 100 := by
    have e : ((m.natAbs : Nat) : Int) = m := Int.natAbs_of_nonneg (by omega)
    have : ((m.natAbs : Nat) : Int) < ((2 ^ 100 : Nat) : Int) := by rw [e]; exact_mod_cast h
    exact Int.ofNat_lt.mp this
  have := PySem.Flt.log2_lt_of (by decide) h1
  omega
section
variable {P : Program} {w : World} {K : PySem.W.Frag} {mg : Str → Option Value} {base : Heap}
theorem scPurse : FnScope ["_law_script", "_law_at", "_law_cell"] ["_law_script", "_law_at"] (defScope sPurse) := ⟨rfl, rfl, rfl, by decide +kernel, rfl, by decide +kernel, by decide +kernel⟩
theorem ok_purse {f : Addr} {fd : FuncData} (F : Fun K "_law_purse" "_law_purse" sPurse f fd) (B : Bt4 mg) : FnOk P w K mg base CX0 1 f fd ["_law_script", "_law_at"] (spPurse K) := by
  refine F.ok scPurse (fun vs H Q E h => ?_) (fun cdv A outer s H vs Q E hr h => ?_)
  · obtain ⟨sc, i, ns, rfl, _⟩ := h
    rfl
  · obtain ⟨sc, i, ns, rfl, hs, i0, i1, k⟩ := h
    refine ⟨_, pss_cons (ps_set (i := 2) scPurse.nd rfl (Or.inl rfl) (pe_callB (cr_sum rfl) (by rfl) B.sum_ (by decide +kernel) (pa_cons (pe_slice sl_listS (pv 0) (po_some (pv 1)) (po_some (pe_op op_add (pv 1) pe_int))) pa_nil)))
      (pss_one (ps_ret (pe_lstS (pa_cons (pe_op op_mod (pe_callB (call_max2 rfl) (by rfl) B.max_ (by decide +kernel) (pa_cons (pe_op op_sub (pv 2) (pe_op op_pow pe_int pe_int)) (pa_cons pe_int pa_nil))) (pe_op op_powX (pe_op op_pow pe_int pe_int) pe_int))
        (pa_cons (pe_op op_mod (pv 2) pe_int) (pa_cons (pe_op op_mul pe_int (pv 1)) pa_nil)))))), ?_⟩
    obtain ⟨ms, hms⟩ := cut_ints ns (some i) (some (i + 1))
    refine ⟨_, rfl, _, rfl, i, rfl, _, rfl, i, 1, rfl, rfl, i + 1, rfl, sc, _, rfl, hs, fun pc H1 S1 n1 h1 => ?_⟩
    rw [hms] at h1
    refine ⟨pc, ms, rfl, SqL.of h1, ?_⟩
    have c1 : CPow 10 18 := ⟨by decide, by decide, by decide⟩
    have c2 : CPow 10 60 := ⟨by decide, by decide, by decide⟩
    have c3 : CPowX ((10 : Int) ^ (60 : Int).toNat) 8 := ⟨by decide, by decide +kernel⟩
    refine ⟨_, rfl, 10, 18, rfl, rfl, c1, _, _, rfl, rfl, _, _, rfl, ?_⟩
    refine ⟨10, 60, rfl, rfl, c2, _, 8, rfl, rfl, c3, _, _, rfl, rfl, (show (0 : Int) < ((10 : Int) ^ (60 : Int).toNat) ^ (8 : Int).toNat by decide +kernel), ?_⟩
    refine ⟨_, rfl, _, _, rfl, rfl, (show (0 : Int) < 2147483629 by decide), _, rfl, _, _, rfl, rfl, .inl (by constructor <;> decide), (by show 3 ≤ sizeLine; decide), fun p H2 S2 np hp => ?_⟩
    refine k H2 p (S1.trans S2) (S1.free np) ⟨_, _, _, hp, Int.emod_nonneg _ (by decide +kernel), ?_, Int.emod_nonneg _ (by decide), ?_, by omega, by omega⟩
    · have e : ((10 : Int) ^ (60 : Int).toNat) ^ (8 : Int).toNat = 10 ^ 480 := by decide +kernel
      rw [e]
      exact Int.emod_lt_of_pos _ (by decide +kernel)
    · exact Int.lt_trans (Int.emod_lt_of_pos _ (by decide)) (by decide)
theorem scMixed : FnScope ["_law_seed", "_law_step", "_law_found"] ["_law_seed", "_law_step"] (defScope sMixed) := ⟨rfl, rfl, rfl, by decide +kernel, rfl, by decide +kernel, by decide +kernel⟩
theorem ok_mixed {f : Addr} {fd : FuncData} (F : Fun K "_law_mixed" "_law_mixed" sMixed f fd) : FnOk P w K mg base CX0 1 f fd ["_law_seed", "_law_step"] spMixed := by
  refine F.ok scMixed (fun vs H Q E h => ?_) (fun cdv A outer s H vs Q E hr h => ?_)
  · obtain ⟨a, b, rfl, _⟩ := h
    rfl
  · obtain ⟨a, b, rfl, a0, a1, b0, b1, k⟩ := h
    refine ⟨_, pss_cons (ps_set (i := 2) scMixed.nd rfl (Or.inl rfl) (pe_op op_mod (pe_op op_add (pe_op op_add (pe_op op_mul (pv 0) pe_int) (pe_op op_mul (pe_op op_mul pe_int (pv 1)) (pv 1))) (pv 1)) pe_int))
      (pss_cons (ps_set (i := 2) scMixed.nd rfl (Or.inl rfl) (pe_op op_mod (pe_op op_add (pe_op op_mul (pv 2) (pv 2)) pe_int) pe_int))
      (pss_one (ps_ret (pe_op op_mod (pe_op op_mul (pv 2) pe_int) pe_int)))), ?_⟩
    refine ⟨_, rfl, _, _, rfl, rfl, .inr (by constructor <;> decide), _, rfl, _, _, rfl, rfl, .inl (by constructor <;> decide), _, rfl, _, _, rfl, rfl, .inr ⟨by omega, by omega⟩, _, _, rfl, rfl, _, rfl, _, _, rfl, rfl, _, _, rfl, rfl, (show (0 : Int) < 2147483647 by decide), ?_⟩
    generalize hm : (a * 69069 + 104729 * b * b + b) % 2147483647 = m
    have m0 : 0 ≤ m := hm ▸ Int.emod_nonneg _ (by decide)
    have m1 : m < 2147483647 := hm ▸ Int.emod_lt_of_pos _ (by decide)
    refine ⟨_, rfl, _, rfl, _, _, rfl, rfl, .inr ⟨by omega, by omega⟩, _, _, rfl, rfl, _, _, rfl, rfl, (show (0 : Int) < 2147483629 by decide), ?_⟩
    refine ⟨_, rfl, _, _, rfl, rfl, .inr (by constructor <;> decide), _, _, rfl, rfl, (show (0 : Int) < 2147483587 by decide), ?_⟩
    exact k _ (Int.emod_nonneg _ (by decide)) (Int.emod_lt_of_pos _ (by decide))
theorem scDraw : FnScope ["_law_purse_here", "_law_many", "_law_drawn", "_law_found", "_law_piece"] ["_law_purse_here", "_law_many"] (defScope sDraw) := ⟨rfl, rfl, rfl, by decide +kernel, rfl, by decide +kernel, by decide +kernel⟩
theorem ok_draw {f : Addr} {fd : FuncData} (F : Fun K "_law_draw" "_law_draw" sDraw f fd) (B : Bt4 mg) (M : Cal P w K mg base 1 "_law_mixed" spMixed []) : FnOk P w K mg base CX0 2 f fd ["_law_purse_here", "_law_many"] spDraw := by
  refine F.ok scDraw (fun vs H Q E h => ?_) (fun cdv A outer s H vs Q E hr h => ?_)
  · obtain ⟨a, many, n, rfl, _⟩ := h
    rfl
  · obtain ⟨a, many, n, rfl, ⟨p0, p1, p2, hp, a0, a1, b0, b1, c0, c1⟩, m1, m2, k⟩ := h
    refine ⟨_, pss_cons (ps_if (pt_cmpR op_gt (pe_ix ix_list (pv 0) pe_int (fun _ _ => rfl)) pe_int (by rfl))
        (pss_cons (ps_set (i := 2) scDraw.nd rfl (Or.inl rfl) (pe_op op_mod (pe_ix ix_list (pv 0) pe_int (fun _ _ => rfl)) (pv 1)))
        (pss_cons (ps_asg (pe_op op_fdivW (pe_ix ix_list (pv 0) pe_int (fun _ _ => rfl)) (pv 1)) (pg_sub (pv 0) pe_int set_list))
        (pss_one (ps_ret (pv 2))))) pss_nil)
      (pss_cons (ps_set (i := 3) scDraw.nd rfl (Or.inl rfl) pe_int)
      (pss_cons (ps_for PassesOwn.never rfl (pi_range1 rfl B.rng_ (pa_cons (pe_op op_add pe_int (pe_op op_fdiv (pe_bits (pv 1)) pe_int)) pa_nil)) (pg_name (i := 4) scDraw.nd rfl (Or.inl rfl))
        (pss_cons (ps_asg (pe_op op_add (pe_ix ix_list (pv 0) pe_int (fun _ _ => rfl)) pe_int) (pg_sub (pv 0) pe_int set_list))
        (pss_one (ps_set (i := 3) scDraw.nd rfl (Or.inl rfl) (pe_op op_add (pe_op op_mul (pv 3) pe_int) (pe_c M hr (by decide) rfl (pa_cons (pe_ix ix_list (pv 0) pe_int (fun _ _ => rfl)) (pa_cons (pe_ix ix_list (pv 0) pe_int (fun _ _ => rfl)) pa_nil))))))))
      (pss_one (ps_ret (pe_op op_mod (pv 3) (pv 1)))))), ?_⟩
    have ml : CDivW p0 many := by
      refine ⟨by omega, ?_⟩
      have h1 := bits_100 m1 m2
      unfold Builtin.Int.intBits at h1
      rw [if_neg (by intro e; have := eq_of_beq e; omega)] at h1
      omega
    refine ⟨_, rfl, a, _, 0, _, rfl, rfl, SqL.of hp, rfl, _, _, rfl, rfl, _, rfl, iteD (fun h => ?_) (fun h => ?_)⟩
    · refine ⟨_, rfl, a, _, 0, _, rfl, rfl, SqL.of hp, rfl, _, rfl, _, _, rfl, rfl, (show 0 < many by omega), ?_⟩
      refine ⟨_, rfl, a, _, 0, _, rfl, rfl, SqL.of hp, rfl, _, rfl, _, _, rfl, rfl, ml, _, rfl, a, _, 0, 0, rfl, rfl, hp, rfl, ?_⟩
      refine ⟨_, rfl, k _ _ (Int.emod_nonneg _ (by omega)) (Int.emod_lt_of_pos _ (by omega)) ⟨p0 / many, p1, p2, upd_same, Int.ediv_nonneg a0 (by omega), Int.lt_of_le_of_lt (Int.ediv_le_self _ a0) a1, b0, b1, c0, by omega⟩ fun c o nc e => by rw [upd_ne nc]; exact e⟩
    · dsimp only [tNext]
      refine seq_asg ?_
      dsimp only [tC]
      have bb := bits_100 m1 m2
      have jn : ((1 + ((Builtin.Int.intBits many : Nat) : Int) / 28)).toNat ≤ 4 := by omega
      refine ⟨_, rfl, many, rfl, _, 28, rfl, rfl, (by constructor <;> decide), _, _, rfl, rfl, _, rfl, ?_⟩
      refine ⟨by omega, by omega, for_it (walk_range (n := (1 + ((Builtin.Int.intBits many : Nat) : Int) / 28).toNat)) (fun i σ' H' => (∃ fnd v, σ' = [some (.ref a), some (.int many), none, some (.int fnd), v]) ∧ SameB a H H' ∧ H' a = some (.lst [.int p0, .int p1, .int (p2 + (i : Nat))])) ⟨⟨0, none, rfl⟩, SameB.refl _ _, by rw [hp]; simp⟩ (fun _ _ _ _ _ => trivial) ?_ ?_⟩
      · rintro i x σ' H1 H2 hi ⟨⟨fnd, v, rfl⟩, S, hp'⟩ ⟨rfl, rfl⟩
        have hi4 : i < 4 := Nat.lt_of_lt_of_le hi jn
        refine ⟨_, rfl, a, _, 2, _, rfl, rfl, SqL.of hp', rfl, _, _, rfl, rfl, _, rfl, a, _, 2, 2, rfl, rfl, hp', rfl, ?_⟩
        have hq : (upd H2 a (.lst [.int p0, .int p1, .int (p2 + (i : Nat) + 1)])) a = some (.lst [.int p0, .int p1, .int (p2 + (i : Nat) + 1)]) := upd_same
        have sq : SqL K (upd H2 a (.lst [.int p0, .int p1, .int (p2 + (i : Nat) + 1)])) a [.int p0, .int p1, .int (p2 + (i : Nat) + 1)] := SqL.of hq
        refine ⟨_, rfl, _, _, rfl, rfl, .inr (by constructor <;> decide), _, rfl, a, _, 1, _, rfl, rfl, sq, rfl, _, rfl, a, _, 2, _, rfl, rfl, sq, rfl, p1, p2 + (i : Nat) + 1, rfl, b0, b1, by omega, by omega, fun r r0 r1 => ⟨_, _, rfl, rfl, ⟨_, _, rfl⟩, S.upd, ?_⟩⟩
        rw [upd_same]
        have e : p2 + ((i + 1 : Nat) : Int) = p2 + (i : Nat) + 1 := by omega
        rw [e]
        rfl
      · rintro σ' H1 ⟨⟨fnd, v, rfl⟩, S, hp'⟩
        dsimp only
        exact ⟨_, rfl, _, rfl, _, _, rfl, rfl, (show 0 < many by omega), k _ _ (Int.emod_nonneg _ (by omega)) (Int.emod_lt_of_pos _ (by omega)) ⟨p0, p1, _, hp', a0, a1, b0, b1, by omega, by omega⟩ S⟩
end
end E3

set_option Elab.async false
set_option linter.all false
set_option maxRecDepth 100000
set_option maxHeartbeats 1000000
/-! the law's draws: one of, shuffled, letters, names -/
namespace E4
open PySem PySem.Spec PyProof.Rows L2
open C8 (Cal Mak Met InsC pe_c pe_mt pe_mt0 call_isC clsBody)
open E3 (PurseAt spPurse spMixed spDraw)
abbrev sOneOf : Stmt := top 55
abbrev sShuffled : Stmt := top 56
abbrev sLetters : Stmt := top 57
abbrev sNamesL : Stmt := top 58
theorem purse_ne {K : PySem.W.Frag} {H : Hp} {p a : Addr} {n : Nat} {xs : List Str} (h : PurseAt H p n) (hl : H a = some (.lst (xs.map V.str))) : a ≠ p := by
  obtain ⟨p0, p1, p2, e, _⟩ := h
  rintro rfl
  rw [e] at hl
  cases xs with
  | nil => cases hl
  | cons x r =>
    have z := HO.lst.inj (Option.some.inj hl)
    cases (List.cons.inj z).1
def spOneOf (K : PySem.W.Frag) : Sp := fun vs H Q _ => ∃ (a l : Addr) (xs : List V) (n : Nat), vs = [.ref a, .ref l] ∧ PurseAt H a (n + 4) ∧ SqL K H l xs ∧ l ≠ a ∧ 1 ≤ xs.length ∧ xs.length ≤ 1000 ∧
  ∀ (i : Nat) (x : V) (H' : Hp), xs[i]? = some x → PurseAt H' a n → SameB a H H' → Q x H'
def spShuf (K : PySem.W.Frag) : Sp := fun vs H Q _ => ∃ (a l : Addr) (xs : List Str) (n : Nat), vs = [.ref a, .ref l] ∧ PurseAt H a (n + 4 * xs.length) ∧ H l = some (.lst (xs.map V.str)) ∧ xs.length ≤ 2000 ∧
  ∀ (ys : List Str) q H', ys.Perm xs → H' q = some (.lst (ys.map V.str)) → H q = none → PurseAt H' a n → SameB a H H' → Q (.ref q) H'
section
variable {P : Program} {w : World} {K : PySem.W.Frag} {mg : Str → Option Value} {base : Heap}
theorem atI_some {xs : List V} {r : Int} (h0 : 0 ≤ r) (h1 : r < xs.length) : ∃ x, atI xs r = some x ∧ xs[r.toNat]? = some x := by
  have hx : xs[r.toNat]? = some xs[r.toNat] := List.getElem?_eq_getElem (by omega)
  refine ⟨_, ?_, hx⟩
  unfold atI ixN
  rw [if_pos h0, if_pos h1]
  exact hx
theorem scOneOf : FnScope ["_law_purse_here", "_law_some"] ["_law_purse_here", "_law_some"] (defScope sOneOf) := ⟨rfl, rfl, rfl, by decide +kernel, rfl, by decide +kernel, by decide +kernel⟩
theorem ok_oneOf {f : Addr} {fd : FuncData} (F : Fun K "_law_one_of" "_law_one_of" sOneOf f fd) (B : Bl mg) (D : Cal P w K mg base 2 "_law_draw" spDraw []) : FnOk P w K mg base CX0 3 f fd ["_law_purse_here", "_law_some"] (spOneOf K) := by
  refine F.ok scOneOf (fun vs H Q E h => ?_) (fun cdv A outer s H vs Q E hr h => ?_)
  · obtain ⟨a, l, xs, n, rfl, _⟩ := h
    rfl
  · obtain ⟨a, l, xs, n, rfl, hp, hl, ne, l1, l2, k⟩ := h
    refine ⟨_, pss_one (ps_ret (pe_ix ix_list (pv 1) (pe_c D hr (by decide) rfl (pa_cons (pv 0) (pa_cons (pe_callB call_len_seq (by rfl) B.len_ PySem.boot_len (pa_cons (pv 1) pa_nil)) pa_nil))) (fun _ _ => rfl))), ?_⟩
    refine ⟨_, rfl, _, rfl, _, rfl, l, xs, rfl, .inl hl, a, (xs.length : Int), n, rfl, hp, by omega, by omega, fun r H1 r0 r1 hp1 S1 => ?_⟩
    obtain ⟨x, e1, e2⟩ := atI_some r0 r1
    exact ⟨l, xs, r, x, rfl, rfl, hl.sameB S1 ne, e1, k _ _ _ e2 hp1 S1⟩
theorem scShuf : FnScope ["_law_purse_here", "_law_some", "_law_found", "_law_item"] ["_law_purse_here", "_law_some"] (defScope sShuffled) := ⟨rfl, rfl, rfl, by decide +kernel, rfl, by decide +kernel, by decide +kernel⟩
theorem ok_shuf {f : Addr} {fd : FuncData} (F : Fun K "_law_shuffled" "_law_shuffled" sShuffled f fd) (B : Bl mg) (D : Cal P w K mg base 2 "_law_draw" spDraw []) : FnOk P w K mg base CX0 3 f fd ["_law_purse_here", "_law_some"] (spShuf K) := by
  refine F.ok scShuf (fun vs H Q E h => ?_) (fun cdv A outer s H vs Q E hr h => ?_)
  · obtain ⟨a, l, xs, n, rfl, _⟩ := h
    rfl
  · obtain ⟨a, l, xs, n, rfl, hp, hl, l2, k⟩ := h
    refine ⟨_, pss_cons (ps_set (i := 2) scShuf.nd rfl (Or.inl rfl) (pe_lstS pa_nil))
      (pss_cons (ps_for PassesOwn.never rfl (pi_list (pv 1)) (pg_name (i := 3) scShuf.nd rfl (Or.inl rfl))
        (pss_one (ps_expr (pe_bm PySem.F.plainAttrs_list PySem.F.slot_list_insert PySem.F.type_list_insert mt_insert (pv 2) (pa_cons (pe_c D hr (by decide) rfl (pa_cons (pv 0) (pa_cons (pe_op op_add (pe_callB call_len_seq (by rfl) B.len_ PySem.boot_len (pa_cons (pv 2) pa_nil)) pe_int) pa_nil))) (pa_cons (pv 3) pa_nil))))))
      (pss_one (ps_ret (pv 2)))), ?_⟩
    refine seq_asg ⟨by show 0 ≤ sizeLine; decide, fun d0 H1 S1 n1 h1 => ?_⟩
    have nla : l ≠ a := purse_ne (K := K) hp hl
    have nda : d0 ≠ a := by
      obtain ⟨p0, p1, p2, e, _⟩ := hp
      exact (ne_of_none e n1).symm
    have ndl : l ≠ d0 := ne_of_none hl n1
    refine ⟨_, rfl, l, rfl, ⟨_, SqL.of (S1 _ _ hl)⟩, for_it (walk_list (xs := xs.map V.str)) (fun i σ' H' => ∃ u ys, σ' = [some (.ref a), some (.ref l), some (.ref d0), u] ∧ ys.Perm (xs.take i) ∧ H' d0 = some (.lst (ys.map V.str)) ∧ PurseAt H' a (n + 4 * (xs.length - i)) ∧ ∀ c o, c ≠ a → c ≠ d0 → H1 c = some o → H' c = some o) ⟨none, [], rfl, List.Perm.refl _, h1, (hp.same S1), fun _ _ _ _ e => e⟩ (fun i σ' H' _ q => let ⟨_, _, _, _, _, _, S⟩ := q; SqL.of (S _ _ nla ndl (S1 _ _ hl))) ?_ ?_⟩
    · rintro i v σ' H2 H3 hi ⟨u, ys, rfl, pm, hd, hpu, S2⟩ ⟨rfl, hxi⟩
      rw [List.length_map] at hi
      rw [List.getElem?_map] at hxi
      obtain ⟨z, hz, rfl⟩ := Option.map_eq_some_iff.mp hxi
      have ly : ys.length = i := by rw [pm.length_eq, List.length_take]; omega
      refine ⟨_, rfl, .inl ⟨rfl, _, SqL.of hd⟩, ?_⟩
      have lm : (ys.map V.str).length = i := by rw [List.length_map, ly]
      refine ⟨_, rfl, _, rfl, d0, _, rfl, .inl (SqL.of hd), _, _, rfl, rfl, a, _, n + 4 * (xs.length - (i + 1)), rfl, hpu.less (by omega), by omega, by rw [lm]; omega, fun r H4 r0 r1 hp4 S4 => ?_⟩
      have hd4 := S4 _ _ nda hd
      refine ⟨_, rfl, d0, _, r, _, rfl, rfl, hd4, by rw [lm, sizeLine_eq]; omega, r0, by rw [lm] at r1; omega, ?_⟩
      refine ⟨_, ys.take r.toNat ++ [z] ++ ys.drop r.toNat, rfl, ?_, ?_, ?_, fun c o nc nd e => ?_⟩
      · rw [take_snoc hz]
        refine List.Perm.trans ?_ (pm.append_right [z])
        rw [List.append_assoc]
        refine List.perm_middle.trans ?_
        show (z :: (List.take r.toNat ys ++ List.drop r.toNat ys)).Perm (ys ++ [z])
        rw [List.take_append_drop]
        exact (List.perm_append_comm (l₁ := [z]) (l₂ := ys))
      · rw [upd_same, List.map_append, List.map_append, List.map_take, List.map_drop]
        rfl
      · obtain ⟨p0, p1, p2, e, r⟩ := hp4
        exact ⟨p0, p1, p2, by rw [upd_ne (Ne.symm nda)]; exact e, r⟩
      · rw [upd_ne nd]
        exact S4 _ _ nc (S2 _ _ nc nd e)
    · rintro σ' H2 ⟨u, ys, rfl, pm, hd, hpu, S2⟩
      rw [List.length_map, List.take_length] at pm
      rw [List.length_map] at hpu
      refine ⟨_, rfl, k ys d0 H2 pm hd n1 (hpu.less (by omega)) fun c o nc e => S2 c o nc (ne_of_none e n1) (S1 _ _ e)⟩
def L8a : List Str := ["m", "n", "n", "mn", "p", "abc", "height", "nm"]
def L8 : List Str := L8a ++ (["x", "y"] : List Str)
def N8 : List Str := ["r", "c", "z", "kk", "a", "page", "columnes", "abcdefghij"]
def spLetters : Sp := fun vs H Q _ => ∃ (a : Addr) (m n : Nat), vs = [.ref a, .int (m : Int)] ∧ m ≤ 3 ∧ PurseAt H a (n + 20) ∧
  ∀ (zs : List Str) q H', (∀ z ∈ zs, z ∈ L8) → zs.length ≤ m → H' q = some (.lst (zs.map V.str)) → H q = none → PurseAt H' a n → SameB a H H' → Q (.ref q) H'
def spNamesL : Sp := fun vs H Q _ => ∃ (a : Addr) (m n : Nat), vs = [.ref a, .int (m : Int)] ∧ 1 ≤ m ∧ m ≤ 8 ∧ PurseAt H a (n + 40) ∧
  ∀ (zs : List Str) q H', (∀ z ∈ zs, z ∈ N8) → zs.Nodup → zs.length = m → H' q = some (.lst (zs.map V.str)) → H q = none → PurseAt H' a n → SameB a H H' → Q (.ref q) H'
theorem scLetters : FnScope ["_law_purse_here", "_law_most", "_law_found", "_law_turn"] ["_law_purse_here", "_law_most"] (defScope sLetters) := ⟨rfl, rfl, rfl, by decide +kernel, rfl, by decide +kernel, by decide +kernel⟩
theorem ok_letters {f : Addr} {fd : FuncData} (F : Fun K "_law_letters" "_law_letters" sLetters f fd) (B4 : E3.Bt4 mg) (D : Cal P w K mg base 2 "_law_draw" spDraw []) (O : Cal P w K mg base 3 "_law_one_of" (spOneOf K) []) : FnOk P w K mg base CX0 4 f fd ["_law_purse_here", "_law_most"] spLetters := by
  refine F.ok scLetters (fun vs H Q E h => ?_) (fun cdv A outer s H vs Q E hr h => ?_)
  · obtain ⟨a, m, n, rfl, _⟩ := h
    rfl
  · obtain ⟨a, m, n, rfl, lm, hp, k⟩ := h
    refine ⟨_, pss_cons (ps_set (i := 2) scLetters.nd rfl (Or.inl rfl) (pe_lstS pa_nil))
      (pss_cons (ps_for PassesOwn.never rfl (pi_range1 rfl B4.rng_ (pa_cons (pe_c D hr (by decide) rfl (pa_cons (pv 0) (pa_cons (pe_op op_add (pv 1) pe_int) pa_nil))) pa_nil)) (pg_name (i := 3) scLetters.nd rfl (Or.inl rfl))
        (pss_one (ps_expr (pe_bm PySem.F.plainAttrs_list PySem.F.slot_list_append PySem.F.type_list_append mt_append (pv 2) (pa_cons (pe_c O hr (by decide) rfl (pa_cons (pv 0) (pa_cons (pe_lstS (pa_cons pe_str (pa_cons pe_str (pa_cons pe_str (pa_cons pe_str (pa_cons pe_str (pa_cons pe_str (pa_cons pe_str (pa_cons pe_str pa_nil))))))))) pa_nil))) pa_nil)))))
      (pss_one (ps_ret (pv 2)))), ?_⟩
    refine seq_asg ⟨by show 0 ≤ sizeLine; decide, fun d0 H1 S1 n1 h1 => ?_⟩
    have nda : d0 ≠ a := by
      obtain ⟨p0, p1, p2, e, _⟩ := hp
      exact (ne_of_none e n1).symm
    refine ⟨_, rfl, _, rfl, _, _, rfl, rfl, a, _, n + 16, rfl, (hp.same S1).less (by omega), by omega, by omega, fun r H2 r0 r1 hp2 S2 => ?_⟩
    have hd2 := S2 _ _ nda h1
    refine ⟨r, rfl, by omega, by omega, for_it (walk_range (n := r.toNat)) (fun i σ' H' => ∃ u zs, σ' = [some (.ref a), some (.int m), some (.ref d0), u] ∧ (∀ z ∈ zs, z ∈ L8) ∧ zs.length = i ∧ H' d0 = some (.lst (zs.map V.str)) ∧ PurseAt H' a (n + 4 * (r.toNat - i)) ∧ ∀ c o, c ≠ a → c ≠ d0 → H1 c = some o → H' c = some o) ⟨none, [], rfl, fun _ h => absurd h List.not_mem_nil, rfl, hd2, hp2.less (by omega), fun c o nc _ e => S2 _ _ nc e⟩ (fun _ _ _ _ _ => trivial) ?_ ?_⟩
    · rintro i x σ' H3 H4 hi ⟨u, zs, rfl, hz, lz, hd, hpu, S3⟩ ⟨rfl, rfl⟩
      refine ⟨_, rfl, .inl ⟨rfl, _, SqL.of hd⟩, ?_⟩
      refine ⟨_, rfl, by show 8 ≤ sizeLine; decide, fun p H5 S5 n5 h5 => ?_⟩
      have npa : p ≠ a := by
        obtain ⟨p0, p1, p2, e, _⟩ := hpu
        exact (ne_of_none e n5).symm
      refine ⟨a, p, L8a.map V.str, n + 4 * (r.toNat - (i + 1)), rfl, (hpu.same S5).less (by omega), SqL.of h5, npa, by decide, by decide, fun j x H6 hx hp6 S6 => ?_⟩
      rw [List.getElem?_map] at hx
      obtain ⟨z, hzj, rfl⟩ := Option.map_eq_some_iff.mp hx
      have hd6 := S6 _ _ nda (S5 _ _ hd)
      refine ⟨d0, _, _, rfl, rfl, hd6, by rw [List.length_map, lz, sizeLine_eq]; omega, ?_⟩
      refine ⟨_, zs ++ [z], rfl, ?_, by rw [List.length_append, lz]; rfl, by rw [upd_same, List.map_append]; rfl, ?_, fun c o nc nd e => ?_⟩
      · intro y hy
        rcases List.mem_append.mp hy with q | q
        · exact hz y q
        · rw [List.mem_singleton.mp q]
          exact List.mem_append.mpr (.inl (List.mem_of_getElem? hzj))
      · obtain ⟨p0, p1, p2, e, r⟩ := hp6
        exact ⟨p0, p1, p2, by rw [upd_ne (Ne.symm nda)]; exact e, r⟩
      · rw [upd_ne nd]
        exact S6 _ _ nc (S5 _ _ (S3 _ _ nc nd e))
    · rintro σ' H3 ⟨u, zs, rfl, hz, lz, hd, hpu, S3⟩
      exact ⟨_, rfl, k zs d0 H3 hz (by omega) hd n1 (hpu.less (by omega)) fun c o nc e => S3 c o nc (ne_of_none e n1) (S1 _ _ e)⟩
theorem scNamesL : FnScope ["_law_purse_here", "_law_many"] ["_law_purse_here", "_law_many"] (defScope sNamesL) := ⟨rfl, rfl, rfl, by decide +kernel, rfl, by decide +kernel, by decide +kernel⟩
theorem ok_namesL {f : Addr} {fd : FuncData} (F : Fun K "_law_names" "_law_names" sNamesL f fd) (Sh : Cal P w K mg base 3 "_law_shuffled" (spShuf K) []) : FnOk P w K mg base CX0 4 f fd ["_law_purse_here", "_law_many"] spNamesL := by
  refine F.ok scNamesL (fun vs H Q E h => ?_) (fun cdv A outer s H vs Q E hr h => ?_)
  · obtain ⟨a, m, n, rfl, _⟩ := h
    rfl
  · obtain ⟨a, m, n, rfl, l1, lm, hp, k⟩ := h
    refine ⟨_, pss_one (ps_ret (pe_slice sl_listS (pe_c Sh hr (by decide) rfl (pa_cons (pv 0) (pa_cons (pe_lstS (pa_cons pe_str (pa_cons pe_str (pa_cons pe_str (pa_cons pe_str (pa_cons pe_str (pa_cons pe_str (pa_cons pe_str (pa_cons pe_str pa_nil))))))))) pa_nil))) po_none (po_some (pv 1)))), ?_⟩
    refine ⟨_, rfl, by show 8 ≤ sizeLine; decide, fun p H1 S1 n1 h1 => ?_⟩
    refine ⟨a, p, N8, n, rfl, (hp.same S1).less (by show n + 32 ≤ n + 40; omega), h1, by decide, fun ys q H2 pm hq nq hp2 S2 => ?_⟩
    have ly : ys.length = 8 := pm.length_eq
    refine ⟨_, rfl, m, rfl, q, _, rfl, SqL.of hq, fun t H3 S3 n3 h3 => ?_⟩
    have ec : cutV (ys.map V.str) none (some (m : Int)) = (ys.take m).map V.str := by
      unfold cutV
      rw [HT.sIx_nat, HT.sIx_none, List.length_map, ly, Nat.min_eq_left lm, List.map_take]
      rfl
    rw [ec] at h3
    have SB : SameB a H H2 := fun c o nc e => S2 _ _ nc (S1 _ _ e)
    have hn : H t = none := by
      cases e : H t with
      | none => rfl
      | some o =>
        by_cases c : t = a
        · subst c
          obtain ⟨p0, p1, p2, e1, _⟩ := hp2
          rw [n3] at e1
          cases e1
        · have := SB _ _ c e
          rw [n3] at this
          cases this
    refine k (ys.take m) t H3 (fun z hz => pm.mem_iff.mp (List.mem_of_mem_take hz)) ((pm.nodup_iff.mpr (by decide)).sublist (List.take_sublist _ _)) (by rw [List.length_take]; omega) h3 hn (hp2.same S3) fun c o nc e => S3 _ _ (SB _ _ nc e)
end
end E4

set_option Elab.async false
set_option linter.all false
set_option maxRecDepth 100000
set_option maxHeartbeats 1000000
/-! _law_chain -/
namespace E4
open PySem PySem.Spec PyProof.Rows L2
open C8 (Cal Mak Met InsC pe_c pe_mt pe_mt0 call_isC clsBody)
open E3 (PurseAt spPurse spMixed spDraw)
abbrev sChain : Stmt := top 59
theorem purse_str {H : Hp} {p a : Addr} {n : Nat} {xs : List Str} (h : PurseAt H p n) (hl : H a = some (.lst (xs.map V.str))) : a ≠ p := by
  obtain ⟨p0, p1, p2, e, _⟩ := h
  rintro rfl
  rw [e] at hl
  cases xs with
  | nil => cases hl
  | cons x r =>
    have z := HO.lst.inj (Option.some.inj hl)
    cases (List.cons.inj z).1
theorem purse_none {H : Hp} {p a : Addr} {n : Nat} (h : PurseAt H p n) (hn : H a = none) : a ≠ p := by
  obtain ⟨p0, p1, p2, e, _⟩ := h
  exact (ne_of_none e hn).symm
theorem purse_upd {H : Hp} {p D : Addr} {n : Nat} {o : HO} (h : PurseAt H p n) (ne : D ≠ p) : PurseAt (upd H D o) p n := by
  obtain ⟨p0, p1, p2, e, r⟩ := h
  exact ⟨p0, p1, p2, by rw [upd_ne (Ne.symm ne)]; exact e, r⟩
theorem purse_tup {H : Hp} {p a : Addr} {n : Nat} {xs : List V} (h : PurseAt H p n) (hl : H a = some (.tup xs)) : a ≠ p := by
  obtain ⟨p0, p1, p2, e, _⟩ := h
  rintro rfl
  rw [e] at hl
  cases hl
theorem SdAt.purse {H H' : Hp} {p t : Addr} {n : Nat} {x : Sd} (h : SdAt H t x) (hp : PurseAt H p n) (S : SameB p H H') : SdAt H' t x :=
  let ⟨a, b, h1, h2, h3⟩ := h
  ⟨a, b, S _ _ (purse_tup hp h1) h1, S _ _ (purse_str hp h2) h2, S _ _ (purse_str hp h3) h3⟩
theorem SdsAt.purse {H H' : Hp} {p : Addr} {n : Nat} {ts : List Addr} {xs : List Sd} (h : SdsAt H ts xs) (hp : PurseAt H p n) (S : SameB p H H') : SdsAt H' ts xs := h.imp fun _ _ _ q => q.purse hp S
/-- what the law's sides are made of -/
def RowOk (x : Sd) : Prop := (∀ z ∈ x.2.1, z ∈ L8) ∧ (∀ z ∈ x.2.2, z ∈ L8) ∧ x.2.1.length ≤ 3 ∧ x.2.2.length ≤ 8
theorem let_L8 : ∀ z ∈ L8, LetOk z := by
  intro z hz
  have : (L8.all fun z => decide (1 ≤ z.length) && decide (z.length ≤ 10) && z.cps.toList.all fun c => decide (97 ≤ c) && decide (c ≤ 122)) = true := by decide +kernel
  have h := List.all_eq_true.mp this z hz
  simp only [Bool.and_eq_true, decide_eq_true_eq, List.all_eq_true] at h
  exact ⟨h.1.1, h.1.2, h.2⟩
theorem let_N8 : ∀ z ∈ N8, LetOk z := by
  intro z hz
  have : (N8.all fun z => decide (1 ≤ z.length) && decide (z.length ≤ 10) && z.cps.toList.all fun c => decide (97 ≤ c) && decide (c ≤ 122)) = true := by decide +kernel
  have h := List.all_eq_true.mp this z hz
  simp only [Bool.and_eq_true, decide_eq_true_eq, List.all_eq_true] at h
  exact ⟨h.1.1, h.1.2, h.2⟩
theorem apart : ∀ z ∈ L8, z ∉ N8 := by decide +kernel
theorem rows_ok {xs : List Sd} {names : List Str} (h1 : xs.map (·.1) = names) (h2 : ∀ z ∈ names, z ∈ N8) (nd : names.Nodup) (hr : ∀ x ∈ xs, RowOk x) (ne : xs ≠ []) (hl : xs.length ≤ 8) : SdsOk xs := by
  have nm : ∀ x ∈ xs, x.1 ∈ N8 := fun x hx => h2 _ (by rw [← h1]; exact List.mem_map.mpr ⟨x, hx, rfl⟩)
  refine ⟨ne, fun x hx => ?_, by rw [h1]; exact nd, fun x hx y hy z hz e => ?_, by omega⟩
  · obtain ⟨a, b, c, d⟩ := hr x hx
    exact ⟨let_N8 _ (nm x hx), fun z hz => let_L8 _ (a z hz), fun z hz => let_L8 _ (b z hz), by omega, by omega⟩
  · obtain ⟨a, b, _, _⟩ := hr x hx
    have : z ∈ L8 := hz.elim (a z) (b z)
    exact apart z this (by rw [e]; exact nm y hy)
def spChain : Sp := fun vs H Q _ => ∃ (a : Addr) (many : Nat) (often : Int) (n : Nat), vs = [.ref a, .int (many : Int), .int often] ∧ 1 ≤ many ∧ many ≤ 8 ∧ 1 ≤ often ∧ often < 2 ^ 100 ∧ PurseAt H a (n + 4000) ∧
  ∀ l ts xs H', H' l = some (.lst (ts.map V.ref)) → SdsAt H' ts xs → SdsOk xs → (∀ x ∈ xs, RowOk x) → xs.length = many → (∀ x ∈ xs, x.1 ∈ N8) → H l = none → PurseAt H' a n → SameB a H H' → Q (.ref l) H'
section
variable {P : Program} {w : World} {K : PySem.W.Frag} {mg : Str → Option Value} {base : Heap}
theorem scChain : FnScope ["_law_purse_here", "_law_many", "_law_often", "_law_rows", "_law_due", "_law_word", "_law_extra", "_law_span", "_law_step"] ["_law_purse_here", "_law_many", "_law_often"] (defScope sChain) := ⟨rfl, rfl, rfl, by decide +kernel, rfl, by decide +kernel, by decide +kernel⟩
theorem ok_chain {f : Addr} {fd : FuncData} (F : Fun K "_law_chain" "_law_chain" sChain f fd) (B : Bl mg) (D : Cal P w K mg base 2 "_law_draw" spDraw []) (Sh : Cal P w K mg base 3 "_law_shuffled" (spShuf K) []) (Le : Cal P w K mg base 4 "_law_letters" spLetters []) (Na : Cal P w K mg base 4 "_law_names" spNamesL []) :
    FnOk P w K mg base CX0 5 f fd ["_law_purse_here", "_law_many", "_law_often"] spChain := by
  refine F.ok scChain (fun vs H Q E h => ?_) (fun cdv A outer s H vs Q E hr h => ?_)
  · obtain ⟨a, m, o, n, rfl, _⟩ := h
    rfl
  · obtain ⟨a, many, often, n, rfl, m1, m8, o1, o2, hp, k⟩ := h
    refine ⟨_, pss_cons (ps_par (i := 3) (j := 4) (by rfl) scChain.nd rfl rfl (by decide) rfl rfl (pa_cons (pe_lstS pa_nil) (pa_cons (pe_lstS pa_nil) pa_nil)) (by rfl))
      (pss_cons (ps_for PassesOwn.never rfl (pi_list (pe_c Na hr (by decide) rfl (pa_cons (pv 0) (pa_cons (pv 1) pa_nil)))) (pg_name (i := 5) scChain.nd rfl (Or.inl rfl))
        (pss_cons (ps_set (i := 6) scChain.nd rfl (Or.inl rfl) (pe_ifExp (pt_cmpR op_eq (pe_c D hr (by decide) rfl (pa_cons (pv 0) (pa_cons (pv 2) pa_nil))) pe_int (by rfl)) (pe_c Le hr (by decide) rfl (pa_cons (pv 0) (pa_cons pe_int pa_nil))) (pe_lstS pa_nil)))
        (pss_cons (ps_set (i := 7) scChain.nd rfl (Or.inl rfl) (pe_c Le hr (by decide) rfl (pa_cons (pv 0) (pa_cons (pe_ix ix_list (pe_lstS (pa_cons pe_int (pa_cons pe_int (pa_cons pe_int pa_nil)))) (pe_c D hr (by decide) rfl (pa_cons (pv 0) (pa_cons pe_int pa_nil))) (fun _ _ => rfl)) pa_nil))))
        (pss_cons (ps_set (i := 8) scChain.nd rfl (Or.inl rfl) (pe_c Sh hr (by decide) rfl (pa_cons (pv 0) (pa_cons (pe_op op_catS (pv 4) (pv 6)) pa_nil))))
        (pss_cons (ps_if (pt_cmpR op_gt (pe_callB call_len_seq (by rfl) B.len_ PySem.boot_len (pa_cons (pv 8) pa_nil)) pe_int (by rfl)) (pss_one (ps_par (i := 7) (j := 8) (by rfl) scChain.nd rfl rfl (by decide) rfl rfl (pa_cons (pe_lstS pa_nil) (pa_cons (pe_lstS pa_nil) pa_nil)) (by rfl))) pss_nil)
        (pss_cons (ps_expr (pe_bm PySem.F.plainAttrs_list PySem.F.slot_list_append PySem.F.type_list_append mt_append (pv 3) (pa_cons (pe_tupS (pa_cons (pv 5) (pa_cons (pv 7) (pa_cons (pv 8) pa_nil)))) pa_nil)))
        (pss_one (ps_set (i := 4) scChain.nd rfl (Or.inl rfl) (pe_ifExp (pt_cmpR (op_neD hr.units) (pv 7) (pe_lstS pa_nil) (by rfl)) (pe_slice sl_listS (pe_op op_catS (pv 8) (pv 7)) po_none (po_some pe_int)) (pv 4))))))))))
      (pss_one (ps_ret (pv 3)))), ?_⟩
    refine ⟨by show 0 ≤ sizeLine; decide, fun rl H1 S1 n1 h1 => ⟨by show 0 ≤ sizeLine; decide, fun du0 H2 S2 n2 h2 => ?_⟩⟩
    refine ⟨_, _, rfl, ?_⟩
    dsimp only
    have hp2 := (hp.same S1).same S2
    have hrl2 := S2 _ _ h1
    have nra : rl ≠ a := purse_none hp n1
    refine ⟨_, rfl, _, rfl, a, many, n + 3900, rfl, m1, m8, hp2.less (by omega), fun names nl H3 hn nd ln hnl nnl hp3 S3 => ?_⟩
    have nnr : nl ≠ rl := (ne_of_none hrl2 nnl).symm
    have nnd : du0 ≠ rl := (ne_of_none h1 n2).symm
    have hd3 := S3 _ _ (purse_str (xs := []) hp2 h2) h2
    have hrl3 := S3 _ _ nra hrl2
    refine ⟨nl, rfl, ⟨_, SqL.of hnl⟩, for_it (walk_list (xs := names.map V.str)) (fun i σ' H' => ∃ du dz ts xs u5 u6 u7 u8, σ' = [some (.ref a), some (.int many), some (.int often), some (.ref rl), some (.ref du), u5, u6, u7, u8] ∧ H' du = some (.lst (dz.map V.str)) ∧ (∀ z ∈ dz, z ∈ L8) ∧ dz.length ≤ 6 ∧ du ≠ rl ∧
        H' rl = some (.lst (ts.map V.ref)) ∧ SdsAt H' ts xs ∧ (∀ t ∈ ts, t ≠ rl) ∧ xs.map (·.1) = names.take i ∧ (∀ x ∈ xs, RowOk x) ∧ PurseAt H' a (n + 200 * (many - i)) ∧ ∀ c o, c ≠ a → c ≠ rl → H3 c = some o → H' c = some o)
      ⟨du0, [], [], [], none, none, none, none, rfl, hd3, fun _ h => absurd h List.not_mem_nil, by decide, nnd, hrl3, .nil, fun _ h => absurd h List.not_mem_nil, rfl, fun _ h => absurd h List.not_mem_nil, hp3.less (by omega), fun _ _ _ _ e => e⟩
      (fun i σ' H' _ q => let ⟨_, _, _, _, _, _, _, _, _, _, _, _, _, _, _, _, _, _, _, S⟩ := q; SqL.of (S _ _ (purse_str hp3 hnl) nnr hnl)) ?_ ?_⟩
    · rintro i v σ' H4 H5 hi ⟨du, dz, ts, xs, u5, u6, u7, u8, rfl, hdu, hdz, ldz, ndr, hrl, hs, hts, hnm, hro, hpu, S4⟩ ⟨rfl, hxi⟩
      rw [List.length_map] at hi
      rw [List.getElem?_map] at hxi
      obtain ⟨nm, hnmi, rfl⟩ := Option.map_eq_some_iff.mp hxi
      dsimp only
      -- extra
      refine seq_asg (te_mid (fun x H' => ∃ (e : Addr) (ez : List Str), x = .ref e ∧ (∀ z ∈ ez, z ∈ L8) ∧ ez.length ≤ 2 ∧ H' e = some (.lst (ez.map V.str)) ∧ PurseAt H' a (n + 200 * (many - (i + 1)) + 150) ∧ SameB a H5 H' ∧ H5 e = none) (fun R hR => ?_) ?_)
      · refine ⟨_, rfl, _, rfl, a, often, n + 200 * (many - (i + 1)) + 190, rfl, hpu.less (by omega), o1, o2, fun r H6 r0 r1 hp6 S6 => ⟨rfl, _, rfl, iteD (fun c => ?_) (fun c => ?_)⟩⟩
        · refine ⟨_, rfl, a, 2, n + 200 * (many - (i + 1)) + 150, rfl, by decide, hp6.less (by omega), fun zs q H7 hz lz hq nq hp7 S7 => hR _ _ ⟨q, zs, rfl, hz, lz, hq, hp7, S6.trans S7, ?_⟩⟩
          cases eq : H5 q with
          | none => rfl
          | some o =>
            by_cases c2 : q = a
            · exact absurd c2 (purse_none hp6 nq)
            · rw [S6 _ _ c2 eq] at nq
              cases nq
        · refine ⟨by show 0 ≤ sizeLine; decide, fun q H7 S7 nq hq => hR _ _ ⟨q, [], rfl, fun _ h => absurd h List.not_mem_nil, by decide, hq, (hp6.same S7).less (by omega), S6.to S7, ?_⟩⟩
          cases eq : H5 q with
          | none => rfl
          | some o =>
            by_cases c2 : q = a
            · exact absurd c2 (purse_none hp6 nq)
            · rw [S6 _ _ c2 eq] at nq
              cases nq
      rintro x H6 ⟨e, ez, rfl, hez, lez, he, hp6, S6, ne6⟩
      have nea : e ≠ a := purse_none hpu ne6
      have ner : e ≠ rl := (ne_of_none hrl ne6).symm
      have hrl6 := S6 _ _ nra hrl
      have hdu6 := S6 _ _ (purse_str hpu hdu) hdu
      -- span
      refine seq_asg ⟨_, rfl, by show 3 ≤ sizeLine; decide, fun p H7 S7 np hp7 => ⟨_, rfl, a, 3, n + 200 * (many - (i + 1)) + 140, rfl, (hp6.same S7).less (by omega), by decide, by decide, fun r H8 r0 r1 hp8 S8 => ?_⟩⟩
      obtain ⟨m, em, lm⟩ : ∃ m : Nat, atI [V.int 2, V.int 2, V.int 3] r = some (V.int (m : Int)) ∧ m ≤ 3 := by
        have : r = 0 ∨ r = 1 ∨ r = 2 := by omega
        rcases this with rfl | rfl | rfl
        · exact ⟨2, rfl, by decide⟩
        · exact ⟨2, rfl, by decide⟩
        · exact ⟨3, rfl, by decide⟩
      have npa : p ≠ a := purse_none hp6 np
      refine ⟨p, _, r, _, rfl, rfl, SqL.of (S8 _ _ npa hp7), em, a, m, n + 200 * (many - (i + 1)) + 110, rfl, lm, hp8.less (by omega), fun sz sp H9 hsz lsz hsp nsp hp9 S9 => ?_⟩
      have S69 : SameB a H6 H9 := fun c o nc ec => S9 _ _ nc (S8 _ _ nc (S7 _ _ ec))
      have hrl9 := S69 _ _ nra hrl6
      have hdu9 := S69 _ _ (purse_str hp6 hdu6) hdu6
      have he9 := S69 _ _ nea he
      have hrl8 := S8 _ _ nra (S7 _ _ hrl6)
      have nsr : sp ≠ rl := (ne_of_none hrl8 nsp).symm
      have nsa : sp ≠ a := purse_none hp8 nsp
      -- step
      refine seq_asg ⟨_, rfl, _, rfl, _, rfl, du, e, _, _, rfl, rfl, hdu9, he9, by rw [List.length_map, List.length_map, sizeLine_eq]; omega, fun c H10 S10 nc hc => ?_⟩
      rw [← List.map_append] at hc
      refine ⟨a, c, dz ++ ez, n + 200 * (many - (i + 1)) + 70, rfl, (hp9.same S10).less (by rw [List.length_append]; omega), hc, by rw [List.length_append]; omega, fun tz st H11 pm hst nst hp11 S11 => ?_⟩
      have S911 : SameB a H9 H11 := fun c o nc ec => S11 _ _ nc (S10 _ _ ec)
      have hrl11 := S911 _ _ nra hrl9
      have hdu11 := S911 _ _ (purse_str hp9 hdu9) hdu9
      have hsp11 := S911 _ _ nsa hsp
      have ntr : st ≠ rl := (ne_of_none (S10 _ _ hrl9) nst).symm
      have nta : st ≠ a := purse_none (hp9.same S10) nst
      have htz : ∀ z ∈ tz, z ∈ L8 := fun z hz => (List.mem_append.mp (pm.mem_iff.mp hz)).elim (hdz z) (hez z)
      have ltz : tz.length ≤ 8 := by rw [pm.length_eq, List.length_append]; omega
      have Sall : SameB a H5 H11 := (S6.trans S69).trans S911
      have hs11 := hs.purse hpu Sall
      refine ts_mid (fun σ' H' => ∃ (s' t' : Addr) (sz' tz' : List Str), σ' = [some (.ref a), some (.int many), some (.int often), some (.ref rl), some (.ref du), some (.str nm), some (.ref e), some (.ref s'), some (.ref t')] ∧ H' s' = some (.lst (sz'.map V.str)) ∧ H' t' = some (.lst (tz'.map V.str)) ∧
          (∀ z ∈ sz', z ∈ L8) ∧ (∀ z ∈ tz', z ∈ L8) ∧ sz'.length ≤ 3 ∧ tz'.length ≤ 8 ∧ s' ≠ rl ∧ t' ≠ rl ∧ Same H11 H') (fun N hN => ?_) ?_
      · refine ⟨_, rfl, st, _, rfl, .inl (SqL.of hst), _, _, rfl, rfl, _, rfl, iteD (fun _ => ?_) (fun _ => ?_)⟩
        · refine ⟨by show 0 ≤ sizeLine; decide, fun q1 H12 S12 n12 h12 => ⟨by show 0 ≤ sizeLine; decide, fun q2 H13 S13 n13 h13 => ⟨_, _, rfl, ?_⟩⟩⟩
          exact hN _ _ ⟨q1, q2, [], [], rfl, S13 _ _ h12, h13, fun _ h => absurd h List.not_mem_nil, fun _ h => absurd h List.not_mem_nil, by decide, by decide, (ne_of_none hrl11 n12).symm, (ne_of_none (S12 _ _ hrl11) n13).symm, S12.trans S13⟩
        · exact hN _ _ ⟨sp, st, sz, tz, rfl, hsp11, hst, hsz, htz, by omega, ltz, nsr, ntr, fun _ _ e => e⟩
      rintro σ' H12 ⟨s', t', sz', tz', rfl, hs', ht', hsz', htz', lsz', ltz', ns', nt', S12⟩
      have hrl12 := S12 _ _ hrl11
      have hp12 := hp11.same S12
      have hs12 := hs11.same S12
      have hdu12 := S12 _ _ hdu11
      have lts : ts.length = i := by
        have h1 := hs.length
        have h2 := congrArg List.length hnm
        rw [List.length_map, List.length_take] at h2
        omega
      refine ⟨_, rfl, .inl ⟨rfl, _, SqL.of hrl12⟩, ?_⟩
      refine ⟨_, rfl, _, rfl, _, rfl, by show 3 ≤ sizeLine; decide, fun rw_ H13 S13 n13 h13 => ?_⟩
      have hrl13 := S13 _ _ hrl12
      have nwr : rw_ ≠ rl := (ne_of_none hrl12 n13).symm
      refine ⟨rl, _, _, rfl, rfl, hrl13, by rw [List.length_map, lts, sizeLine_eq]; omega, ?_⟩
      dsimp only
      have off : ∀ {c : Addr} {o u : HO}, c ≠ rl → H13 c = some o → (upd H13 rl u) c = some o := fun n e => by rw [upd_ne n]; exact e
      have rows14 : SdsAt (upd H13 rl (.lst (ts.map V.ref ++ [V.ref rw_]))) (ts ++ [rw_]) (xs ++ [(nm, sz', tz')]) :=
        paired_snoc (SdsAt.off (v := .lst []) hs12 hrl12 hts fun c o n e => off n (S13 _ _ e)) ⟨s', t', off nwr h13, off ns' (S13 _ _ hs'), off nt' (S13 _ _ ht')⟩
      have rl14 : (upd H13 rl (.lst (ts.map V.ref ++ [V.ref rw_]))) rl = some (.lst ((ts ++ [rw_]).map V.ref)) := by rw [upd_same, List.map_append]; rfl
      have hp14 : PurseAt (upd H13 rl (.lst (ts.map V.ref ++ [V.ref rw_]))) a (n + 200 * (many - (i + 1)) + 70) := purse_upd ((hp12.same S13)) nra
      have hp14 : PurseAt (upd H13 rl (.lst (ts.map V.ref ++ [V.ref rw_]))) a (n + 200 * (many - (i + 1))) := hp14.less (by omega)
      have s14 : (upd H13 rl (.lst (ts.map V.ref ++ [V.ref rw_]))) s' = some (.lst (sz'.map V.str)) := off ns' (S13 _ _ hs')
      have t14 : (upd H13 rl (.lst (ts.map V.ref ++ [V.ref rw_]))) t' = some (.lst (tz'.map V.str)) := off nt' (S13 _ _ ht')
      have du14 : (upd H13 rl (.lst (ts.map V.ref ++ [V.ref rw_]))) du = some (.lst (dz.map V.str)) := off ndr (S13 _ _ hdu12)
      have fr14 : ∀ c o, c ≠ a → c ≠ rl → H3 c = some o → (upd H13 rl (.lst (ts.map V.ref ++ [V.ref rw_]))) c = some o := fun c o nc nr ec => off nr (S13 _ _ (S12 _ _ (Sall _ _ nc (S4 _ _ nc nr ec))))
      generalize upd H13 rl (.lst (ts.map V.ref ++ [V.ref rw_])) = H14 at rows14 rl14 hp14 s14 t14 du14 fr14 ⊢
      have hts' : ∀ t ∈ ts ++ [rw_], t ≠ rl := fun t ht => (List.mem_append.mp ht).elim (hts t) fun q => by rw [List.mem_singleton.mp q]; exact nwr
      have hnm' : (xs ++ [(nm, sz', tz')]).map (·.1) = names.take (i + 1) := by rw [List.map_append, hnm, take_snoc hnmi]; rfl
      have hro' : ∀ x ∈ xs ++ [(nm, sz', tz')], RowOk x := fun x hx => (List.mem_append.mp hx).elim (hro x) fun q => by
        rw [List.mem_singleton.mp q]
        exact ⟨hsz', htz', lsz', ltz'⟩
      refine ⟨_, rfl, by show 0 ≤ sizeLine; decide, fun q1 H15 S15 n15 h15 => ⟨.list (sz'.map PyData.str), .list [], .lst (SqL.of (S15 _ _ s14)) (dp_strs _), .lst (SqL.of h15) .nil, shaped_strs _ (fun z hz => strOk_of (let_L8 z (hsz' z hz))), by decide, _, rfl, ?_⟩⟩
      have fin : ∀ (H' : Hp) (d : Addr) (dz' : List Str), Same H14 H' → H' d = some (.lst (dz'.map V.str)) → (∀ z ∈ dz', z ∈ L8) → dz'.length ≤ 6 → d ≠ rl → _ := fun H' d dz' S hd hz hl hn =>
        (⟨d, dz', ts ++ [rw_], xs ++ [(nm, sz', tz')], _, _, _, _, rfl, hd, hz, hl, hn, S _ _ rl14, rows14.same S, hts', hnm', hro', hp14.same S, fun c o nc nr ec => S _ _ (fr14 c o nc nr ec)⟩ :
          ∃ (du : Addr) (dz : List Str) (ts : List Addr) (xs : List Sd) (u5 u6 u7 u8 : Option V), [some (V.ref a), some (.int many), some (.int often), some (.ref rl), some (.ref d), some (.str nm), some (.ref e), some (.ref s'), some (.ref t')] = [some (.ref a), some (.int many), some (.int often), some (.ref rl), some (.ref du), u5, u6, u7, u8] ∧ H' du = some (.lst (dz.map V.str)) ∧ (∀ z ∈ dz, z ∈ L8) ∧ dz.length ≤ 6 ∧ du ≠ rl ∧
        H' rl = some (.lst (ts.map V.ref)) ∧ SdsAt H' ts xs ∧ (∀ t ∈ ts, t ≠ rl) ∧ xs.map (·.1) = names.take (i + 1) ∧ (∀ x ∈ xs, RowOk x) ∧ PurseAt H' a (n + 200 * (many - (i + 1))) ∧ ∀ c o, c ≠ a → c ≠ rl → H3 c = some o → H' c = some o)
      cases hb : (!PyData.eqv (.list (sz'.map PyData.str)) (.list [])) with
      | false => exact iteF ⟨_, rfl, fin H15 du dz S15 (S15 _ _ du14) hdz ldz ndr⟩
      | true =>
        refine iteT (B := False) ⟨_, rfl, _, rfl, t', s', _, _, rfl, rfl, S15 _ _ t14, S15 _ _ s14, by rw [List.length_map, List.length_map, sizeLine_eq]; omega, fun c H16 S16 n16 h16 => ?_⟩
        rw [← List.map_append] at h16
        refine ⟨6, rfl, c, _, rfl, SqL.of h16, fun d H17 S17 n17 h17 => ?_⟩
        have ec : cutV ((tz' ++ sz').map V.str) none (some 6) = ((tz' ++ sz').take 6).map V.str := by
          unfold cutV
          rw [show (some (6 : Int)) = some ((6 : Nat) : Int) from rfl, HT.sIx_nat, HT.sIx_none, List.map_take, List.drop_zero]
          refine List.take_eq_take_iff.mpr ?_
          omega
        rw [ec] at h17
        refine fin H17 d _ (S15.trans (S16.trans S17)) h17 (fun z hz => (List.mem_append.mp (List.mem_of_mem_take hz)).elim (htz' z) (hsz' z)) (by rw [List.length_take]; omega) (ne_of_none (S16 _ _ (S15 _ _ rl14)) n17).symm
    · rintro σ' H4 ⟨du, dz, ts, xs, u5, u6, u7, u8, rfl, hdu, hdz, ldz, ndr, hrl, hs, hts, hnm, hro, hpu, S4⟩
      rw [List.length_map, List.take_length] at hnm
      have lx : xs.length = many := by rw [← ln, ← hnm, List.length_map]
      have ne : xs ≠ [] := fun c => by rw [c] at lx; simp at lx; omega
      refine ⟨_, rfl, k rl ts xs H4 hrl hs (rows_ok hnm hn nd hro ne (by omega)) hro lx (fun x hx => hn _ (by rw [← hnm]; exact List.mem_map.mpr ⟨x, hx, rfl⟩)) n1 (hpu.less (by omega)) fun c o nc e => ?_⟩
      exact S4 _ _ nc (ne_of_none e n1) (S3 _ _ nc (S2 _ _ (S1 _ _ e)))
end
end E4

set_option Elab.async false
set_option linter.all false
set_option maxRecDepth 100000
set_option maxHeartbeats 1000000
/-! _law_used, _law_sizes -/
namespace E4
open PySem PySem.Spec PyProof.Rows L2
open C8 (Cal Mak Met InsC pe_c pe_mt pe_mt0 call_isC clsBody)
open E3 (PurseAt spPurse spMixed spDraw)
/-- z stands in a product of these sides -/
def InLets (xs : List Sd) (z : Str) : Prop := ∃ x ∈ xs, z ∈ x.2.1 ∨ z ∈ x.2.2
section
variable {P : Program} {w : World} {K : PySem.W.Frag} {mg : Str → Option Value} {base : Heap}
end
end E4

set_option Elab.async false
set_option linter.all false
set_option maxRecDepth 100000
set_option maxHeartbeats 1000000
/-! list.count of a text -/
namespace L2
open PySem PySem.Spec PyProof.Rows
end L2

set_option Elab.async false
set_option linter.all false
set_option maxRecDepth 100000
set_option maxHeartbeats 1000000
/-! _law_fits, _law_chained -/
namespace E4
open PySem PySem.Spec PyProof.Rows L2
open C8 (Cal Mak Met InsC pe_c pe_mt pe_mt0 call_isC clsBody)
section
variable {P : Program} {w : World} {K : PySem.W.Frag} {mg : Str → Option Value} {base : Heap}
theorem cut_drop (xs : List V) (k : Nat) : cutV xs (some ((k : Nat) : Int)) none = xs.drop k := by
  unfold cutV
  rw [HT.sIx_nat, HT.sIx_none]
  rcases Nat.lt_or_ge k xs.length with h | h
  · rw [Nat.min_eq_left (by omega), List.take_of_length_le (by rw [List.length_drop]; exact Nat.le_refl _)]
  · rw [Nat.min_eq_right h, List.drop_of_length_le (Nat.le_refl _), List.drop_of_length_le h, List.take_nil]
end
end E4

set_option Elab.async false
set_option linter.all false
set_option maxRecDepth 100000
set_option maxHeartbeats 1000000
/-! rows any two of which go one into the other: their cells have places of their own -/
namespace E4
open PySem PySem.Spec PyProof.Rows L2
open PySem.W (dataLe)
end E4

set_option Elab.async false
set_option linter.all false
set_option maxRecDepth 100000
set_option maxHeartbeats 1000000
/-! law_k55's law -/
namespace E4
open PySem PySem.Spec PyProof.Rows L2
open C8 (Cal Mak Met InsC pe_c pe_mt pe_mt0 call_isC clsBody)
open E3 (PurseAt spPurse spMixed spDraw)
open LamX (Tabs ExtN TabB CodeO)
abbrev sLaw : Stmt := top 60
def kv1 : List V → List V → List V := fun vs zs => match vs, zs with
  | [], [x] => [x]
  | _, _ => []
def spLaw (T : List (Addr × Str)) (K : PySem.W.Frag) : Sp := fun vs H Q _ => ∃ (sc : Addr) (ns : List Int), vs = [.ref sc] ∧ SqL K H sc (ns.map V.int) ∧ ns.length ≤ 63 ∧ Tabs T H ∧ ∀ H', Q (.bl true) H'
theorem tabsP {T : List (Addr × Str)} {p : Addr} {n : Nat} {H H' : Hp} (t : Tabs T H) (hp : PurseAt H p n) (S : SameB p H H') : Tabs T H' := fun u hu => by
  obtain ⟨p0, p1, p2, hD, _⟩ := hp
  obtain ⟨ps, h1, h2, h3⟩ := t u hu
  exact ⟨ps, S _ _ (ne_of h1 hD (by intro w; cases w)) h1, h2, fun pos cv e => let ⟨c, e1, e2⟩ := h3 pos cv e; ⟨c, e1, S _ _ (ne_of e2 hD (by unfold CodeO; intro w; cases w)) e2⟩⟩
theorem PurseAt.ext {p : Addr} {n : Nat} {H H' : Hp} (h : PurseAt H p n) (S : ExtN H H') : PurseAt H' p n :=
  let ⟨p0, p1, p2, h1, r⟩ := h; ⟨p0, p1, p2, S _ _ h1 (fun _ z => nomatch z), r⟩
theorem sam_dI {K : PySem.W.Frag} {H : Hp} {a b : Addr} {vl : Vls} (nd : (vl.map (·.1)).Nodup) (ha : H a = some (.dK (dI vl))) (hb : H b = some (.dK (dI vl))) : SamV K H (.ref a) (.ref b) := by
  refine .dict ha hb rfl fun p hp => ?_
  obtain ⟨x, hx, rfl⟩ := List.mem_map.mp hp
  refine ⟨?_, rfl⟩
  obtain ⟨n, hn, hm⟩ := getI_isSome (l := vl) (z := x.1) (List.mem_map.mpr ⟨x, hx, rfl⟩)
  rw [valV_dI, hn]
  obtain ⟨i, hi⟩ := List.mem_iff_getElem?.mp hx
  obtain ⟨j, hj⟩ := List.mem_iff_getElem?.mp hm
  have hi1 : (vl.map (·.1))[i]? = some x.1 := by rw [List.getElem?_map, hi]; rfl
  have hj1 : (vl.map (·.1))[j]? = some x.1 := by rw [List.getElem?_map, hj]; rfl
  have := (List.getElem?_inj (i := i) (j := j) (List.getElem?_eq_some_iff.mp hi1).1 nd).mp (hi1.trans hj1.symm)
  subst this
  rw [hi] at hj
  have e := congrArg Prod.snd (Option.some.inj hj)
  show some (V.int n) = some (V.int x.2)
  rw [e]
theorem ne_list {K : PySem.W.Frag} {H : Hp} {p q : Addr} {l : List Str} {Q : VK} (hl : ∀ z ∈ l, LetOk z) (a : H p = some (.lst (l.map V.str))) (b : H q = some (.lst (l.map V.str))) (k : Q (.bl false) H) : rNeA K (.ref p) (.ref q) H Q := by
  refine .inr (.inr ⟨_, _, .lst (SqL.of a) (dp_strs _), .lst (SqL.of b) (dp_strs _), shaped_strs _ fun z hz => strOk_of (hl z hz), shaped_strs _ fun z hz => strOk_of (hl z hz), ?_⟩)
  rw [eqv_listS, decide_eq_true rfl]
  exact k
end E4

set_option Elab.async false
set_option linter.all false
set_option maxRecDepth 100000
set_option maxHeartbeats 1000000
/-! _law_times, _law_spot -/
namespace E4
open PySem PySem.Spec PyProof.Rows L2
open C8 (Cal Mak Met InsC pe_c pe_mt pe_mt0 call_isC clsBody)
open E3 (PurseAt spPurse spMixed spDraw)
/-- values of letters: small whole numbers from 1 on -/
structure ValsOk (vl : Vls) (xs : List Sd) : Prop where
  mem : ∀ x ∈ xs, ∀ z, z ∈ x.2.1 ∨ z ∈ x.2.2 → z ∈ vl.map (·.1)
  bd : AllV (fun n => 1 ≤ n ∧ n.natAbs < 2 ^ 400) vl
abbrev tm (vl : Vls) (m : List Str) : Int := prodI (m.map (gOf vl))
theorem val_at {vl : Vls} {p : Int → Prop} (ha : AllV p vl) {z : Str} (hz : z ∈ vl.map (·.1)) : valV (dI vl) (Sum.inr z) = some (.int (gOf vl z)) ∧ p (gOf vl z) := by
  obtain ⟨e1, e2⟩ := gOf_at rfl ha hz
  exact ⟨by rw [valV_dI, e1]; rfl, e2⟩
theorem tm_lt {vl : Vls} {m : List Str} (ha : AllV (fun n => 1 ≤ n ∧ n.natAbs < 2 ^ 400) vl) (h : ∀ z ∈ m, z ∈ vl.map (·.1)) : (tm vl m).natAbs < 2 ^ (1 + m.length * 400) := prod_lt _ _ fun z hz => (val_at ha (h z hz)).2.2
/-- the place of a cell -/
def spotI (vl : Vls) (xs : List Sd) (cs : List Int) : Int := ((xs.zip cs).map fun p => p.2 * tm vl p.1.2.2).sum
section
variable {P : Program} {w : World} {K : PySem.W.Frag} {mg : Str → Option Value} {base : Heap}
end
end E4

set_option Elab.async false
set_option linter.all false
set_option maxRecDepth 100000
set_option maxHeartbeats 1000000
/-! _law_cells -/
namespace E4
open PySem PySem.Spec PyProof.Rows L2
open C8 (Cal Mak Met InsC pe_c pe_mt pe_mt0 call_isC clsBody)
theorem ValsOk.take {vl : Vls} {xs : List Sd} (v : ValsOk vl xs) (i : Nat) : ValsOk vl (xs.take i) := ⟨fun x hx => v.mem x (List.mem_of_mem_take hx), v.bd⟩
/-- lists of whole numbers -/
def CsAt (H : Hp) (as : List Addr) (cs : List (List Int)) : Prop := Paired (fun (a : Addr) (c : List Int) => H a = some (.lst (c.map V.int))) as cs
theorem CsAt.imp {H H' : Hp} {as : List Addr} {cs : List (List Int)} (h : CsAt H as cs) (k : ∀ a ∈ as, ∀ o, H a = some o → H' a = some o) : CsAt H' as cs := by
  unfold CsAt at h ⊢
  induction h with
  | nil => exact .nil
  | cons r t ih => exact .cons (k _ List.mem_cons_self _ r) (ih fun z hz => k z (List.mem_cons_of_mem _ hz))
theorem CsAt.same {H H' : Hp} {as : List Addr} {cs : List (List Int)} (h : CsAt H as cs) (S : Same H H') : CsAt H' as cs := h.imp fun a _ o e => S _ _ e
section
variable {P : Program} {w : World} {K : PySem.W.Frag} {mg : Str → Option Value} {base : Heap}
end
end E4

set_option Elab.async false
set_option linter.all false
set_option maxRecDepth 100000
set_option maxHeartbeats 1000000
/-! sorted(d), d a dict with whole numbers as keys -/
namespace L2
open PySem PySem.Spec PyProof.Rows
section
variable {prog : Program} {w : World} {A : Around} {E : Value → Shared → Prop} {s : Shared} {T : String} {r d : Addr} {n : Nat} {P : Nat → Value → Prop} {OK : Heap → Prop}
end
end L2

set_option Elab.async false
set_option linter.all false
set_option maxRecDepth 100000
/-! set(xs), xs a list of whole numbers; sorted of such a set, of any size -/
namespace L2
open PySem PySem.Spec PyProof.Rows
section
variable {P : Program} {w : World} {A : Around} {E : Value → Shared → Prop} {s : Shared} {l : Addr} {items : Array Value} {ns : List Int}
end
end L2

set_option Elab.async false
set_option linter.all false
set_option maxRecDepth 100000
/-! len of a set of whole numbers -/
namespace L2
open PySem PySem.Spec PyProof.Rows
end L2

set_option Elab.async false
set_option linter.all false
set_option maxRecDepth 100000
set_option maxHeartbeats 1000000
set_option exponentiation.threshold 5000
/-! _law_apart -/
namespace E4
open PySem PySem.Spec PyProof.Rows L2
open C8 (Cal Mak Met InsC pe_c pe_mt pe_mt0 call_isC clsBody)
/-- a cell's indices -/
def CellIn (vl : Vls) (xs : List Sd) (cs : List Int) : Prop := Paired (fun (x : Sd) (i : Int) => 0 ≤ i ∧ i < tm vl x.2.1) xs cs
theorem CellIn.small {vl : Vls} {xs : List Sd} {cs : List Int} (h : CellIn vl xs cs) (v : ValsOk vl xs) (ok : ∀ x ∈ xs, RowOk x) : ∀ i ∈ cs, i.natAbs < 2 ^ 4000 := by
  intro i hi
  obtain ⟨j, hj⟩ := List.mem_iff_getElem?.mp hi
  obtain ⟨x, hx, h0, h1⟩ := paired_ix h hj
  have xm := List.mem_of_getElem? hx
  have h2 := tm_lt (m := x.2.1) v.bd fun z hz => v.mem x xm z (.inl hz)
  have h3 := (ok x xm).2.2.1
  have h4 : (tm vl x.2.1).natAbs < 2 ^ 4000 := Nat.lt_of_lt_of_le h2 (Nat.pow_le_pow_right (by decide) (by omega))
  omega
section
variable {P : Program} {w : World} {K : PySem.W.Frag} {mg : Str → Option Value} {base : Heap}
end
end E4

set_option Elab.async false
set_option linter.all false
set_option maxRecDepth 100000
set_option maxHeartbeats 1000000
/-! _law_ordered -/
namespace E4
open PySem PySem.Spec PyProof.Rows L2
open C8 (Cal Mak Met InsC pe_c pe_mt pe_mt0 call_isC clsBody)
section
variable {P : Program} {w : World} {K : PySem.W.Frag} {mg : Str → Option Value} {base : Heap}
end
end E4

set_option Elab.async false
set_option linter.all false
set_option maxRecDepth 100000
set_option maxHeartbeats 1000000
/-! the places of chained rows are apart -/
namespace E4
open PySem PySem.Spec PyProof.Rows L2
/-- two rows of which one goes into the other -/
def FitE (x y : Sd) : Prop := leftOf (x.2.1 ++ x.2.2) y.2.2 = []
theorem FitE.len {x y : Sd} (h : FitE x y) : x.2.1.length + x.2.2.length ≤ y.2.2.length := by
  have := leftOf_len y.2.2 (x.2.1 ++ x.2.2)
  unfold FitE at h
  rw [h, List.length_append] at this
  simpa using this
end E4

set_option Elab.async false
set_option linter.all false
set_option maxRecDepth 100000
set_option maxHeartbeats 1000000
/-! rows put in order by what fits into what -/
namespace E4
open PySem PySem.Spec PyProof.Rows L2
abbrev sl (x : Sd) : Nat := x.2.2.length
/-- rows with two cells or more of which any two go one into the other, laid one by one -/
structure OrdOk (acc src : List Sd) : Prop where
  pm : acc.Perm src
  pw : acc.Pairwise fun a b => sl a < sl b
end E4

set_option Elab.async false
set_option linter.all false
set_option maxRecDepth 100000
set_option maxHeartbeats 1000000
/-! what clash tells is right -/
namespace E4
open PySem PySem.Spec PyProof.Rows L2
/-- what clash's indices are -/
structure ClOk (vl : Vls) (x y : Sd) (i j : Int) : Prop where
  i1 : 1 ≤ i
  j1 : 1 ≤ j
  i2 : i < tm vl x.2.1
  j2 : j < tm vl y.2.1
  e : i * tm vl x.2.2 = j * tm vl y.2.2
end E4

set_option Elab.async false
set_option linter.all false
set_option maxRecDepth 100000
set_option maxHeartbeats 1000000
/-! sorted(d), d a dict with texts as keys -/
namespace L2
open PySem PySem.Spec PyProof.Rows
end L2

set_option Elab.async false
set_option linter.all false
set_option maxRecDepth 100000
set_option maxHeartbeats 1000000
/-! _law_cell_right, _law_clash_right -/
namespace E4
open PySem PySem.Spec PyProof.Rows L2
open C8 (Cal Mak Met InsC pe_c pe_mt pe_mt0 call_isC clsBody)
section
variable {P : Program} {w : World} {K : PySem.W.Frag} {mg : Str → Option Value} {base : Heap}
end
end E4

set_option Elab.async false
set_option linter.all false
set_option maxRecDepth 100000
set_option maxHeartbeats 1000000
set_option exponentiation.threshold 500
/-! _law_shuffled of rows; what clash tells of rows is right -/
namespace E4
open PySem PySem.Spec PyProof.Rows L2
open C8 (Cal Mak Met InsC pe_c pe_mt pe_mt0 call_isC clsBody)
open E3 (PurseAt spPurse spMixed spDraw)
def spShufV : Sp := fun vs H Q _ => ∃ (a l : Addr) (xs : List V) (n : Nat), vs = [.ref a, .ref l] ∧ PurseAt H a (n + 4 * xs.length) ∧ H l = some (.lst xs) ∧ l ≠ a ∧ xs.length ≤ 2000 ∧
  ∀ (ys : List V) q H', ys.Perm xs → H' q = some (.lst ys) → H q = none → PurseAt H' a n → SameB a H H' → Q (.ref q) H'
section
variable {P : Program} {w : World} {K : PySem.W.Frag} {mg : Str → Option Value} {base : Heap}
theorem ok_shufV {f : Addr} {fd : FuncData} (F : Fun K "_law_shuffled" "_law_shuffled" sShuffled f fd) (B : Bl mg) (D : Cal P w K mg base 2 "_law_draw" spDraw []) : FnOk P w K mg base CX0 3 f fd ["_law_purse_here", "_law_some"] spShufV := by
  refine F.ok scShuf (fun vs H Q E h => ?_) (fun cdv A outer s H vs Q E hr h => ?_)
  · obtain ⟨a, l, xs, n, rfl, _⟩ := h
    rfl
  · obtain ⟨a, l, xs, n, rfl, hp, hl, nla, l2, k⟩ := h
    refine ⟨_, pss_cons (ps_set (i := 2) scShuf.nd rfl (Or.inl rfl) (pe_lstS pa_nil))
      (pss_cons (ps_for PassesOwn.never rfl (pi_list (pv 1)) (pg_name (i := 3) scShuf.nd rfl (Or.inl rfl))
        (pss_one (ps_expr (pe_bm PySem.F.plainAttrs_list PySem.F.slot_list_insert PySem.F.type_list_insert mt_insert (pv 2) (pa_cons (pe_c D hr (by decide) rfl (pa_cons (pv 0) (pa_cons (pe_op op_add (pe_callB call_len_seq (by rfl) B.len_ PySem.boot_len (pa_cons (pv 2) pa_nil)) pe_int) pa_nil))) (pa_cons (pv 3) pa_nil))))))
      (pss_one (ps_ret (pv 2)))), ?_⟩
    refine seq_asg ⟨by show 0 ≤ sizeLine; decide, fun d0 H1 S1 n1 h1 => ?_⟩
    have nda : d0 ≠ a := purse_none hp n1
    have ndl : l ≠ d0 := ne_of_none hl n1
    refine ⟨_, rfl, l, rfl, ⟨_, SqL.of (S1 _ _ hl)⟩, for_it (walk_list (xs := xs)) (fun i σ' H' => ∃ u ys, σ' = [some (.ref a), some (.ref l), some (.ref d0), u] ∧ ys.Perm (xs.take i) ∧ H' d0 = some (.lst ys) ∧ PurseAt H' a (n + 4 * (xs.length - i)) ∧ ∀ c o, c ≠ a → c ≠ d0 → H1 c = some o → H' c = some o) ⟨none, [], rfl, List.Perm.refl _, h1, (hp.same S1), fun _ _ _ _ e => e⟩ (fun i σ' H' _ q => let ⟨_, _, _, _, _, _, S⟩ := q; SqL.of (S _ _ nla ndl (S1 _ _ hl))) ?_ ?_⟩
    · rintro i z σ' H2 H3 hi ⟨u, ys, rfl, pm, hd, hpu, S2⟩ ⟨rfl, hz⟩
      have ly : ys.length = i := by rw [pm.length_eq, List.length_take]; omega
      refine ⟨_, rfl, .inl ⟨rfl, _, SqL.of hd⟩, ?_⟩
      refine ⟨_, rfl, _, rfl, d0, _, rfl, .inl (SqL.of hd), _, _, rfl, rfl, a, _, n + 4 * (xs.length - (i + 1)), rfl, hpu.less (by omega), by omega, by rw [ly]; omega, fun r H4 r0 r1 hp4 S4 => ?_⟩
      have hd4 := S4 _ _ nda hd
      refine ⟨_, rfl, d0, _, r, _, rfl, rfl, hd4, by rw [ly, sizeLine_eq]; omega, r0, by rw [ly] at r1; omega, ?_⟩
      refine ⟨_, ys.take r.toNat ++ z :: ys.drop r.toNat, rfl, ?_, ?_, ?_, fun c o nc nd e => ?_⟩
      · rw [take_snoc hz]
        refine List.Perm.trans ?_ (pm.append_right [z])
        refine List.perm_middle.trans ?_
        show (z :: (List.take r.toNat ys ++ List.drop r.toNat ys)).Perm (ys ++ [z])
        rw [List.take_append_drop]
        exact (List.perm_append_comm (l₁ := [z]) (l₂ := ys))
      · rw [upd_same]
        try simp
      · obtain ⟨p0, p1, p2, e, r⟩ := hp4
        exact ⟨p0, p1, p2, by rw [upd_ne (Ne.symm nda)]; exact e, r⟩
      · rw [upd_ne nd]
        exact S4 _ _ nc (S2 _ _ nc nd e)
    · rintro σ' H2 ⟨u, ys, rfl, pm, hd, hpu, S2⟩
      rw [List.take_length] at pm
      exact ⟨_, rfl, k ys d0 H2 pm hd n1 (hpu.less (by omega)) fun c o nc e => S2 c o nc (ne_of_none e n1) (S1 _ _ e)⟩
end
/-- what _law_clash_right asks of what clash tells -/
structure ToldOk (vl : Vls) (xs : List Sd) (cs1 cs2 : List Int) : Prop where
  nd : (vl.map (·.1)).Nodup
  mem : ∀ z, z ∈ vl.map (·.1) ↔ InLets xs z
  bd : AllV (fun n => 1 ≤ n ∧ n.natAbs < 2 ^ 400) vl
  in1 : CellIn vl xs cs1
  in2 : CellIn vl xs cs2
  ne : cs1 ≠ cs2
  eq : spotI vl xs cs1 = spotI vl xs cs2
end E4

set_option Elab.async false
set_option linter.all false
set_option maxRecDepth 100000
set_option maxHeartbeats 1000000
/-! _law_fixed_right -/
namespace E4
open PySem PySem.Spec PyProof.Rows L2
open C8 (Cal Mak Met InsC pe_c pe_mt pe_mt0 call_isC clsBody)
open E3 (PurseAt spPurse spMixed spDraw)
open LamX (Tabs ExtN TabB CodeO)
section
variable {X : Cx} {k j : Nat} {x : Str} {sp : Sp} {p pos : Pos}
end
theorem mk_plainR {C : Addr} {H : Hp} {l : Addr} {ts : List Addr} {xs : List Sd} {R : VK} {E : XK} {x dx : Addr} (hl : H l = some (.lst (ts.map V.ref))) (hx : SdsAt H ts xs) (ok : SdsOk xs) (nx : H x = none) (nd : H dx = none) (ne : dx ≠ x)
    (k : ∀ H', Same H H' → PlAt C H' x (xs.map norm) → R .non H') : spInit C [.ref x, .ref l] (upd (upd H dx (.own x)) x (.ins C dx [])) R E := by
  have S : Same H (upd (upd H dx (.own x)) x (.ins C dx [])) := fun c o e => by
    rw [upd_ne (ne_of_none e nx), upd_ne (ne_of_none e nd)]
    exact e
  exact ⟨x, dx, l, ts, xs, rfl, upd_same, S _ _ hl, hx.same S, ok, fun H' l' ts' S' h1 h2 h3 => k H' (fun c o e => S' c o (ne_of_none e nx) (S _ _ e)) ⟨dx, l', ts', h1, h2, h3⟩⟩
section
variable {P : Program} {w : World} {K : PySem.W.Frag} {mg : Str → Option Value} {base : Heap} {C : Addr}
end
end E4

set_option Elab.async false
set_option linter.all false
set_option maxRecDepth 100000
set_option maxHeartbeats 1000000
/-! frames: a purse drawn from, new things changed -/
namespace E4
open PySem PySem.Spec PyProof.Rows L2
open C8 (Cal Mak Met InsC pe_c pe_mt pe_mt0 call_isC clsBody)
open E3 (PurseAt spPurse spMixed spDraw)
open LamX (Tabs ExtN TabB CodeO)
/-- all but the purse (and tables) stays -/
def FrP (p : Addr) (H H' : Hp) : Prop := ∀ c o, c ≠ p → H c = some o → (∀ ps, o ≠ .tbl ps) → H' c = some o
theorem FrP.refl (p : Addr) (H : Hp) : FrP p H H := fun _ _ _ e _ => e
theorem FrP.trans {p : Addr} {H1 H2 H3 : Hp} (a : FrP p H1 H2) (b : FrP p H2 H3) : FrP p H1 H3 := fun c o n e t => b c o n (a c o n e t) t
theorem FrP.ofB {p : Addr} {H H' : Hp} (h : SameB p H H') : FrP p H H' := fun c o n e _ => h c o n e
/-- this address was not taken there -/
def Frsh (p : Addr) (H : Hp) (D : Addr) : Prop := D ≠ p ∧ ∀ o, H D = some o → ∃ ps, o = .tbl ps
theorem FrP.upd {p D : Addr} {H H' : Hp} {v : HO} (h : FrP p H H') (f : Frsh p H D) : FrP p H (upd H' D v) := fun c o n e t => by
  have nD : c ≠ D := fun q => by
    subst q
    obtain ⟨ps, e2⟩ := f.2 o e
    exact t ps e2
  rw [upd_ne nD]
  exact h c o n e t
theorem Frsh.of {p D : Addr} {n : Nat} {H H' : Hp} (h : FrP p H H') (hp : PurseAt H' p n) (nt : NewT H' D) : Frsh p H D := by
  have ne : D ≠ p := fun q => by
    subst q
    obtain ⟨p0, p1, p2, e, _⟩ := hp
    obtain ⟨ps, e2⟩ := nt _ e
    cases e2
  refine ⟨ne, fun o e => ?_⟩
  by_cases t : ∀ ps, o ≠ .tbl ps
  · exact nt o (h D o ne e t)
  · exact Classical.byContradiction fun no => t fun ps e2 => no ⟨ps, e2⟩
theorem sortT_of_perm' {l m : List Str} (h : l.Perm m) : sortT l = sortT m :=
  List.Perm.eq_of_pairwise (le := fun a b => leT a b = true) (fun _ _ _ _ => leT_anti) (sortT_pw l) (sortT_pw m) ((sortT_perm l).trans (h.trans (sortT_perm m).symm))
end E4

set_option Elab.async false
set_option linter.all false
set_option maxRecDepth 100000
set_option maxHeartbeats 1000000
/-! list.remove of something that stands in the heap as data -/
namespace L2
open PySem PySem.Spec PyProof.Rows
end L2

set_option Elab.async false
set_option linter.all false
set_option maxRecDepth 100000
set_option maxHeartbeats 1000000
set_option exponentiation.threshold 5000
/-! _law_many_cells, _law_full -/
namespace E4
open PySem PySem.Spec PyProof.Rows L2
open C8 (Cal Mak Met InsC pe_c pe_mt pe_mt0 call_isC clsBody)
section
variable {P : Program} {w : World} {K : PySem.W.Frag} {mg : Str → Option Value} {base : Heap}
end
end E4

set_option Elab.async false
set_option linter.all false
set_option maxRecDepth 100000
set_option maxHeartbeats 1000000
/-! full rows: each step the one before times its size -/
namespace E4
open PySem PySem.Spec PyProof.Rows L2
/-- rows with two cells or more, the steps one after the other from s on -/
def FullCh : List Str → List Sd → Prop
  | _, [] => True
  | s, r :: rs => r.2.2.Perm s ∧ r.2.1 ≠ [] ∧ FullCh (r.2.1 ++ r.2.2) rs
theorem FullCh.long : ∀ {O : List Sd} {s : List Str}, FullCh s O → ∀ r ∈ O, s.length ≤ sl r
  | [], _, _ => fun _ h => absurd h List.not_mem_nil
  | r :: rs, s, h => by
    intro q hq
    have l1 := h.1.length_eq
    have l2 := List.length_pos_iff.mpr h.2.1
    rcases List.mem_cons.mp hq with rfl | hq
    · show s.length ≤ q.2.2.length; omega
    · have := h.2.2.long q hq
      rw [List.length_append] at this
      omega
theorem FullCh.pw : ∀ {O : List Sd} {s : List Str}, FullCh s O → O.Pairwise fun a b => sl a < sl b
  | [], _, _ => List.Pairwise.nil
  | r :: rs, s, h => by
    refine List.pairwise_cons.mpr ⟨fun q hq => ?_, h.2.2.pw⟩
    have := h.2.2.long q hq
    have l2 := List.length_pos_iff.mpr h.2.1
    rw [List.length_append] at this
    show r.2.2.length < _
    omega
/-- what hole asks of a full table -/
theorem FullCh.at : ∀ {O : List Sd} {s : List Str}, FullCh s O → ∀ (j : Nat) (y : Sd), O[j]? = some y → y.2.2.Perm ((O.take j).flatMap (·.2.1) ++ s)
  | r :: rs, s, h, 0, y, e => by cases e; exact h.1
  | r :: rs, s, h, j + 1, y, e => by
    have := h.2.2.at j y e
    rw [List.take_succ_cons, List.flatMap_cons]
    refine this.trans ?_
    have p2 : (r.2.1 ++ r.2.2).Perm (r.2.1 ++ s) := List.Perm.append_left _ h.1
    refine (List.Perm.append_left _ p2).trans ?_
    rw [← List.append_assoc]
    exact List.Perm.append_right _ List.perm_append_comm
end E4

set_option Elab.async false
set_option linter.all false
set_option maxRecDepth 100000
set_option maxHeartbeats 1000000
/-! mathematics of holes: full rows are those without one; no cell stands at one -/
namespace E4
open PySem PySem.Spec PyProof.Rows L2
def NoHole (O : List Sd) : Prop := ∀ (j : Nat) y, O[j]? = some y → sortT (dn O j) = y.2.2
end E4

set_option Elab.async false
set_option linter.all false
set_option maxRecDepth 100000
set_option maxHeartbeats 1000000
/-! is_letter, letter, number, right_side -/
namespace E2
open PySem PySem.Spec PyProof.Rows L2
open C8 (Cal Mak Met InsC pe_c pe_mt pe_mt0 call_isC clsBody)
theorem iteP {p : Prop} [Decidable p] {A B : Prop} (hp : p) (h : B) : if (!decide p) = true then A else B := by
  rw [decide_eq_true hp]
  exact h
theorem iteN {p : Prop} [Decidable p] {A B : Prop} (hp : ¬ p) (h : A) : if (!decide p) = true then A else B := by
  rw [decide_eq_false hp]
  exact h
/-- a letter -/
def LetOk (z : Str) : Prop := 1 ≤ z.length ∧ z.length ≤ 10 ∧ ∀ c ∈ z.cps.toList, 97 ≤ c ∧ c ≤ 122
/-- more names that the module leaves alone -/
structure Bt2 (mg : Str → Option Value) : Prop where
  str_ : mg "str" = none
  len_ : mg "len" = none
  all_ : mg "all" = none
def spIsLet : Sp := fun vs H Q _ => ∃ z : Str, vs = [.str z] ∧ LetOk z ∧ ∀ H', Same H H' → Q (.bl true) H'
section
variable {P : Program} {w : World} {K : PySem.W.Frag} {mg : Str → Option Value} {base : Heap} {C : Addr}
theorem kit_ss : PySem.W.kitOne K (.type "str") (.type "str") = some true := by kernel_rfl
theorem scIsLet : FnScope ["name", "sign"] ["name"] (defScope sIsLetter) := ⟨rfl, rfl, rfl, by decide +kernel, rfl, by decide +kernel, by decide +kernel⟩
abbrev rLeS : R2 := fun x y H Q => ∃ i j, x = .str i ∧ y = .str j ∧ Q (.bl (!decide (j.cps.toList < i.cps.toList))) H
theorem ok_isLet {f : Addr} {fd : FuncData} (F : Fun K "is_letter" "is_letter" sIsLetter f fd) (B : Bt K mg C) (B2 : Bt2 mg) : FnOk P w K mg base CX0 1 f fd ["name"] spIsLet := by
  refine F.ok scIsLet (fun vs H Q E h => ?_) (fun cdv A outer s H vs Q E hr h => ?_)
  · obtain ⟨z, rfl, _⟩ := h
    rfl
  · obtain ⟨z, rfl, ⟨l1, l2, hc⟩, k⟩ := h
    refine ⟨_, pss_cons (ps_if (PW.pt (pw_or (pt_not (pt_val (pe_callB call_isi (by rfl) B.isi (by decide +kernel) (pa_cons (pv 0) (pa_cons (pe_bltn (v := .ty "str") (by rfl) B2.str_ (by decide +kernel) rfl) pa_nil)))))
        (pw_or1 (pt_not (pt_chain op_le op_le pe_int (pe_callB call_len_str (by rfl) B2.len_ PySem.boot_len (pa_cons (pv 0) pa_nil)) pe_int))))) (pss_one (ps_ret pe_bl)) pss_nil)
      (pss_one (ps_ret (pe_callB (cr_all rfl) (by rfl) B2.all_ (by decide +kernel) (pa_cons (pe_lc (own := [("sign", 1)]) (g := gName 1) (tt := tYes) (te := tChain rLeS rLeS (tC (.str "a")) (tVar 1) (tC (.str "z"))) rfl scIsLet.nd (pi_str (pv 0))
        (blkOk_by (own := [("sign", 1)]) (N := ["name", "sign"]) (sc := defScope sIsLetter) (by decide +kernel))
        (fun _ _ _ _ _ => pg_name (i := 1) scIsLet.nd rfl (Or.inl rfl)) (fun _ _ _ _ _ => pts_nil) (fun _ _ _ _ _ => by exact pe_chain op_le_str op_le_str pe_str (pv 1) pe_str)) pa_nil)))), ?_⟩
    have hz : z.length ≤ sizeLine := by rw [sizeLine_eq]; omega
    refine ⟨_, rfl, _, _, _, _, true, rfl, .ty "str", .base (.str z), kit_ss, true, rfl, iteF ?_⟩
    refine ⟨_, rfl, z, rfl, hz, _, _, rfl, rfl, _, rfl, iteD (fun _ => ?_) (fun h => absurd (by omega) h)⟩
    refine ⟨_, _, rfl, rfl, _, rfl, iteP (by omega) ?_⟩
    refine ⟨_, rfl, z, rfl, fun D nD => lc_it walk_str (fun i H' => Same H H' ∧ H' D = some (.lst (List.replicate i (V.bl true)))) ⟨Same.upd nD, upd_same⟩ (fun _ _ _ _ => trivial) ?_ ?_⟩
    · rintro i x H1 H1' hi ⟨S, hD⟩ ⟨rfl, c, hcz, rfl⟩
      have hm : c ∈ z.cps.toList := by
        rw [← Array.getElem?_toList] at hcz
        exact List.mem_of_getElem? hcz
      obtain ⟨c1, c2⟩ := hc c hm
      have n1 : ¬ ((⟨#[c]⟩ : Str).cps.toList < ("a" : Str).cps.toList) := by
        show ¬ ([c] < [97])
        rw [List.cons_lt_cons_iff]
        rintro (h | ⟨_, h⟩)
        · omega
        · exact absurd h (by decide)
      have n2 : ¬ (("z" : Str).cps.toList < (⟨#[c]⟩ : Str).cps.toList) := by
        show ¬ ([122] < [c])
        rw [List.cons_lt_cons_iff]
        rintro (h | ⟨_, h⟩)
        · omega
        · exact absurd h (by decide)
      refine ⟨rfl, iteT (B := False) ⟨_, rfl, _, _, rfl, rfl, _, rfl, iteN n1 ⟨_, _, rfl, rfl, _, hD, ?_, ?_, ?_⟩⟩⟩
      · rw [List.length_replicate]
        have : i < z.length := hi
        omega
      · intro b o hb
        rw [upd_ne (ne_of_none hb nD)]
        exact S _ _ hb
      · rw [upd_same, decide_eq_false n2, List.replicate_succ']
        rfl
    · rintro H1 ⟨S, hD⟩
      refine ⟨D, List.replicate z.cps.size true, rfl, SqL.of ?_, ?_⟩
      · rw [List.map_replicate]
        exact hD
      · rw [show (List.replicate z.cps.size true).all id = true by simp]
        exact k H1 S
def spNumber (P : Program) (w : World) (K : PySem.W.Frag) (C : Addr) : Sp := fun vs H Q _ => ∃ n : Int, vs = [.int n] ∧ ∀ H' b, Same H H' → H b = none → FmAt P w K C H' b (if n = 0 then [] else [([], (n : Rat))]) → Q (.ref b) H'
theorem scNumber : FnScope ["value"] ["value"] (defScope sNumber) := ⟨rfl, rfl, rfl, by decide +kernel, rfl, by decide +kernel, by decide +kernel⟩
theorem ok_number {f : Addr} {fd : FuncData} (F : Fun K "number" "number" sNumber f fd) (T : Fx P w K mg base C) (Wh : Cal P w K mg base 1 "is_whole" (spWhole C) []) (Wo : Cal P w K mg base 1 "without_noughts" (spWithout P w K) []) : FnOk P w K mg base CX0 3 f fd ["value"] (spNumber P w K C) := by
  refine F.ok scNumber (fun vs H Q E h => ?_) (fun cdv A outer s H vs Q E hr h => ?_)
  · obtain ⟨n, rfl, _⟩ := h
    rfl
  · obtain ⟨n, rfl, k⟩ := h
    refine ⟨_, pss_cons (ps_if (pt_not (pt_val (pe_c Wh hr (by decide) rfl (pa_cons (pv 0) pa_nil)))) (pss_one ps_never) pss_nil)
      (pss_one (ps_ret (pe_mkF T.maks hr (by decide) rfl (pe_c Wo hr (by decide) rfl (pa_cons (pe_dispN (Nat.lt_of_le_of_lt (Nat.le_add_right _ 64) hr.units) (pe_tupN pa_nil) (pe_tupS (pa_cons (pv 0) (pa_cons pe_int pa_nil)))) pa_nil))))), ?_⟩
    refine ⟨_, rfl, _, rfl, .inl ⟨n, rfl, true, rfl, iteF ?_⟩⟩
    refine fun p np => ⟨(by show 0 ≤ sizeLine; decide), fun t H1 S1 n1 h1 => ⟨_, rfl, (by show 2 ≤ sizeLine; decide), fun u H2 S2 n2 h2 => ?_⟩⟩
    have hp := S2 _ _ (S1 _ _ (upd_same (H := H) (a := p) (o := DfO P w p [])))
    refine ⟨hp, [], t, u, rfl, rfl, (h1.same S2).sq, ?_⟩
    have SA : Same H (upd H2 p (DfO P w p [([], t, u)])) := by
      intro b o hb
      rw [upd_ne (ne_of_none hb np)]
      exact S2 _ _ (S1 _ _ (Same.upd np _ _ hb))
    refine ⟨p, _, [([], (n : Rat))], rfl, upd_same, .cons ⟨rfl, (h1.same S2).off hp (fun o => noTup_df.2 o _), SqT.off (SqT.of h2) hp (noTup_df.1 _) (fun o => noTup_df.2 o _)⟩ .nil, ?_, by show 1 ≤ sizeLine; decide, fun H3 D kvs' S3 nD hD kv a dx H4 S4 na ha => ?_⟩
    · exact List.nodup_cons.mpr ⟨List.not_mem_nil, List.nodup_nil⟩
    · refine k H4 a ((SA.trans S3).trans S4) ((SA.trans S3).free na) ⟨dx, D, kvs', ha, S4 _ _ hD, ?_⟩
      have e : mapM (fun q => !decide (q = 0)) id [([], (n : Rat))] = if n = 0 then [] else [([], (n : Rat))] := by
        by_cases h : n = 0
        · subst h
          rfl
        · have h2 : ¬ ((n : Rat) = 0) := fun e => h (Rat.intCast_inj.mp (e.trans (by rfl : (0 : Rat) = ((0 : Int) : Rat))))
          rw [if_neg h]
          unfold mapM
          rw [List.filter_cons, if_pos (by show (!decide ((n : Rat) = 0)) = true; rw [decide_eq_false h2]; rfl)]
          rfl
      rw [e] at kv
      exact kv.same S4
/-- the terms of a whole number -/
def numM (n : Int) : Fm := if n = 0 then [] else [([], (n : Rat))]
def spRight (P : Program) (w : World) (K : PySem.W.Frag) (C : Addr) : Sp := fun vs H Q _ => ∃ v, vs = [v] ∧ ((∃ n : Int, v = .int n ∧ ∀ H' b, Same H H' → H b = none → FmAt P w K C H' b (numM n) → Q (.ref b) H') ∨ ∃ a dx fs, v = .ref a ∧ H a = some (.ins C dx fs) ∧ Q (.ref a) H)
theorem scRight : FnScope ["other"] ["other"] (defScope sRightSide) := ⟨rfl, rfl, rfl, by decide +kernel, rfl, by decide +kernel, by decide +kernel⟩
theorem ok_right {f : Addr} {fd : FuncData} (F : Fun K "right_side" "right_side" sRightSide f fd) (B : Bt K mg C) (Wh : Cal P w K mg base 1 "is_whole" (spWhole C) []) (Nu : Cal P w K mg base 3 "number" (spNumber P w K C) []) : FnOk P w K mg base CX0 4 f fd ["other"] (spRight P w K C) := by
  refine F.ok scRight (fun vs H Q E h => ?_) (fun cdv A outer s H vs Q E hr h => ?_)
  · obtain ⟨v, rfl, _⟩ := h
    rfl
  · obtain ⟨v, rfl, k⟩ := h
    refine ⟨_, pss_cons (ps_if (pt_val (pe_c Wh hr (by decide) rfl (pa_cons (pv 0) pa_nil))) (pss_one (ps_ret (pe_c Nu hr (by decide) rfl (pa_cons (pv 0) pa_nil)))) pss_nil)
      (pss_cons (ps_if (pt_not (pt_val (pe_callB (call_isC B.ins) (by rfl) B.isi (by decide +kernel) (pa_cons (pv 0) (pa_cons (pe_glob (v := .ref C) (by rfl) B.mgF rfl) pa_nil))))) (pss_one ps_never) pss_nil)
      (pss_one (ps_ret (pv 0)))), ?_⟩
    rcases k with ⟨n, rfl, q⟩ | ⟨a, dx, fs, rfl, ha, q⟩
    · exact ⟨_, rfl, _, rfl, .inl ⟨n, rfl, true, rfl, iteT (B := False) ⟨_, rfl, n, rfl, q⟩⟩⟩
    · exact ⟨_, rfl, _, rfl, .inr ⟨a, dx, fs, rfl, ha, false, rfl, iteF ⟨_, rfl, a, dx, fs, rfl, ha, true, rfl, iteF ⟨_, rfl, q⟩⟩⟩⟩
end
end E2

set_option Elab.async false
set_option linter.all false
set_option maxRecDepth 100000
set_option maxHeartbeats 1000000
/-! {names: d[names] for names in d}: the copy of a form's dict -/
namespace L2
open PySem PySem.Spec PyProof.Rows
theorem findN_at : ∀ {l : NAV} {i : Nat} {x : List Key × Addr × Addr}, (l.map (·.1)).Nodup → l[i]? = some x → findN l x.1 = some x.2
  | [], _, _, _, h => by cases h
  | y :: r, 0, x, _, h => by
    obtain rfl : y = x := Option.some.inj h
    exact findN_hit rfl
  | y :: r, i + 1, x, hn, h => by
    rw [List.map_cons] at hn
    obtain ⟨h1, h2⟩ := List.nodup_cons.mp hn
    have h' : r[i]? = some x := by simpa using h
    rw [findN_miss fun e => h1 (by rw [e]; exact List.mem_map.mpr ⟨x, List.mem_of_getElem? h', rfl⟩)]
    exact findN_at h2 h'
theorem FmKv.nodup {K : PySem.W.Frag} {H : Hp} {l : NAV} {fm : Fm} (h : FmKv K H l fm) (hn : (fm.map (·.1)).Nodup) : (l.map (·.1)).Nodup := by
  have e : l.map (·.1) = (fm.map (·.1)).map kS := by
    unfold FmKv at h
    clear hn
    induction h with
    | nil => rfl
    | cons r t ih => rw [List.map_cons, List.map_cons, List.map_cons, ih, r.1]
  rw [e]
  exact List.Pairwise.map kS (fun a b n z => n (kS_inj z)) hn
/-- the dict locked, its keys walked by a dict comprehension, the dict open again -/
theorem lock_keys {P : Program} {w : World} {K : PySem.W.Frag} {H : Hp} {d : Addr} {l : NAV} {fm : Fm} {td : TE} {g : TG} {tk tv : TE} {vs : List Nat} {σ : St} {Q : VK}
    (hd : H d = some (DfO P w d l)) (hf : FmKv K H l fm) (hn : (fm.map (·.1)).Nodup) (hz : fm.length ≤ sizeLine)
    (hte : ∀ (od : Obj) (R : VK), R (.ref d) (upd H d (.frz od (DfO P w d l))) → td σ (upd H d (.frz od (DfO P w d l))) R)
    (hs : ∀ (od : Obj) (H1 : Hp), H1 = upd H d (.frz od (DfO P w d l)) → ∀ (i : Nat) (m : MonR) (q : Rat) (H' : Hp) (b a : Addr) (put : V → V → Hp → Prop) (skip : Hp → Prop), fm[i]? = some (m, q) → Same H1 H' → TupN H' b ((kS m).map kV) → GetN P w K H' d (.ref b) (some a) → SqT K H' a (frac q) →
      (∀ H5 (b' a' : Addr), Same H' H5 → TupN H5 b' ((kS m).map kV) → SqT K H5 a' (frac q) → put (.ref b') (.ref a') H5) →
      g (.ref b) (wipe σ vs) H' fun σ2 H2 => wipe σ2 vs = wipe σ vs ∧ tYes σ2 H2 fun c H3 => if c = true then tk σ2 H3 fun y H4 => tv σ2 H4 fun z H5 => put y z H5 else skip H3)
    (hq : ∀ H' D l', Same H H' → H D = none → H' D = some (DfO P w D l') → FmKv K H' l' fm → Q (.ref D) H') :
    tLockE (tDcN P w K (iKeysN P w td) g tYes tk tv vs) σ H Q := by
  refine ⟨d, DfO P w d l, hd, trivial, fun od => ?_⟩
  have hf0 : FmKv K (upd H d (.frz od (DfO P w d l))) l fm := hf.imp (.off hd noTup_df)
  refine hte od _ ⟨d, od, l, rfl, upd_same, fun D nD => ?_⟩
  have neD : D ≠ d := by
    rintro rfl
    rw [upd_same] at nD
    cases nD
  have nD' : H D = none := by rwa [upd_ne neD] at nD
  have h1 : (upd H d (.frz od (DfO P w d l))) d = some (.frz od (DfO P w d l)) := upd_same
  generalize hH1 : upd H d (.frz od (DfO P w d l)) = H1 at hf0 nD h1 ⊢
  refine dcN_it walk_keysN (fun i H' => Same H1 H' ∧ ∃ l', H' D = some (DfO P w D l') ∧ FmKv K H' l' (fm.take i)) ⟨Same.upd nD, [], upd_same, .nil⟩ (fun i H _ q => q.1 _ _ h1) ?_ ?_
  · rintro i x H0 H' hi ⟨S, l', hD', kv'⟩ ⟨rfl, k, qb, av, hkv, rfl⟩
    obtain ⟨m, q, b, a, hm, e, tb, sa⟩ := hf0.get hkv
    obtain ⟨rfl, e2⟩ := Prod.mk.inj e
    obtain ⟨rfl, rfl⟩ := Prod.mk.inj e2
    have tk1 := take_snoc hm
    have hil : i < fm.length := by rw [← hf.length]; exact hi
    have dg : GetN P w K H' d (.ref qb) (some av) := ⟨l, qb, kS m, .inr ⟨od, S _ _ h1⟩, (hf0.same S).keys, rfl, (tb.same S).sq, by rw [findN_at (hf.nodup hn) hkv]; rfl⟩
    refine hs od H1 hH1.symm i m q H' qb av _ _ hm S (tb.same S) dg (sa.same S) fun H5 b' a' S5 hb' sa' => ?_
    refine ⟨l', kS m, b', a', rfl, rfl, hb'.sq, S5 _ _ hD', (kv'.same S5).keys, ?_, ?_, ?_⟩
    · rw [kv'.length, List.length_take]
      omega
    · intro c u e
      rw [upd_ne (ne_of_none e nD)]
      exact S5 _ _ (S _ _ e)
    · refine ⟨_, upd_same, ?_⟩
      rw [tk1]
      have k6 := (kv'.same S5).put m hb' sa'
      rw [putM_new _ (nodup_new hn hm)] at k6
      exact k6.imp (.off (S5 _ _ hD') noTup_df)
  · rintro H' ⟨S, l', hD', kv'⟩
    rw [hf.length, List.take_length] at kv'
    subst hH1
    refine ⟨S _ _ h1, hq _ D l' (same_back hd S) nD' (by rw [upd_ne neD]; exact hD') ?_⟩
    exact kv'.imp (.off (S _ _ h1) noTup_fz)
end L2

set_option Elab.async false
set_option linter.all false
set_option maxRecDepth 100000
set_option maxHeartbeats 1000000
/-! a + b -/
namespace E2
open PySem PySem.Spec PyProof.Rows L2
open C8 (Cal Mak Met InsC pe_c pe_mt pe_mt0 call_isC clsBody)
abbrev nz : Rat → Bool := fun q => !decide (q = 0)
/-- what stands on the right: a whole number, or a form -/
def RightV (P : Program) (w : World) (K : PySem.W.Frag) (C : Addr) (H : Hp) (v : V) (fm : Fm) : Prop := (∃ n : Int, v = .int n ∧ fm = numM n) ∨ ∃ b, v = .ref b ∧ FmAt P w K C H b fm
theorem right_of {P : Program} {w : World} {K : PySem.W.Frag} {C : Addr} {H : Hp} {v : V} {fm : Fm} {Q : VK} {E : XK} (h : RightV P w K C H v fm) (k : ∀ H0 b, Same H H0 → FmAt P w K C H0 b fm → Q (.ref b) H0) : spRight P w K C [v] H Q E := by
  rcases h with ⟨n, rfl, rfl⟩ | ⟨b, rfl, hb⟩
  · exact ⟨_, rfl, .inl ⟨n, rfl, fun H' b S _ hb => k H' b S hb⟩⟩
  · obtain ⟨dx, d, kvs, ha, hd, hf⟩ := hb
    exact ⟨_, rfl, .inr ⟨b, dx, _, rfl, ha, k H b (Same.refl H) ⟨dx, d, kvs, ha, hd, hf⟩⟩⟩
/-- sizes that the fractions' arithmetic takes -/
structure Szs (fm1 fm2 : Fm) : Prop where
  n1 : (fm1.map (·.1)).Nodup
  n2 : (fm2.map (·.1)).Nodup
  len : fm1.length + fm2.length < sizeLine
  bq : ∃ D M N, 0 < D ∧ D < 2 ^ 4000 ∧ M + fm2.length * N < 2 ^ 400000 ∧ N < 2 ^ 400000 ∧ (∀ x ∈ fm1, Bq D M x.2) ∧ ∀ x ∈ fm2, Bq D N x.2
def spAdd (P : Program) (w : World) (K : PySem.W.Frag) (C : Addr) : Sp := fun vs H Q _ => ∃ a v fm1 fm2, vs = [.ref a, v] ∧ FmAt P w K C H a fm1 ∧ RightV P w K C H v fm2 ∧ Szs fm1 fm2 ∧ ∀ H' b, Same H H' → H b = none → FmAt P w K C H' b (mapM nz id (addTo fm1 fm2)) → Q (.ref b) H'
theorem get_or {K : PySem.W.Frag} {H : Hp} {l : NAV} {fm : Fm} {D M : Nat} {t : Addr} (h : FmKv K H l fm) (m : MonR) (ht : SqT K H t (frac 0)) (hb : ∀ y ∈ fm, Bq D M y.2) :
    ∃ p, orV ((findN l (kS m)).map (·.2)) (.ref t) = .ref p ∧ SqT K H p (frac ((valM fm m).getD 0)) ∧ Bq D M ((valM fm m).getD 0) := by
  rcases h.val m with ⟨e1, e2⟩ | ⟨b, a, q, e1, e2, sa⟩
  · rw [e1, e2]
    exact ⟨t, rfl, ht, Bq.zero.mono (Nat.zero_le _)⟩
  · rw [e1, e2]
    exact ⟨a, rfl, sa, hb _ (mem_valM e2)⟩
section
variable {P : Program} {w : World} {K : PySem.W.Frag} {mg : Str → Option Value} {base : Heap} {C : Addr}
theorem scAdd : FnScope ["self", "other", "right", "parts", "names", "worth"] ["self", "other"] (defScope sAdd) := ⟨rfl, rfl, rfl, by decide +kernel, rfl, by decide +kernel, by decide +kernel⟩
theorem ok_add {f : Addr} {fd : FuncData} (F : Fun K "__add__" "Form.__add__" sAdd f fd) (T : Fx P w K mg base C) (R : Cal P w K mg base 4 "right_side" (spRight P w K C) []) (Fs : Cal P w K mg base 2 "fraction_sum" (spFrac K (· + ·)) []) (Wo : Cal P w K mg base 1 "without_noughts" (spWithout P w K) []) : FnOk P w K mg base CX0 5 f fd ["self", "other"] (spAdd P w K C) := by
  refine F.ok scAdd (fun vs H Q E h => ?_) (fun cdv A outer s H vs Q E hr h => ?_)
  · obtain ⟨a, v, fm1, fm2, rfl, _⟩ := h
    rfl
  · obtain ⟨a, v0, fm1, fm2, rfl, ⟨dx, d, kvs, ha, hd, hf⟩, hv, Z, k⟩ := h
    have u1 := Nat.lt_of_le_of_lt (Nat.add_le_add_left (by decide : 1 ≤ 64) _) hr.units
    refine ⟨_, pss_cons (ps_set (i := 2) scAdd.nd rfl (Or.inl rfl) (pe_c R hr (by decide) rfl (pa_cons (pv 1) pa_nil)))
      (pss_cons (ps_lock (ps_dcN (i := 3) (swD_true rfl rfl rfl (by rfl)) (own := [("names", 4)]) (g := gName 4) (tt := tYes) (tk := tVar 4) (tv := tOp (rDf P w K) (tFld K (tVar 0) "_parts") (tVar 4)) (Nat.lt_of_le_of_lt (Nat.le_add_right _ 64) hr.units) rfl scAdd.nd rfl rfl (pi_keysN (pe_fld (pv 0) rfl))
        (blkOk_by (own := [("names", 4)]) (N := ["self", "other", "right", "parts", "names", "worth"]) (sc := defScope sAdd) (by decide +kernel))
        ⟨fun _ _ _ _ _ => pg_name (i := 4) scAdd.nd rfl (Or.inl rfl), fun _ _ _ _ _ => pts_nil, fun _ _ _ _ _ => pv 4, fun _ _ _ _ _ => by exact pe_ix (ix_df u1) (pe_fld (pv 0) rfl) (pv 4) (fun _ _ => rfl)⟩))
      (pss_cons (ps_lock (ps_for PassesOwn.never rfl (pi_itemsN (pe_fld (pv 2) rfl)) (pg_tup rfl (pgs_cons (pg_name (i := 4) scAdd.nd rfl (Or.inl rfl)) (pgs_cons (pg_name (i := 5) scAdd.nd rfl (Or.inl rfl)) pgs_nil)))
        (pss_one (ps_asg (pe_c Fs hr (by decide) rfl (pa_cons (pe_get2N u1 (pv 3) (pv 4) (pe_tupS (pa_cons pe_int (pa_cons pe_int pa_nil))) ⟨rfl, rfl, rfl, rfl⟩) (pa_cons (pv 5) pa_nil))) (pg_sub (pv 3) (pv 4) (set_df u1))))))
      (pss_one (ps_ret (pe_mkF T.maks hr (by decide) rfl (pe_c Wo hr (by decide) rfl (pa_cons (pv 3) pa_nil))))))), ?_⟩
    refine seq_asg (call_one rfl (right_of hv fun H0 b S0 hb => ?_))
    have hd0 : H0 d = some (DfO P w d kvs) := S0 _ _ hd
    refine seq_lockasg ?_
    refine lock_keys hd0 (hf.same S0) Z.n1 (by have := Z.len; omega) (fun od R h => ⟨_, rfl, a, C, dx, _, _, rfl, by rw [upd_ne (ne_of ha hd (by intro z; cases z))]; exact S0 _ _ ha, T.cl, T.na, rfl, h⟩) ?_ ?_
    · rintro od H1 rfl i m q H' b1 a1 put skip hm S hb1 dg sa hput
      refine ⟨rfl, iteT (B := False) ?_⟩
      refine ⟨_, rfl, _, rfl, a, C, dx, _, _, rfl, S _ _ (by rw [upd_ne (ne_of ha hd (by intro z; cases z))]; exact S0 _ _ ha), T.cl, T.na, rfl, _, rfl, d, _, rfl, dg, hput H' b1 a1 (Same.refl H') hb1 sa⟩
    · intro H1 D kvs1 S1 nD hD kv1
      obtain ⟨dx2, d2, kvs2, hb1, hd2, hf2⟩ := hb
      have neD : D ≠ d2 := by
        rintro rfl
        rw [nD] at hd2
        cases hd2
      have hd21 := S1 _ _ hd2
      have hb11 := S1 _ _ hb1
      obtain ⟨Dn, M, N, hD0, hD4, hMN, hN, hq1, hq2⟩ := Z.bq
      refine seq_for_items (l := kvs2) (fm := fm2) (d := d2) hd21 (hf2.same S1) (fun od R h => ⟨_, rfl, b, C, dx2, _, _, rfl, by rw [upd_ne (ne_of hb11 hd21 (by intro z; cases z))]; exact hb11, T.cl, T.na, rfl, h⟩)
        (fun od i σ' H' => (∃ u v, σ' = [some (.ref a), some v0, some (.ref b), some (.ref D), u, v]) ∧ SameB D (upd H1 d2 (.frz od (DfO P w d2 kvs2))) H' ∧ ∃ kvs', H' D = some (DfO P w D kvs') ∧ FmKv K H' kvs' (addTo fm1 (fm2.take i))) ?_ ?_ ?_ ?_
      · intro od
        refine ⟨⟨none, none, rfl⟩, SameB.refl _ _, kvs1, by rw [upd_ne neD]; exact hD, ?_⟩
        exact kv1.imp (.off hd21 noTup_df)
      · rintro od i σ' H' ⟨_, S, _⟩
        exact ⟨S _ _ (Ne.symm neD) upd_same, .sameB S (by rw [upd_ne neD]; exact hD) noTup_df⟩
      · rintro od i m q σ' H' T b2 a2 rt bk hm ⟨⟨u, v, rfl⟩, S, kvs', hD', kv'⟩ nT hb2 sa2
        have S2 : Same H' (upd H' T (.tup [.ref b2, .ref a2])) := Same.upd nT
        refine ⟨T, _, rfl, SqT.of upd_same, rfl, _, _, rfl, _, _, rfl, rfl, ?_⟩
        refine ⟨_, rfl, D, kvs', rfl, .inl (S2 _ _ hD'), _, rfl, (by show 2 ≤ sizeLine; decide), fun t H3 S3 n3 h3 => ?_⟩
        have hD3 := S3 _ _ (S2 _ _ hD')
        have kv3 := (kv'.same S2).same S3
        have tb2 := (hb2.same S2).same S3
        refine ⟨_, ⟨kvs', b2, kS m, .inl hD3, kv3.keys, rfl, tb2.sq, rfl⟩, ?_⟩
        have hil : i < fm2.length := (List.getElem?_eq_some_iff.mp hm).1
        have tl : (fm2.take i).length = i := by rw [List.length_take]; omega
        obtain ⟨p0, e0, sp, bq0⟩ := get_or kv3 m (SqT.of h3) (bq_addTo (fm2.take i) fm1 M hq1 fun y hy => hq2 y (List.mem_of_mem_take hy))
        rw [e0]
        have bq1 := hq2 _ (List.mem_of_getElem? hm)
        have le0 : M + (fm2.take i).length * N < 2 ^ 400000 := Nat.lt_of_le_of_lt (Nat.add_le_add_left (Nat.mul_le_mul_right _ (by rw [tl]; omega)) _) hMN
        refine ⟨_, rfl, p0, a2, _, q, rfl, sp, (sa2.same S2).same S3, Nat.lt_of_le_of_lt (bq0.num_le hD0) le0, Nat.lt_of_le_of_lt (bq1.num_le hD0) hN, Nat.lt_of_le_of_lt (bq0.den_le hD0) hD4, Nat.lt_of_le_of_lt (bq1.den_le hD0) hD4, fun p5 H5 S5 n5 h5 => ?_⟩
        have hD5 := S5 _ _ hD3
        have ll := length_addTo (fm2.take i) fm1
        refine ⟨_, rfl, _, rfl, D, b2, _, kvs', kS m, rfl, rfl, rfl, hD5, (kv3.same S5).keys, (tb2.same S5).sq, (by rw [kv'.length]; have := Z.len; omega), ⟨_, _, rfl⟩, (((S.to S2).to S3).to S5).upd, _, upd_same, ?_⟩
        rw [take_addTo hm]
        exact ((kv3.same S5).put m (tb2.same S5) (SqT.of h5)).imp (.off hD5 noTup_df)
      · rintro od σ' H' ⟨⟨u, v, rfl⟩, S, kvs', hD', kv'⟩
        rw [List.take_length] at kv'
        have hl2 : H' d2 = some (.frz od (DfO P w d2 kvs2)) := S _ _ (Ne.symm neD) upd_same
        have SH : Same H (upd H' d2 (DfO P w d2 kvs2)) := by
          intro c o e
          have e0 := S0 _ _ e
          have nc : c ≠ D := by
            rintro rfl
            rw [nD] at e0
            cases e0
          by_cases c2 : c = d2
          · subst c2
            rw [upd_same]
            rw [hd2] at e0
            exact e0
          · rw [upd_ne c2]
            exact S _ _ nc (by rw [upd_ne c2]; exact S1 _ _ e0)
        have nDH : ∀ {c : Addr}, upd H' d2 (DfO P w d2 kvs2) c = none → H c = none := fun {c} n => SH.free n
        refine ret_mkF ?_
        refine call_one rfl ⟨D, kvs', addTo fm1 fm2, rfl, by rw [upd_ne neD]; exact hD', kv'.imp (.off hl2 noTup_fz), nodup_addTo _ _ Z.n1, Nat.le_of_lt (Nat.lt_of_le_of_lt (length_addTo _ _) Z.len), fun H4 D4 kvs4 S4 nD4 hD4 kv4 b5 dx5 H5 S5 nb5 hb5 => ?_⟩
        exact k H5 b5 ((SH.trans S4).trans S5) ((SH.trans S4).free nb5) ⟨dx5, D4, kvs4, hb5, S5 _ _ hD4, kv4.same S5⟩
end
end E2

set_option Elab.async false
set_option linter.all false
set_option maxRecDepth 100000
set_option maxHeartbeats 1000000
/-! for .. in d.items(), where d may be walked already; products of forms: the mathematics -/
namespace L2
open PySem PySem.Spec PyProof.Rows
/-- Hl is H, d's dict locked -/
structure Lk (P : Program) (w : World) (d : Addr) (l : NAV) (od : Obj) (H Hl : Hp) : Prop where
  at_ : Hl d = some (.frz od (DfO P w d l))
  off : ∀ b, b ≠ d → Hl b = H b
/-- a product of two terms, its letters sorted -/
def MulT (z : MonR × Rat) (xy : (MonR × Rat) × (MonR × Rat)) : Prop := z.1.Perm (xy.1.1 ++ xy.2.1) ∧ sortedS z.1 = true ∧ z.2 = xy.1.2 * xy.2.2
def allP (a b : Fm) : List ((MonR × Rat) × (MonR × Rat)) := a.flatMap fun x => b.map fun y => (x, y)
end L2

set_option Elab.async false
set_option linter.all false
set_option maxRecDepth 100000
set_option maxHeartbeats 1000000
/-! a * b -/
namespace E2
open PySem PySem.Spec PyProof.Rows L2
open C8 (Cal Mak Met InsC pe_c pe_mt pe_mt0 call_isC clsBody)
structure Bt3 (mg : Str → Option Value) : Prop where
  tup_ : mg "tuple" = none
  srt_ : mg "sorted" = none
structure SzM (fm1 fm2 : Fm) : Prop where
  n1 : (fm1.map (·.1)).Nodup
  n2 : (fm2.map (·.1)).Nodup
  len : fm1.length * fm2.length < sizeLine
  keys : ∀ x ∈ fm1, ∀ y ∈ fm2, x.1.length + y.1.length ≤ sizeLine
  bq : ∃ D M E N, 0 < D ∧ 0 < E ∧ D * E < 2 ^ 4000 ∧ fm1.length * fm2.length * (M * N) < 2 ^ 400000 ∧ M * N < 2 ^ 400000 ∧ M < 2 ^ 400000 ∧ N < 2 ^ 400000 ∧ (∀ x ∈ fm1, Bq D M x.2) ∧ ∀ x ∈ fm2, Bq E N x.2
section
variable {P : Program} {w : World} {K : PySem.W.Frag} {mg : Str → Option Value} {base : Heap} {C : Addr}
end
end E2

set_option Elab.async false
set_option linter.all false
set_option maxRecDepth 100000
set_option maxHeartbeats 1000000
/-! is_values, product_at -/
namespace E2
open PySem PySem.Spec PyProof.Rows L2
open C8 (Cal Mak Met InsC pe_c pe_mt pe_mt0 call_isC clsBody)
/-- a dict of letters and whole numbers -/
def ValsOk (kvs : List (Key × V)) : Prop := ∀ kv ∈ kvs, ∃ (z : Str) (n : Int), kv = (Sum.inr z, V.int n) ∧ LetOk z
theorem all_true (n : Nat) : (List.replicate n true).all id = true := by simp
section
variable {P : Program} {w : World} {K : PySem.W.Frag} {mg : Str → Option Value} {base : Heap} {C : Addr}
def spProd (P : Program) (w : World) (K : PySem.W.Frag) : Sp := fun vs H Q _ => ∃ (t d : Addr) (m : List Str) (kvs : List (Key × V)) (g : Str → Int), vs = [.ref t, .ref d] ∧ SqT K H t (m.map V.str) ∧ H d = some (.dK kvs) ∧ (∀ x ∈ m, valV kvs (Sum.inr x) = some (.int (g x))) ∧ m.length ≤ 1000 ∧ (∀ x ∈ m, (g x).natAbs < 2 ^ 400) ∧ Q (.int (prodI (m.map g))) H
theorem scProd : FnScope ["names", "values", "found", "name"] ["names", "values"] (defScope sProductAt) := ⟨rfl, rfl, rfl, by decide +kernel, rfl, by decide +kernel, by decide +kernel⟩
theorem prod_lt (g : Str → Int) : ∀ l : List Str, (∀ x ∈ l, (g x).natAbs < 2 ^ 400) → (prodI (l.map g)).natAbs < 2 ^ (1 + l.length * 400)
  | [], _ => by show (1 : Int).natAbs < 2 ^ (1 + 0 * 400); decide
  | x :: l, h => by
    have ih := prod_lt g l fun y hy => h y (List.mem_cons.mpr (.inr hy))
    have hx := h x (List.mem_cons.mpr (.inl rfl))
    have e := wide_lt (a := 400) (b := 1 + l.length * 400) hx ih
    have e2 : 400 + (1 + l.length * 400) = 1 + (x :: l).length * 400 := by rw [List.length_cons, Nat.add_mul]; omega
    rw [e2] at e
    exact e
theorem ok_prod {f : Addr} {fd : FuncData} (F : Fun K "product_at" "product_at" sProductAt f fd) : FnOk P w K mg base CX0 1 f fd ["names", "values"] (spProd P w K) := by
  refine F.ok scProd (fun vs H Q E h => ?_) (fun cdv A outer s H vs Q E hr h => ?_)
  · obtain ⟨t, d, m, kvs, g, rfl, _⟩ := h
    rfl
  · obtain ⟨t, d, m, kvs, g, rfl, ht, hd, hg, hl, hb, k⟩ := h
    have u1 := Nat.lt_of_le_of_lt (Nat.add_le_add_left (by decide : 1 ≤ 64) _) hr.units
    refine ⟨_, pss_cons (ps_set (i := 2) scProd.nd rfl (Or.inl rfl) pe_int)
      (pss_cons (ps_for PassesOwn.never rfl (pi_tup (pv 0)) (pg_name (i := 3) scProd.nd rfl (Or.inl rfl)) (pss_one (ps_set (i := 2) scProd.nd rfl (Or.inl rfl) (pe_op op_mulW (pv 2) (pe_dget u1 (pv 1) (pv 3) (fun _ _ => rfl))))))
      (pss_one (ps_ret (pv 2)))), ?_⟩
    refine seq_asg ⟨_, rfl, t, rfl, ⟨_, ht⟩, for_it (walk_tup (xs := m.map V.str)) (fun i σ H' => H' = H ∧ ∃ u, σ = [some (.ref t), some (.ref d), some (.int (prodI ((m.take i).map g))), u]) ⟨rfl, none, rfl⟩ ?_ ?_ ?_⟩
    · rintro i σ H' _ ⟨rfl, _⟩
      exact ht
    · rintro i x σ H1 H2 hi ⟨rfl, u, rfl⟩ ⟨rfl, hx⟩
      rw [List.length_map] at hi
      obtain ⟨z, hz, rfl⟩ : ∃ z, m[i]? = some z ∧ x = V.str z := by
        rw [List.getElem?_map] at hx
        obtain ⟨z, hz, e⟩ := Option.map_eq_some_iff.mp hx
        exact ⟨z, hz, e.symm⟩
      have hm := List.mem_of_getElem? hz
      have p1 := prod_lt g (m.take i) fun y hy => hb y (List.mem_of_mem_take hy)
      have tl : (m.take i).length ≤ 1000 := by rw [List.length_take]; omega
      refine ⟨_, rfl, _, rfl, _, rfl, d, _, rfl, by rw [← hg z hm]; exact DGet.k (k := Sum.inr z) hd, _, _, rfl, rfl, cmw p1 (hb z hm) (by omega) (by decide) (by omega), rfl, some (V.str z), ?_⟩
      rw [take_snoc hz, List.map_append, prodI_append]
      show _ = [_, _, some (V.int (_ * (g z * 1))), _]
      rw [Int.mul_one]
      rfl
    · rintro σ H1 ⟨rfl, u, rfl⟩
      rw [List.length_map, List.take_length]
      exact ⟨_, rfl, k⟩
end
end E2

set_option Elab.async false
set_option linter.all false
set_option maxRecDepth 100000
set_option maxHeartbeats 1000000
/-! a.at(values) -/
namespace L2
open PySem PySem.Spec PyProof.Rows
end L2

set_option Elab.async false
set_option linter.all false
set_option maxRecDepth 100000
set_option maxHeartbeats 1000000
/-! a.at(values) -/
namespace L2
open PySem PySem.Spec PyProof.Rows
end L2
namespace E2
open PySem PySem.Spec PyProof.Rows L2
open C8 (Cal Mak Met InsC pe_c pe_mt pe_mt0 call_isC clsBody)
/-- few letters -/
def LetsIn (fm : Fm) : Prop := ∃ names : List Str, names.length ≤ 1000 ∧ ∀ x ∈ fm, ∀ z ∈ x.1, z ∈ names
theorem nodup_le : ∀ {l m : List Str}, l.Nodup → (∀ x ∈ l, x ∈ m) → l.length ≤ m.length
  | [], _, _, _ => Nat.zero_le _
  | x :: l, m, nd, h => by
    have ⟨n1, n2⟩ := List.nodup_cons.mp nd
    have hx := h x List.mem_cons_self
    have ih := nodup_le (m := m.erase x) n2 fun y hy => (List.mem_erase_of_ne (by rintro rfl; exact n1 hy)).mpr (h y (List.mem_cons_of_mem _ hy))
    rw [List.length_erase_of_mem hx] at ih
    have := List.length_pos_of_mem hx
    rw [List.length_cons]
    omega
def spLetters (P : Program) (w : World) (K : PySem.W.Frag) (C : Addr) : Sp := fun vs H Q _ => ∃ a fm, vs = [.ref a] ∧ FmAt P w K C H a fm ∧ LetsIn fm ∧
  ∀ H' p (xs : List Str), Same H H' → H p = none → H' p = some (.lst (xs.map V.str)) → xs.length ≤ 1000 → sortedS xs = true → xs.Nodup → (∀ x, x ∈ xs ↔ ∃ m ∈ fm.map (·.1), x ∈ m) → Q (.ref p) H'
section
variable {P : Program} {w : World} {K : PySem.W.Frag} {mg : Str → Option Value} {base : Heap} {C : Addr}
end
end E2

set_option Elab.async false
set_option linter.all false
set_option maxRecDepth 100000
set_option maxHeartbeats 1000000
/-! product_form, kept -/
namespace E4
open PySem PySem.Spec PyProof.Rows L2
open C8 (Cal Mak Met InsC pe_c pe_mt pe_mt0 call_isC clsBody)
abbrev sProdF : Stmt := top 19
abbrev sKept : Stmt := top 43
/-- a product of letters, as a form -/
def oneM (m : List Str) : Fm := [(sortT m, 1)]
def spProdF (P : Program) (w : World) (K : PySem.W.Frag) (CF : Addr) : Sp := fun vs H Q _ => ∃ (l : Addr) (m : List Str), vs = [.ref l] ∧ H l = some (.lst (m.map V.str)) ∧ m.length < 64 ∧ ∀ H' b, Same H H' → H b = none → FmAt P w K CF H' b (oneM m) → Q (.ref b) H'
section
variable {P : Program} {w : World} {K : PySem.W.Frag} {mg : Str → Option Value} {base : Heap} {C CF : Addr}
theorem scProdF : FnScope ["names"] ["names"] (defScope sProdF) := ⟨rfl, rfl, rfl, by decide +kernel, rfl, by decide +kernel, by decide +kernel⟩
theorem ok_prodF {f : Addr} {fd : FuncData} (F : Fun K "product_form" "product_form" sProdF f fd) (B : Bl mg) (T : E2.Fx P w K mg base CF) : FnOk P w K mg base CX0 3 f fd ["names"] (spProdF P w K CF) := by
  refine F.ok scProdF (fun vs H Q E h => ?_) (fun cdv A outer s H vs Q E hr h => ?_)
  · obtain ⟨l, m, rfl, _⟩ := h
    rfl
  · obtain ⟨l, m, rfl, hl, lm, k⟩ := h
    refine ⟨_, pss_one (ps_ret (pe_mkF T.maks hr (by decide) rfl (pe_dispN (Nat.lt_of_le_of_lt (Nat.le_add_right _ 64) hr.units) (pe_callTy cr_tupN (by rfl) B.tup_ (by decide +kernel) (pa_cons (pe_callB cr_sortedS (by rfl) B.srt_ (by decide +kernel) (pa_cons (pv 0) pa_nil)) pa_nil)) (pe_tupS (pa_cons pe_int (pa_cons pe_int pa_nil)))))), ?_⟩
    refine fun p np => ?_
    have hlp : l ≠ p := ne_of_none hl np
    refine ⟨_, rfl, l, m, rfl, SqL.of (by rw [upd_ne hlp]; exact hl), lm, fun ys q0 pm so nq0 => ?_⟩
    have e1 := sortT_one pm so
    subst e1
    have S1 : Same (upd H p (DfO P w p [])) (upd (upd H p (DfO P w p [])) q0 (.lst ((sortT m).map V.str))) := Same.upd nq0
    refine ⟨q0, _, rfl, SqL.of upd_same, fun t H2 S2 n2 h2 => ⟨by show 2 ≤ sizeLine; decide, fun u H3 S3 n3 h3 => ?_⟩⟩
    replace S2 : Same (upd (upd H p (DfO P w p [])) q0 (.lst ((sortT m).map V.str))) H2 := S2
    have hp := S3 _ _ (S2 _ _ (S1 _ _ (upd_same (H := H) (a := p) (o := DfO P w p []))))
    refine ⟨hp, kS (sortT m), t, u, rfl, rfl, ?_, fun a dx H4 S4 na ha => ?_⟩
    · have := (h2.same S3).sq (K := K)
      unfold kS
      rw [List.map_map]
      exact this
    have SA : Same H (upd H3 p (DfO P w p [(kS (sortT m), t, u)])) := by
      intro b o hb
      rw [upd_ne (ne_of_none hb np)]
      exact S3 _ _ (S2 _ _ (S1 _ _ (Same.upd np _ _ hb)))
    have hk : TupN H3 t ((kS (sortT m)).map kV) := by
      have := h2.same S3
      unfold kS
      rw [List.map_map]
      exact this
    refine k H4 a (SA.trans S4) (SA.free na) ⟨dx, p, _, ha, S4 _ _ upd_same, .cons ⟨rfl, (hk.off hp fun o => noTup_df.2 o _).same S4, ?_⟩ .nil⟩
    exact (SqT.off (SqT.of h3) hp (noTup_df.1 _) (fun o => noTup_df.2 o _)).same S4
/-- the letters that stay where z grows -/
def keptL (ss : List Sd) (z : Str) : List Str := ss.flatMap fun x => if z ∈ x.2.2 then [] else x.2.1
theorem keptL_snoc {ss : List Sd} {i : Nat} {x : Sd} (h : ss[i]? = some x) (z : Str) : keptL (ss.take (i + 1)) z = keptL (ss.take i) z ++ (if z ∈ x.2.2 then [] else x.2.1) := by
  unfold keptL
  rw [take_snoc h, List.flatMap_append, List.flatMap_cons, List.flatMap_nil, List.append_nil]
theorem keptL_len {ss : List Sd} (z : Str) (h : ∀ x ∈ ss, x.2.1.length ≤ 3) : (keptL ss z).length ≤ 3 * ss.length := by
  induction ss with
  | nil => exact Nat.le_refl _
  | cons x ss ih =>
    have i1 := ih fun y hy => h y (List.mem_cons_of_mem _ hy)
    have h1 := h x List.mem_cons_self
    unfold keptL at i1 ⊢
    rw [List.flatMap_cons, List.length_append, List.length_cons]
    split
    · rw [List.length_nil]; omega
    · omega
def spKept (P : Program) (w : World) (K : PySem.W.Frag) (C CF : Addr) : Sp := fun vs H Q _ => ∃ (a : Addr) (z : Str) (ss : List Sd), vs = [.ref a, .str z] ∧ PlAt C H a ss ∧ SdsOk ss ∧ z ∈ sizesOf ss ∧ (∀ x ∈ ss, x.2.1.length ≤ 3) ∧ ss.length ≤ 8 ∧ ∀ H' b, Same H H' → H b = none → FmAt P w K CF H' b (oneM (keptL ss z)) → Q (.ref b) H'
theorem scKept : FnScope ["table", "size", "side", "part"] ["table", "size"] (defScope sKept) := ⟨rfl, rfl, rfl, by decide +kernel, rfl, by decide +kernel, by decide +kernel⟩
theorem ok_kept {f : Addr} {fd : FuncData} (F : Fun K "kept" "kept" sKept f fd) (Ct : Cal P w K mg base 1 "check_table" (spCheckT C) []) (Sd_ : Met P w K mg base 1 C "sides" (spSides C) []) (Sz : Met P w K mg base 1 C "sizes" (spSizes C) []) (Pf : Cal P w K mg base 3 "product_form" (spProdF P w K CF) []) : FnOk P w K mg base CX0 4 f fd ["table", "size"] (spKept P w K C CF) := by
  refine F.ok scKept (fun vs H Q E h => ?_) (fun cdv A outer s H vs Q E hr h => ?_)
  · obtain ⟨a, z, ss, rfl, _⟩ := h
    rfl
  · obtain ⟨a, z, ss, rfl, hp, ok, hz, h3, l8, k⟩ := h
    refine ⟨_, pss_cons (ps_expr (pe_c Ct hr (by decide) rfl (pa_cons (pv 0) pa_nil)))
      (pss_cons (ps_if (pt_cmpR op_notIn_seq (pv 1) (pe_mt0 Sz hr (by decide) (pv 0)) (by rfl)) (pss_one ps_never) pss_nil)
      (pss_one (ps_ret (pe_c Pf hr (by decide) rfl (pa_cons (pe_lc2 (own := [("side", 2), ("part", 3)]) (vs1 := [3]) (g := gName 2) (tt := tTest (tOp (rIn K true) (tVar 1) (tOp (rIxT K) (tVar 2) (tC (.int 2))))) (wi1 := iList K (tOp (rIxT K) (tVar 2) (tC (.int 1)))) (g1 := gName 3) (tt1 := tYes) (te := tVar 3) rfl scKept.nd
          (pi_list (pe_mt0 Sd_ hr (by decide) (pv 0))) (blkOk_by (own := [("side", 2), ("part", 3)]) (N := ["table", "size", "side", "part"]) (sc := defScope sKept) (by decide +kernel)) (by decide)
          (fun _ _ _ _ _ => pg_name (i := 2) scKept.nd rfl (Or.inl rfl)) (fun _ _ _ _ _ => by exact pts_one (pt_cmpR op_notIn_seq (pv 1) (pe_ix ix_tup (pv 2) pe_int (fun _ _ => rfl)) (by rfl)))
          (fun _ _ _ _ _ => by exact pi_list (pe_ix ix_tup (pv 2) pe_int (fun _ _ => rfl))) (fun _ _ _ _ _ => pg_name (i := 3) scKept.nd rfl (Or.inl rfl)) (fun _ _ _ _ _ => pts_nil) (fun _ _ _ _ _ => pv 3)) pa_nil))))), ?_⟩
    obtain ⟨dx, l0, ts0, ha, hl0, hx0⟩ := id hp
    refine ⟨_, rfl, a, dx, _, rfl, ha, ?_⟩
    dsimp only
    refine ⟨_, rfl, _, rfl, a, dx, _, rfl, ha, rfl, a, ss, rfl, hp, ok, fun H1 p1 S1 n1 h1 => ?_⟩
    refine ⟨p1, _, rfl, .inl (SqL.of h1), rfl, flat_strs _, ?_⟩
    show ∃ k, V.bl (!inV (.str z) ((sizesOf ss).map V.str)) = V.bl k ∧ _
    rw [inV_str, decide_eq_true hz]
    refine ⟨false, rfl, iteF ?_⟩
    dsimp only [tNext]
    have hpp := hp.same S1
    refine ret_of ?_
    refine ⟨_, rfl, a, dx, _, rfl, S1 _ _ ha, rfl, a, ss, rfl, hpp, ok, fun H2 p2 ts S2 n2 h2 hx => ?_⟩
    have lt := hx.length
    have S02 := S1.trans S2
    refine ⟨p2, rfl, ⟨_, SqL.of h2⟩, fun D nD => ?_⟩
    have kl : ∀ i, (keptL (ss.take i) z).length ≤ 3 * 8 := fun i => by
      have := keptL_len (ss := ss.take i) z fun x hx => h3 x (List.mem_of_mem_take hx)
      rw [List.length_take] at this
      omega
    refine cl_it (tp := fun σ2 H2 N => tTest (tOp (rIn K true) (tVar 1) (tOp (rIxT K) (tVar 2) (tC (.int 2)))) σ2 H2 fun b H3 => if b = true then (iList K (tOp (rIxT K) (tVar 2) (tC (.int 1)))) σ2 H3 fun J1 H4 => ∃ W1 : Nat → Nat → Hp → Prop, (∃ m, W1 0 m H4) ∧ ∀ j k H, W1 j k H →
        (J1.stop j H ∧ N H) ∨ (J1.go j H ∧ ∃ Nx1 : Hp → Prop, (∀ H', Nx1 H' → ∃ k', k' < k ∧ W1 (j + 1) k' H') ∧ ∀ x H', J1.yld j H x H' → gName 3 x (wipe σ2 [3]) H' fun σ3 H5 => wipe σ3 [3] = wipe σ2 [3] ∧ tYes σ3 H5 fun b H6 =>
          if b = true then (tVar 3) σ3 H6 fun y H7 => ∃ acc, H7 D = some (.lst acc) ∧ acc.length < sizeLine ∧ Nx1 (upd H7 D (.lst (acc ++ [y]))) else Nx1 H6)
      else N H3) (walk_list (xs := ts.map V.ref)) (fun i H' => Same H2 H' ∧ H' D = some (.lst ((keptL (ss.take i) z).map V.str))) ⟨Same.upd nD, upd_same⟩ (fun i H' _ q => SqL.of (q.1 _ _ h2)) ?_ ?_
    · rintro i v H3 H4 hi ⟨S3, hD⟩ ⟨rfl, hxi⟩
      rw [List.length_map] at hi
      rw [List.getElem?_map] at hxi
      obtain ⟨t, htt, rfl⟩ := Option.map_eq_some_iff.mp hxi
      obtain ⟨y, hy, u, w, g1, g2, g3⟩ := paired_at hx htt
      have ek := keptL_snoc hy z
      have klen := kl i
      have klen2 := kl (i + 1)
      refine ⟨rfl, _, rfl, _, rfl, t, _, 2, _, rfl, rfl, SqT.of (S3 _ _ g1), rfl, w, _, rfl, .inl (SqL.of (S3 _ _ g3)), rfl, flat_strs _, ?_⟩
      show ∃ k, V.bl (!inV (.str z) (y.2.2.map V.str)) = V.bl k ∧ _
      rw [inV_str]
      refine ⟨_, rfl, ?_⟩
      by_cases cc : z ∈ y.2.2
      · refine ifF (by rw [decide_eq_true cc]; rfl) ⟨S3, ?_⟩
        rw [ek, if_pos cc, List.append_nil]
        exact hD
      · refine ifT (by rw [decide_eq_false cc]; rfl) ?_
        rw [if_neg cc] at ek
        rw [ek, List.length_append] at klen2
        refine ⟨_, rfl, t, _, 1, _, rfl, rfl, SqT.of (S3 _ _ g1), rfl, u, rfl, ⟨_, SqL.of (S3 _ _ g2)⟩, ?_⟩
        refine cl_it (tp := fun σ3 H5 Nx1 => tYes σ3 H5 fun b H6 => if b = true then (tVar 3) σ3 H6 fun y H7 => ∃ acc, H7 D = some (.lst acc) ∧ acc.length < sizeLine ∧ Nx1 (upd H7 D (.lst (acc ++ [y]))) else Nx1 H6) (walk_list (xs := y.2.1.map V.str)) (fun j H' => Same H2 H' ∧ H' D = some (.lst ((keptL (ss.take i) z ++ y.2.1.take j).map V.str))) ⟨S3, by simpa using hD⟩ (fun j H' _ q => SqL.of (q.1 _ _ g2)) ?_ ?_
        · rintro j v H5 H6 hj ⟨S5, hD5⟩ ⟨rfl, hxj⟩
          rw [List.length_map] at hj
          rw [List.getElem?_map] at hxj
          obtain ⟨r, hr, rfl⟩ := Option.map_eq_some_iff.mp hxj
          refine ⟨rfl, iteT (B := False) ⟨_, rfl, _, hD5, ?_, ?_, ?_⟩⟩
          · rw [List.length_map, List.length_append, List.length_take, sizeLine_eq]
            omega
          · intro c o e
            rw [upd_ne (ne_of_none e nD)]
            exact S5 _ _ e
          · rw [upd_same, take_snoc hr, ← List.append_assoc, List.map_append (l₁ := keptL (List.take i ss) z ++ List.take j y.2.1)]
            rfl
        · rintro H5 ⟨S5, hD5⟩
          rw [List.length_map, List.take_length] at hD5
          exact ⟨S5, by rw [ek]; exact hD5⟩
    · rintro H3 ⟨S3, hD⟩
      rw [List.length_map, lt, List.take_length] at hD
      have klast := kl ss.length
      rw [List.take_length] at klast
      exact ⟨D, _, rfl, hD, by omega, fun H' b S n h => k H' b ((S02.trans S3).trans S) ((S02.trans S3).free n) h⟩
end
end E4

set_option Elab.async false
set_option linter.all false
set_option maxRecDepth 100000
set_option maxHeartbeats 1000000
/-! a - b -/
namespace E2
open PySem PySem.Spec PyProof.Rows L2
open C8 (Cal Mak Met InsC pe_c pe_mt pe_mt0 call_isC clsBody)
/-- an operator's method of the class at C -/
structure OpM (P : Program) (w : World) (K : PySem.W.Frag) (mg : Str → Option Value) (base : Heap) (k : Nat) (C : Addr) (name : Str) (sp : Sp) : Prop where
  ex : ∃ (f : Addr) (fd : FuncData) (ps : List Str), OwnOp K C name f ∧ FnOk P w K mg base CX0 k f fd ps sp ∧ Binds K fd ps []
abbrev negM (fm : Fm) : Fm := mapM (fun _ => true) (fun q => -q) fm
def spSub (P : Program) (w : World) (K : PySem.W.Frag) (C : Addr) : Sp := fun vs H Q _ => ∃ a v fm1 fm2, vs = [.ref a, v] ∧ FmAt P w K C H a fm1 ∧ RightV P w K C H v fm2 ∧ Szs fm1 (negM fm2) ∧ (fm2.map (·.1)).Nodup ∧ fm2.length ≤ sizeLine ∧ ∀ H' b, Same H H' → H b = none → FmAt P w K C H' b (mapM nz id (addTo fm1 (negM fm2))) → Q (.ref b) H'
theorem un_one {r : V → Hp → VK → Prop} {t : TE} {σ : L2.St} {H : Hp} {Q : VK} (h : t σ H fun x H1 => r x H1 Q) : tUn r t σ H Q := h
section
variable {P : Program} {w : World} {K : PySem.W.Frag} {mg : Str → Option Value} {base : Heap} {C : Addr}
theorem scSub : FnScope ["self", "other"] ["self", "other"] (defScope sSub) := ⟨rfl, rfl, rfl, by decide +kernel, rfl, by decide +kernel, by decide +kernel⟩
theorem ok_sub {f : Addr} {fd : FuncData} (F : Fun K "__sub__" "Form.__sub__" sSub f fd) (R : Cal P w K mg base 4 "right_side" (spRight P w K C) []) (Oa : OpM P w K mg base 5 C "__add__" (spAdd P w K C)) (On : OpM P w K mg base 3 C "__neg__" (spNeg P w K C (fun q => -q))) : FnOk P w K mg base CX0 6 f fd ["self", "other"] (spSub P w K C) := by
  obtain ⟨fa, fda, pa, oa, Fa, ba⟩ := Oa.ex
  obtain ⟨fn, fdn, pn, on, Fn, bn⟩ := On.ex
  refine F.ok scSub (fun vs H Q E h => ?_) (fun cdv A outer s H vs Q E hr h => ?_)
  · obtain ⟨a, v, fm1, fm2, rfl, _⟩ := h
    rfl
  · obtain ⟨a, v, fm1, fm2, rfl, ha, hv, Z, n2, l2, k⟩ := h
    refine ⟨_, pss_one (ps_ret (pe_op (op_own (op := .Add) oa Fa hr ba) (pv 0) (pe_un (un_own on Fn (hr.mono (by decide)) bn) (pe_c R hr (by decide) rfl (pa_cons (pv 1) pa_nil))))), ?_⟩
    refine ⟨_, rfl, un_one (call_one rfl (right_of hv fun H0 b S0 hb => ?_))⟩
    obtain ⟨dxb, db, kvb, hb1, hb2, hb3⟩ := hb
    refine ⟨b, dxb, _, rfl, hb1, b, fm2, rfl, ⟨dxb, db, kvb, hb1, hb2, hb3⟩, n2, l2, fun H1 c S1 nc hc => ?_⟩
    have ha1 := (ha.same S0).same S1
    obtain ⟨dxa, da, kva, ha2, ha3, ha4⟩ := ha1
    obtain ⟨dxc, dc, kvc, hc2, hc3, hc4⟩ := hc
    exact ⟨a, c, dxa, _, dxc, _, rfl, rfl, ha2, hc2, a, _, fm1, negM fm2, rfl, ⟨dxa, da, kva, ha2, ha3, ha4⟩, .inr ⟨c, rfl, dxc, dc, kvc, hc2, hc3, hc4⟩, Z, fun H2 e S2 ne he => k H2 e ((S0.trans S1).trans S2) ((S0.trans S1).free ne) he⟩
end
end E2

set_option Elab.async false
set_option linter.all false
set_option maxRecDepth 100000
set_option maxHeartbeats 1000000
set_option exponentiation.threshold 500000
/-! products of letters multiplied; _law_product_form -/
namespace E4
open PySem PySem.Spec PyProof.Rows L2
open C8 (Cal Mak Met InsC pe_c pe_mt pe_mt0 call_isC clsBody)
section
variable {P : Program} {w : World} {K : PySem.W.Frag} {mg : Str → Option Value} {base : Heap} {C CF : Addr}
end
end E4

set_option Elab.async false
set_option linter.all false
set_option maxRecDepth 100000
set_option maxHeartbeats 1000000
/-! a form stays where only a purse and the tables of code change -/
namespace E4
open PySem PySem.Spec PyProof.Rows L2
open E3 (PurseAt)
end E4

set_option Elab.async false
set_option linter.all false
set_option maxRecDepth 100000
set_option maxHeartbeats 1000000
/-! check_walk, inside_out, smooth -/
namespace E4
open PySem PySem.Spec PyProof.Rows L2
open LamX (Tabs ExtN TabB CodeO)
open C8 (Cal Mak Met InsC pe_c pe_mt pe_mt0 call_isC clsBody)
abbrev sSmooth : Stmt := top 42
abbrev sWalk : Stmt := top 47
abbrev sInside : Stmt := top 48
def spWalk (C : Addr) : Sp := fun vs H Q _ => ∃ (l a : Addr) (wk : List Str) (ss : List Sd), vs = [.ref l, .ref a] ∧ H l = some (.lst (wk.map V.str)) ∧ wk.Perm (ss.map (·.1)) ∧ PlAt C H a ss ∧ SdsOk ss ∧ ∀ H', Same H H' → Q .non H'
/-- rows with their addresses, in the order of a walk from its inner side -/
def InsideB (H : Hp) (ss : List Sd) (wk : List Str) (A : List (Addr × Sd)) : Prop := A.map (·.2.1) = wk.reverse ∧ ∀ q ∈ A, SdAt H q.1 q.2 ∧ q.2 ∈ ss
def spInside (C : Addr) : Sp := fun vs H Q _ => ∃ (l a : Addr) (wk : List Str) (ss : List Sd), vs = [.ref a, .ref l] ∧ H l = some (.lst (wk.map V.str)) ∧ wk.Perm (ss.map (·.1)) ∧ PlAt C H a ss ∧ SdsOk ss ∧
  ∀ H' p A, Same H H' → H p = none → H' p = some (.lst (A.map fun q => V.ref q.1)) → InsideB H' ss wk A → Q (.ref p) H'
def smoothL (ss : List Sd) : List Str := ((ss.map (·.1)).filter fun n => decide (n ∉ (ordL ss).map (·.1))) ++ ((ordL ss).map (·.1)).reverse
def spSmooth (T : List (Addr × Str)) (C : Addr) : Sp := fun vs H Q _ => ∃ (a : Addr) (ss : List Sd), vs = [.ref a] ∧ PlAt C H a ss ∧ SdsOk ss ∧ Tabs T H ∧
  (Chn ss → NoHole (ordL ss) → ∀ H' p, ExtN H H' → Tabs T H' → NewT H p → H' p = some (.lst ((smoothL ss).map V.str)) → Q (.ref p) H') ∧ (¬ (Chn ss ∧ NoHole (ordL ss)) → ∀ H', ExtN H H' → Tabs T H' → Q .non H')
section
variable {P : Program} {w : World} {K : PySem.W.Frag} {mg : Str → Option Value} {base : Heap} {C : Addr}
theorem scWalk : FnScope ["walk", "table", "name"] ["walk", "table"] (defScope sWalk) := ⟨rfl, rfl, rfl, by decide +kernel, rfl, by decide +kernel, by decide +kernel⟩
theorem ok_walk {f : Addr} {fd : FuncData} (F : Fun K "check_walk" "check_walk" sWalk f fd) (B : Bl mg) (L : Cal P w K mg base 1 "is_letter" spIsLet []) (Sd_ : Met P w K mg base 1 C "sides" (spSides C) []) (Nm : Cal P w K mg base 1 "names_of" (spNames K) []) : FnOk P w K mg base CX0 2 f fd ["walk", "table"] (spWalk C) := by
  refine F.ok scWalk (fun vs H Q E h => ?_) (fun cdv A outer s H vs Q E hr h => ?_)
  · obtain ⟨l, a, wk, ss, rfl, _⟩ := h
    rfl
  · obtain ⟨l, a, wk, ss, rfl, hl, pm, hp, ok, k⟩ := h
    refine ⟨_, pss_cons (ps_if (PW.pt (pw_or (pt_not (pt_val (pe_callB call_isi (by rfl) B.isi (by decide +kernel) (pa_cons (pv 0) (pa_cons (pe_bltn (v := .ty "list") (by rfl) B.lst_ (by decide +kernel) rfl) pa_nil)))))
        (pw_or1 (pt_not (pt_val (pe_callB (cr_all rfl) (by rfl) B.all_ (by decide +kernel) (pa_cons (pe_lc (own := [("name", 2)]) (g := gName 2) (tt := tYes) (te := tCall spIsLet [] C8.E0 (tCons (tVar 2) tNil)) rfl scWalk.nd (pi_list (pv 0))
        (blkOk_by (own := [("name", 2)]) (N := ["walk", "table", "name"]) (sc := defScope sWalk) (by decide +kernel))
        (fun _ _ _ _ _ => pg_name (i := 2) scWalk.nd rfl (Or.inl rfl)) (fun _ _ _ _ _ => pts_nil) (fun _ _ _ _ _ => by exact pe_c L hr (by decide) rfl (pa_cons (pv 2) pa_nil))) pa_nil))))))) (pss_one ps_never) pss_nil)
      (pss_one (ps_if (pt_cmpR (op_neD hr.units) (pe_callB cr_sortedS (by rfl) B.srt_ (by decide +kernel) (pa_cons (pv 0) pa_nil)) (pe_callB cr_sortedS (by rfl) B.srt_ (by decide +kernel) (pa_cons (pe_c Nm hr (by decide) rfl (pa_cons (pe_mt0 Sd_ hr (by decide) (pv 1)) pa_nil)) pa_nil)) (by rfl)) (pss_one ps_never) pss_nil)), ?_⟩
    have hlen : wk.length ≤ 16 := by rw [pm.length_eq, List.length_map]; exact ok.len
    have hlet : ∀ z ∈ wk, LetOk z := fun z hz => by
      obtain ⟨x, hx, rfl⟩ := List.mem_map.mp (pm.mem_iff.mp hz)
      exact (ok.ok x hx).1
    refine ⟨_, rfl, _, _, _, _, true, rfl, .ty "list", .base (.lst hl), kit_ll, true, rfl, iteF ?_⟩
    refine ⟨_, rfl, l, rfl, ⟨_, SqL.of hl⟩, fun D nD => lc_it (walk_list (xs := wk.map V.str)) (fun i H' => Same H H' ∧ H' D = some (.lst (List.replicate i (V.bl true)))) ⟨Same.upd nD, upd_same⟩ (fun i H' _ q => SqL.of (q.1 _ _ hl)) ?_ ?_⟩
    · rintro i x H2 H3 hi ⟨S, hD⟩ ⟨rfl, hx2⟩
      rw [List.length_map] at hi
      rw [List.getElem?_map] at hx2
      obtain ⟨z, hzz, rfl⟩ := Option.map_eq_some_iff.mp hx2
      refine ⟨rfl, iteT (B := False) ⟨_, rfl, z, rfl, hlet z (List.mem_of_getElem? hzz), fun H4 S4 => ⟨_, S4 _ _ hD, ?_, ?_, ?_⟩⟩⟩
      · rw [List.length_replicate, sizeLine_eq]
        omega
      · intro b o hb
        rw [upd_ne (ne_of_none hb nD)]
        exact S4 _ _ (S _ _ hb)
      · rw [upd_same, List.replicate_succ']
    · rintro H2 ⟨S2, hD⟩
      rw [List.length_map] at hD
      refine ⟨D, List.replicate wk.length true, rfl, SqL.of (by rw [List.map_replicate]; exact hD), ?_⟩
      rw [all_true]
      refine ⟨true, rfl, ifF rfl ?_⟩
      dsimp only [tNext]
      have hl2 := S2 _ _ hl
      refine ⟨_, rfl, l, wk, rfl, SqL.of hl2, by omega, fun ys q pmy so nq => ?_⟩
      have e1 := sortT_one pmy so
      subst e1
      have S3 : Same H2 (upd H2 q (.lst ((sortT wk).map V.str))) := Same.upd nq
      obtain ⟨dx, l0, ts0, ha, hl0, hx0⟩ := id hp
      refine ⟨_, rfl, a, dx, _, rfl, S3 _ _ (S2 _ _ ha), rfl, a, ss, rfl, hp.same (S2.trans S3), ok, fun H4 p ts S4 np hpp hx => ?_⟩
      refine ⟨p, ts, ss, rfl, SqL.of hpp, hx, by have := ok.len; omega, fun H5 r S5 nr hr5 => ?_⟩
      refine ⟨r, ss.map (·.1), rfl, SqL.of hr5, by rw [List.length_map]; have := ok.len; omega, fun zs u pmz so2 nu => ?_⟩
      have e2 := sortT_one pmz so2
      subst e2
      have S6 : Same H5 (upd H5 u (.lst ((sortT (ss.map (·.1))).map V.str))) := Same.upd nu
      have S26 := S3.trans (S4.trans (S5.trans S6))
      have hq : upd H5 u (.lst ((sortT (ss.map (·.1))).map V.str)) q = some (.lst ((sortT wk).map V.str)) := S6 _ _ (S5 _ _ (S4 _ _ upd_same))
      refine ⟨.list ((sortT wk).map PyData.str), .list ((sortT (ss.map (·.1))).map PyData.str), .lst (SqL.of hq) (dp_strs _), .lst (SqL.of upd_same) (dp_strs _), shaped_strs _ (fun z hz => strOk_of (hlet z ((sortT_perm _).mem_iff.mp hz))), shaped_strs _ (fun z hz => strOk_of (hlet z (pm.mem_iff.mpr ((sortT_perm _).mem_iff.mp hz)))), _, rfl, ?_⟩
      refine ifF (by rw [eqv_listS, decide_eq_true (sortT_of_perm' pm)]; rfl) ?_
      exact k _ (S2.trans S26)
theorem scInside : FnScope ["table", "walk", "sides", "side", "name"] ["table", "walk"] (defScope sInside) := ⟨rfl, rfl, rfl, by decide +kernel, rfl, by decide +kernel, by decide +kernel⟩
/-- rows by their names -/
def kvR (A : List (Addr × Sd)) : List (Key × V) := A.map fun q => (Sum.inr q.2.1, V.ref q.1)
theorem valV_kvR {n : Str} : ∀ {A : List (Addr × Sd)}, n ∈ A.map (·.2.1) → ∃ q ∈ A, q.2.1 = n ∧ valV (kvR A) (Sum.inr n) = some (.ref q.1)
  | [], h => nomatch h
  | q :: A, h => by
    by_cases c : q.2.1 = n
    · refine ⟨q, List.mem_cons_self, c, ?_⟩
      unfold kvR valV
      rw [List.map_cons, List.find?_cons_of_pos (by simp [c])]
      rfl
    · obtain ⟨r, h1, h2, h3⟩ := valV_kvR (A := A) (n := n) (by
        rw [List.map_cons] at h
        rcases List.mem_cons.mp h with e | e
        · exact absurd e.symm c
        · exact e)
      refine ⟨r, List.mem_cons_of_mem _ h1, h2, ?_⟩
      unfold kvR valV at h3 ⊢
      rw [List.map_cons, List.find?_cons_of_neg (by simpa using c)]
      exact h3
theorem putK_kvR {A : List (Addr × Sd)} {n : Str} {a : Addr} {x : Sd} (e : x.1 = n) (h : n ∉ A.map (·.2.1)) : putK (kvR A) (Sum.inr n) (V.ref a) = kvR (A ++ [(a, x)]) := by
  have : ((kvR A).any fun kv => decide (kv.1 = Sum.inr n)) = false := by
    apply Bool.eq_false_iff.mpr
    intro c
    obtain ⟨kv, h1, h2⟩ := List.any_eq_true.mp c
    unfold kvR at h1
    obtain ⟨q, h3, rfl⟩ := List.mem_map.mp h1
    exact h (List.mem_map.mpr ⟨q, h3, Sum.inr.inj (of_decide_eq_true h2)⟩)
  unfold putK
  rw [this]
  unfold kvR
  rw [List.map_append, List.map_cons, List.map_nil, e]
  rfl
theorem NewTup.same {H H' H2 : Hp} {t : Addr} (h : NewTup H H' t) (S : Same H' H2) : NewTup H H2 t := let ⟨n, u, v, h1, h2, h3⟩ := h; ⟨n, u, v, S _ _ h1, h2, h3⟩
def spInsideN (C : Addr) : Sp := fun vs H Q _ => ∃ (l a : Addr) (wk : List Str) (ss : List Sd), vs = [.ref a, .ref l] ∧ H l = some (.lst (wk.map V.str)) ∧ wk.Perm (ss.map (·.1)) ∧ PlAt C H a ss ∧ SdsOk ss ∧
  ∀ H' p A, Same H H' → H p = none → H' p = some (.lst (A.map fun q => V.ref q.1)) → InsideB H' ss wk A → (∀ q ∈ A, NewTup H H' q.1) → Q (.ref p) H'
theorem ok_insideN {f : Addr} {fd : FuncData} (F : Fun K "inside_out" "inside_out" sInside f fd) (B : Bl mg) (Sd_ : Met P w K mg base 1 C "sides" (spSidesN C) []) : FnOk P w K mg base CX0 2 f fd ["table", "walk"] (spInsideN C) := by
  refine F.ok scInside (fun vs H Q E h => ?_) (fun cdv A outer s H vs Q E hr h => ?_)
  · obtain ⟨l, a, wk, ss, rfl, _⟩ := h
    rfl
  · obtain ⟨l, a, wk, ss, rfl, hl, pm, hp, ok, k⟩ := h
    refine ⟨_, pss_cons (ps_set (i := 2) scInside.nd rfl (Or.inr rfl) (pe_dc (own := [("side", 3)]) (g := gName 3) (tt := tYes) (tk := tOp (rIxT K) (tVar 3) (tC (.int 0))) (tv := tVar 3) rfl scInside.nd (pi_list (pe_mt0 Sd_ hr (by decide) (pv 0)))
        (blkOk_by (own := [("side", 3)]) (N := ["table", "walk", "sides", "side", "name"]) (sc := defScope sInside) (by decide +kernel))
        (fun _ _ _ _ _ => pg_name (i := 3) scInside.nd rfl (Or.inl rfl)) (fun _ _ _ _ _ => pts_nil) (fun _ _ _ _ _ => by exact pe_ix ix_tup (pv 3) pe_int (fun _ _ => rfl)) (fun _ _ _ _ _ => pv 3)))
      (pss_one (ps_ret (pe_lc (own := [("name", 4)]) (g := gName 4) (tt := tYes) (te := tDGet (tVar 2) (tVar 4)) rfl scInside.nd (pi_reversed (by rfl) B.rev_ (pa_cons (pv 1) pa_nil))
        (blkOk_by (own := [("name", 4)]) (N := ["table", "walk", "sides", "side", "name"]) (sc := defScope sInside) (by decide +kernel))
        (fun _ _ _ _ _ => pg_name (i := 4) scInside.nd rfl (Or.inl rfl)) (fun _ _ _ _ _ => pts_nil) (fun _ _ _ _ _ => by exact pe_dget (Nat.lt_of_le_of_lt (Nat.add_le_add_left (by decide : 1 ≤ 64) _) hr.units) (pv 2) (pv 4) (fun _ _ => rfl))))), ?_⟩
    have hlen : wk.length ≤ 16 := by rw [pm.length_eq, List.length_map]; exact ok.len
    have slen := ok.len
    obtain ⟨dx, l0, ts0, ha, hl0, hx0⟩ := id hp
    refine seq_asg ?_
    refine ⟨_, rfl, a, dx, _, rfl, ha, rfl, a, ss, rfl, hp, ok, fun H1 p ts S1 np hpp hx hnw => ?_⟩
    refine ⟨p, rfl, ⟨_, SqL.of hpp⟩, fun D nD => ?_⟩
    have lt := hx.length
    have hz : ∀ (i : Nat) (t : Addr) (y : Sd), ts[i]? = some t → ss[i]? = some y → (ts.zip ss)[i]? = some (t, y) := fun i t y h1 h2 => by rw [List.getElem?_zip_eq_some]; exact ⟨h1, h2⟩
    have zn : (ts.zip ss).map (fun q : Addr × Sd => q.2.1) = ss.map (·.1) := by
      have : (ts.zip ss).map (fun q : Addr × Sd => q.2.1) = ((ts.zip ss).map (·.2)).map (·.1) := by rw [List.map_map]; rfl
      rw [this, List.map_snd_zip (by omega)]
    have hin : ∀ q ∈ ts.zip ss, (SdAt H1 q.1 q.2 ∧ NewTup H H1 q.1) ∧ q.2 ∈ ss := fun q hq => by
      obtain ⟨i, hi⟩ := List.mem_iff_getElem?.mp hq
      rw [List.getElem?_zip_eq_some] at hi
      obtain ⟨y, hy, r⟩ := paired_at hx hi.1
      rw [hi.2] at hy
      cases hy
      exact ⟨⟨r, hnw _ (List.mem_of_getElem? hi.1)⟩, List.mem_of_getElem? hi.2⟩
    generalize hA : ts.zip ss = A at hz zn hin
    have lA : A.length = ss.length := by rw [← hA, List.length_zip]; omega
    let w := walk_list (K := K) (a := p) (xs := ts.map V.ref)
    let Pv : Nat → Hp → Prop := fun i H' => Same H1 H' ∧ H' D = some (.dK (kvR (A.take i)))
    refine ⟨fun i m H => m = ts.length - i ∧ i ≤ ts.length ∧ Pv i H, ⟨ts.length, by simp, Nat.zero_le _, Same.upd nD, upd_same⟩, ?_⟩
    rintro i m H2 ⟨rfl, hi, S2, hD⟩
    have q : SqL K H2 p (ts.map V.ref) := SqL.of (S2 _ _ hpp)
    by_cases hlt : i < ts.length
    · refine .inr ⟨w.goes i H2 (by rw [List.length_map]; exact hlt) q, Pv (i + 1), fun H' p' => ⟨ts.length - (i + 1), by omega, rfl, hlt, p'⟩, fun x H' y => ?_⟩
      obtain ⟨rfl, hxi⟩ := w.yields i H2 x H' (by rw [List.length_map]; exact hlt) q y
      rw [List.getElem?_map] at hxi
      obtain ⟨t, htt, rfl⟩ := Option.map_eq_some_iff.mp hxi
      obtain ⟨y, hy, u, v, h1, h2, h3⟩ := paired_at hx htt
      have e := take_snoc (hz i t y htt hy)
      have nin : y.1 ∉ (A.take i).map (fun q : Addr × Sd => q.2.1) := fun c => by
        have nd : (A.map (fun q : Addr × Sd => q.2.1)).Nodup := by rw [zn]; exact ok.nd
        rw [List.map_take] at c
        obtain ⟨j, hj⟩ := List.mem_iff_getElem?.mp c
        have hj2 : j < i := by
          have := (List.getElem?_eq_some_iff.mp hj).1
          rw [List.length_take] at this
          omega
        rw [List.getElem?_take_of_lt hj2] at hj
        have hk : (A.map (fun q : Addr × Sd => q.2.1))[i]? = some y.1 := by rw [List.getElem?_map, hz i t y htt hy]; rfl
        have := (List.getElem?_inj (i := j) (j := i) (by
          have := (List.getElem?_eq_some_iff.mp hj).1
          exact this) nd).mp (hj.trans hk.symm)
        omega
      refine ⟨rfl, iteT (B := False) ⟨_, rfl, t, _, 0, _, rfl, rfl, SqT.of (S2 _ _ h1), rfl, _, rfl, _, Sum.inr y.1, rfl, hD, ?_, ?_, ?_⟩⟩
      · unfold kvR
        rw [List.length_map, List.length_take, sizeLine_eq]
        omega
      · intro c o ec
        rw [upd_ne (ne_of_none ec nD)]
        exact S2 _ _ ec
      · rw [upd_same, putK_kvR (x := y) rfl nin, e]
    · have ei : i = ts.length := by omega
      subst ei
      have : A.take ts.length = A := List.take_of_length_le (by omega)
      rw [this] at hD
      refine .inl ⟨by have := w.stops H2 q; rw [List.length_map] at this; exact this, ?_⟩
      have S02 := S1.trans S2
      have hl2 := S02 _ _ hl
      dsimp only
      refine ret_of ?_
      refine ⟨_, rfl, l, wk.map V.str, rfl, SqL.of hl2, fun D2 nD2 => ?_⟩
      refine lc_it walk_rev (fun i H' => Same H2 H' ∧ ∃ B : List (Addr × Sd), B.map (·.2.1) = wk.reverse.take i ∧ (∀ q ∈ B, q ∈ A) ∧ H' D2 = some (.lst (B.map fun q => V.ref q.1))) ⟨Same.upd nD2, [], rfl, (fun _ h => nomatch h), upd_same⟩ (fun i H' _ q => SqL.of (q.1 _ _ hl2)) ?_ ?_
      · rintro i v H3 H4 hi ⟨S3, B, b1, b2, hD2⟩ ⟨rfl, hxi⟩
        rw [List.length_map] at hi hxi
        have hr : (wk.map V.str).reverse[i]? = some v := by
          rw [List.getElem?_reverse (by rw [List.length_map]; exact hi), List.length_map]
          exact hxi
        rw [← List.map_reverse, List.getElem?_map] at hr
        obtain ⟨n, hn, rfl⟩ := Option.map_eq_some_iff.mp hr
        have nm : n ∈ A.map (·.2.1) := by
          rw [zn]
          exact pm.mem_iff.mp (List.mem_reverse.mp (List.mem_of_getElem? hn))
        obtain ⟨q, q1, q2, q3⟩ := valV_kvR nm
        have bl : B.length ≤ 16 := by
          have := congrArg List.length b1
          rw [List.length_map, List.length_take, List.length_reverse] at this
          omega
        refine ⟨rfl, iteT (B := False) ⟨_, rfl, _, rfl, D, _, rfl, by rw [← q3]; exact DGet.k (k := Sum.inr n) (S3 _ _ hD), _, hD2, ?_, ?_, B ++ [q], ?_, fun r hr => ?_, ?_⟩⟩
        · rw [List.length_map, sizeLine_eq]; omega
        · intro c o ec
          rw [upd_ne (ne_of_none ec nD2)]
          exact S3 _ _ ec
        · rw [List.map_append, b1, take_snoc hn, List.map_cons, List.map_nil, q2]
        · rcases List.mem_append.mp hr with h | h
          · exact b2 r h
          · rw [List.mem_singleton.mp h]; exact q1
        · rw [upd_same, List.map_append, List.map_cons, List.map_nil]
      · rintro H3 ⟨S3, B, b1, b2, hD2⟩
        rw [List.length_map, ← List.length_reverse, List.take_length] at b1
        exact k H3 D2 B (S02.trans S3) ((S02).free nD2) hD2 ⟨b1, fun q hq => ⟨(hin q (b2 q hq)).1.1.same (S2.trans S3), (hin q (b2 q hq)).2⟩⟩ fun q hq => (hin q (b2 q hq)).1.2.same (S2.trans S3)
theorem ok_inside {f : Addr} {fd : FuncData} (F : Fun K "inside_out" "inside_out" sInside f fd) (B : Bl mg) (Sd_ : Met P w K mg base 1 C "sides" (spSidesN C) []) : FnOk P w K mg base CX0 2 f fd ["table", "walk"] (spInside C) :=
  (ok_insideN F B Sd_).imp fun vs H Q E ⟨l, a, wk, ss, h1, h2, h3, h4, h5, k⟩ => ⟨l, a, wk, ss, h1, h2, h3, h4, h5, fun H' p A S n h i _ => k H' p A S n h i⟩
end
end E4

set_option Elab.async false
set_option linter.all false
set_option maxRecDepth 100000
set_option maxHeartbeats 1000000
/-! smooth -/
namespace E4
open PySem PySem.Spec PyProof.Rows L2
open LamX (Tabs ExtN TabB CodeO)
open C8 (Cal Mak Met InsC pe_c pe_mt pe_mt0 call_isC clsBody)
section
variable {P : Program} {w : World} {K : PySem.W.Frag} {mg : Str → Option Value} {base : Heap} {C : Addr}
theorem scSmooth : FnScope ["table", "order", "single", "name"] ["table"] (defScope sSmooth) := ⟨rfl, rfl, rfl, by decide +kernel, rfl, by decide +kernel, by decide +kernel⟩
theorem ok_smooth {T : List (Addr × Str)} {f : Addr} {fd : FuncData} (F : Fun K "smooth" "smooth" sSmooth f fd) (Ow : Cal P w K mg base 3 "own_order" (spOwn T C) []) (Ho : Cal P w K mg base 5 "hole" (spHole T C) []) (Sd_ : Met P w K mg base 1 C "sides" (spSides C) []) (Nm : Cal P w K mg base 1 "names_of" (spNames K) []) : FnOk P w K mg base CX0 6 f fd ["table"] (spSmooth T C) := by
  refine F.ok scSmooth (fun vs H Q E h => ?_) (fun cdv A outer s H vs Q E hr h => ?_)
  · obtain ⟨a, ss, rfl, _⟩ := h
    rfl
  · obtain ⟨a, ss, rfl, hp, ok, tb, k1, k2⟩ := h
    refine ⟨_, pss_cons (ps_set (i := 1) scSmooth.nd rfl (Or.inr rfl) (pe_c Ow hr (by decide) rfl (pa_cons (pv 0) pa_nil)))
      (pss_cons (ps_if (PW.pt (pw_or (pt_cmp (pc_isN (pv 1))) (pw_or1 (pt_cmp (pc_notN (pe_c Ho hr (by decide) rfl (pa_cons (pv 0) pa_nil))))))) (pss_one (ps_ret pe_non)) pss_nil)
      (pss_cons (ps_setLc (i := 2) (own := [("name", 3)]) (g := gName 3) (tt := tTest (tOp (rIn K true) (tVar 3) (tVar 1))) (te := tVar 3) (by rfl) scSmooth.nd rfl rfl (by rfl) (pi_list (pe_c Nm hr (by decide) rfl (pa_cons (pe_mt0 Sd_ hr (by decide) (pv 0)) pa_nil)))
          (blkOk_by (own := [("name", 3)]) (N := ["table", "order", "single", "name"]) (sc := defScope sSmooth) (by decide +kernel))
          (fun _ _ _ _ _ => pg_name (i := 3) scSmooth.nd rfl (Or.inl rfl))
          (fun _ _ _ _ _ => by exact pts_one (pt_cmpR op_notIn_seq (pv 3) (pv 1) (by rfl))) (fun _ _ _ _ _ => pv 3))
      (pss_one (ps_ret (pe_op op_catS (pv 2) (pe_revL (pv 1))))))), ?_⟩
    have slen := ok.len
    obtain ⟨dx, l0, ts0, ha, hl0, hx0⟩ := id hp
    refine seq_asg ⟨_, rfl, a, ss, rfl, hp, ok, tb, fun hc H1 p ex1 tb1 np hpp => ?_, fun no H1 ex1 tb1 => ?_⟩
    · refine ⟨_, rfl, _, rfl, ifF rfl ?_⟩
      dsimp only
      refine ⟨_, rfl, a, ss, rfl, hp.ext ex1, ok, tb1, hc, fun i x hi ne bef H2 q ex2 tb2 nq hq _ => ?_, fun nh H2 ex2 tb2 => ?_⟩
      · refine ⟨_, rfl, ifT rfl ?_⟩
        refine k2 (fun z => ?_) H2 (ex1.trans ex2) tb2
        exact ne (z.2 i x hi)
      · refine ⟨_, rfl, ifF rfl ?_⟩
        dsimp only [tNext]
        have ex02 := ex1.trans ex2
        have hpp2 := ex2 _ _ hpp (fun _ z => nomatch z)
        refine seq_asg ?_
        have hp2 := hp.ext ex02
        obtain ⟨dx2, l2, ts2, ha2, hl2, hx2⟩ := id hp2
        refine ⟨_, rfl, a, dx2, _, rfl, ha2, rfl, a, ss, rfl, hp2, ok, fun H3 p3 ts S3 np3 hpp3 hx3 => ?_⟩
        refine ⟨p3, ts, ss, rfl, SqL.of hpp3, hx3, by omega, fun H4 q4 S4 nq4 hq4 => ?_⟩
        refine ⟨q4, rfl, ⟨_, SqL.of hq4⟩, fun D nD => ?_⟩
        have hpp4 := S4 _ _ (S3 _ _ hpp2)
        have lo : ((ordL ss).map (·.1)).length ≤ 16 := by rw [List.length_map]; exact Nat.le_trans (length_ordL ss) ok.len
        generalize hor : (ordL ss).map (·.1) = orr at lo hpp hpp2 hpp4
        generalize hnm : ss.map (·.1) = nms at hq4
        have ln : nms.length ≤ 16 := by rw [← hnm, List.length_map]; exact slen
        refine lc_it (walk_list (xs := nms.map V.str)) (fun i H' => Same H4 H' ∧ H' D = some (.lst (((nms.take i).filter fun n => decide (n ∉ orr)).map V.str))) ⟨Same.upd nD, upd_same⟩ (fun i H' _ q => SqL.of (q.1 _ _ hq4)) ?_ ?_
        · rintro i v H5 H6 hi ⟨S5, hD⟩ ⟨rfl, hxi⟩
          rw [List.length_map] at hi
          rw [List.getElem?_map] at hxi
          obtain ⟨n, hn, rfl⟩ := Option.map_eq_some_iff.mp hxi
          have e := take_snoc hn
          refine ⟨rfl, _, rfl, _, rfl, p, _, rfl, .inl (SqL.of (S5 _ _ hpp4)), rfl, flat_strs _, ?_⟩
          show ∃ k, V.bl (!inV (.str n) (orr.map V.str)) = V.bl k ∧ _
          rw [inV_str]
          refine ⟨_, rfl, ?_⟩
          by_cases c : n ∈ orr
          · refine ifF (by rw [decide_eq_true c]; rfl) ⟨S5, ?_⟩
            rw [e, List.filter_append, List.filter_cons_of_neg (by simp [c]), List.filter_nil, List.append_nil]
            exact hD
          · refine ifT (by rw [decide_eq_false c]; rfl) ⟨_, rfl, _, hD, ?_, ?_, ?_⟩
            · rw [List.length_map, sizeLine_eq]
              have := List.length_filter_le (fun n => decide (n ∉ orr)) (nms.take i)
              rw [List.length_take] at this
              omega
            · intro c o ec
              rw [upd_ne (ne_of_none ec nD)]
              exact S5 _ _ ec
            · rw [upd_same, e, List.filter_append, List.filter_cons_of_pos (by simp [c]), List.filter_nil, List.map_append]
              rfl
        · rintro H5 ⟨S5, hD⟩
          rw [List.length_map, List.take_length] at hD
          have fl := List.length_filter_le (fun n => decide (n ∉ orr)) nms
          refine ⟨_, rfl, _, rfl, p, _, rfl, SqL.of (S5 _ _ hpp4), fun r nr => ?_⟩
          have S6 : Same H5 (upd H5 r (.lst (orr.map V.str).reverse)) := Same.upd nr
          refine ⟨D, r, _, _, rfl, rfl, S6 _ _ hD, upd_same, by rw [List.length_reverse, List.length_map, List.length_map, sizeLine_eq]; omega, fun e H7 S7 ne he => ?_⟩
          have S37 := S3.trans (S4.trans (S5.trans (S6.trans S7)))
          refine k1 hc nh H7 e (ex02.trans (ExtN.of S37)) (tb2.ext S37) (newT_of (ex02.trans (ExtN.of (S3.trans (S4.trans (S5.trans S6))))) ne) ?_
          rw [he]
          unfold smoothL
          rw [hor, hnm, List.map_append, List.map_reverse]
    · refine ⟨_, rfl, _, rfl, ifT rfl ?_⟩
      exact k2 (fun z => no z.1) H1 ex1 tb1
end
end E4

set_option Elab.async false
set_option linter.all false
set_option maxRecDepth 100000
set_option maxHeartbeats 1000000
/-! sums and products of forms as functions (beside the plain family) -/
namespace L2
open PySem PySem.Spec PyProof.Rows
def mulT (xy : (MonR × Rat) × (MonR × Rat)) : MonR × Rat := (sortT (xy.1.1 ++ xy.2.1), xy.1.2 * xy.2.2)
theorem MulT.eq {z : MonR × Rat} {xy : (MonR × Rat) × (MonR × Rat)} (h : MulT z xy) : z = mulT xy := Prod.ext (sortT_one h.1 h.2.1) h.2.2
/-- a + b, a * b -/
def addF (a b : Fm) : Fm := mapM (fun q => !decide (q = 0)) id (addTo a b)
end L2

set_option Elab.async false
set_option linter.all false
set_option maxRecDepth 100000
set_option maxHeartbeats 1000000
/-! forms as polynomials: sums over terms, the ring -/
namespace L2
open PySem PySem.Spec PyProof.Rows
/-- the sum of the coefficients, each times what f says of its sorted letters -/
def pr (f : MonR → Rat) : Fm → Rat
  | [] => 0
  | x :: r => x.2 * f (sortT x.1) + pr f r
theorem pr_append (f : MonR → Rat) : ∀ (a b : Fm), pr f (a ++ b) = pr f a + pr f b
  | [], b => by show pr f b = 0 + pr f b; grind
  | x :: a, b => by
    show x.2 * _ + pr f (a ++ b) = x.2 * _ + pr f a + pr f b
    rw [pr_append f a b]
    grind
theorem pr_mapM (f : MonR → Rat) {p : Rat → Bool} (hp : ∀ q, p q = false → q = 0) : ∀ fm : Fm, pr f (mapM p id fm) = pr f fm
  | [] => rfl
  | x :: r => by
    have ih := pr_mapM f hp r
    unfold mapM at ih ⊢
    rw [List.filter_cons]
    by_cases c : p x.2 = true
    · rw [if_pos c]
      show x.2 * _ + pr f _ = x.2 * _ + pr f r
      rw [ih]
    · rw [if_neg c, ih]
      show pr f r = x.2 * _ + pr f r
      rw [hp x.2 (by simpa using c)]
      grind
theorem pr_neg (f : MonR → Rat) : ∀ fm : Fm, pr f (mapM (fun _ => true) (fun q => -q) fm) = -pr f fm
  | [] => by show (0 : Rat) = -0; grind
  | x :: r => by
    have ih := pr_neg f r
    unfold mapM at ih ⊢
    rw [List.filter_cons, if_pos rfl]
    show -x.2 * _ + pr f _ = -(x.2 * _ + pr f r)
    rw [ih]
    grind
theorem pr_putM (f : MonR → Rat) (m : MonR) (c : Rat) : ∀ fm : Fm, (fm.map (·.1)).Nodup → pr f (putM fm m ((valM fm m).getD 0 + c)) = pr f fm + c * f (sortT m)
  | [], _ => by
    show (0 + c) * _ + 0 = 0 + c * _
    grind
  | x :: r, h => by
    rw [List.map_cons] at h
    obtain ⟨h1, h2⟩ := List.nodup_cons.mp h
    by_cases e : x.1 = m
    · rw [valM_hit e, putM_hit e (by rw [← e]; exact h1), Option.getD_some]
      show (x.2 + c) * _ + pr f r = x.2 * f (sortT x.1) + pr f r + c * _
      rw [e]
      grind
    · rw [valM_miss e, putM_miss e]
      show x.2 * _ + pr f _ = x.2 * _ + pr f r + c * _
      rw [pr_putM f m c r h2]
      grind
theorem pr_addTo (f : MonR → Rat) : ∀ (l acc : Fm), (acc.map (·.1)).Nodup → pr f (addTo acc l) = pr f acc + pr f l
  | [], acc, _ => by show pr f acc = pr f acc + 0; grind
  | x :: l, acc, h => by
    show pr f (addTo (add1 acc x) l) = pr f acc + (x.2 * _ + pr f l)
    rw [pr_addTo f l (add1 acc x) (nodup_putM _ _ _ h)]
    unfold add1
    rw [pr_putM f x.1 x.2 acc h]
    grind
theorem nzP : ∀ q : Rat, (!decide (q = 0)) = false → q = 0 := fun q h => by simpa using h
theorem pr_addF (f : MonR → Rat) {a b : Fm} (h : (a.map (·.1)).Nodup) : pr f (addF a b) = pr f a + pr f b := by
  unfold addF
  rw [pr_mapM f nzP, pr_addTo f b a h]
/-! sorted lists of letters: a commutative monoid -/
theorem sortT_sorted {l : List Str} (h : List.Pairwise (fun a b => leT a b = true) l) : sortT l = l :=
  (List.Perm.eq_of_pairwise (le := fun a b => leT a b = true) (fun _ _ _ _ => leT_anti) h (sortT_pw l) (sortT_perm l).symm).symm
theorem sortT_of_perm {l m : List Str} (h : l.Perm m) : sortT l = sortT m :=
  List.Perm.eq_of_pairwise (le := fun a b => leT a b = true) (fun _ _ _ _ => leT_anti) (sortT_pw l) (sortT_pw m) ((sortT_perm l).trans (h.trans (sortT_perm m).symm))
theorem sortT_idem (l : List Str) : sortT (sortT l) = sortT l := sortT_sorted (sortT_pw l)
/-- products, the letters sorted -/
theorem pr_row (f : MonR → Rat) (x : MonR × Rat) : ∀ b : Fm, pr f ((b.map fun y => (x, y)).map mulT) = x.2 * pr (fun n => f (sortT (x.1 ++ n))) b
  | [] => by show (0 : Rat) = _ * 0; grind
  | y :: b => by
    have ih := pr_row f x b
    rw [List.map_cons, List.map_cons]
    show x.2 * y.2 * f (sortT (sortT (x.1 ++ y.1))) + pr f _ = x.2 * (y.2 * f (sortT (x.1 ++ sortT y.1)) + pr _ b)
    rw [ih, sortT_idem, sortT_of_perm (List.Perm.append (List.Perm.refl x.1) (sortT_perm y.1))]
    grind
theorem pr_all (f : MonR → Rat) (b : Fm) : ∀ a : Fm, pr f ((allP a b).map mulT) = pr (fun m => pr (fun n => f (sortT (m ++ n))) b) a
  | [] => rfl
  | x :: a => by
    have ih := pr_all f b a
    unfold allP at ih ⊢
    rw [List.flatMap_cons, List.map_append, pr_append, ih, pr_row]
    show _ = x.2 * pr (fun n => f (sortT (sortT x.1 ++ n))) b + _
    have e : (fun n => f (sortT (sortT x.1 ++ n))) = fun n => f (sortT (x.1 ++ n)) := by
      funext n
      rw [sortT_of_perm (List.Perm.append (sortT_perm x.1) (List.Perm.refl n))]
    rw [e]
theorem pr_congr {f g : MonR → Rat} (h : ∀ m, f (sortT m) = g (sortT m)) : ∀ a : Fm, pr f a = pr g a
  | [] => rfl
  | x :: a => by
    show x.2 * f (sortT x.1) + pr f a = x.2 * g (sortT x.1) + pr g a
    rw [h, pr_congr h a]
theorem pr_add (f g : MonR → Rat) : ∀ a : Fm, pr (fun m => f m + g m) a = pr f a + pr g a
  | [] => by show (0 : Rat) = 0 + 0; grind
  | x :: a => by
    have ih := pr_add f g a
    show x.2 * (f _ + g _) + pr _ a = x.2 * f _ + pr f a + (x.2 * g _ + pr g a)
    rw [ih]
    grind
theorem pr_mulc (c : Rat) (f : MonR → Rat) : ∀ a : Fm, pr (fun m => c * f m) a = c * pr f a
  | [] => by show (0 : Rat) = c * 0; grind
  | x :: a => by
    have ih := pr_mulc c f a
    show x.2 * (c * f _) + pr _ a = c * (x.2 * f _ + pr f a)
    rw [ih]
    grind
theorem pr_zero (f : MonR → Rat) (h : ∀ m, f m = 0) : ∀ a : Fm, pr f a = 0
  | [] => rfl
  | x :: a => by
    show x.2 * f _ + pr f a = 0
    rw [h, pr_zero f h a]
    grind
theorem pr_swap (F : MonR → MonR → Rat) (b : Fm) : ∀ a : Fm, pr (fun m => pr (fun n => F m n) b) a = pr (fun n => pr (fun m => F m n) a) b
  | [] => by
    show 0 = pr (fun _ => (0 : Rat)) b
    rw [pr_zero _ (fun _ => rfl)]
  | x :: a => by
    have ih := pr_swap F b a
    show x.2 * pr (fun n => F (sortT x.1) n) b + pr _ a = pr (fun n => x.2 * F (sortT x.1) n + pr (fun m => F m n) a) b
    rw [pr_add, pr_mulc, ih]
/-- the same polynomial -/
def Peq (a b : Fm) : Prop := ∀ f, pr f a = pr f b
theorem Peq.refl (a : Fm) : Peq a a := fun _ => rfl
theorem Peq.symm {a b : Fm} (h : Peq a b) : Peq b a := fun f => (h f).symm
theorem Peq.trans {a b c : Fm} (h : Peq a b) (k : Peq b c) : Peq a c := fun f => (h f).trans (k f)
instance polS : Setoid Fm := ⟨Peq, Peq.refl, Peq.symm, Peq.trans⟩
def Pol : Type := Quotient polS
def mulL (a b : Fm) : Fm := (allP a b).map mulT
def sclL (c : Rat) (a : Fm) : Fm := a.map fun x => (x.1, c * x.2)
theorem pr_sclL (c : Rat) (f : MonR → Rat) : ∀ a : Fm, pr f (sclL c a) = c * pr f a
  | [] => by show (0 : Rat) = c * 0; grind
  | x :: a => by
    have ih := pr_sclL c f a
    show c * x.2 * f _ + pr f (sclL c a) = c * (x.2 * f _ + pr f a)
    rw [ih]
    grind
theorem peq_app {a a' b b' : Fm} (h : Peq a a') (k : Peq b b') : Peq (a ++ b) (a' ++ b') := fun f => by rw [pr_append, pr_append, h f, k f]
theorem peq_mul {a a' b b' : Fm} (h : Peq a a') (k : Peq b b') : Peq (mulL a b) (mulL a' b') := fun f => by
  unfold mulL
  rw [pr_all, pr_all, h]
  exact pr_congr (fun m => k _) a'
theorem peq_scl {a a' : Fm} (c : Rat) (h : Peq a a') : Peq (sclL c a) (sclL c a') := fun f => by rw [pr_sclL, pr_sclL, h f]
theorem mulL_comm (a b : Fm) : Peq (mulL a b) (mulL b a) := fun f => by
  unfold mulL
  rw [pr_all, pr_all, pr_swap]
  refine pr_congr (fun m => ?_) b
  refine pr_congr (fun n => ?_) a
  rw [sortT_of_perm List.perm_append_comm]
theorem mulL_assoc (a b c : Fm) : Peq (mulL (mulL a b) c) (mulL a (mulL b c)) := fun f => by
  show pr f ((allP ((allP a b).map mulT) c).map mulT) = pr f ((allP a ((allP b c).map mulT)).map mulT)
  rw [pr_all, pr_all, pr_all]
  refine pr_congr (fun m => ?_) a
  rw [pr_all]
  refine pr_congr (fun n => ?_) b
  refine pr_congr (fun k => ?_) c
  rw [sortT_of_perm (List.Perm.append (sortT_perm _) (List.Perm.refl _)), sortT_of_perm (List.Perm.append (List.Perm.refl (sortT m)) (sortT_perm _)), List.append_assoc]
theorem mulL_add (a b c : Fm) : Peq (mulL a (b ++ c)) (mulL a b ++ mulL a c) := fun f => by
  rw [pr_append]
  unfold mulL
  rw [pr_all, pr_all, pr_all, ← pr_add]
  exact pr_congr (fun m => pr_append _ _ _) a
theorem mulL_one (a : Fm) : Peq (mulL a [([], 1)]) a := fun f => by
  unfold mulL
  rw [pr_all]
  refine pr_congr (fun m => ?_) a
  show 1 * f (sortT (sortT m ++ [])) + 0 = f (sortT m)
  rw [List.append_nil, sortT_idem]
  grind
end L2

set_option Elab.async false
set_option linter.all false
set_option maxRecDepth 100000
set_option maxHeartbeats 1000000
/-! the ring of polynomials; forms as its elements; == -/
namespace L2
open PySem PySem.Spec PyProof.Rows
def pol (a : Fm) : Pol := Quotient.mk polS a
theorem pol_eq {a b : Fm} (h : Peq a b) : pol a = pol b := Quotient.sound h
theorem pol_peq {a b : Fm} (h : pol a = pol b) : Peq a b := Quotient.exact h
def cst (q : Rat) : Pol := pol [([], q)]
theorem pr_one (f : MonR → Rat) (m : MonR) (q : Rat) : pr f [(m, q)] = q * f (sortT m) := by
  show q * f (sortT m) + 0 = _
  grind
theorem sortT_nil : sortT ([] : List Str) = [] := rfl
theorem mulL_cst (q : Rat) (a : Fm) : Peq (mulL [([], q)] a) (sclL q a) := fun f => by
  unfold mulL
  rw [pr_all, pr_sclL, pr_one]
  congr 1
  refine pr_congr (fun m => ?_) a
  rw [sortT_nil, List.nil_append, sortT_idem]
instance : Add Pol := ⟨Quotient.lift₂ (fun a b => pol (a ++ b)) fun _ _ _ _ h k => pol_eq (peq_app h k)⟩
instance : Mul Pol := ⟨Quotient.lift₂ (fun a b => pol (mulL a b)) fun _ _ _ _ h k => pol_eq (peq_mul h k)⟩
instance : Neg Pol := ⟨Quotient.lift (fun a => pol (sclL (-1) a)) fun _ _ h => pol_eq (peq_scl (-1) h)⟩
instance : _root_.Sub Pol := ⟨fun a b => a + -b⟩
instance : NatCast Pol := ⟨fun n => cst (n : Rat)⟩
instance : IntCast Pol := ⟨fun n => cst (n : Rat)⟩
instance (n : Nat) : OfNat Pol n := ⟨cst (n : Rat)⟩
instance : SMul Nat Pol := ⟨fun n a => cst (n : Rat) * a⟩
instance : SMul Int Pol := ⟨fun n a => cst (n : Rat) * a⟩
def powP (a : Pol) : Nat → Pol
  | 0 => cst 1
  | n + 1 => powP a n * a
instance : HPow Pol Nat Pol := ⟨powP⟩
theorem pol_app (a b : Fm) : pol (a ++ b) = pol a + pol b := rfl
theorem pol_scl (q : Rat) (a : Fm) : pol (sclL q a) = cst q * pol a := (pol_eq (mulL_cst q a)).symm
theorem pol_neg1 (a : Fm) : -pol a = cst (-1) * pol a := pol_scl (-1) a
theorem cst_add (p q : Rat) : cst (p + q) = cst p + cst q := pol_eq fun f => by
  rw [pr_append, pr_one, pr_one, pr_one]
  grind
theorem cst_mul (p q : Rat) : cst (p * q) = cst p * cst q := pol_eq fun f => by
  show pr f _ = pr f ((allP _ _).map mulT)
  rw [pr_all, pr_one, pr_one, pr_one]
  rw [sortT_nil, List.nil_append, sortT_nil]
  grind
theorem cst_zero : cst 0 = pol [] := pol_eq fun f => by
  rw [pr_one]
  show 0 * _ = (0 : Rat)
  grind
theorem neg_cst (q : Rat) : -cst q = cst (-q) := by
  show -pol _ = _
  rw [pol_neg1]
  show cst (-1) * cst q = _
  rw [← cst_mul]
  congr 1
  grind
theorem zero_def : (0 : Pol) = cst 0 := rfl
theorem padd_comm (a b : Pol) : a + b = b + a := Quotient.inductionOn₂ a b fun a b => pol_eq fun f => by
  rw [pr_append, pr_append]
  grind
theorem padd_assoc (a b c : Pol) : a + b + c = a + (b + c) := Quotient.inductionOn₃ a b c fun a b c => by
  show pol (a ++ b ++ c) = pol (a ++ (b ++ c))
  rw [List.append_assoc]
theorem padd_zero (a : Pol) : a + 0 = a := Quotient.inductionOn a fun a => by
  show pol a + cst 0 = pol a
  rw [cst_zero, ← pol_app, List.append_nil]
theorem pmul_comm (a b : Pol) : a * b = b * a := Quotient.inductionOn₂ a b fun a b => pol_eq (mulL_comm a b)
theorem pmul_assoc (a b c : Pol) : a * b * c = a * (b * c) := Quotient.inductionOn₃ a b c fun a b c => pol_eq (mulL_assoc a b c)
theorem pmul_one (a : Pol) : a * 1 = a := Quotient.inductionOn a fun a => pol_eq (mulL_one a)
theorem pdistrib (a b c : Pol) : a * (b + c) = a * b + a * c := Quotient.inductionOn₃ a b c fun a b c => pol_eq (mulL_add a b c)
theorem pmul_zero (a : Pol) : a * 0 = 0 := by
  rw [pmul_comm]
  refine Quotient.inductionOn a fun a => ?_
  show cst 0 * pol a = cst 0
  rw [cst_zero]
  rfl
instance : Lean.Grind.CommRing Pol where
  add_zero := padd_zero
  add_comm := padd_comm
  add_assoc := padd_assoc
  mul_assoc := pmul_assoc
  mul_comm := pmul_comm
  mul_one := pmul_one
  one_mul a := by rw [pmul_comm, pmul_one]
  left_distrib := pdistrib
  right_distrib a b c := by rw [pmul_comm, pdistrib, pmul_comm c, pmul_comm c]
  zero_mul a := by rw [pmul_comm, pmul_zero]
  mul_zero := pmul_zero
  pow_zero _ := rfl
  pow_succ _ _ := rfl
  ofNat_succ n := by
    show cst ((n + 1 : Nat) : Rat) = cst (n : Rat) + cst 1
    rw [← cst_add, Rat.natCast_add]
    rfl
  neg_add_cancel a := by
    refine Quotient.inductionOn a fun a => ?_
    show -pol a + pol a = cst 0
    rw [cst_zero]
    refine pol_eq fun f => ?_
    show pr f (sclL (-1) a ++ a) = 0
    rw [pr_append, pr_sclL]
    grind
  sub_eq_add_neg _ _ := rfl
  neg_zsmul i a := by
    show cst ((-i : Int) : Rat) * a = -(cst (i : Rat) * a)
    rw [Rat.intCast_neg]
    refine Quotient.inductionOn a fun a => ?_
    show cst (-(i : Rat)) * pol a = -(cst (i : Rat) * pol a)
    rw [← pol_scl, ← pol_scl]
    refine pol_eq fun f => ?_
    show _ = pr f (sclL (-1) (sclL _ a))
    rw [pr_sclL, pr_sclL, pr_sclL]
    grind
  zsmul_natCast_eq_nsmul n a := by
    show cst (((n : Int)) : Rat) * a = cst (n : Rat) * a
    rw [Rat.intCast_natCast]
  intCast_ofNat n := by
    show cst ((((OfNat.ofNat n : Nat) : Int)) : Rat) = cst (n : Rat)
    rfl
  intCast_neg i := by
    show cst ((-i : Int) : Rat) = -cst (i : Rat)
    rw [neg_cst, Rat.intCast_neg]
example (a b : Pol) : (a - b) * (a + b) = a * a - b * b := by grind
/-- the forms' operations -/
theorem pol_addF {a b : Fm} (h : (a.map (·.1)).Nodup) : pol (addF a b) = pol a + pol b := pol_eq fun f => by rw [pr_addF f h, pr_append]
theorem pol_negM (a : Fm) : pol (mapM (fun _ => true) (fun q => -q) a) = -pol a := pol_eq fun f => by
  show _ = pr f (sclL (-1) a)
  rw [pr_neg, pr_sclL]
  grind
end L2

set_option Elab.async false
set_option linter.all false
set_option maxRecDepth 100000
set_option maxHeartbeats 1000000
/-! two forms are equal dicts exactly if they are the same polynomial -/
namespace L2
open PySem PySem.Spec PyProof.Rows
structure Canon (a : Fm) : Prop where
  nd : (a.map (·.1)).Nodup
  so : ∀ x ∈ a, sortT x.1 = x.1
  nz : ∀ x ∈ a, x.2 ≠ 0
def dlt (m : MonR) : MonR → Rat := fun k => if k = m then 1 else 0
theorem valM_none {a : Fm} {m : MonR} (h : m ∉ a.map (·.1)) : valM a m = none := by
  induction a with
  | nil => rfl
  | cons x r ih =>
    rw [List.map_cons] at h
    rw [valM_miss fun e => h (List.mem_cons.mpr (.inl e.symm)), ih fun z => h (List.mem_cons.mpr (.inr z))]
theorem valM_of_mem : ∀ {a : Fm}, (a.map (·.1)).Nodup → ∀ x ∈ a, valM a x.1 = some x.2
  | [], _, x, h => absurd h List.not_mem_nil
  | y :: r, hn, x, h => by
    rw [List.map_cons] at hn
    obtain ⟨h1, h2⟩ := List.nodup_cons.mp hn
    rcases List.mem_cons.mp h with rfl | h
    · exact valM_hit rfl
    · rw [valM_miss fun e => h1 (by rw [e]; exact List.mem_map.mpr ⟨x, h, rfl⟩), valM_of_mem h2 x h]
theorem pr_dlt (m : MonR) : ∀ a : Fm, (a.map (·.1)).Nodup → (∀ x ∈ a, sortT x.1 = x.1) → pr (dlt m) a = (valM a m).getD 0
  | [], _, _ => rfl
  | x :: r, hn, so => by
    rw [List.map_cons] at hn
    obtain ⟨h1, h2⟩ := List.nodup_cons.mp hn
    have ih := pr_dlt m r h2 fun y hy => so y (List.mem_cons.mpr (.inr hy))
    show x.2 * dlt m (sortT x.1) + pr (dlt m) r = _
    rw [so x List.mem_cons_self, ih]
    unfold dlt
    by_cases e : x.1 = m
    · rw [valM_hit e, if_pos e, valM_none (by rw [← e]; exact h1)]
      show x.2 * 1 + 0 = x.2
      grind
    · rw [valM_miss e, if_neg e]
      grind
theorem valM_nz {a : Fm} (c : Canon a) (m : MonR) : (valM a m = none ∧ m ∉ a.map (·.1)) ∨ ∃ q, valM a m = some q ∧ q ≠ 0 ∧ m ∈ a.map (·.1) := by
  by_cases h : m ∈ a.map (·.1)
  · obtain ⟨x, hx, rfl⟩ := List.mem_map.mp h
    exact .inr ⟨x.2, valM_of_mem c.nd x hx, c.nz x hx, h⟩
  · exact .inl ⟨valM_none h, h⟩
theorem valM_same {a b : Fm} (ca : Canon a) (cb : Canon b) (h : pol a = pol b) (m : MonR) : valM a m = valM b m := by
  have e := pol_peq h (dlt m)
  rw [pr_dlt m a ca.nd ca.so, pr_dlt m b cb.nd cb.so] at e
  rcases valM_nz ca m with ⟨h1, _⟩ | ⟨p, h1, n1, _⟩ <;> rcases valM_nz cb m with ⟨h2, _⟩ | ⟨q, h2, n2, _⟩
  · rw [h1, h2]
  · rw [h1, h2] at e
    exact absurd e.symm n2
  · rw [h1, h2] at e
    exact absurd e n1
  · rw [h1, h2] at e
    rw [h1, h2]
    exact congrArg some e
theorem eqFm_of_pol {a b : Fm} (ca : Canon a) (cb : Canon b) (h : pol a = pol b) : eqFm a b = true := by
  have hv := valM_same ca cb h
  have hp : (a.map (·.1)).Perm (b.map (·.1)) := (List.perm_ext_iff_of_nodup ca.nd cb.nd).mpr fun m => by
    rcases valM_nz ca m with ⟨h1, n1⟩ | ⟨p, h1, _, m1⟩ <;> rcases valM_nz cb m with ⟨h2, n2⟩ | ⟨q, h2, _, m2⟩
    · exact ⟨fun z => absurd z n1, fun z => absurd z n2⟩
    · rw [hv m, h2] at h1; cases h1
    · rw [hv m, h2] at h1; cases h1
    · exact ⟨fun _ => m2, fun _ => m1⟩
  unfold eqFm
  rw [Bool.and_eq_true]
  refine ⟨?_, List.all_eq_true.mpr fun x _ => decide_eq_true (hv x.1).symm⟩
  have := hp.length_eq
  rw [List.length_map, List.length_map] at this
  rw [this]
  exact beq_self_eq_true _
theorem canon_nz {l : Fm} (nd : (l.map (·.1)).Nodup) (so : ∀ n ∈ l.map (·.1), sortT n = n) : Canon (mapM (fun q => !decide (q = 0)) id l) := by
  refine ⟨mapM_nodup nd, fun x hx => ?_, fun x hx => ?_⟩
  · exact so _ (mapM_keys (List.mem_map.mpr ⟨x, hx, rfl⟩))
  · unfold mapM at hx
    obtain ⟨y, hy, rfl⟩ := List.mem_map.mp hx
    have := (List.mem_filter.mp hy).2
    simpa using this
theorem canon_addF {a b : Fm} (ca : Canon a) (cb : Canon b) : Canon (addF a b) := by
  refine canon_nz (nodup_addTo b a ca.nd) fun n hn => ?_
  rcases keys_addTo b a n hn with h | h
  · obtain ⟨x, hx, rfl⟩ := List.mem_map.mp h
    exact ca.so x hx
  · obtain ⟨x, hx, rfl⟩ := List.mem_map.mp h
    exact cb.so x hx
theorem canon_neg {a : Fm} (ca : Canon a) : Canon (mapM (fun _ => true) (fun q => -q) a) := by
  refine ⟨mapM_nodup ca.nd, fun x hx => ?_, fun x hx => ?_⟩
  · obtain ⟨y, hy, e⟩ := List.mem_map.mp (mapM_keys (List.mem_map.mpr ⟨x, hx, rfl⟩))
    rw [← e]
    exact ca.so y hy
  · unfold mapM at hx
    obtain ⟨y, hy, rfl⟩ := List.mem_map.mp hx
    have h := ca.nz y (List.mem_filter.mp hy).1
    intro z
    exact h (by have : -(-y.2) = 0 := by rw [show -y.2 = 0 from z]; rfl
                rwa [Rat.neg_neg] at this)
end L2

set_option Elab.async false
set_option linter.all false
set_option maxRecDepth 100000
set_option maxHeartbeats 1000000
set_option exponentiation.threshold 500000
/-! sizes of forms without laws' trees: what of FmH3 and LwE speaks of sums alone -/
namespace E2
open PySem PySem.Spec PyProof.Rows L2
theorem keys_mapM {p : Rat → Bool} {f : Rat → Rat} {fm : Fm} {x : MonR × Rat} (h : x ∈ mapM p f fm) : ∃ y ∈ fm, x = (y.1, f y.2) ∧ p y.2 = true := by
  unfold mapM at h
  obtain ⟨y, hy, e⟩ := List.mem_map.mp h
  have := List.mem_filter.mp hy
  exact ⟨y, this.1, e.symm, this.2⟩
theorem mem_addTo_key {acc l : Fm} {x : MonR × Rat} (h : x ∈ addTo acc l) : x.1 ∈ acc.map (·.1) ∨ x.1 ∈ l.map (·.1) := keys_addTo l acc x.1 (List.mem_map.mpr ⟨x, h, rfl⟩)
theorem length_mapM {p : Rat → Bool} {f : Rat → Rat} {fm : Fm} : (mapM p f fm).length ≤ fm.length := by
  unfold mapM
  rw [List.length_map]
  exact List.length_filter_le _ _
abbrev negF (a : Fm) : Fm := mapM (fun _ => true) (fun q => -q) a
theorem canon_nil : Canon [] := ⟨List.nodup_nil, fun _ h => absurd h List.not_mem_nil, fun _ h => absurd h List.not_mem_nil⟩
structure Bd (names : List Str) (fm : Fm) (n L D b : Nat) : Prop where
  can : Canon fm
  len : fm.length ≤ n
  key : ∀ x ∈ fm, x.1.length ≤ L ∧ ∀ z ∈ x.1, z ∈ names
  bq : ∀ x ∈ fm, Bq D (2 ^ b) x.2
structure Ok (n L D b : Nat) : Prop where
  n_ : n ≤ 2000
  l_ : L ≤ 100
  d0 : 0 < D
  d_ : D ≤ 2 ^ 100
  b_ : b ≤ 20000
theorem p2 {a b : Nat} (h : a ≤ b) : 2 ^ a ≤ 2 ^ b := Nat.pow_le_pow_right (by decide) h
section
variable {names : List Str} {f1 f2 fm : Fm} {n n1 n2 L L1 L2 D D1 D2 b b1 b2 : Nat}
theorem Bd.mono {n' L' b' : Nat} (A : Bd names fm n L D b) (hn : n ≤ n') (hL : L ≤ L') (hb : b ≤ b') : Bd names fm n' L' D b' :=
  ⟨A.can, Nat.le_trans A.len hn, fun x hx => ⟨Nat.le_trans (A.key x hx).1 hL, (A.key x hx).2⟩, fun x hx => (A.bq x hx).mono (p2 hb)⟩
theorem Bd.nil : Bd names [] n L D b := ⟨canon_nil, Nat.zero_le _, fun x hx => absurd hx List.not_mem_nil, fun x hx => absurd hx List.not_mem_nil⟩
theorem keys_addF {x : MonR × Rat} (h : x ∈ addF f1 f2) : x.1 ∈ f1.map (·.1) ∨ x.1 ∈ f2.map (·.1) := by
  obtain ⟨y, hy, rfl, _⟩ := keys_mapM h
  exact mem_addTo_key hy
theorem Bd.add {c : Nat} (A : Bd names f1 n1 L D b) (B : Bd names f2 n2 L D b) (hc : 1 + n2 ≤ 2 ^ c) : Bd names (addF f1 f2) (n1 + n2) L D (b + c) := by
  refine ⟨canon_addF A.can B.can, ?_, fun x hx => ?_, fun x hx => ?_⟩
  · exact Nat.le_trans length_mapM (Nat.le_trans (length_addTo _ _) (by have := A.len; have := B.len; omega))
  · rcases keys_addF hx with h | h
    · obtain ⟨y, hy, e⟩ := List.mem_map.mp h
      rw [← e]; exact A.key y hy
    · obtain ⟨y, hy, e⟩ := List.mem_map.mp h
      rw [← e]; exact B.key y hy
  · obtain ⟨y, hy, rfl, _⟩ := keys_mapM hx
    refine (bq_addTo f2 f1 _ A.bq B.bq y hy).mono ?_
    have h1 : 2 ^ b + f2.length * 2 ^ b = (1 + f2.length) * 2 ^ b := by rw [Nat.add_mul, Nat.one_mul]
    rw [h1, Nat.mul_comm, Nat.pow_add]
    exact Nat.mul_le_mul_left _ (Nat.le_trans (by have := B.len; omega) hc)
theorem Bd.neg (A : Bd names fm n L D b) : Bd names (negF fm) n L D b := by
  refine ⟨canon_neg A.can, Nat.le_trans length_mapM A.len, fun x hx => ?_, fun x hx => ?_⟩
  · obtain ⟨y, hy, rfl, _⟩ := keys_mapM hx
    exact A.key y hy
  · obtain ⟨y, hy, rfl, _⟩ := keys_mapM hx
    exact (A.bq y hy).neg
theorem Bd.szs (A : Bd names f1 n1 L1 D1 b1) (B : Bd names f2 n2 L2 D2 b2) (oa : Ok n1 L1 D1 b1) (ob : Ok n2 L2 D2 b2) : Szs f1 f2 := by
  have l1 := A.len
  have l2 := B.len
  have a1 := oa.n_
  have a2 := ob.n_
  have e : (2 : Nat) ^ 20000 * 2 ^ 100 = 2 ^ 20100 := by rw [← Nat.pow_add]
  have m1 : 2 ^ b1 * D2 ≤ 2 ^ 20100 := by rw [← e]; exact Nat.mul_le_mul (p2 oa.b_) ob.d_
  have m2 : 2 ^ b2 * D1 ≤ 2 ^ 20100 := by rw [← e]; exact Nat.mul_le_mul (p2 ob.b_) oa.d_
  refine ⟨A.can.nd, B.can.nd, by rw [sizeLine_eq]; omega, D1 * D2, 2 ^ b1 * D2, 2 ^ b2 * D1, Nat.mul_pos oa.d0 ob.d0, ?_, ?_, ?_, fun x hx => (A.bq x hx).scale, fun x hx => by rw [Nat.mul_comm D1]; exact (B.bq x hx).scale⟩
  · refine Nat.lt_of_le_of_lt (Nat.mul_le_mul oa.d_ ob.d_) ?_
    rw [← Nat.pow_add]
    exact Nat.pow_lt_pow_right (by decide) (by decide)
  · have h1 : f2.length * (2 ^ b2 * D1) ≤ 2 ^ 11 * 2 ^ 20100 := Nat.mul_le_mul (by omega) m2
    rw [← Nat.pow_add] at h1
    have h2 : (2 : Nat) ^ 20100 ≤ 2 ^ 20111 := p2 (by decide)
    have h3 : (2 : Nat) ^ 20112 = 2 * 2 ^ 20111 := Nat.pow_succ'
    have h4 : (2 : Nat) ^ 20112 < 2 ^ 400000 := Nat.pow_lt_pow_right (by decide) (by decide)
    have h5 : (11 + 20100) = 20111 := rfl
    rw [h5] at h1
    generalize (2 : Nat) ^ 20111 = x at *
    omega
  · exact Nat.lt_of_le_of_lt m2 (Nat.pow_lt_pow_right (by decide) (by decide))
end
end E2

set_option Elab.async false
set_option linter.all false
set_option maxRecDepth 100000
set_option maxHeartbeats 1000000
set_option exponentiation.threshold 500000
/-! what jumps tells: mathematics and sizes of its forms -/
namespace E4
open PySem PySem.Spec PyProof.Rows L2
open E2 (Bd spAdd spSub)
abbrev Bw (n b : Nat) (f : Fm) : Prop := Bd L8 f n 40 1 b
theorem own_refs {P : Program} {w : World} {K : PySem.W.Frag} {C : Addr} {H : Hp} {a b : Addr} {fa fb : Fm} (ha : FmAt P w K C H a fa) (hb : FmAt P w K C H b fb) : ∃ dxa fsa dxb fsb, H a = some (.ins C dxa fsa) ∧ H b = some (.ins C dxb fsb) :=
  let ⟨x, _, _, h1, _⟩ := ha
  let ⟨y, _, _, h2, _⟩ := hb
  ⟨x, _, y, _, h1, h2⟩
theorem canon_one (m : List Str) : Canon (oneM m) := by
  refine ⟨show [sortT m].Nodup from List.nodup_cons.mpr ⟨List.not_mem_nil, List.nodup_nil⟩, fun x hx => ?_, fun x hx => ?_⟩
  · rw [List.mem_singleton.mp hx]; exact sortT_idem m
  · rw [List.mem_singleton.mp hx]; show (1 : Rat) ≠ 0; decide
theorem one_bw {m : List Str} (h : ∀ z ∈ m, z ∈ L8) (l : m.length ≤ 40) : Bw 1 0 (oneM m) := by
  refine ⟨canon_one m, Nat.le_refl _, fun x hx => ?_, fun x hx => ?_⟩
  · rw [List.mem_singleton.mp hx]
    exact ⟨by show (sortT m).length ≤ 40; rw [length_sortT]; exact l, fun z hz => h z ((sortT_perm m).mem_iff.mp hz)⟩
  · rw [List.mem_singleton.mp hx]; exact Bq.int (n := 1)
theorem bw_ok {n b : Nat} (hn : n ≤ 2000) (hb : b ≤ 20000) : E2.Ok n 40 1 b := ⟨hn, by decide, by decide, by decide, hb⟩
section
variable {P : Program} {w : World} {K : PySem.W.Frag} {CF : Addr} {H : Hp} {a b : Addr} {fa fb : Fm} {n1 n2 b1 b2 : Nat} {Q : VK}
theorem sub_op (ha : FmAt P w K CF H a fa) (hb : FmAt P w K CF H b fb) (A : Bw n1 b1 fa) (B : Bw n2 b2 fb) (h : n1 ≤ 2000 ∧ n2 ≤ 2000 ∧ b1 ≤ 20000 ∧ b2 ≤ 20000) (k : ∀ H' c, Same H H' → H c = none → FmAt P w K CF H' c (addF fa (E2.negF fb)) → Q (.ref c) H') : rOwn CF (spSub P w K CF) (.ref a) (.ref b) H Q := by
  obtain ⟨dxa, fsa, dxb, fsb, e1, e2⟩ := own_refs ha hb
  exact ⟨a, b, dxa, fsa, dxb, fsb, rfl, rfl, e1, e2, a, .ref b, fa, fb, rfl, ha, .inr ⟨b, rfl, hb⟩, A.szs B.neg (bw_ok h.1 h.2.2.1) (bw_ok h.2.1 h.2.2.2), B.can.nd, by have := B.len; rw [sizeLine_eq]; omega, k⟩
theorem add_op (ha : FmAt P w K CF H a fa) (hb : FmAt P w K CF H b fb) (A : Bw n1 b1 fa) (B : Bw n2 b2 fb) (h : n1 ≤ 2000 ∧ n2 ≤ 2000 ∧ b1 ≤ 20000 ∧ b2 ≤ 20000) (k : ∀ H' c, Same H H' → H c = none → FmAt P w K CF H' c (addF fa fb) → Q (.ref c) H') : rOwn CF (spAdd P w K CF) (.ref a) (.ref b) H Q := by
  obtain ⟨dxa, fsa, dxb, fsb, e1, e2⟩ := own_refs ha hb
  exact ⟨a, b, dxa, fsa, dxb, fsb, rfl, rfl, e1, e2, a, .ref b, fa, fb, rfl, ha, .inr ⟨b, rfl, hb⟩, A.szs B (bw_ok h.1 h.2.2.1) (bw_ok h.2.1 h.2.2.2), k⟩
end
/-- a product of letters, as a polynomial -/
def pm (m : List Str) : Pol := pol (oneM m)
/-- where the sides inside have come to -/
def backP : List Sd → Pol
  | [] => cst 0
  | x :: xs => (pm (x.2.2 ++ x.2.1) + -pm x.2.2) + backP xs
theorem backP_snoc (x : Sd) : ∀ xs : List Sd, backP (xs ++ [x]) = backP xs + pm (x.2.2 ++ x.2.1) + -pm x.2.2
  | [] => by show (pm (x.2.2 ++ x.2.1) + -pm x.2.2) + cst 0 = cst 0 + pm (x.2.2 ++ x.2.1) + -pm x.2.2; rw [← zero_def]; grind
  | y :: ys => by
    have ih := backP_snoc x ys
    show (pm (y.2.2 ++ y.2.1) + -pm y.2.2) + backP (ys ++ [x]) = (pm (y.2.2 ++ y.2.1) + -pm y.2.2) + backP ys + pm (x.2.2 ++ x.2.1) + -pm x.2.2
    rw [ih]
    grind
def aroundL (xs : List Sd) (i : Nat) : List Str := (xs.drop (i + 1)).flatMap (·.2.1)
abbrev Jp := Str × Fm × Fm
structure JOk (xs : List Sd) (i : Nat) (x : Sd) (j : Jp) : Prop where
  nm : j.1 = x.1
  cw : Canon j.2.1
  co : Canon j.2.2
  pw : pol j.2.1 = pm x.2.2 + -backP (xs.take i)
  po : pol j.2.2 = pm (aroundL xs i ++ x.2.1) + -pm (aroundL xs i)
def JsOk (xs : List Sd) (js : List Jp) : Prop := js.length = xs.length ∧ ∀ (i : Nat) x j, xs[i]? = some x → js[i]? = some j → JOk xs i x j
def JpAt (P : Program) (w : World) (K : PySem.W.Frag) (CF : Addr) (H : Hp) (t : Addr) (j : Jp) : Prop := ∃ a b, H t = some (.tup [.str j.1, .ref a, .ref b]) ∧ FmAt P w K CF H a j.2.1 ∧ FmAt P w K CF H b j.2.2
theorem JpAt.same {P : Program} {w : World} {K : PySem.W.Frag} {CF : Addr} {H H' : Hp} {t : Addr} {j : Jp} (h : JpAt P w K CF H t j) (S : Same H H') : JpAt P w K CF H' t j := let ⟨a, b, h1, h2, h3⟩ := h; ⟨a, b, S _ _ h1, h2.same S, h3.same S⟩
theorem pol_sub {a b : Fm} (ca : Canon a) (cb : Canon b) : pol (addF a (E2.negF b)) = pol a + -pol b := by
  rw [pol_addF ca.nd, show pol (E2.negF b) = -pol b from pol_negM b]
theorem around_len {xs : List Sd} (ok : ∀ x ∈ xs, RowOk x) (l : xs.length ≤ 8) (i : Nat) : (aroundL xs i).length ≤ 24 ∧ ∀ z ∈ aroundL xs i, z ∈ L8 := by
  have g : ∀ ys : List Sd, (∀ x ∈ ys, RowOk x) → (ys.flatMap (·.2.1)).length ≤ 3 * ys.length := by
    intro ys h
    induction ys with
    | nil => exact Nat.le_refl _
    | cons y ys ih =>
      have i1 := ih fun x hx => h x (List.mem_cons_of_mem _ hx)
      have i2 := (h y List.mem_cons_self).2.2.1
      rw [List.flatMap_cons, List.length_append, List.length_cons]
      omega
  have hd : ∀ x ∈ xs.drop (i + 1), RowOk x := fun x hx => ok x (List.mem_of_mem_drop hx)
  refine ⟨?_, fun z hz => ?_⟩
  · have := g _ hd
    rw [List.length_drop] at this
    unfold aroundL
    omega
  · obtain ⟨x, hx, h⟩ := List.mem_flatMap.mp hz
    exact (hd x hx).1 z h
end E4

set_option Elab.async false
set_option linter.all false
set_option maxRecDepth 100000
set_option maxHeartbeats 2000000
set_option exponentiation.threshold 500000
/-! jumps -/
namespace E4
open PySem PySem.Spec PyProof.Rows L2
open E2 (Bd spAdd spSub)
open C8 (Cal Mak Met InsC pe_c pe_mt pe_mt0 call_isC clsBody)
abbrev sJumps : Stmt := top 41
def spJumps (P : Program) (w : World) (K : PySem.W.Frag) (C CF : Addr) : Sp := fun vs H Q _ => ∃ (a l : Addr) (wk : List Str) (ss : List Sd), vs = [.ref a, .ref l] ∧ H l = some (.lst (wk.map V.str)) ∧ wk.Perm (ss.map (·.1)) ∧ PlAt C H a ss ∧ SdsOk ss ∧ (∀ x ∈ ss, RowOk x) ∧ ss.length ≤ 8 ∧
  ∀ H' p ts js xs, Same H H' → H p = none → H' p = some (.lst (ts.map V.ref)) → Paired (JpAt P w K CF H') ts js → xs.map (·.1) = wk.reverse → (∀ x ∈ xs, x ∈ ss) → JsOk xs js → Q (.ref p) H'
theorem paired_imp {α β : Type} {R R' : α → β → Prop} {as : List α} {bs : List β} (h : Paired R as bs) (k : ∀ a ∈ as, ∀ b, R a b → R' a b) : Paired R' as bs := by
  induction h with
  | nil => exact .nil
  | cons r t ih => exact .cons (k _ List.mem_cons_self _ r) (ih fun a ha => k a (List.mem_cons_of_mem _ ha))
theorem noTup_lst4 {xs : List V} : NoTup (.lst xs) := ⟨fun _ z => (nomatch z), fun _ _ z => (nomatch z)⟩
theorem fm_sameL {P : Program} {w : World} {K : PySem.W.Frag} {C : Addr} {D : Addr} {H H' : Hp} {b : Addr} {f : Fm} {xs : List V} (h : FmAt P w K C H b f) (S : SameB D H H') (hD : H D = some (.lst xs)) : FmAt P w K C H' b f := by
  obtain ⟨dx, d, kvs, h1, h2, h3⟩ := h
  refine ⟨dx, d, kvs, S _ _ (fun z => ?_) h1, S _ _ (fun z => ?_) h2, h3.imp (.sameB S hD noTup_lst4)⟩
  · rw [z, hD] at h1; cases h1
  · rw [z, hD] at h2; exact absurd (Option.some.inj h2).symm (fun z => nomatch (show HO.ext _ = _ from z))
section
variable {P : Program} {w : World} {K : PySem.W.Frag} {mg : Str → Option Value} {base : Heap} {C CF : Addr}
theorem scJumps : FnScope ["table", "walk", "sides", "found", "back", "at", "name", "size", "step", "around", "side", "part", "often"] ["table", "walk"] (defScope sJumps) := ⟨rfl, rfl, rfl, by decide +kernel, rfl, by decide +kernel, by decide +kernel⟩
theorem ok_jumps {f : Addr} {fd : FuncData} (F : Fun K "jumps" "jumps" sJumps f fd) (hen : mg "enumerate" = none) (Ct : Cal P w K mg base 1 "check_table" (spCheckT C) []) (Cw : Cal P w K mg base 2 "check_walk" (spWalk C) []) (Io : Cal P w K mg base 2 "inside_out" (spInside C) []) (Nu : Cal P w K mg base 3 "number" (E2.spNumber P w K CF) []) (Pf : Cal P w K mg base 3 "product_form" (spProdF P w K CF) [])
    (Ad : E2.OpM P w K mg base 5 CF "__add__" (spAdd P w K CF)) (Su : E2.OpM P w K mg base 6 CF "__sub__" (spSub P w K CF)) : FnOk P w K mg base CX0 7 f fd ["table", "walk"] (spJumps P w K C CF) := by
  obtain ⟨fa, fda, psa, Oa, Fa, ba⟩ := Ad.ex
  obtain ⟨fs, fds, pss_, Os, Fs, bs⟩ := Su.ex
  refine F.ok scJumps (fun vs H Q E h => ?_) (fun cdv A outer s H vs Q E hr h => ?_)
  · obtain ⟨a, l, wk, ss, rfl, _⟩ := h
    rfl
  · obtain ⟨a, l, wk, ss, rfl, hl, pmw, hp, ok, rok, l8, k⟩ := h
    refine ⟨_, pss_cons (ps_expr (pe_c Ct hr (by decide) rfl (pa_cons (pv 0) pa_nil)))
      (pss_cons (ps_expr (pe_c Cw hr (by decide) rfl (pa_cons (pv 1) (pa_cons (pv 0) pa_nil))))
      (pss_cons (ps_set (i := 2) scJumps.nd rfl (Or.inl rfl) (pe_c Io hr (by decide) rfl (pa_cons (pv 0) (pa_cons (pv 1) pa_nil))))
      (pss_cons (ps_set (i := 3) scJumps.nd rfl (Or.inl rfl) (pe_lstS pa_nil))
      (pss_cons (ps_set (i := 4) scJumps.nd rfl (Or.inl rfl) (pe_c Nu hr (by decide) rfl (pa_cons pe_int pa_nil)))
      (pss_cons (ps_for PassesOwn.never rfl (pi_enum (by rfl) hen (pa_cons (pv 2) pa_nil)) (pg_tup rfl (pgs_cons (pg_name (i := 5) scJumps.nd rfl (Or.inl rfl)) (pgs_cons (pg_tup rfl (pgs_cons (pg_name (i := 6) scJumps.nd rfl (Or.inl rfl)) (pgs_cons (pg_name (i := 7) scJumps.nd rfl (Or.inl rfl)) (pgs_cons (pg_name (i := 8) scJumps.nd rfl (Or.inl rfl)) pgs_nil)))) pgs_nil)))
        (pss_cons (ps_setLc2 (i := 9) (own := [("side", 10), ("part", 11)]) (vs1 := [11]) (g := gName 10) (tt := tYes) (wi1 := iList K (tOp (rIxT K) (tVar 10) (tC (.int 1)))) (g1 := gName 11) (tt1 := tYes) (te := tVar 11) rfl scJumps.nd rfl rfl (by rfl)
          (pi_list (pe_slice sl_listS (pv 2) (po_some (pe_op op_add (pv 5) pe_int)) po_none)) (blkOk_by (own := [("side", 10), ("part", 11)]) (N := ["table", "walk", "sides", "found", "back", "at", "name", "size", "step", "around", "side", "part", "often"]) (sc := defScope sJumps) (by decide +kernel)) (by decide)
          (fun _ _ _ _ _ => pg_name (i := 10) scJumps.nd rfl (Or.inl rfl)) (fun _ _ _ _ _ => pts_nil)
          (fun _ _ _ _ _ => by exact pi_list (pe_ix ix_tup (pv 10) pe_int (fun _ _ => rfl))) (fun _ _ _ _ _ => pg_name (i := 11) scJumps.nd rfl (Or.inl rfl)) (fun _ _ _ _ _ => pts_nil) (fun _ _ _ _ _ => pv 11))
        (pss_cons (ps_set (i := 12) scJumps.nd rfl (Or.inl rfl) (pe_op (op_own Os Fs hr bs) (pe_c Pf hr (by decide) rfl (pa_cons (pe_op op_catS (pv 9) (pv 7)) pa_nil)) (pe_c Pf hr (by decide) rfl (pa_cons (pv 9) pa_nil))))
        (pss_cons (ps_expr (pe_bm PySem.F.plainAttrs_list PySem.F.slot_list_append PySem.F.type_list_append mt_append (pv 3) (pa_cons (pe_tupS (pa_cons (pv 6) (pa_cons (pe_op (op_own Os Fs hr bs) (pe_c Pf hr (by decide) rfl (pa_cons (pv 8) pa_nil)) (pv 4)) (pa_cons (pv 12) pa_nil)))) pa_nil)))
        (pss_one (ps_set (i := 4) scJumps.nd rfl (Or.inl rfl) (pe_op (op_own Os Fs hr bs) (pe_op (op_own Oa Fa (hr.mono (by decide)) ba) (pv 4) (pe_c Pf hr (by decide) rfl (pa_cons (pe_op op_catS (pv 8) (pv 7)) pa_nil))) (pe_c Pf hr (by decide) rfl (pa_cons (pv 8) pa_nil)))))))))
      (pss_one (ps_ret (pv 3)))))))), ?_⟩
    obtain ⟨dx, l0, ts0, ha, hl0, hx0⟩ := id hp
    refine ⟨_, rfl, a, dx, _, rfl, ha, ?_⟩
    dsimp only
    refine ⟨_, rfl, _, rfl, l, a, wk, ss, rfl, hl, pmw, hp, ok, fun H1 S1 => ?_⟩
    dsimp only
    refine seq_asg ⟨_, rfl, _, rfl, l, a, wk, ss, rfl, S1 _ _ hl, pmw, hp.same S1, ok, fun H2 sd A S2 nsd hsd inB => ?_⟩
    refine seq_asg ⟨by show 0 ≤ sizeLine; decide, fun fo H3 S3 nfo hfo => ?_⟩
    refine seq_asg ⟨0, rfl, fun H4 ba_ S4 nba hba => ?_⟩
    rw [if_pos rfl] at hba
    have S04 := S1.trans (S2.trans (S3.trans S4))
    obtain ⟨iA, iB⟩ := inB
    let xs : List Sd := A.map (·.2)
    have lA : A.length ≤ 8 := by
      have := congrArg List.length iA
      rw [List.length_map, List.length_reverse, pmw.length_eq, List.length_map] at this
      omega
    have lxs : xs.length = A.length := List.length_map ..
    have rx : ∀ x ∈ xs, RowOk x := fun x hx => by
      obtain ⟨q, hq, rfl⟩ := List.mem_map.mp hx
      exact rok _ (iB q hq).2
    have iA2 : xs.map (·.1) = wk.reverse := by rw [List.map_map]; exact iA
    have iB2 : ∀ x ∈ xs, x ∈ ss := fun x hx => by
      obtain ⟨q, hq, rfl⟩ := List.mem_map.mp hx
      exact (iB q hq).2
    have hA4 : ∀ q ∈ A, SdAt H4 q.1 q.2 := fun q hq => (iB q hq).1.same (S3.trans S4)
    have hsd4 := S4 _ _ (S3 _ _ hsd)
    have hfo4 := S4 _ _ hfo
    have nsf : sd ≠ fo := ne_of_none hsd nfo
    have nfo0 : H fo = none := (S1.trans S2).free nfo
    have off : ∀ {H' : Hp} {u : HO}, Same H4 H' → Same H (upd H' fo u) := fun S c o ec => by
      rw [upd_ne (ne_of_none ec nfo0)]
      exact S _ _ (S04 _ _ ec)
    refine ⟨_, rfl, sd, _, rfl, SqL.of hsd4, for_it (walk_enum (xs := A.map fun q => V.ref q.1)) (fun i σ' H' => ∃ bk fb ts js u5 u6 u7 u8 u9 u10 u11 u12, σ' = [some (.ref a), some (.ref l), some (.ref sd), some (.ref fo), some (.ref bk), u5, u6, u7, u8, u9, u10, u11, u12] ∧ SameB fo H4 H' ∧ H' fo = some (.lst (ts.map V.ref)) ∧ Paired (JpAt P w K CF H') ts js ∧ (∀ t ∈ ts, t ≠ fo) ∧ js.length = i ∧ (∀ (i' : Nat) x j, xs[i']? = some x → js[i']? = some j → JOk xs i' x j) ∧ FmAt P w K CF H' bk fb ∧ Bw (2 * i) (2 * i) fb ∧ pol fb = backP (xs.take i)) ⟨ba_, [], [], [], none, none, none, none, none, none, none, none, rfl, fun _ _ _ e => e, hfo4, .nil, (fun _ h => nomatch h), rfl, (fun i' x j _ h => by simp at h), hba, Bd.nil, cst_zero.symm⟩ (fun i σ' H' _ q => by
        obtain ⟨_, _, _, _, _, _, _, _, _, _, _, _, _, S, _⟩ := q
        exact SqL.of (S _ _ nsf hsd4)) ?_ ?_⟩
    · rintro i v σ' H5 H6 hi ⟨bk, fb, ts, js, u5, u6, u7, u8, u9, u10, u11, u12, rfl, S5, hfo5, hj, hts, lj, jok, hbk, bwb, epb⟩ ⟨T, xv, yv, rfl, nT, rfl, ex, ey⟩
      replace ex : some (V.int (i : Nat)) = some xv := ex
      replace ey : (A.map fun q => V.ref q.1)[i]? = some yv := ey
      obtain rfl := Option.some.inj ex
      rw [List.getElem?_map] at ey
      obtain ⟨q, hq, rfl⟩ := Option.map_eq_some_iff.mp ey
      have hqm := List.mem_of_getElem? hq
      have hi8 : i < A.length := (List.getElem?_eq_some_iff.mp hq).1
      have hxi : xs[i]? = some q.2 := by show (A.map (·.2))[i]? = _; rw [List.getElem?_map, hq]; rfl
      obtain ⟨c1, c2, r0, r1, r2⟩ := (iB q hqm).1
      have n0 : q.1 ≠ fo := ne_of_none r0 nfo
      have n1 : c1 ≠ fo := ne_of_none r1 nfo
      have n2 : c2 ≠ fo := ne_of_none r2 nfo
      obtain ⟨z1, z2, z3, z4⟩ := rx q.2 (List.mem_of_getElem? hxi)
      have S24 := S3.trans S4
      have lift : ∀ {c : Addr} {o : HO}, c ≠ fo → H2 c = some o → H5 c = some o := fun n e => S5 _ _ n (S24 _ _ e)
      have S56 : Same H5 (upd H5 T (.tup [.int (i : Nat), .ref q.1])) := Same.upd nT
      refine ⟨T, _, rfl, SqT.of upd_same, rfl, _, _, rfl, _, _, rfl, q.1, _, rfl, SqT.of (S56 _ _ (lift n0 r0)), rfl, _, _, rfl, _, _, rfl, _, _, rfl, rfl, rfl, ?_⟩
      generalize upd H5 T (.tup [.int (i : Nat), .ref q.1]) = H6 at S56 ⊢
      dsimp only
      refine seq_asg ?_
      refine ⟨_, rfl, _, rfl, (i : Int), 1, rfl, rfl, (i : Int) + 1, rfl, sd, _, rfl, SqL.of (S56 _ _ (lift nsf hsd)), fun p H7 S7 np hp7 => ?_⟩
      have ec : cutV (A.map fun q => V.ref q.1) (some ((i : Int) + 1)) none = (A.drop (i + 1)).map fun q => V.ref q.1 := by
        rw [List.map_drop, ← cut_drop]
        rfl
      rw [ec] at hp7
      have hR : ∀ r ∈ A.drop (i + 1), SdAt H2 r.1 r.2 ∧ RowOk r.2 := fun r hr => ⟨(iB r (List.mem_of_mem_drop hr)).1, rx _ (List.mem_map.mpr ⟨r, List.mem_of_mem_drop hr, rfl⟩)⟩
      have eA : aroundL xs i = (A.drop (i + 1)).flatMap (·.2.2.1) := by
        unfold aroundL
        rw [← List.map_drop, List.flatMap_map]
      have aL := around_len rx (by rw [lxs]; exact lA) i
      rw [eA] at aL
      generalize hRR : A.drop (i + 1) = R at hp7 hR eA aL
      have S57 := S56.trans S7
      refine ⟨p, rfl, ⟨_, SqL.of hp7⟩, fun D nD => ?_⟩
      have kl : ∀ k, ((R.take k).flatMap (·.2.2.1)).length ≤ 24 := fun k => by
        have : ((R.take k).flatMap (·.2.2.1)).length + ((R.drop k).flatMap (·.2.2.1)).length = (R.flatMap (·.2.2.1)).length := by
          rw [← List.length_append, ← List.flatMap_append, List.take_append_drop]
        omega
      refine cl_it (tp := fun σ2 H2 N => tYes σ2 H2 fun b H3 => if b = true then (iList K (tOp (rIxT K) (tVar 10) (tC (.int 1)))) σ2 H3 fun J1 H4 => ∃ W1 : Nat → Nat → Hp → Prop, (∃ m, W1 0 m H4) ∧ ∀ j k H, W1 j k H →
          (J1.stop j H ∧ N H) ∨ (J1.go j H ∧ ∃ Nx1 : Hp → Prop, (∀ H', Nx1 H' → ∃ k', k' < k ∧ W1 (j + 1) k' H') ∧ ∀ x H', J1.yld j H x H' → gName 11 x (wipe σ2 [11]) H' fun σ3 H5 => wipe σ3 [11] = wipe σ2 [11] ∧ tYes σ3 H5 fun b H6 =>
            if b = true then (tVar 11) σ3 H6 fun y H7 => ∃ acc, H7 D = some (.lst acc) ∧ acc.length < sizeLine ∧ Nx1 (upd H7 D (.lst (acc ++ [y]))) else Nx1 H6)
        else N H3) (walk_list (xs := R.map fun q => V.ref q.1)) (fun k H' => Same H7 H' ∧ H' D = some (.lst (((R.take k).flatMap (·.2.2.1)).map V.str))) ⟨Same.upd nD, upd_same⟩ (fun k H' _ q => SqL.of (q.1 _ _ hp7)) ?_ ?_
      · rintro kk v H8 H9 hk ⟨S8, hD⟩ ⟨rfl, hxk⟩
        rw [List.length_map] at hk
        rw [List.getElem?_map] at hxk
        obtain ⟨r, hr_, rfl⟩ := Option.map_eq_some_iff.mp hxk
        obtain ⟨⟨d1, d2, g0, g1, g2⟩, rr⟩ := hR r (List.mem_of_getElem? hr_)
        have m0 : r.1 ≠ fo := ne_of_none g0 nfo
        have m1 : d1 ≠ fo := ne_of_none g1 nfo
        have S58 := S57.trans S8
        have klen2 := kl (kk + 1)
        have e := take_snoc hr_
        rw [e, List.flatMap_append, List.flatMap_cons, List.flatMap_nil, List.append_nil, List.length_append] at klen2
        refine ⟨rfl, iteT (B := False) ?_⟩
        refine ⟨_, rfl, r.1, _, 1, _, rfl, rfl, SqT.of (S58 _ _ (lift m0 g0)), rfl, d1, rfl, ⟨_, SqL.of (S58 _ _ (lift m1 g1))⟩, ?_⟩
        refine cl_it (tp := fun σ3 H5 Nx1 => tYes σ3 H5 fun b H6 => if b = true then (tVar 11) σ3 H6 fun y H7 => ∃ acc, H7 D = some (.lst acc) ∧ acc.length < sizeLine ∧ Nx1 (upd H7 D (.lst (acc ++ [y]))) else Nx1 H6) (walk_list (xs := r.2.2.1.map V.str)) (fun j H' => Same H7 H' ∧ H' D = some (.lst (((R.take kk).flatMap (·.2.2.1) ++ r.2.2.1.take j).map V.str))) ⟨S8, by simpa using hD⟩ (fun j H' _ q => SqL.of (q.1 _ _ (S57 _ _ (lift m1 g1)))) ?_ ?_
        · rintro j v Ha Hb hj' ⟨Sa, hDa⟩ ⟨rfl, hxj⟩
          rw [List.length_map] at hj'
          rw [List.getElem?_map] at hxj
          obtain ⟨z, hz, rfl⟩ := Option.map_eq_some_iff.mp hxj
          refine ⟨rfl, iteT (B := False) ⟨_, rfl, _, hDa, ?_, ?_, ?_⟩⟩
          · rw [List.length_map, List.length_append, List.length_take, sizeLine_eq]
            omega
          · intro c o ec
            rw [upd_ne (ne_of_none ec nD)]
            exact Sa _ _ ec
          · rw [upd_same, take_snoc hz, ← List.append_assoc, List.map_append (l₁ := List.flatMap _ (List.take kk R) ++ List.take j r.2.2.1)]
            rfl
        · rintro Ha ⟨Sa, hDa⟩
          rw [List.length_map, List.take_length] at hDa
          exact ⟨Sa, by rw [e, List.flatMap_append, List.flatMap_cons, List.flatMap_nil, List.append_nil]; exact hDa⟩
      · rintro H8 ⟨S8, hD⟩
        rw [List.length_map, List.take_length, ← eA] at hD
        rw [← eA] at aL
        have S58 := S57.trans S8
        have h7 := S58 _ _ (lift n1 r1)
        have h8 := S58 _ _ (lift n2 r2)
        refine seq_asg ?_
        refine ⟨_, rfl, _, rfl, D, c1, _, _, rfl, rfl, hD, h7, by rw [List.length_map, List.length_map, sizeLine_eq]; omega, fun e H9 S9 ne he => ?_⟩
        refine ⟨e, aroundL xs i ++ q.2.2.1, rfl, by rw [he, List.map_append], by rw [List.length_append]; omega, fun H10 b1 S10 nb1 f1 => ?_⟩
        refine ⟨_, rfl, D, aroundL xs i, rfl, S10 _ _ (S9 _ _ hD), by omega, fun H11 b2 S11 nb2 f2 => ?_⟩
        have la1 : ∀ z ∈ aroundL xs i ++ q.2.2.1, z ∈ L8 := fun z hz => (List.mem_append.mp hz).elim (aL.2 z) (z1 z)
        have B1 : Bw 1 0 (oneM (aroundL xs i ++ q.2.2.1)) := one_bw la1 (by rw [List.length_append]; omega)
        have B2 : Bw 1 0 (oneM (aroundL xs i)) := one_bw aL.2 (by omega)
        refine sub_op (f1.same S11) f2 B1 B2 (by decide) (fun H12 bo S12 nbo fo_ => ?_)
        have S812 := S9.trans (S10.trans (S11.trans S12))
        have S512 := S58.trans S812
        have hfo12 := S512 _ _ hfo5
        refine ⟨_, rfl, .inl ⟨rfl, _, SqL.of hfo12⟩, ?_⟩
        refine ⟨_, rfl, _, rfl, c2, q.2.2.2, rfl, S812 _ _ h8, by omega, fun H13 b3 S13 nb3 f3 => ?_⟩
        have B3 : Bw 1 0 (oneM q.2.2.2) := one_bw z2 (by omega)
        have hbk13 := hbk.same (S512.trans S13)
        refine ⟨_, rfl, sub_op f3 hbk13 B3 bwb ⟨by decide, by omega, by decide, by omega⟩ (fun H14 bw_ S14 nbw fw => ?_)⟩
        refine ⟨_, rfl, by show 3 ≤ sizeLine; decide, fun rw_ H15 S15 n15 h15 => ?_⟩
        have S515 := S512.trans (S13.trans (S14.trans S15))
        have hfo15 := S515 _ _ hfo5
        have lts : ts.length = i := by rw [hj.length]; exact lj
        refine ⟨fo, _, _, rfl, rfl, hfo15, by rw [List.length_map, lts, sizeLine_eq]; omega, ?_⟩
        have nwr : rw_ ≠ fo := (ne_of_none ((S512.trans (S13.trans S14)) _ _ hfo5) n15).symm
        have S1516 : SameB fo H15 (upd H15 fo (.lst (ts.map V.ref ++ [V.ref rw_]))) := fun c o n e => by rw [upd_ne n]; exact e
        have fo16 : (upd H15 fo (.lst (ts.map V.ref ++ [V.ref rw_]))) fo = some (.lst ((ts ++ [rw_]).map V.ref)) := by rw [upd_same, List.map_append]; rfl
        generalize upd H15 fo (.lst (ts.map V.ref ++ [V.ref rw_])) = H16 at S1516 fo16 ⊢
        have h8b := S1516 _ _ n2 (S515 _ _ (lift n2 r2))
        have h7b := S1516 _ _ n1 (S515 _ _ (lift n1 r1))
        have fw16 := fm_sameL (fw.same S15) S1516 hfo15
        have fo16_ := fm_sameL (fo_.same (S13.trans (S14.trans S15))) S1516 hfo15
        have hbk16 := fm_sameL (hbk.same S515) S1516 hfo15
        have hj16 : Paired (JpAt P w K CF H16) (ts ++ [rw_]) (js ++ [(q.2.1, addF (oneM q.2.2.2) (E2.negF fb), addF (oneM (aroundL xs i ++ q.2.2.1)) (E2.negF (oneM (aroundL xs i))))]) := by
          refine paired_snoc ?_ ⟨bw_, bo, S1516 _ _ nwr h15, fw16, fo16_⟩
          refine paired_imp hj fun t ht j ⟨x1, x2, g1, g2, g3⟩ => ⟨x1, x2, S1516 _ _ (hts t ht) (S515 _ _ g1), fm_sameL (g2.same S515) S1516 hfo15, fm_sameL (g3.same S515) S1516 hfo15⟩
        have hts16 : ∀ t ∈ ts ++ [rw_], t ≠ fo := fun t ht => (List.mem_append.mp ht).elim (hts t) fun q => by rw [List.mem_singleton.mp q]; exact nwr
        have jok16 : ∀ (i' : Nat) x j, xs[i']? = some x → (js ++ [(q.2.1, addF (oneM q.2.2.2) (E2.negF fb), addF (oneM (aroundL xs i ++ q.2.2.1)) (E2.negF (oneM (aroundL xs i))))])[i']? = some j → JOk xs i' x j := by
          intro i' x j hx hj'
          by_cases c : i' < js.length
          · rw [List.getElem?_append_left c] at hj'
            exact jok i' x j hx hj'
          · have e1 : i' = i := by
              have := (List.getElem?_eq_some_iff.mp hj').1
              rw [List.length_append, List.length_singleton] at this
              omega
            subst e1
            rw [List.getElem?_append_right (by omega), lj, Nat.sub_self] at hj'
            obtain rfl := Option.some.inj hj'
            rw [hxi] at hx
            obtain rfl := Option.some.inj hx
            refine ⟨rfl, canon_addF B3.can bwb.neg.can, canon_addF B1.can B2.neg.can, ?_, pol_sub B1.can B2.can⟩
            rw [← epb]
            exact pol_sub B3.can bwb.can
        have lb : ∀ z ∈ q.2.2.2 ++ q.2.2.1, z ∈ L8 := fun z hz => (List.mem_append.mp hz).elim (z2 z) (z1 z)
        have B5 : Bw 1 0 (oneM (q.2.2.2 ++ q.2.2.1)) := one_bw lb (by rw [List.length_append]; omega)
        have B6 : Bw (2 * i + 1) (2 * i + 1) (addF fb (oneM (q.2.2.2 ++ q.2.2.1))) := bwb.add (B5.mono (Nat.le_refl _) (Nat.le_refl _) (Nat.zero_le _)) (by decide)
        have B8 : Bw (2 * (i + 1)) (2 * (i + 1)) (addF (addF fb (oneM (q.2.2.2 ++ q.2.2.1))) (E2.negF (oneM q.2.2.2))) := by
          have := B6.add ((B3.neg).mono (Nat.le_refl _) (Nat.le_refl _) (Nat.zero_le (2 * i + 1))) (c := 1) (by decide)
          exact this
        have P8 : pol (addF (addF fb (oneM (q.2.2.2 ++ q.2.2.1))) (E2.negF (oneM q.2.2.2))) = backP (xs.take (i + 1)) := by
          rw [pol_sub B6.can B3.can, pol_addF bwb.can.nd, epb, take_snoc hxi, backP_snoc]
          rfl
        refine ⟨_, rfl, _, rfl, _, rfl, c2, c1, _, _, rfl, rfl, h8b, h7b, by rw [List.length_map, List.length_map, sizeLine_eq]; omega, fun e2 H17 S17 ne2 he2 => ?_⟩
        refine ⟨e2, q.2.2.2 ++ q.2.2.1, rfl, by rw [he2, List.map_append], by rw [List.length_append]; omega, fun H18 b5 S18 n5 f5 => ?_⟩
        refine add_op (hbk16.same (S17.trans S18)) f5 bwb B5 ⟨by omega, by decide, by omega, by decide⟩ (fun H19 b6 S19 n6 f6 => ?_)
        have S1619 := S17.trans (S18.trans S19)
        refine ⟨_, rfl, c2, q.2.2.2, rfl, S1619 _ _ h8b, by omega, fun H20 b7 S20 n7 f7 => ?_⟩
        refine sub_op (f6.same S20) f7 B6 B3 ⟨by omega, by decide, by omega, by decide⟩ (fun H21 b8 S21 n8 f8 => ?_)
        have S1621 := S1619.trans (S20.trans S21)
        exact ⟨b8, _, ts ++ [rw_], js ++ [(q.2.1, addF (oneM q.2.2.2) (E2.negF fb), addF (oneM (aroundL xs i ++ q.2.2.1)) (E2.negF (oneM (aroundL xs i))))], _, _, _, _, _, _, _, _, rfl,
          fun c o n e => S1621 _ _ (S1516 _ _ n (S515 _ _ (S5 _ _ n e))), S1621 _ _ fo16, paired_imp hj16 fun t ht j h => h.same S1621, hts16, by rw [List.length_append, lj]; rfl, jok16, f8, B8, P8⟩
    · rintro σ' H5 ⟨bk, fb, ts, js, u5, u6, u7, u8, u9, u10, u11, u12, rfl, S5, hfo5, hj, hts, lj, jok, hbk, bwb, epb⟩
      rw [List.length_map] at lj
      refine ⟨_, rfl, k H5 fo ts js xs (fun c o ec => S5 _ _ (ne_of_none ec nfo0) (S04 _ _ ec)) nfo0 hfo5 hj iA2 iB2 ⟨by rw [lj, lxs], jok⟩⟩
end
end E4

set_option Elab.async false
set_option linter.all false
set_option maxRecDepth 100000
set_option maxHeartbeats 1000000
/-! joined -/
namespace E4
open PySem PySem.Spec PyProof.Rows L2
open C8 (Cal Mak Met InsC pe_c pe_mt pe_mt0 call_isC clsBody)
abbrev sJoined : Stmt := top 45
/-- a part of a run: its length, its step -/
abbrev Jn := List Str × List Str
def JnAt (H : Hp) (t : Addr) (j : Jn) : Prop := ∃ a b, H t = some (.tup [.ref a, .ref b]) ∧ H a = some (.lst (j.1.map V.str)) ∧ H b = some (.lst (j.2.map V.str))
theorem JnAt.same {H H' : Hp} {t : Addr} {j : Jn} (h : JnAt H t j) (S : Same H H') : JnAt H' t j := let ⟨a, b, h1, h2, h3⟩ := h; ⟨a, b, S _ _ h1, S _ _ h2, S _ _ h3⟩
/-- the sides that have a length -/
def longJ (xs : List Sd) : List Jn := (xs.filter fun x => decide (0 < x.2.1.length)).map (·.2)
/-- the same, at places that a later change of those in N leaves -/
def JnN (N : List Addr) (H : Hp) (t : Addr) (j : Jn) : Prop := ∃ a b, t ∉ N ∧ a ∉ N ∧ b ∉ N ∧ H t = some (.tup [.ref a, .ref b]) ∧ H a = some (.lst (j.1.map V.str)) ∧ H b = some (.lst (j.2.map V.str))
theorem JnN.off {N : List Addr} {H H' : Hp} {t : Addr} {j : Jn} (h : JnN N H t j) (S : ∀ c o, c ∉ N → H c = some o → H' c = some o) : JnN N H' t j := let ⟨a, b, n1, n2, n3, h1, h2, h3⟩ := h; ⟨a, b, n1, n2, n3, S _ _ n1 h1, S _ _ n2 h2, S _ _ n3 h3⟩
theorem JnN.less {N M : List Addr} {H : Hp} {t : Addr} {j : Jn} (h : JnN N H t j) (S : ∀ c ∈ M, c ∈ N) : JnN M H t j := let ⟨a, b, n1, n2, n3, h1, h2, h3⟩ := h; ⟨a, b, fun z => n1 (S _ z), fun z => n2 (S _ z), fun z => n3 (S _ z), h1, h2, h3⟩
theorem JnN.at {N : List Addr} {H : Hp} {t : Addr} {j : Jn} (h : JnN N H t j) : JnAt H t j := let ⟨a, b, _, _, _, h1, h2, h3⟩ := h; ⟨a, b, h1, h2, h3⟩
theorem not_two {x a b : Addr} (h1 : x ≠ a) (h2 : x ≠ b) : x ∉ [a, b] := by simp [h1, h2]
theorem not_one {x a : Addr} (h1 : x ≠ a) : x ∉ [a] := by simp [h1]
theorem long_one {x : Sd} (h : 0 < x.2.1.length) : longJ [x] = [x.2] := by
  unfold longJ
  rw [List.filter_cons_of_pos (p := fun x : Sd => decide (0 < x.2.1.length)) (decide_eq_true h)]
  rfl
def joinStep (f : List Jn) (x : Jn) : List Jn :=
  match f.getLast? with
  | none => f ++ [x]
  | some y => if sortT (y.1 ++ y.2) = x.2 then f.dropLast ++ [(sortT (y.1 ++ x.1), y.2)] else f ++ [x]
def joinL (xs : List Jn) : List Jn := xs.foldl joinStep []
structure JnOk (n : Nat) (j : Jn) : Prop where
  l1 : ∀ z ∈ j.1, LetOk z
  l2 : ∀ z ∈ j.2, LetOk z
  n1 : j.1.length ≤ n
  n2 : j.2.length ≤ 8
theorem joinStep_len (f : List Jn) (x : Jn) : (joinStep f x).length ≤ f.length + 1 := by
  unfold joinStep
  cases h : f.getLast? with
  | none => simp
  | some y =>
    dsimp only
    split
    · rw [List.length_append, List.length_dropLast]; simp
    · simp
theorem joinStep_ok {n : Nat} {f : List Jn} {x : Jn} (hf : ∀ j ∈ f, JnOk n j) (hx : JnOk 3 x) : ∀ j ∈ joinStep f x, JnOk (n + 3) j := by
  have up : ∀ j ∈ f, JnOk (n + 3) j := fun j hj => ⟨(hf j hj).l1, (hf j hj).l2, by have := (hf j hj).n1; omega, (hf j hj).n2⟩
  have hx' : JnOk (n + 3) x := ⟨hx.l1, hx.l2, by have := hx.n1; omega, hx.n2⟩
  intro j hj
  unfold joinStep at hj
  cases h : f.getLast? with
  | none =>
    rw [h] at hj
    rcases List.mem_append.mp hj with h | h
    · exact up j h
    · rw [List.mem_singleton.mp h]; exact hx'
  | some y =>
    rw [h] at hj
    have yf : y ∈ f := List.mem_of_getLast? h
    dsimp only at hj
    split at hj
    · rcases List.mem_append.mp hj with h | h
      · exact up j ((List.dropLast_sublist f).mem h)
      · rw [List.mem_singleton.mp h]
        refine ⟨fun z hz => ?_, (hf y yf).l2, ?_, (hf y yf).n2⟩
        · rcases List.mem_append.mp ((sortT_perm _).mem_iff.mp hz) with h | h
          · exact (hf y yf).l1 z h
          · exact hx.l1 z h
        · show (sortT (y.1 ++ x.1)).length ≤ _
          rw [length_sortT, List.length_append]
          have := (hf y yf).n1
          have := hx.n1
          omega
    · rcases List.mem_append.mp hj with h | h
      · exact up j h
      · rw [List.mem_singleton.mp h]; exact hx'
theorem joinL_snoc (xs : List Jn) (x : Jn) : joinL (xs ++ [x]) = joinStep (joinL xs) x := by
  unfold joinL
  rw [List.foldl_append]
  rfl
theorem joinL_len : ∀ (xs : List Jn) (i : Nat), (joinL (xs.take i)).length ≤ i
  | xs, 0 => by simp [joinL]
  | xs, i + 1 => by
    have ih := joinL_len xs i
    cases h : xs[i]? with
    | none =>
      have e : xs.take (i + 1) = xs.take i := by
        have := List.getElem?_eq_none_iff.mp h
        rw [List.take_of_length_le (by omega), List.take_of_length_le (by omega)]
      rw [e]
      omega
    | some x =>
      rw [take_snoc h, joinL_snoc]
      have := joinStep_len (joinL (xs.take i)) x
      omega
theorem joinL_ok {xs : List Jn} (h : ∀ x ∈ xs, JnOk 3 x) : ∀ (i : Nat), i ≤ xs.length → ∀ j ∈ joinL (xs.take i), JnOk (3 * i) j
  | 0, _ => fun j hj => by simp [joinL] at hj
  | i + 1, hi => by
    have e : xs[i]? = some xs[i] := List.getElem?_eq_getElem (by omega)
    rw [take_snoc e, joinL_snoc]
    have := joinStep_ok (joinL_ok h i (by omega)) (h _ (List.mem_of_getElem? e))
    rw [show 3 * (i + 1) = 3 * i + 3 from by omega]
    exact this
def spJoined (K : PySem.W.Frag) (C : Addr) : Sp := fun vs H Q _ => ∃ (a l : Addr) (wk : List Str) (ss : List Sd), vs = [.ref a, .ref l] ∧ H l = some (.lst (wk.map V.str)) ∧ wk.Perm (ss.map (·.1)) ∧ PlAt C H a ss ∧ SdsOk ss ∧ (∀ x ∈ ss, x.2.1.length ≤ 3 ∧ x.2.2.length ≤ 8) ∧ ss.length ≤ 8 ∧
  ∀ H' p ts xs, Same H H' → H p = none → H' p = some (.lst (ts.map V.ref)) → Paired (JnAt H') ts (joinL (longJ xs)) → xs.map (·.1) = wk.reverse → (∀ x ∈ xs, x ∈ ss) → Q (.ref p) H'
section
variable {P : Program} {w : World} {K : PySem.W.Frag} {mg : Str → Option Value} {base : Heap} {C : Addr}
theorem paired_last {R : Addr → Jn → Prop} : ∀ {ts : List Addr} {t : Addr} {js : List Jn}, Paired R (ts ++ [t]) js → ∃ js0 y, js = js0 ++ [y] ∧ Paired R ts js0 ∧ R t y
  | [], t, _, .cons r .nil => ⟨[], _, rfl, .nil, r⟩
  | a :: ts, t, _, .cons r h => by
    obtain ⟨js0, y, rfl, h1, h2⟩ := paired_last h
    exact ⟨_ :: js0, y, rfl, .cons r h1, h2⟩
theorem atI_last {ts : List Addr} {t : Addr} : atI ((ts ++ [t]).map V.ref) (-1) = some (V.ref t) := by
  unfold atI
  rw [List.map_append, List.length_append, List.length_map, List.length_map]
  have e : ixN (ts.length + [t].length) (-1) = some ts.length := by
    unfold ixN
    rw [if_neg (by decide), if_pos (by simp; omega)]
    congr 1
    simp only [List.length_cons, List.length_nil]
    omega
  rw [e]
  simp
theorem cut3 (a x y : V) : cutV [a, x, y] (some 1) none = [x, y] := by rfl
theorem scJoined : FnScope ["table", "walk", "found", "size", "step", "inner", "start", "side"] ["table", "walk"] (defScope sJoined) := ⟨rfl, rfl, rfl, by decide +kernel, rfl, by decide +kernel, by decide +kernel⟩
theorem ok_joined {f : Addr} {fd : FuncData} (F : Fun K "joined" "joined" sJoined f fd) (B : Bl mg) (Ct : Cal P w K mg base 1 "check_table" (spCheckT C) []) (Cw : Cal P w K mg base 2 "check_walk" (spWalk C) []) (Io : Cal P w K mg base 2 "inside_out" (spInsideN C) []) : FnOk P w K mg base CX0 3 f fd ["table", "walk"] (spJoined K C) := by
  refine F.ok scJoined (fun vs H Q E h => ?_) (fun cdv A outer s H vs Q E hr h => ?_)
  · obtain ⟨a, l, wk, ss, rfl, _⟩ := h
    rfl
  · obtain ⟨a, l, wk, ss, rfl, hl, pmw, hp, ok, r3, l8, k⟩ := h
    have hu := hr.units
    refine ⟨_, pss_cons (ps_expr (pe_c Ct hr (by decide) rfl (pa_cons (pv 0) pa_nil)))
      (pss_cons (ps_expr (pe_c Cw hr (by decide) rfl (pa_cons (pv 1) (pa_cons (pv 0) pa_nil))))
      (pss_cons (ps_set (i := 2) scJoined.nd rfl (Or.inl rfl) (pe_lstS pa_nil))
      (pss_cons (ps_for PassesOwn.never rfl (pi_list (pe_lc (own := [("side", 7)]) (g := gName 7) (tt := tTest (tOp (rI0 fun i j => .bl (decide (j < i))) (tCB (fun xs H Q => ∃ p ys, xs = [.ref p] ∧ (SqL K H p ys ∨ SqT K H p ys) ∧ Q (.int (ys.length : Nat)) H) (tCons (tOp (rIxT K) (tVar 7) (tC (.int 1))) tNil)) (tC (.int 0)))) (te := tSl (rSlT K) (tVar 7) (tPart (tC (.int 1))) tNoPart) rfl scJoined.nd (pi_list (pe_c Io hr (by decide) rfl (pa_cons (pv 0) (pa_cons (pv 1) pa_nil))))
          (blkOk_by (own := [("side", 7)]) (N := ["table", "walk", "found", "size", "step", "inner", "start", "side"]) (sc := defScope sJoined) (by decide +kernel))
          (fun _ _ _ _ _ => pg_name (i := 7) scJoined.nd rfl (Or.inl rfl))
          (fun _ _ _ _ _ => by exact pts_one (pt_cmpR op_gt (pe_callB call_len_seq (by rfl) B.len_ PySem.boot_len (pa_cons (pe_ix ix_tup (pv 7) pe_int (fun _ _ => rfl)) pa_nil)) pe_int (by rfl)))
          (fun _ _ _ _ _ => pe_slice sl_tup (pv 7) (po_some pe_int) po_none)))
        (pg_tup rfl (pgs_cons (pg_name (i := 3) scJoined.nd rfl (Or.inl rfl)) (pgs_cons (pg_name (i := 4) scJoined.nd rfl (Or.inl rfl)) pgs_nil)))
        (pss_one (ps_if (PW.pt (pw_and (pt_cmpR op_gt (pe_callB call_len_seq (by rfl) B.len_ PySem.boot_len (pa_cons (pv 2) pa_nil)) pe_int (by rfl))
            (pw_and1 (pt_cmpR (op_eqD hr.units) (pe_callB cr_sortedS (by rfl) B.srt_ (by decide +kernel) (pa_cons (pe_op op_catS (pe_ix ix_tup (pe_ix ix_list (pv 2) (pe_un un_neg pe_int) (fun _ _ => rfl)) pe_int (fun _ _ => rfl)) (pe_ix ix_tup (pe_ix ix_list (pv 2) (pe_un un_neg pe_int) (fun _ _ => rfl)) pe_int (fun _ _ => rfl))) pa_nil)) (pv 4) (by rfl)))))
          (pss_cons (ps_asg (pe_bm0 PySem.F.plainAttrs_list PySem.F.slot_list_pop PySem.F.type_list_pop mt_pop (pv 2)) (pg_tup (by rfl) (pgs_cons (pg_name (i := 5) scJoined.nd rfl (Or.inl rfl)) (pgs_cons (pg_name (i := 6) scJoined.nd rfl (Or.inl rfl)) pgs_nil))))
          (pss_one (ps_expr (pe_bm PySem.F.plainAttrs_list PySem.F.slot_list_append PySem.F.type_list_append mt_append (pv 2) (pa_cons (pe_tupS (pa_cons (pe_callB cr_sortedS (by rfl) B.srt_ (by decide +kernel) (pa_cons (pe_op op_catS (pv 5) (pv 3)) pa_nil)) (pa_cons (pv 6) pa_nil))) pa_nil)))))
          (pss_one (ps_expr (pe_bm PySem.F.plainAttrs_list PySem.F.slot_list_append PySem.F.type_list_append mt_append (pv 2) (pa_cons (pe_tupS (pa_cons (pv 3) (pa_cons (pv 4) pa_nil))) pa_nil)))))))
      (pss_one (ps_ret (pv 2)))))), ?_⟩
    obtain ⟨dx, l0, ts0, ha, hl0, hx0⟩ := id hp
    refine ⟨_, rfl, a, dx, _, rfl, ha, ?_⟩
    dsimp only
    refine ⟨_, rfl, _, rfl, l, a, wk, ss, rfl, hl, pmw, hp, ok, fun H1 S1 => ?_⟩
    dsimp only
    refine seq_asg ⟨by show 0 ≤ sizeLine; decide, fun fo H2 S2 nfo hfo => ?_⟩
    have S02 := S1.trans S2
    refine ⟨_, rfl, _, rfl, l, a, wk, ss, rfl, S02 _ _ hl, pmw, hp.same S02, ok, fun H3 sd A S3 nsd hsd inB inN => ?_⟩
    obtain ⟨iA, iB⟩ := inB
    let xs : List Sd := A.map (·.2)
    have lA : A.length ≤ 8 := by
      have := congrArg List.length iA
      rw [List.length_map, List.length_reverse, pmw.length_eq, List.length_map] at this
      omega
    have iA2 : xs.map (·.1) = wk.reverse := by rw [List.map_map]; exact iA
    have iB2 : ∀ x ∈ xs, x ∈ ss := fun x hx => by
      obtain ⟨q, hq, rfl⟩ := List.mem_map.mp hx
      exact (iB q hq).2
    have S03 := S02.trans S3
    refine ⟨sd, rfl, ⟨_, SqL.of hsd⟩, fun D nD => ?_⟩
    refine lc_it (walk_list (xs := A.map fun q => V.ref q.1)) (fun i H' => Same H3 H' ∧ ∃ us, H' D = some (.lst (us.map V.ref)) ∧ us.length ≤ i ∧ Paired (JnN [fo, D] H') us (longJ ((A.map (·.2)).take i))) ⟨Same.upd nD, [], upd_same, Nat.le_refl _, .nil⟩ (fun i H' _ q => SqL.of (q.1 _ _ hsd)) ?_ ?_
    · rintro i v Ha Hb hi ⟨Sa, us, hD, hlu, hys⟩ ⟨rfl, hx2⟩
      rw [List.length_map] at hi
      rw [List.getElem?_map] at hx2
      obtain ⟨q, hq, rfl⟩ := Option.map_eq_some_iff.mp hx2
      obtain ⟨⟨u, v, h1, h2, h3⟩, hm⟩ := iB q (List.mem_of_getElem? hq)
      have hq2 : (A.map (·.2))[i]? = some q.2 := by rw [List.getElem?_map, hq]; rfl
      have e : (A.map (·.2)).take (i + 1) = (A.map (·.2)).take i ++ [q.2] := take_snoc hq2
      have hlj : longJ ((A.map (·.2)).take (i + 1)) = longJ ((A.map (·.2)).take i) ++ longJ [q.2] := by unfold longJ; rw [e, List.filter_append, List.map_append]
      refine ⟨rfl, _, rfl, q.1, _, 1, _, rfl, rfl, SqT.of (Sa _ _ h1), rfl, u, _, rfl, .inl (SqL.of (Sa _ _ h2)), ?_⟩
      rw [List.length_map]
      refine ⟨_, _, rfl, rfl, _, rfl, ?_⟩
      refine iteD (fun h0 => ?_) (fun h0 => ?_)
      · refine ⟨_, rfl, 1, rfl, q.1, _, rfl, SqT.of (Sa _ _ h1), (fun h => absurd (show HT.sIx 3 0 (some 1) = 0 from h.1) (by decide)), fun p np => ?_⟩
        have S1b : Same Hb (upd Hb p (.tup [.ref u, .ref v])) := Same.upd np
        rw [cut3]
        have hp : (upd Hb p (.tup [.ref u, .ref v])) p = some (.tup [.ref u, .ref v]) := upd_same
        generalize upd Hb p (.tup [.ref u, .ref v]) = Hc at S1b hp ⊢
        have hDc := S1b _ _ hD
        have pD : p ≠ D := ne_of hp hDc (by intro z; cases z)
        have uD : u ≠ D := ne_of_none h2 nD
        have vD : v ≠ D := ne_of_none h3 nD
        have off : ∀ {c : Addr} {o u : HO}, c ≠ D → Hc c = some o → (upd Hc D u) c = some o := fun n e => by rw [upd_ne n]; exact e
        obtain ⟨n9, u9, v9, r1, r2, r3⟩ := inN q (List.mem_of_getElem? hq)
        rw [h1] at r1
        cases r1
        have fo3 := S3 _ _ hfo
        have pf : p ≠ fo := ne_of hp (S1b _ _ (Sa _ _ fo3)) (by intro z; cases z)
        have uf : u ≠ fo := (ne_of_none hfo r2).symm
        have vf : v ≠ fo := (ne_of_none hfo r3).symm
        have Sd2 : ∀ (z : V) c o, c ∉ [fo, D] → Hb c = some o → (upd Hc D (.lst (us.map V.ref ++ [z]))) c = some o := fun z c o n e => off (fun w => n (by simp [w])) (S1b _ _ e)
        refine ⟨_, hDc, by rw [List.length_map, sizeLine_eq]; omega, fun c o e => off (ne_of_none e nD) (S1b _ _ (Sa _ _ e)), us ++ [p], by rw [upd_same, List.map_append]; rfl, by rw [List.length_append]; simp; omega, ?_⟩
        rw [hlj, long_one (by omega)]
        exact paired_snoc (paired_imp hys fun t _ x z => z.off (Sd2 _)) ⟨u, v, not_two pf pD, not_two uf uD, not_two vf vD, off pD hp, off uD (S1b _ _ (Sa _ _ h2)), off vD (S1b _ _ (Sa _ _ h3))⟩
      · refine ⟨Sa, us, hD, by omega, ?_⟩
        rw [hlj]
        have : longJ [q.2] = [] := by
          unfold longJ
          rw [List.filter_cons_of_neg (by
            rw [decide_eq_true_iff]
            omega)]
          rfl
        rw [this, List.append_nil]
        exact hys
    · rintro H4 ⟨S4, us, hD, hlu, hys⟩
      rw [List.length_map] at hys hlu
      rw [List.take_of_length_le (by rw [List.length_map]; exact Nat.le_refl _)] at hys
      have fo3 := S3 _ _ hfo
      have fo4 := S4 _ _ fo3
      have Df : D ≠ fo := (ne_of_none fo3 nD).symm
      have nfo0 : H fo = none := S1.free nfo
      have okJ : ∀ x ∈ longJ xs, JnOk 3 x := fun x hx => by
        obtain ⟨y, hy, rfl⟩ := List.mem_map.mp hx
        have ym := iB2 y (List.mem_filter.mp hy).1
        obtain ⟨o1, o2, o3, o4, o5⟩ := ok.ok y ym
        exact ⟨o2, o3, (r3 y ym).1, (r3 y ym).2⟩
      have lus : us.length = (longJ xs).length := hys.length
      have hys4 : Paired (JnN [fo] H4) us (longJ xs) := paired_imp hys fun t _ x z => z.less (by simp)
      refine ⟨D, rfl, ⟨_, SqL.of hD⟩, for_it (walk_list (xs := us.map V.ref)) (fun i σ' H' => ∃ f3 f4 f5 f6 ts, σ' = [some (.ref a), some (.ref l), some (.ref fo), f3, f4, f5, f6, none] ∧ (∀ c o, c ∉ [fo] → H4 c = some o → H' c = some o) ∧ H' fo = some (.lst (ts.map V.ref)) ∧ Paired (JnN [fo] H') ts (joinL ((longJ xs).take i))) ⟨none, none, none, none, [], rfl, fun _ _ _ e => e, fo4, .nil⟩ (fun i σ' H' _ q => let ⟨_, _, _, _, _, _, S, _⟩ := q; SqL.of (S _ _ (not_one Df) hD)) ?_ ?_⟩
      · rintro i v σ' H5 H6 hi ⟨f3, f4, f5, f6, ts, rfl, S5, hf, hts⟩ ⟨rfl, hxi⟩
        rw [List.length_map] at hi
        rw [List.getElem?_map] at hxi
        obtain ⟨t, htt, rfl⟩ := Option.map_eq_some_iff.mp hxi
        obtain ⟨x, hx, u, v, nt, nu, nv, h1, h2, h3⟩ := paired_at hys4 htt
        refine ⟨t, _, rfl, SqT.of (S5 _ _ nt h1), rfl, _, _, rfl, _, _, rfl, rfl, ?_⟩
        refine ⟨_, rfl, fo, _, rfl, .inl (SqL.of hf), _, _, rfl, rfl, _, rfl, ?_⟩
        have ej : joinL ((longJ xs).take (i + 1)) = joinStep (joinL ((longJ xs).take i)) x := by rw [take_snoc hx, joinL_snoc]
        have il : i < (longJ xs).length := (List.getElem?_eq_some_iff.mp hx).1
        have i8 : i < 8 := by
          have h1 : (longJ xs).length ≤ xs.length := by
            unfold longJ
            rw [List.length_map]
            exact List.length_filter_le _ _
          have h2 : xs.length = A.length := List.length_map ..
          omega
        have okI := joinL_ok okJ i (by omega)
        have lj : ts.length ≤ i := by rw [hts.length]; exact joinL_len _ i
        have okx := okJ x (List.mem_of_getElem? hx)
        rw [List.length_map, ej]
        generalize joinL ((longJ xs).take i) = js at hts okI ⊢
        have h2' := S5 _ _ nu h2
        have h3' := S5 _ _ nv h3
        have plain : ∀ (y3 y4 : Option V), js.getLast? = none ∨ (∃ y, js.getLast? = some y ∧ sortT (y.1 ++ y.2) ≠ x.2) → joinStep js x = js ++ [x] := fun _ _ h => by
          unfold joinStep
          rcases h with h | ⟨y, h, n⟩
          · rw [h]
          · rw [h]
            dsimp only
            rw [if_neg n]
        rcases List.eq_nil_or_concat ts with e | ⟨ts0, t0, e⟩
        · subst e
          cases hts
          refine ifF (by decide) (ifF rfl ?_)
          refine ⟨_, rfl, .inl ⟨rfl, _, SqL.of hf⟩, _, rfl, _, rfl, by show 2 ≤ sizeLine; decide, fun p H7 S7 np hp7 => ?_⟩
          have pf : p ≠ fo := ne_of hp7 (S7 _ _ hf) (by intro z; cases z)
          refine ⟨fo, _, _, rfl, rfl, S7 _ _ hf, by show 0 < sizeLine; decide, _, _, f5, f6, [p], rfl, fun c o n e => ?_, upd_same, ?_⟩
          · rw [upd_ne (fun z => n (by simp [z]))]
            exact S7 _ _ (S5 _ _ n e)
          · rw [plain (some (.ref u)) (some (.ref v)) (.inl rfl)]
            have o1 : u ≠ fo := fun z => nu (by simp [z])
            have o2 : v ≠ fo := fun z => nv (by simp [z])
            exact .cons ⟨u, v, not_one pf, nu, nv, by rw [upd_ne pf]; exact hp7, by rw [upd_ne o1]; exact S7 _ _ h2', by rw [upd_ne o2]; exact S7 _ _ h3'⟩ .nil
        · rw [List.concat_eq_append] at e
          subst e
          obtain ⟨js0, y, rfl, hts0, hy⟩ := paired_last hts
          obtain ⟨a0, b0, m1, m2, m3, g1, g2, g3⟩ := id hy
          have oky := okI y (by simp)
          refine ifT (by rw [List.length_append]; simp) ?_
          have e1 : atI ((ts0 ++ [t0]).map V.ref) (-1) = some (V.ref t0) := by rw [atI_last]
          refine ⟨_, rfl, _, rfl, fo, _, -1, _, rfl, rfl, SqL.of hf, e1, t0, _, 0, _, rfl, rfl, SqT.of g1, rfl, ?_⟩
          refine ⟨_, rfl, _, rfl, fo, _, -1, _, rfl, rfl, SqL.of hf, e1, t0, _, 1, _, rfl, rfl, SqT.of g1, rfl, ?_⟩
          have ly1 := oky.n1
          have ly2 := oky.n2
          refine ⟨a0, b0, _, _, rfl, rfl, g2, g3, by rw [List.length_map, List.length_map, sizeLine_eq]; omega, fun c H7 S7 nc hc => ?_⟩
          rw [← List.map_append] at hc
          refine ⟨c, y.1 ++ y.2, rfl, SqL.of hc, by rw [List.length_append]; omega, fun ys q pm so nq => ?_⟩
          have eys := sortT_one pm so
          subst eys
          have S8 : Same H7 (upd H7 q (.lst ((sortT (y.1 ++ y.2)).map V.str))) := Same.upd nq
          have S68 := S7.trans S8
          have oka : ∀ z ∈ sortT (y.1 ++ y.2), PyData.strOk z = true := fun z hz => strOk_of ((List.mem_append.mp ((sortT_perm _).mem_iff.mp hz)).elim (oky.l1 z) (oky.l2 z))
          have okb : ∀ z ∈ x.2, PyData.strOk z = true := fun z hz => strOk_of (okx.l2 z hz)
          refine ⟨_, rfl, .list ((sortT (y.1 ++ y.2)).map PyData.str), .list (x.2.map PyData.str), .lst (SqL.of upd_same) (dp_strs _), .lst (SqL.of (S68 _ _ h3')) (dp_strs _), shaped_strs _ oka, shaped_strs _ okb, _, rfl, ?_⟩
          rw [eqv_listS]
          generalize upd H7 q (.lst ((sortT (y.1 ++ y.2)).map V.str)) = H8 at S8 S68 ⊢
          have hf8 := S68 _ _ hf
          refine iteD (fun ce => ?_) (fun ce => ?_)
          · have lp : ((ts0 ++ [t0]).map V.ref).length = ts0.length + 1 := by rw [List.length_map, List.length_append]; rfl
            refine ⟨_, rfl, .inl ⟨rfl, _, SqL.of hf8⟩, fo, _, V.ref t0, rfl, rfl, hf8, by rw [lp, List.map_append]; simp, ?_⟩
            rw [List.map_append, List.map_cons, List.map_nil, List.dropLast_concat]
            have m1' : t0 ≠ fo := fun z => m1 (by simp [z])
            have m2' : a0 ≠ fo := fun z => m2 (by simp [z])
            have m3' : b0 ≠ fo := fun z => m3 (by simp [z])
            have S6u : ∀ c o, c ∉ [fo] → H6 c = some o → upd H8 fo (.lst (ts0.map V.ref)) c = some o := fun c o n e => by rw [upd_ne (fun z => n (by simp [z]))]; exact S68 _ _ e
            have hfu : upd H8 fo (.lst (ts0.map V.ref)) fo = some (.lst (ts0.map V.ref)) := upd_same
            generalize upd H8 fo (.lst (ts0.map V.ref)) = H9 at S6u hfu ⊢
            refine ⟨t0, _, rfl, SqT.of (S6u _ _ m1 g1), rfl, _, _, rfl, _, _, rfl, rfl, ?_⟩
            refine ⟨_, rfl, .inl ⟨rfl, _, SqL.of hfu⟩, _, rfl, _, rfl, a0, u, _, _, rfl, rfl, S6u _ _ m2 g2, S6u _ _ nu h2', by rw [List.length_map, List.length_map, sizeLine_eq]; have := okx.n1; omega, fun e H10 S10 ne he => ?_⟩
            rw [← List.map_append] at he
            refine ⟨e, y.1 ++ x.1, rfl, SqL.of he, by rw [List.length_append]; have := okx.n1; omega, fun ys2 q2 pm2 so2 nq2 => ?_⟩
            have eys2 := sortT_one pm2 so2
            subst eys2
            have S11 : Same H10 (upd H10 q2 (.lst ((sortT (y.1 ++ x.1)).map V.str))) := Same.upd nq2
            have hq2 : upd H10 q2 (.lst ((sortT (y.1 ++ x.1)).map V.str)) q2 = some (.lst ((sortT (y.1 ++ x.1)).map V.str)) := upd_same
            have q2f : q2 ≠ fo := (ne_of_none (S10 _ _ hfu) nq2).symm
            generalize upd H10 q2 (.lst ((sortT (y.1 ++ x.1)).map V.str)) = H11 at S11 hq2 ⊢
            refine ⟨_, rfl, by show 2 ≤ sizeLine; decide, fun p H12 S12 np hp12 => ?_⟩
            have S912 : Same H9 H12 := S10.trans (S11.trans S12)
            have hf12 := S912 _ _ hfu
            have pf : p ≠ fo := ne_of hp12 hf12 (by intro z; cases z)
            have ll : (ts0.map V.ref).length < sizeLine := by rw [List.length_append] at lj; rw [List.length_map, sizeLine_eq]; omega
            have S612 : ∀ (z : V) c o, c ∉ [fo] → H6 c = some o → upd H12 fo (.lst (ts0.map V.ref ++ [z])) c = some o := fun z c o n e => by rw [upd_ne (fun z => n (by simp [z]))]; exact S912 _ _ (S6u _ _ n e)
            refine ⟨fo, _, _, rfl, rfl, hf12, ll, _, _, some (.ref a0), some (.ref b0), ts0 ++ [p], rfl, fun c o n e => S612 _ _ _ n (S5 _ _ n e), by rw [upd_same, List.map_append]; rfl, ?_⟩
            have ej2 : joinStep (js0 ++ [y]) x = js0 ++ [(sortT (y.1 ++ x.1), y.2)] := by
              unfold joinStep
              rw [List.getLast?_concat]
              dsimp only
              rw [if_pos ce, List.dropLast_concat]
            rw [ej2]
            exact paired_snoc (paired_imp hts0 fun t _ x z => z.off (S612 _)) ⟨q2, b0, not_one pf, not_one q2f, m3, by rw [upd_ne pf]; exact hp12, by rw [upd_ne q2f]; exact S12 _ _ hq2, S612 _ _ _ m3 g3⟩
          · have n1 : sortT (y.1 ++ y.2) ≠ x.2 := fun z => by simp [z] at ce
            refine ⟨_, rfl, .inl ⟨rfl, _, SqL.of hf8⟩, _, rfl, _, rfl, by show 2 ≤ sizeLine; decide, fun p H9 S9 np hp9 => ?_⟩
            have S69 := S68.trans S9
            have pf : p ≠ fo := ne_of hp9 (S9 _ _ hf8) (by intro z; cases z)
            refine ⟨fo, _, _, rfl, rfl, S9 _ _ hf8, by rw [List.length_map, sizeLine_eq]; omega, _, _, f5, f6, ts0 ++ [t0] ++ [p], rfl, fun c o n e => ?_, by rw [upd_same, List.map_append (l₁ := ts0 ++ [t0])]; rfl, ?_⟩
            · rw [upd_ne (fun z => n (by simp [z]))]
              exact S69 _ _ (S5 _ _ n e)
            · rw [plain (some (.ref u)) (some (.ref v)) (.inr ⟨y, by simp, n1⟩)]
              have o1 : u ≠ fo := fun z => nu (by simp [z])
              have o2 : v ≠ fo := fun z => nv (by simp [z])
              exact paired_snoc (paired_imp hts fun t _ x z => z.off fun c o n e => by rw [upd_ne (fun z => n (by simp [z]))]; exact S69 _ _ e) ⟨u, v, not_one pf, nu, nv, by rw [upd_ne pf]; exact hp9, by rw [upd_ne o1]; exact S69 _ _ h2', by rw [upd_ne o2]; exact S69 _ _ h3'⟩
      · rintro σ' H5 ⟨f3, f4, f5, f6, ts, rfl, S5, hf, hts⟩
        rw [List.length_map, lus, List.take_length] at hts
        refine ⟨_, rfl, ?_⟩
        refine k H5 fo ts xs (fun c o e => S5 c o (not_one (ne_of_none e nfo0)) (S4 _ _ (S03 _ _ e))) nfo0 hf (paired_imp hts fun t _ x z => z.at) iA2 iB2
end
end E4

set_option Elab.async false
set_option linter.all false
set_option maxRecDepth 100000
set_option maxHeartbeats 1000000
set_option exponentiation.threshold 600
/-! primes -/
namespace E4
open PySem PySem.Spec PyProof.Rows L2
open C8 (Cal Mak Met InsC pe_c pe_mt pe_mt0 call_isC clsBody)
abbrev sPrimes : Stmt := top 49
/-- one of them divides x -/
def Hit (ps : List Int) (x : Int) : Prop := ∃ p ∈ ps, x % p = 0
/-- the least from v on that none of them divides -/
def NextP (ps : List Int) (v x : Int) : Prop := v ≤ x ∧ ¬ Hit ps x ∧ ∀ y, v ≤ y → y < x → Hit ps y
theorem NextP.one {ps : List Int} {v x y : Int} (h : NextP ps v x) (k : NextP ps v y) : x = y := by
  obtain ⟨h1, h2, h3⟩ := h
  obtain ⟨k1, k2, k3⟩ := k
  rcases Int.lt_trichotomy x y with c | c | c
  · exact absurd (k3 x h1 c) h2
  · exact c
  · exact absurd (h3 y k1 c) k2
def lastI (d : Int) (ps : List Int) : Int := ps.getLastD d
def PrimesR (names : List Str) (vl : Vls) : Prop := vl.map (·.1) = names ∧ ∀ (i : Nat) (x : Int), (vl.map (·.2))[i]? = some x → NextP ((vl.map (·.2)).take i) (lastI 2 ((vl.map (·.2)).take i)) x
theorem PrimesR.one {names : List Str} {a b : Vls} (ha : PrimesR names a) (hb : PrimesR names b) : a = b := by
  have la : a.length = names.length := by rw [← ha.1, List.length_map]
  have lb : b.length = names.length := by rw [← hb.1, List.length_map]
  have key : ∀ i, i ≤ names.length → (a.map (·.2)).take i = (b.map (·.2)).take i := by
    intro i
    induction i with
    | zero => intro _; simp
    | succ i ih =>
      intro h
      have e := ih (by omega)
      have ga : (a.map (·.2))[i]? = some ((a.map (·.2))[i]'(by rw [List.length_map]; omega)) := List.getElem?_eq_getElem (by rw [List.length_map]; omega)
      have gb : (b.map (·.2))[i]? = some ((b.map (·.2))[i]'(by rw [List.length_map]; omega)) := List.getElem?_eq_getElem (by rw [List.length_map]; omega)
      have h1 := ha.2 i _ ga
      have h2 := hb.2 i _ gb
      rw [e] at h1
      rw [take_snoc ga, take_snoc gb, e, h1.one h2]
  have k := key names.length (Nat.le_refl _)
  rw [List.take_of_length_le (by rw [List.length_map]; omega), List.take_of_length_le (by rw [List.length_map]; omega)] at k
  have k1 : a.map (·.1) = b.map (·.1) := ha.1.trans hb.1.symm
  have z : ∀ (a b : Vls), a.map (·.1) = b.map (·.1) → a.map (·.2) = b.map (·.2) → a = b := by
    intro a
    induction a with
    | nil => intro b h _; cases b with
      | nil => rfl
      | cons _ _ => cases h
    | cons x a ih => intro b h h'; cases b with
      | nil => cases h
      | cons y b =>
        rw [List.map_cons, List.map_cons] at h h'
        injection h with h1 h2
        injection h' with h3 h4
        rw [ih b h2 h4, Prod.ext h1 h3]
  exact z a b k1 k
theorem prod_dvd : ∀ {ps : List Int} {p : Int}, p ∈ ps → prodI ps % p = 0
  | q :: ps, p, h => by
    show q * prodI ps % p = 0
    rcases List.mem_cons.mp h with e | e
    · rw [e]; exact Int.mul_emod_right _ _
    · rw [Int.mul_emod, prod_dvd e]; simp
theorem prod_ge : ∀ {ps : List Int}, (∀ p ∈ ps, 2 ≤ p) → 1 ≤ prodI ps ∧ ∀ p ∈ ps, p ≤ prodI ps
  | [], _ => ⟨by decide, fun _ h => nomatch h⟩
  | q :: ps, h => by
    obtain ⟨h1, h2⟩ := prod_ge (ps := ps) fun p hp => h p (List.mem_cons_of_mem _ hp)
    have hq := h q List.mem_cons_self
    have e : prodI (q :: ps) = q * prodI ps := rfl
    have k1 : q ≤ q * prodI ps := by
      have := Int.mul_le_mul_of_nonneg_left h1 (show (0 : Int) ≤ q by omega)
      simpa using this
    have k2 : prodI ps ≤ q * prodI ps := by
      have := Int.mul_le_mul_of_nonneg_right (show (1 : Int) ≤ q by omega) (show 0 ≤ prodI ps by omega)
      simpa using this
    rw [e]
    refine ⟨by omega, fun p hp => ?_⟩
    rcases List.mem_cons.mp hp with r | r
    · rw [r]; exact k1
    · exact Int.le_trans (h2 p r) k2
/-- nothing divides the product and one -/
theorem no_hit {ps : List Int} (h : ∀ p ∈ ps, 2 ≤ p) : ¬ Hit ps (prodI ps + 1) := by
  rintro ⟨p, hp, e⟩
  have h2 := h p hp
  rw [Int.add_emod, prod_dvd hp] at e
  have : (1 : Int) % p = 1 := Int.emod_eq_of_lt (by omega) (by omega)
  rw [this] at e
  simp at e
  rw [this] at e
  cases e
theorem PrimesR.snoc {names : List Str} {vl : Vls} {z : Str} {x : Int} (h : PrimesR names vl) (k : NextP (vl.map (·.2)) (lastI 2 (vl.map (·.2))) x) : PrimesR (names ++ [z]) (vl ++ [(z, x)]) := by
  refine ⟨by rw [List.map_append, h.1]; rfl, fun i y hy => ?_⟩
  rw [List.map_append] at hy ⊢
  rcases Nat.lt_or_ge i (vl.map (·.2)).length with c | c
  · rw [List.getElem?_append_left c] at hy
    rw [List.take_append_of_le_length (by omega)]
    exact h.2 i y hy
  · rw [List.getElem?_append_right c] at hy
    have : i - (vl.map (·.2)).length = 0 := by
      rcases Nat.eq_zero_or_pos (i - (vl.map (·.2)).length) with e | e
      · exact e
      · rw [List.getElem?_eq_none (by show 1 ≤ _; omega)] at hy
        cases hy
    rw [this] at hy
    cases hy
    have e : i = (vl.map (·.2)).length := by omega
    subst e
    rw [List.take_append_of_le_length (Nat.le_refl _), List.take_length]
    exact k
theorem PrimesR.nil : PrimesR [] [] := ⟨rfl, fun i x h => by simp at h⟩
theorem last_mem {ps : List Int} : lastI 2 ps = 2 ∨ lastI 2 ps ∈ ps := by
  unfold lastI
  rw [List.getLastD_eq_getLast?]
  cases h : ps.getLast? with
  | none => exact .inl rfl
  | some x => exact .inr (List.mem_of_getLast? h)
/-- what the product of so many comes to at most -/
def bN : Nat → Nat
  | 0 => 1
  | i + 1 => bN i * (bN i + 1)
theorem bN_up : ∀ {i j : Nat}, i ≤ j → bN i ≤ bN j := fun {i j} h => by
  induction h with
  | refl => exact Nat.le_refl _
  | step _ ih => exact Nat.le_trans ih (Nat.le_trans (Nat.le_of_eq (Nat.mul_one _).symm) (Nat.mul_le_mul_left _ (by omega)))
theorem bN9 : bN 9 < 2 ^ 400 := by decide +kernel
def spPrimes (K : PySem.W.Frag) : Sp := fun vs H Q _ => ∃ (l : Addr) (names : List Str), vs = [.ref l] ∧ H l = some (.lst (names.map V.str)) ∧ names.Nodup ∧ names.length ≤ 9 ∧
  ∀ H' p vl, Same H H' → H p = none → H' p = some (.dK (dI vl)) → PrimesR names vl → (∀ x ∈ vl, 2 ≤ x.2 ∧ x.2 < 2 ^ 400) → Q (.ref p) H'
section
variable {P : Program} {w : World} {K : PySem.W.Frag} {mg : Str → Option Value} {base : Heap}
theorem scPrimes : FnScope ["names", "values", "worth", "name", "prime"] ["names"] (defScope sPrimes) := ⟨rfl, rfl, rfl, by decide +kernel, rfl, by decide +kernel, by decide +kernel⟩
theorem ok_primes {f : Addr} {fd : FuncData} (F : Fun K "primes" "primes" sPrimes f fd) (B : Bl mg) : FnOk P w K mg base CX0 1 f fd ["names"] (spPrimes K) := by
  refine F.ok scPrimes (fun vs H Q E h => ?_) (fun cdv A outer s H vs Q E hr h => ?_)
  · obtain ⟨l, names, rfl, _⟩ := h
    rfl
  · obtain ⟨l, names, rfl, hl, nd, l8, k⟩ := h
    have ul := Nat.lt_of_le_of_lt (Nat.add_le_add_left (by decide : 1 ≤ 64) _) hr.units
    refine ⟨_, pss_cons (ps_set (i := 1) scPrimes.nd rfl (Or.inl rfl) pe_dnewS)
      (pss_cons (ps_set (i := 2) scPrimes.nd rfl (Or.inr rfl) pe_int)
      (pss_cons (ps_for PassesOwn.never rfl (pi_list (pv 0)) (pg_name (i := 3) scPrimes.nd rfl (Or.inl rfl))
        (pss_cons (ps_while PassesOwn.never (pt_val (pe_callB (cr_any rfl) (by rfl) B.any_ (by decide +kernel) (pa_cons (pe_lock (pe_lc (own := [("prime", 4)]) (g := gName 4) (tt := tYes) (te := tOp rEq (tOp (rI (fun _ j => 0 < j) fun i j => .int (i % j)) (tVar 2) (tVar 4)) (tC (.int 0))) rfl scPrimes.nd (pi_values (pv 1))
          (blkOk_by (own := [("prime", 4)]) (N := ["names", "values", "worth", "name", "prime"]) (sc := defScope sPrimes) (by decide +kernel))
          (fun _ _ _ _ _ => pg_name (i := 4) scPrimes.nd rfl (Or.inl rfl)) (fun _ _ _ _ _ => pts_nil)
          (fun _ _ _ _ _ => by exact pe_cmpR op_eq (pe_op op_mod (pv 2) (pv 4)) pe_int (by rfl)))) pa_nil)))
          (pss_one (ps_set (i := 2) scPrimes.nd rfl (Or.inr rfl) (pe_op op_add (pv 2) pe_int))))
        (pss_one (ps_dput ul (pv 1) (pv 3) (pv 2) rfl))))
      (pss_one (ps_ret (pv 1))))), ?_⟩
    refine seq_asg fun d H1 S1 n1 h1 => ?_
    refine seq_asg ?_
    have nl : l ≠ d := ne_of_none hl n1
    have hl1 := S1 _ _ hl
    refine ⟨_, rfl, l, rfl, ⟨_, SqL.of hl1⟩, for_it (walk_list (xs := names.map V.str)) (fun i σ' H' => ∃ vl u, σ' = [some (.ref l), some (.ref d), some (.int (lastI 2 (vl.map (·.2)))), u, none] ∧ H' d = some (.dK (dI vl)) ∧ PrimesR (names.take i) vl ∧ (∀ p ∈ vl.map (·.2), 2 ≤ p) ∧ prodI (vl.map (·.2)) ≤ (bN i : Nat) ∧ (∀ c o, c ≠ d → H1 c = some o → H' c = some o)) ⟨[], none, rfl, h1, PrimesR.nil, fun _ h => absurd h List.not_mem_nil, by decide, fun _ _ _ e => e⟩ (fun i σ' H' _ q => let ⟨_, _, _, _, _, _, _, S⟩ := q; SqL.of (S _ _ nl hl1)) ?_ ?_⟩
    · rintro i v σ' Hx H2 hi ⟨vl, u, rfl, hd, hP, h2, hb, S2⟩ ⟨rfl, hxi⟩
      rw [List.length_map] at hi
      rw [List.getElem?_map] at hxi
      obtain ⟨z, hz, rfl⟩ := Option.map_eq_some_iff.mp hxi
      let ps := vl.map (·.2)
      have hpos := prod_ge (ps := ps) h2
      have c0 : 2 ≤ lastI 2 ps ∧ lastI 2 ps ≤ prodI ps + 1 := by
        rcases last_mem (ps := ps) with e | e
        · rw [e]; exact ⟨by decide, by have := hpos.1; omega⟩
        · exact ⟨h2 _ e, by have := hpos.2 _ e; omega⟩
      refine ⟨fun m σ' H' => ∃ c : Int, σ' = [some (.ref l), some (.ref d), some (.int c), some (.str z), none] ∧ Same H2 H' ∧ lastI 2 ps ≤ c ∧ c ≤ prodI ps + 1 ∧ (∀ y, lastI 2 ps ≤ y → y < c → Hit ps y) ∧ m = (prodI ps + 1 - c).toNat, ⟨_, _, rfl, fun _ _ e => e, Int.le_refl _, c0.2, fun y h1 h2 => absurd h2 (Int.not_lt.mpr h1), rfl⟩, ?_⟩
      rintro m σ' H3 ⟨c, rfl, S3, k1, k2, k3, rfl⟩
      have hd3 := S3 _ _ hd
      refine ⟨d, .dK (dI vl), hd3, trivial, fun od => ⟨_, rfl, d, od, dI vl, rfl, upd_same, fun D nD => ?_⟩⟩
      have h1k : (upd H3 d (.frz od (.dK (dI vl)))) d = some (.frz od (.dK (dI vl))) := upd_same
      have neD : D ≠ d := by rintro rfl; rw [upd_same] at nD; cases nD
      have back : ∀ Hz, Same (upd H3 d (.frz od (.dK (dI vl)))) Hz → Same H3 (upd Hz d (.dK (dI vl))) := fun Hz S => same_back hd3 S
      generalize upd H3 d (.frz od (.dK (dI vl))) = H4 at h1k nD back ⊢
      have hN : ∀ x ∈ ps.map (fun p => c % p == 0), True := fun _ _ => trivial
      refine lc_it walk_values (fun i H' => Same H4 H' ∧ H' D = some (.lst (((ps.take i).map fun p => c % p == 0).map V.bl))) ⟨Same.upd nD, upd_same⟩ (fun i H' _ q => q.1 _ _ h1k) ?_ ?_
      · rintro i x H5 H6 hi ⟨S, hD⟩ ⟨rfl, kk, hxi⟩
        rw [len_dI] at hi
        have hkv : vl[i]? = some vl[i] := List.getElem?_eq_getElem hi
        unfold dI at hxi
        rw [List.getElem?_map, hkv] at hxi
        cases hxi
        have hpi : ps[i]? = some vl[i].2 := by show (vl.map (·.2))[i]? = _; rw [List.getElem?_map, hkv]; rfl
        have p2 := h2 _ (List.mem_of_getElem? hpi)
        refine ⟨rfl, iteT (B := False) ?_⟩
        refine ⟨_, rfl, _, rfl, c, vl[i].2, rfl, rfl, by omega, ?_⟩
        refine ⟨rfl, _, hD, ?_, ?_, ?_⟩
        · rw [List.length_map, List.length_map, List.length_take, sizeLine_eq]
          have : ps.length = vl.length := List.length_map ..
          have hk : vl.length ≤ 9 := by
            have := congrArg List.length hP.1
            rw [List.length_map, List.length_take] at this
            omega
          omega
        · intro b o hb
          rw [upd_ne (ne_of_none hb nD)]
          exact S _ _ hb
        · rw [dec_int, upd_same, take_snoc hpi, List.map_append, List.map_append]
          rfl
      · rintro H5 ⟨S, hD⟩
        refine ⟨S _ _ h1k, D, ps.map (fun p => c % p == 0), rfl, SqL.of ?_, _, rfl, ?_⟩
        · rw [upd_ne neD]
          rw [len_dI] at hD
          have e : ps.take vl.length = ps := List.take_of_length_le (by show (vl.map (·.2)).length ≤ _; rw [List.length_map]; exact Nat.le_refl _)
          rw [e] at hD
          exact hD
        · have S36 := back H5 S
          generalize upd H5 d (.dK (dI vl)) = H6 at S36 ⊢
          have S26 := S3.trans S36
          by_cases ce : ((ps.map fun p => c % p == 0).any id) = true
          · refine ifT ce ?_
            have hit : Hit ps c := by
              obtain ⟨b, hb, eb⟩ := List.any_eq_true.mp ce
              obtain ⟨p, hp, rfl⟩ := List.mem_map.mp hb
              exact ⟨p, hp, by simpa using eb⟩
            have nc : c ≠ prodI ps + 1 := fun z => no_hit h2 (z ▸ hit)
            refine ⟨fun σ' H' => σ' = [some (.ref l), some (.ref d), some (.int (c + 1)), some (.str z), none] ∧ Same H2 H', fun σ' H' ⟨e1, e2⟩ => ⟨(prodI ps + 1 - (c + 1)).toNat, by omega, c + 1, e1, e2, by omega, by omega, fun y y1 y2 => ?_, rfl⟩, ?_⟩
            · rcases Int.lt_or_le y c with q | q
              · exact k3 y y1 q
              · have : y = c := by omega
                rw [this]; exact hit
            · refine ⟨_, rfl, c, 1, rfl, rfl, rfl, S26⟩
          · refine ifF (Bool.eq_false_iff.mpr ce) ?_
            have nh : ¬ Hit ps c := fun ⟨p, hp, e⟩ => ce (List.any_eq_true.mpr ⟨_, List.mem_map.mpr ⟨p, hp, rfl⟩, by show (c % p == 0) = true; rw [e]; rfl⟩)
            have nx : NextP ps (lastI 2 ps) c := ⟨k1, nh, k3⟩
            have hd6 := S26 _ _ hd
            have lv : vl.length = i := by
              have := congrArg List.length hP.1
              rw [List.length_map, List.length_take] at this
              omega
            have znew : z ∉ vl.map (·.1) := fun q => by
              rw [hP.1] at q
              obtain ⟨j, hj⟩ := List.mem_iff_getElem?.mp q
              have hj2 : j < i := by
                have := (List.getElem?_eq_some_iff.mp hj).1
                rw [List.length_take] at this
                omega
              rw [List.getElem?_take_of_lt hj2] at hj
              have := (List.getElem?_inj (i := j) (j := i) (List.getElem?_eq_some_iff.mp hj).1 nd).mp (hj.trans hz.symm)
              omega
            refine ⟨_, rfl, _, rfl, _, rfl, d, _, rfl, DPut.k (k := Sum.inr z) hd6 (by rw [len_dI, lv, sizeLine_eq]; omega), ?_⟩
            rw [putK_dI, keys_set_new znew]
            have e2 : (vl ++ [(z, c)]).map (·.2) = ps ++ [c] := by rw [List.map_append]; rfl
            have e3 : prodI (ps ++ [c]) = prodI ps * c := by rw [prodI_append]; show prodI ps * (c * 1) = _; rw [Int.mul_one]
            refine ⟨vl ++ [(z, c)], some (.str z), ?_, upd_same, ?_, ?_, ?_, fun q o n e => ?_⟩
            · rw [e2]; unfold lastI; rw [List.getLastD_eq_getLast?, List.getLast?_concat]; rfl
            · rw [take_snoc hz]; exact hP.snoc nx
            · intro p hp
              rw [e2] at hp
              rcases List.mem_append.mp hp with h | h
              · exact h2 p h
              · rw [List.mem_singleton.mp h]; omega
            · rw [e2, e3]
              have hb' : prodI ps ≤ (bN i : Nat) := hb
              have g2 : prodI ps * c ≤ prodI ps * ((bN i : Nat) + 1) := Int.mul_le_mul_of_nonneg_left (by omega) (by have := hpos.1; omega)
              have g3 : prodI ps * (((bN i : Nat) : Int) + 1) ≤ ((bN i : Nat) : Int) * (((bN i : Nat) : Int) + 1) := Int.mul_le_mul_of_nonneg_right hb' (by omega)
              have g4 : ((bN (i + 1) : Nat) : Int) = ((bN i : Nat) : Int) * (((bN i : Nat) : Int) + 1) := by show ((bN i * (bN i + 1) : Nat) : Int) = _; push_cast; rfl
              rw [g4]
              omega
            · rw [upd_ne n]; exact S26 _ _ (S2 q o n e)
    · rintro σ' H2 ⟨vl, u, rfl, hd, hP, h2, hb, S2⟩
      rw [List.length_map, List.take_length] at hP
      refine ⟨_, rfl, k H2 d vl (fun c o e => S2 c o (ne_of_none e n1) (S1 _ _ e)) n1 hd hP fun x hx => ?_⟩
      have hm : x.2 ∈ vl.map (·.2) := List.mem_map.mpr ⟨x, hx, rfl⟩
      have l1 := (prod_ge h2).2 _ hm
      have l2 : bN ((names.map V.str).length) ≤ bN 9 := bN_up (by rw [List.length_map]; exact l8)
      have l3 := bN9
      have l4 : ((2 ^ 400 : Nat) : Int) = 2 ^ 400 := by norm_cast
      rw [← l4]
      exact ⟨h2 _ hm, by omega⟩
end
end E4

set_option Elab.async false
set_option linter.all false
set_option maxRecDepth 100000
set_option maxHeartbeats 1000000
set_option exponentiation.threshold 600
/-! first_unlike -/
namespace E4
open PySem PySem.Spec PyProof.Rows L2
open C8 (Cal Mak Met InsC pe_c pe_mt pe_mt0 call_isC clsBody)
abbrev sUnlike : Stmt := top 50
/-- from here on, after `d` -/
def unlikeG (g : Str → Int) : Int → List Jn → List Jn → Int
  | d, a :: as, b :: bs => if a.2 ≠ b.2 then d else if a.1 ≠ b.1 then d * min (prodI (a.1.map g)) (prodI (b.1.map g)) else unlikeG g (d * min (prodI (a.1.map g)) (prodI (b.1.map g))) as bs
  | d, _, _ => d
def spUnlike (K : PySem.W.Frag) : Sp := fun vs H Q _ => ∃ (p q d : Addr) (ts us : List Addr) (one two : List Jn) (vl : Vls), vs = [.ref p, .ref q, .ref d] ∧ H p = some (.lst (ts.map V.ref)) ∧ H q = some (.lst (us.map V.ref)) ∧ H d = some (.dK (dI vl)) ∧
  Paired (JnAt H) ts one ∧ Paired (JnAt H) us two ∧ one.length ≤ 8 ∧ two.length ≤ 8 ∧ (∀ j ∈ one, JnOk 30 j) ∧ (∀ j ∈ two, JnOk 30 j) ∧ (∀ j, j ∈ one ∨ j ∈ two → ∀ z ∈ j.1, z ∈ vl.map (·.1)) ∧ AllV (fun n => 1 ≤ n ∧ n.natAbs < 2 ^ 400) vl ∧
  ∀ H', Same H H' → Q (.int (unlikeG (gOf vl) 1 one two)) H'
theorem unlike_step {g : Str → Int} {d : Int} {as bs : List Jn} {i : Nat} {a b : Jn} (ha : as[i]? = some a) (hb : bs[i]? = some b) : unlikeG g d (as.drop i) (bs.drop i) = if a.2 ≠ b.2 then d else if a.1 ≠ b.1 then d * min (prodI (a.1.map g)) (prodI (b.1.map g)) else unlikeG g (d * min (prodI (a.1.map g)) (prodI (b.1.map g))) (as.drop (i + 1)) (bs.drop (i + 1)) := by
  obtain ⟨l1, e1⟩ := List.getElem?_eq_some_iff.mp ha
  obtain ⟨l2, e2⟩ := List.getElem?_eq_some_iff.mp hb
  rw [List.drop_eq_getElem_cons l1, List.drop_eq_getElem_cons l2, e1, e2]
  rfl
theorem unlike_end {g : Str → Int} {d : Int} {as bs : List Jn} {n : Nat} (h : min as.length bs.length ≤ n) : unlikeG g d (as.drop n) (bs.drop n) = d := by
  by_cases c : as.length ≤ n
  · rw [List.drop_of_length_le c]
    rfl
  · rw [List.drop_of_length_le (show bs.length ≤ n by omega)]
    cases as.drop n <;> rfl
section
variable {P : Program} {w : World} {K : PySem.W.Frag} {mg : Str → Option Value} {base : Heap}
theorem scUnlike : FnScope ["one", "two", "values", "done", "size", "step", "length", "stride"] ["one", "two", "values"] (defScope sUnlike) := ⟨rfl, rfl, rfl, by decide +kernel, rfl, by decide +kernel, by decide +kernel⟩
theorem ok_unlike {f : Addr} {fd : FuncData} (F : Fun K "first_unlike" "first_unlike" sUnlike f fd) (B : Bl mg) (hmin : mg "min" = none) (Pr : Cal P w K mg base 1 "product_at" (spProd K) []) : FnOk P w K mg base CX0 2 f fd ["one", "two", "values"] (spUnlike K) := by
  refine F.ok scUnlike (fun vs H Q E h => ?_) (fun cdv A outer s H vs Q E hr h => ?_)
  · obtain ⟨p, q, d, ts, us, one, two, vl, rfl, _⟩ := h
    rfl
  · obtain ⟨p, q, d, ts, us, one, two, vl, rfl, hp, hq, hd, ht, hu, l1, l2, o1, o2, mem, av, k⟩ := h
    refine ⟨_, pss_cons (ps_set (i := 3) scUnlike.nd rfl (Or.inl rfl) pe_int)
      (pss_cons (ps_for PassesOwn.never rfl (pi_zip (by rfl) B.zip_ (pa_cons (pv 0) (pa_cons (pv 1) pa_nil))) (pg_tup rfl (pgs_cons (pg_tup rfl (pgs_cons (pg_name (i := 4) scUnlike.nd rfl (Or.inl rfl)) (pgs_cons (pg_name (i := 5) scUnlike.nd rfl (Or.inl rfl)) pgs_nil))) (pgs_cons (pg_tup rfl (pgs_cons (pg_name (i := 6) scUnlike.nd rfl (Or.inl rfl)) (pgs_cons (pg_name (i := 7) scUnlike.nd rfl (Or.inl rfl)) pgs_nil))) pgs_nil)))
        (pss_cons (ps_if (pt_cmpR (op_neD hr.units) (pv 5) (pv 7) (by rfl)) (pss_one (ps_ret (pv 3))) pss_nil)
        (pss_cons (ps_set (i := 3) scUnlike.nd rfl (Or.inl rfl) (pe_op op_mulW (pv 3) (pe_callB (call_min2 rfl) (by rfl) hmin (by decide +kernel) (pa_cons (pe_c Pr hr (by decide) rfl (pa_cons (pv 4) (pa_cons (pv 2) pa_nil))) (pa_cons (pe_c Pr hr (by decide) rfl (pa_cons (pv 6) (pa_cons (pv 2) pa_nil))) pa_nil)))))
        (pss_one (ps_if (pt_cmpR (op_neD hr.units) (pv 4) (pv 6) (by rfl)) (pss_one (ps_ret (pv 3))) pss_nil)))))
      (pss_one (ps_ret (pv 3)))), ?_⟩
    refine seq_asg ?_
    have lt := ht.length
    have lu := hu.length
    refine ⟨_, rfl, _, rfl, p, q, _, _, rfl, SqL.of hp, SqL.of hq, ?_⟩
    refine for_it (walk_zip (xs := ts.map V.ref) (ys := us.map V.ref) (n := min one.length two.length) (by rw [List.length_map, List.length_map, lt, lu])) (fun i σ' H' => Same H H' ∧ ∃ dn u4 u5 u6 u7, σ' = [some (.ref p), some (.ref q), some (.ref d), some (.int dn), u4, u5, u6, u7] ∧ dn.natAbs < 2 ^ (1 + 20000 * i) ∧ unlikeG (gOf vl) 1 one two = unlikeG (gOf vl) dn (one.drop i) (two.drop i)) ⟨fun _ _ e => e, 1, none, none, none, none, rfl, by decide, rfl⟩ (fun i σ' H' _ q => ⟨SqL.of (q.1 _ _ hp), SqL.of (q.1 _ _ hq)⟩) ?_ ?_
    · rintro i v σ' H2 H3 hi ⟨S2, dn, u4, u5, u6, u7, rfl, hb, hk⟩ ⟨T, xv, yv, rfl, nT, rfl, e1, e2⟩
      replace e1 : (ts.map V.ref)[i]? = some xv := e1
      replace e2 : (us.map V.ref)[i]? = some yv := e2
      rw [List.getElem?_map] at e1 e2
      obtain ⟨a, ha, rfl⟩ := Option.map_eq_some_iff.mp e1
      obtain ⟨b, hb2, rfl⟩ := Option.map_eq_some_iff.mp e2
      obtain ⟨x, hxi, a1, a2, r1, r2, r3⟩ := paired_at ht ha
      obtain ⟨y, hyi, b1, b2, q1, q2, q3⟩ := paired_at hu hb2
      have S3 : Same H2 (upd H2 T (.tup [.ref a, .ref b])) := Same.upd nT
      have S03 := S2.trans S3
      have ox := o1 x (List.mem_of_getElem? hxi)
      have oy := o2 y (List.mem_of_getElem? hyi)
      rw [unlike_step hxi hyi] at hk
      refine ⟨T, _, rfl, SqT.of upd_same, rfl, _, _, rfl, a, _, rfl, SqT.of (S03 _ _ r1), rfl, _, _, rfl, _, _, rfl, rfl, _, _, rfl, b, _, rfl, SqT.of (S03 _ _ q1), rfl, _, _, rfl, _, _, rfl, rfl, rfl, ?_⟩
      generalize upd H2 T (.tup [.ref a, .ref b]) = H4 at S03 ⊢
      have r2' := S03 _ _ r2
      have r3' := S03 _ _ r3
      have q2' := S03 _ _ q2
      have q3' := S03 _ _ q3
      have sk : ∀ {l : List Str}, (∀ z ∈ l, LetOk z) → SeqAt.shaped (.list (l.map PyData.str)) = true := fun h => shaped_strs _ fun z hz => strOk_of (h z hz)
      refine ⟨_, rfl, _, rfl, .list (x.2.map PyData.str), .list (y.2.map PyData.str), .lst (SqL.of r3') (dp_strs _), .lst (SqL.of q3') (dp_strs _), sk ox.l2, sk oy.l2, _, rfl, ?_⟩
      rw [eqv_listS]
      by_cases c2 : x.2 = y.2
      · rw [decide_eq_true c2]
        refine ifF rfl ?_
        dsimp only [tNext]
        have n1 := ox.n1
        have n2 := oy.n1
        have mx : ∀ z ∈ x.1, z ∈ vl.map (·.1) := mem x (.inl (List.mem_of_getElem? hxi))
        have my : ∀ z ∈ y.1, z ∈ vl.map (·.1) := mem y (.inr (List.mem_of_getElem? hyi))
        have B1 := prod_lt (gOf vl) x.1 fun z hz => (val_at av (mx z hz)).2.2
        have B2 := prod_lt (gOf vl) y.1 fun z hz => (val_at av (my z hz)).2.2
        refine seq_asg ?_
        refine ⟨_, rfl, _, rfl, _, rfl, a1, d, x.1, dI vl, gOf vl, rfl, SqL.of r2', S03 _ _ hd, fun z hz => (val_at av (mx z hz)).1, by omega, fun z hz => (val_at av (mx z hz)).2.2, ?_⟩
        refine ⟨_, rfl, _, rfl, b1, d, y.1, dI vl, gOf vl, rfl, SqL.of q2', S03 _ _ hd, fun z hz => (val_at av (my z hz)).1, by omega, fun z hz => (val_at av (my z hz)).2.2, ?_⟩
        have hmn : (if prodI (y.1.map (gOf vl)) < prodI (x.1.map (gOf vl)) then prodI (y.1.map (gOf vl)) else prodI (x.1.map (gOf vl))) = min (prodI (x.1.map (gOf vl))) (prodI (y.1.map (gOf vl))) := by split <;> omega
        refine ⟨_, _, rfl, ?_⟩
        rw [hmn]
        have B3 : (min (prodI (x.1.map (gOf vl))) (prodI (y.1.map (gOf vl)))).natAbs < 2 ^ 19000 := by
          have p1 : 2 ^ (1 + x.1.length * 400) ≤ 2 ^ 19000 := Nat.pow_le_pow_right (by decide) (by omega)
          have p2 : 2 ^ (1 + y.1.length * 400) ≤ 2 ^ 19000 := Nat.pow_le_pow_right (by decide) (by omega)
          rcases Int.le_total (prodI (x.1.map (gOf vl))) (prodI (y.1.map (gOf vl))) with h | h
          · rw [Int.min_eq_left h]; omega
          · rw [Int.min_eq_right h]; omega
        generalize min (prodI (x.1.map (gOf vl))) (prodI (y.1.map (gOf vl))) = mn at B3 hk ⊢
        have i8 : i < 8 := by omega
        refine ⟨dn, mn, rfl, rfl, cmw hb B3 (by omega) (by decide) (by omega), ?_⟩
        have hb2 : (dn * mn).natAbs < 2 ^ (1 + 20000 * (i + 1)) := by
          rw [Int.natAbs_mul]
          have p3 : 2 ^ (1 + 20000 * i) * 2 ^ 19000 ≤ 2 ^ (1 + 20000 * (i + 1)) := by rw [← Nat.pow_add]; exact Nat.pow_le_pow_right (by decide) (by omega)
          exact Nat.lt_of_lt_of_le (Nat.mul_lt_mul'' hb B3) p3
        rw [if_neg (fun h => h c2)] at hk
        refine ⟨_, rfl, _, rfl, .list (x.1.map PyData.str), .list (y.1.map PyData.str), .lst (SqL.of r2') (dp_strs _), .lst (SqL.of q2') (dp_strs _), sk ox.l1, sk oy.l1, _, rfl, ?_⟩
        rw [eqv_listS]
        by_cases c1 : x.1 = y.1
        · rw [decide_eq_true c1]
          rw [if_neg (fun h => h c1)] at hk
          exact ifF rfl ⟨S03, dn * mn, _, _, _, _, rfl, hb2, hk⟩
        · rw [decide_eq_false c1]
          rw [if_pos c1] at hk
          refine ifT rfl ?_
          have z := k _ S03
          rw [hk] at z
          exact ⟨_, rfl, z⟩
      · rw [decide_eq_false c2]
        rw [if_pos c2] at hk
        refine ifT rfl ?_
        refine ⟨_, rfl, ?_⟩
        rw [← hk]
        exact k _ S03
    · rintro σ' H2 ⟨S2, dn, u4, u5, u6, u7, rfl, hb, hk⟩
      rw [unlike_end (Nat.le_refl _)] at hk
      refine ⟨_, rfl, ?_⟩
      rw [← hk]
      exact k H2 S2
end
end E4

set_option Elab.async false
set_option linter.all false
set_option maxRecDepth 100000
set_option maxHeartbeats 1000000
/-! same_run -/
namespace E4
open PySem PySem.Spec PyProof.Rows L2
open C8 (Cal Mak Met InsC pe_c pe_mt pe_mt0 call_isC clsBody)
abbrev sSame : Stmt := top 46
def jnD (x : Jn) : PyData := .tuple [.list (x.1.map PyData.str), .list (x.2.map PyData.str)]
theorem dp_jns {K : PySem.W.Frag} {H : Hp} {ts : List Addr} {xs : List Jn} (h : Paired (JnAt H) ts xs) : DpAll K H (ts.map V.ref) (xs.map jnD) := by
  induction h with
  | nil => exact .nil
  | cons r t ih =>
    obtain ⟨a, b, h1, h2, h3⟩ := r
    exact .cons (.tup (SqT.of h1) (.cons (.lst (SqL.of h2) (dp_strs _)) (.cons (.lst (SqL.of h3) (dp_strs _)) .nil))) ih
theorem canLay_jns {n : Nat} : ∀ {xs : List Jn}, (∀ x ∈ xs, JnOk n x) → PyData.canLayAll0 (xs.map jnD) = true
  | [], _ => rfl
  | x :: xs, h => by
    have o := h x List.mem_cons_self
    have ih := canLay_jns (xs := xs) fun y hy => h y (List.mem_cons_of_mem _ hy)
    have c1 := canLay_strs x.1 fun z hz => strOk_of (o.l1 z hz)
    have c2 := canLay_strs x.2 fun z hz => strOk_of (o.l2 z hz)
    simp [jnD, PyData.canLayAll0, PyData.canLay0, c1, c2, ih]
theorem depth_jns : ∀ xs : List Jn, PyData.depthAll (xs.map jnD) ≤ 3
  | [] => Nat.zero_le _
  | x :: xs => by
    have ih := depth_jns xs
    have d1 := depth_strs x.1
    have d2 := depth_strs x.2
    simp [jnD, PyData.depthAll, PyData.depth, d1, d2]
    try omega
theorem shaped_jns {n : Nat} {xs : List Jn} (h : ∀ x ∈ xs, JnOk n x) : SeqAt.shaped (.list (xs.map jnD)) = true := by
  have h1 : PyData.canLay0 (.list (xs.map jnD)) = true := by simpa [PyData.canLay0] using canLay_jns h
  have h2 : PyData.depth (.list (xs.map jnD)) ≤ 64 := by
    simp only [PyData.depth]
    have := depth_jns xs
    omega
  show (PyData.canLay0 _ && decide (PyData.depth _ ≤ 64)) = true
  rw [h1, decide_eq_true h2]
  rfl
theorem eqvA_jns : ∀ xs ys : List Jn, PyData.eqvAll (xs.map jnD) (ys.map jnD) = decide (xs = ys)
  | [], [] => rfl
  | [], _ :: _ => rfl
  | _ :: _, [] => rfl
  | x :: xs, y :: ys => by
    have ih := eqvA_jns xs ys
    have e1 := eqv_strs x.1 y.1
    have e2 := eqv_strs x.2 y.2
    rw [List.map_cons, List.map_cons]
    simp only [PyData.eqvAll, ih, jnD, PyData.eqv, e1, e2, Bool.and_true]
    obtain ⟨x1, x2⟩ := x
    obtain ⟨y1, y2⟩ := y
    by_cases h1 : x1 = y1 <;> by_cases h2 : x2 = y2 <;> by_cases h3 : xs = ys <;> simp [h1, h2, h3]
theorem eqv_jns (xs ys : List Jn) : PyData.eqv (.list (xs.map jnD)) (.list (ys.map jnD)) = decide (xs = ys) := by rw [← eqvA_jns]; simp [PyData.eqv]
/-- rows by their names -/
theorem rows_one {ss : List Sd} (nd : (ss.map (·.1)).Nodup) : ∀ {xs ys : List Sd}, xs.map (·.1) = ys.map (·.1) → (∀ x ∈ xs, x ∈ ss) → (∀ x ∈ ys, x ∈ ss) → xs = ys
  | [], [], _, _, _ => rfl
  | [], _ :: _, h, _, _ => nomatch h
  | _ :: _, [], h, _, _ => nomatch h
  | x :: xs, y :: ys, h, h1, h2 => by
    rw [List.map_cons, List.map_cons] at h
    injection h with e1 e2
    rw [rows_one nd e2 (fun z hz => h1 z (List.mem_cons_of_mem _ hz)) (fun z hz => h2 z (List.mem_cons_of_mem _ hz))]
    congr 1
    obtain ⟨i, hi⟩ := List.mem_iff_getElem?.mp (h1 x List.mem_cons_self)
    obtain ⟨j, hj⟩ := List.mem_iff_getElem?.mp (h2 y List.mem_cons_self)
    have a1 : (ss.map (·.1))[i]? = some x.1 := by rw [List.getElem?_map, hi]; rfl
    have a2 : (ss.map (·.1))[j]? = some y.1 := by rw [List.getElem?_map, hj]; rfl
    have := (List.getElem?_inj (List.getElem?_eq_some_iff.mp a1).1 nd).mp (a1.trans (by rw [e1, a2]))
    subst this
    exact Option.some.inj (hi.symm.trans hj)
def namesL (ss s2 : List Sd) : List Str := sortT (putAll [] (sizesOf ss ++ sizesOf s2))
/-- what two runs are told by, and where -/
def RunAt (H0 H : Hp) (p : Addr) (vl : Vls) (n : Int) : Prop := ∃ d, H p = some (.tup [.ref d, .int n]) ∧ H d = some (.dK (dI vl)) ∧ H0 p = none ∧ H0 d = none
def spSame (C : Addr) : Sp := fun vs H Q _ => ∃ (a l b m : Addr) (wk w2 : List Str) (ss s2 : List Sd), vs = [.ref a, .ref l, .ref b, .ref m] ∧ H l = some (.lst (wk.map V.str)) ∧ wk.Perm (ss.map (·.1)) ∧ PlAt C H a ss ∧ SdsOk ss ∧ (∀ x ∈ ss, RowOk x) ∧ ss.length ≤ 8 ∧
  H m = some (.lst (w2.map V.str)) ∧ w2.Perm (s2.map (·.1)) ∧ PlAt C H b s2 ∧ SdsOk s2 ∧ (∀ x ∈ s2, RowOk x) ∧ s2.length ≤ 8 ∧
  ∀ xs ys, xs.map (·.1) = wk.reverse → (∀ x ∈ xs, x ∈ ss) → ys.map (·.1) = w2.reverse → (∀ x ∈ ys, x ∈ s2) →
    (joinL (longJ xs) = joinL (longJ ys) → ∀ H', Same H H' → Q .non H') ∧
    (joinL (longJ xs) ≠ joinL (longJ ys) → ∀ H' p vl, Same H H' → RunAt H H' p vl (unlikeG (gOf vl) 1 (joinL (longJ xs)) (joinL (longJ ys))) → PrimesR (namesL ss s2) vl → (∀ x ∈ vl, 2 ≤ x.2 ∧ x.2 < 2 ^ 400) → Q (.ref p) H')
theorem joinL_lets {xs : List Jn} {p : Str → Prop} (h : ∀ x ∈ xs, ∀ z ∈ x.1, p z) : ∀ (i : Nat), i ≤ xs.length → ∀ j ∈ joinL (xs.take i), ∀ z ∈ j.1, p z
  | 0, _ => fun j hj => by simp [joinL] at hj
  | i + 1, hi => by
    have e : xs[i]? = some xs[i] := List.getElem?_eq_getElem (by omega)
    rw [take_snoc e, joinL_snoc]
    have ih := joinL_lets h i (by omega)
    have hx := h _ (List.mem_of_getElem? e)
    generalize xs[i] = x at hx
    generalize joinL (xs.take i) = f at ih
    intro j hj z hz
    unfold joinStep at hj
    cases hl : f.getLast? with
    | none =>
      rw [hl] at hj
      rcases List.mem_append.mp hj with h | h
      · exact ih j h z hz
      · rw [List.mem_singleton.mp h] at hz; exact hx z hz
    | some y =>
      rw [hl] at hj
      have yf : y ∈ f := List.mem_of_getLast? hl
      dsimp only at hj
      split at hj
      · rcases List.mem_append.mp hj with h | h
        · exact ih j ((List.dropLast_sublist f).mem h) z hz
        · rw [List.mem_singleton.mp h] at hz
          rcases List.mem_append.mp ((sortT_perm _).mem_iff.mp hz) with h | h
          · exact ih y yf z h
          · exact hx z h
      · rcases List.mem_append.mp hj with h | h
        · exact ih j h z hz
        · rw [List.mem_singleton.mp h] at hz; exact hx z hz
theorem longJ_len {xs : List Sd} : (longJ xs).length ≤ xs.length := by
  unfold longJ
  rw [List.length_map]
  exact List.length_filter_le _ _
theorem join_facts {ss xs : List Sd} (ok : SdsOk ss) (ro : ∀ x ∈ ss, RowOk x) (hx : ∀ x ∈ xs, x ∈ ss) (l8 : xs.length ≤ 8) : (joinL (longJ xs)).length ≤ 8 ∧ (∀ j ∈ joinL (longJ xs), JnOk 30 j) ∧ ∀ j ∈ joinL (longJ xs), ∀ z ∈ j.1, z ∈ sizesOf ss := by
  have ll := longJ_len (xs := xs)
  have e : (longJ xs).take (longJ xs).length = longJ xs := List.take_length
  have mem : ∀ x ∈ longJ xs, ∃ y ∈ ss, y.2 = x := fun x hx1 => by
    obtain ⟨y, hy, rfl⟩ := List.mem_map.mp hx1
    exact ⟨y, hx y (List.mem_filter.mp hy).1, rfl⟩
  have okJ : ∀ x ∈ longJ xs, JnOk 3 x := fun x hx1 => by
    obtain ⟨y, hy, rfl⟩ := mem x hx1
    obtain ⟨o1, o2, o3, o4, o5⟩ := ok.ok y hy
    exact ⟨o2, o3, (ro y hy).2.2.1, (ro y hy).2.2.2⟩
  refine ⟨?_, fun j hj => ?_, fun j hj z hz => ?_⟩
  · have := joinL_len (longJ xs) (longJ xs).length
    rw [e] at this
    omega
  · have := joinL_ok okJ (longJ xs).length (Nat.le_refl _) j (by rw [e]; exact hj)
    exact ⟨this.l1, this.l2, by have := this.n1; omega, this.n2⟩
  · refine joinL_lets (p := fun z => z ∈ sizesOf ss) (fun x hx1 z hz => ?_) (longJ xs).length (Nat.le_refl _) j (by rw [e]; exact hj) z hz
    obtain ⟨y, hy, rfl⟩ := mem x hx1
    exact mem_sizesOf.mpr ⟨y, hy, .inl hz⟩
theorem names_mem {ss s2 : List Sd} {z : Str} : z ∈ namesL ss s2 ↔ z ∈ sizesOf ss ∨ z ∈ sizesOf s2 := by
  unfold namesL
  rw [(sortT_perm _).mem_iff, mem_putAll, List.mem_append]
  simp
theorem names_nd (ss s2 : List Sd) : (namesL ss s2).Nodup := (sortT_perm _).nodup_iff.mpr (nodup_putAll List.nodup_nil)
def L9 : List Str := ["m", "n", "mn", "p", "abc", "height", "nm", "x", "y"]
theorem L9_of : ∀ z ∈ L8, z ∈ L9 := by
  have : (L8.all fun z => decide (z ∈ L9)) = true := by decide +kernel
  exact fun z hz => of_decide_eq_true (List.all_eq_true.mp this z hz)
theorem sizes_L9 {ss : List Sd} (ro : ∀ x ∈ ss, RowOk x) : ∀ z ∈ sizesOf ss, z ∈ L9 := fun z hz => by
  obtain ⟨x, hx, h⟩ := mem_sizesOf.mp hz
  exact L9_of z (h.elim ((ro x hx).1 z) ((ro x hx).2.1 z))
section
variable {P : Program} {w : World} {K : PySem.W.Frag} {mg : Str → Option Value} {base : Heap} {C : Addr}
theorem scSame : FnScope ["table", "walk", "other", "route", "one", "two", "values"] ["table", "walk", "other", "route"] (defScope sSame) := ⟨rfl, rfl, rfl, by decide +kernel, rfl, by decide +kernel, by decide +kernel⟩
theorem ok_same {f : Addr} {fd : FuncData} (F : Fun K "same_run" "same_run" sSame f fd) (B : Bl mg) (Jo : Cal P w K mg base 3 "joined" (spJoined K C) []) (Pm : Cal P w K mg base 1 "primes" (spPrimes K) []) (Fu : Cal P w K mg base 2 "first_unlike" (spUnlike K) []) (Sz : Met P w K mg base 1 C "sizes" (spSizes C) []) : FnOk P w K mg base CX0 4 f fd ["table", "walk", "other", "route"] (spSame C) := by
  refine F.ok scSame (fun vs H Q E h => ?_) (fun cdv A outer s H vs Q E hr h => ?_)
  · obtain ⟨a, l, b, m, wk, w2, ss, s2, rfl, _⟩ := h
    rfl
  · obtain ⟨a, l, b, m, wk, w2, ss, s2, rfl, hl, pmw, hp, ok, ro, l8, hm, pmw2, hp2, ok2, ro2, l82, k⟩ := h
    refine ⟨_, pss_cons (ps_set (i := 4) scSame.nd rfl (Or.inl rfl) (pe_c Jo hr (by decide) rfl (pa_cons (pv 0) (pa_cons (pv 1) pa_nil))))
      (pss_cons (ps_set (i := 5) scSame.nd rfl (Or.inl rfl) (pe_c Jo hr (by decide) rfl (pa_cons (pv 2) (pa_cons (pv 3) pa_nil))))
      (pss_cons (ps_if (pt_cmpR (op_eqD hr.units) (pv 4) (pv 5) (by rfl)) (pss_one (ps_ret pe_non)) pss_nil)
      (pss_cons (ps_set (i := 6) scSame.nd rfl (Or.inl rfl) (pe_c Pm hr (by decide) rfl (pa_cons (pe_callB (cr_sortedSS rfl) (by rfl) B.srt_ (by decide +kernel) (pa_cons (pe_callTy (cr_setLS rfl) (by rfl) B.set_ (by decide +kernel) (pa_cons (pe_op op_catS (pe_mt0 Sz hr (by decide) (pv 0)) (pe_mt0 Sz hr (by decide) (pv 2))) pa_nil)) pa_nil)) pa_nil)))
      (pss_one (ps_ret (pe_tupS (pa_cons (pv 6) (pa_cons (pe_c Fu hr (by decide) rfl (pa_cons (pv 4) (pa_cons (pv 5) (pa_cons (pv 6) pa_nil)))) pa_nil)))))))), ?_⟩
    refine seq_asg ?_
    refine ⟨_, rfl, _, rfl, a, l, wk, ss, rfl, hl, pmw, hp, ok, fun x hx => ⟨(ro x hx).2.2.1, (ro x hx).2.2.2⟩, l8, fun H1 p1 ts xs S1 n1 h1 ht1 ex hx => ?_⟩
    refine seq_asg ?_
    refine ⟨_, rfl, _, rfl, b, m, w2, s2, rfl, S1 _ _ hm, pmw2, hp2.same S1, ok2, fun x hx => ⟨(ro2 x hx).2.2.1, (ro2 x hx).2.2.2⟩, l82, fun H2 p2 us ys S2 n2 h2 ht2 ey hy => ?_⟩
    have lw : wk.length ≤ 8 := by rw [pmw.length_eq, List.length_map]; exact l8
    have lw2 : w2.length ≤ 8 := by rw [pmw2.length_eq, List.length_map]; exact l82
    have lx : xs.length ≤ 8 := by have := congrArg List.length ex; rw [List.length_map, List.length_reverse] at this; omega
    have ly : ys.length ≤ 8 := by have := congrArg List.length ey; rw [List.length_map, List.length_reverse] at this; omega
    obtain ⟨x1, x2, x3⟩ := join_facts ok ro hx lx
    obtain ⟨y1, y2, y3⟩ := join_facts ok2 ro2 hy ly
    obtain ⟨k1, k2⟩ := k xs ys ex hx ey hy
    have ht12 : Paired (JnAt H2) ts (joinL (longJ xs)) := paired_imp ht1 fun t _ x z => z.same S2
    have h12 := S2 _ _ h1
    refine ⟨_, rfl, _, rfl, .list ((joinL (longJ xs)).map jnD), .list ((joinL (longJ ys)).map jnD), .lst (SqL.of h12) (dp_jns ht12), .lst (SqL.of h2) (dp_jns ht2), shaped_jns x2, shaped_jns y2, _, rfl, ?_⟩
    rw [eqv_jns]
    by_cases ce : joinL (longJ xs) = joinL (longJ ys)
    · rw [decide_eq_true ce]
      exact ifT rfl (k1 ce H2 (S1.trans S2))
    · rw [decide_eq_false ce]
      refine ifF rfl ?_
      dsimp only [tNext]
      have k2 := k2 ce
      have S02 := S1.trans S2
      refine seq_asg ?_
      obtain ⟨dx, l0, ts0, ha, _⟩ := id hp
      obtain ⟨dy, m0, us0, hb, _⟩ := id hp2
      have sz : ∀ {zz : List Sd}, (∀ x ∈ zz, RowOk x) → (sizesOf zz).length ≤ 9 := fun {zz} r => E2.nodup_le (sizesOf_nodup zz) (sizes_L9 r)
      have z1 := sz ro
      have z2 := sz ro2
      refine ⟨_, rfl, a, dx, _, rfl, S02 _ _ ha, rfl, a, ss, rfl, hp.same S02, ok, fun H3 p3 S3 n3 h3 => ?_⟩
      refine ⟨_, rfl, b, dy, _, rfl, S3 _ _ (S02 _ _ hb), rfl, b, s2, rfl, hp2.same (S02.trans S3), ok2, fun H4 p4 S4 n4 h4 => ?_⟩
      refine ⟨p3, p4, _, _, rfl, rfl, S4 _ _ h3, h4, by rw [List.length_map, List.length_map, sizeLine_eq]; omega, fun c H5 S5 nc hc => ?_⟩
      rw [← List.map_append] at hc
      refine ⟨c, sizesOf ss ++ sizesOf s2, rfl, SqL.of hc, fun i => ?_, fun sa nsa => ?_⟩
      · have h1 := len_putAll ((sizesOf ss ++ sizesOf s2).take i) []
        rw [List.length_take, List.length_append] at h1
        have : (0 : Nat) + 60 + 1 < scanBound := by decide
        simp only [List.length_nil] at h1
        omega
      have S56 : Same H5 (upd H5 sa (SetSO P w sa (putAll [] (sizesOf ss ++ sizesOf s2)))) := Same.upd nsa
      refine ⟨sa, _, rfl, upd_same, fun zs pmz nd so q H7 S7 nq hq => ?_⟩
      have e := sortT_one pmz so
      subst e
      have S07 := S02.trans (S3.trans (S4.trans (S5.trans (S56.trans S7))))
      have S27 := S3.trans (S4.trans (S5.trans (S56.trans S7)))
      generalize upd H5 sa (SetSO P w sa (putAll [] (sizesOf ss ++ sizesOf s2))) = H6 at S56 S7 nq
      have l9 : (namesL ss s2).length ≤ 9 := E2.nodup_le (names_nd ss s2) fun z hz => (names_mem.mp hz).elim (sizes_L9 ro z) (sizes_L9 ro2 z)
      refine ⟨q, namesL ss s2, rfl, hq, names_nd ss s2, l9, fun H8 d vl S8 nd8 hd8 hP hb8 => ?_⟩
      have S28 := S27.trans S8
      have av : AllV (fun n => 1 ≤ n ∧ n.natAbs < 2 ^ 400) vl := fun x hx => by
        obtain ⟨b1, b2⟩ := hb8 x hx
        refine ⟨by omega, ?_⟩
        have l4 : ((2 ^ 400 : Nat) : Int) = 2 ^ 400 := by norm_cast
        rw [← l4] at b2
        omega
      dsimp only
      refine ⟨_, rfl, _, rfl, _, rfl, _, rfl, p1, p2, d, ts, us, joinL (longJ xs), joinL (longJ ys), vl, rfl, S28 _ _ h12, S28 _ _ h2, hd8, paired_imp ht12 fun t _ x z => z.same S28, paired_imp ht2 fun t _ x z => z.same S28, x1, y1, x2, y2, fun j hj z hz => ?_, av, fun H9 S9 => ?_⟩
      · rw [hP.1]
        exact hj.elim (fun h => names_mem.mpr (.inl (x3 j h z hz))) fun h => names_mem.mpr (.inr (y3 j h z hz))
      refine ⟨by show 2 ≤ sizeLine; decide, fun p H10 S10 np hp10 => ?_⟩
      have S010 := S02.trans (S28.trans (S9.trans S10))
      have S910 := S9.trans S10
      exact k2 H10 p vl S010 ⟨d, hp10, S910 _ _ hd8, ((S02.trans (S28.trans S9)).free np), (S07.free nd8)⟩ hP hb8
end
end E4

set_option Elab.async false
set_option linter.all false
set_option maxRecDepth 100000
set_option maxHeartbeats 1000000
/-! sides without steps: is_side, names_of, is_sides -/
namespace E4
open PySem PySem.Spec PyProof.Rows L2
open C8 (Cal Mak Met InsC pe_c pe_mt pe_mt0 call_isC clsBody)
/-- a side without a step: its name, its size -/
abbrev Pr := Str × List Str
def PrOk (x : Pr) : Prop := LetOk x.1 ∧ (∀ z ∈ x.2, LetOk z) ∧ x.2.length ≤ 60
def PrAt (H : Hp) (t : Addr) (x : Pr) : Prop := ∃ a, H t = some (.tup [.str x.1, .ref a]) ∧ H a = some (.lst (x.2.map V.str))
theorem PrAt.same {H H' : Hp} {t : Addr} {x : Pr} (h : PrAt H t x) (S : Same H H') : PrAt H' t x := let ⟨a, h1, h2⟩ := h; ⟨a, S _ _ h1, S _ _ h2⟩
def PrsAt (H : Hp) (ts : List Addr) (xs : List Pr) : Prop := Paired (PrAt H) ts xs
theorem PrsAt.imp {H H' : Hp} {ts : List Addr} {xs : List Pr} (h : PrsAt H ts xs) (k : ∀ t ∈ ts, ∀ x, PrAt H t x → PrAt H' t x) : PrsAt H' ts xs := by
  unfold PrsAt at h ⊢
  induction h with
  | nil => exact .nil
  | cons r t ih => exact .cons (k _ List.mem_cons_self _ r) (ih fun z hz => k z (List.mem_cons_of_mem _ hz))
theorem PrsAt.same {H H' : Hp} {ts : List Addr} {xs : List Pr} (h : PrsAt H ts xs) (S : Same H H') : PrsAt H' ts xs := h.imp fun _ _ _ q => q.same S
structure PrsOk (xs : List Pr) : Prop where
  ne : xs ≠ []
  ok : ∀ x ∈ xs, PrOk x
  nd : (xs.map (·.1)).Nodup
  free : ∀ x ∈ xs, ∀ y ∈ xs, ∀ z, z ∈ x.2 → z ≠ y.1
  len : xs.length ≤ 16
def spSideOk1 : Sp := fun vs H Q _ => ∃ (t : Addr) (x : Pr), vs = [.ref t, .int 1] ∧ PrAt H t x ∧ PrOk x ∧ ∀ H', Same H H' → Q (.bl true) H'
def spNames1 (K : PySem.W.Frag) : Sp := fun vs H Q _ => ∃ (l : Addr) (ts : List Addr) (xs : List Pr), vs = [.ref l] ∧ SqL K H l (ts.map V.ref) ∧ PrsAt H ts xs ∧ xs.length ≤ 60 ∧ ∀ H' p, Same H H' → H p = none → H' p = some (.lst ((xs.map (·.1)).map V.str)) → Q (.ref p) H'
def spSidesOk1 : Sp := fun vs H Q _ => ∃ (l : Addr) (ts : List Addr) (xs : List Pr), vs = [.ref l, .int 1] ∧ H l = some (.lst (ts.map V.ref)) ∧ PrsAt H ts xs ∧ PrsOk xs ∧ ∀ H', Same H H' → Q (.bl true) H'
section
variable {P : Program} {w : World} {K : PySem.W.Frag} {mg : Str → Option Value} {base : Heap}
theorem cut11 (x y : V) : cutV [x, y] (some 1) none = [y] := by rfl
theorem ok_sideOk1 {f : Addr} {fd : FuncData} (F : Fun K "is_side" "is_side" sIsSide f fd) (B : Bl mg) (L : Cal P w K mg base 1 "is_letter" spIsLet []) (Pr : Cal P w K mg base 2 "is_product" spProdOk []) : FnOk P w K mg base CX0 3 f fd ["side", "many"] spSideOk1 := by
  refine F.ok scSideOk (fun vs H Q E h => ?_) (fun cdv A outer s H vs Q E hr h => ?_)
  · obtain ⟨t, x, rfl, _⟩ := h
    rfl
  · obtain ⟨t, x, rfl, ⟨a, ht, ha⟩, ⟨o1, o2, o4⟩, k⟩ := h
    refine ⟨_, pss_cons (ps_if (PW.pt (pw_or (pt_not (pt_val (pe_callB call_isi (by rfl) B.isi (by decide +kernel) (pa_cons (pv 0) (pa_cons (pe_bltn (v := .ty "tuple") (by rfl) B.tup_ (by decide +kernel) rfl) pa_nil)))))
        (pw_or1 (pt_cmpR op_ne (pe_callB call_len_seq (by rfl) B.len_ PySem.boot_len (pa_cons (pv 0) pa_nil)) (pe_op op_add pe_int (pv 1)) (by rfl))))) (pss_one (ps_ret pe_bl)) pss_nil)
      (pss_one (ps_ret (pe_and (pe_c L hr (by decide) rfl (pa_cons (pe_ix ix_tup (pv 0) pe_int (fun _ _ => rfl)) pa_nil))
        (pe_one (pe_callB (cr_all rfl) (by rfl) B.all_ (by decide +kernel) (pa_cons (pe_lc (own := [("product", 2)]) (g := gName 2) (tt := tYes) (te := tCall spProdOk [] C8.E0 (tCons (tVar 2) tNil)) rfl scSideOk.nd (pi_tup (pe_slice sl_tup (pv 0) (po_some pe_int) po_none))
          (blkOk_by (own := [("product", 2)]) (N := ["side", "many", "product"]) (sc := defScope sIsSide) (by decide +kernel))
          (fun _ _ _ _ _ => pg_name (i := 2) scSideOk.nd rfl (Or.inl rfl)) (fun _ _ _ _ _ => pts_nil) (fun _ _ _ _ _ => by exact pe_c Pr hr (by decide) rfl (pa_cons (pv 2) pa_nil))) pa_nil)))))), ?_⟩
    refine ⟨_, rfl, _, _, _, _, true, rfl, .ty "tuple", .base (.tup ht), kit_tt, true, rfl, iteF ?_⟩
    refine ⟨_, rfl, t, _, rfl, .inr (SqT.of ht), _, rfl, 1, 1, rfl, rfl, rfl, _, rfl, ifF rfl ?_⟩
    dsimp only [tNext]
    refine ⟨_, rfl, t, _, 0, _, rfl, rfl, SqT.of ht, rfl, x.1, rfl, o1, fun H1 S1 => ⟨true, rfl, iteT (B := False) ?_⟩⟩
    refine ⟨_, rfl, 1, rfl, t, _, rfl, SqT.of (S1 _ _ ht), (fun h => absurd (show HT.sIx 2 0 (some 1) = 0 from h.1) (by decide)), fun p np => ?_⟩
    rw [cut11]
    have S2 : Same H1 (upd H1 p (.tup [.ref a])) := Same.upd np
    have hp : (upd H1 p (.tup [.ref a])) p = some (.tup [.ref a]) := upd_same
    generalize upd H1 p (.tup [.ref a]) = H2 at S2 hp ⊢
    refine ⟨p, rfl, ⟨_, SqT.of hp⟩, fun D nD => lc_it (walk_tup (xs := [.ref a])) (fun i H' => Same H2 H' ∧ H' D = some (.lst (List.replicate i (V.bl true)))) ⟨Same.upd nD, upd_same⟩ (fun i H' _ q => SqT.of (q.1 _ _ hp)) ?_ ?_⟩
    · rintro i x1 H3 H4 hi ⟨S, hD⟩ ⟨rfl, hx2⟩
      have key : ∃ (a : Addr) (xs : List Str), [x1] = [V.ref a] ∧ H4 a = some (HO.lst (xs.map V.str)) ∧ (∀ z ∈ xs, LetOk z) ∧ xs.length ≤ 60 := by
        match i, hi with
        | 0, _ => cases hx2; exact ⟨a, x.2, rfl, S _ _ (S2 _ _ (S1 _ _ ha)), o2, o4⟩
      obtain ⟨c, zs, e, hc, hl, hz⟩ := key
      refine ⟨rfl, iteT (B := False) ⟨_, rfl, c, zs, e, hc, hl, hz, fun H5 S4 => ⟨_, S4 _ _ hD, ?_, ?_, ?_⟩⟩⟩
      · rw [List.length_replicate, sizeLine_eq]
        have : i < 1 := hi
        omega
      · intro b o hb
        rw [upd_ne (ne_of_none hb nD)]
        exact S4 _ _ (S _ _ hb)
      · rw [upd_same, List.replicate_succ']
    · rintro H3 ⟨S, hD⟩
      refine ⟨D, List.replicate 1 true, rfl, SqL.of hD, ?_⟩
      exact k H3 (S1.trans (S2.trans S))
theorem ok_names1 {f : Addr} {fd : FuncData} (F : Fun K "names_of" "names_of" sNamesOf f fd) : FnOk P w K mg base CX0 1 f fd ["sides"] (spNames1 K) := by
  refine F.ok scNames (fun vs H Q E h => ?_) (fun cdv A outer s H vs Q E hr h => ?_)
  · obtain ⟨l, ts, xs, rfl, _⟩ := h
    rfl
  · obtain ⟨l, ts, xs, rfl, hl, hx, hz, k⟩ := h
    refine ⟨_, pss_one (ps_ret (pe_lc (own := [("side", 1)]) (g := gName 1) (tt := tYes) (te := tOp (rIxT K) (tVar 1) (tC (.int 0))) rfl scNames.nd (pi_list (pv 0))
        (blkOk_by (own := [("side", 1)]) (N := ["sides", "side"]) (sc := defScope sNamesOf) (by decide +kernel))
        (fun _ _ _ _ _ => pg_name (i := 1) scNames.nd rfl (Or.inl rfl)) (fun _ _ _ _ _ => pts_nil) (fun _ _ _ _ _ => by exact pe_ix ix_tup (pv 1) pe_int (fun _ _ => rfl)))), ?_⟩
    have lt := hx.length
    refine ⟨_, rfl, l, rfl, ⟨_, hl⟩, fun D nD => lc_it (walk_list (xs := ts.map V.ref)) (fun i H' => Same H H' ∧ H' D = some (.lst (((xs.take i).map (·.1)).map V.str))) ⟨Same.upd nD, upd_same⟩ (fun i H' _ q => hl.same q.1) ?_ ?_⟩
    · rintro i x H1 H2 hi ⟨S, hD⟩ ⟨rfl, hx2⟩
      rw [List.length_map] at hi
      rw [List.getElem?_map] at hx2
      obtain ⟨t, htt, rfl⟩ := Option.map_eq_some_iff.mp hx2
      obtain ⟨y, hy, a, h1, _⟩ := paired_at hx htt
      refine ⟨rfl, iteT (B := False) ⟨_, rfl, t, _, 0, _, rfl, rfl, SqT.of (S _ _ h1), rfl, _, hD, ?_, ?_, ?_⟩⟩
      · rw [List.length_map, List.length_map, List.length_take, sizeLine_eq]
        omega
      · intro c o e
        rw [upd_ne (ne_of_none e nD)]
        exact S _ _ e
      · rw [upd_same, take_snoc hy, List.map_append, List.map_append]
        rfl
    · rintro H1 ⟨S, hD⟩
      rw [List.length_map, lt, List.take_length] at hD
      exact k H1 D S nD hD
theorem ok_sidesOk1 {f : Addr} {fd : FuncData} (F : Fun K "is_sides" "is_sides" sIsSides f fd) (B : Bl mg) (Sd : Cal P w K mg base 3 "is_side" spSideOk1 []) (Nm : Cal P w K mg base 1 "names_of" (spNames1 K) []) : FnOk P w K mg base CX0 4 f fd ["sides", "many"] spSidesOk1 := by
  refine F.ok scSidesOk (fun vs H Q E h => ?_) (fun cdv A outer s H vs Q E hr h => ?_)
  · obtain ⟨l, ts, xs, rfl, _⟩ := h
    rfl
  · obtain ⟨l, ts, xs, rfl, hl, hx, ok, k⟩ := h
    refine ⟨_, pss_cons (ps_if (PW.pt (pw_or (pt_not (pt_val (pe_callB call_isi (by rfl) B.isi (by decide +kernel) (pa_cons (pv 0) (pa_cons (pe_bltn (v := .ty "list") (by rfl) B.lst_ (by decide +kernel) rfl) pa_nil)))))
        (pw_or1 (pt_cmpR op_eq (pe_callB call_len_seq (by rfl) B.len_ PySem.boot_len (pa_cons (pv 0) pa_nil)) pe_int (by rfl))))) (pss_one (ps_ret pe_bl)) pss_nil)
      (pss_cons (ps_if (pt_not (pt_val (pe_callB (cr_all rfl) (by rfl) B.all_ (by decide +kernel) (pa_cons (pe_lc (own := [("side", 2)]) (g := gName 2) (tt := tYes) (te := tCall spSideOk1 [] C8.E0 (tCons (tVar 2) (tCons (tVar 1) tNil))) rfl scSidesOk.nd (pi_list (pv 0))
          (blkOk_by (own := [("side", 2)]) (N := ["sides", "many", "side", "names", "product", "part"]) (sc := defScope sIsSides) (by decide +kernel))
          (fun _ _ _ _ _ => pg_name (i := 2) scSidesOk.nd rfl (Or.inl rfl)) (fun _ _ _ _ _ => pts_nil) (fun _ _ _ _ _ => by exact pe_c Sd hr (by decide) rfl (pa_cons (pv 2) (pa_cons (pv 1) pa_nil)))) pa_nil)))) (pss_one (ps_ret pe_bl)) pss_nil)
      (pss_cons (ps_set (i := 3) scSidesOk.nd rfl (Or.inr rfl) (pe_c Nm hr (by decide) rfl (pa_cons (pv 0) pa_nil)))
      (pss_cons (ps_if (pt_cmpR op_lt (pe_callB cr_lenSS (by rfl) B.len_ PySem.boot_len (pa_cons (pe_callTy (cr_setLS rfl) (by rfl) B.set_ (by decide +kernel) (pa_cons (pv 3) pa_nil)) pa_nil)) (pe_callB call_len_seq (by rfl) B.len_ PySem.boot_len (pa_cons (pv 3) pa_nil)) (by rfl)) (pss_one (ps_ret pe_bl)) pss_nil)
      (pss_one (ps_ret (pe_not (pe_callB (cr_any rfl) (by rfl) B.any_ (by decide +kernel) (pa_cons (pe_lc3 (own := [("side", 2), ("product", 4), ("part", 5)]) (v1 := [4, 5]) (v2 := [5]) (g0 := gName 2) (w1 := iTup K (tSl (rSlT K) (tVar 2) (tPart (tC (.int 1))) tNoPart)) (g1 := gName 4) (w2 := iList K (tVar 4)) (g2 := gName 5) (te := tOp (rIn K false) (tVar 5) (tVar 3)) rfl scSidesOk.nd
          (blkOk_by (own := [("side", 2), ("product", 4), ("part", 5)]) (N := ["sides", "many", "side", "names", "product", "part"]) (sc := defScope sIsSides) (by decide +kernel)) (by decide) (by decide) (pi_list (pv 0))
          (fun _ _ _ _ _ => pg_name (i := 2) scSidesOk.nd rfl (Or.inl rfl)) (fun _ _ _ _ _ => by exact pi_tup (pe_slice sl_tup (pv 2) (po_some pe_int) po_none)) (fun _ _ _ _ _ => pg_name (i := 4) scSidesOk.nd rfl (Or.inl rfl))
          (fun _ _ _ _ _ => by exact pi_list (pv 4)) (fun _ _ _ _ _ => pg_name (i := 5) scSidesOk.nd rfl (Or.inl rfl)) (fun _ _ _ _ _ => by exact pe_cmpR op_in_seq (pv 5) (pv 3) (by rfl))) pa_nil)))))))), ?_⟩
    have lt := hx.length
    have zl := ok.len
    refine ⟨_, rfl, _, _, _, _, true, rfl, .ty "list", .base (.lst hl), kit_ll, true, rfl, iteF ?_⟩
    refine ⟨_, rfl, l, _, rfl, .inl (SqL.of hl), ?_⟩
    have hne : (ts.map V.ref).length ≠ 0 := by
      have : xs.length ≠ 0 := fun e => ok.ne (List.length_eq_zero_iff.mp e)
      rw [List.length_map]
      omega
    refine ⟨rfl, _, rfl, ifF (decide_eq_false fun e => hne (Int.ofNat.inj (V.int.inj e))) ?_⟩
    dsimp only [tNext]
    -- the first comprehension
    refine ⟨_, rfl, l, rfl, ⟨_, SqL.of hl⟩, fun D nD => lc_it (walk_list (xs := ts.map V.ref)) (fun i H' => Same H H' ∧ H' D = some (.lst (List.replicate i (V.bl true)))) ⟨Same.upd nD, upd_same⟩ (fun i H' _ q => SqL.of (q.1 _ _ hl)) ?_ ?_⟩
    · rintro i x H2 H3 hi ⟨S, hD⟩ ⟨rfl, hx2⟩
      rw [List.length_map] at hi
      rw [List.getElem?_map] at hx2
      obtain ⟨t, htt, rfl⟩ := Option.map_eq_some_iff.mp hx2
      obtain ⟨y, hy, sy⟩ := paired_at hx htt
      refine ⟨rfl, iteT (B := False) ⟨_, rfl, _, rfl, t, y, rfl, sy.same S, ok.ok y (List.mem_of_getElem? hy), fun H4 S4 => ⟨_, S4 _ _ hD, ?_, ?_, ?_⟩⟩⟩
      · rw [List.length_replicate, sizeLine_eq]
        omega
      · intro b o hb
        rw [upd_ne (ne_of_none hb nD)]
        exact S4 _ _ (S _ _ hb)
      · rw [upd_same, List.replicate_succ']
    rintro H2 ⟨S2, hD⟩
    refine ⟨D, List.replicate ts.length true, rfl, SqL.of (by rw [List.map_replicate]; rw [List.length_map] at hD; exact hD), true, by rw [all_true], iteF ?_⟩
    dsimp only [tNext]
    refine seq_asg ⟨_, rfl, l, ts, xs, rfl, SqL.of (S2 _ _ hl), PrsAt.same hx S2, by omega, fun H3 p S3 np hp => ?_⟩
    -- the names
    have S03 := S2.trans S3
    refine ⟨_, rfl, p, xs.map (·.1), rfl, SqL.of hp, fun i => ?_, fun sa nsa => ?_⟩
    · have h1 := len_putAll ((xs.map (·.1)).take i) []
      rw [List.length_take, List.length_map] at h1
      have : (0 : Nat) + 60 + 1 < scanBound := by decide
      simp only [List.length_nil] at h1
      omega
    have S34 : Same H3 (upd H3 sa (SetSO P w sa (putAll [] (xs.map (·.1))))) := Same.upd nsa
    refine ⟨sa, _, rfl, upd_same, ?_⟩
    refine ⟨_, rfl, p, _, rfl, .inl (SqL.of (S34 _ _ hp)), ?_⟩
    have e1 := putAll_nodup (ks := []) ok.nd fun _ _ h => absurd h List.not_mem_nil
    refine ⟨_, _, rfl, rfl, _, rfl, ifF (decide_eq_false ?_) ?_⟩
    · rw [e1, List.length_map]
      simp
    dsimp only [tNext]
    show tRet _ _ _ (upd H3 sa (SetSO P w sa (putAll [] (xs.map (·.1)))))
    generalize upd H3 sa (SetSO P w sa (putAll [] (xs.map (·.1)))) = H4 at S34 ⊢
    have S04 := S03.trans S34
    have hp4 := S34 _ _ hp
    -- the last comprehension
    have big : ∀ m : Nat, m ≤ 120 * 60 → m < sizeLine := fun m h => by rw [sizeLine_eq]; omega
    refine ⟨_, rfl, l, rfl, ⟨_, SqL.of (S04 _ _ hl)⟩, fun D2 nD2 => ?_⟩
    have up : ∀ {H' : Hp} {v : HO}, Same H4 H' → Same H4 (upd H' D2 v) := fun S c o e => by
      rw [upd_ne (ne_of_none e nD2)]
      exact S _ _ e
    refine cl_it (walk_list (xs := ts.map V.ref)) (fun i H' => Same H4 H' ∧ ∃ m, m ≤ 120 * i ∧ H' D2 = some (.lst (List.replicate m (V.bl false)))) ⟨Same.upd nD2, 0, Nat.le_refl _, upd_same⟩ (fun i H' _ q => SqL.of (q.1 _ _ (S04 _ _ hl))) ?_ ?_
    · rintro i x H5 H6 hi ⟨S5, m, hm, hD⟩ ⟨rfl, hx2⟩
      rw [List.length_map] at hi
      rw [List.getElem?_map] at hx2
      obtain ⟨t, htt, rfl⟩ := Option.map_eq_some_iff.mp hx2
      obtain ⟨y, hy, a, h1, h2⟩ := paired_at hx htt
      have ym := List.mem_of_getElem? hy
      obtain ⟨o1, o2, o4⟩ := ok.ok y ym
      have S45 := S04.trans S5
      refine ⟨rfl, _, rfl, 1, rfl, t, _, rfl, SqT.of (S45 _ _ h1), (fun h => absurd (show HT.sIx 2 0 (some 1) = 0 from h.1) (by decide)), fun q nq => ?_⟩
      rw [cut11]
      have nqD : q ≠ D2 := (ne_of_none hD nq).symm
      refine ⟨q, rfl, ⟨_, SqT.of upd_same⟩, ?_⟩
      refine cl_it (walk_tup (xs := [.ref a])) (fun j H' => Same H4 H' ∧ H' q = some (.tup [.ref a]) ∧ ∃ m, m ≤ 120 * i + 60 * j ∧ H' D2 = some (.lst (List.replicate m (V.bl false)))) ⟨S5.trans (Same.upd nq), upd_same, m, hm, by rw [upd_ne nqD.symm]; exact hD⟩ (fun j H' _ q => SqT.of q.2.1) ?_ ?_
      · rintro j x2 H7 H8 hj ⟨S7, hq7, m7, hm7, hD7⟩ ⟨rfl, hx3⟩
        have S47 := S04.trans S7
        have key : ∃ (c : Addr) (zs : List Str), x2 = .ref c ∧ H8 c = some (.lst (zs.map V.str)) ∧ zs.length ≤ 60 ∧ c ≠ D2 ∧ ∀ z ∈ zs, z ∈ y.2 := by
          match j, hj with
          | 0, _ => cases hx3; exact ⟨a, y.2, rfl, S47 _ _ h2, o4, ne_of_none (S04 _ _ h2) nD2, fun z hz => hz⟩
        obtain ⟨c, zs, rfl, hc, hz, ncD, hzs⟩ := key
        refine ⟨rfl, _, rfl, c, rfl, ⟨_, SqL.of hc⟩, ?_⟩
        refine cl_it (walk_list (xs := zs.map V.str)) (fun k H' => Same H4 H' ∧ H' q = some (.tup [.ref a]) ∧ H' c = some (.lst (zs.map V.str)) ∧ H' D2 = some (.lst (List.replicate (m7 + k) (V.bl false)))) ⟨S7, hq7, hc, hD7⟩ (fun k H' _ q => SqL.of q.2.2.1) ?_ ?_
        · rintro k x3 H9 H10 hk ⟨S9, hq9, hc9, hD9⟩ ⟨rfl, hx4⟩
          rw [List.length_map] at hk
          rw [List.getElem?_map] at hx4
          obtain ⟨z, hzz, rfl⟩ := Option.map_eq_some_iff.mp hx4
          have nin : inV (.str z) ((xs.map (·.1)).map V.str) = false := by
            unfold inV
            rw [List.any_eq_false]
            intro v hv
            obtain ⟨n, hn, rfl⟩ := List.mem_map.mp hv
            obtain ⟨y2, hy2, rfl⟩ := List.mem_map.mp hn
            have := ok.free y ym y2 hy2 z (hzs z (List.mem_of_getElem? hzz))
            simp [eqV, Ne.symm this]
          have fl : ((xs.map (·.1)).map V.str).all flatV = true := by
            rw [List.all_eq_true]
            intro v hv
            obtain ⟨n, hn, rfl⟩ := List.mem_map.mp hv
            rfl
          refine ⟨rfl, _, rfl, _, rfl, p, _, rfl, .inl (SqL.of (S9 _ _ hp4)), rfl, fl, ?_⟩
          have hi2 : i < 60 := by omega
          have hj2 : j < 1 := hj
          refine ⟨_, hD9, by rw [List.length_replicate]; exact big _ (by omega), up S9, ?_, ?_, ?_⟩
          · rw [upd_ne nqD]; exact hq9
          · rw [upd_ne ncD]; exact hc9
          · rw [upd_same, ← Nat.add_assoc, List.replicate_succ']
            show some (HO.lst (_ ++ [V.bl (inV _ _)])) = _
            rw [nin]
        · rintro H9 ⟨S9, hq9, hc9, hD9⟩
          rw [List.length_map] at hD9
          exact ⟨S9, hq9, m7 + zs.length, by omega, hD9⟩
      · rintro H7 ⟨S7, hq7, m7, hm7, hD7⟩
        exact ⟨S7, m7, by simp only [List.length_cons, List.length_nil] at hm7; omega, hD7⟩
    · rintro H5 ⟨S5, m, hm, hD⟩
      refine ⟨D2, List.replicate m false, rfl, SqL.of (by rw [List.map_replicate]; exact hD), ?_⟩
      rw [any_false _ fun b hb => (List.mem_replicate.mp hb).2]
      exact ⟨false, rfl, k _ (S04.trans S5)⟩
end
end E4

set_option Elab.async false
set_option linter.all false
set_option maxRecDepth 100000
set_option maxHeartbeats 1000000
/-! arranged -/
namespace E4
open PySem PySem.Spec PyProof.Rows L2
open C8 (Cal Mak Met InsC pe_c pe_mt pe_mt0 call_isC clsBody)
abbrev sArr : Stmt := top 44
/-- a dict of names and addresses -/
def dA (l : List (Str × Addr)) : List (Key × V) := l.map fun x => (Sum.inr x.1, V.ref x.2)
theorem valV_dA_cons (e : Str × Addr) (l : List (Str × Addr)) (z : Str) : valV (dA (e :: l)) (Sum.inr z) = if e.1 = z then some (.ref e.2) else valV (dA l) (Sum.inr z) := by
  unfold valV dA
  rw [List.map_cons, List.find?_cons]
  by_cases c : e.1 = z
  · simp [c]
  · have : ¬ (Sum.inr e.1 : Key) = Sum.inr z := fun q => c (Sum.inr.inj q)
    simp [c, this]
theorem putK_dA {l : List (Str × Addr)} {z : Str} {a : Addr} (h : z ∉ l.map (·.1)) : putK (dA l) (Sum.inr z) (V.ref a) = dA (l ++ [(z, a)]) := by
  have hn : ((dA l).any fun kv => decide (kv.1 = (Sum.inr z : Key))) = false := by
    rw [List.any_eq_false]
    intro kv hkv
    unfold dA at hkv
    obtain ⟨x, hx, rfl⟩ := List.mem_map.mp hkv
    intro c
    have c2 : (Sum.inr x.1 : Key) = Sum.inr z := of_decide_eq_true c
    exact h (List.mem_map.mpr ⟨x, hx, Sum.inr.inj c2⟩)
  unfold putK
  rw [hn]
  unfold dA
  rw [List.map_append]
  rfl
/-- the sizes' letters -/
def accOf (ys : List Pr) : List Str := ys.flatMap (·.2)
theorem accOf_snoc (ys : List Pr) (x : Pr) : accOf (ys ++ [x]) = accOf ys ++ x.2 := by unfold accOf; rw [List.flatMap_append, List.flatMap_cons, List.flatMap_nil, List.append_nil]
/-- the step of each side in order -/
def stepsOf (ys : List Pr) : List (Str × List Str) := (List.range ys.length).map fun i => ((ys[i]?.map (·.1)).getD "", accOf (ys.take i))
theorem stepsOf_snoc (ys : List Pr) (x : Pr) : stepsOf (ys ++ [x]) = stepsOf ys ++ [(x.1, accOf ys)] := by
  unfold stepsOf
  rw [List.length_append, List.length_cons, List.length_nil, List.range_succ, List.map_append]
  congr 1
  · refine List.map_congr_left fun i hi => ?_
    have := List.mem_range.mp hi
    rw [List.getElem?_append_left this, List.take_append_of_le_length (by omega)]
  · simp
def stepIn (ys : List Pr) (n : Str) : List Str := (((stepsOf ys).find? fun z => decide (z.1 = n)).map (·.2)).getD []
def ordA (xs : List Pr) (sz : Str) : List Pr := (xs.filter fun x => !decide (sz ∈ x.2)) ++ xs.filter fun x => decide (sz ∈ x.2)
/-- the rows of arranged's table -/
def arrL (xs : List Pr) (sz : Str) : List Sd := xs.map fun x => (x.1, x.2, stepIn (ordA xs sz) x.1)
def DlAt (H : Hp) (dl : List (Str × Addr)) (zs : List (Str × List Str)) : Prop := Paired (fun (e : Str × Addr) (z : Str × List Str) => e.1 = z.1 ∧ H e.2 = some (.lst (z.2.map V.str))) dl zs
theorem DlAt.imp {H H' : Hp} {dl : List (Str × Addr)} {zs : List (Str × List Str)} (h : DlAt H dl zs) (k : ∀ c l, H c = some (.lst l) → H' c = some (.lst l)) : DlAt H' dl zs := by
  unfold DlAt at h ⊢
  induction h with
  | nil => exact .nil
  | cons r t ih => exact .cons ⟨r.1, k _ _ r.2⟩ ih
theorem DlAt.get {H : Hp} {dl : List (Str × Addr)} {zs : List (Str × List Str)} (h : DlAt H dl zs) (n : Str) (hn : n ∈ zs.map (·.1)) : ∃ a, valV (dA dl) (Sum.inr n) = some (.ref a) ∧ H a = some (.lst (((((zs.find? fun z => decide (z.1 = n)).map (·.2)).getD [])).map V.str)) := by
  unfold DlAt at h
  induction h with
  | nil => exact absurd hn List.not_mem_nil
  | @cons e z dl zs r t ih =>
    rw [valV_dA_cons, List.find?_cons]
    by_cases c : z.1 = n
    · rw [if_pos (r.1.trans c), decide_eq_true c]
      exact ⟨_, rfl, r.2⟩
    · have c2 : ¬ e.1 = n := fun q => c (r.1.symm.trans q)
      rw [if_neg c2, decide_eq_false c]
      refine ih ?_
      rcases List.mem_cons.mp hn with q | q
      · exact absurd q.symm c
      · exact q
theorem DlAt.keys {H : Hp} {dl : List (Str × Addr)} {zs : List (Str × List Str)} (h : DlAt H dl zs) : dl.map (·.1) = zs.map (·.1) := by
  unfold DlAt at h
  induction h with
  | nil => rfl
  | cons r t ih => rw [List.map_cons, List.map_cons, ih, r.1]
theorem steps_keys (ys : List Pr) : (stepsOf ys).map (·.1) = ys.map (·.1) := by
  have : ∀ n, n ≤ ys.length → (stepsOf (ys.take n)).map (·.1) = (ys.take n).map (·.1) := by
    intro n
    induction n with
    | zero => intro _; rfl
    | succ n ih =>
      intro h
      have hx : ys[n]? = some ys[n] := List.getElem?_eq_getElem (by omega)
      rw [take_snoc hx, stepsOf_snoc, List.map_append, List.map_append, ih (by omega)]
      rfl
  have h := this ys.length (Nat.le_refl _)
  rw [List.take_length] at h
  exact h
def spArr (C : Addr) : Sp := fun vs H Q _ => ∃ (l : Addr) (ts : List Addr) (xs : List Pr) (sz : Str), vs = [.ref l, .str sz] ∧ H l = some (.lst (ts.map V.ref)) ∧ PrsAt H ts xs ∧ PrsOk xs ∧ (∀ x ∈ xs, x.2.length ≤ 3) ∧ xs.length ≤ 8 ∧ LetOk sz ∧ SdsOk (arrL xs sz) ∧
  (1 < (xs.filter fun x => decide (sz ∈ x.2)).length → ∀ H', Same H H' → Q .non H') ∧ (¬ 1 < (xs.filter fun x => decide (sz ∈ x.2)).length → ∀ H' p, Same H H' → H p = none → PlAt C H' p ((arrL xs sz).map norm) → Q (.ref p) H')
section
variable {P : Program} {w : World} {K : PySem.W.Frag} {mg : Str → Option Value} {base : Heap} {C : Addr}
abbrev NA : List Str := ["sides", "size", "side", "growing", "steps", "step", "name", "length"]
theorem scArr : FnScope NA ["sides", "size"] (defScope sArr) := ⟨rfl, rfl, rfl, by decide +kernel, rfl, by decide +kernel, by decide +kernel⟩
theorem ok_arr {f : Addr} {fd : FuncData} (F : Fun K "arranged" "arranged" sArr f fd) (B : Bl mg) (Ss : Cal P w K mg base 4 "is_sides" spSidesOk1 []) (Il : Cal P w K mg base 1 "is_letter" spIsLet []) (M1 : Mak P w K mg base 5 "Plain" C (spInit C) []) : FnOk P w K mg base CX0 7 f fd ["sides", "size"] (spArr C) := by
  refine F.ok scArr (fun vs H Q E h => ?_) (fun cdv A outer s H vs Q E hr h => ?_)
  · obtain ⟨l, ts, xs, sz, rfl, _⟩ := h
    rfl
  · obtain ⟨l, ts, xs, sz, rfl, hl, hx, ok, l3, l8, hsz, oka, k1, k2⟩ := h
    have ul := Nat.lt_of_le_of_lt (Nat.add_le_add_left (by decide : 1 ≤ 64) _) hr.units
    refine ⟨_, pss_cons (ps_if (pt_not (pt_val (pe_c Ss hr (by decide) rfl (pa_cons (pv 0) (pa_cons pe_int pa_nil))))) (pss_one ps_never) pss_nil)
      (pss_cons (ps_if (pt_not (pt_val (pe_c Il hr (by decide) rfl (pa_cons (pv 1) pa_nil)))) (pss_one ps_never) pss_nil)
      (pss_cons (ps_setLc (i := 3) (own := [("side", 2)]) (g := gName 2) (tt := tTest (tOp (rIn K false) (tVar 1) (tOp (rIxT K) (tVar 2) (tC (.int 1))))) (te := tVar 2) (by rfl) scArr.nd rfl rfl (by rfl) (pi_list (pv 0))
          (blkOk_by (own := [("side", 2)]) (N := NA) (sc := defScope sArr) (by decide +kernel))
          (fun _ _ _ _ _ => pg_name (i := 2) scArr.nd rfl (Or.inl rfl))
          (fun _ _ _ _ _ => by exact pts_one (pt_cmpR op_in_seq (pv 1) (pe_ix ix_tup (pv 2) pe_int (fun _ _ => rfl)) (by rfl))) (fun _ _ _ _ _ => pv 2))
      (pss_cons (ps_if (pt_cmpR op_gt (pe_callB call_len_seq (by rfl) B.len_ PySem.boot_len (pa_cons (pv 3) pa_nil)) pe_int (by rfl)) (pss_one (ps_ret pe_non)) pss_nil)
      (pss_cons (ps_set (i := 4) scArr.nd rfl (Or.inr rfl) pe_dnewS)
      (pss_cons (ps_set (i := 5) scArr.nd rfl (Or.inl rfl) (pe_lstS pa_nil))
      (pss_cons (ps_for PassesOwn.never rfl (pi_list (pe_op op_catS (pe_lc (own := [("side", 2)]) (g := gName 2) (tt := tTest (tOp (rIn K true) (tVar 1) (tOp (rIxT K) (tVar 2) (tC (.int 1))))) (te := tVar 2) rfl scArr.nd (pi_list (pv 0))
          (blkOk_by (own := [("side", 2)]) (N := NA) (sc := defScope sArr) (by decide +kernel))
          (fun _ _ _ _ _ => pg_name (i := 2) scArr.nd rfl (Or.inl rfl))
          (fun _ _ _ _ _ => by exact pts_one (pt_cmpR op_notIn_seq (pv 1) (pe_ix ix_tup (pv 2) pe_int (fun _ _ => rfl)) (by rfl))) (fun _ _ _ _ _ => pv 2)) (pv 3)))
          (pg_tup rfl (pgs_cons (pg_name (i := 6) scArr.nd rfl (Or.inl rfl)) (pgs_cons (pg_name (i := 7) scArr.nd rfl (Or.inl rfl)) pgs_nil)))
          (pss_cons (ps_dput ul (pv 4) (pv 6) (pv 5) rfl)
          (pss_one (ps_set (i := 5) scArr.nd rfl (Or.inl rfl) (pe_op op_catS (pv 5) (pv 7))))))
      (pss_one (ps_ret (pe_mk1 M1 hr (by decide) rfl (pa_cons (pe_lc (own := [("name", 6), ("length", 7)]) (g := gTup K 2 (gCons (gName 6) (gCons (gName 7) gNil))) (tt := tYes) (te := tTupS (tCons (tVar 6) (tCons (tVar 7) (tCons (tDGet (tVar 4) (tVar 6)) tNil)))) rfl scArr.nd (pi_list (pv 0))
          (blkOk_by (own := [("name", 6), ("length", 7)]) (N := NA) (sc := defScope sArr) (by decide +kernel))
          (fun _ _ _ _ _ => pg_tup rfl (pgs_cons (pg_name (i := 6) scArr.nd rfl (Or.inl rfl)) (pgs_cons (pg_name (i := 7) scArr.nd rfl (Or.inl rfl)) pgs_nil))) (fun _ _ _ _ _ => pts_nil)
          (fun _ _ _ _ _ => by exact pe_tupS (pa_cons (pv 6) (pa_cons (pv 7) (pa_cons (pe_dget ul (pv 4) (pv 6) (fun _ _ => rfl)) pa_nil))))) pa_nil)))))))))), ?_⟩
    have lt := hx.length
    have hz : ∀ (i : Nat) (t : Addr) (y : Pr), ts[i]? = some t → xs[i]? = some y → (ts.zip xs)[i]? = some (t, y) := fun i t y h1 h2 => by rw [List.getElem?_zip_eq_some]; exact ⟨h1, h2⟩
    have hin : ∀ q ∈ ts.zip xs, PrAt H q.1 q.2 ∧ q.2 ∈ xs := fun q hq => by
      obtain ⟨i, hi⟩ := List.mem_iff_getElem?.mp hq
      rw [List.getElem?_zip_eq_some] at hi
      obtain ⟨y, hy, r⟩ := paired_at hx hi.1
      rw [hi.2] at hy
      cases hy
      exact ⟨r, List.mem_of_getElem? hi.2⟩
    have e1 : (ts.zip xs).map (·.2) = xs := List.map_snd_zip (by omega)
    have e0 : (ts.zip xs).take (ts.map V.ref).length = ts.zip xs := List.take_of_length_le (by rw [List.length_zip, List.length_map]; omega)
    have ef : ∀ p : Pr → Bool, ((ts.zip xs).filter fun q => p q.2).map (·.2) = xs.filter p := fun p => by
      have := List.filter_map (f := fun q : Addr × Pr => q.2) (p := p) (l := ts.zip xs)
      rw [e1] at this
      rw [this]
      rfl
    refine ⟨_, rfl, l, ts, xs, rfl, hl, hx, ok, fun H1 S1 => ⟨true, rfl, iteF ?_⟩⟩
    dsimp only [tNext]
    refine ⟨_, rfl, sz, rfl, hsz, fun H2 S2 => ⟨true, rfl, iteF ?_⟩⟩
    dsimp only [tNext]
    have S02 := S1.trans S2
    refine seq_asg ⟨_, rfl, l, rfl, ⟨_, SqL.of (S02 _ _ hl)⟩, fun D nD => ?_⟩
    refine lc_it (walk_list (xs := ts.map V.ref)) (fun i H' => Same H2 H' ∧ H' D = some (.lst ((((ts.zip xs).take i).filter fun q => decide (sz ∈ q.2.2)).map fun q => V.ref q.1))) ⟨Same.upd nD, upd_same⟩ (fun i H' _ q => SqL.of (q.1 _ _ (S02 _ _ hl))) ?_ ?_
    · rintro i v Ha Hb hi ⟨Sa, hD⟩ ⟨rfl, hx2⟩
      rw [List.length_map] at hi
      rw [List.getElem?_map] at hx2
      obtain ⟨t, htt, rfl⟩ := Option.map_eq_some_iff.mp hx2
      obtain ⟨y, hy, u, h1, h2⟩ := paired_at hx htt
      have S0a := S02.trans Sa
      have e := take_snoc (hz i t y htt hy)
      refine ⟨rfl, _, rfl, _, rfl, t, _, 1, _, rfl, rfl, SqT.of (S0a _ _ h1), rfl, u, _, rfl, .inl (SqL.of (S0a _ _ h2)), rfl, flat_strs _, ?_⟩
      show ∃ k, V.bl (inV (.str sz) (y.2.map V.str)) = V.bl k ∧ _
      rw [inV_str]
      refine ⟨_, rfl, ?_⟩
      by_cases cc : (decide (sz ∈ y.2)) = true
      · refine ifT cc ⟨_, rfl, _, hD, ?_, ?_, ?_⟩
        · rw [List.length_map, sizeLine_eq]
          have := List.length_filter_le (fun q : Addr × Pr => decide (sz ∈ q.2.2)) ((ts.zip xs).take i)
          rw [List.length_take] at this
          omega
        · intro b o eb
          rw [upd_ne (ne_of_none eb nD)]
          exact Sa _ _ eb
        · rw [upd_same, e, List.filter_append, List.map_append, List.filter_cons_of_pos (p := fun q : Addr × Pr => decide (sz ∈ q.2.2)) cc]
          rfl
      · refine ifF (Bool.eq_false_iff.mpr cc) ⟨Sa, ?_⟩
        rw [e, List.filter_append, List.filter_cons_of_neg (p := fun q : Addr × Pr => decide (sz ∈ q.2.2)) cc, List.filter_nil, List.append_nil]
        exact hD
    rintro H3 ⟨S3, hD⟩
    rw [e0] at hD
    have S03 := S02.trans S3
    have eg := ef fun x => decide (sz ∈ x.2)
    have en := ef fun x => !decide (sz ∈ x.2)
    refine ⟨_, rfl, D, _, rfl, .inl (SqL.of hD), _, _, rfl, rfl, _, rfl, iteD (fun c => ?_) (fun c => ?_)⟩
    · refine k1 ?_ H3 S03
      rw [← eg, List.length_map]
      rw [List.length_map] at c
      omega
    have k2 := k2 (by
      rw [← eg, List.length_map]
      rw [List.length_map] at c
      omega)
    dsimp only [tNext]
    refine seq_asg fun d H4 S4 nd hd => ?_
    refine seq_asg ⟨by show 0 ≤ sizeLine; decide, fun sa0 H5 S5 n5 h5 => ?_⟩
    have S05 := S03.trans (S4.trans S5)
    have hD5 := S5 _ _ (S4 _ _ hD)
    have hd5 := S5 _ _ hd
    refine ⟨_, rfl, l, rfl, ⟨_, SqL.of (S05 _ _ hl)⟩, fun D2 nD2 => ?_⟩
    refine lc_it (walk_list (xs := ts.map V.ref)) (fun i H' => Same H5 H' ∧ H' D2 = some (.lst ((((ts.zip xs).take i).filter fun q => !decide (sz ∈ q.2.2)).map fun q => V.ref q.1))) ⟨Same.upd nD2, upd_same⟩ (fun i H' _ q => SqL.of (q.1 _ _ (S05 _ _ hl))) ?_ ?_
    · rintro i v Ha Hb hi ⟨Sa, hD⟩ ⟨rfl, hx2⟩
      rw [List.length_map] at hi
      rw [List.getElem?_map] at hx2
      obtain ⟨t, htt, rfl⟩ := Option.map_eq_some_iff.mp hx2
      obtain ⟨y, hy, u, h1, h2⟩ := paired_at hx htt
      have S0a := S05.trans Sa
      have e := take_snoc (hz i t y htt hy)
      refine ⟨rfl, _, rfl, _, rfl, t, _, 1, _, rfl, rfl, SqT.of (S0a _ _ h1), rfl, u, _, rfl, .inl (SqL.of (S0a _ _ h2)), rfl, flat_strs _, ?_⟩
      show ∃ k, V.bl (!inV (.str sz) (y.2.map V.str)) = V.bl k ∧ _
      rw [inV_str]
      refine ⟨_, rfl, ?_⟩
      by_cases cc : (!decide (sz ∈ y.2)) = true
      · refine ifT cc ⟨_, rfl, _, hD, ?_, ?_, ?_⟩
        · rw [List.length_map, sizeLine_eq]
          have := List.length_filter_le (fun q : Addr × Pr => !decide (sz ∈ q.2.2)) ((ts.zip xs).take i)
          rw [List.length_take] at this
          omega
        · intro b o eb
          rw [upd_ne (ne_of_none eb nD2)]
          exact Sa _ _ eb
        · rw [upd_same, e, List.filter_append, List.map_append, List.filter_cons_of_pos (p := fun q : Addr × Pr => !decide (sz ∈ q.2.2)) cc]
          rfl
      · refine ifF (Bool.eq_false_iff.mpr cc) ⟨Sa, ?_⟩
        rw [e, List.filter_append, List.filter_cons_of_neg (p := fun q : Addr × Pr => !decide (sz ∈ q.2.2)) cc, List.filter_nil, List.append_nil]
        exact hD
    rintro H6 ⟨S6, hD2⟩
    rw [e0] at hD2
    have S06 := S05.trans S6
    have lz : (ts.zip xs).length ≤ 8 := by rw [List.length_zip]; omega
    have lg := List.length_filter_le (fun q : Addr × Pr => decide (sz ∈ q.2.2)) (ts.zip xs)
    have ln := List.length_filter_le (fun q : Addr × Pr => !decide (sz ∈ q.2.2)) (ts.zip xs)
    have eo : ((ts.zip xs).filter (fun q => !decide (sz ∈ q.2.2)) ++ (ts.zip xs).filter fun q => decide (sz ∈ q.2.2)).map (·.2) = ordA xs sz := by
      rw [List.map_append, eg, en]
      rfl
    have hB : ∀ q ∈ (ts.zip xs).filter (fun q => !decide (sz ∈ q.2.2)) ++ (ts.zip xs).filter (fun q => decide (sz ∈ q.2.2)), PrAt H q.1 q.2 ∧ q.2 ∈ xs := fun q hq => by
      rcases List.mem_append.mp hq with h | h
      · exact hin q (List.mem_filter.mp h).1
      · exact hin q (List.mem_filter.mp h).1
    have ndB : ((ordA xs sz).map (·.1)).Nodup := by
      have pm : (ordA xs sz).Perm xs := by
        unfold ordA
        have := List.filter_append_perm (fun x : Pr => decide (sz ∈ x.2)) xs
        exact List.perm_append_comm.trans this
      exact (pm.map _).nodup_iff.mpr ok.nd
    have memB : ∀ x ∈ xs, x.1 ∈ (ordA xs sz).map (·.1) := fun x hx1 => by
      refine List.mem_map.mpr ⟨x, ?_, rfl⟩
      unfold ordA
      rw [List.mem_append, List.mem_filter, List.mem_filter]
      by_cases c : sz ∈ x.2
      · exact .inr ⟨hx1, decide_eq_true c⟩
      · exact .inl ⟨hx1, by rw [decide_eq_false c]; rfl⟩
    refine ⟨_, rfl, D2, D, _, _, rfl, rfl, hD2, S6 _ _ hD5, by rw [List.length_map, List.length_map, sizeLine_eq]; omega, fun p H7 S7 np hp => ?_⟩
    rw [← List.map_append] at hp
    have lB : ((ts.zip xs).filter (fun q => !decide (sz ∈ q.2.2)) ++ (ts.zip xs).filter fun q => decide (sz ∈ q.2.2)).length ≤ 16 := by rw [List.length_append]; omega
    generalize (ts.zip xs).filter (fun q => !decide (sz ∈ q.2.2)) ++ (ts.zip xs).filter (fun q => decide (sz ∈ q.2.2)) = BB at hp eo hB lB
    have S57 := S6.trans S7
    have S07 := S05.trans S57
    have hd7 := S57 _ _ hd5
    have hsa7 := S57 _ _ h5
    have pd : p ≠ d := ne_of hp hd7 (by intro z; cases z)
    have acl : ∀ i, (accOf ((BB.map (·.2)).take i)).length ≤ 3 * BB.length := by
      have : ∀ ys : List Pr, (∀ y ∈ ys, y.2.length ≤ 3) → (accOf ys).length ≤ 3 * ys.length := by
        intro ys
        induction ys with
        | nil => intro _; exact Nat.le_refl _
        | cons y ys ih =>
          intro h
          have := ih fun z hz => h z (List.mem_cons_of_mem _ hz)
          have h1 := h y List.mem_cons_self
          show (y.2 ++ accOf ys).length ≤ _
          rw [List.length_append, List.length_cons]
          omega
      intro i
      refine Nat.le_trans (this _ fun y hy => ?_) ?_
      · obtain ⟨q, hq, rfl⟩ := List.mem_map.mp (List.mem_of_mem_take hy)
        exact l3 _ (hB q hq).2
      · have := List.length_take_le' i (BB.map (·.2))
        rw [List.length_map] at this
        omega
    refine ⟨p, rfl, ⟨_, SqL.of hp⟩, for_it (walk_list (xs := BB.map fun q => V.ref q.1)) (fun i σ' H' => ∃ sa dl u6 u7, σ' = [some (.ref l), some (.str sz), none, some (.ref D), some (.ref d), some (.ref sa), u6, u7] ∧ (∀ c o, c ≠ d → H7 c = some o → H' c = some o) ∧ H' d = some (.dK (dA dl)) ∧ H' sa = some (.lst ((accOf ((BB.map (·.2)).take i)).map V.str)) ∧ DlAt H' dl (stepsOf ((BB.map (·.2)).take i)))
      ⟨sa0, [], none, none, rfl, fun _ _ _ e => e, hd7, hsa7, .nil⟩ (fun i σ' H' _ q => let ⟨_, _, _, _, _, S, _⟩ := q; SqL.of (S _ _ pd hp)) ?_ ?_⟩
    · rintro i v σ' H8 H9 hi ⟨sa, dl, u6, u7, rfl, S8, hd8, hsa8, hdl⟩ ⟨rfl, hxi⟩
      rw [List.length_map] at hi
      rw [List.getElem?_map] at hxi
      obtain ⟨q, hq, rfl⟩ := Option.map_eq_some_iff.mp hxi
      obtain ⟨⟨u, w1, w2⟩, qx⟩ := hB q (List.mem_of_getElem? hq)
      have hq2 : (BB.map (·.2))[i]? = some q.2 := by rw [List.getElem?_map, hq]; rfl
      have up : ∀ {c : Addr} {o : HO}, H c = some o → H9 c = some o := fun {c o} e => S8 c o (ne_of_none (S03 _ _ e) nd) (S07 _ _ e)
      have q3 := l3 _ qx
      refine ⟨q.1, _, rfl, SqT.of (up w1), rfl, _, _, rfl, _, _, rfl, rfl, ?_⟩
      have nin : q.2.1 ∉ dl.map (·.1) := by
        rw [hdl.keys, steps_keys]
        intro c
        obtain ⟨y, hy, e⟩ := List.mem_map.mp c
        obtain ⟨j, hj⟩ := List.mem_iff_getElem?.mp hy
        have hji : j < i := by
          have := (List.getElem?_eq_some_iff.mp hj).1
          rw [List.length_take] at this
          omega
        rw [List.getElem?_take_of_lt hji] at hj
        have g1 : ((BB.map (·.2)).map (·.1))[j]? = some q.2.1 := by rw [List.getElem?_map, hj, ← e]; rfl
        have g2 : ((BB.map (·.2)).map (·.1))[i]? = some q.2.1 := by rw [List.getElem?_map, hq2]; rfl
        have := (List.getElem?_inj (i := j) (j := i) (List.getElem?_eq_some_iff.mp g1).1 (by rw [eo]; exact ndB)).mp (g1.trans g2.symm)
        omega
      have ldl : dl.length = i := by
        have := congrArg List.length hdl.keys
        rw [List.length_map, steps_keys, List.length_map, List.length_take, List.length_map] at this
        omega
      refine ⟨_, rfl, _, rfl, _, rfl, d, _, rfl, DPut.k (k := Sum.inr q.2.1) hd8 (by unfold dA; rw [List.length_map, ldl, sizeLine_eq]; omega), ?_⟩
      rw [putK_dA nin]
      have offd : ∀ {c : Addr} {l : List V}, H9 c = some (.lst l) → c ≠ d := fun e => ne_of e hd8 (by intro z; cases z)
      have h1 : (upd H9 d (.dK (dA (dl ++ [(q.2.1, sa)])))) sa = some (.lst ((accOf ((BB.map (·.2)).take i)).map V.str)) := by rw [upd_ne (offd hsa8)]; exact hsa8
      have h2 : (upd H9 d (.dK (dA (dl ++ [(q.2.1, sa)])))) u = some (.lst (q.2.2.map V.str)) := by rw [upd_ne (offd (up w2))]; exact up w2
      have h3 : DlAt (upd H9 d (.dK (dA (dl ++ [(q.2.1, sa)])))) (dl ++ [(q.2.1, sa)]) (stepsOf ((BB.map (·.2)).take (i + 1))) := by
        rw [take_snoc hq2, stepsOf_snoc]
        exact paired_snoc (hdl.imp fun c l e => by rw [upd_ne (offd e)]; exact e) ⟨rfl, h1⟩
      have h4 : (upd H9 d (.dK (dA (dl ++ [(q.2.1, sa)])))) d = some (.dK (dA (dl ++ [(q.2.1, sa)]))) := upd_same
      have h5 : ∀ c o, c ≠ d → H7 c = some o → (upd H9 d (.dK (dA (dl ++ [(q.2.1, sa)])))) c = some o := fun c o n e => by rw [upd_ne n]; exact S8 c o n e
      generalize upd H9 d (.dK (dA (dl ++ [(q.2.1, sa)]))) = H10 at h1 h2 h3 h4 h5 ⊢
      have la := acl i
      refine ⟨_, rfl, _, rfl, sa, u, _, _, rfl, rfl, h1, h2, by rw [List.length_map, List.length_map, sizeLine_eq]; omega, fun c H11 S11 nc hc => ?_⟩
      rw [← List.map_append] at hc
      refine ⟨c, dl ++ [(q.2.1, sa)], _, _, rfl, fun c o n e => S11 _ _ (h5 c o n e), S11 _ _ h4, by rw [take_snoc hq2, accOf_snoc]; exact hc, h3.imp fun c l e => S11 _ _ e⟩
    · rintro σ' H8 ⟨sa, dl, u6, u7, rfl, S8, hd8, hsa8, hdl⟩
      have eall : (BB.map (·.2)).take (BB.map fun q => V.ref q.1).length = ordA xs sz := by rw [List.length_map, List.take_of_length_le (by rw [List.length_map]; exact Nat.le_refl _), eo]
      rw [eall] at hdl
      have up : ∀ {c : Addr} {o : HO}, H c = some o → H8 c = some o := fun {c o} e => S8 c o (ne_of_none (S03 _ _ e) nd) (S07 _ _ e)
      have S08 : Same H H8 := fun c o e => up e
      refine ⟨_, rfl, l, rfl, ⟨_, SqL.of (up hl)⟩, fun E nE => ?_⟩
      refine lc_it (walk_list (xs := ts.map V.ref)) (fun i H' => Same H8 H' ∧ ∃ us, H' E = some (.lst (us.map V.ref)) ∧ (∀ u ∈ us, u ≠ E) ∧ SdsAt H' us ((arrL xs sz).take i)) ⟨Same.upd nE, [], upd_same, fun _ h => absurd h List.not_mem_nil, .nil⟩ (fun i H' _ q => SqL.of (q.1 _ _ (up hl))) ?_ ?_
      · rintro j v Ha Hb hj ⟨Sa, us, hE, hne, hys⟩ ⟨rfl, hxj⟩
        rw [List.length_map] at hj
        rw [List.getElem?_map] at hxj
        obtain ⟨t, htt, rfl⟩ := Option.map_eq_some_iff.mp hxj
        obtain ⟨y, hy, u, w1, w2⟩ := paired_at hx htt
        have ym := List.mem_of_getElem? hy
        obtain ⟨a, va, ha⟩ := hdl.get y.1 (by rw [steps_keys]; exact memB y ym)
        have hyA : (arrL xs sz)[j]? = some (y.1, y.2, stepIn (ordA xs sz) y.1) := by unfold arrL; rw [List.getElem?_map, hy]; rfl
        refine ⟨t, _, rfl, SqT.of (Sa _ _ (up w1)), rfl, _, _, rfl, _, _, rfl, rfl, ?_⟩
        refine ⟨rfl, iteT (B := False) ?_⟩
        refine ⟨_, rfl, _, rfl, _, rfl, _, rfl, d, _, rfl, by rw [← va]; exact DGet.k (k := Sum.inr y.1) (Sa _ _ hd8), by show 3 ≤ sizeLine; decide, fun t' Hc Sc n14 h14 => ?_⟩
        have tE : t' ≠ E := (ne_of_none hE n14).symm
        have uE : u ≠ E := ne_of_none (up w2) nE
        have aE : a ≠ E := ne_of_none ha nE
        have lus : us.length = j := by
          have h1 := hys.length
          rw [List.length_take] at h1
          have : (arrL xs sz).length = xs.length := by unfold arrL; rw [List.length_map]
          omega
        refine ⟨_, Sc _ _ hE, by rw [List.length_map, lus, sizeLine_eq]; omega, fun c o e => by rw [upd_ne (ne_of_none e nE)]; exact Sc _ _ (Sa _ _ e), us ++ [t'], by rw [upd_same, List.map_append]; rfl, ?_, ?_⟩
        · intro u' hu
          rcases List.mem_append.mp hu with h | h
          · exact hne u' h
          · rw [List.mem_singleton.mp h]; exact tE
        · rw [take_snoc hyA]
          refine paired_snoc (SdsAt.off (v := .lst []) (hys.same Sc) (Sc _ _ hE) hne fun c o n e => by rw [upd_ne n]; exact e) ⟨u, a, ?_, ?_, ?_⟩
          · rw [upd_ne tE]; exact h14
          · rw [upd_ne uE]; exact Sc _ _ (Sa _ _ (up w2))
          · rw [upd_ne aE]; exact Sc _ _ (Sa _ _ ha)
      · rintro Ha ⟨Sa, us, hE, hne, hys⟩
        have ll : (arrL xs sz).take (ts.map V.ref).length = arrL xs sz := List.take_of_length_le (by unfold arrL; rw [List.length_map, List.length_map]; omega)
        rw [ll] at hys
        refine fun z dx nz ndx ne => mk_plainR hE hys oka nz ndx ne fun Hb Sb hz => ⟨rfl, ?_⟩
        have SH := S08.trans Sa
        exact k2 Hb z (SH.trans Sb) (SH.free nz) hz
end
end E4

set_option Elab.async false
set_option linter.all false
set_option maxRecDepth 100000
set_option maxHeartbeats 1000000
/-! what k65's law compares -/
namespace E4
open PySem PySem.Spec PyProof.Rows L2
open C8 (Cal Mak Met InsC pe_c pe_mt pe_mt0 call_isC clsBody)
theorem norm_rows {xs : List Sd} (ro : ∀ x ∈ xs, RowOk x) : ∀ x ∈ xs.map norm, RowOk x := fun r hr => by
  obtain ⟨u, hu, rfl⟩ := List.mem_map.mp hr
  obtain ⟨a1, a2, a3, a4⟩ := ro u hu
  exact ⟨fun z hz => a1 z ((sortT_perm _).mem_iff.mp hz), fun z hz => a2 z ((sortT_perm _).mem_iff.mp hz), by show (sortT u.2.1).length ≤ 3; rw [length_sortT]; exact a3, by show (sortT u.2.2).length ≤ 8; rw [length_sortT]; exact a4⟩
theorem acc_len : ∀ {ys : List Pr}, (∀ y ∈ ys, y.2.length ≤ 3) → (accOf ys).length ≤ 3 * ys.length
  | [], _ => Nat.le_refl _
  | y :: ys, h => by
    have := acc_len (ys := ys) fun z hz => h z (List.mem_cons_of_mem _ hz)
    have h1 := h y List.mem_cons_self
    show (y.2 ++ accOf ys).length ≤ _
    rw [List.length_append, List.length_cons]
    omega
theorem stepIn_of (ys : List Pr) (n : Str) : stepIn ys n = [] ∨ ∃ i, stepIn ys n = accOf (ys.take i) := by
  unfold stepIn
  cases h : (stepsOf ys).find? fun z => decide (z.1 = n) with
  | none => exact .inl rfl
  | some z =>
    have hz := List.mem_of_find?_eq_some h
    unfold stepsOf at hz
    obtain ⟨i, _, rfl⟩ := List.mem_map.mp hz
    exact .inr ⟨i, rfl⟩
theorem ordA_sub {xs : List Pr} {sz : Str} : ∀ x ∈ ordA xs sz, x ∈ xs := fun x hx => by
  unfold ordA at hx
  exact (List.mem_append.mp hx).elim (fun h => (List.mem_filter.mp h).1) fun h => (List.mem_filter.mp h).1
theorem ordA_len {xs : List Pr} {sz : Str} : (ordA xs sz).length ≤ 2 * xs.length := by
  unfold ordA
  rw [List.length_append]
  have h1 := List.length_filter_le (fun x : Pr => !decide (sz ∈ x.2)) xs
  have h2 := List.length_filter_le (fun x : Pr => decide (sz ∈ x.2)) xs
  omega
/-- the sides that arranged makes are sides -/
theorem arr_ok {xs : List Pr} (ok : PrsOk xs) (h3 : ∀ x ∈ xs, x.2.length ≤ 3) (l8 : xs.length ≤ 8) (sz : Str) : SdsOk (arrL xs sz) := by
  have mem : ∀ r ∈ arrL xs sz, ∃ x ∈ xs, (x.1, x.2, stepIn (ordA xs sz) x.1) = r := fun r hr => List.mem_map.mp hr
  have nm : (arrL xs sz).map (·.1) = xs.map (·.1) := by unfold arrL; rw [List.map_map]; rfl
  have st : ∀ n z, z ∈ stepIn (ordA xs sz) n → ∃ y ∈ xs, z ∈ y.2 := fun n z hz => by
    rcases stepIn_of (ordA xs sz) n with e | ⟨i, e⟩
    · rw [e] at hz; exact absurd hz List.not_mem_nil
    · rw [e] at hz
      obtain ⟨y, hy, h⟩ := List.mem_flatMap.mp hz
      exact ⟨y, ordA_sub y (List.mem_of_mem_take hy), h⟩
  have sl : ∀ n, (stepIn (ordA xs sz) n).length ≤ 60 := fun n => by
    rcases stepIn_of (ordA xs sz) n with e | ⟨i, e⟩
    · rw [e]; exact Nat.zero_le _
    · rw [e]
      have h1 := acc_len (ys := (ordA xs sz).take i) fun y hy => h3 y (ordA_sub y (List.mem_of_mem_take hy))
      have h2 := List.length_take_le' i (ordA xs sz)
      have h4 := ordA_len (xs := xs) (sz := sz)
      omega
  refine ⟨fun e => ok.ne ?_, fun r hr => ?_, by rw [nm]; exact ok.nd, fun r hr q hq z hz => ?_, by unfold arrL; rw [List.length_map]; omega⟩
  · unfold arrL at e
    exact List.map_eq_nil_iff.mp e
  · obtain ⟨x, hx, rfl⟩ := mem r hr
    obtain ⟨o1, o2, o3⟩ := ok.ok x hx
    exact ⟨o1, o2, fun z hz => let ⟨y, hy, h⟩ := st _ z hz; (ok.ok y hy).2.1 z h, o3, sl _⟩
  · obtain ⟨x, hx, rfl⟩ := mem r hr
    obtain ⟨y, hy, rfl⟩ := mem q hq
    rcases hz with h | h
    · exact ok.free x hx y hy z h
    · obtain ⟨u, hu, hzu⟩ := st _ z h
      exact ok.free u hu y hy z hzu
theorem bare_ok {xs : List Sd} (ok : SdsOk xs) : PrsOk (xs.map fun x => ((x.1, x.2.1) : Pr)) := by
  have e : (xs.map fun x => ((x.1, x.2.1) : Pr)).map (·.1) = xs.map (·.1) := by rw [List.map_map]; rfl
  refine ⟨fun h => ok.ne (List.map_eq_nil_iff.mp h), fun r hr => ?_, by rw [e]; exact ok.nd, fun r hr q hq z hz => ?_, by rw [List.length_map]; exact ok.len⟩
  · obtain ⟨x, hx, rfl⟩ := List.mem_map.mp hr
    obtain ⟨o1, o2, o3, o4, o5⟩ := ok.ok x hx
    exact ⟨o1, o2, o4⟩
  · obtain ⟨x, hx, rfl⟩ := List.mem_map.mp hr
    obtain ⟨y, hy, rfl⟩ := List.mem_map.mp hq
    exact ok.free x hx y hy z (.inl hz)
theorem ne_run {K : PySem.W.Frag} {H : Hp} {p q d e : Addr} {vl : Vls} {n : Int} {Q : VK} (nd : (vl.map (·.1)).Nodup) (a1 : H p = some (.tup [.ref d, .int n])) (a2 : H d = some (.dK (dI vl))) (b1 : H q = some (.tup [.ref e, .int n])) (b2 : H e = some (.dK (dI vl))) (k : Q (.bl false) H) : rNeA K (.ref p) (.ref q) H Q :=
  .inr (.inl ⟨p, q, _, _, rfl, rfl, SqT.of a1, SqT.of b1, .cons (sam_dI nd a2 b2) (.cons (.dat (.int _) (.int _) rfl (by simp [PyData.depth])) .nil), k⟩)
theorem eqFm_refl (a : Fm) : eqFm a a = true := by
  unfold eqFm
  simp
theorem PrsAt.off {H H' : Hp} {D : Addr} {ts : List Addr} {xs : List Pr} {us : List Addr} (h : PrsAt H ts xs) (hD : H D = some (.lst (us.map V.ref))) (hd : ∀ u ∈ us, u ∈ ts) (hne : us = [] → ts = []) (hn : ∀ t ∈ ts, t ≠ D) (S : ∀ c o, c ≠ D → H c = some o → H' c = some o) : PrsAt H' ts xs := by
  by_cases e : ts = []
  · subst e
    have h' : Paired (PrAt H) [] xs := h
    cases h'
    exact .nil
  refine h.imp fun t ht x r => ?_
  obtain ⟨a, h1, h2⟩ := r
  refine ⟨a, S _ _ (hn t ht) h1, S _ _ (fun q => ?_) h2⟩
  subst q
  rw [hD] at h2
  have := str_ref (HO.lst.inj (Option.some.inj h2)).symm
  exact e (hne this)
/-- keywords in the other order -/
def kvRev : List V → List V → List V := fun vs zs => match vs with
  | [] => zs.reverse
  | _ => []
def rNeNP (C : Addr) : R2 := fun x y H Q => (x = .non ∧ y = .non ∧ Q (.bl false) H) ∨ rNeP C x y H Q
theorem op_neNP {X : Cx} {C : Addr} {k j : Nat} (O : EqP X.prog X.w X.K X.mg X.base k C) (hr : Room j X.A) (hk : k + 1 ≤ j) : OpR X (compareOp .NotEq) (rNeNP C) := by
  intro pins s σ H x y v u Q I rx ry h
  rcases h with ⟨rfl, rfl, q⟩ | h
  · exact op_ne pins s σ H .non .non v u Q I rx ry ⟨rfl, by simpa using q⟩
  · exact op_neP O hr hk pins s σ H x y v u Q I rx ry h
/-- a side as jumps tells it -/
abbrev DJp (P : Program) (w : World) (K : PySem.W.Frag) (C : Addr) : Eqv := DTup K (fun x y H => DFlat x y H ∨ DFm P w K C x y H)
theorem mon_jp {P : Program} {w : World} {K : PySem.W.Frag} {C : Addr} : Mon (DJp P w K C) := mon_tup (mon_flat.or mon_fm)
theorem eqG_jp {X : Cx} {C : Addr} (O : EqM X.prog X.w X.K X.mg X.base 1 C) : EqG X 2 (DJp X.prog X.w X.K C) := eqG_tup (mon_flat.or mon_fm) (EqG.or (eqG_flat.mono (by decide)) (eqG_fm O))
theorem ne_jumps {P : Program} {w : World} {K : PySem.W.Frag} {CF : Addr} {H : Hp} {p q : Addr} {ts us : List Addr} {xs : List Sd} {js ks : List Jp} {Q : VK} (hp : H p = some (.lst (ts.map V.ref))) (hq : H q = some (.lst (us.map V.ref)))
    (h1 : Paired (JpAt P w K CF H) ts js) (h2 : Paired (JpAt P w K CF H) us ks) (o1 : JsOk xs js) (o2 : JsOk xs ks) (k : ∀ H', Same H H' → Q (.bl false) H') : rNeG (DJp P w K CF) (.ref p) (.ref q) H Q := by
  have l1 := h1.length
  have l2 := h2.length
  refine ⟨⟨p, q, _, _, rfl, rfl, hp, hq, by rw [List.length_map, List.length_map, l1, l2, o1.1, o2.1], fun i x y hx hy => ?_⟩, k⟩
  rw [List.getElem?_map] at hx hy
  obtain ⟨t, ht, rfl⟩ := Option.map_eq_some_iff.mp hx
  obtain ⟨u, hu, rfl⟩ := Option.map_eq_some_iff.mp hy
  obtain ⟨j, hj, a, b, r1, r2, r3⟩ := paired_at h1 ht
  obtain ⟨m, hm, c, d, q1, q2, q3⟩ := paired_at h2 hu
  obtain ⟨s, hs⟩ : ∃ s, xs[i]? = some s := by
    have := (List.getElem?_eq_some_iff.mp hj).1
    exact ⟨_, List.getElem?_eq_getElem (by rw [← o1.1]; exact this)⟩
  have J := o1.2 i s j hs hj
  have M := o2.2 i s m hs hm
  refine ⟨t, u, _, _, rfl, rfl, SqT.of r1, SqT.of q1, .cons (.inl ?_) (.cons (.inr ⟨a, c, _, _, rfl, rfl, r2, q2, eqFm_of_pol J.cw M.cw (by rw [J.pw, M.pw])⟩) (.cons (.inr ⟨b, d, _, _, rfl, rfl, r3, q3, eqFm_of_pol J.co M.co (by rw [J.po, M.po])⟩) .nil))⟩
  rw [J.nm, M.nm]
  exact ⟨rfl, rfl, by simp [eqV]⟩
end E4

set_option Elab.async false
set_option linter.all false
set_option maxRecDepth 100000
set_option maxHeartbeats 1000000
/-! ordered (the row of k63 had it not) -/
namespace E4
open PySem PySem.Spec PyProof.Rows L2
open C8 (Cal Mak Met InsC pe_c pe_mt pe_mt0 call_isC clsBody)
open LamX (Tabs ExtN TabB CodeO)
section
variable {P : Program} {w : World} {K : PySem.W.Frag} {mg : Str → Option Value} {base : Heap} {C : Addr}
theorem scOrdered : FnScope ["table", "side"] ["table"] (defScope sOrdered) := ⟨rfl, rfl, rfl, by decide +kernel, rfl, by decide +kernel, by decide +kernel⟩
theorem ok_ordered {T : List (Addr × Str)} {f c Pt : Addr} {fd : FuncData} (F : Fun K "ordered" "ordered" sOrdered f fd) (hc : fd.code = .ref c) (B : Bl mg) (TB : TabB base mg c Pt) (hm : (Pt, ("ordered.<locals>.<lambda>" : Str)) ∈ T) (hu : ∀ p ∈ T, p.1 = Pt → p.2 = "ordered.<locals>.<lambda>")
    (Sd_ : Met P w K mg base 1 C "sides" (spSides C) []) : FnOk P w K mg base CX0 2 f fd ["table"] (spOrdered T C) := by
  refine F.okC hc scOrdered (fun vs H Q E h => ?_) (fun A outer s H vs Q E hr h => ?_)
  · obtain ⟨a, ss, rfl, _⟩ := h
    rfl
  · obtain ⟨a, ss, rfl, hp, ok, tb, k⟩ := h
    refine ⟨_, pss_one (ps_ret (pe_sortedP (ad := fun x : Addr × Sd => x.1) (ln := fun x => x.2.2.2.length) (T := T) (c := c) (P := Pt) (hr.mono (by decide)) (by rfl) B.srt_ B.len_ TB rfl hm hu
      (pe_lc (own := [("side", 1)]) (g := gName 1) (tt := tTest (tOp (rI0 fun i j => .bl (decide (j < i))) (tCB (fun xs H Q => ∃ p ys, xs = [.ref p] ∧ (SqL K H p ys ∨ SqT K H p ys) ∧ Q (.int (ys.length : Nat)) H) (tCons (tOp (rIxT K) (tVar 1) (tC (.int 1))) tNil)) (tC (.int 0)))) (te := tVar 1) rfl scOrdered.nd (pi_list (pe_mt0 Sd_ hr (by decide) (pv 0)))
        (blkOk_by (own := [("side", 1)]) (N := ["table", "side"]) (sc := defScope sOrdered) (by decide +kernel))
        (fun _ _ _ _ _ => pg_name (i := 1) scOrdered.nd rfl (Or.inl rfl))
        (fun _ _ _ _ _ => by exact pts_one (pt_cmpR op_gt (pe_callB call_len_seq (by rfl) B.len_ PySem.boot_len (pa_cons (pe_ix ix_tup (pv 1) pe_int (fun _ _ => rfl)) pa_nil)) pe_int (by rfl))) (fun _ _ _ _ _ => pv 1)))), ?_⟩
    have zl := ok.len
    obtain ⟨dx, l0, ts0, ha, hl0, hx0⟩ := id hp
    refine ret_of ?_
    refine ⟨_, rfl, a, dx, _, rfl, ha, rfl, a, ss, rfl, hp, ok, fun H1 p ts S1 np hpp hx => ?_⟩
    have lt := hx.length
    refine ⟨p, rfl, ⟨_, SqL.of hpp⟩, fun D nD => ?_⟩
    have hz : ∀ (i : Nat) (t : Addr) (y : Sd), ts[i]? = some t → ss[i]? = some y → (ts.zip ss)[i]? = some (t, y) := fun i t y h1 h2 => by rw [List.getElem?_zip_eq_some]; exact ⟨h1, h2⟩
    refine lc_it (walk_list (xs := ts.map V.ref)) (fun i H' => Same H1 H' ∧ H' D = some (.lst ((((ts.zip ss).take i).filter fun x => decide (0 < x.2.2.1.length)).map fun x => V.ref x.1))) ⟨Same.upd nD, upd_same⟩ (fun i H' _ q => SqL.of (q.1 _ _ hpp)) ?_ ?_
    · rintro i v H2 H3 hi ⟨S2, hD⟩ ⟨rfl, hx2⟩
      rw [List.length_map] at hi
      rw [List.getElem?_map] at hx2
      obtain ⟨t, htt, rfl⟩ := Option.map_eq_some_iff.mp hx2
      obtain ⟨y, hy, u, v, h1, h2, h3⟩ := paired_at hx htt
      refine ⟨rfl, _, rfl, t, _, 1, _, rfl, rfl, SqT.of (S2 _ _ h1), rfl, u, _, rfl, .inl (SqL.of (S2 _ _ h2)), ?_⟩
      rw [List.length_map]
      refine ⟨_, _, rfl, rfl, _, rfl, ?_⟩
      have e := take_snoc (hz i t y htt hy)
      refine iteD (fun h0 => ?_) (fun h0 => ?_)
      · refine ⟨_, rfl, _, hD, ?_, ?_, ?_⟩
        · rw [List.length_map, sizeLine_eq]
          have := List.length_filter_le (fun x : Addr × Sd => decide (0 < x.2.2.1.length)) ((ts.zip ss).take i)
          rw [List.length_take] at this
          omega
        · intro c o ec
          rw [upd_ne (ne_of_none ec nD)]
          exact S2 _ _ ec
        · rw [upd_same, e, List.filter_append, List.map_append]
          rw [List.filter_cons_of_pos (p := fun x : Addr × Sd => decide (0 < x.2.2.1.length)) (decide_eq_true (by show 0 < y.2.1.length; omega))]
          rfl
      · refine ⟨S2, ?_⟩
        rw [e, List.filter_append]
        rw [List.filter_cons_of_neg (p := fun x : Addr × Sd => decide (0 < x.2.2.1.length)) (by
          rw [decide_eq_true_iff]
          show ¬ 0 < y.2.1.length
          omega), List.filter_nil, List.append_nil]
        exact hD
    · rintro H2 ⟨S2, hD⟩
      rw [List.length_map] at hD
      have e0 : (ts.zip ss).take ts.length = ts.zip ss := List.take_of_length_le (by rw [List.length_zip]; omega)
      rw [e0] at hD
      have e1 : (ts.zip ss).map (·.2) = ss := List.map_snd_zip (by omega)
      have hin : ∀ x ∈ ts.zip ss, SdAt H2 x.1 x.2 := fun x hx1 => by
        obtain ⟨i, hi⟩ := List.mem_iff_getElem?.mp hx1
        rw [List.getElem?_zip_eq_some] at hi
        obtain ⟨y, hy, r⟩ := paired_at hx hi.1
        rw [hi.2] at hy
        cases hy
        exact r.same S2
      generalize hams : (ts.zip ss).filter (fun x => decide (0 < x.2.2.1.length)) = ams at hD
      have lam : ams.length ≤ 60 := by
        have := List.length_filter_le (fun x : Addr × Sd => decide (0 < x.2.2.1.length)) (ts.zip ss)
        rw [hams, List.length_zip] at this
        omega
      have hin2 : ∀ x ∈ ams, SdAt H2 x.1 x.2 := fun x hx1 => hin x (by rw [← hams] at hx1; exact (List.mem_filter.mp hx1).1)
      have em : ams.map (·.2) = ss.filter fun x => decide (0 < x.2.1.length) := by
        rw [← hams]
        have := List.filter_map (f := fun x : Addr × Sd => x.2) (p := fun x : Sd => decide (0 < x.2.1.length)) (l := ts.zip ss)
        rw [e1] at this
        rw [this]
        rfl
      have ex2 : ExtN H H2 := ExtN.of fun b o e => S2 _ _ (S1 _ _ e)
      refine ⟨D, ams, rfl, SqL.of hD, fun x hx1 => ?_, by rw [sizeLine_eq]; omega, tb.ext fun b o e => S2 _ _ (S1 _ _ e), fun H3 q ex tb3 nq hq => ?_⟩
      · obtain ⟨u, v, r1, r2, r3⟩ := hin2 x hx1
        exact ⟨_, _, v, _, SqT.of r1, SqL.of r3, by rw [List.length_map]⟩
      · refine k H3 q ((sortB (fun x : Addr × Sd => x.2.2.2.length) ams).map (·.1)) (ex2.trans ex) tb3 (fun o e => ?_) (by rw [hq, List.map_map]; rfl) ?_
        · exact nq o (S2 _ _ (S1 _ _ e))
        · have e3 : ordL ss = (sortB (fun x : Addr × Sd => x.2.2.2.length) ams).map (·.2) := by
            unfold ordL
            rw [← em]
            exact (sortB_map (f := fun x : Addr × Sd => x.2) (ln := fun x : Sd => x.2.2.length) ams).symm
          rw [e3]
          have all : ∀ x ∈ sortB (fun x : Addr × Sd => x.2.2.2.length) ams, SdAt H3 x.1 x.2 := fun x hx1 => (hin2 x (List.mem_mergeSort.mp hx1)).ext ex
          generalize sortB (fun x : Addr × Sd => x.2.2.2.length) ams = l at all
          clear hq e3
          induction l with
          | nil => exact .nil
          | cons y l ih => exact .cons (all y List.mem_cons_self) (ih fun z hz => all z (List.mem_cons_of_mem _ hz))
end
end E4

set_option Elab.async false
set_option linter.all false
set_option maxRecDepth 100000
set_option maxHeartbeats 4000000
set_option exponentiation.threshold 5000
/-! law_k65's law -/
namespace E4
open PySem PySem.Spec PyProof.Rows L2
open C8 (Cal Mak Met InsC pe_c pe_mt pe_mt0 call_isC clsBody)
open E3 (PurseAt spPurse spMixed spDraw)
open LamX (Tabs ExtN TabB CodeO)
section
variable {P : Program} {w : World} {K : PySem.W.Frag} {mg : Str → Option Value} {base : Heap} {C CF : Addr}
abbrev NL : List Str := ["_law_script", "_law_cell", "_law_purse_here", "_law_rows", "_law_first", "_law_words", "_law_letters_used", "_law_back", "_law_bare", "_law_row"]
theorem scLaw : FnScope NL ["_law_script"] (defScope sLaw) := ⟨rfl, rfl, rfl, by decide +kernel, rfl, by decide +kernel, by decide +kernel⟩
theorem ok_law {T : List (Addr × Str)} {f : Addr} {fd : FuncData} (F : Fun K "law" "law" sLaw f fd) (B4 : E3.Bt4 mg) (B : Bl mg) (Pu : Cal P w K mg base 1 "_law_purse" (spPurse K) []) (D : Cal P w K mg base 2 "_law_draw" spDraw []) (Ch : Cal P w K mg base 5 "_law_chain" spChain [])
    (M1 : Mak P w K mg base 5 "Plain" C (spInit C) []) (O : EqP P w K mg base 1 C) (EqF : EqM P w K mg base 1 CF) (Sz : Met P w K mg base 1 C "sizes" (spSizes C) [])
    (Ju : Cal P w K mg base 7 "jumps" (spJumps P w K C CF) []) (JuK : CalK P w K mg base 7 "jumps" (spJumps P w K C CF) ["walk", "table"] kvRev) (Sm : Cal P w K mg base 6 "smooth" (spSmooth T C) []) (SmK : CalK P w K mg base 6 "smooth" (spSmooth T C) ["table"] kvRev)
    (Kp : Cal P w K mg base 4 "kept" (spKept P w K C CF) []) (KpK : CalK P w K mg base 4 "kept" (spKept P w K C CF) ["size", "table"] kvRev) (Jo : Cal P w K mg base 3 "joined" (spJoined K C) []) (JoK : CalK P w K mg base 3 "joined" (spJoined K C) ["walk", "table"] kvRev)
    (Sa : Cal P w K mg base 4 "same_run" (spSame C) []) (SaK : CalK P w K mg base 4 "same_run" (spSame C) ["route", "other", "walk", "table"] kvRev) (Ar : Cal P w K mg base 7 "arranged" (spArr C) []) (ArK : CalK P w K mg base 7 "arranged" (spArr C) ["size", "sides"] kvRev) :
    FnOk P w K mg base CX0 8 f fd ["_law_script"] (spLaw T K) := by
  refine F.ok scLaw (fun vs H Q E h => ?_) (fun cdv A outer s H vs Q E hr h => ?_)
  · obtain ⟨sc, ns, rfl, _⟩ := h
    rfl
  · obtain ⟨sc, ns, rfl, hs, hl, tb, q⟩ := h
    refine ⟨_, (pss_cons (ps_for PassesOwn.never rfl (pi_range1 rfl B4.rng_ (pa_cons (pe_callB (call_max2 rfl) (by rfl) B4.max_ (by decide +kernel) (pa_cons pe_int (pa_cons (pe_callB call_len_seq (by rfl) B.len_ PySem.boot_len (pa_cons (pe_slice sl_listS (pv 0) po_none (po_some pe_int)) pa_nil)) pa_nil))) pa_nil)) (pg_name (i := 1) scLaw.nd rfl (Or.inl rfl))
      (pss_cons (ps_set (i := 2) scLaw.nd rfl (Or.inl rfl) (pe_c Pu hr (by decide) rfl (pa_cons (pv 0) (pa_cons (pv 1) pa_nil))))
      (pss_cons (ps_set (i := 3) scLaw.nd rfl (Or.inl rfl) (pe_c Ch hr (by decide) rfl (pa_cons (pv 2) (pa_cons (pe_op op_add pe_int (pe_c D hr (by decide) rfl (pa_cons (pv 2) (pa_cons pe_int pa_nil)))) (pa_cons pe_int pa_nil)))))
      (pss_cons (ps_par (i := 4) (j := 5) (by rfl) scLaw.nd rfl rfl (by decide) rfl rfl (pa_cons (pe_mk1 M1 hr (by decide) rfl (pa_cons (pv 3) pa_nil)) (pa_cons (pe_lc (own := [("_law_row", 9)]) (g := gName 9) (tt := tYes) (te := tOp (rIxT K) (tVar 9) (tC (.int 0))) rfl scLaw.nd (pi_list (pv 3))
            (blkOk_by (own := [("_law_row", 9)]) (N := NL) (sc := defScope sLaw) (by decide +kernel))
            (fun _ _ _ _ _ => pg_name (i := 9) scLaw.nd rfl (Or.inl rfl)) (fun _ _ _ _ _ => pts_nil) (fun _ _ _ _ _ => by exact pe_ix ix_tup (pv 9) pe_int (fun _ _ => rfl))) pa_nil)) (by rfl))
      (pss_cons (ps_if (PW.pt (pw_or (pt_cmpR (op_neG mon_jp (eqG_jp EqF) (hr.mono (by decide))) (pe_cK JuK hr (by decide) rfl (pk_cons (pv 5) (pk_cons (pv 4) pk_nil))) (pe_c Ju hr (by decide) rfl (pa_cons (pv 4) (pa_cons (pv 5) pa_nil))) (by rfl)) (pw_or1 (pt_cmpR (op_neA hr) (pe_cK SmK hr (by decide) rfl (pk_cons (pv 4) pk_nil)) (pe_c Sm hr (by decide) rfl (pa_cons (pv 4) pa_nil)) (by rfl))))) (pss_one (ps_ret pe_bl)) pss_nil)
      (pss_cons (ps_for PassesOwn.never rfl (pi_list (pe_mt0 Sz hr (by decide) (pv 4))) (pg_name (i := 6) scLaw.nd rfl (Or.inl rfl)) (pss_one (ps_if (pt_cmpR (op_neO EqF hr (by decide)) (pe_cK KpK hr (by decide) rfl (pk_cons (pv 6) (pk_cons (pv 4) pk_nil))) (pe_c Kp hr (by decide) rfl (pa_cons (pv 4) (pa_cons (pv 6) pa_nil))) (by rfl)) (pss_one (ps_ret pe_bl)) pss_nil)))
      (pss_cons (ps_if (pt_cmpR (op_neA hr) (pe_cK JoK hr (by decide) rfl (pk_cons (pv 5) (pk_cons (pv 4) pk_nil))) (pe_c Jo hr (by decide) rfl (pa_cons (pv 4) (pa_cons (pv 5) pa_nil))) (by rfl)) (pss_one (ps_ret pe_bl)) pss_nil)
      (pss_cons (ps_set (i := 7) scLaw.nd rfl (Or.inl rfl) (pe_revL (pv 5)))
      (pss_cons (ps_if (pt_cmpR (op_neA hr) (pe_cK SaK hr (by decide) rfl (pk_cons (pv 7) (pk_cons (pv 4) (pk_cons (pv 5) (pk_cons (pv 4) pk_nil))))) (pe_c Sa hr (by decide) rfl (pa_cons (pv 4) (pa_cons (pv 5) (pa_cons (pv 4) (pa_cons (pv 7) pa_nil))))) (by rfl)) (pss_one (ps_ret pe_bl)) pss_nil)
      (pss_cons (ps_setLc (i := 8) (own := [("_law_row", 9)]) (g := gName 9) (tt := tYes) (te := tTupS (tCons (tOp (rIxT K) (tVar 9) (tC (.int 0))) (tCons (tOp (rIxT K) (tVar 9) (tC (.int 1))) tNil))) (by rfl) scLaw.nd rfl rfl (by rfl) (pi_list (pv 3))
            (blkOk_by (own := [("_law_row", 9)]) (N := NL) (sc := defScope sLaw) (by decide +kernel))
            (fun _ _ _ _ _ => pg_name (i := 9) scLaw.nd rfl (Or.inl rfl)) (fun _ _ _ _ _ => pts_nil)
            (fun _ _ _ _ _ => by exact pe_tupS (pa_cons (pe_ix ix_tup (pv 9) pe_int (fun _ _ => rfl)) (pa_cons (pe_ix ix_tup (pv 9) pe_int (fun _ _ => rfl)) pa_nil))))
      (pss_one (ps_if (pt_cmpR (op_neNP O hr (by decide)) (pe_cK ArK hr (by decide) rfl (pk_cons pe_str (pk_cons (pv 8) pk_nil))) (pe_c Ar hr (by decide) rfl (pa_cons (pv 8) (pa_cons pe_str pa_nil))) (by rfl)) (pss_one (ps_ret pe_bl)) pss_nil))))))))))))
      (pss_one (ps_ret pe_bl))), ?_⟩
    have lcut : (cutV (ns.map V.int) none (some 12)).length ≤ 63 := by
      unfold cutV
      refine Nat.le_trans (List.length_take_le' _ _) ?_
      rw [List.length_drop, List.length_map]
      omega
    refine ⟨_, rfl, 12, rfl, sc, _, rfl, hs, fun pc H1 S1 n1 h1 => ?_⟩
    refine ⟨pc, _, rfl, .inl (SqL.of h1), 1, _, rfl, _, rfl, ?_⟩
    generalize hm : (if (((cutV (ns.map V.int) none (some 12)).length : Nat) : Int) > 1 then (((cutV (ns.map V.int) none (some 12)).length : Nat) : Int) else 1) = m
    have m0 : 0 ≤ m ∧ m ≤ 63 := by
      rw [← hm]
      split <;> omega
    refine ⟨by omega, by omega, for_it (walk_range (n := m.toNat)) (fun i σ' H' => (∃ u1 u2 u3 u4 u5 u6 u7 u8 u9, σ' = [some (.ref sc), u1, u2, u3, u4, u5, u6, u7, u8, u9]) ∧ ExtN H H' ∧ Tabs T H') ⟨⟨none, none, none, none, none, none, none, none, none, rfl⟩, ExtN.of S1, tb.ext S1⟩ (fun _ _ _ _ _ => trivial) ?_ ?_⟩
    · rintro i x σ' H2 H3 hi ⟨⟨u1, u2, u3, u4, u5, u6, u7, u8, u9, rfl⟩, X2, tb2⟩ ⟨rfl, rfl⟩
      refine seq_asg ⟨_, rfl, _, rfl, sc, _, ns, rfl, hs.extN X2, by omega, by omega, fun H4 p S4 np hp => ?_⟩
      have tb4 := tb2.ext S4
      have back : ∀ {H' : Hp}, FrP p H4 H' → ExtN H H' := fun Fr c o e nt => Fr c o (ne_of_none (X2 _ _ e nt) np) (S4 _ _ (X2 _ _ e nt)) nt
      clear X2 tb2 S4
      refine seq_asg ⟨_, rfl, _, rfl, p, 6, 2 ^ 50, rfl, hp.less (by decide), by decide, by decide, fun r H5 r0 r1 hp5 S5 => ⟨_, _, rfl, rfl, ?_⟩⟩
      refine ⟨p, (1 + r).toNat, 2, 2 ^ 48, by rw [Int.toNat_of_nonneg (by omega)]; rfl, by omega, by omega, by decide, by decide, hp5.less (by decide), fun l ts xs H6 hl hx ok ro len nm nl hp6 S6 => ?_⟩
      have F6 : FrP p H4 H6 := (FrP.ofB S5).trans (FrP.ofB S6)
      have tb6 := tabsP (tabsP tb4 hp S5) hp5 S6
      have l6 : xs.length ≤ 6 := by omega
      have X6 := back F6
      clear S5 tb4 F6 nl hp5 hp6 S6 back np hp
      dsimp only
      refine ts_mid (fun σ' H' => ∃ y wd, σ' = [some (.ref sc), some (.int (0 + (i : Nat))), some (.ref p), some (.ref l), some (.ref y), some (.ref wd), u6, u7, u8, u9] ∧ Same H6 H' ∧ PlAt C H' y (xs.map norm) ∧ H' wd = some (.lst ((xs.map (·.1)).map V.str))) (fun N hN => ?_) ?_
      · refine ⟨_, rfl, fun y dx ny nd ne => mk_plainR hl hx ok ny nd ne fun H7 S7 hy => ⟨rfl, ?_⟩⟩
        have hl7 := S7 _ _ hl
        have hx7 := hx.same S7
        have lt := hx.length
        refine ⟨_, rfl, l, rfl, ⟨_, SqL.of hl7⟩, fun D nD => lc_it (walk_list (xs := ts.map V.ref)) (fun i H' => Same H7 H' ∧ H' D = some (.lst (((xs.take i).map (·.1)).map V.str))) ⟨Same.upd nD, upd_same⟩ (fun i H' _ q => SqL.of (q.1 _ _ hl7)) ?_ ?_⟩
        · rintro j x H8 H9 hj ⟨S8, hD⟩ ⟨rfl, hx2⟩
          rw [List.length_map] at hj
          rw [List.getElem?_map] at hx2
          obtain ⟨t, htt, rfl⟩ := Option.map_eq_some_iff.mp hx2
          obtain ⟨z, hz, c1, c2, w0, w1, w2⟩ := paired_at hx7 htt
          refine ⟨rfl, iteT (B := False) ⟨_, rfl, t, _, 0, _, rfl, rfl, SqT.of (S8 _ _ w0), rfl, _, hD, ?_, ?_, ?_⟩⟩
          · rw [List.length_map, List.length_map, List.length_take, sizeLine_eq]
            omega
          · intro c o e
            rw [upd_ne (ne_of_none e nD)]
            exact S8 _ _ e
          · rw [upd_same, take_snoc hz, List.map_append, List.map_append]
            rfl
        · rintro H8 ⟨S8, hD⟩
          rw [List.length_map, lt, List.take_length] at hD
          exact ⟨_, _, rfl, hN _ _ ⟨y, D, rfl, S7.trans S8, hy.same S8, hD⟩⟩
      rintro σ' H7 ⟨y, wd, rfl, S7, hy, hw⟩
      have hl7 := S7 _ _ hl
      have hx7 := hx.same S7
      have tb7 := tb6.ext S7
      have X7 := X6.trans (ExtN.of S7)
      clear hl hx tb6 X6 S7
      have okn := ok.norm
      have ron := norm_rows ro
      have l8 : (xs.map norm).length ≤ 8 := by rw [List.length_map]; omega
      have en : (xs.map norm).map (·.1) = xs.map (·.1) := by rw [List.map_map]; rfl
      generalize hss : xs.map norm = ss at hy okn ron l8 en
      have pw : (xs.map (·.1)).Perm (ss.map (·.1)) := by rw [en]
      have lets : ∀ z ∈ smoothL ss, LetOk z := fun z hz => by
        have hm : z ∈ ss.map (·.1) := by
          rcases List.mem_append.mp hz with h | h
          · exact (List.mem_filter.mp h).1
          · obtain ⟨x, hx, rfl⟩ := List.mem_map.mp (List.mem_reverse.mp h)
            exact List.mem_map.mpr ⟨x, (mem_ordL.mp hx).1, rfl⟩
        obtain ⟨x, hx, rfl⟩ := List.mem_map.mp hm
        exact (okn.ok x hx).1
      -- jumps, smooth
      refine ts_mid (fun σ' H' => σ' = [some (.ref sc), some (.int (0 + (i : Nat))), some (.ref p), some (.ref l), some (.ref y), some (.ref wd), u6, u7, u8, u9] ∧ ExtN H7 H' ∧ Tabs T H') (fun N hN => ?_) ?_
      · refine ⟨_, rfl, _, rfl, y, wd, xs.map (·.1), ss, rfl, hw, pw, hy, okn, ron, l8, fun H8 p1 ts1 js1 xs1 S8 n8 h8 hj1 ex1 mx1 o1 => ?_⟩
        refine ⟨_, rfl, _, rfl, y, wd, xs.map (·.1), ss, rfl, S8 _ _ hw, pw, hy.same S8, okn, ron, l8, fun H9 p2 ts2 js2 xs2 S9 n9 h9 hj2 ex2 mx2 o2 => ?_⟩
        have e12 : xs2 = xs1 := rows_one okn.nd (ex2.trans ex1.symm) mx2 mx1
        subst e12
        refine ne_jumps (S9 _ _ h8) h9 (paired_imp hj1 fun t _ x z => z.same S9) hj2 o1 o2 fun H10 S10 => ?_
        have S7a := S8.trans (S9.trans S10)
        refine ⟨false, rfl, iteF ?_⟩
        have hya := hy.same S7a
        have tba := tb7.ext S7a
        have Xa : ExtN H7 H10 := ExtN.of S7a
        by_cases cs : Chn ss ∧ NoHole (ordL ss)
        · refine ⟨_, rfl, y, ss, rfl, hya, okn, tba, fun _ _ Hb qb Xb tbb nqb hqb => ?_, fun no => absurd cs no⟩
          refine ⟨_, rfl, y, ss, rfl, hya.ext Xb, okn, tbb, fun _ _ Hc qc Xc tbc nqc hqc => ?_, fun no => absurd cs no⟩
          exact ne_list lets (Xc _ _ hqb fun _ z => nomatch z) hqc ⟨false, rfl, ifF rfl (hN _ _ ⟨rfl, Xa.trans (Xb.trans Xc), tbc⟩)⟩
        · refine ⟨_, rfl, y, ss, rfl, hya, okn, tba, fun h1 h2 => absurd ⟨h1, h2⟩ cs, fun _ Hb Xb tbb => ?_⟩
          refine ⟨_, rfl, y, ss, rfl, hya.ext Xb, okn, tbb, fun h1 h2 => absurd ⟨h1, h2⟩ cs, fun _ Hc Xc tbc => ?_⟩
          exact .inl ⟨rfl, rfl, false, rfl, ifF rfl (hN _ _ ⟨rfl, Xa.trans (Xb.trans Xc), tbc⟩)⟩
      rintro σ' H8 ⟨rfl, X78, tb8⟩
      have hy8 := hy.ext X78
      have hw8 := X78 _ _ hw fun _ z => nomatch z
      have hl8 := X78 _ _ hl7 fun _ z => nomatch z
      have hx8 : SdsAt H8 ts xs := hx7.imp fun t _ x ⟨a, b, w1, w2, w3⟩ => ⟨a, b, X78 _ _ w1 (fun _ z => nomatch z), X78 _ _ w2 (fun _ z => nomatch z), X78 _ _ w3 (fun _ z => nomatch z)⟩
      have X8 := X7.trans X78
      clear hy hw hl7 hx7 X7 X78 tb7
      -- kept
      refine ts_mid (fun σ' H' => ∃ u6, σ' = [some (.ref sc), some (.int (0 + (i : Nat))), some (.ref p), some (.ref l), some (.ref y), some (.ref wd), u6, u7, u8, u9] ∧ Same H8 H') (fun N hN => ?_) ?_
      · obtain ⟨dx, l0, ts0, ha, _⟩ := id hy8
        refine ⟨_, rfl, y, dx, _, rfl, ha, rfl, y, ss, rfl, hy8, okn, fun H9 q9 S9 n9 h9 => ⟨q9, rfl, ⟨_, SqL.of h9⟩, for_it (walk_list (xs := (sizesOf ss).map V.str)) (fun j σ' H' => (∃ u6, σ' = [some (.ref sc), some (.int (0 + (i : Nat))), some (.ref p), some (.ref l), some (.ref y), some (.ref wd), u6, u7, u8, u9]) ∧ Same H9 H') ⟨⟨u6, rfl⟩, fun _ _ e => e⟩ (fun j σ' H' _ q => SqL.of (q.2 _ _ h9)) ?_ ?_⟩⟩
        · rintro j v σ' Hx Ha hj ⟨⟨w6, rfl⟩, Sa⟩ ⟨rfl, hxj⟩
          rw [List.length_map] at hj
          rw [List.getElem?_map] at hxj
          obtain ⟨z, hz, rfl⟩ := Option.map_eq_some_iff.mp hxj
          have zs := List.mem_of_getElem? hz
          have S8a := S9.trans Sa
          refine ⟨_, rfl, _, rfl, y, z, ss, rfl, hy8.same S8a, okn, zs, fun x hx => (ron x hx).2.2.1, l8, fun Hb b1 Sb nb1 f1 => ?_⟩
          refine ⟨_, rfl, _, rfl, y, z, ss, rfl, hy8.same (S8a.trans Sb), okn, zs, fun x hx => (ron x hx).2.2.1, l8, fun Hc b2 Sc nb2 f2 => ?_⟩
          refine ⟨b1, b2, _, _, rfl, rfl, f1.same Sc, f2, ?_⟩
          rw [eqFm_refl]
          exact ⟨false, rfl, ifF rfl ⟨⟨_, rfl⟩, Sa.trans (Sb.trans Sc)⟩⟩
        · rintro σ' Ha ⟨⟨w6, rfl⟩, Sa⟩
          exact hN _ _ ⟨w6, rfl, S9.trans Sa⟩
      rintro σ' H9 ⟨w6, rfl, S89⟩
      -- joined
      refine ts_mid (fun σ' H' => σ' = [some (.ref sc), some (.int (0 + (i : Nat))), some (.ref p), some (.ref l), some (.ref y), some (.ref wd), w6, u7, u8, u9] ∧ Same H8 H') (fun N hN => ?_) ?_
      · have r3 : ∀ x ∈ ss, x.2.1.length ≤ 3 ∧ x.2.2.length ≤ 8 := fun x hx => ⟨(ron x hx).2.2.1, (ron x hx).2.2.2⟩
        refine ⟨_, rfl, _, rfl, y, wd, xs.map (·.1), ss, rfl, S89 _ _ hw8, pw, hy8.same S89, okn, r3, l8, fun Ha p1 ts1 xs1 Sa na ha hj1 ex1 mx1 => ?_⟩
        refine ⟨_, rfl, _, rfl, y, wd, xs.map (·.1), ss, rfl, Sa _ _ (S89 _ _ hw8), pw, hy8.same (S89.trans Sa), okn, r3, l8, fun Hb p2 ts2 xs2 Sb nb hb hj2 ex2 mx2 => ?_⟩
        have e12 : xs2 = xs1 := rows_one okn.nd (ex2.trans ex1.symm) mx2 mx1
        subst e12
        have lx2 : xs2.length ≤ 8 := by have := congrArg List.length ex2; rw [List.length_map, List.length_reverse, List.length_map] at this; omega
        obtain ⟨_, o2, _⟩ := join_facts okn ron mx2 lx2
        have c : PyData.canLay0 (.list ((joinL (longJ xs2)).map jnD)) = true := by simpa [PyData.canLay0] using canLay_jns o2
        refine .inr (.inr ⟨.list ((joinL (longJ xs2)).map jnD), .list ((joinL (longJ xs2)).map jnD), .lst (SqL.of (Sb _ _ ha)) (dp_jns (paired_imp hj1 fun t _ x z => z.same Sb)), .lst (SqL.of hb) (dp_jns hj2), shaped_jns o2, shaped_jns o2, ?_⟩)
        rw [SeqAt.eqv_refl _ c]
        exact ⟨false, rfl, ifF rfl (hN _ _ ⟨rfl, S89.trans (Sa.trans Sb)⟩)⟩
      rintro σ' H10 ⟨rfl, S810⟩
      -- same_run
      refine seq_asg ⟨_, rfl, wd, _, rfl, SqL.of (S810 _ _ hw8), fun bk nbk => ?_⟩
      have S11 : Same H10 (upd H10 bk (.lst ((xs.map (·.1)).map V.str).reverse)) := Same.upd nbk
      have hbk : (upd H10 bk (.lst ((xs.map (·.1)).map V.str).reverse)) bk = some (.lst ((xs.map (·.1)).reverse.map V.str)) := by rw [upd_same, List.map_reverse]
      generalize upd H10 bk (.lst ((xs.map (·.1)).map V.str).reverse) = H11 at S11 hbk ⊢
      have S811 := S810.trans S11
      have hw11 := S811 _ _ hw8
      have hy11 := hy8.same S811
      have pb : ((xs.map (·.1)).reverse).Perm (ss.map (·.1)) := by rw [en]; exact List.reverse_perm _
      dsimp only
      refine ts_mid (fun σ' H' => σ' = [some (.ref sc), some (.int (0 + (i : Nat))), some (.ref p), some (.ref l), some (.ref y), some (.ref wd), w6, some (.ref bk), u8, u9] ∧ Same H8 H') (fun N hN => ?_) ?_
      · refine ⟨_, rfl, _, rfl, _, rfl, _, rfl, y, wd, y, bk, xs.map (·.1), (xs.map (·.1)).reverse, ss, ss, rfl, hw11, pw, hy11, okn, ron, l8, hbk, pb, hy11, okn, ron, l8, fun xs1 ys1 ex1 mx1 ey1 my1 => ?_⟩
        refine ⟨fun ce Ha Sa => ?_, fun ce Ha q vl Sa ra hP hb => ?_⟩
        · refine ⟨_, rfl, _, rfl, _, rfl, _, rfl, y, wd, y, bk, xs.map (·.1), (xs.map (·.1)).reverse, ss, ss, rfl, Sa _ _ hw11, pw, hy11.same Sa, okn, ron, l8, Sa _ _ hbk, pb, hy11.same Sa, okn, ron, l8, fun xs2 ys2 ex2 mx2 ey2 my2 => ?_⟩
          have e1 : xs2 = xs1 := rows_one okn.nd (ex2.trans ex1.symm) mx2 mx1
          have e2 : ys2 = ys1 := rows_one okn.nd (ey2.trans ey1.symm) my2 my1
          subst e1 e2
          exact ⟨fun _ Hb Sb => .inl ⟨rfl, rfl, false, rfl, ifF rfl (hN _ _ ⟨rfl, S811.trans (Sa.trans Sb)⟩)⟩, fun ne => absurd ce ne⟩
        · refine ⟨_, rfl, _, rfl, _, rfl, _, rfl, y, wd, y, bk, xs.map (·.1), (xs.map (·.1)).reverse, ss, ss, rfl, Sa _ _ hw11, pw, hy11.same Sa, okn, ron, l8, Sa _ _ hbk, pb, hy11.same Sa, okn, ron, l8, fun xs2 ys2 ex2 mx2 ey2 my2 => ?_⟩
          have e1 : xs2 = xs1 := rows_one okn.nd (ex2.trans ex1.symm) mx2 mx1
          have e2 : ys2 = ys1 := rows_one okn.nd (ey2.trans ey1.symm) my2 my1
          subst e1 e2
          refine ⟨fun c => absurd c ce, fun _ Hb q2 vl2 Sb rb hP2 hb2 => ?_⟩
          have ev : vl2 = vl := hP2.one hP
          subst ev
          obtain ⟨d1, g1, g2, _, _⟩ := ra
          obtain ⟨d2, f1, f2, _, _⟩ := rb
          exact ne_run (by rw [hP.1]; exact names_nd ss ss) (Sb _ _ g1) (Sb _ _ g2) f1 f2 ⟨false, rfl, ifF rfl (hN _ _ ⟨rfl, S811.trans (Sa.trans Sb)⟩)⟩
      rintro σ' H12 ⟨rfl, S812⟩
      have hl12 := S812 _ _ hl8
      have hx12 := hx8.same S812
      have lt := hx8.length
      refine seq_asg ⟨_, rfl, l, rfl, ⟨_, SqL.of hl12⟩, fun D nD => lc_it (walk_list (xs := ts.map V.ref)) (fun j H' => Same H12 H' ∧ ∃ us, H' D = some (.lst (us.map V.ref)) ∧ us.length = j ∧ (∀ u ∈ us, u ≠ D) ∧ PrsAt H' us ((xs.take j).map fun x => ((x.1, x.2.1) : Pr))) ⟨Same.upd nD, [], upd_same, rfl, fun _ h => absurd h List.not_mem_nil, .nil⟩ (fun j H' _ q => SqL.of (q.1 _ _ hl12)) ?_ ?_⟩
      · rintro j v Hx Ha hj ⟨Sa, us, hD, lu, hne, hus⟩ ⟨rfl, hxj⟩
        rw [List.length_map] at hj
        rw [List.getElem?_map] at hxj
        obtain ⟨t, htt, rfl⟩ := Option.map_eq_some_iff.mp hxj
        obtain ⟨z, hz, c1, c2, w0, w1, w2⟩ := paired_at hx12 htt
        refine ⟨rfl, iteT (B := False) ?_⟩
        refine ⟨_, rfl, t, _, 0, _, rfl, rfl, SqT.of (Sa _ _ w0), rfl, _, rfl, t, _, 1, _, rfl, rfl, SqT.of (Sa _ _ w0), rfl, by show 2 ≤ sizeLine; decide, fun t' Hb Sb nt ht' => ?_⟩
        have hDb := Sb _ _ hD
        have tD : t' ≠ D := (ne_of_none hD nt).symm
        have cD : c1 ≠ D := ne_of_none w1 nD
        refine ⟨_, hDb, by rw [List.length_map, lu, sizeLine_eq]; omega, fun c o e => by rw [upd_ne (ne_of_none e nD)]; exact Sb _ _ (Sa _ _ e), us ++ [t'], by rw [upd_same, List.map_append]; rfl, by rw [List.length_append, lu]; rfl, fun u hu => ?_, ?_⟩
        · rcases List.mem_append.mp hu with h | h
          · exact hne u h
          · rw [List.mem_singleton.mp h]; exact tD
        · rw [take_snoc hz, List.map_append]
          refine paired_snoc (PrsAt.off (hus.same Sb) hDb (fun _ h => h) (fun h => h) hne fun c o n e => by rw [upd_ne n]; exact e) ⟨c1, ?_, ?_⟩
          · rw [upd_ne tD]; exact ht'
          · rw [upd_ne cD]; exact Sb _ _ (Sa _ _ w1)
      rintro H13 ⟨S13, us, hD, lu, hne, hus⟩
      rw [List.length_map, lt, List.take_length] at hus
      have S813 := S812.trans S13
      have okp := bare_ok ok
      have p3 : ∀ r ∈ xs.map fun x => ((x.1, x.2.1) : Pr), r.2.length ≤ 3 := fun r hr => by
        obtain ⟨x, hx, rfl⟩ := List.mem_map.mp hr
        exact (ro x hx).2.2.1
      have lp : (xs.map fun x => ((x.1, x.2.1) : Pr)).length ≤ 8 := by rw [List.length_map]; omega
      generalize (xs.map fun x => ((x.1, x.2.1) : Pr)) = bs at hus okp p3 lp
      have oka := arr_ok okp p3 lp "n"
      have nok : LetOk "n" := let_L8 "n" (by decide +kernel)
      refine ⟨_, rfl, D, us, bs, "n", rfl, hD, hus, okp, p3, lp, nok, oka, fun c1 Ha Sa => ?_, fun c1 Ha y1 Sa n1 hy1 => ?_⟩
      · refine ⟨_, rfl, D, us, bs, "n", rfl, Sa _ _ hD, hus.same Sa, okp, p3, lp, nok, oka, fun _ Hb Sb => ?_, fun c2 => absurd c1 c2⟩
        have S8b := S813.trans (Sa.trans Sb)
        exact .inl ⟨rfl, rfl, false, rfl, ifF rfl ⟨⟨_, _, _, _, _, _, _, _, _, rfl⟩, X8.trans (ExtN.of S8b), tb8.ext S8b⟩⟩
      · refine ⟨_, rfl, D, us, bs, "n", rfl, Sa _ _ hD, hus.same Sa, okp, p3, lp, nok, oka, fun c2 => absurd c2 c1, fun _ Hb y2 Sb n2 hy2 => ?_⟩
        have S8b := S813.trans (Sa.trans Sb)
        exact .inr ⟨y1, y2, _, rfl, rfl, hy1.same Sb, hy2, oka.norm, false, rfl, ifF rfl ⟨⟨_, _, _, _, _, _, _, _, _, rfl⟩, X8.trans (ExtN.of S8b), tb8.ext S8b⟩⟩
    · rintro σ' H2 ⟨_, X2, tb2⟩
      exact q H2
end
end E4

set_option Elab.async false
set_option linter.all false
set_option maxRecDepth 100000
set_option maxHeartbeats 1000000
/-! what the top left: each def with its promise -/
namespace E4
open PySem PySem.Spec PyProof.Rows L2 He Hb
open C8 (Cal Mak Met InsC)
open LamX (Tabs ExtN TabB CodeO TabS)
theorem neB_ok {K : PySem.W.Frag} {C : Addr} (h : neB K C = true) : PySem.W.NoNe K C (ma K C "__eq__") := by
  obtain ⟨h1, h⟩ := ba h
  obtain ⟨h2, h⟩ := ba h
  obtain ⟨h3, h4⟩ := ba h
  exact ⟨eqO_ok h1, eqO_ok h2, h3, of_decide_eq_true h4⟩
section
variable {P : Program} {w : World} {K : PySem.W.Frag} {mg : Str → Option Value} {base : Heap}
theorem cal_of {x : Str} {f : Addr} {fd : FuncData} {ps : List Str} {k : Nat} {sp : Sp} (kp : PySem.W.keepIn K (.ref f) = true) (g : mg x = some (.ref f)) (b : Binds K fd ps []) (O : FnOk P w K mg base CX0 k f fd ps sp) : Cal P w K mg base k x sp [] := ⟨f, fd, ps, [], O, g, kp, b, .nil⟩
end
theorem code_of {K : PySem.W.Frag} {x qual : Str} {st : Stmt} {p : Defn} {fd : FuncData} (F : L2.Fun K x qual st (fAd K p) fd) : fd.code = .ref (cT K p).1 := by
  obtain ⟨oc, od, kV, doc, pm, an, cdv, ct, osl, rfl, lk, hcd⟩ := F.ex
  obtain ⟨c, rfl⟩ := codeIn_ref hcd
  show Value.ref c = Value.ref (codeOf K p)
  rw [codeOf_eq lk rfl]
def gRev : List Value → List Value → List Value := fun us zs => match us with
  | [] => zs.reverse
  | _ => []
theorem rev_rel {vs : List V} {us : List Value} {zs : List V} {ws : List Value} (r1 : Vals vs us) (r2 : Vals zs ws) : Vals (kvRev vs zs) (gRev us ws) := by
  cases r1 with
  | nil => exact r2.reverse
  | cons _ _ => exact .nil
theorem kbR1 {K : PySem.W.Frag} {x qual p1 : Str} {st : Stmt} {f : Addr} {fd : FuncData} (F : L2.Fun K x qual st f fd) (h : ∀ (kV doc pm : Value) (an : Option Addr) (cdv ct a : Value), bindArgs (PySem.W.fnOf x qual (defArgs st) (defBody st) (defScope st) .none kV doc pm an cdv ct) ⟨[], [(p1, a)]⟩ = pure [(p1, a)]) : KBinds K fd [p1] [p1] gRev kvRev := by
  obtain ⟨oc, od, kV, doc, pm, an, cdv, ct, osl, rfl, lk, hcd⟩ := F.ex
  refine ⟨fun s us ws X hl => ?_, rev_rel⟩
  match us, hl with
  | [], hl =>
    have hl2 : ws.length = 1 := by simpa [gRev] using hl
    match ws, hl2 with
    | [a], _ => exact .of_eq (h kV doc pm an cdv ct a)
  | _ :: _, hl => exact absurd (show (0 : Nat) = 1 from hl) (by decide)
theorem kbR2 {K : PySem.W.Frag} {x qual p1 p2 : Str} {st : Stmt} {f : Addr} {fd : FuncData} (F : L2.Fun K x qual st f fd) (h : ∀ (kV doc pm : Value) (an : Option Addr) (cdv ct a b : Value), bindArgs (PySem.W.fnOf x qual (defArgs st) (defBody st) (defScope st) .none kV doc pm an cdv ct) ⟨[], [(p1, a), (p2, b)]⟩ = pure [(p2, b), (p1, a)]) : KBinds K fd [p2, p1] [p1, p2] gRev kvRev := by
  obtain ⟨oc, od, kV, doc, pm, an, cdv, ct, osl, rfl, lk, hcd⟩ := F.ex
  refine ⟨fun s us ws X hl => ?_, rev_rel⟩
  match us, hl with
  | [], hl =>
    have hl2 : ws.length = 2 := by simpa [gRev] using hl
    match ws, hl2 with
    | [a, b], _ => exact .of_eq (h kV doc pm an cdv ct a b)
  | _ :: _, hl => exact absurd (show (0 : Nat) = 2 from hl) (by decide)
theorem kbR4 {K : PySem.W.Frag} {x qual p1 p2 p3 p4 : Str} {st : Stmt} {f : Addr} {fd : FuncData} (F : L2.Fun K x qual st f fd) (h : ∀ (kV doc pm : Value) (an : Option Addr) (cdv ct a b c d : Value), bindArgs (PySem.W.fnOf x qual (defArgs st) (defBody st) (defScope st) .none kV doc pm an cdv ct) ⟨[], [(p1, a), (p2, b), (p3, c), (p4, d)]⟩ = pure [(p4, d), (p3, c), (p2, b), (p1, a)]) : KBinds K fd [p4, p3, p2, p1] [p1, p2, p3, p4] gRev kvRev := by
  obtain ⟨oc, od, kV, doc, pm, an, cdv, ct, osl, rfl, lk, hcd⟩ := F.ex
  refine ⟨fun s us ws X hl => ?_, rev_rel⟩
  match us, hl with
  | [], hl =>
    have hl2 : ws.length = 4 := by simpa [gRev] using hl
    match ws, hl2 with
    | [a, b, c, d], _ => exact .of_eq (h kV doc pm an cdv ct a b c d)
  | _ :: _, hl => exact absurd (show (0 : Nat) = 4 from hl) (by decide)
theorem facts {P : Program} {w : World} {K : PySem.W.Frag} {h : Heap} {mg : Str → Option Value} {fl : Addr} (X : K.In h) (G : h.Ns mainGlobals mg) (hfa : mg "law" = some (.ref fl)) (c : SaysX faR fnR tsR [pT0] exR w h K) :
    ∃ fd : FuncData, (∀ (s : Shared) (u : Value), BindsTo s fd ⟨[u], []⟩ [("_law_script", u)]) ∧ ∀ base : Heap, K.In base → base.Ns mainGlobals mg → (∀ p ∈ [cT K pT0], TabB base mg p.1 p.2) → FnOk P w K mg base CX0 8 fl fd ["_law_script"] (spLaw [((cT K pT0).2, qT0)] K) := by
  have cd := c.t.d
  have cc : ((bsR K).all id) = true := c.more
  obtain ⟨d_is_whole, F_is_whole⟩ := funX cd 0 (at_ := ("is_whole", none)) (name := "is_whole") (qual := "is_whole") (st := E2.sIsWhole) rfl
  have g_is_whole : mg "is_whole" = some (.ref (ga K "is_whole")) := glo_ok X G (cd.fact 0 (f := .glo "is_whole") rfl)
  have b_is_whole := F_is_whole.binds (ps := ["value"]) fun _ _ _ _ _ _ us hl => match us, hl with | [_], _ => rfl
  obtain ⟨d_is_letter, F_is_letter⟩ := funX cd 1 (at_ := ("is_letter", none)) (name := "is_letter") (qual := "is_letter") (st := sIsLetter) rfl
  have g_is_letter : mg "is_letter" = some (.ref (ga K "is_letter")) := glo_ok X G (cd.fact 1 (f := .glo "is_letter") rfl)
  have b_is_letter := F_is_letter.binds (ps := ["name"]) fun _ _ _ _ _ _ us hl => match us, hl with | [_], _ => rfl
  obtain ⟨d_number, F_number⟩ := funX cd 2 (at_ := ("number", none)) (name := "number") (qual := "number") (st := E2.sNumber) rfl
  have g_number : mg "number" = some (.ref (ga K "number")) := glo_ok X G (cd.fact 2 (f := .glo "number") rfl)
  have b_number := F_number.binds (ps := ["value"]) fun _ _ _ _ _ _ us hl => match us, hl with | [_], _ => rfl
  obtain ⟨d_product_form, F_product_form⟩ := funX cd 3 (at_ := ("product_form", none)) (name := "product_form") (qual := "product_form") (st := sProdF) rfl
  have g_product_form : mg "product_form" = some (.ref (ga K "product_form")) := glo_ok X G (cd.fact 3 (f := .glo "product_form") rfl)
  have b_product_form := F_product_form.binds (ps := ["names"]) fun _ _ _ _ _ _ us hl => match us, hl with | [_], _ => rfl
  obtain ⟨d_right_side, F_right_side⟩ := funX cd 4 (at_ := ("right_side", none)) (name := "right_side") (qual := "right_side") (st := E2.sRightSide) rfl
  have g_right_side : mg "right_side" = some (.ref (ga K "right_side")) := glo_ok X G (cd.fact 4 (f := .glo "right_side") rfl)
  have b_right_side := F_right_side.binds (ps := ["other"]) fun _ _ _ _ _ _ us hl => match us, hl with | [_], _ => rfl
  obtain ⟨d_without_noughts, F_without_noughts⟩ := funX cd 5 (at_ := ("without_noughts", none)) (name := "without_noughts") (qual := "without_noughts") (st := E2.sWithout) rfl
  have g_without_noughts : mg "without_noughts" = some (.ref (ga K "without_noughts")) := glo_ok X G (cd.fact 5 (f := .glo "without_noughts") rfl)
  have b_without_noughts := F_without_noughts.binds (ps := ["parts"]) fun _ _ _ _ _ _ us hl => match us, hl with | [_], _ => rfl
  obtain ⟨d_product_at, F_product_at⟩ := funX cd 6 (at_ := ("product_at", none)) (name := "product_at") (qual := "product_at") (st := sProductAt) rfl
  have g_product_at : mg "product_at" = some (.ref (ga K "product_at")) := glo_ok X G (cd.fact 6 (f := .glo "product_at") rfl)
  have b_product_at := F_product_at.binds (ps := ["names", "values"]) fun _ _ _ _ _ _ us hl => match us, hl with | [_, _], _ => rfl
  obtain ⟨d_lowest, F_lowest⟩ := funX cd 7 (at_ := ("lowest", none)) (name := "lowest") (qual := "lowest") (st := E2.sLowest) rfl
  have g_lowest : mg "lowest" = some (.ref (ga K "lowest")) := glo_ok X G (cd.fact 7 (f := .glo "lowest") rfl)
  have b_lowest := F_lowest.binds (ps := ["top", "bottom"]) fun _ _ _ _ _ _ us hl => match us, hl with | [_, _], _ => rfl
  obtain ⟨d_fraction_sum, F_fraction_sum⟩ := funX cd 8 (at_ := ("fraction_sum", none)) (name := "fraction_sum") (qual := "fraction_sum") (st := E2.sFracSum) rfl
  have g_fraction_sum : mg "fraction_sum" = some (.ref (ga K "fraction_sum")) := glo_ok X G (cd.fact 8 (f := .glo "fraction_sum") rfl)
  have b_fraction_sum := F_fraction_sum.binds (ps := ["one", "other"]) fun _ _ _ _ _ _ us hl => match us, hl with | [_, _], _ => rfl
  obtain ⟨d_own_order, F_own_order⟩ := funX cd 9 (at_ := ("own_order", none)) (name := "own_order") (qual := "own_order") (st := sOwnOrder) rfl
  have g_own_order : mg "own_order" = some (.ref (ga K "own_order")) := glo_ok X G (cd.fact 9 (f := .glo "own_order") rfl)
  have b_own_order := F_own_order.binds (ps := ["table"]) fun _ _ _ _ _ _ us hl => match us, hl with | [_], _ => rfl
  obtain ⟨d_hole, F_hole⟩ := funX cd 10 (at_ := ("hole", none)) (name := "hole") (qual := "hole") (st := sHole) rfl
  have g_hole : mg "hole" = some (.ref (ga K "hole")) := glo_ok X G (cd.fact 10 (f := .glo "hole") rfl)
  have b_hole := F_hole.binds (ps := ["table"]) fun _ _ _ _ _ _ us hl => match us, hl with | [_], _ => rfl
  obtain ⟨d_check_table, F_check_table⟩ := funX cd 11 (at_ := ("check_table", none)) (name := "check_table") (qual := "check_table") (st := sCheckTable) rfl
  have g_check_table : mg "check_table" = some (.ref (ga K "check_table")) := glo_ok X G (cd.fact 11 (f := .glo "check_table") rfl)
  have b_check_table := F_check_table.binds (ps := ["table"]) fun _ _ _ _ _ _ us hl => match us, hl with | [_], _ => rfl
  obtain ⟨d_check_own_places, F_check_own_places⟩ := funX cd 12 (at_ := ("check_own_places", none)) (name := "check_own_places") (qual := "check_own_places") (st := sCheckOwn) rfl
  have g_check_own_places : mg "check_own_places" = some (.ref (ga K "check_own_places")) := glo_ok X G (cd.fact 12 (f := .glo "check_own_places") rfl)
  have b_check_own_places := F_check_own_places.binds (ps := ["table"]) fun _ _ _ _ _ _ us hl => match us, hl with | [_], _ => rfl
  obtain ⟨d_is_sides, F_is_sides⟩ := funX cd 13 (at_ := ("is_sides", none)) (name := "is_sides") (qual := "is_sides") (st := sIsSides) rfl
  have g_is_sides : mg "is_sides" = some (.ref (ga K "is_sides")) := glo_ok X G (cd.fact 13 (f := .glo "is_sides") rfl)
  have b_is_sides := F_is_sides.binds (ps := ["sides", "many"]) fun _ _ _ _ _ _ us hl => match us, hl with | [_, _], _ => rfl
  obtain ⟨d_is_side, F_is_side⟩ := funX cd 14 (at_ := ("is_side", none)) (name := "is_side") (qual := "is_side") (st := sIsSide) rfl
  have g_is_side : mg "is_side" = some (.ref (ga K "is_side")) := glo_ok X G (cd.fact 14 (f := .glo "is_side") rfl)
  have b_is_side := F_is_side.binds (ps := ["side", "many"]) fun _ _ _ _ _ _ us hl => match us, hl with | [_, _], _ => rfl
  obtain ⟨d_is_product, F_is_product⟩ := funX cd 15 (at_ := ("is_product", none)) (name := "is_product") (qual := "is_product") (st := sIsProduct) rfl
  have g_is_product : mg "is_product" = some (.ref (ga K "is_product")) := glo_ok X G (cd.fact 15 (f := .glo "is_product") rfl)
  have b_is_product := F_is_product.binds (ps := ["product"]) fun _ _ _ _ _ _ us hl => match us, hl with | [_], _ => rfl
  obtain ⟨d_names_of, F_names_of⟩ := funX cd 16 (at_ := ("names_of", none)) (name := "names_of") (qual := "names_of") (st := sNamesOf) rfl
  have g_names_of : mg "names_of" = some (.ref (ga K "names_of")) := glo_ok X G (cd.fact 16 (f := .glo "names_of") rfl)
  have b_names_of := F_names_of.binds (ps := ["sides"]) fun _ _ _ _ _ _ us hl => match us, hl with | [_], _ => rfl
  obtain ⟨d_ordered, F_ordered⟩ := funX cd 17 (at_ := ("ordered", none)) (name := "ordered") (qual := "ordered") (st := sOrdered) rfl
  have g_ordered : mg "ordered" = some (.ref (ga K "ordered")) := glo_ok X G (cd.fact 17 (f := .glo "ordered") rfl)
  have b_ordered := F_ordered.binds (ps := ["table"]) fun _ _ _ _ _ _ us hl => match us, hl with | [_], _ => rfl
  obtain ⟨d_misfit, F_misfit⟩ := funX cd 18 (at_ := ("misfit", none)) (name := "misfit") (qual := "misfit") (st := sMisfit) rfl
  have g_misfit : mg "misfit" = some (.ref (ga K "misfit")) := glo_ok X G (cd.fact 18 (f := .glo "misfit") rfl)
  have b_misfit := F_misfit.binds (ps := ["sides"]) fun _ _ _ _ _ _ us hl => match us, hl with | [_], _ => rfl
  obtain ⟨d_left_of, F_left_of⟩ := funX cd 19 (at_ := ("left_of", none)) (name := "left_of") (qual := "left_of") (st := sLeftOf) rfl
  have g_left_of : mg "left_of" = some (.ref (ga K "left_of")) := glo_ok X G (cd.fact 19 (f := .glo "left_of") rfl)
  have b_left_of := F_left_of.binds (ps := ["product", "other"]) fun _ _ _ _ _ _ us hl => match us, hl with | [_, _], _ => rfl
  obtain ⟨d_twos, F_twos⟩ := funX cd 20 (at_ := ("twos", none)) (name := "twos") (qual := "twos") (st := sTwos) rfl
  have g_twos : mg "twos" = some (.ref (ga K "twos")) := glo_ok X G (cd.fact 20 (f := .glo "twos") rfl)
  have b_twos := F_twos.binds (ps := ["table"]) fun _ _ _ _ _ _ us hl => match us, hl with | [_], _ => rfl
  obtain ⟨d_jumps, F_jumps⟩ := funX cd 21 (at_ := ("jumps", none)) (name := "jumps") (qual := "jumps") (st := sJumps) rfl
  have g_jumps : mg "jumps" = some (.ref (ga K "jumps")) := glo_ok X G (cd.fact 21 (f := .glo "jumps") rfl)
  have b_jumps := F_jumps.binds (ps := ["table", "walk"]) fun _ _ _ _ _ _ us hl => match us, hl with | [_, _], _ => rfl
  obtain ⟨d_smooth, F_smooth⟩ := funX cd 22 (at_ := ("smooth", none)) (name := "smooth") (qual := "smooth") (st := sSmooth) rfl
  have g_smooth : mg "smooth" = some (.ref (ga K "smooth")) := glo_ok X G (cd.fact 22 (f := .glo "smooth") rfl)
  have b_smooth := F_smooth.binds (ps := ["table"]) fun _ _ _ _ _ _ us hl => match us, hl with | [_], _ => rfl
  obtain ⟨d_kept, F_kept⟩ := funX cd 23 (at_ := ("kept", none)) (name := "kept") (qual := "kept") (st := sKept) rfl
  have g_kept : mg "kept" = some (.ref (ga K "kept")) := glo_ok X G (cd.fact 23 (f := .glo "kept") rfl)
  have b_kept := F_kept.binds (ps := ["table", "size"]) fun _ _ _ _ _ _ us hl => match us, hl with | [_, _], _ => rfl
  obtain ⟨d_arranged, F_arranged⟩ := funX cd 24 (at_ := ("arranged", none)) (name := "arranged") (qual := "arranged") (st := sArr) rfl
  have g_arranged : mg "arranged" = some (.ref (ga K "arranged")) := glo_ok X G (cd.fact 24 (f := .glo "arranged") rfl)
  have b_arranged := F_arranged.binds (ps := ["sides", "size"]) fun _ _ _ _ _ _ us hl => match us, hl with | [_, _], _ => rfl
  obtain ⟨d_joined, F_joined⟩ := funX cd 25 (at_ := ("joined", none)) (name := "joined") (qual := "joined") (st := sJoined) rfl
  have g_joined : mg "joined" = some (.ref (ga K "joined")) := glo_ok X G (cd.fact 25 (f := .glo "joined") rfl)
  have b_joined := F_joined.binds (ps := ["table", "walk"]) fun _ _ _ _ _ _ us hl => match us, hl with | [_, _], _ => rfl
  obtain ⟨d_same_run, F_same_run⟩ := funX cd 26 (at_ := ("same_run", none)) (name := "same_run") (qual := "same_run") (st := sSame) rfl
  have g_same_run : mg "same_run" = some (.ref (ga K "same_run")) := glo_ok X G (cd.fact 26 (f := .glo "same_run") rfl)
  have b_same_run := F_same_run.binds (ps := ["table", "walk", "other", "route"]) fun _ _ _ _ _ _ us hl => match us, hl with | [_, _, _, _], _ => rfl
  obtain ⟨d_primes, F_primes⟩ := funX cd 27 (at_ := ("primes", none)) (name := "primes") (qual := "primes") (st := sPrimes) rfl
  have g_primes : mg "primes" = some (.ref (ga K "primes")) := glo_ok X G (cd.fact 27 (f := .glo "primes") rfl)
  have b_primes := F_primes.binds (ps := ["names"]) fun _ _ _ _ _ _ us hl => match us, hl with | [_], _ => rfl
  obtain ⟨d_first_unlike, F_first_unlike⟩ := funX cd 28 (at_ := ("first_unlike", none)) (name := "first_unlike") (qual := "first_unlike") (st := sUnlike) rfl
  have g_first_unlike : mg "first_unlike" = some (.ref (ga K "first_unlike")) := glo_ok X G (cd.fact 28 (f := .glo "first_unlike") rfl)
  have b_first_unlike := F_first_unlike.binds (ps := ["one", "two", "values"]) fun _ _ _ _ _ _ us hl => match us, hl with | [_, _, _], _ => rfl
  obtain ⟨d_check_walk, F_check_walk⟩ := funX cd 29 (at_ := ("check_walk", none)) (name := "check_walk") (qual := "check_walk") (st := sWalk) rfl
  have g_check_walk : mg "check_walk" = some (.ref (ga K "check_walk")) := glo_ok X G (cd.fact 29 (f := .glo "check_walk") rfl)
  have b_check_walk := F_check_walk.binds (ps := ["walk", "table"]) fun _ _ _ _ _ _ us hl => match us, hl with | [_, _], _ => rfl
  obtain ⟨d_inside_out, F_inside_out⟩ := funX cd 30 (at_ := ("inside_out", none)) (name := "inside_out") (qual := "inside_out") (st := sInside) rfl
  have g_inside_out : mg "inside_out" = some (.ref (ga K "inside_out")) := glo_ok X G (cd.fact 30 (f := .glo "inside_out") rfl)
  have b_inside_out := F_inside_out.binds (ps := ["table", "walk"]) fun _ _ _ _ _ _ us hl => match us, hl with | [_, _], _ => rfl
  obtain ⟨d__law_purse, F__law_purse⟩ := funX cd 31 (at_ := ("_law_purse", none)) (name := "_law_purse") (qual := "_law_purse") (st := E3.sPurse) rfl
  have g__law_purse : mg "_law_purse" = some (.ref (ga K "_law_purse")) := glo_ok X G (cd.fact 31 (f := .glo "_law_purse") rfl)
  have b__law_purse := F__law_purse.binds (ps := ["_law_script", "_law_at"]) fun _ _ _ _ _ _ us hl => match us, hl with | [_, _], _ => rfl
  obtain ⟨d__law_mixed, F__law_mixed⟩ := funX cd 32 (at_ := ("_law_mixed", none)) (name := "_law_mixed") (qual := "_law_mixed") (st := E3.sMixed) rfl
  have g__law_mixed : mg "_law_mixed" = some (.ref (ga K "_law_mixed")) := glo_ok X G (cd.fact 32 (f := .glo "_law_mixed") rfl)
  have b__law_mixed := F__law_mixed.binds (ps := ["_law_seed", "_law_step"]) fun _ _ _ _ _ _ us hl => match us, hl with | [_, _], _ => rfl
  obtain ⟨d__law_draw, F__law_draw⟩ := funX cd 33 (at_ := ("_law_draw", none)) (name := "_law_draw") (qual := "_law_draw") (st := E3.sDraw) rfl
  have g__law_draw : mg "_law_draw" = some (.ref (ga K "_law_draw")) := glo_ok X G (cd.fact 33 (f := .glo "_law_draw") rfl)
  have b__law_draw := F__law_draw.binds (ps := ["_law_purse_here", "_law_many"]) fun _ _ _ _ _ _ us hl => match us, hl with | [_, _], _ => rfl
  obtain ⟨d__law_one_of, F__law_one_of⟩ := funX cd 34 (at_ := ("_law_one_of", none)) (name := "_law_one_of") (qual := "_law_one_of") (st := sOneOf) rfl
  have g__law_one_of : mg "_law_one_of" = some (.ref (ga K "_law_one_of")) := glo_ok X G (cd.fact 34 (f := .glo "_law_one_of") rfl)
  have b__law_one_of := F__law_one_of.binds (ps := ["_law_purse_here", "_law_some"]) fun _ _ _ _ _ _ us hl => match us, hl with | [_, _], _ => rfl
  obtain ⟨d__law_shuffled, F__law_shuffled⟩ := funX cd 35 (at_ := ("_law_shuffled", none)) (name := "_law_shuffled") (qual := "_law_shuffled") (st := sShuffled) rfl
  have g__law_shuffled : mg "_law_shuffled" = some (.ref (ga K "_law_shuffled")) := glo_ok X G (cd.fact 35 (f := .glo "_law_shuffled") rfl)
  have b__law_shuffled := F__law_shuffled.binds (ps := ["_law_purse_here", "_law_some"]) fun _ _ _ _ _ _ us hl => match us, hl with | [_, _], _ => rfl
  obtain ⟨d__law_letters, F__law_letters⟩ := funX cd 36 (at_ := ("_law_letters", none)) (name := "_law_letters") (qual := "_law_letters") (st := sLetters) rfl
  have g__law_letters : mg "_law_letters" = some (.ref (ga K "_law_letters")) := glo_ok X G (cd.fact 36 (f := .glo "_law_letters") rfl)
  have b__law_letters := F__law_letters.binds (ps := ["_law_purse_here", "_law_most"]) fun _ _ _ _ _ _ us hl => match us, hl with | [_, _], _ => rfl
  obtain ⟨d__law_names, F__law_names⟩ := funX cd 37 (at_ := ("_law_names", none)) (name := "_law_names") (qual := "_law_names") (st := sNamesL) rfl
  have g__law_names : mg "_law_names" = some (.ref (ga K "_law_names")) := glo_ok X G (cd.fact 37 (f := .glo "_law_names") rfl)
  have b__law_names := F__law_names.binds (ps := ["_law_purse_here", "_law_many"]) fun _ _ _ _ _ _ us hl => match us, hl with | [_, _], _ => rfl
  obtain ⟨d__law_chain, F__law_chain⟩ := funX cd 38 (at_ := ("_law_chain", none)) (name := "_law_chain") (qual := "_law_chain") (st := sChain) rfl
  have g__law_chain : mg "_law_chain" = some (.ref (ga K "_law_chain")) := glo_ok X G (cd.fact 38 (f := .glo "_law_chain") rfl)
  have b__law_chain := F__law_chain.binds (ps := ["_law_purse_here", "_law_many", "_law_often"]) fun _ _ _ _ _ _ us hl => match us, hl with | [_, _, _], _ => rfl
  obtain ⟨d_law, F_law⟩ := funX cd 39 (at_ := ("law", none)) (name := "law") (qual := "law") (st := sLaw) rfl
  have g_law : mg "law" = some (.ref (ga K "law")) := glo_ok X G (cd.fact 39 (f := .glo "law") rfl)
  have b_law := F_law.binds (ps := ["_law_script"]) fun _ _ _ _ _ _ us hl => match us, hl with | [_], _ => rfl
  obtain ⟨d_Plain___init__, F_Plain___init__⟩ := funX cd 40 (at_ := ("Plain", some "__init__")) (name := "__init__") (qual := "Plain.__init__") (st := sInit) rfl
  have b_Plain___init__ := F_Plain___init__.binds (ps := ["self", "sides"]) fun _ _ _ _ _ _ us hl => match us, hl with | [_, _], _ => rfl
  obtain ⟨d_Plain___eq__, F_Plain___eq__⟩ := funX cd 41 (at_ := ("Plain", some "__eq__")) (name := "__eq__") (qual := "Plain.__eq__") (st := sEq) rfl
  have b_Plain___eq__ := F_Plain___eq__.binds (ps := ["self", "other"]) fun _ _ _ _ _ _ us hl => match us, hl with | [_, _], _ => rfl
  obtain ⟨d_Plain_sides, F_Plain_sides⟩ := funX cd 42 (at_ := ("Plain", some "sides")) (name := "sides") (qual := "Plain.sides") (st := sSides) rfl
  have b_Plain_sides := F_Plain_sides.binds (ps := ["self"]) fun _ _ _ _ _ _ us hl => match us, hl with | [_], _ => rfl
  obtain ⟨d_Plain_sizes, F_Plain_sizes⟩ := funX cd 43 (at_ := ("Plain", some "sizes")) (name := "sizes") (qual := "Plain.sizes") (st := sSizes) rfl
  have b_Plain_sizes := F_Plain_sizes.binds (ps := ["self"]) fun _ _ _ _ _ _ us hl => match us, hl with | [_], _ => rfl
  obtain ⟨d_Form___init__, F_Form___init__⟩ := funX cd 44 (at_ := ("Form", some "__init__")) (name := "__init__") (qual := "Form.__init__") (st := E2.sInit) rfl
  have b_Form___init__ := F_Form___init__.binds (ps := ["self", "parts"]) fun _ _ _ _ _ _ us hl => match us, hl with | [_, _], _ => rfl
  obtain ⟨d_Form___add__, F_Form___add__⟩ := funX cd 45 (at_ := ("Form", some "__add__")) (name := "__add__") (qual := "Form.__add__") (st := E2.sAdd) rfl
  have b_Form___add__ := F_Form___add__.binds (ps := ["self", "other"]) fun _ _ _ _ _ _ us hl => match us, hl with | [_, _], _ => rfl
  obtain ⟨d_Form___sub__, F_Form___sub__⟩ := funX cd 46 (at_ := ("Form", some "__sub__")) (name := "__sub__") (qual := "Form.__sub__") (st := E2.sSub) rfl
  have b_Form___sub__ := F_Form___sub__.binds (ps := ["self", "other"]) fun _ _ _ _ _ _ us hl => match us, hl with | [_, _], _ => rfl
  obtain ⟨d_Form___neg__, F_Form___neg__⟩ := funX cd 47 (at_ := ("Form", some "__neg__")) (name := "__neg__") (qual := "Form.__neg__") (st := E2.sNeg) rfl
  have b_Form___neg__ := F_Form___neg__.binds (ps := ["self"]) fun _ _ _ _ _ _ us hl => match us, hl with | [_], _ => rfl
  obtain ⟨d_Form___eq__, F_Form___eq__⟩ := funX cd 48 (at_ := ("Form", some "__eq__")) (name := "__eq__") (qual := "Form.__eq__") (st := E2.sEq) rfl
  have b_Form___eq__ := F_Form___eq__.binds (ps := ["self", "other"]) fun _ _ _ _ _ _ us hl => match us, hl with | [_, _], _ => rfl
  have g_Plain : mg "Plain" = some (.ref (ga K "Plain")) := glo_ok X G (cd.fact 40 (f := .glo "Plain") rfl)
  have g_Form : mg "Form" = some (.ref (ga K "Form")) := glo_ok X G (cd.fact 41 (f := .glo "Form") rfl)
  have z_isinstance : mg "isinstance" = none := free_ok X G (cd.fact 42 (f := .free "isinstance") rfl)
  have z_int : mg "int" = none := free_ok X G (cd.fact 43 (f := .free "int") rfl)
  have z_bool : mg "bool" = none := free_ok X G (cd.fact 44 (f := .free "bool") rfl)
  have z_str : mg "str" = none := free_ok X G (cd.fact 45 (f := .free "str") rfl)
  have z_len : mg "len" = none := free_ok X G (cd.fact 46 (f := .free "len") rfl)
  have z_all : mg "all" = none := free_ok X G (cd.fact 47 (f := .free "all") rfl)
  have z_any : mg "any" = none := free_ok X G (cd.fact 48 (f := .free "any") rfl)
  have z_list : mg "list" = none := free_ok X G (cd.fact 49 (f := .free "list") rfl)
  have z_tuple : mg "tuple" = none := free_ok X G (cd.fact 50 (f := .free "tuple") rfl)
  have z_dict : mg "dict" = none := free_ok X G (cd.fact 51 (f := .free "dict") rfl)
  have z_set : mg "set" = none := free_ok X G (cd.fact 52 (f := .free "set") rfl)
  have z_sorted : mg "sorted" = none := free_ok X G (cd.fact 53 (f := .free "sorted") rfl)
  have z_zip : mg "zip" = none := free_ok X G (cd.fact 54 (f := .free "zip") rfl)
  have z_reversed : mg "reversed" = none := free_ok X G (cd.fact 55 (f := .free "reversed") rfl)
  have z_divmod : mg "divmod" = none := free_ok X G (cd.fact 56 (f := .free "divmod") rfl)
  have z_enumerate : mg "enumerate" = none := free_ok X G (cd.fact 57 (f := .free "enumerate") rfl)
  have z_sum : mg "sum" = none := free_ok X G (cd.fact 58 (f := .free "sum") rfl)
  have z_max : mg "max" = none := free_ok X G (cd.fact 59 (f := .free "max") rfl)
  have z_min : mg "min" = none := free_ok X G (cd.fact 60 (f := .free "min") rfl)
  have z_range : mg "range" = none := free_ok X G (cd.fact 61 (f := .free "range") rfl)
  have cl : Cls K (ga K "Plain") := cls_ok (cd.fact 62 (f := .cls "Plain") rfl)
  have na : NoAttr K (ga K "Plain") "_sides" := noat_ok (cd.fact 63 (f := .noat "Plain" "_sides") rfl)
  have mk : Mk K (ga K "Plain") (ma K (ga K "Plain") "__init__") := mkr_ok (cd.fact 64 (f := .mkr "Plain") rfl)
  have clF : Cls K (ga K "Form") := cls_ok (cd.fact 65 (f := .cls "Form") rfl)
  have naF : NoAttr K (ga K "Form") "_parts" := noat_ok (cd.fact 66 (f := .noat "Form" "_parts") rfl)
  have mkF : Mk K (ga K "Form") (ma K (ga K "Form") "__init__") := mkr_ok (cd.fact 67 (f := .mkr "Form") rfl)
  have m_sides := meth_ok (cd.fact 68 (f := .meth "Plain" "sides") rfl)
  have m_sizes := meth_ok (cd.fact 69 (f := .meth "Plain" "sizes") rfl)
  have ins := insB_ok cl (bool_ok cc 0 (b := insB K (ga K "Plain")) rfl)
  have none_ := neB_ok (bool_ok cc 1 (b := neB K (ga K "Plain")) rfl)
  have insF := insB_ok clF (bool_ok cc 2 (b := insB K (ga K "Form")) rfl)
  have noneF := neB_ok (bool_ok cc 3 (b := neB K (ga K "Form")) rfl)
  have hgcd : mg "gcd" = some (.builtin "math.gcd") := bltB_ok X G (bool_ok cc 4 rfl)
  have oadd := ownB_ok (bool_ok cc 5 (b := ownB K (ga K "Form") "__add__") rfl)
  have osub := ownB_ok (bool_ok cc 6 (b := ownB K (ga K "Form") "__sub__") rfl)
  have oneg := ownB_ok (bool_ok cc 7 (b := ownB K (ga K "Form") "__neg__") rfl)
  have ki : PySem.W.kitOne K (.ref (ga K "Form")) (.type "int") = some false := of_decide_eq_true (bool_ok cc 8 rfl)
  have e := hfa.symm.trans g_law
  cases e
  have hcode0 := code_of (p := pT0) F_ordered
  refine ⟨d_law, fun s u => bindsA (ps := ["_law_script"]) F_law (fun _ _ _ _ _ _ us hl => match us, hl with | [_], _ => rfl) s [u] rfl, fun base _ _ TBs => ?_⟩
  have TB0 := TBs (cT K pT0) (by simp)
  have B : Bl mg := ⟨z_isinstance, z_int, z_bool, z_str, z_len, z_all, z_any, z_list, z_tuple, z_dict, z_set, z_sorted, z_zip, z_reversed, z_divmod⟩
  have B4 : E3.Bt4 mg := ⟨z_sum, z_max, z_range, z_len⟩
  have V : Cv K mg (ga K "Plain") := ⟨ins, g_Plain⟩
  have T : Px P w K mg base (ga K "Plain") := ⟨cl, na⟩
  have BF : E2.Bt K mg (ga K "Form") := ⟨z_isinstance, z_int, z_bool, insF, ki, g_Form⟩
  have TF : E2.Fx P w K mg base (ga K "Form") := ⟨clF, naF, ⟨_, d_Form___init__, _, [], mkF, E2.ok_init F_Form___init__ clF naF, g_Form, b_Form___init__, .nil⟩⟩
  have hu0 : ∀ p ∈ ([((cT K pT0).2, qT0)] : List (Addr × Str)), p.1 = (cT K pT0).2 → p.2 = ("ordered.<locals>.<lambda>" : Str) := fun p hp _ => by
    rw [List.mem_singleton.mp hp]
    rfl
  have Il : Cal P w K mg base 1 "is_letter" spIsLet [] := cal_of F_is_letter.kp g_is_letter b_is_letter (ok_isLet F_is_letter B)
  have Ip : Cal P w K mg base 2 "is_product" spProdOk [] := cal_of F_is_product.kp g_is_product b_is_product (ok_prodOk F_is_product B Il)
  have Is : Cal P w K mg base 3 "is_side" spSideOk [] := cal_of F_is_side.kp g_is_side b_is_side (ok_sideOk F_is_side B Il Ip)
  have Nm : Cal P w K mg base 1 "names_of" (spNames K) [] := cal_of F_names_of.kp g_names_of b_names_of (ok_names F_names_of)
  have Ss : Cal P w K mg base 4 "is_sides" spSidesOk [] := cal_of F_is_sides.kp g_is_sides b_is_sides (ok_sidesOk F_is_sides B Is Nm)
  have fIn := ok_init (P := P) (w := w) (base := base) F_Plain___init__ B T Ss
  have M1 : Mak P w K mg base 5 "Plain" (ga K "Plain") (spInit (ga K "Plain")) [] := ⟨_, d_Plain___init__, _, [], mk, fIn, g_Plain, b_Plain___init__, .nil⟩
  have Sd_ : Met P w K mg base 1 (ga K "Plain") "sides" (spSides (ga K "Plain")) [] := ⟨_, d_Plain_sides, _, [], cl, m_sides, ok_sides F_Plain_sides B T, b_Plain_sides, .nil⟩
  have Sz : Met P w K mg base 1 (ga K "Plain") "sizes" (spSizes (ga K "Plain")) [] := ⟨_, d_Plain_sizes, _, [], cl, m_sizes, ok_sizes F_Plain_sizes B T, b_Plain_sizes, .nil⟩
  have O : EqP P w K mg base 1 (ga K "Plain") := ⟨_, d_Plain___eq__, _, none_, ok_eq F_Plain___eq__ B V T, b_Plain___eq__⟩
  have Ct : Cal P w K mg base 1 "check_table" (spCheckT (ga K "Plain")) [] := cal_of F_check_table.kp g_check_table b_check_table (ok_checkT F_check_table B V)
  have Lf : Cal P w K mg base 1 "left_of" (spLeft K) [] := cal_of F_left_of.kp g_left_of b_left_of (ok_left F_left_of B)
  have Mf : Cal P w K mg base 2 "misfit" (spMisfit K) [] := cal_of F_misfit.kp g_misfit b_misfit (ok_misfit F_misfit B Lf)
  have Or_ : Cal P w K mg base 2 "ordered" (spOrdered [((cT K pT0).2, qT0)] (ga K "Plain")) [] := cal_of F_ordered.kp g_ordered b_ordered (ok_ordered F_ordered hcode0 B TB0 List.mem_cons_self hu0 Sd_)
  have Ow : Cal P w K mg base 3 "own_order" (spOwn [((cT K pT0).2, qT0)] (ga K "Plain")) [] := cal_of F_own_order.kp g_own_order b_own_order (ok_own F_own_order Ct Or_ Mf Nm)
  have Cw : Cal P w K mg base 4 "check_own_places" (spCheckO [((cT K pT0).2, qT0)] (ga K "Plain")) [] := cal_of F_check_own_places.kp g_check_own_places b_check_own_places (ok_checkO F_check_own_places Ow)
  have Pr : Cal P w K mg base 1 "product_at" (spProd K) [] := cal_of F_product_at.kp g_product_at b_product_at (ok_prod F_product_at)
  have Tw : Cal P w K mg base 2 "twos" (spTwos (ga K "Plain")) [] := cal_of F_twos.kp g_twos b_twos (ok_twos F_twos Sz)
  have Ho : Cal P w K mg base 5 "hole" (spHole [((cT K pT0).2, qT0)] (ga K "Plain")) [] := cal_of F_hole.kp g_hole b_hole (ok_hole F_hole B Ct Cw Or_ Tw Pr)
  have Wh : Cal P w K mg base 1 "is_whole" (E2.spWhole (ga K "Form")) [] := cal_of F_is_whole.kp g_is_whole b_is_whole (E2.ok_whole F_is_whole BF)
  have Wo : Cal P w K mg base 1 "without_noughts" (E2.spWithout P w K) [] := cal_of F_without_noughts.kp g_without_noughts b_without_noughts (E2.ok_without F_without_noughts)
  have Nu : Cal P w K mg base 3 "number" (E2.spNumber P w K (ga K "Form")) [] := cal_of F_number.kp g_number b_number (E2.ok_number F_number TF Wh Wo)
  have Ri_ : Cal P w K mg base 4 "right_side" (E2.spRight P w K (ga K "Form")) [] := cal_of F_right_side.kp g_right_side b_right_side (E2.ok_right F_right_side BF Wh Nu)
  have Lo : Cal P w K mg base 1 "lowest" E2.spLowest [] := cal_of F_lowest.kp g_lowest b_lowest (E2.ok_lowest F_lowest hgcd)
  have Fs : Cal P w K mg base 2 "fraction_sum" (E2.spFrac K (· + ·)) [] := cal_of F_fraction_sum.kp g_fraction_sum b_fraction_sum (E2.ok_fracSum F_fraction_sum Lo)
  have fOa : FnOk P w K mg base CX0 5 (ma K (ga K "Form") "__add__") d_Form___add__ _ (E2.spAdd P w K (ga K "Form")) := E2.ok_add F_Form___add__ TF Ri_ Fs Wo
  have Ad : E2.OpM P w K mg base 5 (ga K "Form") "__add__" (E2.spAdd P w K (ga K "Form")) := ⟨_, d_Form___add__, _, oadd, fOa, b_Form___add__⟩
  have fOn : FnOk P w K mg base CX0 3 (ma K (ga K "Form") "__neg__") d_Form___neg__ _ (E2.spNeg P w K (ga K "Form") (fun q => -q)) := E2.ok_neg F_Form___neg__ TF
  have Ng : E2.OpM P w K mg base 3 (ga K "Form") "__neg__" (E2.spNeg P w K (ga K "Form") (fun q => -q)) := ⟨_, d_Form___neg__, _, oneg, fOn, b_Form___neg__⟩
  have fOs : FnOk P w K mg base CX0 6 (ma K (ga K "Form") "__sub__") d_Form___sub__ _ (E2.spSub P w K (ga K "Form")) := E2.ok_sub F_Form___sub__ Ri_ Ad Ng
  have Su : E2.OpM P w K mg base 6 (ga K "Form") "__sub__" (E2.spSub P w K (ga K "Form")) := ⟨_, d_Form___sub__, _, osub, fOs, b_Form___sub__⟩
  have EqF : EqM P w K mg base 1 (ga K "Form") := ⟨_, d_Form___eq__, _, noneF, E2.ok_eq F_Form___eq__ TF BF, b_Form___eq__⟩
  have Pf : Cal P w K mg base 3 "product_form" (spProdF P w K (ga K "Form")) [] := cal_of F_product_form.kp g_product_form b_product_form (ok_prodF F_product_form B TF)
  have Cwk : Cal P w K mg base 2 "check_walk" (spWalk (ga K "Plain")) [] := cal_of F_check_walk.kp g_check_walk b_check_walk (ok_walk F_check_walk B Il Sd_ Nm)
  have SdN : Met P w K mg base 1 (ga K "Plain") "sides" (spSidesN (ga K "Plain")) [] := ⟨_, d_Plain_sides, _, [], cl, m_sides, ok_sidesN F_Plain_sides B T, b_Plain_sides, .nil⟩
  have Io : Cal P w K mg base 2 "inside_out" (spInside (ga K "Plain")) [] := cal_of F_inside_out.kp g_inside_out b_inside_out (ok_inside F_inside_out B SdN)
  have IoN : Cal P w K mg base 2 "inside_out" (spInsideN (ga K "Plain")) [] := cal_of F_inside_out.kp g_inside_out b_inside_out (ok_insideN F_inside_out B SdN)
  have Is1 : Cal P w K mg base 3 "is_side" spSideOk1 [] := cal_of F_is_side.kp g_is_side b_is_side (ok_sideOk1 F_is_side B Il Ip)
  have Nm1 : Cal P w K mg base 1 "names_of" (spNames1 K) [] := cal_of F_names_of.kp g_names_of b_names_of (ok_names1 F_names_of)
  have Ss1 : Cal P w K mg base 4 "is_sides" spSidesOk1 [] := cal_of F_is_sides.kp g_is_sides b_is_sides (ok_sidesOk1 F_is_sides B Is1 Nm1)
  have Pm : Cal P w K mg base 1 "primes" (spPrimes K) [] := cal_of F_primes.kp g_primes b_primes (ok_primes F_primes B)
  have Fu : Cal P w K mg base 2 "first_unlike" (spUnlike K) [] := cal_of F_first_unlike.kp g_first_unlike b_first_unlike (ok_unlike F_first_unlike B z_min Pr)
  have fSm : FnOk P w K mg base CX0 6 (ga K "smooth") d_smooth _ (spSmooth [((cT K pT0).2, qT0)] (ga K "Plain")) := ok_smooth F_smooth Ow Ho Sd_ Nm
  have Sm : Cal P w K mg base 6 "smooth" (spSmooth [((cT K pT0).2, qT0)] (ga K "Plain")) [] := cal_of F_smooth.kp g_smooth b_smooth fSm
  have SmK : CalK P w K mg base 6 "smooth" (spSmooth [((cT K pT0).2, qT0)] (ga K "Plain")) ["table"] kvRev := ⟨_, _, _, _, fSm, g_smooth, F_smooth.kp, kbR1 F_smooth fun _ _ _ _ _ _ _ => rfl⟩
  have fJu : FnOk P w K mg base CX0 7 (ga K "jumps") d_jumps _ (spJumps P w K (ga K "Plain") (ga K "Form")) := ok_jumps F_jumps z_enumerate Ct Cwk Io Nu Pf Ad Su
  have Ju : Cal P w K mg base 7 "jumps" (spJumps P w K (ga K "Plain") (ga K "Form")) [] := cal_of F_jumps.kp g_jumps b_jumps fJu
  have JuK : CalK P w K mg base 7 "jumps" (spJumps P w K (ga K "Plain") (ga K "Form")) ["walk", "table"] kvRev := ⟨_, _, _, _, fJu, g_jumps, F_jumps.kp, kbR2 F_jumps fun _ _ _ _ _ _ _ _ => rfl⟩
  have fKp : FnOk P w K mg base CX0 4 (ga K "kept") d_kept _ (spKept P w K (ga K "Plain") (ga K "Form")) := ok_kept F_kept Ct Sd_ Sz Pf
  have Kp : Cal P w K mg base 4 "kept" (spKept P w K (ga K "Plain") (ga K "Form")) [] := cal_of F_kept.kp g_kept b_kept fKp
  have KpK : CalK P w K mg base 4 "kept" (spKept P w K (ga K "Plain") (ga K "Form")) ["size", "table"] kvRev := ⟨_, _, _, _, fKp, g_kept, F_kept.kp, kbR2 F_kept fun _ _ _ _ _ _ _ _ => rfl⟩
  have fAr : FnOk P w K mg base CX0 7 (ga K "arranged") d_arranged _ (spArr (ga K "Plain")) := ok_arr F_arranged B Ss1 Il M1
  have Ar : Cal P w K mg base 7 "arranged" (spArr (ga K "Plain")) [] := cal_of F_arranged.kp g_arranged b_arranged fAr
  have ArK : CalK P w K mg base 7 "arranged" (spArr (ga K "Plain")) ["size", "sides"] kvRev := ⟨_, _, _, _, fAr, g_arranged, F_arranged.kp, kbR2 F_arranged fun _ _ _ _ _ _ _ _ => rfl⟩
  have fJo : FnOk P w K mg base CX0 3 (ga K "joined") d_joined _ (spJoined K (ga K "Plain")) := ok_joined F_joined B Ct Cwk IoN
  have Jo : Cal P w K mg base 3 "joined" (spJoined K (ga K "Plain")) [] := cal_of F_joined.kp g_joined b_joined fJo
  have JoK : CalK P w K mg base 3 "joined" (spJoined K (ga K "Plain")) ["walk", "table"] kvRev := ⟨_, _, _, _, fJo, g_joined, F_joined.kp, kbR2 F_joined fun _ _ _ _ _ _ _ _ => rfl⟩
  have fSa : FnOk P w K mg base CX0 4 (ga K "same_run") d_same_run _ (spSame (ga K "Plain")) := ok_same F_same_run B Jo Pm Fu Sz
  have Sa : Cal P w K mg base 4 "same_run" (spSame (ga K "Plain")) [] := cal_of F_same_run.kp g_same_run b_same_run fSa
  have SaK : CalK P w K mg base 4 "same_run" (spSame (ga K "Plain")) ["route", "other", "walk", "table"] kvRev := ⟨_, _, _, _, fSa, g_same_run, F_same_run.kp, kbR4 F_same_run fun _ _ _ _ _ _ _ _ _ _ => rfl⟩
  have Pu : Cal P w K mg base 1 "_law_purse" (E3.spPurse K) [] := cal_of F__law_purse.kp g__law_purse b__law_purse (E3.ok_purse F__law_purse B4)
  have Mi : Cal P w K mg base 1 "_law_mixed" E3.spMixed [] := cal_of F__law_mixed.kp g__law_mixed b__law_mixed (E3.ok_mixed F__law_mixed)
  have D : Cal P w K mg base 2 "_law_draw" E3.spDraw [] := cal_of F__law_draw.kp g__law_draw b__law_draw (E3.ok_draw F__law_draw B4 Mi)
  have Oo : Cal P w K mg base 3 "_law_one_of" (spOneOf K) [] := cal_of F__law_one_of.kp g__law_one_of b__law_one_of (ok_oneOf F__law_one_of B D)
  have Sh : Cal P w K mg base 3 "_law_shuffled" (spShuf K) [] := cal_of F__law_shuffled.kp g__law_shuffled b__law_shuffled (ok_shuf F__law_shuffled B D)
  have ShV : Cal P w K mg base 3 "_law_shuffled" spShufV [] := cal_of F__law_shuffled.kp g__law_shuffled b__law_shuffled (ok_shufV F__law_shuffled B D)
  have Le : Cal P w K mg base 4 "_law_letters" spLetters [] := cal_of F__law_letters.kp g__law_letters b__law_letters (ok_letters F__law_letters B4 D Oo)
  have Na : Cal P w K mg base 4 "_law_names" spNamesL [] := cal_of F__law_names.kp g__law_names b__law_names (ok_namesL F__law_names Sh)
  have Ch : Cal P w K mg base 5 "_law_chain" spChain [] := cal_of F__law_chain.kp g__law_chain b__law_chain (ok_chain F__law_chain B D Sh Le Na)
  exact ok_law F_law B4 B Pu D Ch M1 O EqF Sz Ju JuK Sm SmK Kp KpK Jo JoK Sa SaK Ar ArK
end E4

set_option Elab.async false
set_option linter.all false
set_option maxRecDepth 100000
set_option maxHeartbeats 0
/-! the head: the top's run, and the law -/
open PySem PySem.W PySem.Calls PyProof.Rows
set_option maxRecDepth 100000 in
set_option maxHeartbeats 0 in
theorem PySem.Challenge.cw_cellplaces_k65_moves_by_name_holds : PySem.Challenge.rw_cellplaces_k65_moves_by_name.Holds := by
  w_on; o_law
  refine HandSHeadRun.head_imp (r := OpenLaw.row PySem.Challenge.rw_cellplaces_k65_moves_by_name) (q := view (OpenLaw.row PySem.Challenge.rw_cellplaces_k65_moves_by_name).prog [0, 60]) (H := E4.hk) (ob := E4.ob) (M := 20000) (loose := E4.looseAll) (d := HandSHeadRun.topDef (OpenLaw.row PySem.Challenge.rw_cellplaces_k65_moves_by_name).prog 60) (kwd := []) E4.ob_eq
    E4.run (by kernel_rfl) (by kernel_rfl) (by kernel_rfl) (by rfl) (by first | assumption | decide +kernel) (by decide +kernel) ⟨rfl, rfl, rfl, rfl, rfl, by decide +kernel⟩ ?hw ?hc
  case hw => w_witness2
  case hc =>
    refine LamX.walk_ofTsE (l := PySem.Challenge.rw_cellplaces_k65_moves_by_name) (n := 63) (k := 8) (x := "_law_script") (CX := fun _ => L2.CX0) rfl (by decide) (by kernel_rfl) ⟨rfl, by decide, by decide⟩ ?F (fun _ _ _ _ _ z => z)
    intro w mg fa h Y G hmg0
    obtain ⟨K, KX, c⟩ := Y
    have hmg : mg ("law" : PySem.Str) = some (.ref fa) := by
      have e : (HandSHeadRun.topDef (OpenLaw.row PySem.Challenge.rw_cellplaces_k65_moves_by_name).prog 60).name = ("law" : PySem.Str) := by kernel_rfl
      rw [← e]
      exact hmg0
    obtain ⟨fd, hb, hF⟩ := E4.facts (P := (PySem.Challenge.rw_cellplaces_k65_moves_by_name).prog) (w := w) KX G hmg c
    have one : ∀ p ∈ [He.cT K E4.pT0], ∃ d ∈ ([E4.pT0] : List He.Defn), p = He.cT K d := fun p hp => by
      simp only [List.mem_cons, List.not_mem_nil, or_false] at hp ⊢
      first | exact ⟨_, rfl, hp⟩ | (rcases hp with h | h <;> exact ⟨_, by simp, h⟩)
    refine ⟨K, KX, fd, [He.cT K E4.pT0], E4.spLaw [((He.cT K E4.pT0).2, E4.qT0)] K, fun p hp => ?_, fun p hp => ?_, fun p hp => ?_, hb, fun H a ns hl _ hT hS => ⟨a, ns, rfl, hS, hl, fun p hp => ?_, fun _ => rfl⟩, hF⟩
    · obtain ⟨d, hd, rfl⟩ := one p hp; exact c.empty _ hd
    · obtain ⟨d, hd, rfl⟩ := one p hp; exact c.out _ hd
    · obtain ⟨d, hd, rfl⟩ := one p hp; exact PySem.W.codeHd_of_K KX (c.hd _ hd)
    · simp only [List.mem_cons, List.not_mem_nil, or_false] at hp
      first | (subst hp; exact ⟨#[], hT _ (by simp), trivial, fun pos cv e => by cases e⟩) | (rcases hp with h | h <;> subst h <;> exact ⟨#[], hT _ (by simp), trivial, fun pos cv e => by cases e⟩)
