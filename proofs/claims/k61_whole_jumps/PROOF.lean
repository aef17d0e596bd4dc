import PyProof.Rows.All
import Wide.All
import OpenK.AllK
import Wide.FinOn
import HandS.ForExc
import HandS.ExcInit
import HandS.ExcIs
import HandS.ExcField
import HandS.Defaults
import HandS.IsInst
import HandS.ExcValue
import HandS.ForMost
import KE.KOpsOwn
import HandS.Ends
import HandS.Words
import HandS.Codes
import HandS.Head0
import HandS.Head1
import HandS.Head2
import HandS.HeadEnd
import HandS.HeadHook1
import HandS.List
import HandS.Conv
import PyProof.TupleOfSeq
import PyProof.Rows.SortShellAny
import HandS.SetBool
import HandS.Walk
import HandS.Wide
import HandS.WideBits
import HandS.Comp
import HandS.SetFor
import HandS.DictComp
import HandS.More
import HandS.Iter
import KE.KDictWalk
import KE.KDictDisplayH
import HandS.Gcd
import HandS.WordsDict
import HandS.Lambda
import KE.SortKeyHeap
import KE.KLam
import HandS.New
import HandS.Text
import KE.KStateDown
import HandS.Head3
import HandS.HeadWalk
import HandS.HeadHook4
import HandS.Strs
import KE.DataFind
import HandS.Sort
import KE.KDictList
import PyProof.CompUse
import HandS.MakeKw
import HandS.DictEq
import PyProof.InstNe
import HandS.Flow
import PyProof.NeKinds
import PyProof.MeetsIn
import KE.KEqDict
import HandS.SortInts
import HandS.Dict
import HandS.Style
import HandS.Finally
import HandS.Deep
import PyProof.P3Eq
import HandS.TupAny
import HandS.OwnEq
import PyProof.P3In
import HandS.RaiseMore
import PySem.Challenge.RW_cellplaces_k61_whole_jumps
set_option Elab.async false
set_option linter.all false
set_option maxRecDepth 100000
set_option maxHeartbeats 4000000
/-! An own exception class called with one keyword: the maker takes it and lets it be, the own __init__ gets it. -/
namespace KwE
open PySem PySem.W PySem.Calls PyProof.Rows PySem.HandSPX
section
variable {prog : Program} {w : World} {A : Around} {E : Value → Shared → Prop} {R : Result → Shared → Prop} {hp : Heap} {gs : Array GenState} {dr : Drawn} {tk : Nat} {os : OsState}
variable {nm q : Str} {C N fI : Addr} {bs bm bmB : List Value} {hd : Bool} {sn : List Str} {sub : List Value} {ab : Bool} {col : Option Bool} {dd : Option Addr} {k0 k1 k2 k3 k5 : Option Value} {B new_ init_ : String} {us : List Value} {kn : Str} {kv : Value}
/-- what the class's line says of the base's names -/
structure Line (B : String) (C : Addr) (bm : List Value) : Prop where
  b : (Value.ref C :: bm).contains (.type B) = true
  a : (Value.ref C :: bm).contains (.type "AttributeError") = false
  n : (Value.ref C :: bm).contains (.type "NameError") = false
theorem Line.of (F : ExcBaseFacts B new_ init_ bmB) (same : ∀ X : String, bm.contains (.type X) = bmB.contains (.type X)) : Line B C bm := by
  constructor <;> rw [List.contains_cons, same]
  · rw [F.hasB, Bool.or_true]
  · rw [F.noAttr]; rfl
  · rw [F.noName]; rfl
end
end KwE

set_option Elab.async false
set_option linter.all false
set_option maxRecDepth 100000
set_option maxHeartbeats 4000000
namespace PySem.W
open PySem PySem.Spec PySem.Calls PyProof.Rows
section
variable {prog : Program} {w : World} {A : Around} {E : Value → Shared → Prop} {s : Shared} {K : Frag} {x D : Addr} {ox : Obj} {od : Option Obj}
end
end PySem.W
namespace L2
open PySem PySem.Spec PyProof.Rows
/-- an exception object of the own class at C: with its attributes, or bare -/
inductive ExT (H : Hp) (e C : Addr) : List (Str × V) → Prop where
  | own {d : Addr} {fs : List (Str × V)} (h1 : H e = some (exo e C (some d))) (h2 : H d = some (exd d fs)) : ExT H e C fs
  | bare (h : H e = some (ExO (.ref C) e)) : ExT H e C []
theorem ExT.same {H H' : Hp} {e C : Addr} {fs : List (Str × V)} (S : Same H H') : ExT H e C fs → ExT H' e C fs
  | .own h1 h2 => .own (S _ _ h1) (S _ _ h2)
  | .bare h => .bare (S _ _ h)
section
variable {X : Cx} {pins : List (Addr × Obj)} {σ : St} {H : Hp} {s : Shared} {e C : Addr} {fs : List (Str × V)}
end
/-- __init__(self, f): self.f = f -/
def spExI (K : PySem.W.Frag) (f : Str) : Sp := fun vs H Q _ => ∃ (a C : Addr) (y : V), vs = [.ref a, y] ∧ OexC K C ∧ PySem.W.findIn K (.ref C) f = some none ∧ H a = some (exo a C none) ∧
  ∀ dx, H dx = none → dx ≠ a → Q .non (upd (upd H dx (exd dx [(f, y)])) a (exo a C (some dx)))
end L2

set_option Elab.async false
set_option linter.all false
set_option maxRecDepth 100000
set_option maxHeartbeats 4000000
namespace L2
open PySem PySem.Spec PyProof.Rows
/-- an own exception class at C, called x, whose __init__ sets the one attribute f (None where it is not given) -/
structure ExM (P : Program) (w : World) (K : PySem.W.Frag) (mg : Str → Option Value) (base : Heap) (x : Str) (C : Addr) (f : Str) : Prop where
  mgC : mg x = some (.ref C)
  oex : OexC K C
  xc : ExcC K C
  noF : PySem.W.findIn K (.ref C) f = some none
  hmk : ∃ (fI : Addr) (fd : FuncData) (ps : List Str), PySem.W.findIn K (.ref C) "__init__" = some (some (.ref fI)) ∧ PySem.W.typeIn K (.ref fI) = some (.type "function") ∧ FnOk P w K mg base CX0 1 fI fd ps (spExI K f) ∧
    (∀ (self u : Value) (s' : Shared), K.In s'.heap → BindsTo s' fd ⟨[self, u], []⟩ (ps.zip [self, u])) ∧ (∀ (self u : Value) (s' : Shared), K.In s'.heap → BindsTo s' fd ⟨[self], [(f, u)]⟩ (ps.zip [self, u])) ∧
    (∀ (self : Value) (s' : Shared), K.In s'.heap → BindsTo s' fd ⟨[self], []⟩ (ps.zip [self, .none]))
/-- an own exception class at C, called x, without an __init__ of its own -/
structure ExB (K : PySem.W.Frag) (mg : Str → Option Value) (x : Str) (C : Addr) : Prop where
  mgC : mg x = some (.ref C)
  xc : ExcC K C
  kC : PySem.W.keepIn K (.ref C) = true
  is : ∃ bmB, ExcBaseFacts "ValueError" "ValueError.__new__" "ValueError.__init__" bmB ∧ PySem.W.excIn K C bmB "ValueError.__new__" = true
section
variable {X : Cx} {x f : Str} {C : Addr} {e : Expr} {te : TE} {p pos kpos : Pos}
end

end L2

set_option Elab.async false
set_option linter.all false
set_option maxRecDepth 100000
set_option maxHeartbeats 400000
namespace L2
open PySem PySem.Spec PyProof.Rows
section
variable {P : Program} {w : World} {K : PySem.W.Frag} {mg : Str → Option Value} {base : Heap} {x qual : Str} {C fI : Addr} {fd : FuncData} {p1 p2 p3 q1 q2 q3 q4 : Pos}
end
end L2

set_option Elab.async false
set_option linter.all false
set_option maxRecDepth 100000
set_option maxHeartbeats 1000000
namespace L2
open PySem PySem.Spec PyProof.Rows
/-- a def's promise where no repr is under way around it -/
structure FnG (P : Program) (w : World) (K : PySem.W.Frag) (mg : Str → Option Value) (base : Heap) (k : Nat) (f : Addr) (fd : FuncData) (ps : List Str) (sp : Sp) : Prop where
  len : ∀ vs H Q E, sp vs H Q E → vs.length = ps.length
  go : ∀ (A : Around) (outer : List Env) (s : Shared) (H : Hp) (args : Args) (us : List Value) (vs : List V) (Q : VK) (E : XK), A.guards = some [] → Room k A → Env0 P w K mg base A outer s H → BindsTo s fd args (ps.zip us) → Vals vs us →
    sp vs H Q E → codeAny (model P w) A (.call (.ref f) args) (CR CX0 outer P w H s Q E) s
section
variable {P : Program} {w : World} {K : PySem.W.Frag} {mg : Str → Option Value} {base : Heap}
end
end L2

set_option Elab.async false
set_option linter.all false
set_option maxRecDepth 100000
set_option maxHeartbeats 1000000
namespace L2
open PySem PySem.Spec PyProof.Rows
theorem Same.upd {H : Hp} {p : Addr} {o : HO} (h : H p = none) : Same H (L2.upd H p o) := fun b u q => by
  rw [upd_ne (ne_of_none q h)]
  exact q
section
variable {X : Cx} {x y : Str} {C : Addr} {p q r pos : Pos} {i : Nat}
end
end L2

set_option Elab.async false
set_option linter.all false
set_option maxRecDepth 100000
set_option maxHeartbeats 1000000
namespace L2
open PySem PySem.Spec PyProof.Rows
/-- v shows as the data d: data without dicts, or a flat dict -/
inductive Shw (K : PySem.W.Frag) (H : Hp) : V → PyData → Prop where
  | dp {v : V} {d : PyData} (h : Dp K H v d) (n : d.hasDict = false) : Shw K H v d
  | d0 {q : Addr} (h : H q = some (.dK [])) : Shw K H (.ref q) (.dict [])
  | d1 {q : Addr} {x : Str} {i : Int} (h : H q = some (.dK [(.inr x, .int i)])) : Shw K H (.ref q) (.dict [(.str x, .int i)])
section
variable {X : Cx} {pins : List (Addr × Obj)} {σ : St} {H : Hp} {s : Shared}
theorem Shw.reads (I : Inv X pins σ H s) {v : V} {d : PyData} {u : Value} (h : Shw X.K H v d) (r : RelV v u) : ∃ as, Reads s.heap u d as ∧ (d.hasDict = true → sysModules ∉ as) := by
  cases h with
  | dp h n =>
    obtain ⟨as, q⟩ := Dp.reads I d v u h r
    exact ⟨as, q, fun z => by rw [n] at z; cases z⟩
  | @d0 q h =>
    obtain rfl : u = Value.ref q := r
    obtain ⟨_, ne, vs, kv, o, es, ep, ho, ex, hd, _, ps, _⟩ := dk_of I.hok h
    cases kv
    have e0 : es.toList = [] := by
      cases hl : es.toList with
      | nil => rfl
      | cons a l => rw [hl] at ps; cases ps
    refine ⟨_, Reads.dict (kvs := []) ho ex.1 hd (by rw [e0]; exact .nil) (by rw [e0]; exact .nil), fun _ hm => ?_⟩
    have hm' : sysModules ∈ [q] := by simpa using hm
    have e : sysModules = q := by simpa using hm'
    rw [← e] at ne
    exact absurd ne (by decide)
  | @d1 q x i h =>
    obtain rfl : u = Value.ref q := r
    obtain ⟨_, ne, vs, kv, o, es, ep, ho, ex, hd, _, ps, _⟩ := dk_of I.hok h
    cases kv with
    | @cons _ kw _ vs' hk kt =>
      cases kt
      obtain ⟨k, w'⟩ := kw
      obtain ⟨ek, ri⟩ := hk
      dsimp only at ek ri
      subst ek
      obtain ⟨t', rfl⟩ := (show ∃ t, w' = Value.int i t from ri)
      generalize hl : es.toList = l at ps
      cases ps with
      | @cons a _ l' _ k1 k2 pl =>
        cases pl
        rcases keyIs_shape (show keyIs (.inr x) a.key = true from k1) with ⟨_, _, z, _⟩ | ⟨y, ty, z, e2⟩
        · cases z
        · cases z
          refine ⟨_, Reads.dict (kvs := [(.str x, .int i)]) ho ex.1 hd (by rw [hl]; exact .cons (by show Reads s.heap a.key (.str x) _; rw [e2]; exact .str x ty) .nil) (by rw [hl]; exact .cons (by show Reads s.heap a.val (.int i) _; rw [k2]; exact .int i t') .nil), fun _ hm => ?_⟩
          have e : sysModules = q := by simpa using hm
          rw [← e] at ne
          exact absurd ne (by decide)
end
end L2

set_option Elab.async false
set_option linter.all false
set_option maxRecDepth 100000
set_option maxHeartbeats 1000000
namespace L2
open PySem PySem.Spec PyProof.Rows
/-- a new object at p, all else as it was: what is wanted of it -/
def NewQ (H : Hp) (o : HO) (Q : VK) : Prop := ∀ p H', Same H H' → H p = none → H' p = some o → Q (.ref p) H'
theorem NewQ.at {H : Hp} {o : HO} {Q : VK} (h : NewQ H o Q) {p : Addr} (n : H p = none) : Q (.ref p) (L2.upd H p o) := h p _ (Same.upd n) n upd_same
def tLstS (t : TA) : TE := fun σ H Q => t σ H fun xs H1 => xs.length ≤ sizeLine ∧ NewQ H1 (.lst xs) Q
def tTupS (t : TA) : TE := fun σ H Q => t σ H fun xs H1 => xs.length ≤ sizeLine ∧ NewQ H1 (.tup xs) Q
def rCatS : R2 := fun x y H Q => ∃ l b xs zs, x = .ref l ∧ y = .ref b ∧ H l = some (.lst xs) ∧ H b = some (.lst zs) ∧ xs.length + zs.length ≤ sizeLine ∧ NewQ H (.lst (xs ++ zs)) Q
def rSlW (K : PySem.W.Frag) : V → Option Int → Option Int → Hp → VK → Prop := fun x lo hi H Q => ∃ a xs, x = .ref a ∧ SqL K H a xs ∧ NewQ H (.lst (cutV xs lo hi)) Q
section
variable {X : Cx} {es : List Expr} {t : TA} {pos : Pos}
theorem pe_lstS (h : PA X es t) : PE X (.List es pos) (tLstS t) :=
  ⟨fun pins s σ H Q I hq => wpAny_List_spliced (thn (h.run pos pins s σ H _ I hq) fun us s1 ⟨xs, H1, I1, r, z, q⟩ => ⟨by rw [← r.length]; exact z,
    .ref s1.heap.objs.size, _, I1.laid (t' := s1.toks) (o := .lst xs) (fun _ _ e => Heap.get?_push_of_some _ e) (Nat.le_refl _) ⟨z, us, 0, r, Heap.get?_push_size _ rfl⟩, rfl, q.at I1.fresh⟩)⟩
theorem pe_tupS {x1} (h : PA X es t) : PE X (.Tuple es x1 pos) (tTupS t) :=
  ⟨fun pins s σ H Q I hq => wpAny_Tuple_spliced (thn (h.run pos pins s σ H _ I hq) fun us s1 ⟨xs, H1, I1, r, z, q⟩ => ⟨by rw [← r.length]; exact z,
    .ref s1.heap.objs.size, _, I1.laid (t' := s1.toks) (o := .tup xs) (fun _ _ e => Heap.get?_push_of_some _ e) (Nat.le_refl _) ⟨z, us, r, ⟨_, Heap.get?_push_size _ rfl, rfl, _, rfl⟩⟩, rfl, q.at I1.fresh⟩)⟩
theorem op_catS : OpR X (binaryOp .Add) rCatS := fun pins s σ H x y v u Q I rx ry ⟨l, b, xs, zs, e1, e2, h1, h2, hz, q⟩ => op_cat pins s σ H x y v u Q I rx ry ⟨l, b, xs, zs, e1, e2, h1, h2, hz, fun _ n => q.at n⟩
theorem sl_listS : SlR X (rSlW X.K) := fun pins s σ H x v vl vu lo hi sl Q I rx hs hl hh ⟨a, xs, e, h, q⟩ => sl_list pins s σ H x v vl vu lo hi sl Q I rx hs hl hh ⟨a, xs, e, h, fun _ n => q.at n⟩
/-- {} with text or int keys -/
theorem pe_dnewS : PE X (.Dict [] [] pos) (fun _ H Q => NewQ H (.dK []) Q) := ⟨fun pins s σ H Q I h => pe_dnewK.run pins s σ H Q I fun _ n => NewQ.at h n⟩
end
theorem Same.lst {H H' : Hp} {a : Addr} {o : HO} (S : Same H H') (h : H a = some o) : H' a = some o := S _ _ h
end L2

set_option Elab.async false
set_option linter.all false
set_option maxRecDepth 100000
set_option maxHeartbeats 1000000
/-! a + b, a * b, -a where a is an instance of an own class that says what they are. -/
namespace L2
open PySem PySem.Spec PyProof.Rows
theorem back_of {X : Cx} {pins : List (Addr × Obj)} {σ : St} {Q : VK} {u : Value} {s : Shared} (h : EP X pins σ Q u s) : PySem.W.CmpBack (EP X pins σ Q) u s := by
  obtain ⟨v, H, I, r, q⟩ := h
  have h : EP X pins σ Q u s := ⟨v, H, I, r, q⟩
  cases v with
  | non => obtain rfl := (show u = Value.none from r); exact h
  | bl b => obtain rfl := (show u = Value.bool b from r); exact h
  | int i => obtain ⟨t, rfl⟩ := (show ∃ t, u = Value.int i t from r); exact h
  | str i => obtain ⟨t, rfl⟩ := (show ∃ t, u = Value.str i t from r); exact h
  | byt i => obtain ⟨t, rfl⟩ := (show ∃ t, u = Value.bytes i t from r); exact h
  | flt i => obtain ⟨t, rfl⟩ := (show ∃ t, u = Value.float i t from r); exact h
  | ref a => obtain rfl := (show u = Value.ref a from r); exact h
  | ty n => obtain rfl := (show u = Value.type n from r); exact h
/-- what the class says of an operator's method -/
structure OwnOp (K : PySem.W.Frag) (C : Addr) (name : Str) (f : Addr) : Prop where
  first : PySem.W.selfFirst K C = true
  has : PySem.W.findIn K (.ref C) name = some (some (.ref f))
  fn : PySem.W.isFn K (.ref f) = true
/-- the same where the right side is a whole number: int's own slots, and no reflected method of the class's -/
structure OwnOpI (K : PySem.W.Frag) (C : Addr) (name : String) (f : Addr) : Prop where
  one : OwnOp K C (PySem.dunder name) f
  refl : ∃ rc, PySem.W.findIn K (.ref C) (dunderR name) = some rc ∧ (rc = none ∨ ∃ g : Addr, rc = some (.ref g))
  i1 : ∃ fo, PySem.W.findIn K (.type "int") (PySem.dunder name) = some fo
  i2 : ∃ ro, PySem.W.findIn K (.type "int") (dunderR name) = some ro
  sub : PySem.W.subIn K (.type "int") (.ref C) = some false
def rOwn (C : Addr) (sp : Sp) : R2 := fun x y H Q => ∃ p q dx fs dy gs, x = .ref p ∧ y = .ref q ∧ H p = some (.ins C dx fs) ∧ H q = some (.ins C dy gs) ∧ sp [x, y] H Q E0
def rOwnI (C : Addr) (sp : Sp) : R2 := fun x y H Q => ∃ p n dx fs, x = .ref p ∧ y = .int n ∧ H p = some (.ins C dx fs) ∧ sp [x, y] H Q E0
def rOwnN (C : Addr) (sp : Sp) : V → Hp → VK → Prop := fun x H Q => ∃ p dx fs, x = .ref p ∧ H p = some (.ins C dx fs) ∧ sp [x] H Q E0
section
variable {X : Cx} {op : Operator} {C f : Addr} {fd : FuncData} {ps : List Str} {sp : Sp} {k : Nat}
theorem inst_of {pins : List (Addr × Obj)} {σ : St} {H : Hp} {s : Shared} {p dx : Addr} {fs : List (Str × V)} (I : Inv X pins σ H s) (e : H p = some (.ins C dx fs)) : ∃ ox od, PySem.W.InstAt s.heap p ox C od := by
  obtain ⟨mA, O, _⟩ := ins_get I.hok e
  obtain ⟨od, J, _⟩ := O.look
  exact ⟨_, _, J⟩
theorem op_own (O : OwnOp X.K C (PySem.dunder op.info.2) f) (F : FnOk X.prog X.w X.K X.mg X.base CX0 k f fd ps sp) (hr : Room k X.A) (hb : Binds X.K fd ps []) : OpR X (binaryOp op) (rOwn C sp) := by
  intro pins s σ H x y v u Q I rx ry h
  obtain ⟨p, q, dx, fs, dy, gs, rfl, rfl, ep, eq, hq⟩ := h
  have run := run_fn (dvs := []) (E := E0) F hr hb .nil pass0 I (.cons rx (.cons ry .nil)) hq
  obtain rfl : v = Value.ref p := rx
  obtain rfl : u = Value.ref q := ry
  obtain ⟨ox, od, J⟩ := inst_of I ep
  obtain ⟨oy, oe, J2⟩ := inst_of I eq
  obtain ⟨m, fr⟩ := I.fr
  exact PySem.W.binop_K fr I.ok.mod.kin J J2.type O.first O.has O.fn (thn run fun _ _ z => back_of z)
theorem op_ownI (O : OwnOpI X.K C op.info.2 f) (F : FnOk X.prog X.w X.K X.mg X.base CX0 k f fd ps sp) (hr : Room k X.A) (hb : Binds X.K fd ps []) : OpR X (binaryOp op) (rOwnI C sp) := by
  intro pins s σ H x y v u Q I rx ry h
  obtain ⟨p, n, dx, fs, rfl, rfl, ep, hq⟩ := h
  have run := run_fn (dvs := []) (E := E0) F hr hb .nil pass0 I (.cons rx (.cons ry .nil)) hq
  obtain rfl : v = Value.ref p := rx
  obtain ⟨t, rfl⟩ := ry
  obtain ⟨ox, od, J⟩ := inst_of I ep
  obtain ⟨m, fr⟩ := I.fr
  obtain ⟨rc, r1, r2⟩ := O.refl
  obtain ⟨fo, i1⟩ := O.i1
  obtain ⟨ro, i2⟩ := O.i2
  exact PySem.W.ksp_binT fr I.ok.mod.kin J (T := "int") rfl O.one.first O.one.has O.one.fn r1 r2 i1 i2 O.sub (thn run fun _ _ z => back_of z)
theorem un_own (O : OwnOp X.K C "__neg__" f) (F : FnOk X.prog X.w X.K X.mg X.base CX0 k f fd ps sp) (hr : Room k X.A) (hb : Binds X.K fd ps []) : UnR X (unaryOp .USub) (rOwnN C sp) := by
  intro pins s σ H x v Q I rx h
  obtain ⟨p, dx, fs, rfl, ep, hq⟩ := h
  have run := run_fn (dvs := []) (E := E0) F hr hb .nil pass0 I (.cons rx .nil) hq
  obtain rfl : v = Value.ref p := rx
  obtain ⟨ox, od, J⟩ := inst_of I ep
  obtain ⟨m, fr⟩ := I.fr
  exact PySem.W.ksp_neg fr I.ok.mod.kin J O.has O.fn run
end
end L2

set_option Elab.async false
set_option linter.all false
set_option maxRecDepth 100000
set_option maxHeartbeats 1000000
/-! A head by facts: one Bool of the law's own, and the defs. -/
namespace Hb
open PySem PySem.Spec PyProof.Rows L2 He
abbrev AlB : Type := Bool × List FnV
def obsB (ex : PySem.W.Frag → Bool) (fn : List FnD) (K : PySem.W.Frag) : AlB := (ex K && fn.all fun d => (Fa.code d.at_ d.qual).ok K && PySem.W.keepIn K (.ref (fAd K d.at_)), fn.map fun d => fnObs K d.at_)
def valB (fn : List FnD) : AlB := (true, fn.map FnD.val)
def SaysB (ex : PySem.W.Frag → Bool) (fn : List FnD) (K : PySem.W.Frag) : Prop := obsB ex fn K = valB fn
section
variable {ex : PySem.W.Frag → Bool} {fn : List FnD} {K : PySem.W.Frag}
theorem SaysB.bool (c : SaysB ex fn K) : ex K = true := (ba (show (ex K && fn.all fun d => (Fa.code d.at_ d.qual).ok K && PySem.W.keepIn K (.ref (fAd K d.at_))) = true from congrArg (fun z : AlB => z.1) c)).1
end
theorem bindsA {K : PySem.W.Frag} {x qual : Str} {st : Stmt} {f : Addr} {fd : FuncData} {ps : List Str} (F : L2.Fun K x qual st f fd)
    (h : ∀ (kV doc pm : Value) (an : Option Addr) (cdv ct : Value) (us : List Value), us.length = ps.length → bindArgs (PySem.W.fnOf x qual (defArgs st) (defBody st) (defScope st) .none kV doc pm an cdv ct) ⟨us, []⟩ = pure (ps.zip us)) (s : Shared) (us : List Value) (hl : us.length = ps.length) : BindsTo s fd ⟨us, []⟩ (ps.zip us) := by
  obtain ⟨oc, od, kV, doc, pm, an, cdv, ct, osl, rfl, lk, hcd⟩ := F.ex
  exact .of_eq (h kV doc pm an cdv ct us hl)
/-! own operators, isinstance, as Bools -/
section
variable {K : PySem.W.Frag} {C : Addr}
def ownB (K : PySem.W.Frag) (C : Addr) (m : Str) : Bool := PySem.W.selfFirst K C && (eqO (PySem.W.findIn K (.ref C) m) (some (some (.ref (ma K C m)))) && PySem.W.isFn K (.ref (ma K C m)))
theorem ownB_ok {m : Str} (h : ownB K C m = true) : OwnOp K C m (ma K C m) :=
  let ⟨h1, h2⟩ := ba h
  let ⟨h3, h4⟩ := ba h2
  ⟨h1, eqO_ok h3, h4⟩
def ownIB (K : PySem.W.Frag) (C : Addr) (name : String) : Bool := ownB K C (PySem.dunder name) && ((match PySem.W.findIn K (.ref C) (dunderR name) with
  | some none => true
  | some (some (.ref _)) => true
  | _ => false) && ((PySem.W.findIn K (.type "int") (PySem.dunder name)).isSome && ((PySem.W.findIn K (.type "int") (dunderR name)).isSome && decide (PySem.W.subIn K (.type "int") (.ref C) = some false))))
theorem ownIB_ok {name : String} (h : ownIB K C name = true) : OwnOpI K C name (ma K C (PySem.dunder name)) := by
  obtain ⟨h1, h⟩ := ba h
  obtain ⟨h2, h⟩ := ba h
  obtain ⟨h3, h⟩ := ba h
  obtain ⟨h4, h5⟩ := ba h
  refine ⟨ownB_ok h1, ?_, Option.isSome_iff_exists.mp h3, Option.isSome_iff_exists.mp h4, of_decide_eq_true h5⟩
  split at h2
  · rename_i e
    exact ⟨_, e, .inl rfl⟩
  · rename_i a e
    exact ⟨_, e, .inr ⟨a, rfl⟩⟩
  · cases h2
def insB (K : PySem.W.Frag) (C : Addr) : Bool := eqO (PySem.W.findIn K (.ref C) "__class__") (some (some (.builtin "object.__class__"))) && (eqO (PySem.W.specialIn K (.builtin "object.__class__") "__get__") (some (some (.builtin "getset_descriptor.__get__"))) &&
  (decide (PySem.W.takesIn K (.builtin "object.__class__") = some true) && (decide (PySem.W.mroIn K C (.type "object") = some true) && decide (PySem.W.kitOne K (.ref C) (.ref C) = some true))))
theorem insB_ok (c : Cls K C) (h : insB K C = true) : C8.InsC K C := by
  obtain ⟨h1, h⟩ := ba h
  obtain ⟨h2, h⟩ := ba h
  obtain ⟨h3, h⟩ := ba h
  obtain ⟨h4, h5⟩ := ba h
  exact ⟨c, eqO_ok h1, eqO_ok h2, of_decide_eq_true h3, of_decide_eq_true h4, of_decide_eq_true h5⟩
/-- a global that is a built-in function -/
def bltB (K : PySem.W.Frag) (x : Str) (n : String) : Bool := eqO (PySem.W.nsIn K mainGlobals x) (some (some (.builtin n)))
theorem bltB_ok {h : Heap} {mg : Str → Option Value} (X : K.In h) (G : h.Ns mainGlobals mg) {x : Str} {n : String} (c : bltB K x n = true) : mg x = some (.builtin n) := PySem.W.mg_of X G (eqO_ok c)
theorem bool_ok {l : List Bool} (h : (l.all id) = true) (i : Nat) {b : Bool} (hi : l[i]? = some b := by rfl) : b = true := List.all_eq_true.mp h b (List.mem_of_getElem? hi)
end
end Hb

set_option Elab.async false
set_option linter.all false
set_option maxRecDepth 100000
set_option maxHeartbeats 1000000
/-! sorted(t), t a tuple of texts -/
namespace L2
open PySem PySem.Spec PyProof.Rows
def rSortedTS (K : PySem.W.Frag) : List V → Hp → VK → Prop := fun vs H Q => ∃ (a : Addr) (xs : List Str), vs = [V.ref a] ∧ SqT K H a (xs.map V.str) ∧ xs.length ≤ sizeLine ∧
  ∀ (ys : List Str), ys.Perm xs → sortedS ys = true → NewQ H (.lst (ys.map V.str)) Q
theorem cr_sortedTS {X : Cx} : CallR X (.builtin "sorted") (rSortedTS X.K) := by
  intro pins s σ H vs us Q I r h
  obtain ⟨a, xs, rfl, hs, hz, q⟩ := h
  obtain ⟨its, rv, tp, _⟩ := I.tuple hs
  obtain ⟨o, ho, hc, n, hd⟩ := tp
  have hlen0 := rv.length
  rw [List.length_map] at hlen0
  have hS := rv.strs
  rw [Vals.ref1 r]
  refine Calls.call_function_entry kind_sorted plain_sorted entry_sorted (args_sorted1 _) ?_
  unfold Builtin.«sorted»
  refine wpAny_bind (m := checkCount "sorted" 1 1 _) (wpAny_pure ?_)
  refine wpAny_bind (wpAny_collect_seq a (.inr rfl) ho hc hd (fun h' hk => ?_) (by rw [List.size_toArray]; omega))
  rw [List.toList_toArray]
  have I1 : Inv X pins σ H { s with heap := h' } := I.kept (t' := s.toks) hk
  refine wpAny_bind (wpAny_newList ?_ (by omega))
  have hoL : (h'.push (seqObj "list" its.toArray 0)).get? h'.objs.size = some (seqObj "list" its.toArray 0) := Heap.get?_push_size _ rfl
  show wpAny _ _ _ _ _ { s with heap := h'.push (seqObj "list" its.toArray 0) }
  refine wpAny_bind (wpAny_holding (wpAny_call_entry slot_list_sort ⟨_, hoL, rfl⟩ entry_list_sort (list_sort_treeKAny strKind_oneLt hoL hS.keysOf (fun v₁ v₂ rest e => keyKind_strs (by rw [← e]; exact hS)) (by omega) fun st' hp hs => ⟨_, rfl, ?_⟩) (args_list_sort _)))
  obtain ⟨ys, h1, h2, h3⟩ := sorted_out_str hS hp hs
  obtain ⟨ep, he'⟩ := sortedHeap_at (vs := its) (out := (arrOf st').map (·.2)) hoL
  have hlen : (ys.map V.str).length ≤ sizeLine := by rw [List.length_map, h2.length_eq]; exact hz
  refine wpAny_pure ⟨_, rfl, .ref h'.objs.size, upd H h'.objs.size (.lst (ys.map V.str)), I1.laid (t' := s.toks) (fun b u e => ?_) (Nat.le_refl _) ⟨hlen, _, ep, vals_of_strs h1, he'⟩, rfl, (q ys h2 h3).at I1.fresh⟩
  have lt := Heap.lt_size e
  rw [sortedHeap_old (Nat.ne_of_lt lt) (by rw [size_push']; exact Nat.lt_succ_of_lt lt)]
  exact Heap.get?_push_of_some _ e
end L2

set_option Elab.async false
set_option linter.all false
set_option maxRecDepth 100000
set_option maxHeartbeats 2000000
/-! A set of texts, by the list of its members. -/
namespace L2
open PySem PySem.Spec PyProof.Rows
/-- an entry is a text under its hash -/
def GoodS (P : Program) (w : World) (e : Int × Value) : Prop := ∃ (x : Str) (t : Tok), e = ((PySem.strKind P w).hash x, .str x t)
def keyS (e : Int × Value) : Str := match e.2 with
  | .str x _ => x
  | _ => Str.empty
def SetS (P : Program) (w : World) (h : Heap) (a : Addr) (ks : List Str) : Prop := ∃ o es ep t, h.get? a = some o ∧ o.ExactSet ∧ o.data = .set es ep t ∧ (∀ e ∈ es.toList, GoodS P w e) ∧ (es.toList.map keyS).Perm ks ∧ ks.Nodup ∧
  es.size < scanBound ∧ t.fits es.size = true ∧ Ris t.place.toList ∧ (w.params.followText "set-order" = true ∨ t.led = true)
section
variable {P : Program} {w : World} {h h' : Heap} {a : Addr} {ks : List Str}
theorem SetS.at (R : SetS P w h a ks) (k : ∀ o, h.get? a = some o → h'.get? a = some o) : SetS P w h' a ks := let ⟨o, es, ep, t, ho, r⟩ := R; ⟨o, es, ep, t, k o ho, r⟩
theorem goodS_is {e : Int × Value} (g : GoodS P w e) (k : Str) : (PySem.strKind P w).is k e.2 = true ↔ keyS e = k := by
  obtain ⟨x, t, rfl⟩ := g
  unfold keyS
  show Value.isStrOf k (.str x t) = true ↔ x = k
  simp [Value.isStrOf]
theorem goodS_elems {l : List (Int × Value)} (g : ∀ e ∈ l, GoodS P w e) : ElemsOf (PySem.strKind P w) l := fun e he => by
  obtain ⟨x, t, rfl⟩ := g e he
  exact ⟨⟨x, strKind_is P w x t, rfl⟩, rfl⟩
theorem goodS_mem {l : List (Int × Value)} (g : ∀ e ∈ l, GoodS P w e) (k : Str) : k ∈ l.map keyS ↔ ∃ e ∈ l, (PySem.strKind P w).is k e.2 = true := by
  rw [List.mem_map]
  exact ⟨fun ⟨e, he, q⟩ => ⟨e, he, (goodS_is (g e he) k).mpr q⟩, fun ⟨e, he, q⟩ => ⟨e, he, (goodS_is (g e he) k).mp q⟩⟩
theorem setS_new (w : World) (P : Program) (h : Heap) : SetS P w (h.push { cls := .type "set", dict := none, data := .set #[] 0 (.fresh 0 0 (!w.params.followText "set-order")) }) h.objs.size [] := by
  refine ⟨_, #[], 0, _, Heap.get?_push_size _ rfl, ⟨rfl, rfl, rfl⟩, rfl, fun e he => absurd he (by simp), .nil, List.nodup_nil, by decide, rfl, List.Pairwise.nil, ?_⟩
  cases c : w.params.followText "set-order" with
  | true => exact .inl rfl
  | false => exact .inr rfl
end
section
variable {P : Program} {w : World} {A : Around} {E : Value → Shared → Prop} {s : Shared} {a : Addr} {ks : List Str}
/-- sorted of it -/
theorem setS_sorted {Q : Value → Shared → Prop} (R : SetS P w s.heap a ks) (hh : A.handled = none)
    (hQ : ∀ s' p (out : Array Value) (c : Nat) (ys : List Str), (∀ b o, s.heap.get? b = some o → s'.heap.get? b = some o) → s'.gens = s.gens → s'.os = s.os → s.heap.objs.size ≤ p → s'.heap.get? p = some (seqObj "list" out c) → StrsAre out.toList ys → ys.Perm ks → sortedS ys = true → Q (.ref p) s') :
    wpAny (model P w) A (call (.builtin "sorted") [.ref a]) Q E s := by
  obtain ⟨o, es, ep, t, ho, hex, hd, g, pm0, nd, hb, hf, hr, hl⟩ := R
  refine Calls.call_function_entry kind_sorted plain_sorted entry_sorted (args_sorted1 _) ?_
  unfold Builtin.«sorted»
  refine wpAny_bind (m := checkCount "sorted" 1 1 _) (wpAny_pure ?_)
  refine wpAny_bind (collect_set (A := A.in1) hh ⟨o, ho, hex.1, hd⟩ hf hb hr hl fun s1 vs k1 hz g1 o1 pm => ?_)
  have vl : vs.length < scanBound := by rw [pm.length_eq, List.length_map, Array.length_toList]; exact hb
  have texts : ∀ l : List Value, (∀ v ∈ l, ∃ x tk, v = Value.str x tk) → StrsAre l (l.map fun v => keyS (0, v)) := by
    intro l
    induction l with
    | nil => intro _; exact .nil
    | cons v l ih =>
      intro h
      obtain ⟨x, tk, rfl⟩ := h v (List.mem_cons.mpr (.inl rfl))
      exact .cons x tk (ih fun u hu => h u (List.mem_cons.mpr (.inr hu)))
  have hS := texts vs fun v hv => by
    obtain ⟨e, he, q⟩ := List.mem_map.mp (pm.mem_iff.mp hv)
    obtain ⟨x, tk, rfl⟩ := g e he
    exact ⟨x, tk, q.symm⟩
  have pk : (vs.map fun v => keyS (0, v)).Perm ks := by
    refine (pm.map fun v => keyS (0, v)).trans ?_
    rw [List.map_map]
    exact pm0
  have zl : vs.length ≤ sizeLine := fits_of_scanBound vl
  refine wpAny_bind (wpAny_newList ?_ zl)
  have hoL : (s1.heap.push (seqObj "list" vs.toArray 0)).get? s1.heap.objs.size = some (seqObj "list" vs.toArray 0) := Heap.get?_push_size _ rfl
  refine wpAny_bind (wpAny_holding (wpAny_call_entry slot_list_sort ⟨_, hoL, rfl⟩ entry_list_sort (list_sort_treeKAny strKind_oneLt hoL hS.keysOf (fun v₁ v₂ rest e => keyKind_strs (by rw [← e]; exact hS)) zl fun st' hp hs => ⟨_, rfl, ?_⟩) (args_list_sort _)))
  obtain ⟨ys, h1, h2, h3⟩ := sorted_out_str hS hp hs
  obtain ⟨c, hc⟩ := sortedHeap_at (vs := vs) (out := (arrOf st').map (·.2)) hoL
  refine wpAny_pure ⟨_, rfl, hQ _ s1.heap.objs.size _ c ys (fun b u e => ?_) g1 o1 hz hc h1 (h2.trans pk) h3⟩
  have q := k1 b u e
  have hlt := Heap.lt_size q
  show (sortedHeap (s1.heap.push (seqObj "list" vs.toArray 0)) s1.heap.objs.size vs _).get? b = some u
  rw [sortedHeap_old (Nat.ne_of_lt hlt) (by rw [size_push']; exact Nat.lt_succ_of_lt hlt)]
  exact Heap.get?_push_of_some _ q
end
end L2

set_option Elab.async false
set_option linter.all false
set_option maxRecDepth 100000
set_option maxHeartbeats 2000000
/-! A set of texts: one more. -/
namespace L2
open PySem PySem.Spec PyProof.Rows
section
variable {P : Program} {w : World} {A : Around} {E : Value → Shared → Prop} {s : Shared} {a : Addr} {ks : List Str}
/-- the entries laid down, and once more where the table is too full -/
theorem setS_tail {g : Bool → Sem Unit} (hg : ∀ (b : Bool) (s₁ : Shared) (Q' : Unit → Shared → Prop), Q' () s₁ → wpAny (model P w) A (g b) Q' E s₁) {o : Obj} {es es1 : Array (Int × Value)} {ep : Nat} {t t2 : SetTable} {ks1 : List Str}
    (ho : s.heap.get? a = some o) (hex : o.ExactSet) (hd : o.data = .set es ep t) (g1 : ∀ e ∈ es1.toList, GoodS P w e) (p1 : (es1.toList.map keyS).Perm ks1) (n1 : ks1.Nodup) (hb : es1.size < scanBound) (hf : t2.fits es1.size = true) (hr : Ris t2.place.toList)
    (hl : w.params.followText "set-order" = true ∨ t2.led = true) {wasDummy : Bool} {R : Option Bool → Shared → Prop} (hR : ∀ h', Heap.SameBut a s.heap h' → SetS P w h' a ks1 → R (some true) { s with heap := h' }) :
    wpAny (model P w) A (do
        storeSet a es1 t2
        if (!wasDummy && t2.tooFull) = true then do
            g (relayAll t2 es1 (SetTable.grown es1.size)).2.2
            storeSet a (relayAll t2 es1 (SetTable.grown es1.size)).1 (relayAll t2 es1 (SetTable.grown es1.size)).2.1
            pure (some true)
          else pure (some true)) R E s := by
  have at_ : ∀ {h : Heap} {o : Obj} {es es' : Array (Int × Value)} {ep : Nat} {t t' : SetTable}, h.get? a = some o → o.data = .set es ep t → (h.update a (Obj.putSet es' t')).get? a = some { o with data := .set es' (ep + 1) t' } := by
    intro h o es es' ep t t' ho hd
    have q := Heap.get?_update_self (Obj.putSet es' t') ho (by rw [putSet_of es' t' hd]; rfl)
    rwa [putSet_of es' t' hd] at q
  refine wpAny_bind (wpAny_storeSet_of ho hd ?_ (fits_of_scanBound hb))
  have h1 := at_ (es' := es1) (t' := t2) ho hd
  have b1 := Heap.SameBut.update s.heap a (Obj.putSet es1 t2)
  split
  · have pm := relayAll_perm t2 es1 (SetTable.grown es1.size)
    have z1 := relayAll_fits t2 es1 (SetTable.grown es1.size)
    have z2 := relayAll_ris t2 es1 (SetTable.grown es1.size)
    have z3 := relayAll_led t2 es1 (SetTable.grown es1.size)
    generalize relayAll t2 es1 (SetTable.grown es1.size) = Z at pm z1 z2 z3 ⊢
    obtain ⟨es2, t3, gave⟩ := Z
    dsimp only at pm z1 z2 z3 ⊢
    have es : es2.size = es1.size := by rw [← Array.length_toList, pm.length_eq, Array.length_toList]
    refine wpAny_bind (hg _ _ _ (wpAny_bind (wpAny_storeSet_of h1 rfl (wpAny_pure (hR _ (b1.trans (Heap.SameBut.update _ a _)) ?_)) (fits_of_scanBound (by rw [es]; exact hb)))))
    exact ⟨_, es2, _, t3, at_ h1 rfl, hex, rfl, fun e he => g1 e (pm.mem_iff.mp he), (pm.map keyS).trans p1, n1, by rw [es]; exact hb, z1, z2, hl.imp id fun z => by rw [z3]; exact z⟩
  · exact wpAny_pure (hR _ b1 ⟨_, es1, _, t2, h1, hex, rfl, g1, p1, n1, hb, hf, hr, hl⟩)
theorem setS_hashed {x : Str} {tk : Tok} {Q : Bool → Shared → Prop} (R : SetS P w s.heap a ks) (room : ks.length + 1 < scanBound)
    (hQ : ∀ b h', Heap.SameBut a s.heap h' → SetS P w h' a (if x ∈ ks then ks else x :: ks) → Q b { s with heap := h' }) : wpAny (model P w) A (setAddHashed a (.str x tk) ((PySem.strKind P w).hash x)) Q E s := by
  obtain ⟨o, es, ep, t, ho, hex, hd, g, pm0, nd, hb, hf, hr, hl⟩ := R
  have hkey : (PySem.strKind P w).is x (.str x tk) = true := strKind_is P w x tk
  have hsc : (Value.str x tk).scannable = true := rfl
  have hel := goodS_elems g
  unfold setAddHashed setAddHashedIn
  refine wpAny_holding (wpAny_bind (wpAny_setState_of ho hd hf ?_))
  dsimp only
  rw [byScan_of hsc hb hel]
  simp only [↓reduceIte]
  unfold setAddByScan
  refine wpAny_bind ?_
  refine wpAny_bind (wpAny_rule ?_)
  refine wpAny_bind (wpAny_setScan_of hkey ho hd hf hel ?_)
  cases hfi : List.findIdx? (fun e => (PySem.strKind P w).is x e.2) es.toList with
  | some j =>
    dsimp only
    obtain ⟨hj, pj, _⟩ := List.findIdx?_eq_some_iff_getElem.mp hfi
    have hin : x ∈ ks := pm0.mem_iff.mp ((goodS_mem g x).mpr ⟨es.toList[j], List.getElem_mem hj, pj⟩)
    refine wpAny_pure (wpAny_pure (hQ _ s.heap (Heap.SameBut.refl a s.heap) ?_))
    rw [if_pos hin]
    exact ⟨o, es, ep, t, ho, hex, hd, g, pm0, nd, hb, hf, hr, hl⟩
  | none =>
    dsimp only
    have hnot : x ∉ ks := fun z => by
      obtain ⟨e, he, q⟩ := (goodS_mem g x).mp (pm0.mem_iff.mpr z)
      have c := List.findIdx?_eq_none_iff.mp hfi e he
      rw [q] at c
      cases c
    rw [if_neg hnot] at hQ
    have gw : ∀ (b : Bool) {s₁ : Shared} {Q' : Unit → Shared → Prop}, Q' () s₁ → wpAny (model P w) A (match b with | true => rule "set.scan.the-table-gave-way" | false => pure ()) Q' E s₁ :=
      fun b s₁ Q' q => by cases b <;> first | exact wpAny_pure q | exact wpAny_rule q
    have pm := layNew_perm t es ((PySem.strKind P w).hash x) (.str x tk)
    have y1 := layNew_fits t es ((PySem.strKind P w).hash x) (.str x tk)
    have y2 := layNew_ris t es ((PySem.strKind P w).hash x) (.str x tk) hr
    have y3 := layNew_led t es ((PySem.strKind P w).hash x) (.str x tk)
    generalize layNew t es ((PySem.strKind P w).hash x) (.str x tk) = Z at pm y1 y2 y3 ⊢
    obtain ⟨es1, t1, wasDummy, gave⟩ := Z
    dsimp only at pm y1 y2 y3 ⊢
    rw [Array.toList_push] at pm
    have pc : es1.toList.Perm (((PySem.strKind P w).hash x, Value.str x tk) :: es.toList) := pm.trans (List.perm_append_singleton _ _)
    have g1 : ∀ e ∈ es1.toList, GoodS P w e := fun e he => by
      rcases List.mem_cons.mp (pc.mem_iff.mp he) with z | z
      · exact ⟨x, tk, z⟩
      · exact g e z
    have p1 : (es1.toList.map keyS).Perm (x :: ks) := (pc.map keyS).trans (List.Perm.cons x pm0)
    have n1 : (x :: ks).Nodup := List.nodup_cons.mpr ⟨hnot, nd⟩
    have size1 : es1.size = ks.length + 1 := by
      have := p1.length_eq
      rw [List.length_map, Array.length_toList, List.length_cons] at this
      exact this
    have b1 : es1.size < scanBound := by rw [size1]; exact room
    have l1 : w.params.followText "set-order" = true ∨ t1.led = true := hl.imp id fun z => by rw [y3]; exact z
    refine wpAny_bind (gw _ ?_)
    split
    · refine wpAny_bind ?_
      rw [hashByValue_scannable 8 hsc]
      refine wpAny_pure ?_
      refine setS_tail ?_ ho hex hd g1 p1 n1 b1 ?_ ?_ ?_ ?_
      · intro b s₁ Q' q; cases b <;> first | exact wpAny_pure q | exact wpAny_rule q
      · first | (split <;> first | exact y1 | exact SetTable.fits_plain_off y1) | exact y1
      · first | (split <;> exact y2) | exact y2
      · first | (split <;> exact l1) | exact l1
      · intro h' sb r; dsimp only; exact wpAny_pure (hQ _ h' sb r)
    · refine wpAny_bind (wpAny_pure ?_)
      simp only [↓reduceIte]
      refine setS_tail ?_ ho hex hd g1 p1 n1 b1 y1 y2 l1 ?_
      · intro b s₁ Q' q; cases b <;> first | exact wpAny_pure q | exact wpAny_rule q
      · intro h' sb r; dsimp only; exact wpAny_pure (hQ _ h' sb r)
theorem SetS.typeIs (R : SetS P w s.heap a ks) : s.TypeIs (.ref a) "set" := let ⟨o, _, _, _, ho, hex, _⟩ := R; ⟨o, ho, hex.1⟩
theorem setS_add {x : Str} {tk : Tok} {Q : Value → Shared → Prop} (R : SetS P w s.heap a ks) (room : ks.length + 1 < scanBound)
    (hQ : ∀ h' t, Heap.SameBut a s.heap h' → SetS P w h' a (if x ∈ ks then ks else x :: ks) → Q .none { s with heap := h', toks := t }) : wpAny (model P w) A (call (.builtin "set.add") [.ref a, .str x tk]) Q E s := by
  refine wpAny_call_entry F.slot_set_add R.typeIs F.entry_set_add ?_ (F.args_set_add_2 _ _)
  unfold Builtin.«set.add» Builtin.Frozenset.oneOther
  simp only [List.isEmpty_nil, bind_assoc]
  unfold Builtin.Frozenset.addrOf setAdd
  refine wpAny_bind (wpAny_pure ?_)
  try dsimp only
  refine wpAny_bind (wpAny_pure ?_)
  try dsimp only
  refine wpAny_bind ?_
  refine wpAny_holding ?_
  refine wpAny_bind ((PySem.strKind P w).pyHash (strKind_is P w x tk) ?_)
  refine setS_hashed (s := { s with toks := s.toks + 1 }) R room fun _ h' sb r => ?_
  show wpAny _ _ (ret Value.none) _ _ _
  exact wpAny_pure ⟨_, rfl, hQ h' _ sb r⟩
end
end L2

set_option Elab.async false
set_option linter.all false
set_option maxRecDepth 100000
set_option maxHeartbeats 2000000
/-! A set of texts made by a comprehension of two clauses without tests. -/
namespace L2
open PySem PySem.Spec PyProof.Rows
/-- the set of texts at a, as a thing that is followed -/
def SetSO (P : Program) (w : World) (a : Addr) (ks : List Str) : HO := .ext fun h => SetS P w h a ks
theorem setSO_new {P P' : Program} {w w' : World} {H : Hp} {h : Heap} {a : Addr} {ks : List Str} (R : SetS P w h a ks) : ObjOk P' w' H h a (SetSO P w a ks) := by
  have ⟨o, _, _, _, ho, _⟩ := R
  exact ⟨R, ⟨o, ho⟩, fun h1 h2 p k => SetS.at p k⟩
/-- one text more -/
def putS (ks : List Str) (x : Str) : List Str := if x ∈ ks then ks else x :: ks
section
variable {X : Cx}
theorem setSO_get {pins : List (Addr × Obj)} {σ : L2.St} {H : Hp} {s : Shared} {P : Program} {w : World} {a : Addr} {ks : List Str} (I : Inv X pins σ H s) (ha : H a = some (SetSO P w a ks)) : SetS P w s.heap a ks := (I.hok a _ ha).1
theorem addS_ok {pins : List (Addr × Obj)} {σ : L2.St} {H : Hp} {s : Shared} {E : Value → Shared → Prop} {D : Addr} {ks : List Str} {x : Str} {tk : Tok} {Q : Value → Shared → Prop} (I : Inv X pins σ H s) (hD : H D = some (SetSO X.prog X.w D ks)) (room : ks.length + 1 < scanBound)
    (h : ∀ s', Inv X pins σ (upd H D (SetSO X.prog X.w D (putS ks x))) s' → Q .none s') : wpAny (model X.prog X.w) X.A (call (.builtin "set.add") [.ref D, .str x tk]) Q E s := by
  refine setS_add (setSO_get I hD) room fun h' t sb new => ?_
  obtain ⟨o, _, _, _, ho, _⟩ := id new
  exact h _ (I.write (e := D) (t' := t) (by rw [hD]; trivial) (.inl rfl) (fun b u hb hu => (sb.2 b hb).trans hu) ⟨o, ho⟩ (setSO_new new))
end
section
variable {prog : Program} {w : World} {A : Around} {R : Result → Shared → Prop} {s : Shared} {elt t0 i0 t1 i1 : Expr} {scope : Scope} {pos : Pos} {it acc : Value} {env : Env}
/-- the comprehension that is spoken of -/
abbrev sc2 (elt t0 i0 t1 i1 : Expr) (scope : Scope) (pos : Pos) : Expr := .SetComp elt [⟨t0, i0, [], 0⟩, ⟨t1, i1, [], 0⟩] scope pos
theorem eval_sc2 : eval (sc2 elt t0 i0 t1 i1 scope pos) env = comprehension (sc2 elt t0 i0 t1 i1 scope pos) scope env (firstIterPos [⟨t0, i0, [], 0⟩, ⟨t1, i1, [], 0⟩] pos) (newSet (.type "set")) false (eval i0 env) := rfl
theorem sc2_turn0 : compTurn (sc2 elt t0 i0 t1 i1 scope pos) 0 it acc env = (do
      standAt i0.pos
      match ← pyNext it with
      | none => pure (.done .next)
      | some v =>
        letOwnedTupleGo t0 it v
        assign t0 env v
        let src ← eval i1 env
        standAt i1.pos
        let src ← foldedSetIterable i1 env src
        let _ ← runOwn (.compStart (sc2 elt t0 i0 t1 i1 scope pos) 1 (← holding [src] (pyIter src)) acc env) env
        again (.compLoop (sc2 elt t0 i0 t1 i1 scope pos) 0 it acc env)) := by rfl
theorem sc2_turn1 : compTurn (sc2 elt t0 i0 t1 i1 scope pos) 1 it acc env = (do
      standAt i1.pos
      match ← pyNext it with
      | none => pure (.done .next)
      | some v =>
        letOwnedTupleGo t1 it v
        assign t1 env v
        (do let u ← eval elt env; standAt elt.pos; let _ ← call (.builtin "set.add") [acc, u])
        again (.compLoop (sc2 elt t0 i0 t1 i1 scope pos) 1 it acc env)) := by rfl
end
end L2
namespace L2
open PySem PySem.Spec PyProof.Rows
section
variable {prog : Program} {w : World} {A : Around} {R : Result → Shared → Prop} {s : Shared} {elt t0 i0 t1 i1 : Expr} {scope : Scope} {pos : Pos} {it acc : Value} {env : Env}
/-- nothing is raised -/
abbrev NoE : Value → Shared → Prop := fun _ _ => False
/-- the outer loop, J by what is left to do -/
theorem sc2_loop0 (hs : ∀ x, foldedSetIterable i1 env x = pure x) (J : Nat → Shared → Prop)
    (turn : ∀ n s, J n s → wpAny (model prog w) A (pyNext it) (fun r s1 => match r with
      | none => R (.ok .next) s1
      | some v => wpAny (model prog w) A (letOwnedTupleGo t0 it v) (fun _ s2 => wpAny (model prog w) A (assign t0 env v) (fun _ s3 => wpAny (model prog w) A (eval i1 env) (fun x s4 => wpAny (model prog w) A (pyIter x) (fun it1 s5 =>
          codeAny (model prog w) A (.compStart (sc2 elt t0 i0 t1 i1 scope pos) 1 it1 acc env) (fun r s' => match r with
            | .ok _ => ∃ m, m < n ∧ J m s'
            | .error _ => False) s5) NoE s4) NoE s3) NoE s2) NoE s1) NoE s) (n : Nat) (h : J n s) : codeAny (model prog w) A (.compLoop (sc2 elt t0 i0 t1 i1 scope pos) 0 it acc env) R s := by
  refine codeAny_loop rfl J (fun n s hJ => ?_) n h
  show wpAny _ A ((compTurn (sc2 elt t0 i0 t1 i1 scope pos) 0 it acc env).onRaise (fun x => do noteFrame x env; theTreesLotGoes x)) _ _ s
  refine wpAny_noted ?_
  rw [sc2_turn0]
  refine wpAny_bind (wpAny_standAt (wpAny_bind (thnF (turn n s hJ) fun r s1 h1 => ?_)))
  cases r with
  | none => exact wpAny_pure h1
  | some v =>
    refine wpAny_bind (thnF h1 fun _ s2 h2 => wpAny_bind (thnF h2 fun _ s3 h3 => wpAny_bind (thnF h3 fun x s4 h4 => wpAny_bind (wpAny_standAt (wpAny_bind (wpAny_of_eq (hs x) (wpAny_bind (wpAny_holding (thnF h4 fun it1 s5 h5 => ?_)))))))))
    refine wpAny_bind (wpAny_runOwn ?_)
    rw [Around.mark_none]
    refine codeAny_mono h5 fun r s' hr => ?_
    cases r with
    | ok f => first | exact wpAny_pure ⟨rfl, hr⟩ | exact wpAny_bind (wpAny_pure (wpAny_pure ⟨rfl, hr⟩))
    | error e => exact hr.elim
/-- the inner loop -/
theorem sc2_loop1 (J : Nat → Shared → Prop)
    (turn : ∀ n s, J n s → wpAny (model prog w) A (pyNext it) (fun r s1 => match r with
      | none => R (.ok .next) s1
      | some v => wpAny (model prog w) A (letOwnedTupleGo t1 it v) (fun _ s2 => wpAny (model prog w) A (assign t1 env v) (fun _ s3 => wpAny (model prog w) A (eval elt env) (fun x s4 =>
          wpAny (model prog w) A (call (.builtin "set.add") [acc, x]) (fun _ s5 => ∃ m, m < n ∧ J m s5) NoE s4) NoE s3) NoE s2) NoE s1) NoE s) (n : Nat) (h : J n s) :
    codeAny (model prog w) A (.compLoop (sc2 elt t0 i0 t1 i1 scope pos) 1 it acc env) R s := by
  refine codeAny_loop rfl J (fun n s hJ => ?_) n h
  show wpAny _ A ((compTurn (sc2 elt t0 i0 t1 i1 scope pos) 1 it acc env).onRaise (fun x => do noteFrame x env; theTreesLotGoes x)) _ _ s
  refine wpAny_noted ?_
  rw [sc2_turn1]
  refine wpAny_bind (wpAny_standAt (wpAny_bind (thnF (turn n s hJ) fun r s1 h1 => ?_)))
  cases r with
  | none => exact wpAny_pure h1
  | some v =>
    refine wpAny_bind (thnF h1 fun _ s2 h2 => wpAny_bind (thnF h2 fun _ s3 h3 => ?_))
    exact wpAny_bind (wpAny_bind (thnF h3 fun x s4 h4 => wpAny_bind (wpAny_standAt (wpAny_bind (thnF h4 fun _ s5 h5 => wpAny_pure (wpAny_pure ⟨rfl, h5⟩))))))
/-- the inner loop's start -/
theorem sc2_start1 (h0 : codeAny (model prog w) A (.compLoop (sc2 elt t0 i0 t1 i1 scope pos) 1 it acc env) R s)
    (h : wpAny (model prog w) A (pyIter it) (fun it' s' => codeAny (model prog w) A (.compLoop (sc2 elt t0 i0 t1 i1 scope pos) 1 it' acc env) R s')
      (notedBy (model prog w) A env fun x s' => R (.error x) s') s) : codeAny (model prog w) A (.compStart (sc2 elt t0 i0 t1 i1 scope pos) 1 it acc env) R s := by
  refine codeAny_of_tree ?_
  show wpAny _ _ ((compStart (sc2 elt t0 i0 t1 i1 scope pos) 1 it acc env).onRaise (fun x => do noteFrame x env; standAt theWindowsPlace)) _ _ s
  refine wpAny_notedAt ?_
  unfold compStart
  show wpAny _ _ (ask >>= _) _ _ s
  refine wpAny_bind (wpAny_askSetting (wpAny_ite ?_))
  split
  · first
      | exact wpAny_bind (wpAny_pure (wpAny_pure (And.intro rfl h0)))
      | exact wpAny_pure (And.intro rfl h0)
  · first
      | exact wpAny_bind (wpAny_rule (wpAny_bind (wpAny_standAt (wpAny_bind (wpAny_mono h (fun it' s' h' => wpAny_pure (And.intro rfl h')) fun _ _ x => x)))))
      | (refine wpAny_bind (wpAny_rule ?_); show wpAny _ _ (standAt i1.pos >>= _) _ _ s; exact wpAny_bind (wpAny_standAt (wpAny_bind (wpAny_mono h (fun it' s' h' => wpAny_pure (And.intro rfl h')) fun _ _ x => x))))
end
section
variable {X : Cx}
/-- {elt for tg in iter for tg1 in iter1}: as tLc2 without tests, D the set -/
def tSc2 (P : Program) (w : World) (wi : TI) (g : TG) (wi1 : TI) (g1 : TG) (te : TE) (vs vs1 : List Nat) : TE := fun σ H Q => wi σ H fun J H1 => ∀ D, H1 D = none → ∃ W : Nat → Nat → Hp → Prop, (∃ m, W 0 m (upd H1 D (SetSO P w D []))) ∧ ∀ i m H, W i m H →
  (J.stop i H ∧ Q (.ref D) H) ∨ (J.go i H ∧ ∃ Nx : Hp → Prop, (∀ H', Nx H' → ∃ m', m' < m ∧ W (i + 1) m' H') ∧ ∀ x H', J.yld i H x H' → g x (wipe σ vs) H' fun σ2 H2 => wipe σ2 vs = wipe σ vs ∧
    wi1 σ2 H2 fun J1 H4 => ∃ W1 : Nat → Nat → Hp → Prop, (∃ m, W1 0 m H4) ∧ ∀ j k H, W1 j k H →
      (J1.stop j H ∧ Nx H) ∨ (J1.go j H ∧ ∃ Nx1 : Hp → Prop, (∀ H', Nx1 H' → ∃ k', k' < k ∧ W1 (j + 1) k' H') ∧ ∀ x H', J1.yld j H x H' → g1 x (wipe σ2 vs1) H' fun σ3 H5 => wipe σ3 vs1 = wipe σ2 vs1 ∧
        te σ3 H5 fun y H7 => ∃ z ks, y = .str z ∧ H7 D = some (SetSO P w D ks) ∧ ks.length + 1 < scanBound ∧ Nx1 (upd H7 D (SetSO P w D (putS ks z)))))
/-- what a block's part is, wherever the block starts -/
abbrev InBlk (X : Cx) (scope : Scope) (p : Cx → Prop) : Prop := ∀ (s : Shared) (H : Hp) (C : Addr) (cl : List (Str × Addr)) (fp : List Addr), p (X.blk s H scope (compEnvC scope cl C X.env) fp)
theorem pe_sc2 {elt tg iter tg1 iter1 : Expr} {scope : Scope} {own : List (Str × Nat)} {vs1 : List Nat} {pos : Pos} {wi wi1 : TI} {g g1 : TG} {te : TE} (hc : X.calm = true) (hN : X.N.Nodup) (hi : PI X tg iter wi) (ok : BlkOk X.N X.env.scope scope own) (hv : ∀ i ∈ vs1, i ∈ own.map (·.2))
    (hg : InBlk X scope fun Y => PG Y tg g) (hi1 : InBlk X scope fun Y => PI Y tg1 iter1 wi1) (hg1 : InBlk X scope fun Y => PG Y tg1 g1) (he : InBlk X scope fun Y => PE Y elt te)
    (hs : ∀ x, foldedSetIterable iter X.env x = pure x := by intro _; rfl) (hs1 : ∀ env x, foldedSetIterable iter1 env x = pure x := by intro _ _; rfl) :
    PE X (sc2 elt tg iter tg1 iter1 scope pos) (tSc2 X.prog X.w wi g wi1 g1 te (own.map (·.2)) vs1) := by
  refine ⟨fun pins s σ H Q I h => ?_⟩
  rw [eval_sc2]
  have caught : ∀ y ∈ scope.names, y.2 = .free → ∃ c, X.env.cells.lookup y.1 = some c := fun y hy e => by
    rcases ok.free y hy e with k | k
    · exact I.ok.has _ (.inl k)
    · exact I.ok.has _ (.inr k)
  refine wpAny_comprehension_free (use := none) rfl hs (closure_ok caught) ok.kind (fun y hy e => by rw [ok.uniq y hy, e]) (thn (hi.run pins s σ H _ I h) fun xv s1 hx => thn hx fun itv s2 h2 => ?_)
  obtain ⟨it, fp, tn, J, H2, rfl, I2, T, st2, f2, q⟩ := h2
  refine PpSet.newSet_ok (newEnv_comp ?_)
  generalize hD : s2.heap.objs.size = D
  obtain ⟨W, ⟨m0, w0⟩, turn⟩ := q D (I2.hok.fresh (Nat.le_of_eq hD))
  have fb : ∀ b ∈ fp, b < s2.heap.objs.size := fun b hb => let ⟨o, e, _⟩ := T.obj _ _ st2 b hb; Heap.lt_size e
  -- the set, laid
  have nw := setS_new X.w X.prog s2.heap
  generalize hnew : s2.heap.push { cls := .type "set", dict := none, data := .set #[] 0 (.fresh 0 0 (!X.w.params.followText "set-order")) } = h3 at nw
  have keep3 : ∀ b o, s2.heap.get? b = some o → h3.get? b = some o := fun b o e => by rw [← hnew]; exact Heap.get?_push_of_some _ e
  have size3 : h3.objs.size = s2.heap.objs.size + 1 := by rw [← hnew, Heap.size_push]
  rw [hD] at nw
  have I3 : Inv X pins σ (upd H2 D (SetSO X.prog X.w D [])) { s2 with heap := h3 } := I2.laid (t' := s2.toks) keep3 (Nat.le_of_eq hD) (setSO_new nw)
  have f3 : ∀ b ∈ fp, FpOk X pins (upd H2 D (SetSO X.prog X.w D [])) b ∧ b < h3.objs.size := fun b hb => by
    refine ⟨⟨?_, (f2 b hb).2⟩, by rw [size3]; exact Nat.lt_succ_of_lt (fb b hb)⟩
    rw [upd_ne (by rw [← hD]; exact Nat.ne_of_lt (fb b hb))]
    exact (f2 b hb).1
  have st3 : tn 0 h3 := T.keep _ _ _ st2 fun b _ o e => keep3 b o e
  generalize hs3 : ({ s2 with heap := h3 } : Shared) = s3 at I3
  have eh : s3.heap = h3 := by rw [← hs3]
  rw [← eh] at st3 f3 size3
  have I4 := block_start I3 ok hN f3
  generalize hH3 : upd H2 D (SetSO X.prog X.w D []) = H3 at I3 I4 w0 f3
  show codeAny _ _ (.compStart (sc2 elt tg iter tg1 iter1 scope pos) 0 (.ref it) (.ref D) (compEnvC scope (cellsFrom (s3.heap.objs.size + 1) scope.names (cloFrom X.env.cells scope.names [])) s3.heap.objs.size X.env))
    (compPost (model X.prog X.w) X.A X.xe none (EP X pins σ Q) (.ref D) s3.heap.objs.size) { s3 with heap := pushCells (s3.heap.push { cls := .type "dict", data := .dict #[] }) scope.names }
  have pg := hg s3 H3 s3.heap.objs.size (cellsFrom (s3.heap.objs.size + 1) scope.names (cloFrom X.env.cells scope.names [])) fp
  have pi1 := hi1 s3 H3 s3.heap.objs.size (cellsFrom (s3.heap.objs.size + 1) scope.names (cloFrom X.env.cells scope.names [])) fp
  have pg1 := hg1 s3 H3 s3.heap.objs.size (cellsFrom (s3.heap.objs.size + 1) scope.names (cloFrom X.env.cells scope.names [])) fp
  have pe := he s3 H3 s3.heap.objs.size (cellsFrom (s3.heap.objs.size + 1) scope.names (cloFrom X.env.cells scope.names [])) fp
  generalize hce : compEnvC scope (cellsFrom (s3.heap.objs.size + 1) scope.names (cloFrom X.env.cells scope.names [])) s3.heap.objs.size X.env = ce at I4 pg pi1 pg1 pe ⊢
  have cL : ce.locals = s3.heap.objs.size := by rw [← hce]; rfl
  generalize hs4 : ({ s3 with heap := pushCells (s3.heap.push { cls := .type "dict", data := .dict #[] }) scope.names } : Shared) = s4 at I4 ⊢
  have st4 : tn 0 s4.heap := by
    rw [← hs4]
    exact T.keep _ _ _ st3 fun b _ o e => pushCells_keeps _ _ _ _ (Heap.get?_push_of_some _ e)
  have pinned : ∀ {σ' : L2.St} {H' : Hp} {s' : Shared}, Inv (X.blk s3 H3 scope ce fp) [] σ' H' s' → (∀ b ∈ fp, H' b = none) → ∀ b ∈ fp, FpOk (X.blk s3 H3 scope ce fp) [] H' b := fun {σ' H' s'} I' hn b hb =>
    ⟨hn b hb, (I'.ok.exf b hb).1, I'.ok.exfs b hb, .inl hb, fun x c e => (I'.ok.exf b hb).2 x c e, fun p hp => absurd (show p ∈ ([] : List (Addr × Obj)) ++ [] from hp) (by simp)⟩
  have loop : codeAny (model X.prog X.w) X.A (.compLoop (sc2 elt tg iter tg1 iter1 scope pos) 0 (.ref it) (.ref D) ce) (compPost (model X.prog X.w) X.A X.xe none (EP X pins σ Q) (.ref D) s3.heap.objs.size) s4 := by
    refine sc2_loop0 (hs1 ce) (fun n s' => ∃ i H', Inv (X.blk s3 H3 scope ce fp) [] (wipe σ (own.map (·.2))) H' s' ∧ tn i s'.heap ∧ (∀ b ∈ fp, H' b = none) ∧ W i n H') ?_ m0 ⟨0, H3, I4, st4, fun b hb => (f3 b hb).1.1, w0⟩
    rintro n s5 ⟨i, H5, I5, st5, n5, w5⟩
    rcases turn i n H5 w5 with ⟨stop, qq⟩ | ⟨go, Nx, hNx, step⟩
    · refine thnF (T.done (X.blk s3 H3 scope ce fp) rfl rfl rfl hc i [] s5 _ H5 NoE I5 (pinned I5 n5) st5 stop) fun r s6 ⟨hr, I6⟩ => ?_
      subst hr
      have I7 : Inv X pins σ H5 s6 := I3.call' (ch := fp) I6.os I6.base I6.hok I6.bare fun b hb => ⟨(f3 b hb).1.2.2.2.1, (f3 b hb).1.2.1, (f3 b hb).1.2.2.2.2.1, (f3 b hb).1.2.2.2.2.2⟩
      have free5 : H5 ce.locals = none := I6.free
      obtain ⟨m, hn, _⟩ := I6.loc
      have hn : s6.heap.Ns ce.locals m := hn
      rw [cL] at hn free5
      obtain ⟨f0, f1, _, g3, f4, f5⟩ := I3.fpOk (Nat.le_refl _) free5
      exact ⟨m, hn, fun h'' sb => ⟨.ref D, H5, I7.turned (t' := s6.toks) (fun b o hb e => (sb.2 b hb).trans e) f0 f1 g3 f4 f5, rfl, qq⟩⟩
    · refine thnF (T.item (X.blk s3 H3 scope ce fp) rfl rfl rfl hc i [] s5 _ H5 NoE I5 (pinned I5 n5) st5 go) fun r s6 ⟨u, hr, h6⟩ => ?_
      subst hr
      refine thnF h6 fun _ s7 ⟨x, H7, I7, r7, y7, st7, n7⟩ => ?_
      have I7p := I7.pinned (pinned I7 n7) (T.obj _ _ st7)
      refine thnF (pg.run _ s7 _ H7 x u _ I7p r7 (step x H7 y7)) fun _ s8 ⟨σ8, H8, I8, hw8, q8⟩ => ?_
      refine thnF (pi1.run _ s8 σ8 H8 _ I8 q8) fun xv s9 hx => thnF hx fun itv s10 h10 => ?_
      obtain ⟨it1, fp1, tn1, J1, H11, rfl, I11, T1, st11, f11, W1, ⟨m1, w1⟩, turn1⟩ := h10
      have loop1 : codeAny (model X.prog X.w) X.A (.compLoop (sc2 elt tg iter tg1 iter1 scope pos) 1 (.ref it1) (.ref D) ce)
          (fun r s' => match r with
            | .ok _ => ∃ m, m < n ∧ ∃ i H', Inv (X.blk s3 H3 scope ce fp) [] (wipe σ (own.map (·.2))) H' s' ∧ tn i s'.heap ∧ (∀ b ∈ fp, H' b = none) ∧ W i m H'
            | .error _ => False) s10 := by
        refine sc2_loop1 (fun k s' => ∃ j H', Inv (X.blk s3 H3 scope ce fp) ([] ++ pinsAt fp s7.heap) (wipe σ8 vs1) H' s' ∧ tn1 j s'.heap ∧ (∀ b ∈ fp1, H' b = none) ∧ W1 j k H') ?_ m1 ⟨0, H11, I11.weak (wipe_length _ _) (fun j v e => (wipe_some e).1), st11, fun b hb => (f11 b hb).1, w1⟩
        rintro k s12 ⟨j, H12, I12, st12, n12, w12⟩
        rcases turn1 j k H12 w12 with ⟨stop1, nx1⟩ | ⟨go1, Nx1, hNx1, step1⟩
        · refine thnF (T1.done (X.blk s3 H3 scope ce fp) rfl rfl rfl hc j _ s12 _ H12 NoE I12 (fun b hb => ⟨n12 b hb, (f11 b hb).2⟩) st12 stop1) fun r s13 ⟨hr, I13⟩ => ?_
          subst hr
          obtain ⟨m', hm, w'⟩ := hNx H12 nx1
          have pin' : ∀ b ∈ fp, ∀ o, s7.heap.get? b = some o → s13.heap.get? b = some o ∧ H12 b = none := fun b hb o e =>
            let z := I13.pin (b, o) (List.mem_append_right _ (List.mem_append_right _ (mem_pinsAt hb e)))
            ⟨z.1, z.2.1⟩
          refine ⟨m', hm, i + 1, H12, (I13.unpinned (pins := [])).weak ?_ (fun j v e => ?_), T.keep _ _ _ st7 fun b hb o e => (pin' b hb o e).1, fun b hb => ?_, w'⟩
          · have z := congrArg List.length hw8
            rw [wipe_length, wipe_length] at z
            rw [wipe_length, wipe_length]
            exact z.symm
          · rw [← hw8] at e
            obtain ⟨e1, e2⟩ := wipe_some e
            rw [wipe_out fun z => e2 (hv j z)]
            exact e1
          · obtain ⟨o, e, _⟩ := T.obj _ _ st7 b hb
            exact (pin' b hb o e).2
        · refine thnF (T1.item (X.blk s3 H3 scope ce fp) rfl rfl rfl hc j _ s12 _ H12 NoE I12 (fun b hb => ⟨n12 b hb, (f11 b hb).2⟩) st12 go1) fun r s13 ⟨u1, hr, h13⟩ => ?_
          subst hr
          refine thnF h13 fun _ s14 ⟨x1, H14, I14, r14, y14, st14, n14⟩ => ?_
          have I14p := I14.pinned (fun b hb => ⟨n14 b hb, (f11 b hb).2⟩) (T1.obj _ _ st14)
          refine thnF (pg1.run _ s14 _ H14 x1 u1 _ I14p r14 (step1 x1 H14 y14)) fun _ s15 ⟨σ15, H15, I15, hw15, q15⟩ => ?_
          refine thnF (pe.run _ s15 σ15 H15 _ I15 q15) fun v s16 ⟨yv, H16, I16, r16, z, ks, ey, hD16, room, nx⟩ => ?_
          subst ey
          obtain ⟨tk, rfl⟩ : ∃ tk, v = Value.str z tk := r16
          refine addS_ok (X := X.blk s3 H3 scope ce fp) I16 hD16 room fun s17 I17 => ?_
          obtain ⟨m', hm, w'⟩ := hNx1 _ nx
          have pin' : ∀ b ∈ fp1, ∀ o, s14.heap.get? b = some o → s17.heap.get? b = some o ∧ (upd H16 D (SetSO X.prog X.w D (putS ks z))) b = none := fun b hb o e =>
            let z := I17.pin (b, o) (List.mem_append_right _ (List.mem_append_right _ (mem_pinsAt hb e)))
            ⟨z.1, z.2.1⟩
          refine ⟨m', hm, j + 1, _, I17.unpinned.weak (by rw [← hw15, wipe_length]) (fun j v e => by rw [← hw15] at e; exact (wipe_some e).1), T1.keep _ _ _ st14 fun b hb o e => (pin' b hb o e).1, fun b hb => ?_, w'⟩
          obtain ⟨o, e, _⟩ := T1.obj _ _ st14 b hb
          exact (pin' b hb o e).2
      exact sc2_start1 loop1 (T1.self X.A 0 _ _ _ st11 loop1)
  exact PpSet.codeAny_compStart_set loop (T.self X.A 0 _ _ _ st4 loop)
end
end L2

set_option Elab.async false
set_option linter.all false
set_option maxRecDepth 100000
set_option maxHeartbeats 2000000
/-! comprehensions of any number of clauses, without tests: a clause at a time -/
namespace L2
open PySem PySem.Spec PyProof.Rows
/-- what a turn does behind the store of its item -/
abbrev PWt := Value → Env → (Shared → Prop) → Shared → Prop
section
variable (prog : Program) (w : World) (A : Around)
def LoopOk (E : Expr) (k : Nat) (t : Expr) (pw : PWt) : Prop := ∀ (R : Result → Shared → Prop) (it acc : Value) (env : Env) (J : Nat → Shared → Prop),
  (∀ n s, J n s → wpAny (model prog w) A (pyNext it) (fun r s1 => match r with
      | none => R (.ok .next) s1
      | some v => wpAny (model prog w) A (letOwnedTupleGo t it v) (fun _ s2 => wpAny (model prog w) A (assign t env v) (fun _ s3 => pw acc env (fun s' => ∃ m, m < n ∧ J m s') s3) NoE s2) NoE s1) NoE s) →
  ∀ n s, J n s → codeAny (model prog w) A (.compLoop E k it acc env) R s
def StartOk (E : Expr) (k : Nat) : Prop := ∀ (R : Result → Shared → Prop) (it acc : Value) (env : Env) (s : Shared), codeAny (model prog w) A (.compLoop E k it acc env) R s →
  wpAny (model prog w) A (pyIter it) (fun it' s' => codeAny (model prog w) A (.compLoop E k it' acc env) R s') (notedBy (model prog w) A env fun x s' => R (.error x) s') s → codeAny (model prog w) A (.compStart E k it acc env) R s
/-- the next clause starts -/
def pwMid (E : Expr) (k : Nat) (i : Expr) : PWt := fun acc env N s => wpAny (model prog w) A (eval i env) (fun x s4 => wpAny (model prog w) A (pyIter x) (fun it1 s5 =>
  codeAny (model prog w) A (.compStart E k it1 acc env) (fun r s' => match r with
    | .ok _ => N s'
    | .error _ => False) s5) NoE s4) NoE s
/-- an item is put in -/
def pwAdd (f : String) (elt : Expr) : PWt := fun acc env N s => wpAny (model prog w) A (eval elt env) (fun x s4 => wpAny (model prog w) A (call (.builtin f) [acc, x]) (fun _ s5 => N s5) NoE s4) NoE s
end
section
variable {prog : Program} {w : World} {A : Around} {elt t0 i0 t1 i1 t2 i2 : Expr} {scope : Scope} {pos : Pos}
abbrev lc3 (elt t0 i0 t1 i1 t2 i2 : Expr) (scope : Scope) (pos : Pos) : Expr := .ListComp elt [⟨t0, i0, [], 0⟩, ⟨t1, i1, [], 0⟩, ⟨t2, i2, [], 0⟩] scope pos
theorem mid_loop {E : Expr} {k k' : Nat} {t i : Expr} {p1 p2 : Pos} (hT : ∀ it acc env, compTurn E k it acc env = (do
      standAt p1
      match ← pyNext it with
      | none => pure (.done .next)
      | some v =>
        letOwnedTupleGo t it v
        assign t env v
        let src ← eval i env
        standAt p2
        let src ← foldedSetIterable i env src
        let _ ← runOwn (.compStart E k' (← holding [src] (pyIter src)) acc env) env
        again (.compLoop E k it acc env)))
    (hs : ∀ env x, foldedSetIterable i env x = pure x)
    (hu : ∀ it acc env, A.under (.compLoop E k it acc env) = A) (hd : ∀ it acc env, (model prog w).den (.compLoop E k it acc env) = (compTurn E k it acc env).onRaise (fun x => do noteFrame x env; theTreesLotGoes x)) : LoopOk prog w A E k t (pwMid prog w A E k' i) := by
  intro R it acc env J turn n s h
  refine codeAny_loop rfl J (fun n s hJ => ?_) n h
  rw [hu, hd]
  refine wpAny_noted ?_
  rw [hT]
  refine wpAny_bind (wpAny_standAt (wpAny_bind (thnF (turn n s hJ) fun r s1 h1 => ?_)))
  cases r with
  | none => exact wpAny_pure h1
  | some v =>
    refine wpAny_bind (thnF h1 fun _ s2 h2 => wpAny_bind (thnF h2 fun _ s3 h3 => wpAny_bind (thnF h3 fun x s4 h4 => wpAny_bind (wpAny_standAt (wpAny_bind (wpAny_of_eq (hs env x) (wpAny_bind (wpAny_holding (thnF h4 fun it1 s5 h5 => ?_)))))))))
    refine wpAny_bind (wpAny_runOwn ?_)
    rw [Around.mark_none]
    refine codeAny_mono h5 fun r s' hr => ?_
    cases r with
    | ok f => first | exact wpAny_pure ⟨rfl, hr⟩ | exact wpAny_bind (wpAny_pure (wpAny_pure ⟨rfl, hr⟩))
    | error e => exact hr.elim
theorem add_loopL {E : Expr} {k : Nat} {t : Expr} {p1 : Pos} (hT : ∀ it acc env, compTurn E k it acc env = (do
      standAt p1
      match ← pyNext it with
      | none => pure (.done .next)
      | some v =>
        letOwnedTupleGo t it v
        assign t env v
        (do let _ ← call (.builtin "list.append") [acc, ← eval elt env])
        again (.compLoop E k it acc env)))
    (hu : ∀ it acc env, A.under (.compLoop E k it acc env) = A) (hd : ∀ it acc env, (model prog w).den (.compLoop E k it acc env) = (compTurn E k it acc env).onRaise (fun x => do noteFrame x env; theTreesLotGoes x)) : LoopOk prog w A E k t (pwAdd prog w A "list.append" elt) := by
  intro R it acc env J turn n s h
  refine codeAny_loop rfl J (fun n s hJ => ?_) n h
  rw [hu, hd]
  refine wpAny_noted ?_
  rw [hT]
  refine wpAny_bind (wpAny_standAt (wpAny_bind (thnF (turn n s hJ) fun r s1 h1 => ?_)))
  cases r with
  | none => exact wpAny_pure h1
  | some v =>
    refine wpAny_bind (thnF h1 fun _ s2 h2 => wpAny_bind (thnF h2 fun _ s3 h3 => ?_))
    exact wpAny_bind (wpAny_bind (thnF h3 fun x s4 h4 => wpAny_bind (thnF h4 fun _ s5 h5 => wpAny_pure (wpAny_pure ⟨rfl, h5⟩))))
theorem lc3_l0 (hs : ∀ env x, foldedSetIterable i1 env x = pure x) : LoopOk prog w A (lc3 elt t0 i0 t1 i1 t2 i2 scope pos) 0 t0 (pwMid prog w A (lc3 elt t0 i0 t1 i1 t2 i2 scope pos) 1 i1) := mid_loop (p1 := i0.pos) (p2 := i1.pos) (fun _ _ _ => by rfl) hs (fun _ _ _ => rfl) (fun _ _ _ => rfl)
theorem lc3_l1 (hs : ∀ env x, foldedSetIterable i2 env x = pure x) : LoopOk prog w A (lc3 elt t0 i0 t1 i1 t2 i2 scope pos) 1 t1 (pwMid prog w A (lc3 elt t0 i0 t1 i1 t2 i2 scope pos) 2 i2) := mid_loop (p1 := i1.pos) (p2 := i2.pos) (fun _ _ _ => by rfl) hs (fun _ _ _ => rfl) (fun _ _ _ => rfl)
theorem lc3_l2 : LoopOk prog w A (lc3 elt t0 i0 t1 i1 t2 i2 scope pos) 2 t2 (pwAdd prog w A "list.append" elt) := add_loopL (p1 := i2.pos) (fun _ _ _ => by rfl) (fun _ _ _ => rfl) (fun _ _ _ => rfl)
theorem lc3_s1 : StartOk prog w A (lc3 elt t0 i0 t1 i1 t2 i2 scope pos) 1 := by
  intro R it acc env s h0 h
  refine codeAny_of_tree ?_
  show wpAny _ _ ((compStart (lc3 elt t0 i0 t1 i1 t2 i2 scope pos) 1 it acc env).onRaise (fun x => do noteFrame x env; standAt theWindowsPlace)) _ _ s
  refine wpAny_notedAt ?_
  unfold compStart
  show wpAny _ _ (ask >>= _) _ _ s
  refine wpAny_bind (wpAny_askSetting (wpAny_ite ?_))
  split
  · first
      | exact wpAny_bind (wpAny_pure (wpAny_pure (And.intro rfl h0)))
      | exact wpAny_pure (And.intro rfl h0)
  · first
      | exact wpAny_bind (wpAny_rule (wpAny_bind (wpAny_standAt (wpAny_bind (wpAny_mono h (fun it' s' h' => wpAny_pure (And.intro rfl h')) fun _ _ x => x)))))
      | (refine wpAny_bind (wpAny_rule ?_); show wpAny _ _ (standAt i1.pos >>= _) _ _ s; exact wpAny_bind (wpAny_standAt (wpAny_bind (wpAny_mono h (fun it' s' h' => wpAny_pure (And.intro rfl h')) fun _ _ x => x))))
theorem lc3_s2 : StartOk prog w A (lc3 elt t0 i0 t1 i1 t2 i2 scope pos) 2 := by
  intro R it acc env s h0 h
  refine codeAny_of_tree ?_
  show wpAny _ _ ((compStart (lc3 elt t0 i0 t1 i1 t2 i2 scope pos) 2 it acc env).onRaise (fun x => do noteFrame x env; standAt theWindowsPlace)) _ _ s
  refine wpAny_notedAt ?_
  unfold compStart
  show wpAny _ _ (ask >>= _) _ _ s
  refine wpAny_bind (wpAny_askSetting (wpAny_ite ?_))
  split
  · first
      | exact wpAny_bind (wpAny_pure (wpAny_pure (And.intro rfl h0)))
      | exact wpAny_pure (And.intro rfl h0)
  · first
      | exact wpAny_bind (wpAny_rule (wpAny_bind (wpAny_standAt (wpAny_bind (wpAny_mono h (fun it' s' h' => wpAny_pure (And.intro rfl h')) fun _ _ x => x)))))
      | (refine wpAny_bind (wpAny_rule ?_); show wpAny _ _ (standAt i2.pos >>= _) _ _ s; exact wpAny_bind (wpAny_standAt (wpAny_bind (wpAny_mono h (fun it' s' h' => wpAny_pure (And.intro rfl h')) fun _ _ x => x))))
end
/-- the part of a turn behind the store of its item, as it reads in a context; vs: the slots that it may change -/
structure PPart (Y : Cx) (pw : PWt) (acc : Value) (tp : L2.St → Hp → (Hp → Prop) → Prop) (vs : List Nat) : Prop where
  run : ∀ (pins : List (Addr × Obj)) (s : Shared) (σ : L2.St) (H : Hp) (N : Hp → Prop) (N' : Shared → Prop), Inv Y pins σ H s → tp σ H N → (∀ H' s', Inv Y pins (wipe σ vs) H' s' → N H' → N' s') → pw acc Y.env N' s
def tAddL (D : Addr) (te : TE) : L2.St → Hp → (Hp → Prop) → Prop := fun σ H N => te σ H fun y H7 => ∃ acc, H7 D = some (.lst acc) ∧ acc.length < sizeLine ∧ N (upd H7 D (.lst (acc ++ [y])))
def tMid (wi : TI) (g : TG) (tp : L2.St → Hp → (Hp → Prop) → Prop) (vs : List Nat) : L2.St → Hp → (Hp → Prop) → Prop := fun σ H N => wi σ H fun J H4 => ∃ W : Nat → Nat → Hp → Prop, (∃ m, W 0 m H4) ∧ ∀ j k H, W j k H →
  (J.stop j H ∧ N H) ∨ (J.go j H ∧ ∃ Nx : Hp → Prop, (∀ H', Nx H' → ∃ k', k' < k ∧ W (j + 1) k' H') ∧ ∀ x H', J.yld j H x H' → g x (wipe σ vs) H' fun σ2 H2 => wipe σ2 vs = wipe σ vs ∧ tp σ2 H2 Nx)
section
variable {Y : Cx}
theorem part_addL {elt : Expr} {te : TE} {D : Addr} (hxe : Y.xe = NoE) (he : PE Y elt te) : PPart Y (pwAdd Y.prog Y.w Y.A "list.append" elt) (.ref D) (tAddL D te) [] := by
  refine ⟨fun pins s σ H N N' I h k => ?_⟩
  unfold pwAdd
  have r := he.run pins s σ H _ I h
  rw [hxe] at r
  refine thnF r fun v s1 ⟨y, H1, I1, r1, acc, hD, room, nx⟩ => ?_
  exact app_ok I1 hD room r1 fun s2 I2 => k _ s2 I2 nx
theorem part_mid {E : Expr} {k : Nat} {t i : Expr} {pw : PWt} {acc : Value} {wi : TI} {g : TG} {tp : L2.St → Hp → (Hp → Prop) → Prop} {vs vs' : List Nat} (hxe : Y.xe = NoE) (hc : Y.calm = true) (hv : ∀ i ∈ vs', i ∈ vs) (hi : PI Y t i wi) (hg : PG Y t g)
    (hp : PPart Y pw acc tp vs') (hL : LoopOk Y.prog Y.w Y.A E k t pw) (hS : StartOk Y.prog Y.w Y.A E k) : PPart Y (pwMid Y.prog Y.w Y.A E k i) acc (tMid wi g tp vs) vs := by
  refine ⟨fun pins s σ H N N' I h kk => ?_⟩
  have r0 := hi.run pins s σ H _ I h
  rw [hxe] at r0
  refine thnF r0 fun xv s1 hx => ?_
  refine thnF hx fun itv s2 h2 => ?_
  obtain ⟨it1, fp1, tn1, J1, H2, rfl, I2, T1, st2, f2, W1, ⟨m1, w1⟩, turn1⟩ := h2
  have loop1 : codeAny (model Y.prog Y.w) Y.A (.compLoop E k (.ref it1) acc Y.env)
      (fun r s' => match r with
        | .ok _ => N' s'
        | .error _ => False) s2 := by
    refine hL _ _ _ _ (fun n s' => ∃ j H', Inv Y pins (wipe σ vs) H' s' ∧ tn1 j s'.heap ∧ (∀ b ∈ fp1, H' b = none) ∧ W1 j n H') ?_ m1 _ ⟨0, H2, I2.weak (wipe_length _ _) (fun j v e => (wipe_some e).1), st2, fun b hb => (f2 b hb).1, w1⟩
    rintro n s3 ⟨j, H3, I3, st3, n3, w3⟩
    rcases turn1 j n H3 w3 with ⟨stop1, nx1⟩ | ⟨go1, Nx1, hNx1, step1⟩
    · refine thnF (T1.done Y rfl rfl rfl hc j _ s3 _ H3 NoE I3 (fun b hb => ⟨n3 b hb, (f2 b hb).2⟩) st3 stop1) fun r s4 ⟨hr, I4⟩ => ?_
      subst hr
      exact kk _ _ I4 nx1
    · refine thnF (T1.item Y rfl rfl rfl hc j _ s3 _ H3 NoE I3 (fun b hb => ⟨n3 b hb, (f2 b hb).2⟩) st3 go1) fun r s4 ⟨u1, hr, h4⟩ => ?_
      subst hr
      refine thnF h4 fun _ s5 ⟨x1, H5, I5, r5, y5, st5, n5⟩ => ?_
      have I5p := I5.pinned (fun b hb => ⟨n5 b hb, (f2 b hb).2⟩) (T1.obj _ _ st5)
      have rg := hg.run _ s5 _ H5 x1 u1 _ I5p r5 (step1 x1 H5 y5)
      rw [hxe] at rg
      refine thnF rg fun _ s6 ⟨σ6, H6, I6, hw6, q6⟩ => ?_
      refine hp.run _ s6 σ6 H6 Nx1 _ I6 q6 fun H7 s7 I7 nx => ?_
      obtain ⟨m', hm, w'⟩ := hNx1 _ nx
      have pin' : ∀ b ∈ fp1, ∀ o, s5.heap.get? b = some o → s7.heap.get? b = some o ∧ H7 b = none := fun b hb o e =>
        let z := I7.pin (b, o) (List.mem_append_right _ (List.mem_append_right _ (mem_pinsAt hb e)))
        ⟨z.1, z.2.1⟩
      refine ⟨m', hm, j + 1, H7, I7.unpinned.weak ?_ (fun j v e => ?_), T1.keep _ _ _ st5 fun b hb o e => (pin' b hb o e).1, fun b hb => ?_, w'⟩
      · have z := congrArg List.length hw6
        rw [wipe_length, wipe_length] at z
        rw [wipe_length, wipe_length]
        exact z.symm
      · rw [← hw6] at e
        obtain ⟨e1, e2⟩ := wipe_some e
        rw [wipe_out fun z => e2 (hv j z)]
        exact e1
      · obtain ⟨o, e, _⟩ := T1.obj _ _ st5 b hb
        exact (pin' b hb o e).2
  exact hS _ _ _ _ _ loop1 (T1.self Y.A 0 _ _ _ st2 loop1)
end
end L2

set_option Elab.async false
set_option linter.all false
set_option maxRecDepth 100000
set_option maxHeartbeats 2000000
/-! comprehensions of any number of clauses: the first clause and the whole -/
namespace L2
open PySem PySem.Spec PyProof.Rows
def tLcN (wi : TI) (g : TG) (tp : Addr → L2.St → Hp → (Hp → Prop) → Prop) (vs : List Nat) : TE := fun σ H Q => wi σ H fun J H1 => ∀ D, H1 D = none → ∃ W : Nat → Nat → Hp → Prop, (∃ m, W 0 m (upd H1 D (.lst []))) ∧ ∀ i m H, W i m H →
  (J.stop i H ∧ Q (.ref D) H) ∨ (J.go i H ∧ ∃ Nx : Hp → Prop, (∀ H', Nx H' → ∃ m', m' < m ∧ W (i + 1) m' H') ∧ ∀ x H', J.yld i H x H' → g x (wipe σ vs) H' fun σ2 H2 => wipe σ2 vs = wipe σ vs ∧ tp D σ2 H2 Nx)
/-- a clause's turns, Pv by the turn and the heap -/
theorem cl_it {J : It} {n : Nat} {G : Hp → Prop} {Y : Nat → Hp → V → Hp → Prop} (wk : Walk J n G Y) {g : TG} {tp : L2.St → Hp → (Hp → Prop) → Prop} {vs : List Nat} {σ : L2.St} {H0 : Hp} {Qd : Hp → Prop} (Pv : Nat → Hp → Prop) (h0 : Pv 0 H0) (hG : ∀ i H, i ≤ n → Pv i H → G H)
    (hs : ∀ i x H H', i < n → Pv i H → Y i H x H' → g x (wipe σ vs) H' fun σ2 H2 => wipe σ2 vs = wipe σ vs ∧ tp σ2 H2 (Pv (i + 1))) (hd : ∀ H, Pv n H → Qd H) :
    ∃ W : Nat → Nat → Hp → Prop, (∃ m, W 0 m H0) ∧ ∀ i m H, W i m H →
      (J.stop i H ∧ Qd H) ∨ (J.go i H ∧ ∃ Nx : Hp → Prop, (∀ H', Nx H' → ∃ m', m' < m ∧ W (i + 1) m' H') ∧ ∀ x H', J.yld i H x H' → g x (wipe σ vs) H' fun σ2 H2 => wipe σ2 vs = wipe σ vs ∧ tp σ2 H2 Nx) := by
  refine ⟨fun i m H => m = n - i ∧ i ≤ n ∧ Pv i H, ⟨n, by simp, Nat.zero_le _, h0⟩, ?_⟩
  rintro i m H ⟨rfl, hi, p⟩
  have q := hG i H hi p
  by_cases hlt : i < n
  · exact .inr ⟨wk.goes i H hlt q, Pv (i + 1), fun H' p' => ⟨n - (i + 1), by omega, rfl, hlt, p'⟩, fun x H' y => hs i x H H' hlt p (wk.yields i H x H' hlt q y)⟩
  · obtain rfl : i = n := by omega
    exact .inl ⟨wk.stops H q, hd H p⟩
section
variable {X : Cx}
theorem pe_lcN {elt tg iter : Expr} {rest : List Comprehension} {scope : Scope} {own : List (Str × Nat)} {vs' : List Nat} {pos : Pos} {wi : TI} {g : TG} {pw : PWt} {tp : Addr → L2.St → Hp → (Hp → Prop) → Prop} (hc : X.calm = true) (hN : X.N.Nodup) (hi : PI X tg iter wi) (ok : BlkOk X.N X.env.scope scope own) (hv : ∀ i ∈ vs', i ∈ own.map (·.2))
    (hg : InBlk X scope fun Y => PG Y tg g) (hp : ∀ D, InBlk X scope fun Y => PPart Y pw (.ref D) (tp D) vs')
    (hL : LoopOk X.prog X.w X.A (.ListComp elt (⟨tg, iter, [], 0⟩ :: rest) scope pos) 0 tg pw)
    (hs : ∀ x, foldedSetIterable iter X.env x = pure x := by intro _; rfl) :
    PE X (.ListComp elt (⟨tg, iter, [], 0⟩ :: rest) scope pos) (tLcN wi g tp (own.map (·.2))) := by
  refine ⟨fun pins s σ H Q I h => ?_⟩
  rw [show eval (.ListComp elt (⟨tg, iter, [], 0⟩ :: rest) scope pos) X.env = comprehension (.ListComp elt (⟨tg, iter, [], 0⟩ :: rest) scope pos) scope X.env (firstIterPos (⟨tg, iter, [], 0⟩ :: rest) pos) (newList []) false (eval iter X.env) from rfl]
  have caught : ∀ y ∈ scope.names, y.2 = .free → ∃ c, X.env.cells.lookup y.1 = some c := fun y hy e => by
    rcases ok.free y hy e with k | k
    · exact I.ok.has _ (.inl k)
    · exact I.ok.has _ (.inr k)
  refine wpAny_comprehension_free (use := none) rfl hs (closure_ok caught) ok.kind (fun y hy e => by rw [ok.uniq y hy, e]) (thn (hi.run pins s σ H _ I h) fun xv s1 hx => thn hx fun itv s2 h2 => ?_)
  obtain ⟨it, fp, tn, J, H2, rfl, I2, T, st2, f2, q⟩ := h2
  refine wpAny_newObj_type (newEnv_comp ?_) (by show 0 ≤ sizeLine; decide)
  generalize hD : s2.heap.objs.size = D
  obtain ⟨W, ⟨m0, w0⟩, turn⟩ := q D (I2.hok.fresh (Nat.le_of_eq hD))
  have fb : ∀ b ∈ fp, b < s2.heap.objs.size := fun b hb => let ⟨o, e, _⟩ := T.obj _ _ st2 b hb; Heap.lt_size e
  generalize hs3 : ({ s2 with heap := s2.heap.push { cls := .type "list", data := .seq ([] : List Value).toArray } } : Shared) = s3
  have I3 : Inv X pins σ (upd H2 D (.lst [])) s3 := by
    rw [← hs3]
    refine I2.laid (t' := s2.toks) (fun b o e => Heap.get?_push_of_some _ e) (Nat.le_of_eq hD) ⟨Nat.zero_le _, [], 0, .nil, ?_⟩
    rw [← hD]
    exact Heap.get?_push_size _ rfl
  have h3 : s3.heap = s2.heap.push { cls := .type "list", data := .seq ([] : List Value).toArray } := by rw [← hs3]
  have f3 : ∀ b ∈ fp, FpOk X pins (upd H2 D (.lst [])) b ∧ b < s3.heap.objs.size := fun b hb => by
    have hlt := fb b hb
    refine ⟨⟨?_, (f2 b hb).2⟩, by rw [h3, Heap.size_push]; exact Nat.lt_succ_of_lt hlt⟩
    rw [upd_ne (by rw [← hD]; exact Nat.ne_of_lt hlt)]
    exact (f2 b hb).1
  have st3 : tn 0 s3.heap := T.keep _ _ _ st2 fun b _ o e => by rw [h3]; exact Heap.get?_push_of_some _ e
  have I4 := block_start I3 ok hN f3
  generalize hH3 : upd H2 D (.lst []) = H3 at I3 I4 w0 f3
  show codeAny _ _ (.compStart (.ListComp elt (⟨tg, iter, [], 0⟩ :: rest) scope pos) 0 (.ref it) (.ref D) (compEnvC scope (cellsFrom (s3.heap.objs.size + 1) scope.names (cloFrom X.env.cells scope.names [])) s3.heap.objs.size X.env))
    (compPost (model X.prog X.w) X.A X.xe none (EP X pins σ Q) (.ref D) s3.heap.objs.size) { s3 with heap := pushCells (s3.heap.push { cls := .type "dict", data := .dict #[] }) scope.names }
  have pg := hg s3 H3 s3.heap.objs.size (cellsFrom (s3.heap.objs.size + 1) scope.names (cloFrom X.env.cells scope.names [])) fp
  have pp := hp D s3 H3 s3.heap.objs.size (cellsFrom (s3.heap.objs.size + 1) scope.names (cloFrom X.env.cells scope.names [])) fp
  generalize hce : compEnvC scope (cellsFrom (s3.heap.objs.size + 1) scope.names (cloFrom X.env.cells scope.names [])) s3.heap.objs.size X.env = ce at I4 pg pp ⊢
  have cL : ce.locals = s3.heap.objs.size := by rw [← hce]; rfl
  generalize hs4 : ({ s3 with heap := pushCells (s3.heap.push { cls := .type "dict", data := .dict #[] }) scope.names } : Shared) = s4 at I4 ⊢
  have st4 : tn 0 s4.heap := by
    rw [← hs4]
    exact T.keep _ _ _ st3 fun b _ o e => pushCells_keeps _ _ _ _ (Heap.get?_push_of_some _ e)
  have pinned : ∀ {σ' : L2.St} {H' : Hp} {s' : Shared}, Inv (X.blk s3 H3 scope ce fp) [] σ' H' s' → (∀ b ∈ fp, H' b = none) → ∀ b ∈ fp, FpOk (X.blk s3 H3 scope ce fp) [] H' b := fun {σ' H' s'} I' hn b hb =>
    ⟨hn b hb, (I'.ok.exf b hb).1, I'.ok.exfs b hb, .inl hb, fun x c e => (I'.ok.exf b hb).2 x c e, fun p hp => absurd (show p ∈ ([] : List (Addr × Obj)) ++ [] from hp) (by simp)⟩
  have loop : codeAny (model X.prog X.w) X.A (.compLoop (.ListComp elt (⟨tg, iter, [], 0⟩ :: rest) scope pos) 0 (.ref it) (.ref D) ce) (compPost (model X.prog X.w) X.A X.xe none (EP X pins σ Q) (.ref D) s3.heap.objs.size) s4 := by
    refine hL _ _ _ _ (fun n s' => ∃ i H', Inv (X.blk s3 H3 scope ce fp) [] (wipe σ (own.map (·.2))) H' s' ∧ tn i s'.heap ∧ (∀ b ∈ fp, H' b = none) ∧ W i n H') ?_ m0 _ ⟨0, H3, I4, st4, fun b hb => (f3 b hb).1.1, w0⟩
    rintro n s5 ⟨i, H5, I5, st5, n5, w5⟩
    rcases turn i n H5 w5 with ⟨stop, qq⟩ | ⟨go, Nx, hNx, step⟩
    · refine thnF (T.done (X.blk s3 H3 scope ce fp) rfl rfl rfl hc i [] s5 _ H5 NoE I5 (pinned I5 n5) st5 stop) fun r s6 ⟨hr, I6⟩ => ?_
      subst hr
      have I7 : Inv X pins σ H5 s6 := I3.call' (ch := fp) I6.os I6.base I6.hok I6.bare fun b hb => ⟨(f3 b hb).1.2.2.2.1, (f3 b hb).1.2.1, (f3 b hb).1.2.2.2.2.1, (f3 b hb).1.2.2.2.2.2⟩
      have free5 : H5 ce.locals = none := I6.free
      obtain ⟨m, hn, _⟩ := I6.loc
      have hn : s6.heap.Ns ce.locals m := hn
      rw [cL] at hn free5
      obtain ⟨f0, f1, _, g3, f4, f5⟩ := I3.fpOk (Nat.le_refl _) free5
      exact ⟨m, hn, fun h'' sb => ⟨.ref D, H5, I7.turned (t' := s6.toks) (fun b o hb e => (sb.2 b hb).trans e) f0 f1 g3 f4 f5, rfl, qq⟩⟩
    · refine thnF (T.item (X.blk s3 H3 scope ce fp) rfl rfl rfl hc i [] s5 _ H5 NoE I5 (pinned I5 n5) st5 go) fun r s6 ⟨u, hr, h6⟩ => ?_
      subst hr
      refine thnF h6 fun _ s7 ⟨x, H7, I7, r7, y7, st7, n7⟩ => ?_
      have I7p := I7.pinned (pinned I7 n7) (T.obj _ _ st7)
      refine thnF (pg.run _ s7 _ H7 x u _ I7p r7 (step x H7 y7)) fun _ s8 ⟨σ8, H8, I8, hw8, q8⟩ => ?_
      refine pp.run _ s8 σ8 H8 Nx _ I8 q8 fun H13 s13 I13 nx => ?_
      obtain ⟨m', hm, w'⟩ := hNx H13 nx
      have pin' : ∀ b ∈ fp, ∀ o, s7.heap.get? b = some o → s13.heap.get? b = some o ∧ H13 b = none := fun b hb o e =>
        let z := I13.pin (b, o) (List.mem_append_right _ (List.mem_append_right _ (mem_pinsAt hb e)))
        ⟨z.1, z.2.1⟩
      refine ⟨m', hm, i + 1, H13, (I13.unpinned (pins := [])).weak ?_ (fun j v e => ?_), T.keep _ _ _ st7 fun b hb o e => (pin' b hb o e).1, fun b hb => ?_, w'⟩
      · have z := congrArg List.length hw8
        rw [wipe_length, wipe_length] at z
        rw [wipe_length, wipe_length]
        exact z.symm
      · rw [← hw8] at e
        obtain ⟨e1, e2⟩ := wipe_some e
        rw [wipe_out fun z => e2 (hv j z)]
        exact e1
      · obtain ⟨o, e, _⟩ := T.obj _ _ st7 b hb
        exact (pin' b hb o e).2
  exact codeAny_compStart_list loop (T.self X.A 0 _ _ _ st4 loop)
theorem pe_lc3 {elt t0 i0 t1 i1 t2 i2 : Expr} {scope : Scope} {own : List (Str × Nat)} {v1 v2 : List Nat} {pos : Pos} {w0 w1 w2 : TI} {g0 g1 g2 : TG} {te : TE} (hc : X.calm = true) (hN : X.N.Nodup) (ok : BlkOk X.N X.env.scope scope own) (hv1 : ∀ i ∈ v1, i ∈ own.map (·.2)) (hv2 : ∀ i ∈ v2, i ∈ v1)
    (hi0 : PI X t0 i0 w0) (hg0 : InBlk X scope fun Y => PG Y t0 g0) (hi1 : InBlk X scope fun Y => PI Y t1 i1 w1) (hg1 : InBlk X scope fun Y => PG Y t1 g1) (hi2 : InBlk X scope fun Y => PI Y t2 i2 w2) (hg2 : InBlk X scope fun Y => PG Y t2 g2) (he : InBlk X scope fun Y => PE Y elt te)
    (hs : ∀ x, foldedSetIterable i0 X.env x = pure x := by intro _; rfl) (hs1 : ∀ env x, foldedSetIterable i1 env x = pure x := by intro _ _; rfl) (hs2 : ∀ env x, foldedSetIterable i2 env x = pure x := by intro _ _; rfl) :
    PE X (lc3 elt t0 i0 t1 i1 t2 i2 scope pos) (tLcN w0 g0 (fun D => tMid w1 g1 (tMid w2 g2 (tAddL D te) v2) v1) (own.map (·.2))) := by
  refine pe_lcN hc hN hi0 ok hv1 hg0 (fun D s H C cl fp => ?_) (lc3_l0 hs1) hs
  refine part_mid rfl hc hv2 (hi1 s H C cl fp) (hg1 s H C cl fp) ?_ (lc3_l1 hs2) lc3_s1
  exact part_mid rfl hc (fun _ h => absurd h List.not_mem_nil) (hi2 s H C cl fp) (hg2 s H C cl fp) (part_addL rfl (he s H C cl fp)) lc3_l2 lc3_s2
end
end L2

set_option Elab.async false
set_option linter.all false
set_option maxRecDepth 100000
set_option maxHeartbeats 1000000
/-! rows without forms: what is said of heaps, tests, powers -/
namespace L2
open PySem PySem.Spec PyProof.Rows
theorem iteD {p : Prop} [Decidable p] {A B : Prop} (h1 : p → A) (h2 : ¬ p → B) : if decide p = true then A else B := by
  by_cases h : p
  · rw [if_pos (decide_eq_true h)]; exact h1 h
  · rw [if_neg (by simpa using h)]; exact h2 h
theorem ifT {b : Bool} {A B : Prop} (h : b = true) (x : A) : if b = true then A else B := by rw [if_pos h]; exact x
theorem ifF {b : Bool} {A B : Prop} (h : b = false) (x : B) : if b = true then A else B := by rw [if_neg (by rw [h]; exact Bool.false_ne_true)]; exact x
def CPowX (i j : Int) : Prop := 0 ≤ j ∧ (Builtin.Int.intBits i : Int) * j ≤ 2 ^ 27
theorem op_powX {X : Cx} : OpR X (binaryOp .Pow) (rI CPowX fun i j => .int (i ^ j.toNat)) := opI fun _ _ _ _ _ _ _ hc q => pow_int hc.1 hc.2 q
/-- all but D as it was -/
def SameB (D : Addr) (H H' : Hp) : Prop := ∀ b o, b ≠ D → H b = some o → H' b = some o
theorem SameB.refl (D : Addr) (H : Hp) : SameB D H H := fun _ _ _ h => h
theorem SameB.to {D : Addr} {H H1 H2 : Hp} (S : SameB D H H1) (T : Same H1 H2) : SameB D H H2 := fun b o n h => T b o (S b o n h)
theorem SameB.trans {D : Addr} {H H1 H2 : Hp} (S : SameB D H H1) (T : SameB D H1 H2) : SameB D H H2 := fun b o n h => T b o n (S b o n h)
theorem SameB.upd {D : Addr} {H H1 : Hp} {o : HO} (S : SameB D H H1) : SameB D H (L2.upd H1 D o) := fun b u n h => by rw [upd_ne n]; exact S b u n h
theorem SqL.same {K : PySem.W.Frag} {H H' : Hp} {a : Addr} {xs : List V} (h : SqL K H a xs) (S : Same H H') : SqL K H' a xs := by
  rcases h with (h | ⟨o, h⟩) | h
  · exact .inl (.inl (S _ _ h))
  · exact .inl (.inr ⟨o, S _ _ h⟩)
  · exact .inr h
theorem SqL.sameB {K : PySem.W.Frag} {D : Addr} {H H' : Hp} {a : Addr} {xs : List V} (h : SqL K H a xs) (S : SameB D H H') (n : a ≠ D) : SqL K H' a xs := by
  rcases h with (h | ⟨o, h⟩) | h
  · exact .inl (.inl (S _ _ n h))
  · exact .inl (.inr ⟨o, S _ _ n h⟩)
  · exact .inr h
theorem seq_asg {te : TE} {i : Nat} {u : TS} {D : Ends} {σ : St} {H : Hp} (h : te σ H fun x H1 => u D (σ.set i (some x)) H1) : tSeq (tAsg te (gName i)) u D σ H := h
theorem te_mid {t : TE} {σ : St} {H : Hp} {Q : VK} (G : V → Hp → Prop) (h : ∀ R : VK, (∀ x H', G x H' → R x H') → t σ H R) (k : ∀ x H', G x H' → Q x H') : t σ H Q := h Q k
theorem ts_mid {t u : TS} {D : Ends} {σ : St} {H : Hp} (G : St → Hp → Prop) (h : ∀ N : St → Hp → Prop, (∀ σ' H', G σ' H' → N σ' H') → t { D with nx := N } σ H) (k : ∀ σ' H', G σ' H' → u D σ' H') : tSeq t u D σ H := h _ k
theorem cut_ints (ns : List Int) (lo hi : Option Int) : ∃ ms : List Int, cutV (ns.map V.int) lo hi = ms.map V.int :=
  ⟨(ns.drop (HT.sIx (ns.map V.int).length 0 lo)).take (HT.sIx (ns.map V.int).length (ns.map V.int).length hi - HT.sIx (ns.map V.int).length 0 lo), by unfold cutV; rw [← List.map_drop, ← List.map_take]⟩
end L2

set_option Elab.async false
set_option linter.all false
set_option maxRecDepth 100000
set_option maxHeartbeats 1000000
/-! tuples whose object is known to have no dict: made, and called by their methods -/
namespace L2
open PySem PySem.Spec PyProof.Rows
/-- a tuple that this program made: its object bears no dict -/
def TupN (H : Hp) (q : Addr) (xs : List V) : Prop := ∃ o : Obj, H q = some (.frz o (.tup xs)) ∧ o.dict = none
theorem TupN.sq {K : PySem.W.Frag} {H : Hp} {q : Addr} {xs : List V} (h : TupN H q xs) : SqT K H q xs := let ⟨o, h1, _⟩ := h; .inl (.inr ⟨o, h1⟩)
theorem TupN.same {H H' : Hp} {q : Addr} {xs : List V} (h : TupN H q xs) (S : Same H H') : TupN H' q xs := let ⟨o, h1, h2⟩ := h; ⟨o, S _ _ h1, h2⟩
theorem TupN.sameB {D : Addr} {H H' : Hp} {q : Addr} {xs : List V} (h : TupN H q xs) (S : SameB D H H') (n : q ≠ D) : TupN H' q xs := let ⟨o, h1, h2⟩ := h; ⟨o, S _ _ n h1, h2⟩
/-- a new one, all else as it was -/
def NewN (H : Hp) (xs : List V) (Q : VK) : Prop := ∀ p H', Same H H' → H p = none → TupN H' p xs → Q (.ref p) H'
theorem tupN_laid {X : Cx} {pins : List (Addr × Obj)} {σ : St} {H : Hp} {s : Shared} {xs : List V} {its : List Value} (I : Inv X pins σ H s) (rv : Vals xs its) (hz : xs.length ≤ sizeLine) : 
    Inv X pins σ (upd H s.heap.objs.size (.frz { cls := .type "tuple", data := .seq its.toArray } (.tup xs))) { s with heap := s.heap.push { cls := .type "tuple", data := .seq its.toArray } } :=
  I.laid (t' := s.toks) (fun _ _ e => Heap.get?_push_of_some _ e) (Nat.le_refl _) ⟨Heap.get?_push_size _ rfl, hz, its, rv, IsTup.new _ _⟩
/-- tuple(xs), xs a list -/
def rTupN (K : PySem.W.Frag) : List V → Hp → VK → Prop := fun vs H Q => ∃ p ys, vs = [.ref p] ∧ SqL K H p ys ∧ NewN H ys Q
theorem cr_tupN {X : Cx} : CallR X (.type "tuple") (rTupN X.K) := by
  intro pins s σ H vs us Q I r h
  obtain ⟨p, ys, rfl, hs, q⟩ := h
  rw [Vals.ref1 r]
  obtain ⟨its, rv, pl, hz⟩ := I.list hs
  have ln := rv.length
  refine call_tuple_list pl.isList (fun h' kp => ?_) (by rw [List.size_toArray]; omega)
  have I1 : Inv X pins σ H { s with heap := h' } := I.kept (t' := s.toks) kp
  have n1 : H h'.objs.size = none := I1.hok.fresh (Nat.le_refl _)
  exact ⟨.ref h'.objs.size, _, tupN_laid I1 rv hz, rfl, q _ _ (Same.upd n1) n1 ⟨_, upd_same, rfl⟩⟩
section
variable {X : Cx} {o e : Expr} {es : List Expr} {to : TE} {t : TA} {name : Str} {apos cpos : Pos} {id : String} {r : V → List V → Hp → VK → Prop}
end
end L2

set_option Elab.async false
set_option linter.all false
set_option maxRecDepth 100000
set_option maxHeartbeats 1000000
/-! dicts whose keys are such tuples: found, stored, made -/
namespace L2
open PySem PySem.Spec PyProof.Rows
abbrev KAV := List (List Key × Addr × Value)
def DnR (P : Program) (w : World) (h : Heap) (d : Addr) (xs : KAV) : Prop := xs.length ≤ sizeLine ∧ (d == sysModules) = false ∧ (xs.map (·.1)).Nodup ∧
  ∃ o es ep, h.get? d = some o ∧ o.ExactDict ∧ o.data = .dict es ep ∧ es.toList = xs.map (entryOfKey (tupleKind (mixKind P w)))
/-- such a dict at d -/
def DnO (P : Program) (w : World) (d : Addr) (xs : KAV) : HO := .ext fun h => DnR P w h d xs
theorem DnR.at {P : Program} {w : World} {h h' : Heap} {d : Addr} {xs : KAV} (R : DnR P w h d xs) (k : ∀ o, h.get? d = some o → h'.get? d = some o) : DnR P w h' d xs :=
  let ⟨a, b, c, o, es, ep, e1, e2⟩ := R
  ⟨a, b, c, o, es, ep, k _ e1, e2⟩
theorem dn_ok {P : Program} {w : World} {H : Hp} {h : Heap} {d : Addr} {xs : KAV} (R : DnR P w h d xs) : ObjOk P w H h d (DnO P w d xs) :=
  ⟨R, let ⟨_, _, _, o, _, _, e, _⟩ := R; ⟨o, e⟩, fun _ _ r k => r.at k⟩
/-- the keys stand as tuples without a dict of their own -/
def KeysN (H : Hp) (xs : KAV) : Prop := ∀ x ∈ xs, TupN H x.2.1 (x.1.map kV)
theorem KeysN.same {H H' : Hp} {xs : KAV} (h : KeysN H xs) (S : Same H H') : KeysN H' xs := fun x hx => (h x hx).same S
section
variable {X : Cx} {pins : List (Addr × Obj)} {σ : St} {H : Hp} {s : Shared} {d b : Addr} {xs : KAV} {k : List Key}
theorem dn_get (I : Inv X pins σ H s) (e : Rd H d (DnO X.prog X.w d xs)) : DnR X.prog X.w s.heap d xs := by
  rcases e with e | ⟨o, e⟩
  · exact (I.hok d _ e).1
  · exact (I.hok d _ e).2.1
theorem key_N (I : Inv X pins σ H s) (h : SqT X.K H b (k.map kV)) : (tupleKind (mixKind X.prog X.w)).is s.heap k b := by
  obtain ⟨its, rv, ⟨o, h1, h2, n, h3⟩, _⟩ := I.tuple h
  exact ⟨o, its.toArray, n, h1, h2, h3, by simpa using items_are rv⟩
theorem dn_of (I : Inv X pins σ H s) (e : Rd H d (DnO X.prog X.w d xs)) (ks : KeysN H xs) : s.heap.DictOfH (tupleKind (mixKind X.prog X.w)) d xs := by
  obtain ⟨_, _, nd, o, es, ep, h1, h2, h3, h4⟩ := dn_get I e
  exact ⟨o, es, ep, h1, h2, h3, h4, fun x hx => key_N I (ks x hx).sq, nd⟩
end
section
variable {X : Cx}
def rDnGet (X : Cx) : R2 := fun x y H Q => ∃ (d : Addr) (xs : KAV) (b : Addr) (k : List Key) (p : Addr × Value) (v : V), x = .ref d ∧ y = .ref b ∧ Rd H d (DnO X.prog X.w d xs) ∧ KeysN H xs ∧ SqT X.K H b (k.map kV) ∧ atKey xs k = some p ∧ RelV v p.2 ∧ Q v H
theorem ix_dn (hu : X.A.units + 1 < cLine) : IxR X (rDnGet X) := by
  intro value slice pins s σ H x y v u Q I rx ry h hs
  obtain ⟨d, xs, b, k, p, z, rfl, rfl, e, ks, sb, hp, rz, q⟩ := h
  obtain rfl : v = Value.ref d := rx
  obtain rfl : u = Value.ref b := ry
  have dd := dn_of I e ks
  exact tail_any dd.typeIs slot_dict_getitem.lookup (wpAny_getItem_heap (tupleKind_room_in1 hu) (key_N I sb) dd hp ⟨z, H, I.tok _, rz, q⟩) hs
def rDnPut (X : Cx) : TSet := fun o i v H Q => ∃ (d : Addr) (xs : KAV) (b a : Addr) (k : List Key), o = .ref d ∧ i = .ref b ∧ v = .ref a ∧ H d = some (DnO X.prog X.w d xs) ∧ KeysN H xs ∧ SqT X.K H b (k.map kV) ∧ xs.length < sizeLine ∧ Q (upd H d (DnO X.prog X.w d (storedH xs k b (.ref a))))
theorem set_dn (hu : X.A.units + 1 < cLine) : PSet X (rDnPut X) := by
  intro pins s σ H o i v ov iv u Q I ro ri rv h
  obtain ⟨d, xs, b, a, k, rfl, rfl, rfl, e, ks, sb, hl, q⟩ := h
  obtain rfl : ov = Value.ref d := ro
  obtain rfl : iv = Value.ref b := ri
  obtain rfl : u = Value.ref a := rv
  have dd := dn_of I (.inl e) ks
  obtain ⟨hz, hm, _⟩ := dn_get I (.inl e)
  refine wpAny_setItem_heap (hsz := hz) (tupleKind_room_in1 hu) (key_N I sb) dd fun h' dd' hs => ⟨_, ?_, q⟩
  obtain ⟨o', es, ep, h1, h2, h3, h4, _, h5⟩ := dd'
  have ln : (storedH xs k b (Value.ref a)).length ≤ sizeLine := by
    unfold storedH
    split
    · rw [List.length_map]; exact hz
    · rw [List.length_append]; exact hl
  exact d_write I (by rw [e]; exact True.intro) hs ⟨o', h1⟩ (dn_ok ⟨ln, hm, h5, o', es, ep, h1, h2, h3, h4⟩)
def tDNewN (X : Cx) : TE := fun _ H Q => ∀ p, H p = none → Q (.ref p) (upd H p (DnO X.prog X.w p []))
theorem pe_dnewN {pos : Pos} : PE X (.Dict [] [] pos) (tDNewN X) := ⟨fun pins s σ H Q I h => by
  have R : DnR X.prog X.w (s.heap.push { cls := .type "dict", data := .dict #[] }) s.heap.objs.size [] :=
    ⟨Nat.zero_le _, beq_eq_false_iff_ne.mpr (Ne.symm (Nat.ne_of_lt I.big)), List.nodup_nil, _, #[], 0, Heap.get?_push_size _ rfl, ⟨rfl, rfl, rfl⟩, rfl, rfl⟩
  exact wpAny_Dict_empty ⟨.ref s.heap.objs.size, _, I.laid (t' := s.toks) (fun _ _ z => Heap.get?_push_of_some _ z) (Nat.le_refl _) (dn_ok R), rfl, h _ (I.hok.fresh (Nat.le_refl _))⟩⟩
end
end L2

set_option Elab.async false
set_option linter.all false
set_option maxRecDepth 100000
set_option maxHeartbeats 2000000
/-! for .. in d, d.values(), d.items(): d a dict whose keys are tuples without a dict of their own -/
namespace L2
open PySem PySem.Spec PyProof.Rows
/-- keys, their places, the places of the values -/
abbrev NAV := List (List Key × Addr × Addr)
def toV (x : List Key × Addr × Addr) : List Key × Addr × Value := (x.1, x.2.1, Value.ref x.2.2)
def DfO (P : Program) (w : World) (d : Addr) (l : NAV) : HO := DnO P w d (l.map toV)
section
variable {X : Cx} {pins : List (Addr × Obj)} {σ : St} {H : Hp} {s : Shared} {d : Addr} {o : Obj} {l : NAV}
theorem Inv.frzN (I : Inv X pins σ H s) (h : H d = some (.frz o (DfO X.prog X.w d l))) :
    (d == sysModules) = false ∧ s.heap.get? d = some o ∧ o.ExactDict ∧ ∃ (es : Array DictEntry) (ep : Nat), o.data = .dict es ep ∧ s.heap.DictRaw d es ep ∧ es.size = l.length ∧
      ∀ (i : Nat) (k : List Key) (q a : Addr) (hi : i < es.size), l[i]? = some (k, q, a) → es[i].key = .ref q ∧ es[i].val = .ref a := by
  obtain ⟨hd, ⟨_, hs, _, o', es, ep, ho, hx, hdt, he⟩, _⟩ := I.hok d _ h
  rw [hd] at ho
  cases ho
  have l1 := size_of_entries he
  rw [List.length_map] at l1
  refine ⟨hs, hd, hx, es, ep, hdt, ⟨o, hd, hx, hdt⟩, l1, fun i k q a hi e => ?_⟩
  have z := entry_at he i
  rw [List.getElem?_map, e, Array.getElem?_eq_getElem hi] at z
  have z2 := Option.some.inj z
  rw [z2]
  exact ⟨rfl, rfl⟩
end
def ItkN (P : Program) (w : World) (d : Addr) (o : Obj) (l : NAV) : It :=
  ⟨fun i H => H d = some (.frz o (DfO P w d l)) ∧ i < l.length, fun i H x H' => H' = H ∧ ∃ k q a, l[i]? = some (k, q, a) ∧ x = .ref q, fun i H => H d = some (.frz o (DfO P w d l)) ∧ l.length ≤ i⟩
def ItdN (P : Program) (w : World) (d : Addr) (o : Obj) (l : NAV) : It :=
  ⟨fun i H => H d = some (.frz o (DfO P w d l)) ∧ i < l.length, fun i H x H' => H' = H ∧ ∃ k q a, l[i]? = some (k, q, a) ∧ x = .ref a, fun i H => H d = some (.frz o (DfO P w d l)) ∧ l.length ≤ i⟩
def ItiN (P : Program) (w : World) (d : Addr) (o : Obj) (l : NAV) : It :=
  ⟨fun i H => H d = some (.frz o (DfO P w d l)) ∧ i < l.length, fun i H x H' => ∃ T k q a, l[i]? = some (k, q, a) ∧ x = .ref T ∧ H T = none ∧ H' = upd H T (.tup [.ref q, .ref a]), fun i H => H d = some (.frz o (DfO P w d l)) ∧ l.length ≤ i⟩
section
variable {P : Program} {w : World} {K : PySem.W.Frag} {tg : Expr} {d : Addr} {o : Obj} {es : Array DictEntry} {ep : Nat} {l : NAV}
theorem turn_keysN (it : Addr) (hod : o.data = .dict es ep) : Turn P w K tg (ItkN P w d o l) [it] it (fun i h => h.IsKeyIter it d i l.length ep) where
  mem := by simp
  obj := fun i h st b hb => by
    obtain rfl : b = it := by simpa using hb
    obtain ⟨oi, e, c, dd⟩ := st
    exact ⟨oi, e, fun v z => by rw [dd] at z; cases z⟩
  keep := fun i h h' st k => st.at fun oi e => k it (by simp) oi e
  item := by
    intro X hP hw hK hc i pins s σ H E I hf st hg
    subst hP hw hK
    obtain ⟨hd, hi⟩ := hg
    obtain ⟨f0, f1, f2, f3, f4, f5⟩ := hf it (by simp)
    obtain ⟨hs, hgd, hx, es', ep', hdt, raw, hsz, ent⟩ := I.frzN hd
    obtain ⟨rfl, rfl⟩ := dict_ep hod hdt
    obtain ⟨⟨k, q, a⟩, hkv⟩ : ∃ p, l[i]? = some p := ⟨l[i], List.getElem?_eq_getElem hi⟩
    have hi' : i < es'.size := by omega
    obtain ⟨ek, ev⟩ := ent i k q a hi' hkv
    refine next_key_item st hgd hdt hsz (Array.getElem?_eq_getElem hi') fun h' st' sb => ?_
    have I1 : Inv X pins σ H { s with heap := h' } := I.turned (t' := s.toks) (fun b ob hb e => (sb.2 b hb).trans e) f0 f1 f3 f4 f5
    obtain ⟨oi, e, c, dd⟩ := id st'
    exact ⟨es'[i].key, rfl, go_of (s := { s with heap := h' }) e c dd (by decide) ⟨.ref q, H, I1, ek, ⟨rfl, k, q, a, hkv, rfl⟩, st', fun b hb => (hf b hb).1⟩⟩
  done := by
    intro X hP hw hK hc i pins s σ H E I hf st hg
    subst hP hw hK
    obtain ⟨hd, hi⟩ := hg
    obtain ⟨f0, f1, f2, f3, f4, f5⟩ := hf it (by simp)
    obtain ⟨hs, hgd, hx, es', ep', hdt, raw, hsz, ent⟩ := I.frzN hd
    obtain ⟨rfl, rfl⟩ := dict_ep hod hdt
    exact next_key_end (I.ok.hd hc) st hgd hdt hsz hi fun h' eb => ⟨rfl, I.turned (t' := s.toks) (fun b ob hb e => eb b ob hb e) f0 f1 f3 f4 f5⟩
  self := fun A i s Q E st h => by
    refine wpAny_pyIter_slot st.typeIs F.slot_dict_keyiterator_iter (wpAny_call_entry F.slot_dict_keyiterator_iter st.typeIs F.entry_dict_keyiterator_iter ?_ (F.args_dict_keyiterator_iter_1 _))
    exact wpAny_pure ⟨_, rfl, "dict_keyiterator", _, st.typeIs, F.slot_dict_keyiterator_next.lookup, h⟩
theorem turn_valsN (it : Addr) (hod : o.data = .dict es ep) : Turn P w K tg (ItdN P w d o l) [it] it (fun i h => h.IsValIter it d i l.length ep) where
  mem := by simp
  obj := fun i h st b hb => by
    obtain rfl : b = it := by simpa using hb
    obtain ⟨oi, e, c, dd⟩ := st
    exact ⟨oi, e, fun v z => by rw [dd] at z; cases z⟩
  keep := fun i h h' st k => st.at fun oi e => k it (by simp) oi e
  item := by
    intro X hP hw hK hc i pins s σ H E I hf st hg
    subst hP hw hK
    obtain ⟨hd, hi⟩ := hg
    obtain ⟨f0, f1, f2, f3, f4, f5⟩ := hf it (by simp)
    obtain ⟨hs, hgd, hx, es', ep', hdt, raw, hsz, ent⟩ := I.frzN hd
    obtain ⟨rfl, rfl⟩ := dict_ep hod hdt
    obtain ⟨⟨k, q, a⟩, hkv⟩ : ∃ p, l[i]? = some p := ⟨l[i], List.getElem?_eq_getElem hi⟩
    have hi' : i < es'.size := by omega
    obtain ⟨ek, ev⟩ := ent i k q a hi' hkv
    rw [← hsz] at st
    refine wpAny_pyNext_values_item_raw st raw hi' fun h' st' sb => ?_
    have I1 : Inv X pins σ H { s with heap := h' } := I.turned (t' := s.toks) (fun b ob hb e => (sb.2 b hb).trans e) f0 f1 f3 f4 f5
    obtain ⟨oi, e, c, dd⟩ := id st'
    refine ⟨_, rfl, go_of (s := { s with heap := h' }) e c dd (by decide) ⟨.ref a, H, I1, ev, ⟨rfl, k, q, a, hkv, rfl⟩, ?_, fun b hb => (hf b hb).1⟩⟩
    show h'.IsValIter it d (i + 1) l.length _
    rw [← hsz]
    exact st'
  done := by
    intro X hP hw hK hc i pins s σ H E I hf st hg
    subst hP hw hK
    obtain ⟨hd, hi⟩ := hg
    obtain ⟨f0, f1, f2, f3, f4, f5⟩ := hf it (by simp)
    obtain ⟨hs, hgd, hx, es', ep', hdt, raw, hsz, ent⟩ := I.frzN hd
    obtain ⟨rfl, rfl⟩ := dict_ep hod hdt
    rw [← hsz] at st hi
    exact wpAny_pyNext_values_end_raw (I.ok.hd hc) st raw hi fun h' eb => ⟨rfl, I.turned (t' := s.toks) (fun b ob hb e => eb b ob hb e) f0 f1 f3 f4 f5⟩
  self := fun A i s Q E st h => wpAny_pyIter_valiter st h
theorem turn_itemsN {elts : List Expr} {kk : Nat} {tpos : Pos} (it : Addr) (hod : o.data = .dict es ep) :
    Turn P w K (.Tuple elts kk tpos) (ItiN P w d o l) [it] it (fun i h => ∃ ok ov, IsItemIter h it d i l.length ep ok ov) where
  mem := by simp
  obj := fun i h st b hb => by
    obtain rfl : b = it := by simpa using hb
    obtain ⟨ok, ov, e⟩ := st
    exact ⟨_, e, fun v z => nomatch z⟩
  keep := fun i h h' st k => let ⟨ok, ov, e⟩ := st; ⟨ok, ov, k it (by simp) _ e⟩
  item := by
    intro X hP hw hK hc i pins s σ H E I hf st hg
    subst hP hw hK
    obtain ⟨hd, hi⟩ := hg
    obtain ⟨hs, hgd, hx, es', ep', hdt, raw, hsz, ent⟩ := I.frzN hd
    obtain ⟨rfl, rfl⟩ := dict_ep hod hdt
    obtain ⟨⟨k, q, a⟩, hkv⟩ : ∃ p, l[i]? = some p := ⟨l[i], List.getElem?_eq_getElem hi⟩
    have hi' : i < es'.size := by omega
    obtain ⟨ek, ev⟩ := ent i k q a hi' hkv
    obtain ⟨ok, ov, he⟩ := st
    rw [← hsz] at he
    have hlt : it < s.heap.objs.size := Heap.lt_size he
    refine wpAny_pyNext_items_item_raw he raw hi' fun h' ho hT hz hk => ?_
    refine ⟨_, rfl, wpAny_letOwnedTupleGo_items (s := { s with heap := h' }) ho fun h'' he' sb => ?_⟩
    have hT2 : h''.get? s.heap.objs.size = some { cls := .type "tuple", data := .seq #[.ref q, .ref a] } := by rw [← ek, ← ev]; exact (sb.2 _ (Nat.ne_of_gt hlt)).trans hT
    have new : ObjOk X.prog X.w (upd H s.heap.objs.size (.tup [.ref q, .ref a])) h'' s.heap.objs.size (.tup [.ref q, .ref a]) :=
      ⟨by show 2 ≤ sizeLine; decide, [.ref q, .ref a], .cons rfl (.cons rfl .nil), ⟨_, hT2, rfl, _, rfl⟩⟩
    have I1 : Inv X pins σ (upd H s.heap.objs.size (.tup [.ref q, .ref a])) { s with heap := h'' } :=
      I.turnedNew (t' := s.toks) (ch := [it]) (fun b ob hb e => (sb.2 b (by simpa using hb)).trans (hk b ob (by simpa using hb) e)) hf (Nat.le_refl _) new
    refine ⟨.ref s.heap.objs.size, _, I1, rfl, ⟨_, k, q, a, hkv, rfl, I.hok.fresh (Nat.le_refl _), rfl⟩, ⟨es'[i].key, es'[i].val, ?_⟩, fun b hb => ?_⟩
    · rw [← hsz]; exact he'
    · have e : b = it := by simpa using hb
      rw [e, upd_ne (Nat.ne_of_lt hlt)]
      exact (hf it (by simp)).1
  done := by
    intro X hP hw hK hc i pins s σ H E I hf st hg
    subst hP hw hK
    obtain ⟨hd, hi⟩ := hg
    obtain ⟨f0, f1, f2, f3, f4, f5⟩ := hf it (by simp)
    obtain ⟨hs, hgd, hx, es', ep', hdt, raw, hsz, ent⟩ := I.frzN hd
    obtain ⟨rfl, rfl⟩ := dict_ep hod hdt
    obtain ⟨ok, ov, he⟩ := st
    rw [← hsz] at he hi
    exact wpAny_pyNext_items_end_raw (I.ok.hd hc) he raw hi fun h' eb => ⟨rfl, I.turned (t' := s.toks) (fun b ob hb e => eb b ob hb e) f0 f1 f3 f4 f5⟩
  self := fun A i s Q E st h => let ⟨_, _, e⟩ := st; PySem.W.kcp_self e h
end
def iKeysN (P : Program) (w : World) (td : TE) : TI := fun σ H R => td σ H fun x H1 => ∃ d o l, x = .ref d ∧ H1 d = some (.frz o (DfO P w d l)) ∧ R (ItkN P w d o l) H1
def iValsN (P : Program) (w : World) (td : TE) : TI := fun σ H R => td σ H fun x H1 => ∃ d o l, x = .ref d ∧ H1 d = some (.frz o (DfO P w d l)) ∧ R (ItdN P w d o l) H1
def iItemsN (P : Program) (w : World) (td : TE) : TI := fun σ H R => td σ H fun x H1 => ∃ d o l, x = .ref d ∧ H1 d = some (.frz o (DfO P w d l)) ∧ R (ItiN P w d o l) H1
section
variable {X : Cx} {tg e : Expr} {td : TE} {apos cpos : Pos}
theorem noDict_raw {s : Shared} {d : Addr} {es : Array DictEntry} {ep : Nat} (x : s.heap.DictRaw d es ep) : ∀ a : Addr, Value.ref d = Value.ref a → ∃ ob, s.heap.get? a = some ob ∧ ob.dict = none := by
  obtain ⟨o, h, c, _⟩ := x
  intro a e
  cases e
  exact ⟨o, h, c.2.1⟩
theorem pi_keysN (he : PE X e td) : PI X tg e (iKeysN X.prog X.w td) := by
  refine ⟨fun pins s σ H R I h => thn (he.run pins s σ H _ I h) fun u s1 hh => ?_⟩
  obtain ⟨x, H1, I1, rx, d, o, l, rfl, hd, q⟩ := hh
  obtain rfl : u = Value.ref d := rx
  obtain ⟨hs, hgd, hx, es, ep, hdt, raw, hsz, ent⟩ := I1.frzN hd
  refine iter_keys hs hgd hx hdt (pi_one (tk := s1.toks) I1 _ (turn_keysN _ hdt) ⟨_, Heap.get?_push_size _ rfl, rfl, ?_⟩ q)
  rw [hsz] <;> rfl
theorem pi_valuesN (he : PE X e td) (hbase : attributeBase e "values" X.env (eval e X.env) = eval e X.env := by rfl) (hline : (apos.endLine == cpos.line) = true := by rfl) : PI X tg (.Call (.Attribute e "values" apos) [] [] cpos) (iValsN X.prog X.w td) := by
  refine ⟨fun pins s σ H R I h => wpAny_Call_method (T := "dict") (id := "dict.values") hbase rfl hline F.plainAttrs_dict F.slot_dict_values F.type_dict_values (thn (he.run pins s σ H _ I h) fun u s1 hh => ?_)⟩
  obtain ⟨x, H1, I1, rx, d, o, l, rfl, hd, q⟩ := hh
  obtain rfl : u = Value.ref d := rx
  obtain ⟨hs, hgd, hx, es, ep, hdt, raw, hsz, ent⟩ := I1.frzN hd
  refine ⟨raw.typeIs, noDict_raw raw, ?_⟩
  have I2 : Inv X pins σ H1 { s1 with heap := s1.heap.push { cls := .type "dict_values", data := .fields #[.ref d] } } := I1.kept (t' := s1.toks) fun b ob q => Heap.get?_push_of_some _ q
  have fin : wpAny (model X.prog X.w) X.A (pyIter (.ref s1.heap.objs.size)) (PIE X pins σ tg R) X.xe { s1 with heap := s1.heap.push { cls := .type "dict_values", data := .fields #[.ref d] } } := by
    refine wpAny_pyIter_values_raw (d := d) ⟨_, Heap.get?_push_size _ rfl, rfl, rfl⟩ (raw.at fun _ e => Heap.get?_push_of_some _ e) (pi_one (tk := s1.toks) I2 _ (turn_valsN _ hdt) ⟨_, Heap.get?_push_size _ rfl, rfl, ?_⟩ q)
    rw [hsz] <;> rfl
  show wpAny _ _ (callWith cpos (.builtin "dict.values") [.ref d] [] []) _ X.xe s1
  exact method_meetsIn F.slot_dict_values F.entry_dict_values rfl (PySem.evalArgs_none ⟨rfl, raw.typeIs, F.args_dict_values_1 _, _, meets_dict_values_raw d hs, ⟨es, ep, raw⟩, fin⟩)
theorem pi_itemsN {elts : List Expr} {kk : Nat} {tpos : Pos} (he : PE X e td) (hbase : attributeBase e "items" X.env (eval e X.env) = eval e X.env := by rfl) (hline : (apos.endLine == cpos.line) = true := by rfl) :
    PI X (.Tuple elts kk tpos) (.Call (.Attribute e "items" apos) [] [] cpos) (iItemsN X.prog X.w td) := by
  refine ⟨fun pins s σ H R I h => wpAny_Call_method (T := "dict") (id := "dict.items") hbase rfl hline F.plainAttrs_dict F.slot_dict_items F.type_dict_items (thn (he.run pins s σ H _ I h) fun u s1 hh => ?_)⟩
  obtain ⟨x, H1, I1, rx, d, o, l, rfl, hd, q⟩ := hh
  obtain rfl : u = Value.ref d := rx
  obtain ⟨hs, hgd, hx, es, ep, hdt, raw, hsz, ent⟩ := I1.frzN hd
  refine ⟨raw.typeIs, noDict_raw raw, ?_⟩
  have I2 : Inv X pins σ H1 { s1 with heap := s1.heap.push { cls := .type "dict_items", data := .fields #[.ref d] } } := I1.kept (t' := s1.toks) fun b ob q => Heap.get?_push_of_some _ q
  have fin : wpAny (model X.prog X.w) X.A (pyIter (.ref s1.heap.objs.size)) (PIE X pins σ (.Tuple elts kk tpos) R) X.xe { s1 with heap := s1.heap.push { cls := .type "dict_items", data := .fields #[.ref d] } } := by
    refine wpAny_pyIter_items_raw (d := d) ⟨_, Heap.get?_push_size _ rfl, rfl, rfl⟩ (raw.at fun _ e => Heap.get?_push_of_some _ e) (pi_one (tk := s1.toks) I2 _ (turn_itemsN _ hdt) ⟨.none, .none, ?_⟩ q)
    rw [← hsz]
    exact Heap.get?_push_size _ rfl
  show wpAny _ _ (callWith cpos (.builtin "dict.items") [.ref d] [] []) _ X.xe s1
  exact method_meetsIn F.slot_dict_items F.entry_dict_items rfl (PySem.evalArgs_none ⟨rfl, raw.typeIs, F.args_dict_items_1 _, _, meets_dict_items_raw d hs, ⟨es, ep, raw⟩, fin⟩)
end
section
variable {P : Program} {w : World} {d : Addr} {o : Obj} {l : NAV}
theorem walk_keysN : Walk (ItkN P w d o l) l.length (fun H => H d = some (.frz o (DfO P w d l))) (fun i H x H' => H' = H ∧ ∃ k q a, l[i]? = some (k, q, a) ∧ x = .ref q) :=
  ⟨fun _ _ hi q => ⟨q, hi⟩, fun _ q => ⟨q, Nat.le_refl _⟩, fun _ _ _ _ _ _ y => y⟩
theorem walk_valuesN : Walk (ItdN P w d o l) l.length (fun H => H d = some (.frz o (DfO P w d l))) (fun i H x H' => H' = H ∧ ∃ k q a, l[i]? = some (k, q, a) ∧ x = .ref a) :=
  ⟨fun _ _ hi q => ⟨q, hi⟩, fun _ q => ⟨q, Nat.le_refl _⟩, fun _ _ _ _ _ _ y => y⟩
theorem walk_itemsN : Walk (ItiN P w d o l) l.length (fun H => H d = some (.frz o (DfO P w d l)))
    (fun i H x H' => ∃ T k q a, l[i]? = some (k, q, a) ∧ x = .ref T ∧ H T = none ∧ H' = upd H T (.tup [.ref q, .ref a])) :=
  ⟨fun _ _ hi q => ⟨q, hi⟩, fun _ q => ⟨q, Nat.le_refl _⟩, fun _ _ _ _ _ _ y => y⟩
end
end L2

set_option Elab.async false
set_option linter.all false
set_option maxRecDepth 100000
set_option maxHeartbeats 1000000
/-! such dicts: d[k], d.get(k, x), d[k] = v, {} -/
namespace L2
open PySem PySem.Spec PyProof.Rows
def findN (l : NAV) (k : List Key) : Option (Addr × Addr) := (l.find? fun x => decide (x.1 = k)).map (·.2)
def putN (l : NAV) (k : List Key) (b a : Addr) : NAV := if (findN l k).isSome = true then l.map (fun x => if x.1 = k then (x.1, x.2.1, a) else x) else l ++ [(k, b, a)]
theorem atKey_toV (l : NAV) (k : List Key) : atKey (l.map toV) k = (findN l k).map fun p => (p.1, Value.ref p.2) := by
  unfold atKey findN
  induction l with
  | nil => rfl
  | cons x r ih =>
    rw [List.map_cons, List.find?_cons, List.find?_cons]
    by_cases c : x.1 = k
    · rw [decide_eq_true c, decide_eq_true (show (toV x).1 = k from c)]
      rfl
    · rw [decide_eq_false c, decide_eq_false (show ¬ (toV x).1 = k from c)]
      exact ih
theorem storedH_toV (l : NAV) (k : List Key) (b a : Addr) : storedH (l.map toV) k b (.ref a) = (putN l k b a).map toV := by
  unfold storedH putN
  rw [atKey_toV, Option.isSome_map]
  by_cases c : (findN l k).isSome = true
  · rw [if_pos c, if_pos c, List.map_map, List.map_map]
    refine List.map_congr_left fun x _ => ?_
    show putAt k (Value.ref a) (toV x) = toV (if x.1 = k then (x.1, x.2.1, a) else x)
    unfold putAt
    by_cases e : x.1 = k
    · rw [if_pos e, if_pos (show (toV x).1 = k from e)]
      rfl
    · rw [if_neg e, if_neg (show ¬ (toV x).1 = k from e)]
  · rw [if_neg c, if_neg c, List.map_append]
    rfl
/-- the keys stand -/
def KeysD (H : Hp) (l : NAV) : Prop := ∀ x ∈ l, TupN H x.2.1 (x.1.map kV)
theorem KeysD.same {H H' : Hp} {l : NAV} (h : KeysD H l) (S : Same H H') : KeysD H' l := fun x hx => (h x hx).same S
theorem KeysD.sameB {D : Addr} {H H' : Hp} {l : NAV} {P : Program} {w : World} {m : KAV} (h : KeysD H l) (S : SameB D H H') (hD : H D = some (DnO P w D m)) : KeysD H' l := fun x hx => (h x hx).sameB S fun e => by
  obtain ⟨o, h1, _⟩ := h x hx
  rw [e, hD] at h1
  cases h1
theorem KeysD.toN {H : Hp} {l : NAV} (h : KeysD H l) : KeysN H (l.map toV) := fun x hx => by
  obtain ⟨y, hy, rfl⟩ := List.mem_map.mp hx
  exact h y hy
theorem KeysD.put {H : Hp} {l : NAV} {k : List Key} {b a : Addr} (h : KeysD H l) (hb : TupN H b (k.map kV)) : KeysD H (putN l k b a) := by
  unfold putN
  split
  · intro x hx
    obtain ⟨y, hy, rfl⟩ := List.mem_map.mp hx
    by_cases e : y.1 = k
    · rw [if_pos e]; exact h y hy
    · rw [if_neg e]; exact h y hy
  · intro x hx
    rcases List.mem_append.mp hx with hx | hx
    · exact h x hx
    · rw [List.mem_singleton.mp hx]; exact hb
/-- what the dict at d holds at y -/
def GetN (P : Program) (w : World) (K : PySem.W.Frag) (H : Hp) (d : Addr) (y : V) (r : Option Addr) : Prop := ∃ (l : NAV) (b : Addr) (k : List Key), Rd H d (DfO P w d l) ∧ KeysD H l ∧ y = .ref b ∧ SqT K H b (k.map kV) ∧ r = (findN l k).map (·.2)
def orV (r : Option Addr) (z : V) : V := match r with
  | some a => .ref a
  | none => z
def rDf (P : Program) (w : World) (K : PySem.W.Frag) : R2 := fun x y H Q => ∃ (d a : Addr), x = .ref d ∧ GetN P w K H d y (some a) ∧ Q (.ref a) H
def rDfPut (X : Cx) : TSet := fun o i v H Q => ∃ (d b a : Addr) (l : NAV) (k : List Key), o = .ref d ∧ i = .ref b ∧ v = .ref a ∧ H d = some (DfO X.prog X.w d l) ∧ KeysD H l ∧ SqT X.K H b (k.map kV) ∧ l.length < sizeLine ∧ Q (upd H d (DfO X.prog X.w d (putN l k b a)))
def tGet2N (X : Cx) (td ty tx : TE) : TE := fun σ H Q => td σ H fun x H1 => ∃ (d : Addr) (m : NAV), x = .ref d ∧ Rd H1 d (DfO X.prog X.w d m) ∧ ty σ H1 fun y H2 => tx σ H2 fun z H3 => ∃ r, GetN X.prog X.w X.K H3 d y r ∧ Q (orV r z) H3
def tNewD (X : Cx) : TE := fun _ H Q => ∀ p, H p = none → Q (.ref p) (upd H p (DfO X.prog X.w p []))
section
variable {X : Cx} {o e f : Expr} {apos cpos pos : Pos} {td ty tx : TE}
theorem ix_df (hu : X.A.units + 1 < cLine) : IxR X (rDf X.prog X.w X.K) := by
  intro value slice pins s σ H x y v u Q I rx ry h hs
  obtain ⟨d, a, rfl, ⟨l, b, k, hd, ks, rfl, sb, hr⟩, q⟩ := h
  obtain ⟨p, hp, rfl⟩ := Option.map_eq_some_iff.mp hr.symm
  exact ix_dn hu value slice pins s σ H _ _ v u Q I rx ry ⟨d, l.map toV, b, k, (p.1, .ref p.2), .ref p.2, rfl, rfl, hd, ks.toN, sb, by rw [atKey_toV, hp]; rfl, rfl, q⟩ hs
theorem set_df (hu : X.A.units + 1 < cLine) : PSet X (rDfPut X) := by
  intro pins s σ H o i v ov iv u Q I ro ri rv h
  obtain ⟨d, b, a, l, k, e1, e2, e3, hd, ks, sb, hl, q⟩ := h
  refine set_dn hu pins s σ H o i v ov iv u Q I ro ri rv ⟨d, l.map toV, b, a, k, e1, e2, e3, hd, ks.toN, sb, by rw [List.length_map]; exact hl, ?_⟩
  rw [storedH_toV]
  exact q
theorem pe_newD : PE X (.Dict [] [] pos) (tNewD X) := pe_dnewN
theorem dfo_is {pins : List (Addr × Obj)} {σ : St} {H : Hp} {s : Shared} {d : Addr} {l : NAV} (I : Inv X pins σ H s) (h : Rd H d (DfO X.prog X.w d l)) : s.TypeIs (.ref d) "dict" ∧ ∀ a : Addr, Value.ref d = .ref a → ∃ ob, s.heap.get? a = some ob ∧ ob.dict = none := by
  obtain ⟨_, _, _, ob, es, ep, h1, h2, _⟩ := dn_get I h
  refine ⟨⟨ob, h1, h2.1⟩, fun a ea => ?_⟩
  cases ea
  exact ⟨ob, h1, h2.2.1⟩
theorem pe_get2N (hu : X.A.units + 1 < cLine) (ho : PE X o td) (he : PE X e ty) (hf : PE X f tx) (m : M2 X o "get" apos e f cpos) : PE X (.Call (.Attribute o "get" apos) [e, f] [] cpos) (tGet2N X td ty tx) := by
  refine ⟨fun pins s σ H Q I h => wpAny_Call_method m.base m.few m.line PySem.F.plainAttrs_dict PySem.F.slot_dict_get PySem.F.type_dict_get (thn (ho.run pins s σ H _ I h) fun u s1 hh => ?_)⟩
  obtain ⟨x, H1, I1, rx, d, m', rfl, hd1, q1⟩ := hh
  obtain rfl : u = Value.ref d := rx
  obtain ⟨t1, t2⟩ := dfo_is I1 hd1
  refine ⟨t1, t2, ?_⟩
  rw [m.trees]
  refine Calls.callWith_builtin rfl (Calls.evalArgs_plain (Calls.spliced_cons (thn (he.run pins s1 σ H1 _ I1 q1) fun iv s2 h2 => ?_)))
  obtain ⟨y, H2, I2, ry, q2⟩ := h2
  refine Calls.spliced_cons (thn (hf.run pins s2 σ H2 _ I2 q2) fun fv s3 h3 => Calls.spliced_nil ?_)
  obtain ⟨z, H3, I3, rz, r, ⟨l, b, k, hd, ks, rfl, sb, hr⟩, q3⟩ := h3
  obtain rfl : iv = Value.ref b := ry
  have dd := dn_of I3 hd ks.toN
  obtain ⟨_, hm, _⟩ := dn_get I3 hd
  refine call_meetsIn PySem.F.slot_dict_get dd.typeIs PySem.F.entry_dict_get (PySem.F.args_dict_get_3 _ _ _) (meetsH_dict_get_default (tupleKind (mixKind X.prog X.w)) d b hm fv) ⟨tupleKind_room_in1 hu, k, l.map toV, key_N I3 sb, dd, orV r z, H3, I3.tok _, ?_, q3⟩
  rw [atKey_toV, hr]
  cases findN l k with
  | none => exact rz
  | some p => rfl
end
end L2

set_option Elab.async false
set_option linter.all false
set_option maxRecDepth 100000
set_option maxHeartbeats 2000000
/-! {k: v for target in iter if ..} whose keys are tuples; items() of such a dict. -/
namespace L2
open PySem PySem.Spec PyProof.Rows
theorem dn_empty {P : Program} {w : World} {H : Hp} (h : Heap) (hb : sysModules < h.objs.size) : ObjOk P w H (h.push { cls := .type "dict", data := .dict #[] }) h.objs.size (DfO P w h.objs.size []) :=
  dn_ok ⟨Nat.zero_le _, beq_eq_false_iff_ne.mpr (Ne.symm (Nat.ne_of_lt hb)), List.nodup_nil, _, #[], 0, Heap.get?_push_size _ rfl, ⟨rfl, rfl, rfl⟩, rfl, rfl⟩
/-- d[y] = z by a comprehension -/
theorem dN_set {X : Cx} {pins : List (Addr × Obj)} {σ : St} {H : Hp} {s : Shared} {D b a : Addr} {l : NAV} {k : List Key} {u r : Value} {Q : Unit → Shared → Prop} {E : Value → Shared → Prop} (hu : X.A.units < cLine) (I : Inv X pins σ H s) (hD : H D = some (DfO X.prog X.w D l)) (ks : KeysD H l) (hb : SqT X.K H b (k.map kV))
    (hz : l.length < sizeLine) (ry : RelV (.ref b) u) (rv : RelV (.ref a) r) (h : ∀ s', Inv X pins σ (upd H D (DfO X.prog X.w D (putN l k b a))) s' → Q () s') : wpAny (model X.prog X.w) X.A (dictSet D u r) Q E s := by
  obtain rfl : u = Value.ref b := ry
  obtain rfl : r = Value.ref a := rv
  have dd := dn_of I (.inl hD) ks.toN
  obtain ⟨z0, hm, _⟩ := dn_get I (.inl hD)
  refine wpAny_dictSet_heap (hsz := z0) hu (key_N I hb) dd fun h' dd' hs => h _ ?_
  rw [storedH_toV] at dd'
  obtain ⟨o, es, ep, ho, h2, h3, h4, _, h5⟩ := dd'
  have ln : ((putN l k b a).map toV).length ≤ sizeLine := by
    rw [List.length_map]
    unfold putN
    split
    · rw [List.length_map]; omega
    · rw [List.length_append]; exact hz
  exact d_write I (by rw [hD]; exact True.intro) hs ⟨o, ho⟩ (dn_ok ⟨ln, hm, h5, o, es, ep, ho, h2, h3, h4⟩)
/-- what a turn of such a comprehension leaves -/
def TurnN (P : Program) (w : World) (K : PySem.W.Frag) (D : Addr) (Nx : Hp → Prop) (y z : V) (H : Hp) : Prop := ∃ l k b a, y = .ref b ∧ z = .ref a ∧ SqT K H b (k.map kV) ∧ H D = some (DfO P w D l) ∧ KeysD H l ∧ l.length < sizeLine ∧ Nx (upd H D (DfO P w D (putN l k b a)))
/-- its reading: D the new dict -/
def tDcN (P : Program) (w : World) (K : PySem.W.Frag) (wi : TI) (g : TG) (tt : TT) (tk tv : TE) (vs : List Nat) : TE := fun σ H Q => wi σ H fun J H1 => ∀ D, H1 D = none → ∃ W : Nat → Nat → Hp → Prop, (∃ m, W 0 m (upd H1 D (DfO P w D []))) ∧ ∀ i m H, W i m H →
  (J.stop i H ∧ Q (.ref D) H) ∨ (J.go i H ∧ ∃ Nx : Hp → Prop, (∀ H', Nx H' → ∃ m', m' < m ∧ W (i + 1) m' H') ∧ ∀ x H', J.yld i H x H' → g x (wipe σ vs) H' fun σ2 H2 => wipe σ2 vs = wipe σ vs ∧ tt σ2 H2 fun b H3 =>
    if b = true then tk σ2 H3 fun y H4 => tv σ2 H4 fun z H5 => TurnN P w K D Nx y z H5 else Nx H3)
section
variable {X : Cx} {kx vx tg iter : Expr} {ifs : List Expr} {scope : Scope} {own : List (Str × Nat)} {pos : Pos} {wi : TI} {g : TG} {tt : TT} {tk tv : TE}
/-- a comprehension's block may be read in any state of the block's own context -/
structure BlkRN (X : Cx) (tg kx vx : Expr) (ifs : List Expr) (scope : Scope) (g : TG) (tt : TT) (tk tv : TE) : Prop where
  tg : ∀ (s : Shared) (H : Hp) (C : Addr) (cl : List (Str × Addr)) (fp : List Addr), PG (X.blk s H scope (compEnvC scope cl C X.env) fp) tg g
  ifs : ∀ (s : Shared) (H : Hp) (C : Addr) (cl : List (Str × Addr)) (fp : List Addr), PTs (X.blk s H scope (compEnvC scope cl C X.env) fp) ifs tt
  key : ∀ (s : Shared) (H : Hp) (C : Addr) (cl : List (Str × Addr)) (fp : List Addr), PE (X.blk s H scope (compEnvC scope cl C X.env) fp) kx tk
  val : ∀ (s : Shared) (H : Hp) (C : Addr) (cl : List (Str × Addr)) (fp : List Addr), PE (X.blk s H scope (compEnvC scope cl C X.env) fp) vx tv
theorem dcN_core {pins : List (Addr × Obj)} {s : Shared} {σ : St} {H : Hp} {Q : VK} {pos' : Pos} {use : Option (Value → Sem Unit)} {Qf : Value → Shared → Prop} (hu : X.A.units < cLine) (hc : X.calm = true) (hN : X.N.Nodup) (I : Inv X pins σ H s) (hi : PI X tg iter wi) (ok : BlkOk X.N X.env.scope scope own) (B : BlkRN X tg kx vx ifs scope g tt tk tv) (hs : ∀ x, foldedSetIterable iter X.env x = pure x)
    (h : tDcN X.prog X.w X.K wi g tt tk tv (own.map (·.2)) σ H Q)
    (fin : ∀ D C s' m H', Inv X pins σ H' s' → Q (.ref D) H' → s'.heap.Ns C m → FpOk X pins H' C → compPost (model X.prog X.w) X.A X.xe use Qf (.ref D) C (.ok .next) s') :
    wpAny (model X.prog X.w) X.A (comprehension (.DictComp kx vx [⟨tg, iter, ifs, 0⟩] scope pos) scope X.env pos' newDict false (eval iter X.env) use) Qf X.xe s := by
  have cells : ∀ y ∈ scope.names, y.2 = .free → ∃ c, X.env.cells.lookup y.1 = some c := fun y hy e => I.ok.has _ (ok.free y hy e)
  refine wpAny_comprehension_free (use := use) rfl hs (closure_ok cells) ok.kind (fun y hy e => by rw [ok.uniq y hy, e]) (thn (hi.run pins s σ H _ I h) fun xv s1 hx => thn hx fun itv s2 h2 => ?_)
  obtain ⟨it, fp, tn, J, H2, rfl, I2, T, st2, f2, q⟩ := h2
  refine wpAny_newObj_type (newEnv_comp ?_)
  -- the new dict, at D
  generalize hD : s2.heap.objs.size = D
  have Dn : H2 D = none := I2.hok.fresh (Nat.le_of_eq hD)
  obtain ⟨W, ⟨m0, w0⟩, turn⟩ := q D Dn
  generalize hs3 : ({ s2 with heap := s2.heap.push { cls := .type "dict", data := .dict #[] } } : Shared) = s3
  have h3 : s3.heap = s2.heap.push { cls := .type "dict", data := .dict #[] } := by rw [← hs3]
  have I3 : Inv X pins σ (upd H2 D (DfO X.prog X.w D [])) s3 := by
    subst hs3 hD
    exact I2.laid (t' := s2.toks) (fun _ _ e => Heap.get?_push_of_some _ e) (Nat.le_refl _) (dn_empty s2.heap I2.big)
  have below : ∀ b ∈ fp, b < s2.heap.objs.size := fun b hb => let ⟨o, e, _⟩ := T.obj _ _ st2 b hb; Heap.lt_size e
  have f3 : ∀ b ∈ fp, FpOk X pins (upd H2 D (DfO X.prog X.w D [])) b ∧ b < s3.heap.objs.size := fun b hb =>
    ⟨⟨by rw [upd_ne (by rw [← hD]; exact Nat.ne_of_lt (below b hb))]; exact (f2 b hb).1, (f2 b hb).2⟩, by rw [h3, Heap.size_push]; exact Nat.lt_succ_of_lt (below b hb)⟩
  have st3 : tn 0 s3.heap := T.keep _ _ _ st2 fun b _ o e => by rw [h3]; exact Heap.get?_push_of_some _ e
  have I4 := block_start I3 ok hN f3
  show codeAny _ _ (.compStart (.DictComp kx vx [⟨tg, iter, ifs, 0⟩] scope pos) 0 (.ref it) (.ref D) (compEnvC scope (cellsFrom (s3.heap.objs.size + 1) scope.names (cloFrom X.env.cells scope.names [])) s3.heap.objs.size X.env)) (compPost (model X.prog X.w) X.A X.xe use Qf (.ref D) s3.heap.objs.size) { s3 with heap := pushCells (s3.heap.push { cls := .type "dict", data := .dict #[] }) scope.names }
  have B1 := B.tg s3 (upd H2 D (DfO X.prog X.w D [])) s3.heap.objs.size (cellsFrom (s3.heap.objs.size + 1) scope.names (cloFrom X.env.cells scope.names [])) fp
  have B2 := B.ifs s3 (upd H2 D (DfO X.prog X.w D [])) s3.heap.objs.size (cellsFrom (s3.heap.objs.size + 1) scope.names (cloFrom X.env.cells scope.names [])) fp
  have B3 := B.key s3 (upd H2 D (DfO X.prog X.w D [])) s3.heap.objs.size (cellsFrom (s3.heap.objs.size + 1) scope.names (cloFrom X.env.cells scope.names [])) fp
  have B4 := B.val s3 (upd H2 D (DfO X.prog X.w D [])) s3.heap.objs.size (cellsFrom (s3.heap.objs.size + 1) scope.names (cloFrom X.env.cells scope.names [])) fp
  generalize hce : compEnvC scope (cellsFrom (s3.heap.objs.size + 1) scope.names (cloFrom X.env.cells scope.names [])) s3.heap.objs.size X.env = ce at I4 B1 B2 B3 B4 ⊢
  have cL : ce.locals = s3.heap.objs.size := by subst hce; rfl
  generalize hH3 : upd H2 D (DfO X.prog X.w D []) = H3 at I3 I4 B1 B2 B3 B4 w0 f3
  generalize hs4 : ({ s3 with heap := pushCells (s3.heap.push { cls := .type "dict", data := .dict #[] }) scope.names } : Shared) = s4 at I4 ⊢
  have st4 : tn 0 s4.heap := T.keep _ _ _ st3 fun b _ o e => by rw [← hs4]; exact pushCells_keeps _ _ _ _ (Heap.get?_push_of_some _ e)
  -- the iterator's objects are nobody's else
  have mine : ∀ {σ' : St} {H' : Hp} {s' : Shared}, Inv (X.blk s3 H3 scope ce fp) [] σ' H' s' → (∀ b ∈ fp, H' b = none) → ∀ b ∈ fp, FpOk (X.blk s3 H3 scope ce fp) [] H' b := fun {σ' H' s'} I' hn b hb =>
    ⟨hn b hb, (I'.ok.exf b hb).1, I'.ok.exfs b hb, .inl hb, fun x c e => (I'.ok.exf b hb).2 x c e, fun p hp => (List.not_mem_nil (show p ∈ ([] : List (Addr × Obj)) from hp)).elim⟩
  refine codeAny_compStart_dict ?loop (T.self X.A 0 _ _ _ st4 ?loop)
  refine compLoop_anyD (fun n s' => ∃ i H', Inv (X.blk s3 H3 scope ce fp) [] (wipe σ (own.map (·.2))) H' s' ∧ tn i s'.heap ∧ (∀ b ∈ fp, H' b = none) ∧ W i n H') ?_ m0 ⟨0, H3, I4, st4, fun b hb => (f3 b hb).1.1, w0⟩
  rintro n s5 ⟨i, H5, I5, st5, n5, w5⟩
  rcases turn i n H5 w5 with ⟨stop, fq⟩ | ⟨go, Nx, next, step⟩
  · -- no item is left: back to the def
    refine thnF (T.done (X.blk s3 H3 scope ce fp) rfl rfl rfl hc i [] s5 _ H5 (fun _ _ => False) I5 (mine I5 n5) st5 stop) fun r s6 hr => ?_
    obtain ⟨rfl, I6⟩ := hr
    have I7 : Inv X pins σ H5 s6 := I3.call' (ch := fp) I6.os I6.base I6.hok I6.bare fun b hb => ⟨(f3 b hb).1.2.2.2.1, (f3 b hb).1.2.1, (f3 b hb).1.2.2.2.2.1, (f3 b hb).1.2.2.2.2.2⟩
    obtain ⟨m, hn, _⟩ := I6.loc
    have nC : H5 s3.heap.objs.size = none := cL ▸ (show H5 ce.locals = none from I6.free)
    have hn' : s6.heap.Ns s3.heap.objs.size m := cL ▸ (show s6.heap.Ns ce.locals m from hn)
    exact fin D s3.heap.objs.size s6 m H5 I7 fq hn' (I3.fpOk (Nat.le_refl _) nC)
  · -- a turn
    refine thnF (T.item (X.blk s3 H3 scope ce fp) rfl rfl rfl hc i [] s5 _ H5 (fun _ _ => False) I5 (mine I5 n5) st5 go) fun r s6 hr => ?_
    obtain ⟨u, rfl, h6⟩ := hr
    refine thnF h6 fun _ s7 hh => ?_
    obtain ⟨x, H7, I7, r7, y7, st7, n7⟩ := hh
    have P7 := I7.pinned (mine I7 n7) (T.obj _ _ st7)
    refine thnF (B1.run _ s7 _ H7 x u _ P7 r7 (step x H7 y7)) fun _ s8 hh => ?_
    obtain ⟨σ8, H8, I8, hw8, q8⟩ := hh
    refine thnF (B2.run _ s8 σ8 H8 _ I8 q8) fun b s9 hh => ?_
    obtain ⟨H9, I9, q9⟩ := hh
    have close : ∀ {s' : Shared} {H' : Hp}, Inv (X.blk s3 H3 scope ce fp) ([] ++ pinsAt fp s7.heap) σ8 H' s' → Nx H' → ∃ m, m < n ∧ ∃ i H', Inv (X.blk s3 H3 scope ce fp) [] (wipe σ (own.map (·.2))) H' s' ∧ tn i s'.heap ∧ (∀ b ∈ fp, H' b = none) ∧ W i m H' := by
      intro s' H' I' nx
      obtain ⟨m', hm, w'⟩ := next H' nx
      have pin' : ∀ b ∈ fp, ∀ o, s7.heap.get? b = some o → s'.heap.get? b = some o ∧ H' b = none := fun b hb o e =>
        let z := I'.pin (b, o) (List.mem_append_right _ (List.mem_append_right _ (mem_pinsAt hb e)))
        ⟨z.1, z.2.1⟩
      refine ⟨m', hm, i + 1, H', (I'.unpinned (pins := [])).weak (by rw [← hw8, wipe_length]) (fun j v e => (wipe_some (hw8 ▸ e)).1), T.keep _ _ _ st7 fun b hb o e => (pin' b hb o e).1, fun b hb => ?_, w'⟩
      obtain ⟨o, e, _⟩ := T.obj _ _ st7 b hb
      exact (pin' b hb o e).2
    cases b with
    | false => exact close I9 (by simpa using q9)
    | true =>
      have q9' : tk σ8 H9 fun y H4 => tv σ8 H4 fun z H5 => TurnN X.prog X.w X.K D Nx y z H5 := by simpa using q9
      show wpAny _ _ (eval kx ce) _ _ _
      refine thnF (B3.run _ s9 σ8 H9 _ I9 q9') fun kv s10 hh => ?_
      obtain ⟨y, H10, I10, r10, q10⟩ := hh
      refine thnF (B4.run _ s10 σ8 H10 _ I10 q10) fun vv s11 hh => ?_
      obtain ⟨z, H11, I11, r11, l, k, b, a, rfl, rfl, hb, hD11, ksd, hz, nx⟩ := hh
      exact dN_set (X := X.blk s3 H3 scope ce fp) hu I11 hD11 ksd hb hz r10 r11 fun s12 I12 => close I12 nx
/-- as a value -/
theorem pe_dcN (hu : X.A.units < cLine) (hc : X.calm = true) (hN : X.N.Nodup) (hi : PI X tg iter wi) (ok : BlkOk X.N X.env.scope scope own) (B : BlkRN X tg kx vx ifs scope g tt tk tv) (hs : ∀ x, foldedSetIterable iter X.env x = pure x := by intro _; rfl) :
    PE X (.DictComp kx vx [⟨tg, iter, ifs, 0⟩] scope pos) (tDcN X.prog X.w X.K wi g tt tk tv (own.map (·.2))) := by
  refine ⟨fun pins s σ H Q I h => ?_⟩
  rw [arm_eval_DictComp]
  exact dcN_core hu hc hN I hi ok B hs h fun D C s' m H' I' q hn f => ⟨m, hn, fun h'' sb => ⟨.ref D, H', I'.turned (t' := s'.toks) (fun b o hb e => (sb.2 b hb).trans e) f.1 f.2.1 f.2.2.2.1 f.2.2.2.2.1 f.2.2.2.2.2, rfl, q⟩⟩
/-- name = {..} on one line, the name a local of the def's own -/
theorem ps_dcN {i : Nat} {y : Str} {py spos : Pos} (hsw : swapsWith (.DictComp kx vx [⟨tg, iter, ifs, 0⟩] scope pos) (some (.Name y py)) spos.line X.env = pure true) (hu : X.A.units < cLine) (hc : X.calm = true) (hN : X.N.Nodup) (hy : X.N[i]? = some y) (hyl : X.env.scope.names.lookup y = some .local)
    (hi : PI X tg iter wi) (ok : BlkOk X.N X.env.scope scope own) (B : BlkRN X tg kx vx ifs scope g tt tk tv) (hs : ∀ x, foldedSetIterable iter X.env x = pure x := by intro _; rfl) :
    PS X (.Assign [.Name y py] (.DictComp kx vx [⟨tg, iter, ifs, 0⟩] scope pos) spos) (tAsg (tDcN X.prog X.w X.K wi g tt tk tv (own.map (·.2))) (gName i)) := by
  refine ⟨fun pins s σ H D I h => ?_⟩
  rw [exec_Assign_Name_used _ _ _ _ hsw]
  refine wpAny_bind (wpAny_standAt (wpAny_bind ?_))
  show wpAny _ X.A (do let _ ← comprehension (.DictComp kx vx [⟨tg, iter, ifs, 0⟩] scope pos) scope X.env (firstIterPos [⟨tg, iter, ifs, 0⟩] pos) newDict false (eval iter X.env) (some (assign (.Name y py) X.env))) _ _ s
  refine wpAny_bind (thn (dcN_core (Q := fun x H1 => gName i x σ H1 D.nx) (Qf := fun _ s' => SP X pins D .next s') hu hc hN I hi ok B hs h fun L C s' m H' I' q hn f => ?_) fun _ s' hq => wpAny_pure (wpAny_pure hq))
  refine wpAny_assign_Name (store_ok2 (v := V.ref L) I' hN hy (.inl hyl) rfl (fun s2 I2 ⟨a, sb, ha⟩ => ?_) (.inr hyl))
  have ne : C ≠ a := by
    rcases ha with z | z
    · rw [z]; exact f.2.1
    · exact fun e => f.2.2.2.2.1 y a z e.symm
  exact ⟨m, hn.sameBut sb ne, fun h3 sb3 => ⟨_, H', I2.turned (t' := s2.toks) (fun b o hb e => (sb3.2 b hb).trans e) f.1 f.2.1 f.2.2.2.1 f.2.2.2.2.1 f.2.2.2.2.2, q⟩⟩
theorem swD_true {y : Str} {gs : List Comprehension} {py : Pos} {l : Nat} {env : Env} (hk : env.scope.kind = .function) (hy : env.scope.names.lookup y = some .local) (hl : (py.line == pos.line) = true)
    (ha : (scope.names.any fun (n, k) => n == y && (k == .local || k == .cell)) = false) : swapsWith (.DictComp kx vx gs scope pos) (some (.Name y py)) l env = pure true := by
  have ky : env.kindOf y = some .local := hy
  have hb : env.blockKind = .function := by unfold Env.blockKind; rw [hk]; rfl
  unfold swapsWith
  simp only [hb, ky, ha, Expr.pos, hl]
  rfl
end
end L2

set_option Elab.async false
set_option linter.all false
set_option maxRecDepth 100000
set_option maxHeartbeats 1000000
/-! {k: v}, k a tuple without a dict of its own; (a, b) as such a tuple -/
namespace L2
open PySem PySem.Spec PyProof.Rows
def tTupN (t : TA) : TE := fun σ H Q => t σ H fun xs H1 => xs.length ≤ sizeLine ∧ NewN H1 xs Q
theorem pe_tupN {X : Cx} {es : List Expr} {t : TA} {pos : Pos} {x1} (h : PA X es t) : PE X (.Tuple es x1 pos) (tTupN t) := by
  refine ⟨fun pins s σ H Q I hq => wpAny_Tuple_spliced (thn (h.run pos pins s σ H _ I hq) fun us s1 hh => ?_)⟩
  obtain ⟨xs, H1, I1, r, z, q⟩ := hh
  have n1 : H1 s1.heap.objs.size = none := I1.hok.fresh (Nat.le_refl _)
  exact ⟨by rw [← r.length]; exact z, .ref s1.heap.objs.size, _, tupN_laid I1 r z, rfl, q _ _ (Same.upd n1) n1 ⟨_, upd_same, rfl⟩⟩
def tDispN (X : Cx) (tk tv : TE) : TE := fun σ H Q => ∀ p, H p = none → tk σ (upd H p (DfO X.prog X.w p [])) fun x H1 => tv σ H1 fun y H2 => H2 p = some (DfO X.prog X.w p []) ∧ ∃ k b a, x = .ref b ∧ y = .ref a ∧ SqT X.K H2 b (k.map kV) ∧ Q (.ref p) (upd H2 p (DfO X.prog X.w p [(k, b, a)]))
section
variable {X : Cx} {k v : Expr} {tk tv : TE} {pos : Pos}
theorem pe_dispN (hu : X.A.units < cLine) (hk : PE X k tk) (hv : PE X v tv) : PE X (.Dict [some k] [v] pos) (tDispN X tk tv) := by
  refine ⟨fun pins s σ H Q I q => ?_⟩
  have hn := I.hok.fresh (Nat.le_refl s.heap.objs.size)
  generalize hp : s.heap.objs.size = p at hn
  have I1 : Inv X pins σ (upd H p (DfO X.prog X.w p [])) { s with heap := s.heap.push { cls := .type "dict", data := .dict #[] } } := by
    subst hp
    exact I.laid (t' := s.toks) (fun _ _ e => Heap.get?_push_of_some _ e) (Nat.le_refl _) (dn_empty s.heap I.big)
  have one : (pairTrees [some k] [v] X.env pos).length = 1 := rfl
  rw [arm_eval_Dict, zip_pairTrees [some k] [v] X.env pos rfl rfl, dictDisplay_pairs _ (by intro e; rw [e] at one; cases one) (by rw [one]; decide)]
  refine wpAny_bind (wpAny_standAt (wpAny_bind (wpAny_subDictH (knd := tupleKind (mixKind X.prog X.w)) (Q := fun d s' => wpAny (model X.prog X.w) X.A (pure (Value.ref d)) (EP X pins σ Q) X.xe s') hu (by rw [one]; decide) ?_)))
  refine thn ((pps_cons (pos := pos) hk hv pps_nil).run pins _ σ _ (fun ps H2 => match ps with
    | [(x, y)] => H2 p = some (DfO X.prog X.w p []) ∧ ∃ k b a, x = .ref b ∧ y = .ref a ∧ SqT X.K H2 b (k.map kV) ∧ Q (.ref p) (upd H2 p (DfO X.prog X.w p [(k, b, a)]))
    | _ => False) I1 (q p hn)) fun ws s2 hh => ?_
  obtain ⟨ps, H2, I2, rel, hh⟩ := hh
  match ps, hh with
  | [(x, y)], ⟨hD, kk, b, a, ex, ey, hb, hq⟩ =>
    subst ex ey
    unfold VV at rel
    cases rel with
    | @cons _ w1 _ _ h t =>
    cases t
    obtain ⟨w1a, w1b⟩ := w1
    obtain ⟨rx, ry⟩ := h
    obtain rfl : w1a = Value.ref b := rx
    obtain rfl : w1b = Value.ref a := ry
    have dd := dn_of I2 (.inl hD) (fun x hx => absurd hx List.not_mem_nil)
    rw [hp]
    refine ⟨[(kk, b, .ref a)], ⟨rfl, rfl, key_N I2 hb, trivial⟩, dd, fun h' tk dd' hs => wpAny_pure ⟨.ref p, _, ?_, rfl, hq⟩⟩
    obtain ⟨_, hm, _⟩ := dn_get I2 (.inl hD)
    obtain ⟨o, es, ep, ho, h2, h3, h4, _, h5⟩ := dd'
    exact d_write I2 (by rw [hD]; exact True.intro) hs ⟨o, ho⟩ (dn_ok ⟨by show 1 ≤ sizeLine; decide, hm, List.nodup_cons.mpr ⟨List.not_mem_nil, List.nodup_nil⟩, o, es, ep, ho, h2, h3, h4⟩)
end
end L2

set_option Elab.async false
set_option linter.all false
set_option maxRecDepth 100000
/-! Forms as lists of (letters, coefficient): the mathematics. -/
namespace L2
open PySem PySem.Spec PyProof.Rows
/-- the pair that lowest makes -/
def loq (a b : Int) : Int × Int :=
  let g : Int := ((Nat.gcd a.natAbs b.natAbs : Nat) : Int)
  let s := if b > 0 then g else -g
  (a.fdiv s, b.fdiv s)
theorem fdiv_dvd {a s : Int} (hs : s ≠ 0) (h : s ∣ a) : a.fdiv s = a / s := by
  obtain ⟨k, rfl⟩ := h
  rw [Int.mul_fdiv_cancel_left _ hs, Int.mul_ediv_cancel_left _ hs]
theorem loq_eq {a b : Int} (hb : b ≠ 0) : loq a b = ((Rat.divInt a b).num, ((Rat.divInt a b).den : Int)) := by
  have gp : 0 < Nat.gcd a.natAbs b.natAbs := Nat.gcd_pos_of_pos_right _ (by omega)
  have d1 : ((Nat.gcd a.natAbs b.natAbs : Nat) : Int) ∣ a := PySem.W.mg_dvd_left a b
  have d2 : ((Nat.gcd a.natAbs b.natAbs : Nat) : Int) ∣ b := PySem.W.mg_dvd_right a b
  unfold loq
  rw [Rat.num_divInt, Rat.den_divInt, if_neg hb]
  have gc : b.gcd a = Nat.gcd a.natAbs b.natAbs := by unfold Int.gcd; exact Nat.gcd_comm _ _
  rw [gc]
  generalize Nat.gcd a.natAbs b.natAbs = g at gp d1 d2
  have hg : (g : Int) ≠ 0 := by omega
  rcases Int.lt_or_gt_of_ne hb with h | h
  · have s1 : b.sign = -1 := Int.sign_eq_neg_one_of_neg h
    have e1 : a.fdiv (-(g : Int)) = b.sign * a / (g : Int) := by
      rw [fdiv_dvd (by omega) (Int.neg_dvd.mpr d1), s1]
      rw [Int.ediv_neg, show (-1 : Int) * a = -a by omega, Int.neg_ediv_of_dvd d1]
    have e2 : b.fdiv (-(g : Int)) = ((b.natAbs / g : Nat) : Int) := by
      rw [fdiv_dvd (by omega) (Int.neg_dvd.mpr d2), Int.ediv_neg, ← Int.neg_ediv_of_dvd d2]
      rw [Int.natCast_ediv]
      congr 1
      omega
    simp only [show ¬ (b > 0) by omega, if_false]
    rw [e1, e2]
  · have s1 : b.sign = 1 := Int.sign_eq_one_of_pos h
    have e1 : a.fdiv (g : Int) = b.sign * a / (g : Int) := by
      rw [fdiv_dvd hg d1, s1, Int.one_mul]
    have e2 : b.fdiv (g : Int) = ((b.natAbs / g : Nat) : Int) := by
      rw [fdiv_dvd hg d2, Int.natCast_ediv]
      congr 1
      omega
    simp only [show b > 0 from h, if_true]
    rw [e1, e2]
theorem loq_add (p q : Rat) : loq (p.num * (q.den : Int) + q.num * (p.den : Int)) ((p.den : Int) * (q.den : Int)) = ((p + q).num, ((p + q).den : Int)) := by
  have hp : (p.den : Int) ≠ 0 := by have := p.den_nz; omega
  have hq : (q.den : Int) ≠ 0 := by have := q.den_nz; omega
  rw [loq_eq (by intro e; rcases Int.mul_eq_zero.mp e with h | h <;> contradiction)]
  have e : Rat.divInt (p.num * (q.den : Int) + q.num * (p.den : Int)) ((p.den : Int) * (q.den : Int)) = p + q := by
    rw [← Rat.divInt_add_divInt _ _ hp hq, Rat.num_divInt_den, Rat.num_divInt_den]
  rw [e]
theorem loq_mul (p q : Rat) : loq (p.num * q.num) ((p.den : Int) * (q.den : Int)) = ((p * q).num, ((p * q).den : Int)) := by
  have hp : (p.den : Int) ≠ 0 := by have := p.den_nz; omega
  have hq : (q.den : Int) ≠ 0 := by have := q.den_nz; omega
  rw [loq_eq (by intro e; rcases Int.mul_eq_zero.mp e with h | h <;> contradiction)]
  have e : Rat.divInt (p.num * q.num) ((p.den : Int) * (q.den : Int)) = p * q := by
    rw [← Rat.divInt_mul_divInt, Rat.num_divInt_den, Rat.num_divInt_den]
  rw [e]
theorem rat_num (q : Rat) : (q.num : Rat) = q * (q.den : Rat) := by
  have h := Rat.num_divInt_den q
  rw [Rat.divInt_eq_div] at h
  have hd : ((q.den : Int) : Rat) ≠ 0 := by
    intro e
    have := Rat.intCast_inj.mp (e.trans (by rfl : (0 : Rat) = ((0 : Int) : Rat)))
    have := q.den_nz
    omega
  rw [Rat.intCast_natCast] at h hd
  grind
/-- a fraction's tuple -/
def frac (x : Rat) : List V := [.int x.num, .int x.den]
/-- q is z over D, z no more than M -/
def Bq (D M : Nat) (q : Rat) : Prop := ∃ z : Int, q * (D : Rat) = (z : Rat) ∧ z.natAbs ≤ M
theorem Bq.den {D M : Nat} {q : Rat} (h : Bq D M q) : q.den ∣ D := by
  obtain ⟨z, e, _⟩ := h
  have h1 : q.num * (D : Int) = z * (q.den : Int) := by
    have e1 : (q.num : Rat) = q * (q.den : Rat) := rat_num q
    have : ((q.num * (D : Int) : Int) : Rat) = ((z * (q.den : Int) : Int) : Rat) := by
      rw [Rat.intCast_mul, Rat.intCast_mul, e1, Rat.intCast_natCast, Rat.intCast_natCast, ← e]
      grind
    exact Rat.intCast_inj.mp this
  have h2 : q.den ∣ q.num.natAbs * D := by
    have h3 : (q.den : Int) ∣ q.num * (D : Int) := ⟨z, by rw [h1, Int.mul_comm]⟩
    have h4 := Int.natAbs_dvd_natAbs.mpr h3
    rwa [Int.natAbs_mul, Int.natAbs_natCast, Int.natAbs_natCast] at h4
  exact Nat.Coprime.dvd_of_dvd_mul_left (Nat.Coprime.symm q.reduced) h2
theorem Bq.den_le {D M : Nat} {q : Rat} (h : Bq D M q) (hD : 0 < D) : q.den ≤ D := Nat.le_of_dvd hD h.den
theorem Bq.num_le {D M : Nat} {q : Rat} (h : Bq D M q) (hD : 0 < D) : q.num.natAbs ≤ M := by
  obtain ⟨k, hk⟩ := h.den
  obtain ⟨z, e, hz⟩ := h
  have hk0 : 0 < k := by
    rcases Nat.eq_zero_or_pos k with r | r
    · rw [r, Nat.mul_zero] at hk; omega
    · exact r
  have h1 : q.num * (k : Int) = z := by
    have e1 : (q.num : Rat) = q * (q.den : Rat) := rat_num q
    have : ((q.num * (k : Int) : Int) : Rat) = (z : Rat) := by
      rw [Rat.intCast_mul, e1, Rat.intCast_natCast, ← e, hk, Rat.natCast_mul]
      grind
    exact Rat.intCast_inj.mp this
  have h2 : z.natAbs = q.num.natAbs * k := by rw [← h1, Int.natAbs_mul, Int.natAbs_natCast]
  rw [h2] at hz
  exact Nat.le_trans (Nat.le_mul_of_pos_right _ hk0) hz
theorem Bq.mono {D M M' : Nat} {q : Rat} (h : Bq D M q) (hM : M ≤ M') : Bq D M' q := let ⟨z, e, l⟩ := h; ⟨z, e, Nat.le_trans l hM⟩
theorem Bq.scale {D M k : Nat} {q : Rat} (h : Bq D M q) : Bq (D * k) (M * k) q := by
  obtain ⟨z, e, l⟩ := h
  refine ⟨z * k, ?_, ?_⟩
  · rw [Rat.natCast_mul, Rat.intCast_mul, Rat.intCast_natCast, ← e]; grind
  · rw [Int.natAbs_mul, Int.natAbs_natCast]; exact Nat.mul_le_mul_right _ l
theorem Bq.add {D M N : Nat} {p q : Rat} (h : Bq D M p) (k : Bq D N q) : Bq D (M + N) (p + q) := by
  obtain ⟨z, e, l⟩ := h
  obtain ⟨y, f, m⟩ := k
  refine ⟨z + y, ?_, ?_⟩
  · rw [Rat.intCast_add, ← e, ← f]; grind
  · have := Int.natAbs_add_le z y; omega
theorem Bq.mul {D E M N : Nat} {p q : Rat} (h : Bq D M p) (k : Bq E N q) : Bq (D * E) (M * N) (p * q) := by
  obtain ⟨z, e, l⟩ := h
  obtain ⟨y, f, m⟩ := k
  refine ⟨z * y, ?_, ?_⟩
  · rw [Rat.intCast_mul, Rat.natCast_mul, ← e, ← f]; grind
  · rw [Int.natAbs_mul]; exact Nat.mul_le_mul l m
theorem Bq.neg {D M : Nat} {q : Rat} (h : Bq D M q) : Bq D M (-q) := by
  obtain ⟨z, e, l⟩ := h
  refine ⟨-z, ?_, ?_⟩
  · rw [Rat.intCast_neg, ← e]; grind
  · omega
theorem Bq.zero {D : Nat} : Bq D 0 0 := ⟨0, by rw [Rat.zero_mul]; rfl, Nat.le_refl _⟩
theorem Bq.int {n : Int} : Bq 1 n.natAbs (n : Rat) := ⟨n, by grind, Nat.le_refl _⟩
end L2

set_option Elab.async false
set_option linter.all false
set_option maxRecDepth 100000
set_option maxHeartbeats 1000000
/-! A form's dict: keys and fractions. -/
namespace L2
open PySem PySem.Spec PyProof.Rows
abbrev MonR := List Str
abbrev Fm := List (MonR × Rat)
def kS (m : MonR) : List Key := m.map Sum.inr
theorem kS_inj {m n : MonR} (h : kS m = kS n) : m = n := by
  unfold kS at h
  exact (List.map_inj_right (fun a b e => Sum.inr.inj e)).mp h
theorem kS_kV (m : MonR) : (kS m).map kV = m.map V.str := by
  unfold kS
  rw [List.map_map]
  rfl
/-- what holds of tuples in H holds in H' -/
structure Mv (K : PySem.W.Frag) (H H' : Hp) : Prop where
  sq : ∀ a xs, SqT K H a xs → SqT K H' a xs
  tn : ∀ q xs, TupN H q xs → TupN H' q xs
/-- the dict's items are the form's terms -/
def FmKv (K : PySem.W.Frag) (H : Hp) (l : NAV) (fm : Fm) : Prop := Paired (fun e mq => e.1 = kS mq.1 ∧ TupN H e.2.1 (e.1.map kV) ∧ SqT K H e.2.2 (frac mq.2)) l fm
def valM (fm : Fm) (m : MonR) : Option Rat := (fm.find? fun x => decide (x.1 = m)).map (·.2)
def putM (fm : Fm) (m : MonR) (q : Rat) : Fm := if (fm.any fun x => decide (x.1 = m)) = true then fm.map (fun x => if x.1 = m then (x.1, q) else x) else fm ++ [(m, q)]
theorem SqT.same {K : PySem.W.Frag} {H H' : Hp} {a : Addr} {xs : List V} (h : SqT K H a xs) (S : Same H H') : SqT K H' a xs := by
  rcases h with (h | ⟨o, h⟩) | h
  · exact .inl (.inl (S _ _ h))
  · exact .inl (.inr ⟨o, S _ _ h⟩)
  · exact .inr h
theorem SqT.off {K : PySem.W.Frag} {H : Hp} {a d : Addr} {xs : List V} {u v : HO} (h : SqT K H a xs) (hd : H d = some u) (n1 : u ≠ .tup xs) (n2 : ∀ o, u ≠ .frz o (.tup xs)) : SqT K (upd H d v) a xs := by
  rcases h with (h | ⟨o, h⟩) | h
  · refine .inl (.inl ?_)
    rw [upd_ne]
    · exact h
    · rintro rfl
      rw [hd] at h
      exact n1 (Option.some.inj h)
  · refine .inl (.inr ⟨o, ?_⟩)
    rw [upd_ne]
    · exact h
    · rintro rfl
      rw [hd] at h
      exact n2 o (Option.some.inj h)
  · exact .inr h
theorem TupN.off {H : Hp} {q d : Addr} {xs : List V} {u v : HO} (h : TupN H q xs) (hd : H d = some u) (n2 : ∀ o, u ≠ .frz o (.tup xs)) : TupN (upd H d v) q xs := by
  obtain ⟨o, h1, h2⟩ := h
  refine ⟨o, ?_, h2⟩
  rw [upd_ne]
  · exact h1
  · rintro rfl
    rw [hd] at h1
    exact n2 o (Option.some.inj h1)
/-- no tuple, locked or not -/
def NoTup (u : HO) : Prop := (∀ xs, u ≠ .tup xs) ∧ ∀ o xs, u ≠ .frz o (.tup xs)
theorem noTup_df {P : Program} {w : World} {d : Addr} {l : NAV} : NoTup (DfO P w d l) := ⟨fun _ z => (nomatch (show HO.ext _ = _ from z)), fun _ _ z => (nomatch (show HO.ext _ = _ from z))⟩
theorem noTup_fz {P : Program} {w : World} {d : Addr} {o : Obj} {l : NAV} : NoTup (.frz o (DfO P w d l)) := ⟨fun _ z => (nomatch z), fun _ _ z => by
  injection z with _ e
  exact (nomatch (show HO.ext _ = _ from e))⟩
theorem Mv.refl {K : PySem.W.Frag} (H : Hp) : Mv K H H := ⟨fun _ _ h => h, fun _ _ h => h⟩
theorem Mv.trans {K : PySem.W.Frag} {H H' H'' : Hp} (a : Mv K H H') (b : Mv K H' H'') : Mv K H H'' := ⟨fun x y h => b.sq x y (a.sq x y h), fun x y h => b.tn x y (a.tn x y h)⟩
theorem Mv.same {K : PySem.W.Frag} {H H' : Hp} (S : Same H H') : Mv K H H' := ⟨fun _ _ h => h.same S, fun _ _ h => h.same S⟩
theorem Mv.off {K : PySem.W.Frag} {H : Hp} {d : Addr} {u v : HO} (hd : H d = some u) (n : NoTup u) : Mv K H (upd H d v) := ⟨fun _ xs h => h.off hd (n.1 xs) fun o => n.2 o xs, fun _ xs h => h.off hd fun o => n.2 o xs⟩
theorem Mv.sameB {K : PySem.W.Frag} {D : Addr} {H H' : Hp} {u : HO} (S : SameB D H H') (hD : H D = some u) (n : NoTup u) : Mv K H H' := ⟨fun a xs h => by
  rcases h with (h | ⟨o, h⟩) | h
  · exact .inl (.inl (S _ _ (fun e => by rw [e, hD] at h; exact n.1 xs (Option.some.inj h)) h))
  · exact .inl (.inr ⟨o, S _ _ (fun e => by rw [e, hD] at h; exact n.2 o xs (Option.some.inj h)) h⟩)
  · exact .inr h, fun q xs h => by
  obtain ⟨o, h1, h2⟩ := h
  exact ⟨o, S _ _ (fun e => by rw [e, hD] at h1; exact n.2 o xs (Option.some.inj h1)) h1, h2⟩⟩
theorem Mv.agree {K : PySem.W.Frag} {H H' : Hp} {d : Addr} {u : HO} (hd : H d = some u) (n : NoTup u) (A : ∀ b, b ≠ d → H' b = H b) : Mv K H H' := ⟨fun a xs h => by
  rcases h with (h | ⟨o, h⟩) | h
  · exact .inl (.inl (by rw [A a fun e => by rw [e, hd] at h; exact n.1 xs (Option.some.inj h)]; exact h))
  · exact .inl (.inr ⟨o, by rw [A a fun e => by rw [e, hd] at h; exact n.2 o xs (Option.some.inj h)]; exact h⟩)
  · exact .inr h, fun q xs h => by
  obtain ⟨o, h1, h2⟩ := h
  exact ⟨o, by rw [A q fun e => by rw [e, hd] at h1; exact n.2 o xs (Option.some.inj h1)]; exact h1, h2⟩⟩
section
variable {K : PySem.W.Frag} {H H' : Hp} {l : NAV} {fm : Fm}
theorem FmKv.imp (h : FmKv K H l fm) (f : Mv K H H') : FmKv K H' l fm := Paired.mapP h fun _ _ z => ⟨z.1, f.tn _ _ z.2.1, f.sq _ _ z.2.2⟩
theorem FmKv.same (h : FmKv K H l fm) (S : Same H H') : FmKv K H' l fm := h.imp (.same S)
theorem FmKv.length (h : FmKv K H l fm) : l.length = fm.length := Paired.length h
theorem FmKv.keys (h : FmKv K H l fm) : KeysD H l := by
  unfold FmKv at h
  induction h with
  | nil => intro x hx; exact absurd hx List.not_mem_nil
  | cons r t ih =>
    intro x hx
    rcases List.mem_cons.mp hx with rfl | hx
    · exact r.2.1
    · exact ih x hx
theorem findN_hit {x : List Key × Addr × Addr} {r : NAV} {k : List Key} (e : x.1 = k) : findN (x :: r) k = some x.2 := by simp [findN, List.find?_cons, e]
theorem findN_miss {x : List Key × Addr × Addr} {r : NAV} {k : List Key} (e : ¬ x.1 = k) : findN (x :: r) k = findN r k := by simp [findN, List.find?_cons, e]
theorem FmKv.val (h : FmKv K H l fm) (m : MonR) : (findN l (kS m) = none ∧ valM fm m = none) ∨ ∃ b a q, findN l (kS m) = some (b, a) ∧ valM fm m = some q ∧ SqT K H a (frac q) := by
  unfold FmKv at h
  induction h with
  | nil => exact .inl ⟨rfl, rfl⟩
  | @cons p x ps xs r t ih =>
    obtain ⟨e, _, sa⟩ := r
    by_cases c : x.1 = m
    · exact .inr ⟨p.2.1, p.2.2, x.2, findN_hit (by rw [e, c]), by simp [valM, List.find?_cons, c], sa⟩
    · rw [findN_miss fun z => c (kS_inj (e.symm.trans z)), show valM (x :: xs) m = valM xs m by simp [valM, List.find?_cons, c]]
      exact ih
theorem FmKv.any (h : FmKv K H l fm) (m : MonR) : (findN l (kS m)).isSome = (fm.any fun x => decide (x.1 = m)) := by
  unfold FmKv at h
  induction h with
  | nil => rfl
  | @cons p x ps xs r t ih =>
    rw [List.any_cons]
    by_cases c : x.1 = m
    · rw [findN_hit (by rw [r.1, c]), decide_eq_true c]
      rfl
    · rw [findN_miss fun z => c (kS_inj (r.1.symm.trans z)), ih, decide_eq_false c, Bool.false_or]
theorem FmKv.put (h : FmKv K H l fm) (m : MonR) {q : Rat} {b a : Addr} (hb : TupN H b ((kS m).map kV)) (sa : SqT K H a (frac q)) : FmKv K H (putN l (kS m) b a) (putM fm m q) := by
  unfold putN putM
  rw [h.any m]
  split
  · have e : ∀ {l : NAV} {n : Fm}, FmKv K H l n → FmKv K H (l.map fun x => if x.1 = kS m then (x.1, x.2.1, a) else x) (n.map fun x => if x.1 = m then (x.1, q) else x) := by
      intro l n g
      unfold FmKv at g ⊢
      induction g with
      | nil => exact .nil
      | @cons p x ps xs r t ih =>
        rw [List.map_cons, List.map_cons]
        refine .cons ?_ ih
        by_cases c : x.1 = m
        · rw [if_pos c, if_pos (by rw [r.1, c])]
          exact ⟨r.1, r.2.1, sa⟩
        · rw [if_neg c, if_neg fun z => c (kS_inj (r.1.symm.trans z))]
          exact r
    exact e h
  · exact Paired.snoc h ⟨rfl, hb, sa⟩
theorem FmKv.get (h : FmKv K H l fm) {i : Nat} {e : List Key × Addr × Addr} (g : l[i]? = some e) : ∃ m q b a, fm[i]? = some (m, q) ∧ e = (kS m, b, a) ∧ TupN H b ((kS m).map kV) ∧ SqT K H a (frac q) := by
  obtain ⟨b, hb, e1, e2, sa⟩ := paired_get h g
  exact ⟨b.1, b.2, e.2.1, e.2.2, hb, Prod.ext e1 rfl, by rw [← e1]; exact e2, sa⟩
end
theorem putM_new {fm : Fm} {m : MonR} (q : Rat) (h : m ∉ fm.map (·.1)) : putM fm m q = fm ++ [(m, q)] := by
  unfold putM
  rw [if_neg]
  intro z
  obtain ⟨x, hx, e⟩ := List.any_eq_true.mp z
  exact h (List.mem_map.mpr ⟨x, hx, of_decide_eq_true e⟩)
theorem same_back {H H' : Hp} {d : Addr} {u z : HO} (hd : H d = some u) (S : Same (upd H d z) H') : Same H (upd H' d u) := by
  intro b o e
  by_cases c : b = d
  · subst c
    rw [upd_same]
    rw [hd] at e
    exact e
  · rw [upd_ne c]
    exact S b o (by rw [upd_ne c]; exact e)
end L2

set_option Elab.async false
set_option linter.all false
set_option maxRecDepth 100000
set_option maxHeartbeats 1000000
/-! lambda x: (len(x), x), called with a tuple of texts -/
namespace L2
open PySem PySem.Spec PySem.Calls PyProof.Rows PySem.W
section
variable {prog : Program} {w : World} {A : Around} {s : Shared}
end
end L2

set_option Elab.async false
set_option linter.all false
set_option maxRecDepth 100000
set_option maxHeartbeats 1000000
/-! lambda row: len(row[2]), called with a tuple whose third item is a list; sorted by it -/
namespace L2
open PySem PySem.Spec PySem.Calls PyProof.Rows PySem.W
section
variable {prog : Program} {w : World} {A : Around} {s : Shared}
end
end L2

set_option Elab.async false
set_option linter.all false
set_option maxRecDepth 100000
set_option maxHeartbeats 1000000
/-! sorted(xs, key=lambda row: len(row[2])), xs a list of tuples of three -/
namespace L2
open PySem PySem.Spec PySem.Calls PyProof.Rows
open PySem.W (dataLe AllAlike Sortable EachIs)
open LamX (Tabs ExtN TabB CodeO)
def NewT (H : Hp) (p : Addr) : Prop := ∀ o, H p = some o → ∃ ps, o = .tbl ps
theorem SqL.extN {K : PySem.W.Frag} {H H' : Hp} {a : Addr} {xs : List V} (h : SqL K H a xs) (S : ExtN H H') : SqL K H' a xs := by
  rcases h with (h | ⟨o, h⟩) | h
  · exact .inl (.inl (S _ _ h fun _ z => nomatch z))
  · exact .inl (.inr ⟨o, S _ _ h fun _ z => nomatch z⟩)
  · exact .inr h
theorem SqT.extN {K : PySem.W.Frag} {H H' : Hp} {a : Addr} {xs : List V} (h : SqT K H a xs) (S : ExtN H H') : SqT K H' a xs := by
  rcases h with (h | ⟨o, h⟩) | h
  · exact .inl (.inl (S _ _ h fun _ z => nomatch z))
  · exact .inl (.inr ⟨o, S _ _ h fun _ z => nomatch z⟩)
  · exact .inr h
section
variable {β : Type} (ad : β → Addr) (ln : β → Nat)
end
section
variable {β : Type} {ad : β → Addr} {ln : β → Nat}
end
section
variable {X : Cx} {e : Expr} {te : TE} {T : List (Addr × Str)} {c P : Addr} {p p1 p2 p3 p4 p5 p6 q kpos pos : Pos} {β : Type} {ad : β → Addr} {ln : β → Nat}
end
end L2

set_option Elab.async false
set_option linter.all false
set_option maxRecDepth 100000
set_option maxHeartbeats 1000000
/-! {names: .. for .. in a form's dict} -/
namespace L2
open PySem PySem.Spec PyProof.Rows
/-- a comprehension over n turns: Pv by the turn and the heap (the new dict at D within) -/
theorem dcN_it {P : Program} {w : World} {K : PySem.W.Frag} {J : It} {n : Nat} {G : Hp → Prop} {Y : Nat → Hp → V → Hp → Prop} (wk : Walk J n G Y) {g : TG} {tt : TT} {tk tv : TE} {vs : List Nat} {σ : St} {H1 : Hp} {D : Addr} {Qd : Hp → Prop} (Pv : Nat → Hp → Prop) (h0 : Pv 0 (upd H1 D (DfO P w D [])))
    (hG : ∀ i H, i ≤ n → Pv i H → G H) (hs : ∀ i x H H', i < n → Pv i H → Y i H x H' → g x (wipe σ vs) H' fun σ2 H2 => wipe σ2 vs = wipe σ vs ∧ tt σ2 H2 fun b H3 =>
      if b = true then tk σ2 H3 fun y H4 => tv σ2 H4 fun z H5 => TurnN P w K D (Pv (i + 1)) y z H5 else Pv (i + 1) H3) (hd : ∀ H, Pv n H → Qd H) :
    ∃ W : Nat → Nat → Hp → Prop, (∃ m, W 0 m (upd H1 D (DfO P w D []))) ∧ ∀ i m H, W i m H →
      (J.stop i H ∧ Qd H) ∨ (J.go i H ∧ ∃ Nx : Hp → Prop, (∀ H', Nx H' → ∃ m', m' < m ∧ W (i + 1) m' H') ∧ ∀ x H', J.yld i H x H' → g x (wipe σ vs) H' fun σ2 H2 => wipe σ2 vs = wipe σ vs ∧ tt σ2 H2 fun b H3 =>
        if b = true then tk σ2 H3 fun y H4 => tv σ2 H4 fun z H5 => TurnN P w K D Nx y z H5 else Nx H3) := by
  refine ⟨fun i m H => m + i = n ∧ Pv i H, ⟨n, rfl, h0⟩, fun i m H hw => ?_⟩
  obtain ⟨hm, p⟩ := hw
  have q := hG i H (by omega) p
  cases m with
  | zero =>
    have hi : i = n := by omega
    subst hi
    exact .inl ⟨wk.stops H q, hd H p⟩
  | succ k => exact .inr ⟨wk.goes i H (by omega) q, Pv (i + 1), fun H' p' => ⟨k, Nat.lt_succ_self k, by omega, p'⟩, fun x H' y => hs i x H H' (by omega) p (wk.yields i H x H' (by omega) q y)⟩
/-- the terms that p keeps, their coefficients by f -/
def mapM (p : Rat → Bool) (f : Rat → Rat) (fm : Fm) : Fm := (fm.filter fun x => p x.2).map fun x => (x.1, f x.2)
theorem mapM_keys {p : Rat → Bool} {f : Rat → Rat} {fm : Fm} {m : MonR} (h : m ∈ (mapM p f fm).map (·.1)) : m ∈ fm.map (·.1) := by
  unfold mapM at h
  rw [List.map_map] at h
  obtain ⟨x, hx, e⟩ := List.mem_map.mp h
  exact List.mem_map.mpr ⟨x, (List.mem_filter.mp hx).1, e⟩
theorem mapM_snoc {p : Rat → Bool} {f : Rat → Rat} {fm : Fm} {m : MonR} {q : Rat} : mapM p f (fm ++ [(m, q)]) = if p q = true then mapM p f fm ++ [(m, f q)] else mapM p f fm := by
  unfold mapM
  rw [List.filter_append]
  by_cases c : p q = true
  · rw [if_pos c, List.filter_cons, if_pos c, List.filter_nil, List.map_append]
    rfl
  · rw [if_neg c, List.filter_cons, if_neg c, List.filter_nil, List.append_nil]
theorem mapM_nodup {p : Rat → Bool} {f : Rat → Rat} {fm : Fm} (h : (fm.map (·.1)).Nodup) : ((mapM p f fm).map (·.1)).Nodup := by
  unfold mapM
  rw [List.map_map]
  exact List.Nodup.sublist ((List.filter_sublist).map _) h
theorem take_snoc {α : Type} {l : List α} {i : Nat} {x : α} (h : l[i]? = some x) : l.take (i + 1) = l.take i ++ [x] := by
  rw [List.take_succ, h]
  rfl
theorem nodup_new {fm : Fm} (h : (fm.map (·.1)).Nodup) {i : Nat} {m : MonR} {q : Rat} (e : fm[i]? = some (m, q)) : m ∉ (fm.take i).map (·.1) := by
  intro z
  rw [List.map_take] at z
  obtain ⟨j, hj⟩ := List.getElem?_of_mem z
  have hji : j < i := by
    rcases Nat.lt_or_ge j i with c | c
    · exact c
    · rw [List.getElem?_eq_none (by rw [List.length_take]; omega)] at hj
      cases hj
  rw [List.getElem?_take_of_lt hji] at hj
  have e' : (fm.map (·.1))[i]? = some m := by rw [List.getElem?_map, e]; rfl
  obtain ⟨li, ei⟩ := List.getElem?_eq_some_iff.mp e'
  obtain ⟨lj, ej⟩ := List.getElem?_eq_some_iff.mp hj
  have := (List.getElem_inj (xs := fm.map (·.1)) h).mp (ej.trans ei.symm)
  omega
/-- over d.items(): what a turn does with a term -/
theorem dcN_fm {P : Program} {w : World} {K : PySem.W.Frag} {H1 : Hp} {d D : Addr} {o : Obj} {l : NAV} {fm : Fm} {p : Rat → Bool} {f : Rat → Rat} {g : TG} {tt : TT} {tk tv : TE} {vs : List Nat} {σ : St} {Qd : Hp → Prop}
    (hd : H1 d = some (.frz o (DfO P w d l))) (hD : H1 D = none) (hf : FmKv K H1 l fm) (hn : (fm.map (·.1)).Nodup) (hz : fm.length ≤ sizeLine)
    (hs : ∀ (i : Nat) (m : MonR) (q : Rat) (H' : Hp) (T b a : Addr) (put : V → V → Hp → Prop) (skip : Hp → Prop), fm[i]? = some (m, q) → Same H1 H' → H' T = some (.tup [.ref b, .ref a]) → TupN H' b ((kS m).map kV) → SqT K H' a (frac q) →
      (p q = true → ∀ H5 (b' a' : Addr), Same H' H5 → TupN H5 b' ((kS m).map kV) → SqT K H5 a' (frac (f q)) → put (.ref b') (.ref a') H5) → (p q = false → ∀ H5, Same H' H5 → skip H5) →
      g (.ref T) (wipe σ vs) H' fun σ2 H2 => wipe σ2 vs = wipe σ vs ∧ tt σ2 H2 fun c H3 => if c = true then tk σ2 H3 fun y H4 => tv σ2 H4 fun z H5 => put y z H5 else skip H3)
    (hq : ∀ H' l', Same H1 H' → H' D = some (DfO P w D l') → FmKv K H' l' (mapM p f fm) → Qd H') :
    ∃ W : Nat → Nat → Hp → Prop, (∃ m, W 0 m (upd H1 D (DfO P w D []))) ∧ ∀ i m H, W i m H →
      ((ItiN P w d o l).stop i H ∧ Qd H) ∨ ((ItiN P w d o l).go i H ∧ ∃ Nx : Hp → Prop, (∀ H', Nx H' → ∃ m', m' < m ∧ W (i + 1) m' H') ∧ ∀ x H', (ItiN P w d o l).yld i H x H' → g x (wipe σ vs) H' fun σ2 H2 => wipe σ2 vs = wipe σ vs ∧ tt σ2 H2 fun b H3 =>
        if b = true then tk σ2 H3 fun y H4 => tv σ2 H4 fun z H5 => TurnN P w K D Nx y z H5 else Nx H3) := by
  refine dcN_it walk_itemsN (fun i H' => Same H1 H' ∧ ∃ l', H' D = some (DfO P w D l') ∧ FmKv K H' l' (mapM p f (fm.take i))) ⟨Same.upd hD, [], upd_same, .nil⟩ (fun i H _ q => q.1 _ _ hd) ?_ ?_
  · rintro i x H H' hi ⟨S, l', hD', kv'⟩ ⟨T, k, qb, av, hkv, rfl, nT, rfl⟩
    obtain ⟨m, q, b, a, hm, e, tb, sa⟩ := hf.get hkv
    obtain ⟨rfl, e2⟩ := Prod.mk.inj e
    obtain ⟨rfl, rfl⟩ := Prod.mk.inj e2
    have S2 : Same H (upd H T (.tup [.ref qb, .ref av])) := Same.upd nT
    have hD2 := S2 _ _ hD'
    have tk1 := take_snoc hm
    have ml : (mapM p f (fm.take i)).length ≤ i := by
      unfold mapM
      rw [List.length_map]
      exact Nat.le_trans (List.length_filter_le _ _) (by rw [List.length_take]; exact Nat.min_le_left _ _)
    have hil : i < fm.length := by rw [← hf.length]; exact hi
    refine hs i m q _ T qb av _ _ hm (S.trans S2) upd_same ((tb.same S).same S2) ((sa.same S).same S2) (fun pq H5 b' a' S5 hb' sa' => ?_) (fun pq H5 S5 => ?_)
    · have k5 : FmKv K H5 l' (mapM p f (fm.take i)) := (kv'.same S2).same S5
      refine ⟨l', kS m, b', a', rfl, rfl, hb'.sq, S5 _ _ hD2, k5.keys, ?_, ?_, ?_⟩
      · rw [kv'.length]
        omega
      · intro c u e
        rw [upd_ne (ne_of_none e hD)]
        exact S5 _ _ (S2 _ _ (S _ _ e))
      · refine ⟨_, upd_same, ?_⟩
        rw [tk1, mapM_snoc, if_pos pq]
        have n5 : m ∉ (mapM p f (fm.take i)).map (·.1) := fun z => nodup_new hn hm (mapM_keys z)
        have k6 := k5.put m hb' sa'
        rw [putM_new _ n5] at k6
        exact k6.imp (.off (S5 _ _ hD2) noTup_df)
    · refine ⟨(S.trans S2).trans S5, l', S5 _ _ hD2, ?_⟩
      rw [tk1, mapM_snoc, if_neg (by rw [pq]; exact Bool.false_ne_true)]
      exact (kv'.same S2).same S5
  · rintro H ⟨S, l', hD', kv'⟩
    rw [hf.length, List.take_length] at kv'
    exact hq H l' S hD' kv'
/-- the dict locked, its items walked by a dict comprehension, the dict open again -/
theorem lock_items {P : Program} {w : World} {K : PySem.W.Frag} {H : Hp} {d : Addr} {l : NAV} {fm : Fm} {p : Rat → Bool} {f : Rat → Rat} {td : TE} {g : TG} {tt : TT} {tk tv : TE} {vs : List Nat} {σ : St} {Q : VK}
    (hd : H d = some (DfO P w d l)) (hf : FmKv K H l fm) (hn : (fm.map (·.1)).Nodup) (hz : fm.length ≤ sizeLine)
    (hte : ∀ (od : Obj) (R : VK), R (.ref d) (upd H d (.frz od (DfO P w d l))) → td σ (upd H d (.frz od (DfO P w d l))) R)
    (hs : ∀ (H1 : Hp), Mv K H H1 → ∀ (i : Nat) (m : MonR) (q : Rat) (H' : Hp) (T b a : Addr) (put : V → V → Hp → Prop) (skip : Hp → Prop), fm[i]? = some (m, q) → Same H1 H' → H' T = some (.tup [.ref b, .ref a]) → TupN H' b ((kS m).map kV) → SqT K H' a (frac q) →
      (p q = true → ∀ H5 (b' a' : Addr), Same H' H5 → TupN H5 b' ((kS m).map kV) → SqT K H5 a' (frac (f q)) → put (.ref b') (.ref a') H5) → (p q = false → ∀ H5, Same H' H5 → skip H5) →
      g (.ref T) (wipe σ vs) H' fun σ2 H2 => wipe σ2 vs = wipe σ vs ∧ tt σ2 H2 fun c H3 => if c = true then tk σ2 H3 fun y H4 => tv σ2 H4 fun z H5 => put y z H5 else skip H3)
    (hq : ∀ H' D l', Same H H' → H D = none → H' D = some (DfO P w D l') → FmKv K H' l' (mapM p f fm) → Q (.ref D) H') :
    tLockE (tDcN P w K (iItemsN P w td) g tt tk tv vs) σ H Q := by
  refine ⟨d, DfO P w d l, hd, trivial, fun od => ?_⟩
  have M1 : Mv K H (upd H d (.frz od (DfO P w d l))) := .off hd noTup_df
  refine hte od _ ⟨d, od, l, rfl, upd_same, fun D nD => ?_⟩
  have neD : D ≠ d := by
    rintro rfl
    rw [upd_same] at nD
    cases nD
  have nD' : H D = none := by rwa [upd_ne neD] at nD
  refine dcN_fm (p := p) (f := f) upd_same nD (hf.imp M1) hn hz (hs _ M1) fun H' l' S hD kv => ⟨S _ _ upd_same, ?_⟩
  exact hq _ D l' (same_back hd S) nD' (by rw [upd_ne neD]; exact hD) (kv.imp (.off (S _ _ upd_same) noTup_fz))
end L2

set_option Elab.async false
set_option linter.all false
set_option maxRecDepth 100000
set_option maxHeartbeats 2000000
/-! sorted of a set of texts; a set of texts from a form's terms -/
namespace L2
open PySem PySem.Spec PyProof.Rows
def rSortedSS (P : Program) (w : World) : List V → Hp → VK → Prop := fun vs H Q => ∃ (a : Addr) (ks : List Str), vs = [V.ref a] ∧ H a = some (SetSO P w a ks) ∧ ∀ ys : List Str, ys.Perm ks → ks.Nodup → sortedS ys = true → NewQ H (.lst (ys.map V.str)) Q
theorem cr_sortedSS {X : Cx} (hc : X.calm = true) : CallR X (.builtin "sorted") (rSortedSS X.prog X.w) := by
  intro pins s σ H vs us Q I r h
  obtain ⟨a, ks, rfl, ha, q⟩ := h
  have R := setSO_get I ha
  rw [Vals.ref1 r]
  refine setS_sorted R (I.ok.hd hc) fun s' p out c ys kp gn os pn ho ss pm so => ?_
  obtain ⟨_, es, _, _, _, _, _, _, pm0, nd, hb, _⟩ := R
  have lk : ks.length = es.size := by rw [← pm0.length_eq, List.length_map, Array.length_toList]
  have hlen : (ys.map V.str).length ≤ sizeLine := by
    rw [List.length_map, pm.length_eq, lk]
    exact fits_of_scanBound hb
  have I2 : Inv X pins σ (upd H p (.lst (ys.map V.str))) { s with heap := s'.heap, toks := s.toks } := I.laid (t' := s.toks) kp pn ⟨hlen, _, c, vals_of_strs ss, ho⟩
  have I3 : Inv X pins σ (upd H p (.lst (ys.map V.str))) s' := I2.call' (ch := []) os (Un.kept fun _ _ e => e) (I2.hok.kept fun _ _ e => e) (by rw [gn]; exact I2.bare) (fun _ z => nomatch z)
  exact ⟨.ref p, _, I3, rfl, (q ys pm nd so).at (I.hok.fresh pn)⟩
theorem mem_putS {ks : List Str} {x z : Str} : x ∈ putS ks z ↔ x ∈ ks ∨ x = z := by
  unfold putS
  split
  · rename_i h
    exact ⟨.inl, fun q => q.elim id fun e => e ▸ h⟩
  · rw [List.mem_cons]
    exact ⟨fun q => q.elim .inr .inl, fun q => q.elim .inr .inl⟩
theorem len_putS (ks : List Str) (z : Str) : (putS ks z).length ≤ ks.length + 1 := by
  unfold putS
  split
  · exact Nat.le_succ _
  · exact Nat.le_refl _
/-- these texts, laid one by one -/
def putAll (ks xs : List Str) : List Str := xs.foldl putS ks
theorem mem_putAll : ∀ {xs ks : List Str} {x : Str}, x ∈ putAll ks xs ↔ x ∈ ks ∨ x ∈ xs
  | [], ks, x => by simp [putAll]
  | z :: xs, ks, x => by
    show x ∈ putAll (putS ks z) xs ↔ _
    rw [mem_putAll, mem_putS, List.mem_cons, or_assoc]
theorem len_putAll : ∀ (xs ks : List Str), (putAll ks xs).length ≤ ks.length + xs.length
  | [], ks => Nat.le_refl _
  | z :: xs, ks => by
    have h1 := len_putAll xs (putS ks z)
    have h2 := len_putS ks z
    show (putAll (putS ks z) xs).length ≤ _
    rw [List.length_cons]
    omega
theorem putAllS_snoc (ks xs : List Str) (z : Str) : putS (putAll ks xs) z = putAll ks (xs ++ [z]) := by unfold putAll; rw [List.foldl_append]; rfl
theorem nodup_putS {ks : List Str} {x : Str} (h : ks.Nodup) : (putS ks x).Nodup := by
  unfold putS
  split
  · exact h
  · rename_i c
    exact List.nodup_cons.mpr ⟨c, h⟩
theorem nodup_putAll : ∀ {xs ks : List Str}, ks.Nodup → (putAll ks xs).Nodup
  | [], _, h => h
  | z :: xs, ks, h => nodup_putAll (xs := xs) (nodup_putS (x := z) h)
theorem putAll_nodup {xs : List Str} : ∀ {ks : List Str}, xs.Nodup → (∀ x ∈ xs, x ∉ ks) → (putAll ks xs).length = ks.length + xs.length := by
  induction xs with
  | nil => intro ks _ _; rfl
  | cons z xs ih =>
    intro ks nd h
    have hz := h z List.mem_cons_self
    obtain ⟨n1, n2⟩ := List.nodup_cons.mp nd
    have e : putS ks z = z :: ks := by unfold putS; rw [if_neg hz]
    show (putAll (putS ks z) xs).length = _
    rw [e, ih n2 fun x hx => ?_]
    · rw [List.length_cons, List.length_cons]; omega
    · intro q
      rcases List.mem_cons.mp q with rfl | q
      · exact n1 hx
      · exact h x (List.mem_cons_of_mem _ hx) q
/-- len of a set of texts -/
theorem cr_lenSS {X : Cx} : CallR X (.builtin "len") (fun vs H Q => ∃ (a : Addr) (ks : List Str), vs = [V.ref a] ∧ H a = some (SetSO X.prog X.w a ks) ∧ Q (.int (ks.length : Nat)) H) := by
  intro pins s σ H vs us Q I r h
  obtain ⟨a, ks, rfl, ha, q⟩ := h
  obtain ⟨o, es, ep, t, ho, hex, hd, _, pm, _, hb, hf, _⟩ := setSO_get I ha
  rw [Vals.ref1 r]
  have lk : es.size = ks.length := by rw [← pm.length_eq, List.length_map, Array.length_toList]
  have hb' := fits_of_scanBound hb
  have := line63
  refine call_len_set ho hex hd hf (by omega) ⟨.int ks.length, H, I.tok _, ⟨_, by rw [lk]⟩, q⟩
end L2

set_option Elab.async false
set_option linter.all false
set_option maxRecDepth 100000
/-! set(xs), xs a list of texts -/
namespace L2
open PySem PySem.Spec PyProof.Rows
abbrev nSetT (w : World) : Obj := { cls := .type "set", dict := none, data := .set #[] 0 (.fresh 0 0 (!w.params.followText "set-order")) }
section
variable {P : Program} {w : World} {A : Around} {E : Value → Shared → Prop} {s : Shared} {l : Addr} {items : Array Value} {xs : List Str}
theorem setS_new_at {h : Heap} {a : Addr} (ho : h.get? a = some (nSetT w)) : SetS P w h a [] := by
  refine ⟨_, #[], 0, _, ho, ⟨rfl, rfl, rfl⟩, rfl, fun e he => absurd he (by simp), .nil, List.nodup_nil, by decide, rfl, List.Pairwise.nil, ?_⟩
  cases c : w.params.followText "set-order" with
  | true => exact .inl rfl
  | false => exact .inr rfl
theorem set_update_strs {I : Addr} {fp wr : List Addr} {G : Array GenState → Array GenState → Prop} {n : Nat} {Pv : Nat → Value → Prop} {St : Nat → Shared → Prop} {R : Result → Shared → Prop}
    (W : WalksS P w A.in1 I fp wr G n Pv St) (S : Addr) (hSf : S ∉ fp) (xs : List Str) (hn : n = xs.length) (hb : ∀ i, (putAll [] (xs.take i)).length + 1 < scanBound) (hval : ∀ i v, Pv i v → ∃ z t, xs[i]? = some z ∧ v = .str z t) :
    ∀ (k i : Nat) (s : Shared), n - i = k → i ≤ n → St i s → SetS P w s.heap S (putAll [] (xs.take i)) →
      (∀ s', Moved (S :: wr) G s s' → SetS P w s'.heap S (putAll [] xs) → R (.ok (.ret .none)) s') →
      codeAny (model P w) A (.builtin "set.update.loop" ⟨[.ref S, .ref I], []⟩) R s := by
  have hSw : S ∉ wr := fun h => hSf (W.sub _ h)
  have hsub : ∀ b ∈ wr, b ∈ S :: wr := fun b hb => List.mem_cons_of_mem _ hb
  intro k
  induction k with
  | zero =>
    intro i s hk' hi hst hS hR
    have hin : i = n := by omega
    subst hin
    refine codeAny_builtin F.entry_set_update_loop ?_
    rw [Around.under_plainId F.plain_set_update_loop _]
    show wpAny _ A.in1 (pyNext (.ref I) >>= _) _ _ s
    refine wpAny_bind (W.done s _ _ hst fun s' hm => ?_)
    show wpAny _ A.in1 (ret Value.none) _ _ s'
    have e : xs.take i = xs := List.take_of_length_le (by omega)
    rw [e] at hS
    exact wpAny_pure (hR s' (hm.mono hsub) (hS.at fun o e => hm.heap S o hSw e))
  | succ k ih =>
    intro i s hk' hi hst hS hR
    have hlt : i < n := by omega
    refine codeAny_builtin F.entry_set_update_loop ?_
    rw [Around.under_plainId F.plain_set_update_loop _]
    show wpAny _ A.in1 (pyNext (.ref I) >>= _) _ _ s
    refine wpAny_bind (W.item i s _ _ hlt hst fun v s' hP hst' hm => ?_)
    obtain ⟨z, t, hz, rfl⟩ := hval i v hP
    have hS' : SetS P w s'.heap S (putAll [] (xs.take i)) := hS.at fun o e => hm.heap S o hSw e
    have room := hb i
    show wpAny _ A.in1 (holding [Value.str z t] (setAdd S (.str z t)) >>= _) _ _ s'
    refine wpAny_bind (wpAny_holding ?_)
    unfold setAdd
    refine wpAny_holding ?_
    refine wpAny_bind ((PySem.strKind P w).pyHash (strKind_is P w z t) ?_)
    refine setS_hashed (s := { s' with toks := s'.toks + 1 }) hS' room fun _ h' hsb hS2 => ?_
    have hS3 : SetS P w h' S (putAll [] (xs.take (i + 1))) := by
      rw [take_snoc hz, ← putAllS_snoc]
      exact hS2
    refine wpAny_pure ⟨plainId_quiet F.plain_set_update_loop _, ih (i + 1) _ (by omega) hlt (W.frame _ s' _ _ hst' (Nat.le_succ _) fun b hb o e => ?_) hS3 fun s'' hm'' hS'' => ?_⟩
    · rw [hsb.2 b (fun h : b = S => hSf (by rw [← h]; exact hb))]; exact e
    · refine hR s'' (Moved.trans W.gtrans ((hm.mono hsub).then_heap (Nat.le_succ _) fun b o hb e => ?_) hm'') hS''
      rw [hsb.2 b (fun h : b = S => hb (by rw [h]; exact List.mem_cons_self))]; exact e
abbrev SetTDone (P : Program) (w : World) (s : Shared) (xs : List Str) (s₂ : Shared) : Prop := ∃ h' tk, s₂ = { s with heap := h', toks := tk } ∧ SetS P w h' s.heap.objs.size (putAll [] xs) ∧ ∀ b o, s.heap.get? b = some o → h'.get? b = some o
theorem strsV_at (hit : StrsAre items.toList xs) (i : Nat) (v : Value) (hv : items[i]? = some v) : ∃ z t, xs[i]? = some z ∧ v = .str z t := by
  have e : items.toList[i]? = some v := by rw [Array.getElem?_toList]; exact hv
  generalize items.toList = us at hit e
  clear hv
  induction hit generalizing i with
  | nil => cases e
  | cons n t r ih =>
    cases i with
    | zero => cases e; exact ⟨_, _, rfl, rfl⟩
    | succ i => exact ih i e
theorem strs_len {us : List Value} {xs : List Str} (h : StrsAre us xs) : us.length = xs.length := by
  induction h with
  | nil => rfl
  | cons n t r ih => simp [ih]
set_option maxHeartbeats 3200000 in
theorem set_init_strs (hh : A.handled = none) (hl : s.heap.IsList l items) (hit : StrsAre items.toList xs) (hb : ∀ i, (putAll [] (xs.take i)).length + 1 < scanBound) (T : Shared.TypeIs { s with heap := s.heap.push (nSetT w) } (.ref s.heap.objs.size) "set") {R : Result → Shared → Prop} (hR : ∀ s₂, SetTDone P w s xs s₂ → R (.ok (.ret .none)) s₂) :
    wpAny (model P w) A.in1 (Builtin.«set.__init__» ⟨[.ref s.heap.objs.size, .ref l], []⟩) (fun fin s' => match fin with | .done f => R (.ok f) s' | .again c' => c'.quiet = true ∧ codeAny (model P w) A c' R s') (fun e s' => R (.error e) s') { s with heap := s.heap.push (nSetT w) } := by
  have hS : (s.heap.push (nSetT w)).get? s.heap.objs.size = some (nSetT w) := Heap.get?_push_size _ rfl
  obtain ⟨⟨oc, od, dt, osl⟩, hol, rfl, nl, rfl⟩ := hl
  have h1 : (s.heap.push (nSetT w)).get? l = some { cls := .type "list", dict := od, data := .seq items nl, slots := osl } := Heap.get?_push_of_some _ hol
  have L1 : (s.heap.push (nSetT w)).IsList l items := ⟨_, h1, rfl, nl, rfl⟩
  have lS : l < s.heap.objs.size := Heap.lt_size hol
  have n1 := F.sub_list_set
  have n2 := F.sub_list_frozenset
  have n3 : (Value.type "list" == Value.type "dict") = false := by decide
  have isz : items.size = xs.length := by rw [← Array.length_toList]; exact strs_len hit
  unfold Builtin.«set.__init__» noKeywords Builtin.Frozenset.updateFrom
  generalize hPI : pyIter = PI
  wp_walk
  subst hPI
  refine wpAny_pyIter_list L1 ?_
  refine wpAny_bind (wpAny_runValue ?_)
  have sz : (s.heap.push (nSetT w)).objs.size = s.heap.objs.size + 1 := Heap.size_push ..
  have ne1 : l ≠ (s.heap.push (nSetT w)).objs.size := by rw [sz]; exact Nat.ne_of_lt (Nat.lt_succ_of_lt lS)
  have nf : s.heap.objs.size ∉ [(s.heap.push (nSetT w)).objs.size, l] := by
    rw [sz]
    simp only [List.mem_cons, List.not_mem_nil, or_false, not_or]
    exact ⟨Nat.ne_of_lt (Nat.lt_succ_self _), Nat.ne_of_gt lS⟩
  refine set_update_strs ((Walks.list (by simp [hh]) _ l ne1 items).toS) s.heap.objs.size nf xs isz hb (strsV_at hit) (items.size - 0) 0 _ (by omega) (Nat.zero_le _) ⟨⟨_, Heap.get?_push_size _ rfl, rfl, rfl⟩, L1.push _⟩ (setS_new_at (Heap.get?_push_of_some _ hS)) ?_
  rintro ⟨h', g2, d', tk', os'⟩ hm hS'
  obtain rfl : g2 = s.gens := hm.gens
  obtain rfl : d' = s.drawn := hm.drawn
  obtain rfl : os' = s.os := hm.os
  refine wpAny_pure ?_
  refine wpAny_pure (hR _ ⟨h', tk', rfl, hS', fun b o e => ?_⟩)
  have b0 : b < s.heap.objs.size := Heap.lt_size e
  refine hm.heap b o ?_ (Heap.get?_push_of_some _ (Heap.get?_push_of_some _ e))
  simp only [List.mem_cons, List.not_mem_nil, or_false, not_or]
  exact ⟨Nat.ne_of_lt b0, by rw [sz]; exact Nat.ne_of_lt (Nat.lt_succ_of_lt b0)⟩
set_option maxHeartbeats 3200000 in
theorem call_set_strs {Q : Value → Shared → Prop} (hh : A.handled = none) (hl : s.heap.IsList l items) (hit : StrsAre items.toList xs) (hb : ∀ i, (putAll [] (xs.take i)).length + 1 < scanBound) (h : ∀ s₂, SetTDone P w s xs s₂ → Q (.ref s.heap.objs.size) s₂) : wpAny (model P w) A (call (.type "set") [.ref l]) Q E s := by
  obtain ⟨c, tl, m1⟩ := F.called_set.mro
  have m2 := F.called_set.made
  have m3 := F.called_set.sub
  have m4 := F.called_set.notType
  have m5 := F.called_set.canCreate
  have m6 := F.typeCall_set_1 (.ref l)
  have T : Shared.TypeIs { s with heap := s.heap.push (nSetT w) } (.ref s.heap.objs.size) "set" := ⟨_, Heap.get?_push_size _ rfl, rfl⟩
  have m7 := F.called_set.init.lookup
  have m8 := F.called_set.init.bind (.ref s.heap.objs.size)
  refine wpAny_call (codeAny_of_tree (show wpAny _ _ (callAny (.type "set") _) _ _ _ from wpAny_pure ⟨Code.quiet_builtin _ (by decide +kernel), codeAny_builtin F.entry_type_call ?_⟩))
  rw [Around.under_plain (weight_type_call_type "set" [.ref l] []) rfl]
  repeat (any_goals (first | assumption | wp_step))
  refine codeAny_mono (code_set_led1 (.ref l) (E := E) (Q₁ := fun obj s₁ => obj = .ref s.heap.objs.size ∧ s₁ = { s with heap := s.heap.push (nSetT w) }) ⟨rfl, rfl⟩) fun r s₁ hr => ?_
  match r, hr with
  | .error e, hr => exact hr
  | .ok (.ret obj), ⟨e1, e2⟩ =>
    subst e1 e2
    repeat (any_goals (first | assumption | wp_step))
    refine codeAny_mono (codeAny_call_builtin (R := wants (fun r s₂ => r = .none ∧ SetTDone P w s xs s₂) E) F.called_set.init.plain F.entry_set_init (check_set_init_1 T (set_init_strs (by simp [hh]) hl hit hb T fun s₂ d => ⟨rfl, d⟩))) fun r₂ s₂ hr₂ => ?_
    match r₂, hr₂ with
    | .error e, hr₂ => exact hr₂
    | .ok (.ret r), ⟨e1, d⟩ =>
      subst e1
      repeat (any_goals (first | assumption | wp_step))
      exact h _ d
end
/-- set(xs), texts -/
def rSetLS (K : PySem.W.Frag) (P : Program) (w : World) : List V → Hp → VK → Prop := fun vs H Q => ∃ (a : Addr) (xs : List Str), vs = [V.ref a] ∧ SqL K H a (xs.map V.str) ∧ (∀ i, (putAll [] (xs.take i)).length + 1 < scanBound) ∧ ∀ p, H p = none → Q (.ref p) (upd H p (SetSO P w p (putAll [] xs)))
theorem cr_setLS {X : Cx} (hc : X.calm = true) : CallR X (.type "set") (rSetLS X.K X.prog X.w) := by
  intro pins s σ H vs us Q I r h
  obtain ⟨a, xs, rfl, hs, hz, q⟩ := h
  obtain ⟨its, rv, hl, _⟩ := I.list hs
  rw [Vals.ref1 r]
  refine call_set_strs (P := X.prog) (w := X.w) (I.ok.hd hc) hl.isList (by simpa using rv.strs) hz fun s₂ d => ?_
  obtain ⟨h', tk, rfl, R, k⟩ := d
  exact ⟨.ref s.heap.objs.size, _, I.laid (t' := tk) k (Nat.le_refl _) (setSO_new R), rfl, q _ (I.hok.fresh (Nat.le_refl _))⟩
end L2

set_option Elab.async false
set_option linter.all false
set_option maxRecDepth 100000
set_option maxHeartbeats 1000000
/-! the one sorted list of a list's texts; sums and products of forms as functions -/
namespace L2
open PySem PySem.Spec PyProof.Rows
theorem ltCps_eq : ∀ a b : List Nat, ltCps a b = decide (a < b)
  | [], [] => rfl
  | [], _ :: _ => by rw [decide_eq_true (List.nil_lt_cons _ _)]; rfl
  | _ :: _, [] => by rw [decide_eq_false (List.not_lt_nil _)]; rfl
  | x :: a, y :: b => by
    have ih := ltCps_eq a b
    unfold ltCps
    rw [ih]
    by_cases c : x < y
    · rw [decide_eq_true (List.cons_lt_cons_iff.mpr (.inl c))]
      simp [c]
    · by_cases d : x = y
      · subst d
        have : decide (x :: a < x :: b) = decide (a < b) := by
          by_cases e : a < b
          · rw [decide_eq_true e, decide_eq_true (List.cons_lt_cons_iff.mpr (.inr ⟨rfl, e⟩))]
          · rw [decide_eq_false e, decide_eq_false fun z => (List.cons_lt_cons_iff.mp z).elim (fun h => Nat.lt_irrefl _ h) fun h => e h.2]
        rw [this]
        simp
      · rw [decide_eq_false fun z => (List.cons_lt_cons_iff.mp z).elim c fun h => d h.1]
        simp [c, d]
/-- a ≤ b -/
def leT (a b : Str) : Bool := !ltCps b.cps.toList a.cps.toList
theorem leT_iff {a b : Str} : leT a b = true ↔ a.cps.toList ≤ b.cps.toList := by
  unfold leT
  rw [ltCps_eq]
  simp [List.not_lt]
theorem leT_trans {a b c : Str} (h : leT a b = true) (k : leT b c = true) : leT a c = true := leT_iff.mpr (List.le_trans (leT_iff.mp h) (leT_iff.mp k))
theorem leT_total (a b : Str) : leT a b = true ∨ leT b a = true := by
  rw [leT_iff, leT_iff]
  exact List.le_total _ _
theorem str_ext {a b : Str} (h : a.cps.toList = b.cps.toList) : a = b := by
  cases a
  cases b
  congr 1
  exact Array.toList_inj.mp h
theorem leT_anti {a b : Str} (h : leT a b = true) (k : leT b a = true) : a = b := str_ext (List.le_antisymm (leT_iff.mp h) (leT_iff.mp k))
theorem rising_pw : ∀ (r : List Str) (x : Str), risingS x r = true → List.Pairwise (fun a b => leT a b = true) (x :: r)
  | [], x, _ => List.pairwise_cons.mpr ⟨fun _ h => absurd h List.not_mem_nil, .nil⟩
  | y :: r, x, h => by
    rw [risingS.eq_2, Bool.and_eq_true] at h
    have ih := rising_pw r y h.2
    refine List.pairwise_cons.mpr ⟨fun z hz => ?_, ih⟩
    rcases List.mem_cons.mp hz with rfl | hz
    · exact h.1
    · exact leT_trans h.1 ((List.pairwise_cons.mp ih).1 z hz)
theorem sorted_pw {l : List Str} (h : sortedS l = true) : List.Pairwise (fun a b => leT a b = true) l := by
  cases l with
  | nil => exact .nil
  | cons x r => exact rising_pw r x h
def insT (x : Str) : List Str → List Str
  | [] => [x]
  | y :: r => if leT x y then x :: y :: r else y :: insT x r
def sortT (l : List Str) : List Str := l.foldr insT []
theorem insT_perm (x : Str) : ∀ l, (insT x l).Perm (x :: l)
  | [] => List.Perm.refl _
  | y :: r => by
    unfold insT
    split
    · exact List.Perm.refl _
    · exact ((insT_perm x r).cons y).trans (List.Perm.swap x y r)
theorem sortT_perm : ∀ l, (sortT l).Perm l
  | [] => List.Perm.refl _
  | x :: r => (insT_perm x _).trans ((sortT_perm r).cons x)
theorem insT_pw (x : Str) : ∀ l, List.Pairwise (fun a b => leT a b = true) l → List.Pairwise (fun a b => leT a b = true) (insT x l)
  | [], _ => List.pairwise_cons.mpr ⟨fun _ h => absurd h List.not_mem_nil, .nil⟩
  | y :: r, h => by
    unfold insT
    split
    · rename_i c
      refine List.pairwise_cons.mpr ⟨fun z hz => ?_, h⟩
      rcases List.mem_cons.mp hz with rfl | hz
      · exact c
      · exact leT_trans c ((List.pairwise_cons.mp h).1 z hz)
    · rename_i c
      refine List.pairwise_cons.mpr ⟨fun z hz => ?_, insT_pw x r (List.pairwise_cons.mp h).2⟩
      rcases List.mem_cons.mp ((insT_perm x r).mem_iff.mp hz) with rfl | hz
      · exact (leT_total _ _).resolve_left c
      · exact (List.pairwise_cons.mp h).1 z hz
theorem sortT_pw : ∀ l, List.Pairwise (fun a b => leT a b = true) (sortT l)
  | [] => .nil
  | x :: r => insT_pw x _ (sortT_pw r)
/-- sorted lists of the same texts are the same -/
theorem sortT_one {l ys : List Str} (p : ys.Perm l) (s : sortedS ys = true) : ys = sortT l :=
  List.Perm.eq_of_pairwise (le := fun a b => leT a b = true) (fun _ _ _ _ => leT_anti) (sorted_pw s) (sortT_pw l) (p.trans (sortT_perm l).symm)
end L2

set_option Elab.async false
set_option linter.all false
set_option maxRecDepth 100000
set_option maxHeartbeats 1000000
/-! f(k=v, ..): a def called with keywords alone -/
namespace L2
open PySem PySem.Spec PyProof.Rows
section
variable {X : Cx} {k j : Nat} {x : Str} {sp : Sp} {ks : List Str} {gV : List V → List V → List V} {p pos : Pos} {kws : List Keyword} {tk : TA}
end
end L2

set_option Elab.async false
set_option linter.all false
set_option maxRecDepth 100000
set_option maxHeartbeats 1000000
/-! the row's statements -/
namespace E4
open PySem PySem.Spec PyProof.Rows L2
open C8 (Cal Mak Met InsC pe_c pe_mt pe_mt0 call_isC clsBody)
def top (i : Nat) : Stmt := PySem.Challenge.pw_cellplaces_k61_whole_jumps.main.body.getD i (.Pass ⟨0, 0, 0, 0⟩)
abbrev sIsWhole : Stmt := top 12
abbrev sIsLetter : Stmt := top 13
abbrev sIsValues : Stmt := top 14
abbrev sProductAt : Stmt := top 22
abbrev sPlain : Stmt := top 27
abbrev sCheckTable : Stmt := top 28
abbrev sIsSides : Stmt := top 29
abbrev sIsSide : Stmt := top 30
abbrev sIsProduct : Stmt := top 31
abbrev sNamesOf : Stmt := top 32
def meth (i : Nat) : Stmt := (clsBody sPlain).getD i (.Pass ⟨0, 0, 0, 0⟩)
abbrev sInit : Stmt := meth 0
abbrev sEq : Stmt := meth 1
abbrev sSides : Stmt := meth 3
end E4

set_option Elab.async false
set_option linter.all false
set_option maxRecDepth 100000
set_option maxHeartbeats 0
/-! the head's own run, before all else: it wants the most memory -/
namespace E4
open PySem PySem.Spec PyProof.Rows L2 He Hb
open C8 (Cal Mak Met InsC)
open LamX (Tabs ExtN TabB CodeO TabS)
/-- a def of the text, by its statement -/
def dX (at_ : Str × Option Str) (name qual : Str) (st : Stmt) : DefD := { at_ := at_, name := name, qual := qual, params := defArgs st, body := defBody st, scope := defScope st, dfl := [] }
theorem plainD {K : PySem.W.Frag} {x qual : Str} {st : Stmt} {f : Addr} {fd : FuncData} (F : FunD K x qual (defArgs st) (defBody st) (defScope st) [] [] f fd) : L2.Fun K x qual st f fd := by
  obtain ⟨oc, od, dV, kV, doc, pm, an, cdv, ct, osl, rfl, lk, hcd, hD, hK⟩ := F.ex
  rcases hD with ⟨_, rfl⟩ | ⟨e, _⟩
  · exact ⟨⟨oc, od, kV, doc, pm, an, cdv, ct, osl, rfl, lk, hcd⟩, F.kp⟩
  · exact absurd rfl e
theorem funX {fa : List Fa} {fn : List DefD} {K : PySem.W.Frag} (c : SaysD fa fn K) (i : Nat) {at_ : Str × Option Str} {name qual : Str} {st : Stmt} (h : fn[i]? = some (dX at_ name qual st) := by rfl) : ∃ fd, L2.Fun K name qual st (fAd K at_) fd :=
  let ⟨fd, F⟩ := c.def_ i h
  ⟨fd, plainD F⟩
def neB (K : PySem.W.Frag) (C : Addr) : Bool := eqO (PySem.W.findIn K (.ref C) "__ne__") (some (some (.builtin "object.__ne__"))) && (eqO (PySem.W.findIn K (.ref C) "__eq__") (some (some (.ref (ma K C "__eq__")))) && (PySem.W.isFn K (.ref (ma K C "__eq__")) && decide (PySem.W.subIn K (.ref C) (.type "object") = some true)))
def methF (i : Nat) : Stmt := (C8.clsBody (top 16)).getD i (.Pass ⟨0, 0, 0, 0⟩)
def fnR : List DefD := [dX ("is_whole", none) "is_whole" "is_whole" (top 12),
  dX ("is_letter", none) "is_letter" "is_letter" (top 13),
  dX ("is_values", none) "is_values" "is_values" (top 14),
  dX ("letter", none) "letter" "letter" (top 17),
  dX ("number", none) "number" "number" (top 18),
  dX ("product_form", none) "product_form" "product_form" (top 19),
  dX ("right_side", none) "right_side" "right_side" (top 20),
  dX ("without_noughts", none) "without_noughts" "without_noughts" (top 21),
  dX ("product_at", none) "product_at" "product_at" (top 22),
  dX ("lowest", none) "lowest" "lowest" (top 23),
  dX ("fraction_sum", none) "fraction_sum" "fraction_sum" (top 24),
  dX ("fraction_product", none) "fraction_product" "fraction_product" (top 25),
  dX ("check_table", none) "check_table" "check_table" (top 28),
  dX ("is_sides", none) "is_sides" "is_sides" (top 29),
  dX ("is_side", none) "is_side" "is_side" (top 30),
  dX ("is_product", none) "is_product" "is_product" (top 31),
  dX ("names_of", none) "names_of" "names_of" (top 32),
  dX ("jumps", none) "jumps" "jumps" (top 34),
  dX ("check_walk", none) "check_walk" "check_walk" (top 35),
  dX ("inside_out", none) "inside_out" "inside_out" (top 36),
  dX ("_law_purse", none) "_law_purse" "_law_purse" (top 38),
  dX ("_law_mixed", none) "_law_mixed" "_law_mixed" (top 39),
  dX ("_law_draw", none) "_law_draw" "_law_draw" (top 40),
  dX ("_law_one_of", none) "_law_one_of" "_law_one_of" (top 41),
  dX ("_law_shuffled", none) "_law_shuffled" "_law_shuffled" (top 42),
  dX ("_law_letters", none) "_law_letters" "_law_letters" (top 43),
  dX ("_law_names", none) "_law_names" "_law_names" (top 44),
  dX ("_law_chain", none) "_law_chain" "_law_chain" (top 45),
  dX ("_law_times", none) "_law_times" "_law_times" (top 46),
  dX ("_law_used", none) "_law_used" "_law_used" (top 47),
  dX ("_law_sizes", none) "_law_sizes" "_law_sizes" (top 48),
  dX ("_law_spot", none) "_law_spot" "_law_spot" (top 49),
  dX ("_law_many_cells", none) "_law_many_cells" "_law_many_cells" (top 50),
  dX ("_law_product_form", none) "_law_product_form" "_law_product_form" (top 51),
  dX ("_law_walked", none) "_law_walked" "_law_walked" (top 52),
  dX ("_law_steps", none) "_law_steps" "_law_steps" (top 53),
  dX ("_law_small_right", none) "_law_small_right" "_law_small_right" (top 54),
  dX ("_law_great_right", none) "_law_great_right" "_law_great_right" (top 55),
  dX ("_law_due", none) "_law_due" "_law_due" (top 56),
  dX ("law", none) "law" "law" (top 57),
  dX ("Plain", some "__init__") "__init__" "Plain.__init__" (sInit),
  dX ("Plain", some "__eq__") "__eq__" "Plain.__eq__" (sEq),
  dX ("Plain", some "sides") "sides" "Plain.sides" (sSides),
  dX ("Form", some "__init__") "__init__" "Form.__init__" (methF 0),
  dX ("Form", some "__add__") "__add__" "Form.__add__" (methF 1),
  dX ("Form", some "__sub__") "__sub__" "Form.__sub__" (methF 2),
  dX ("Form", some "__mul__") "__mul__" "Form.__mul__" (methF 3),
  dX ("Form", some "__neg__") "__neg__" "Form.__neg__" (methF 4),
  dX ("Form", some "__eq__") "__eq__" "Form.__eq__" (methF 5),
  dX ("Form", some "letters") "letters" "Form.letters" (methF 8),
  dX ("Form", some "terms") "terms" "Form.terms" (methF 7),
  dX ("Form", some "at") "at" "Form.at" (methF 10)]
def faR : List Fa := [.glo "is_whole", .glo "is_letter", .glo "is_values", .glo "letter", .glo "number", .glo "product_form", .glo "right_side", .glo "without_noughts", .glo "product_at", .glo "lowest", .glo "fraction_sum", .glo "fraction_product", .glo "check_table", .glo "is_sides", .glo "is_side", .glo "is_product", .glo "names_of", .glo "jumps", .glo "check_walk", .glo "inside_out", .glo "_law_purse", .glo "_law_mixed", .glo "_law_draw", .glo "_law_one_of", .glo "_law_shuffled", .glo "_law_letters", .glo "_law_names", .glo "_law_chain", .glo "_law_times", .glo "_law_used", .glo "_law_sizes", .glo "_law_spot", .glo "_law_many_cells", .glo "_law_product_form", .glo "_law_walked", .glo "_law_steps", .glo "_law_small_right", .glo "_law_great_right", .glo "_law_due", .glo "law", .glo "Plain", .glo "Form", .free "isinstance", .free "int", .free "bool", .free "str", .free "len", .free "all", .free "any", .free "list", .free "tuple", .free "dict", .free "set", .free "sorted", .free "zip", .free "reversed", .free "divmod", .free "enumerate", .free "sum", .free "max", .free "min", .free "range", .cls "Plain", .noat "Plain" "_sides", .mkr "Plain", .cls "Form", .noat "Form" "_parts", .mkr "Form", .meth "Plain" "sides", .meth "Form" "letters", .meth "Form" "at"]
def bsR (K : PySem.W.Frag) : List Bool := [insB K (ga K "Plain"), neB K (ga K "Plain"), insB K (ga K "Form"), neB K (ga K "Form"), bltB K "gcd" "math.gcd", bltB K "lcm" "math.lcm", ownB K (ga K "Form") "__add__", ownB K (ga K "Form") "__sub__", ownIB K (ga K "Form") "sub", ownB K (ga K "Form") "__neg__", ownB K (ga K "Form") "__mul__", decide (PySem.W.kitOne K (.ref (ga K "Form")) (.type "int") = some false)]
def exR (K : PySem.W.Frag) : Bool := (bsR K).all id
def tsR : List Tab := []
def pT0 : Defn := ("Form", some "terms")
def qT0 : Str := "Form.terms.<locals>.<lambda>"
abbrev R : PySem.W.OpenRow := PySem.W.OpenLaw.row PySem.Challenge.rw_cellplaces_k61_whole_jumps
abbrev hk : PySem.W.Hook := He.hookX 4 faR fnR tsR [pT0] exR
def ob (s : PySem.W.SharedT) : He.AlX := He.obsX 4 faR fnR tsR [pT0] exR (HandSHeadRun.getT s)
theorem ob_eq (s : PySem.W.SharedT) : ob s = hk.obs s.abs := He.obsX_eq (HandSHeadRun.getT_eq s)
def loose0 : List PySem.Str := ["_wall", "CellError", "InvalidForm", "InvalidLetter", "InvalidNumber", "InvalidValues", "InvalidSides", "InvalidTable", "InvalidWalk", "is_whole", "is_letter", "is_values"]
def loose1 : List PySem.Str := ["Form", "letter", "number", "product_form", "right_side", "without_noughts", "product_at", "lowest", "fraction_sum", "fraction_product", "Plain", "check_table"]
def loose2 : List PySem.Str := ["is_sides", "is_side", "is_product", "names_of", "jumps", "check_walk", "inside_out", "_law_purse", "_law_mixed", "_law_draw", "_law_one_of", "_law_shuffled"]
def loose3 : List PySem.Str := ["_law_letters", "_law_names", "_law_chain", "_law_times", "_law_used", "_law_sizes", "_law_spot", "_law_many_cells", "_law_product_form", "_law_walked", "_law_steps", "_law_small_right"]
def loose4 : List PySem.Str := ["_law_great_right", "_law_due"]
def looseAll : List PySem.Str := loose0 ++ loose1 ++ loose2 ++ loose3 ++ loose4
theorem run (w : World) : HandSHeadRun.RunEqI R (PySem.W.view R.prog [0, 57]) hk ob 20000 looseAll w := by
  unfold HandSHeadRun.RunEqI; kernel_rfl
end E4

set_option Elab.async false
set_option linter.all false
set_option maxRecDepth 100000
set_option maxHeartbeats 1000000
/-! the row's statements, and what stands where -/
namespace L2
open PySem PySem.Spec PyProof.Rows
/-- // by any number but 0 -/
def CDivX (_ j : Int) : Prop := j ≠ 0 ∧ j.natAbs.log2 < 9000
section
variable {X : Cx}
theorem op_fdivX : OpR X (binaryOp .FloorDiv) (rI CDivX fun i j => .int (i.fdiv j)) := opI fun i j _ _ _ _ _ hc q => floordiv_int hc.1 q (.inl (PyProof.noPylong_of_log2 hc.2))
end
end L2
namespace E2
open PySem L2
def top (i : Nat) : Stmt := PySem.Challenge.pw_cellplaces_k61_whole_jumps.main.body.getD i (.Pass ⟨0, 0, 0, 0⟩)
abbrev sIsWhole : Stmt := top 12
abbrev sIsLetter : Stmt := top 13
abbrev sIsValues : Stmt := top 14
abbrev sForm : Stmt := top 16
abbrev sLetter : Stmt := top 17
abbrev sNumber : Stmt := top 18
abbrev sRightSide : Stmt := top 20
abbrev sWithout : Stmt := top 21
abbrev sProductAt : Stmt := top 22
abbrev sLowest : Stmt := top 23
abbrev sFracSum : Stmt := top 24
abbrev sFracProd : Stmt := top 25
/-- a def of the module's, by its name -/
structure DefOk (P : Program) (w : World) (K : PySem.W.Frag) (mg : Str → Option Value) (base : Heap) (k : Nat) (x : Str) (ps : List Str) (sp : Sp) : Prop where
  ex : ∃ (f : Addr) (fd : FuncData), mg x = some (.ref f) ∧ PySem.W.keepIn K (.ref f) = true ∧ FnOk P w K mg base CX0 k f fd ps sp ∧ Binds K fd ps []
end E2

set_option Elab.async false
set_option linter.all false
set_option maxRecDepth 100000
set_option maxHeartbeats 1000000
/-! lowest, fraction_sum, fraction_product -/
namespace E2
open PySem PySem.Spec PyProof.Rows L2
open C8 (Cal Mak Met InsC pe_c pe_mt pe_mt0 call_isC clsBody)
theorem log2_mono {a b : Nat} (h : a ≤ b) : a.log2 ≤ b.log2 := by
  rcases Nat.eq_zero_or_pos a with r | r
  · rw [r]; exact Nat.zero_le _
  · rw [Nat.le_log2 (by omega)]
    exact Nat.le_trans (Nat.log2_self_le (by omega)) h
def spLowest : Sp := fun vs H Q _ => ∃ a b : Int, vs = [.int a, .int b] ∧ b ≠ 0 ∧ b.natAbs.log2 < 9000 ∧ NewQ H (.tup [.int (loq a b).1, .int (loq a b).2]) Q
section
variable {P : Program} {w : World} {K : PySem.W.Frag} {mg : Str → Option Value} {base : Heap}
theorem scLowest : FnScope ["top", "bottom", "shared"] ["top", "bottom"] (defScope sLowest) := ⟨rfl, rfl, rfl, by decide +kernel, rfl, by decide +kernel, by decide +kernel⟩
theorem ok_lowest {f : Addr} {fd : FuncData} (F : Fun K "lowest" "lowest" sLowest f fd) (hgcd : mg "gcd" = some (.builtin "math.gcd")) : FnOk P w K mg base CX0 1 f fd ["top", "bottom"] spLowest := by
  refine F.ok scLowest (fun vs H Q E h => ?_) (fun cdv A outer s H vs Q E hr h => ?_)
  · obtain ⟨a, b, rfl, _⟩ := h
    rfl
  · obtain ⟨a, b, rfl, hb, hl, k⟩ := h
    refine ⟨_, pss_cons (ps_set (i := 2) scLowest.nd rfl (Or.inl rfl) (pe_ifExp (pt_cmpR op_gt (pv 1) pe_int (by rfl))
        (pe_callBfun cr_gcd rfl hgcd (pa_cons (pv 0) (pa_cons (pv 1) pa_nil))) (pe_un un_neg (pe_callBfun cr_gcd rfl hgcd (pa_cons (pv 0) (pa_cons (pv 1) pa_nil))))))
      (pss_one (ps_ret (pe_tupS (pa_cons (pe_op op_fdivX (pv 0) (pv 2)) (pa_cons (pe_op op_fdivX (pv 1) (pv 2)) pa_nil))))), ?_⟩
    have gp : 0 < Nat.gcd a.natAbs b.natAbs := Nat.gcd_pos_of_pos_right _ (by omega)
    have gl : (Nat.gcd a.natAbs b.natAbs).log2 < 9000 := Nat.lt_of_le_of_lt (log2_mono (Nat.gcd_le_right _ (by omega))) hl
    refine ⟨_, rfl, b, 0, rfl, rfl, _, rfl, ?_⟩
    refine iteD (fun h => ?_) (fun h => ?_)
    · refine ⟨_, rfl, _, rfl, a, b, rfl, ?_⟩
      have c : CDivX a ((Nat.gcd a.natAbs b.natAbs : Nat) : Int) := ⟨by omega, by simpa using gl⟩
      refine ⟨_, rfl, _, rfl, _, _, rfl, rfl, c, _, rfl, _, rfl, _, _, rfl, rfl, c, (by show 2 ≤ sizeLine; decide), ?_⟩
      have e : loq a b = (a.fdiv ((Nat.gcd a.natAbs b.natAbs : Nat) : Int), b.fdiv ((Nat.gcd a.natAbs b.natAbs : Nat) : Int)) := by
        unfold loq
        simp only [show b > 0 from h, if_true]
      rw [e] at k
      exact k
    · refine ⟨_, rfl, _, rfl, a, b, rfl, _, rfl, ?_⟩
      have c : CDivX a (-((Nat.gcd a.natAbs b.natAbs : Nat) : Int)) := ⟨by omega, by simpa using gl⟩
      refine ⟨_, rfl, _, rfl, _, _, rfl, rfl, c, _, rfl, _, rfl, _, _, rfl, rfl, c, (by show 2 ≤ sizeLine; decide), ?_⟩
      have e : loq a b = (a.fdiv (-((Nat.gcd a.natAbs b.natAbs : Nat) : Int)), b.fdiv (-((Nat.gcd a.natAbs b.natAbs : Nat) : Int))) := by
        unfold loq
        simp only [show ¬ (b > 0) from h, if_false]
      rw [e] at k
      exact k

/-- two fractions, each a tuple; the third, a new one -/
def spFrac (K : PySem.W.Frag) (g : Rat → Rat → Rat) : Sp := fun vs H Q _ => ∃ (p q : Addr) (x y : Rat), vs = [.ref p, .ref q] ∧ SqT K H p (frac x) ∧ SqT K H q (frac y) ∧ x.num.natAbs < 2 ^ 400000 ∧ y.num.natAbs < 2 ^ 400000 ∧ x.den < 2 ^ 4000 ∧ y.den < 2 ^ 4000 ∧ NewQ H (.tup (frac (g x y))) Q
theorem cmw {i j : Int} {a b : Nat} (ha : i.natAbs < 2 ^ a) (hb : j.natAbs < 2 ^ b) (h0 : 0 < a) (h1 : 0 < b) (h : a + b ≤ 1000000) : CMulW i j := wide_mul ha hb h0 h1 h
theorem den_log {a b : Nat} (ha : a < 2 ^ 4000) (hb : b < 2 ^ 4000) : ((a : Int) * (b : Int)).natAbs.log2 < 9000 := by
  have e : ((a : Int) * (b : Int)).natAbs < 2 ^ (4000 + 4000) := wide_lt (a := 4000) (b := 4000) (by rw [Int.natAbs_natCast]; exact ha) (by rw [Int.natAbs_natCast]; exact hb)
  exact Nat.lt_of_lt_of_le (PySem.Flt.log2_lt_of (by decide) e) (by decide)
theorem den_ne {x y : Rat} : (x.den : Int) * (y.den : Int) ≠ 0 := by
  have h1 := x.den_nz
  have h2 := y.den_nz
  intro e
  rcases Int.mul_eq_zero.mp e with h | h <;> omega
theorem scFracSum : FnScope ["one", "other"] ["one", "other"] (defScope sFracSum) := ⟨rfl, rfl, rfl, by decide +kernel, rfl, by decide +kernel, by decide +kernel⟩
theorem ok_fracSum {f : Addr} {fd : FuncData} (F : Fun K "fraction_sum" "fraction_sum" sFracSum f fd) (L : Cal P w K mg base 1 "lowest" spLowest []) : FnOk P w K mg base CX0 2 f fd ["one", "other"] (spFrac K (· + ·)) := by
  refine F.ok scFracSum (fun vs H Q E h => ?_) (fun cdv A outer s H vs Q E hr h => ?_)
  · obtain ⟨p, q, x, y, rfl, _⟩ := h
    rfl
  · obtain ⟨p, q, x, y, rfl, hp, hq, nx, ny, dx, dy, k⟩ := h
    refine ⟨_, pss_one (ps_ret (pe_c L hr (by decide) rfl (pa_cons (pe_op op_add (pe_op op_mulW (pe_ix ix_tup (pv 0) pe_int (fun _ _ => rfl)) (pe_ix ix_tup (pv 1) pe_int (fun _ _ => rfl))) (pe_op op_mulW (pe_ix ix_tup (pv 1) pe_int (fun _ _ => rfl)) (pe_ix ix_tup (pv 0) pe_int (fun _ _ => rfl))))
      (pa_cons (pe_op op_mulW (pe_ix ix_tup (pv 0) pe_int (fun _ _ => rfl)) (pe_ix ix_tup (pv 1) pe_int (fun _ _ => rfl))) pa_nil)))), ?_⟩
    have cx : (x.den : Int).natAbs < 2 ^ 4000 := by rw [Int.natAbs_natCast]; exact dx
    have cy : (y.den : Int).natAbs < 2 ^ 4000 := by rw [Int.natAbs_natCast]; exact dy
    refine ⟨_, rfl, p, _, 0, _, rfl, rfl, hp, rfl, _, rfl, q, _, 1, _, rfl, rfl, hq, rfl, _, _, rfl, rfl, cmw nx cy (by decide) (by decide) (by decide), ?_⟩
    refine ⟨_, rfl, q, _, 0, _, rfl, rfl, hq, rfl, _, rfl, p, _, 1, _, rfl, rfl, hp, rfl, _, _, rfl, rfl, cmw ny cx (by decide) (by decide) (by decide), ?_⟩
    refine ⟨_, _, rfl, rfl, ?_⟩
    refine ⟨_, rfl, p, _, 1, _, rfl, rfl, hp, rfl, _, rfl, q, _, 1, _, rfl, rfl, hq, rfl, _, _, rfl, rfl, cmw cx cy (by decide) (by decide) (by decide), ?_⟩
    refine ⟨_, _, rfl, den_ne, den_log dx dy, ?_⟩
    rw [loq_add]
    exact k
theorem scFracProd : FnScope ["one", "other"] ["one", "other"] (defScope sFracProd) := ⟨rfl, rfl, rfl, by decide +kernel, rfl, by decide +kernel, by decide +kernel⟩
theorem ok_fracProd {f : Addr} {fd : FuncData} (F : Fun K "fraction_product" "fraction_product" sFracProd f fd) (L : Cal P w K mg base 1 "lowest" spLowest []) : FnOk P w K mg base CX0 2 f fd ["one", "other"] (spFrac K (· * ·)) := by
  refine F.ok scFracProd (fun vs H Q E h => ?_) (fun cdv A outer s H vs Q E hr h => ?_)
  · obtain ⟨p, q, x, y, rfl, _⟩ := h
    rfl
  · obtain ⟨p, q, x, y, rfl, hp, hq, nx, ny, dx, dy, k⟩ := h
    refine ⟨_, pss_one (ps_ret (pe_c L hr (by decide) rfl (pa_cons (pe_op op_mulW (pe_ix ix_tup (pv 0) pe_int (fun _ _ => rfl)) (pe_ix ix_tup (pv 1) pe_int (fun _ _ => rfl)))
      (pa_cons (pe_op op_mulW (pe_ix ix_tup (pv 0) pe_int (fun _ _ => rfl)) (pe_ix ix_tup (pv 1) pe_int (fun _ _ => rfl))) pa_nil)))), ?_⟩
    have cx : (x.den : Int).natAbs < 2 ^ 4000 := by rw [Int.natAbs_natCast]; exact dx
    have cy : (y.den : Int).natAbs < 2 ^ 4000 := by rw [Int.natAbs_natCast]; exact dy
    refine ⟨_, rfl, p, _, 0, _, rfl, rfl, hp, rfl, _, rfl, q, _, 0, _, rfl, rfl, hq, rfl, _, _, rfl, rfl, cmw nx ny (by decide) (by decide) (by decide), ?_⟩
    refine ⟨_, rfl, p, _, 1, _, rfl, rfl, hp, rfl, _, rfl, q, _, 1, _, rfl, rfl, hq, rfl, _, _, rfl, rfl, cmw cx cy (by decide) (by decide) (by decide), ?_⟩
    refine ⟨_, _, rfl, den_ne, den_log dx dy, ?_⟩
    rw [loq_mul]
    exact k
end
end E2

set_option Elab.async false
set_option linter.all false
set_option maxRecDepth 100000
set_option maxHeartbeats 1000000
/-! Forms as objects: Form(..), -a, a.over(n), a + b, .. -/
namespace L2
open PySem PySem.Spec PyProof.Rows
open C8 (Cal Mak Met InsC)
/-- the form at a -/
def FmAt (P : Program) (w : World) (K : PySem.W.Frag) (C : Addr) (H : Hp) (a : Addr) (fm : Fm) : Prop := ∃ dx d kvs, H a = some (.ins C dx [("_parts", .ref d)]) ∧ H d = some (DfO P w d kvs) ∧ FmKv K H kvs fm
theorem FmAt.same {P : Program} {w : World} {K : PySem.W.Frag} {C : Addr} {H H' : Hp} {a : Addr} {fm : Fm} (h : FmAt P w K C H a fm) (S : Same H H') : FmAt P w K C H' a fm :=
  let ⟨dx, d, kvs, h1, h2, h3⟩ := h; ⟨dx, d, kvs, S _ _ h1, S _ _ h2, h3.same S⟩
def spInit (C : Addr) : Sp := fun vs H Q _ => ∃ a dx v, vs = [.ref a, v] ∧ H a = some (.ins C dx []) ∧ Q .non (upd H a (.ins C dx [("_parts", v)]))
def tMkF (C : Addr) (te : TE) : TE := fun σ H Q => te σ H fun v H1 => ∀ a dx H', Same H1 H' → H1 a = none → H' a = some (.ins C dx [("_parts", v)]) → Q (.ref a) H'
theorem seq_lockasg {te : TE} {i : Nat} {u : TS} {D : Ends} {σ : St} {H : Hp} (h : tLockE te σ H fun x H1 => u D (σ.set i (some x)) H1) : tSeq (tLock (tAsg te (gName i))) u D σ H :=
  let ⟨d, v, hd, mu, h⟩ := h; ⟨d, v, hd, mu, fun od => h od⟩
theorem call_one {sp : Sp} {E : XK} {i : Nat} {v : V} {σ : St} {H : Hp} {Q : VK} (hs : σ[i]? = some (some v)) (h : sp [v] H Q E) : tCall sp [] E (tCons (tVar i) tNil) σ H Q := ⟨v, hs, h⟩
/-- for .. in d.items(), d locked meanwhile -/
theorem seq_for_items {P : Program} {w : World} {K : PySem.W.Frag} {H : Hp} {d : Addr} {l : NAV} {fm : Fm} {td : TE} {g : TG} {tb u : TS} {D : Ends} {σ : St} (hd : H d = some (DfO P w d l)) (hf : FmKv K H l fm)
    (hte : ∀ (od : Obj) (R : VK), R (.ref d) (upd H d (.frz od (DfO P w d l))) → td σ (upd H d (.frz od (DfO P w d l))) R) (Pv : Obj → Nat → St → Hp → Prop) (h0 : ∀ od, Pv od 0 σ (upd H d (.frz od (DfO P w d l))))
    (hl : ∀ od i σ' H', Pv od i σ' H' → H' d = some (.frz od (DfO P w d l)) ∧ Mv K (upd H d (.frz od (DfO P w d l))) H')
    (hs : ∀ (od : Obj) (i : Nat) (m : MonR) (q : Rat) (σ' : St) (H' : Hp) (T b a : Addr) (rt : VK) (bk : St → Hp → Prop), fm[i]? = some (m, q) → Pv od i σ' H' → H' T = none → TupN H' b ((kS m).map kV) → SqT K H' a (frac q) →
      g (.ref T) σ' (upd H' T (.tup [.ref b, .ref a])) fun σ2 H2 => tb { nx := Pv od (i + 1), rt := rt, bk := bk, ct := Pv od (i + 1) } σ2 H2)
    (he : ∀ od σ' H', Pv od fm.length σ' H' → u D σ' (upd H' d (DfO P w d l))) : tSeq (tLock (tFor (iItemsN P w td) g tb)) u D σ H := by
  refine ⟨d, DfO P w d l, hd, trivial, fun od => ?_⟩
  have hf0 : FmKv K (upd H d (.frz od (DfO P w d l))) l fm := hf.imp (.off hd noTup_df)
  refine hte od _ ⟨d, od, l, rfl, upd_same, for_it walk_itemsN (Pv od) (h0 od) (fun i σ' H' _ p => (hl od i σ' H' p).1) ?_ ?_⟩
  · rintro i x σ' H' H'' hi p ⟨T, k, qb, av, hkv, rfl, nT, rfl⟩
    obtain ⟨m, q, b, a, hm, e, tb, sa⟩ := hf0.get hkv
    obtain ⟨rfl, e2⟩ := Prod.mk.inj e
    obtain ⟨rfl, rfl⟩ := Prod.mk.inj e2
    exact hs od i m q σ' H' T qb av _ _ hm p nT ((hl od i σ' H' p).2.tn _ _ tb) ((hl od i σ' H' p).2.sq _ _ sa)
  · intro σ' H' p
    rw [hf.length] at p
    exact ⟨(hl od _ σ' H' p).1, he od σ' H' p⟩
theorem ret_of {te : TE} {D : Ends} {σ : St} {H : Hp} (h : te σ H D.rt) : tRet te D σ H := h
theorem ret_mkF {C : Addr} {te : TE} {D : Ends} {σ : St} {H : Hp} (h : te σ H fun v H1 => ∀ a dx H', Same H1 H' → H1 a = none → H' a = some (.ins C dx [("_parts", v)]) → D.rt (.ref a) H') : tRet (tMkF C te) D σ H := h
section
variable {X : Cx} {C : Addr} {x : Str} {e : Expr} {te : TE} {p pos : Pos} {j : Nat}
theorem pe_mkF (c : Mak X.prog X.w X.K X.mg X.base 1 x C (spInit C) []) (hr : Room j X.A) (hk : 2 ≤ j) (hg : Gl X x) (he : PE X e te)
    (hdb : (x == ("__debug__" : Str)) = false := by decide) (hs : starEach [e] X.env = (false, eval e X.env) :: starEach [] X.env := by rfl) (hpl : (backTo pos (starEach [] X.env)).any (·.1) = false := by rfl) :
    PE X (.Call (.Name x p) [e] [] pos) (tMkF C te) := by
  obtain ⟨f, fd, ps, ds, M, F, hm, b, d⟩ := c.ex
  refine ⟨fun pins s σ H Q I h => ?_⟩
  refine wpAny_Call_Name_kw (ld_glob I hg hm ?_ hdb)
  refine PySem.W.callWith_K (h₀ := X.base) I.ok.mod.kin M.kp ?_ hs hpl
  rw [hs]
  show wpAny _ _ (spliced ((false, eval e X.env) :: backTo pos (starEach [] X.env))) _ _ s
  refine Calls.spliced_cons (thn (he.run pins s σ H _ I h) fun u s1 hh => ?_)
  obtain ⟨v, H1, I1, rv, q⟩ := hh
  refine Calls.spliced_nil ⟨I1.kIn, ?_⟩
  refine run_make (E := E0) M F (hr.mono hk) b d pass0 I1 (.cons rv .nil) fun y dx hy hdx ne => ?_
  refine ⟨y, dx, v, rfl, upd_same, rfl, ?_⟩
  refine q y dx _ ?_ hy upd_same
  intro c o e
  have n1 : c ≠ y := ne_of_none e hy
  have n2 : c ≠ dx := ne_of_none e hdx
  rw [upd_ne n1, upd_ne n1, upd_ne n2]
  exact e
end
end L2
namespace E2
open PySem PySem.Spec PyProof.Rows L2
open C8 (Cal Mak Met InsC pe_c pe_mt pe_mt0 call_isC clsBody)
def meth (i : Nat) : Stmt := (clsBody sForm).getD i (.Pass ⟨0, 0, 0, 0⟩)
abbrev sInit : Stmt := meth 0
abbrev sAdd : Stmt := meth 1
abbrev sSub : Stmt := meth 2
abbrev sMul : Stmt := meth 3
abbrev sNeg : Stmt := meth 4
abbrev sLetters : Stmt := meth 8
abbrev sAt : Stmt := meth 10
/-- the class Form, as the top left it -/
structure Fx (P : Program) (w : World) (K : PySem.W.Frag) (mg : Str → Option Value) (base : Heap) (C : Addr) : Prop where
  cl : Cls K C
  na : NoAttr K C "_parts"
  maks : Mak P w K mg base 1 "Form" C (spInit C) []
def spNeg (P : Program) (w : World) (K : PySem.W.Frag) (C : Addr) (f : Rat → Rat) : Sp := fun vs H Q _ => ∃ a fm, vs = [.ref a] ∧ FmAt P w K C H a fm ∧ (fm.map (·.1)).Nodup ∧ fm.length ≤ sizeLine ∧ ∀ H' b, Same H H' → H b = none → FmAt P w K C H' b (mapM (fun _ => true) f fm) → Q (.ref b) H'
section
variable {P : Program} {w : World} {K : PySem.W.Frag} {mg : Str → Option Value} {base : Heap} {C : Addr}
theorem scInit : FnScope ["self", "parts"] ["self", "parts"] (defScope sInit) := ⟨rfl, rfl, rfl, by decide +kernel, rfl, by decide +kernel, by decide +kernel⟩
theorem ok_init {f : Addr} {fd : FuncData} (F : Fun K "__init__" "Form.__init__" sInit f fd) (c : Cls K C) (n : NoAttr K C "_parts") : FnOk P w K mg base CX0 1 f fd ["self", "parts"] (spInit C) := by
  refine F.ok scInit (fun vs H Q E h => ?_) (fun cdv A outer s H vs Q E hr h => ?_)
  · obtain ⟨a, dx, v, rfl, _⟩ := h
    rfl
  · obtain ⟨a, dx, v, rfl, ha, k⟩ := h
    refine ⟨_, pss_one (ps_fld (pv 0) (pv 1) rfl), ?_⟩
    exact ⟨_, rfl, _, rfl, a, C, dx, [], rfl, ha, c, n, by decide, k⟩
theorem scNeg : FnScope ["self", "names", "top", "bottom"] ["self"] (defScope sNeg) := ⟨rfl, rfl, rfl, by decide +kernel, rfl, by decide +kernel, by decide +kernel⟩
theorem ok_neg {f : Addr} {fd : FuncData} (F : Fun K "__neg__" "Form.__neg__" sNeg f fd) (T : Fx P w K mg base C) : FnOk P w K mg base CX0 3 f fd ["self"] (spNeg P w K C (fun q => -q)) := by
  refine F.ok scNeg (fun vs H Q E h => ?_) (fun cdv A outer s H vs Q E hr h => ?_)
  · obtain ⟨a, fm, rfl, _⟩ := h
    rfl
  · obtain ⟨a, fm, rfl, ⟨dx, d, kvs, ha, hd, hf⟩, hn, hz, k⟩ := h
    refine ⟨_, pss_one (ps_ret (pe_mkF T.maks hr (by decide) rfl (pe_lock (pe_dcN (own := [("names", 1), ("top", 2), ("bottom", 3)]) (g := gTup K 2 (gCons (gName 1) (gCons (gTup K 2 (gCons (gName 2) (gCons (gName 3) gNil))) gNil))) (tt := tYes) (tk := tVar 1) (tv := tTupS (tCons (tUn (rU fun i => V.int (-i)) (tVar 2)) (tCons (tVar 3) tNil))) (Nat.lt_of_le_of_lt (Nat.le_add_right _ 64) hr.units) rfl scNeg.nd (pi_itemsN (pe_fld (pv 0) rfl))
      (blkOk_by (own := [("names", 1), ("top", 2), ("bottom", 3)]) (N := ["self", "names", "top", "bottom"]) (sc := defScope sNeg) (by decide +kernel))
      ⟨fun _ _ _ _ _ => pg_tup rfl (pgs_cons (pg_name (i := 1) scNeg.nd rfl (Or.inl rfl)) (pgs_cons (pg_tup rfl (pgs_cons (pg_name (i := 2) scNeg.nd rfl (Or.inl rfl)) (pgs_cons (pg_name (i := 3) scNeg.nd rfl (Or.inl rfl)) pgs_nil))) pgs_nil)),
       fun _ _ _ _ _ => pts_nil, fun _ _ _ _ _ => pv 1, fun _ _ _ _ _ => by exact pe_tupS (pa_cons (pe_un un_neg (pv 2)) (pa_cons (pv 3) pa_nil))⟩)))), ?_⟩
    refine ret_mkF (lock_items (p := fun _ => true) (f := fun q => -q) hd hf hn hz (fun od R h => ⟨_, rfl, a, C, dx, _, _, rfl, by rw [upd_ne (ne_of ha hd (by intro z; cases z))]; exact ha, T.cl, T.na, rfl, h⟩) ?_ ?_)
    · intro H1 lk i m q H' T b a put skip hm S hT hb sa hput hskip
      refine ⟨T, _, rfl, SqT.of hT, rfl, _, _, rfl, _, _, rfl, ⟨a, _, rfl, sa, rfl, _, _, rfl, _, _, rfl, rfl, rfl, rfl, ?_⟩⟩
      refine iteT (B := skip H') ?_
      exact ⟨_, rfl, _, rfl, _, rfl, _, rfl, (by show 2 ≤ sizeLine; decide), fun p2 H5 S5 n5 h5 => hput rfl H5 b p2 S5 (hb.same S5) (SqT.of h5)⟩
    · intro H' D kvs' S nD hD kv b dx' H2 S2 nb hb
      exact k _ _ (S.trans S2) (S.free nb) ⟨dx', D, kvs', hb, S2 _ _ hD, kv.same S2⟩
end
end E2

set_option Elab.async false
set_option linter.all false
set_option maxRecDepth 100000
set_option maxHeartbeats 1000000
/-! is_whole, is_count, is_letter, is_product, is_side -/
namespace E4
open PySem PySem.Spec PyProof.Rows L2
open C8 (Cal Mak Met InsC pe_c pe_mt pe_mt0 call_isC clsBody)
theorem iteP {p : Prop} [Decidable p] {A B : Prop} (hp : p) (h : B) : if (!decide p) = true then A else B := by
  rw [decide_eq_true hp]
  exact h
theorem iteN {p : Prop} [Decidable p] {A B : Prop} (hp : ¬ p) (h : A) : if (!decide p) = true then A else B := by
  rw [decide_eq_false hp]
  exact h
/-- a letter -/
def LetOk (z : Str) : Prop := 1 ≤ z.length ∧ z.length ≤ 10 ∧ ∀ c ∈ z.cps.toList, 97 ≤ c ∧ c ≤ 122
/-- builtin names that the module leaves alone -/
structure Bl (mg : Str → Option Value) : Prop where
  isi : mg "isinstance" = none
  int_ : mg "int" = none
  bool_ : mg "bool" = none
  str_ : mg "str" = none
  len_ : mg "len" = none
  all_ : mg "all" = none
  any_ : mg "any" = none
  lst_ : mg "list" = none
  tup_ : mg "tuple" = none
  dict_ : mg "dict" = none
  set_ : mg "set" = none
  srt_ : mg "sorted" = none
  zip_ : mg "zip" = none
  rev_ : mg "reversed" = none
  dm_ : mg "divmod" = none
/-- a side: its name, its size, its step -/
abbrev Sd := Str × List Str × List Str
def SdOk (x : Sd) : Prop := LetOk x.1 ∧ (∀ z ∈ x.2.1, LetOk z) ∧ (∀ z ∈ x.2.2, LetOk z) ∧ x.2.1.length ≤ 60 ∧ x.2.2.length ≤ 60
def SdAt (H : Hp) (t : Addr) (x : Sd) : Prop := ∃ a b, H t = some (.tup [.str x.1, .ref a, .ref b]) ∧ H a = some (.lst (x.2.1.map V.str)) ∧ H b = some (.lst (x.2.2.map V.str))
theorem SdAt.same {H H' : Hp} {t : Addr} {x : Sd} (h : SdAt H t x) (S : Same H H') : SdAt H' t x := let ⟨a, b, h1, h2, h3⟩ := h; ⟨a, b, S _ _ h1, S _ _ h2, S _ _ h3⟩
def SdsAt (H : Hp) (ts : List Addr) (xs : List Sd) : Prop := Paired (SdAt H) ts xs
theorem SdsAt.imp {H H' : Hp} {ts : List Addr} {xs : List Sd} (h : SdsAt H ts xs) (k : ∀ t ∈ ts, ∀ x, SdAt H t x → SdAt H' t x) : SdsAt H' ts xs := by
  unfold SdsAt at h ⊢
  induction h with
  | nil => exact .nil
  | cons r t ih => exact .cons (k _ List.mem_cons_self _ r) (ih fun z hz => k z (List.mem_cons_of_mem _ hz))
theorem SdsAt.same {H H' : Hp} {ts : List Addr} {xs : List Sd} (h : SdsAt H ts xs) (S : Same H H') : SdsAt H' ts xs := h.imp fun _ _ _ q => q.same S
theorem paired_ix {α β : Type} {R : α → β → Prop} {as : List α} {bs : List β} (h : Paired R as bs) {i : Nat} {b : β} (e : bs[i]? = some b) : ∃ a, as[i]? = some a ∧ R a b := by
  induction h generalizing i with
  | nil => cases e
  | cons r t ih =>
    cases i with
    | zero => cases e; exact ⟨_, rfl, r⟩
    | succ i => exact ih e
theorem paired_at {α β : Type} {R : α → β → Prop} {as : List α} {bs : List β} (h : Paired R as bs) {i : Nat} {a : α} (e : as[i]? = some a) : ∃ b, bs[i]? = some b ∧ R a b := by
  induction h generalizing i with
  | nil => cases e
  | cons r t ih =>
    cases i with
    | zero => cases e; exact ⟨_, rfl, r⟩
    | succ i => exact ih e
theorem paired_snoc {α β : Type} {R : α → β → Prop} {as : List α} {bs : List β} {a : α} {b : β} (h : Paired R as bs) (r : R a b) : Paired R (as ++ [a]) (bs ++ [b]) := by
  induction h with
  | nil => exact .cons r .nil
  | cons r' t ih => exact .cons r' ih
def spWhole : Sp := fun vs H Q _ => ∃ i : Int, vs = [.int i] ∧ Q (.bl true) H
def spIsLet : Sp := fun vs H Q _ => ∃ z : Str, vs = [.str z] ∧ LetOk z ∧ ∀ H', Same H H' → Q (.bl true) H'
def spProdOk : Sp := fun vs H Q _ => ∃ (a : Addr) (xs : List Str), vs = [.ref a] ∧ H a = some (.lst (xs.map V.str)) ∧ (∀ z ∈ xs, LetOk z) ∧ xs.length ≤ 60 ∧ ∀ H', Same H H' → Q (.bl true) H'
def spSideOk : Sp := fun vs H Q _ => ∃ (t : Addr) (x : Sd), vs = [.ref t, .int 2] ∧ SdAt H t x ∧ SdOk x ∧ ∀ H', Same H H' → Q (.bl true) H'
theorem all_true (n : Nat) : (List.replicate n true).all id = true := by simp
section
variable {P : Program} {w : World} {K : PySem.W.Frag} {mg : Str → Option Value} {base : Heap}
theorem kit_ss : PySem.W.kitOne K (.type "str") (.type "str") = some true := by kernel_rfl
theorem kit_ii : PySem.W.kitOne K (.type "int") (.type "int") = some true := by kernel_rfl
theorem kit_ib : PySem.W.kitOne K (.type "int") (.type "bool") = some false := by kernel_rfl
theorem kit_tt : PySem.W.kitOne K (.type "tuple") (.type "tuple") = some true := by kernel_rfl
theorem kit_ll : PySem.W.kitOne K (.type "list") (.type "list") = some true := by kernel_rfl
theorem kit_dd : PySem.W.kitOne K (.type "dict") (.type "dict") = some true := by kernel_rfl
theorem scWhole : FnScope ["value"] ["value"] (defScope sIsWhole) := ⟨rfl, rfl, rfl, by decide +kernel, rfl, by decide +kernel, by decide +kernel⟩
theorem ok_whole {f : Addr} {fd : FuncData} (F : Fun K "is_whole" "is_whole" sIsWhole f fd) (B : Bl mg) : FnOk P w K mg base CX0 1 f fd ["value"] spWhole := by
  refine F.ok scWhole (fun vs H Q E h => ?_) (fun cdv A outer s H vs Q E hr h => ?_)
  · obtain ⟨v, rfl, _⟩ := h
    rfl
  · obtain ⟨i, rfl, q⟩ := h
    refine ⟨_, pss_one (ps_ret (pe_and (pe_callB call_isi (by rfl) B.isi (by decide +kernel) (pa_cons (pv 0) (pa_cons (pe_bltn (v := .ty "int") (by rfl) B.int_ (by decide +kernel) rfl) pa_nil)))
      (pe_one (pe_not (pe_callB call_isi (by rfl) B.isi (by decide +kernel) (pa_cons (pv 0) (pa_cons (pe_bltn (v := .ty "bool") (by rfl) B.bool_ (by decide +kernel) rfl) pa_nil))))))), ?_⟩
    refine ⟨_, rfl, _, _, _, _, true, rfl, .ty "int", .base (.int i), kit_ii, true, rfl, iteT (B := False) ?_⟩
    exact ⟨_, rfl, _, _, _, _, false, rfl, .ty "bool", .base (.int i), kit_ib, false, rfl, q⟩
theorem scIsLet : FnScope ["name", "sign"] ["name"] (defScope sIsLetter) := ⟨rfl, rfl, rfl, by decide +kernel, rfl, by decide +kernel, by decide +kernel⟩
abbrev rLeS : R2 := fun x y H Q => ∃ i j, x = .str i ∧ y = .str j ∧ Q (.bl (!decide (j.cps.toList < i.cps.toList))) H
theorem ok_isLet {f : Addr} {fd : FuncData} (F : Fun K "is_letter" "is_letter" sIsLetter f fd) (B : Bl mg) : FnOk P w K mg base CX0 1 f fd ["name"] spIsLet := by
  refine F.ok scIsLet (fun vs H Q E h => ?_) (fun cdv A outer s H vs Q E hr h => ?_)
  · obtain ⟨z, rfl, _⟩ := h
    rfl
  · obtain ⟨z, rfl, ⟨l1, l2, hc⟩, k⟩ := h
    refine ⟨_, pss_cons (ps_if (PW.pt (pw_or (pt_not (pt_val (pe_callB call_isi (by rfl) B.isi (by decide +kernel) (pa_cons (pv 0) (pa_cons (pe_bltn (v := .ty "str") (by rfl) B.str_ (by decide +kernel) rfl) pa_nil)))))
        (pw_or1 (pt_not (pt_chain op_le op_le pe_int (pe_callB call_len_str (by rfl) B.len_ PySem.boot_len (pa_cons (pv 0) pa_nil)) pe_int))))) (pss_one (ps_ret pe_bl)) pss_nil)
      (pss_one (ps_ret (pe_callB (cr_all rfl) (by rfl) B.all_ (by decide +kernel) (pa_cons (pe_lc (own := [("sign", 1)]) (g := gName 1) (tt := tYes) (te := tChain rLeS rLeS (tC (.str "a")) (tVar 1) (tC (.str "z"))) rfl scIsLet.nd (pi_str (pv 0))
        (blkOk_by (own := [("sign", 1)]) (N := ["name", "sign"]) (sc := defScope sIsLetter) (by decide +kernel))
        (fun _ _ _ _ _ => pg_name (i := 1) scIsLet.nd rfl (Or.inl rfl)) (fun _ _ _ _ _ => pts_nil) (fun _ _ _ _ _ => by exact pe_chain op_le_str op_le_str pe_str (pv 1) pe_str)) pa_nil)))), ?_⟩
    have hz : z.length ≤ sizeLine := by rw [sizeLine_eq]; omega
    refine ⟨_, rfl, _, _, _, _, true, rfl, .ty "str", .base (.str z), kit_ss, true, rfl, iteF ?_⟩
    refine ⟨_, rfl, z, rfl, hz, _, _, rfl, rfl, _, rfl, iteD (fun _ => ?_) (fun h => absurd (by omega) h)⟩
    refine ⟨_, _, rfl, rfl, _, rfl, iteP (by omega) ?_⟩
    refine ⟨_, rfl, z, rfl, fun D nD => lc_it walk_str (fun i H' => Same H H' ∧ H' D = some (.lst (List.replicate i (V.bl true)))) ⟨Same.upd nD, upd_same⟩ (fun _ _ _ _ => trivial) ?_ ?_⟩
    · rintro i x H1 H1' hi ⟨S, hD⟩ ⟨rfl, c, hcz, rfl⟩
      have hm : c ∈ z.cps.toList := by
        rw [← Array.getElem?_toList] at hcz
        exact List.mem_of_getElem? hcz
      obtain ⟨c1, c2⟩ := hc c hm
      have n1 : ¬ ((⟨#[c]⟩ : Str).cps.toList < ("a" : Str).cps.toList) := by
        show ¬ ([c] < [97])
        rw [List.cons_lt_cons_iff]
        rintro (h | ⟨_, h⟩)
        · omega
        · exact absurd h (by decide)
      have n2 : ¬ (("z" : Str).cps.toList < (⟨#[c]⟩ : Str).cps.toList) := by
        show ¬ ([122] < [c])
        rw [List.cons_lt_cons_iff]
        rintro (h | ⟨_, h⟩)
        · omega
        · exact absurd h (by decide)
      refine ⟨rfl, iteT (B := False) ⟨_, rfl, _, _, rfl, rfl, _, rfl, iteN n1 ⟨_, _, rfl, rfl, _, hD, ?_, ?_, ?_⟩⟩⟩
      · rw [List.length_replicate]
        have : i < z.length := hi
        omega
      · intro b o hb
        rw [upd_ne (ne_of_none hb nD)]
        exact S _ _ hb
      · rw [upd_same, decide_eq_false n2, List.replicate_succ']
        rfl
    · rintro H1 ⟨S, hD⟩
      refine ⟨D, List.replicate z.cps.size true, rfl, SqL.of ?_, ?_⟩
      · rw [List.map_replicate]
        exact hD
      · rw [show (List.replicate z.cps.size true).all id = true by simp]
        exact k H1 S
theorem scProdOk : FnScope ["product", "name"] ["product"] (defScope sIsProduct) := ⟨rfl, rfl, rfl, by decide +kernel, rfl, by decide +kernel, by decide +kernel⟩
theorem ok_prodOk {f : Addr} {fd : FuncData} (F : Fun K "is_product" "is_product" sIsProduct f fd) (B : Bl mg) (L : Cal P w K mg base 1 "is_letter" spIsLet []) : FnOk P w K mg base CX0 2 f fd ["product"] spProdOk := by
  refine F.ok scProdOk (fun vs H Q E h => ?_) (fun cdv A outer s H vs Q E hr h => ?_)
  · obtain ⟨a, xs, rfl, _⟩ := h
    rfl
  · obtain ⟨a, xs, rfl, ha, hx, hz, k⟩ := h
    refine ⟨_, pss_one (ps_ret (pe_and (pe_callB call_isi (by rfl) B.isi (by decide +kernel) (pa_cons (pv 0) (pa_cons (pe_bltn (v := .ty "list") (by rfl) B.lst_ (by decide +kernel) rfl) pa_nil)))
      (pe_one (pe_callB (cr_all rfl) (by rfl) B.all_ (by decide +kernel) (pa_cons (pe_lc (own := [("name", 1)]) (g := gName 1) (tt := tYes) (te := tCall spIsLet [] C8.E0 (tCons (tVar 1) tNil)) rfl scProdOk.nd (pi_list (pv 0))
        (blkOk_by (own := [("name", 1)]) (N := ["product", "name"]) (sc := defScope sIsProduct) (by decide +kernel))
        (fun _ _ _ _ _ => pg_name (i := 1) scProdOk.nd rfl (Or.inl rfl)) (fun _ _ _ _ _ => pts_nil) (fun _ _ _ _ _ => by exact pe_c L hr (by decide) rfl (pa_cons (pv 1) pa_nil))) pa_nil))))), ?_⟩
    refine ⟨_, rfl, _, _, _, _, true, rfl, .ty "list", .base (.lst ha), kit_ll, true, rfl, iteT (B := False) ?_⟩
    refine ⟨_, rfl, a, rfl, ⟨_, SqL.of ha⟩, fun D nD => lc_it (walk_list (xs := xs.map V.str)) (fun i H' => Same H H' ∧ H' D = some (.lst (List.replicate i (V.bl true)))) ⟨Same.upd nD, upd_same⟩ (fun i H' _ q => SqL.of (q.1 _ _ ha)) ?_ ?_⟩
    · rintro i x H2 H3 hi ⟨S, hD⟩ ⟨rfl, hx2⟩
      rw [List.length_map] at hi
      rw [List.getElem?_map] at hx2
      obtain ⟨z, hzz, rfl⟩ := Option.map_eq_some_iff.mp hx2
      refine ⟨rfl, iteT (B := False) ⟨_, rfl, z, rfl, hx z (List.mem_of_getElem? hzz), fun H4 S4 => ⟨_, S4 _ _ hD, ?_, ?_, ?_⟩⟩⟩
      · rw [List.length_replicate, sizeLine_eq]
        omega
      · intro b o hb
        rw [upd_ne (ne_of_none hb nD)]
        exact S4 _ _ (S _ _ hb)
      · rw [upd_same, List.replicate_succ']
    · rintro H2 ⟨S, hD⟩
      refine ⟨D, List.replicate xs.length true, rfl, SqL.of ?_, ?_⟩
      · rw [List.map_replicate]
        rw [List.length_map] at hD
        exact hD
      · rw [all_true]
        exact k H2 S
theorem scSideOk : FnScope ["side", "many", "product"] ["side", "many"] (defScope sIsSide) := ⟨rfl, rfl, rfl, by decide +kernel, rfl, by decide +kernel, by decide +kernel⟩
theorem cut12 (x y z : V) : cutV [x, y, z] (some 1) none = [y, z] := by rfl
theorem ok_sideOk {f : Addr} {fd : FuncData} (F : Fun K "is_side" "is_side" sIsSide f fd) (B : Bl mg) (L : Cal P w K mg base 1 "is_letter" spIsLet []) (Pr : Cal P w K mg base 2 "is_product" spProdOk []) : FnOk P w K mg base CX0 3 f fd ["side", "many"] spSideOk := by
  refine F.ok scSideOk (fun vs H Q E h => ?_) (fun cdv A outer s H vs Q E hr h => ?_)
  · obtain ⟨t, x, rfl, _⟩ := h
    rfl
  · obtain ⟨t, x, rfl, ⟨a, b, ht, ha, hb⟩, ⟨o1, o2, o3, o4, o5⟩, k⟩ := h
    refine ⟨_, pss_cons (ps_if (PW.pt (pw_or (pt_not (pt_val (pe_callB call_isi (by rfl) B.isi (by decide +kernel) (pa_cons (pv 0) (pa_cons (pe_bltn (v := .ty "tuple") (by rfl) B.tup_ (by decide +kernel) rfl) pa_nil)))))
        (pw_or1 (pt_cmpR op_ne (pe_callB call_len_seq (by rfl) B.len_ PySem.boot_len (pa_cons (pv 0) pa_nil)) (pe_op op_add pe_int (pv 1)) (by rfl))))) (pss_one (ps_ret pe_bl)) pss_nil)
      (pss_one (ps_ret (pe_and (pe_c L hr (by decide) rfl (pa_cons (pe_ix ix_tup (pv 0) pe_int (fun _ _ => rfl)) pa_nil))
        (pe_one (pe_callB (cr_all rfl) (by rfl) B.all_ (by decide +kernel) (pa_cons (pe_lc (own := [("product", 2)]) (g := gName 2) (tt := tYes) (te := tCall spProdOk [] C8.E0 (tCons (tVar 2) tNil)) rfl scSideOk.nd (pi_tup (pe_slice sl_tup (pv 0) (po_some pe_int) po_none))
          (blkOk_by (own := [("product", 2)]) (N := ["side", "many", "product"]) (sc := defScope sIsSide) (by decide +kernel))
          (fun _ _ _ _ _ => pg_name (i := 2) scSideOk.nd rfl (Or.inl rfl)) (fun _ _ _ _ _ => pts_nil) (fun _ _ _ _ _ => by exact pe_c Pr hr (by decide) rfl (pa_cons (pv 2) pa_nil))) pa_nil)))))), ?_⟩
    refine ⟨_, rfl, _, _, _, _, true, rfl, .ty "tuple", .base (.tup ht), kit_tt, true, rfl, iteF ?_⟩
    refine ⟨_, rfl, t, _, rfl, .inr (SqT.of ht), _, rfl, 1, 2, rfl, rfl, rfl, _, rfl, ifF rfl ?_⟩
    dsimp only [tNext]
    refine ⟨_, rfl, t, _, 0, _, rfl, rfl, SqT.of ht, rfl, x.1, rfl, o1, fun H1 S1 => ⟨true, rfl, iteT (B := False) ?_⟩⟩
    refine ⟨_, rfl, 1, rfl, t, _, rfl, SqT.of (S1 _ _ ht), (fun h => absurd (show HT.sIx 3 0 (some 1) = 0 from h.1) (by decide)), fun p np => ?_⟩
    rw [cut12]
    have S2 : Same H1 (upd H1 p (.tup [.ref a, .ref b])) := Same.upd np
    have hp : (upd H1 p (.tup [.ref a, .ref b])) p = some (.tup [.ref a, .ref b]) := upd_same
    generalize upd H1 p (.tup [.ref a, .ref b]) = H2 at S2 hp ⊢
    refine ⟨p, rfl, ⟨_, SqT.of hp⟩, fun D nD => lc_it (walk_tup (xs := [.ref a, .ref b])) (fun i H' => Same H2 H' ∧ H' D = some (.lst (List.replicate i (V.bl true)))) ⟨Same.upd nD, upd_same⟩ (fun i H' _ q => SqT.of (q.1 _ _ hp)) ?_ ?_⟩
    · rintro i x1 H3 H4 hi ⟨S, hD⟩ ⟨rfl, hx2⟩
      have key : ∃ (a : Addr) (xs : List Str), [x1] = [V.ref a] ∧ H4 a = some (HO.lst (xs.map V.str)) ∧ (∀ z ∈ xs, LetOk z) ∧ xs.length ≤ 60 := by
        match i, hi with
        | 0, _ => cases hx2; exact ⟨a, x.2.1, rfl, S _ _ (S2 _ _ (S1 _ _ ha)), o2, o4⟩
        | 1, _ => cases hx2; exact ⟨b, x.2.2, rfl, S _ _ (S2 _ _ (S1 _ _ hb)), o3, o5⟩
      obtain ⟨c, zs, e, hc, hl, hz⟩ := key
      refine ⟨rfl, iteT (B := False) ⟨_, rfl, c, zs, e, hc, hl, hz, fun H5 S4 => ⟨_, S4 _ _ hD, ?_, ?_, ?_⟩⟩⟩
      · rw [List.length_replicate, sizeLine_eq]
        have : i < 2 := hi
        omega
      · intro b o hb
        rw [upd_ne (ne_of_none hb nD)]
        exact S4 _ _ (S _ _ hb)
      · rw [upd_same, List.replicate_succ']
    · rintro H3 ⟨S, hD⟩
      refine ⟨D, List.replicate 2 true, rfl, SqL.of hD, ?_⟩
      exact k H3 (S1.trans (S2.trans S))
end
end E4

set_option Elab.async false
set_option linter.all false
set_option maxRecDepth 100000
set_option maxHeartbeats 1000000
/-! names_of, is_sides -/
namespace E4
open PySem PySem.Spec PyProof.Rows L2
open C8 (Cal Mak Met InsC pe_c pe_mt pe_mt0 call_isC clsBody)
/-- good sides -/
structure SdsOk (xs : List Sd) : Prop where
  ne : xs ≠ []
  ok : ∀ x ∈ xs, SdOk x
  nd : (xs.map (·.1)).Nodup
  free : ∀ x ∈ xs, ∀ y ∈ xs, ∀ z, z ∈ x.2.1 ∨ z ∈ x.2.2 → z ≠ y.1
  len : xs.length ≤ 16
def spNames (K : PySem.W.Frag) : Sp := fun vs H Q _ => ∃ (l : Addr) (ts : List Addr) (xs : List Sd), vs = [.ref l] ∧ SqL K H l (ts.map V.ref) ∧ SdsAt H ts xs ∧ xs.length ≤ 60 ∧ ∀ H' p, Same H H' → H p = none → H' p = some (.lst ((xs.map (·.1)).map V.str)) → Q (.ref p) H'
def spSidesOk : Sp := fun vs H Q _ => ∃ (l : Addr) (ts : List Addr) (xs : List Sd), vs = [.ref l, .int 2] ∧ H l = some (.lst (ts.map V.ref)) ∧ SdsAt H ts xs ∧ SdsOk xs ∧ ∀ H', Same H H' → Q (.bl true) H'
theorem any_false (l : List Bool) (h : ∀ b ∈ l, b = false) : l.any id = false := by
  rw [List.any_eq_false]
  intro b hb
  rw [h b hb]
  decide
section
variable {P : Program} {w : World} {K : PySem.W.Frag} {mg : Str → Option Value} {base : Heap}
theorem scNames : FnScope ["sides", "side"] ["sides"] (defScope sNamesOf) := ⟨rfl, rfl, rfl, by decide +kernel, rfl, by decide +kernel, by decide +kernel⟩
theorem ok_names {f : Addr} {fd : FuncData} (F : Fun K "names_of" "names_of" sNamesOf f fd) : FnOk P w K mg base CX0 1 f fd ["sides"] (spNames K) := by
  refine F.ok scNames (fun vs H Q E h => ?_) (fun cdv A outer s H vs Q E hr h => ?_)
  · obtain ⟨l, ts, xs, rfl, _⟩ := h
    rfl
  · obtain ⟨l, ts, xs, rfl, hl, hx, hz, k⟩ := h
    refine ⟨_, pss_one (ps_ret (pe_lc (own := [("side", 1)]) (g := gName 1) (tt := tYes) (te := tOp (rIxT K) (tVar 1) (tC (.int 0))) rfl scNames.nd (pi_list (pv 0))
        (blkOk_by (own := [("side", 1)]) (N := ["sides", "side"]) (sc := defScope sNamesOf) (by decide +kernel))
        (fun _ _ _ _ _ => pg_name (i := 1) scNames.nd rfl (Or.inl rfl)) (fun _ _ _ _ _ => pts_nil) (fun _ _ _ _ _ => by exact pe_ix ix_tup (pv 1) pe_int (fun _ _ => rfl)))), ?_⟩
    have lt := hx.length
    refine ⟨_, rfl, l, rfl, ⟨_, hl⟩, fun D nD => lc_it (walk_list (xs := ts.map V.ref)) (fun i H' => Same H H' ∧ H' D = some (.lst (((xs.take i).map (·.1)).map V.str))) ⟨Same.upd nD, upd_same⟩ (fun i H' _ q => hl.same q.1) ?_ ?_⟩
    · rintro i x H1 H2 hi ⟨S, hD⟩ ⟨rfl, hx2⟩
      rw [List.length_map] at hi
      rw [List.getElem?_map] at hx2
      obtain ⟨t, htt, rfl⟩ := Option.map_eq_some_iff.mp hx2
      obtain ⟨y, hy, a, b, h1, _⟩ := paired_at hx htt
      refine ⟨rfl, iteT (B := False) ⟨_, rfl, t, _, 0, _, rfl, rfl, SqT.of (S _ _ h1), rfl, _, hD, ?_, ?_, ?_⟩⟩
      · rw [List.length_map, List.length_map, List.length_take, sizeLine_eq]
        omega
      · intro c o e
        rw [upd_ne (ne_of_none e nD)]
        exact S _ _ e
      · rw [upd_same, take_snoc hy, List.map_append, List.map_append]
        rfl
    · rintro H1 ⟨S, hD⟩
      rw [List.length_map, lt, List.take_length] at hD
      exact k H1 D S nD hD
theorem scSidesOk : FnScope ["sides", "many", "side", "names", "product", "part"] ["sides", "many"] (defScope sIsSides) := ⟨rfl, rfl, rfl, by decide +kernel, rfl, by decide +kernel, by decide +kernel⟩
theorem ok_sidesOk {f : Addr} {fd : FuncData} (F : Fun K "is_sides" "is_sides" sIsSides f fd) (B : Bl mg) (Sd : Cal P w K mg base 3 "is_side" spSideOk []) (Nm : Cal P w K mg base 1 "names_of" (spNames K) []) : FnOk P w K mg base CX0 4 f fd ["sides", "many"] spSidesOk := by
  refine F.ok scSidesOk (fun vs H Q E h => ?_) (fun cdv A outer s H vs Q E hr h => ?_)
  · obtain ⟨l, ts, xs, rfl, _⟩ := h
    rfl
  · obtain ⟨l, ts, xs, rfl, hl, hx, ok, k⟩ := h
    refine ⟨_, pss_cons (ps_if (PW.pt (pw_or (pt_not (pt_val (pe_callB call_isi (by rfl) B.isi (by decide +kernel) (pa_cons (pv 0) (pa_cons (pe_bltn (v := .ty "list") (by rfl) B.lst_ (by decide +kernel) rfl) pa_nil)))))
        (pw_or1 (pt_cmpR op_eq (pe_callB call_len_seq (by rfl) B.len_ PySem.boot_len (pa_cons (pv 0) pa_nil)) pe_int (by rfl))))) (pss_one (ps_ret pe_bl)) pss_nil)
      (pss_cons (ps_if (pt_not (pt_val (pe_callB (cr_all rfl) (by rfl) B.all_ (by decide +kernel) (pa_cons (pe_lc (own := [("side", 2)]) (g := gName 2) (tt := tYes) (te := tCall spSideOk [] C8.E0 (tCons (tVar 2) (tCons (tVar 1) tNil))) rfl scSidesOk.nd (pi_list (pv 0))
          (blkOk_by (own := [("side", 2)]) (N := ["sides", "many", "side", "names", "product", "part"]) (sc := defScope sIsSides) (by decide +kernel))
          (fun _ _ _ _ _ => pg_name (i := 2) scSidesOk.nd rfl (Or.inl rfl)) (fun _ _ _ _ _ => pts_nil) (fun _ _ _ _ _ => by exact pe_c Sd hr (by decide) rfl (pa_cons (pv 2) (pa_cons (pv 1) pa_nil)))) pa_nil)))) (pss_one (ps_ret pe_bl)) pss_nil)
      (pss_cons (ps_set (i := 3) scSidesOk.nd rfl (Or.inr rfl) (pe_c Nm hr (by decide) rfl (pa_cons (pv 0) pa_nil)))
      (pss_cons (ps_if (pt_cmpR op_lt (pe_callB cr_lenSS (by rfl) B.len_ PySem.boot_len (pa_cons (pe_callTy (cr_setLS rfl) (by rfl) B.set_ (by decide +kernel) (pa_cons (pv 3) pa_nil)) pa_nil)) (pe_callB call_len_seq (by rfl) B.len_ PySem.boot_len (pa_cons (pv 3) pa_nil)) (by rfl)) (pss_one (ps_ret pe_bl)) pss_nil)
      (pss_one (ps_ret (pe_not (pe_callB (cr_any rfl) (by rfl) B.any_ (by decide +kernel) (pa_cons (pe_lc3 (own := [("side", 2), ("product", 4), ("part", 5)]) (v1 := [4, 5]) (v2 := [5]) (g0 := gName 2) (w1 := iTup K (tSl (rSlT K) (tVar 2) (tPart (tC (.int 1))) tNoPart)) (g1 := gName 4) (w2 := iList K (tVar 4)) (g2 := gName 5) (te := tOp (rIn K false) (tVar 5) (tVar 3)) rfl scSidesOk.nd
          (blkOk_by (own := [("side", 2), ("product", 4), ("part", 5)]) (N := ["sides", "many", "side", "names", "product", "part"]) (sc := defScope sIsSides) (by decide +kernel)) (by decide) (by decide) (pi_list (pv 0))
          (fun _ _ _ _ _ => pg_name (i := 2) scSidesOk.nd rfl (Or.inl rfl)) (fun _ _ _ _ _ => by exact pi_tup (pe_slice sl_tup (pv 2) (po_some pe_int) po_none)) (fun _ _ _ _ _ => pg_name (i := 4) scSidesOk.nd rfl (Or.inl rfl))
          (fun _ _ _ _ _ => by exact pi_list (pv 4)) (fun _ _ _ _ _ => pg_name (i := 5) scSidesOk.nd rfl (Or.inl rfl)) (fun _ _ _ _ _ => by exact pe_cmpR op_in_seq (pv 5) (pv 3) (by rfl))) pa_nil)))))))), ?_⟩
    have lt := hx.length
    have zl := ok.len
    refine ⟨_, rfl, _, _, _, _, true, rfl, .ty "list", .base (.lst hl), kit_ll, true, rfl, iteF ?_⟩
    refine ⟨_, rfl, l, _, rfl, .inl (SqL.of hl), ?_⟩
    have hne : (ts.map V.ref).length ≠ 0 := by
      have : xs.length ≠ 0 := fun e => ok.ne (List.length_eq_zero_iff.mp e)
      rw [List.length_map]
      omega
    refine ⟨rfl, _, rfl, ifF (decide_eq_false fun e => hne (Int.ofNat.inj (V.int.inj e))) ?_⟩
    dsimp only [tNext]
    -- the first comprehension
    refine ⟨_, rfl, l, rfl, ⟨_, SqL.of hl⟩, fun D nD => lc_it (walk_list (xs := ts.map V.ref)) (fun i H' => Same H H' ∧ H' D = some (.lst (List.replicate i (V.bl true)))) ⟨Same.upd nD, upd_same⟩ (fun i H' _ q => SqL.of (q.1 _ _ hl)) ?_ ?_⟩
    · rintro i x H2 H3 hi ⟨S, hD⟩ ⟨rfl, hx2⟩
      rw [List.length_map] at hi
      rw [List.getElem?_map] at hx2
      obtain ⟨t, htt, rfl⟩ := Option.map_eq_some_iff.mp hx2
      obtain ⟨y, hy, sy⟩ := paired_at hx htt
      refine ⟨rfl, iteT (B := False) ⟨_, rfl, _, rfl, t, y, rfl, sy.same S, ok.ok y (List.mem_of_getElem? hy), fun H4 S4 => ⟨_, S4 _ _ hD, ?_, ?_, ?_⟩⟩⟩
      · rw [List.length_replicate, sizeLine_eq]
        omega
      · intro b o hb
        rw [upd_ne (ne_of_none hb nD)]
        exact S4 _ _ (S _ _ hb)
      · rw [upd_same, List.replicate_succ']
    rintro H2 ⟨S2, hD⟩
    refine ⟨D, List.replicate ts.length true, rfl, SqL.of (by rw [List.map_replicate]; rw [List.length_map] at hD; exact hD), true, by rw [all_true], iteF ?_⟩
    dsimp only [tNext]
    refine seq_asg ⟨_, rfl, l, ts, xs, rfl, SqL.of (S2 _ _ hl), hx.same S2, by omega, fun H3 p S3 np hp => ?_⟩
    -- the names
    have S03 := S2.trans S3
    refine ⟨_, rfl, p, xs.map (·.1), rfl, SqL.of hp, fun i => ?_, fun sa nsa => ?_⟩
    · have h1 := len_putAll ((xs.map (·.1)).take i) []
      rw [List.length_take, List.length_map] at h1
      have : (0 : Nat) + 60 + 1 < scanBound := by decide
      simp only [List.length_nil] at h1
      omega
    have S34 : Same H3 (upd H3 sa (SetSO P w sa (putAll [] (xs.map (·.1))))) := Same.upd nsa
    refine ⟨sa, _, rfl, upd_same, ?_⟩
    refine ⟨_, rfl, p, _, rfl, .inl (SqL.of (S34 _ _ hp)), ?_⟩
    have e1 := putAll_nodup (ks := []) ok.nd fun _ _ h => absurd h List.not_mem_nil
    refine ⟨_, _, rfl, rfl, _, rfl, ifF (decide_eq_false ?_) ?_⟩
    · rw [e1, List.length_map]
      simp
    dsimp only [tNext]
    show tRet _ _ _ (upd H3 sa (SetSO P w sa (putAll [] (xs.map (·.1)))))
    generalize upd H3 sa (SetSO P w sa (putAll [] (xs.map (·.1)))) = H4 at S34 ⊢
    have S04 := S03.trans S34
    have hp4 := S34 _ _ hp
    -- the last comprehension
    have big : ∀ m : Nat, m ≤ 120 * 60 → m < sizeLine := fun m h => by rw [sizeLine_eq]; omega
    refine ⟨_, rfl, l, rfl, ⟨_, SqL.of (S04 _ _ hl)⟩, fun D2 nD2 => ?_⟩
    have up : ∀ {H' : Hp} {v : HO}, Same H4 H' → Same H4 (upd H' D2 v) := fun S c o e => by
      rw [upd_ne (ne_of_none e nD2)]
      exact S _ _ e
    refine cl_it (walk_list (xs := ts.map V.ref)) (fun i H' => Same H4 H' ∧ ∃ m, m ≤ 120 * i ∧ H' D2 = some (.lst (List.replicate m (V.bl false)))) ⟨Same.upd nD2, 0, Nat.le_refl _, upd_same⟩ (fun i H' _ q => SqL.of (q.1 _ _ (S04 _ _ hl))) ?_ ?_
    · rintro i x H5 H6 hi ⟨S5, m, hm, hD⟩ ⟨rfl, hx2⟩
      rw [List.length_map] at hi
      rw [List.getElem?_map] at hx2
      obtain ⟨t, htt, rfl⟩ := Option.map_eq_some_iff.mp hx2
      obtain ⟨y, hy, a, b, h1, h2, h3⟩ := paired_at hx htt
      have ym := List.mem_of_getElem? hy
      obtain ⟨o1, o2, o3, o4, o5⟩ := ok.ok y ym
      have S45 := S04.trans S5
      refine ⟨rfl, _, rfl, 1, rfl, t, _, rfl, SqT.of (S45 _ _ h1), (fun h => absurd (show HT.sIx 3 0 (some 1) = 0 from h.1) (by decide)), fun q nq => ?_⟩
      rw [cut12]
      have nqD : q ≠ D2 := (ne_of_none hD nq).symm
      refine ⟨q, rfl, ⟨_, SqT.of upd_same⟩, ?_⟩
      refine cl_it (walk_tup (xs := [.ref a, .ref b])) (fun j H' => Same H4 H' ∧ H' q = some (.tup [.ref a, .ref b]) ∧ ∃ m, m ≤ 120 * i + 60 * j ∧ H' D2 = some (.lst (List.replicate m (V.bl false)))) ⟨S5.trans (Same.upd nq), upd_same, m, hm, by rw [upd_ne nqD.symm]; exact hD⟩ (fun j H' _ q => SqT.of q.2.1) ?_ ?_
      · rintro j x2 H7 H8 hj ⟨S7, hq7, m7, hm7, hD7⟩ ⟨rfl, hx3⟩
        have S47 := S04.trans S7
        have key : ∃ (c : Addr) (zs : List Str), x2 = .ref c ∧ H8 c = some (.lst (zs.map V.str)) ∧ zs.length ≤ 60 ∧ c ≠ D2 ∧ ∀ z ∈ zs, z ∈ y.2.1 ∨ z ∈ y.2.2 := by
          match j, hj with
          | 0, _ => cases hx3; exact ⟨a, y.2.1, rfl, S47 _ _ h2, o4, ne_of_none (S04 _ _ h2) nD2, fun z hz => .inl hz⟩
          | 1, _ => cases hx3; exact ⟨b, y.2.2, rfl, S47 _ _ h3, o5, ne_of_none (S04 _ _ h3) nD2, fun z hz => .inr hz⟩
        obtain ⟨c, zs, rfl, hc, hz, ncD, hzs⟩ := key
        refine ⟨rfl, _, rfl, c, rfl, ⟨_, SqL.of hc⟩, ?_⟩
        refine cl_it (walk_list (xs := zs.map V.str)) (fun k H' => Same H4 H' ∧ H' q = some (.tup [.ref a, .ref b]) ∧ H' c = some (.lst (zs.map V.str)) ∧ H' D2 = some (.lst (List.replicate (m7 + k) (V.bl false)))) ⟨S7, hq7, hc, hD7⟩ (fun k H' _ q => SqL.of q.2.2.1) ?_ ?_
        · rintro k x3 H9 H10 hk ⟨S9, hq9, hc9, hD9⟩ ⟨rfl, hx4⟩
          rw [List.length_map] at hk
          rw [List.getElem?_map] at hx4
          obtain ⟨z, hzz, rfl⟩ := Option.map_eq_some_iff.mp hx4
          have nin : inV (.str z) ((xs.map (·.1)).map V.str) = false := by
            unfold inV
            rw [List.any_eq_false]
            intro v hv
            obtain ⟨n, hn, rfl⟩ := List.mem_map.mp hv
            obtain ⟨y2, hy2, rfl⟩ := List.mem_map.mp hn
            have := ok.free y ym y2 hy2 z (hzs z (List.mem_of_getElem? hzz))
            simp [eqV, Ne.symm this]
          have fl : ((xs.map (·.1)).map V.str).all flatV = true := by
            rw [List.all_eq_true]
            intro v hv
            obtain ⟨n, hn, rfl⟩ := List.mem_map.mp hv
            rfl
          refine ⟨rfl, _, rfl, _, rfl, p, _, rfl, .inl (SqL.of (S9 _ _ hp4)), rfl, fl, ?_⟩
          have hi2 : i < 60 := by omega
          have hj2 : j < 2 := hj
          refine ⟨_, hD9, by rw [List.length_replicate]; exact big _ (by omega), up S9, ?_, ?_, ?_⟩
          · rw [upd_ne nqD]; exact hq9
          · rw [upd_ne ncD]; exact hc9
          · rw [upd_same, ← Nat.add_assoc, List.replicate_succ']
            show some (HO.lst (_ ++ [V.bl (inV _ _)])) = _
            rw [nin]
        · rintro H9 ⟨S9, hq9, hc9, hD9⟩
          rw [List.length_map] at hD9
          exact ⟨S9, hq9, m7 + zs.length, by omega, hD9⟩
      · rintro H7 ⟨S7, hq7, m7, hm7, hD7⟩
        exact ⟨S7, m7, by simp only [List.length_cons, List.length_nil] at hm7; omega, hD7⟩
    · rintro H5 ⟨S5, m, hm, hD⟩
      refine ⟨D2, List.replicate m false, rfl, SqL.of (by rw [List.map_replicate]; exact hD), ?_⟩
      rw [any_false _ fun b hb => (List.mem_replicate.mp hb).2]
      exact ⟨false, rfl, k _ (S04.trans S5)⟩
end
end E4

set_option Elab.async false
set_option linter.all false
set_option maxRecDepth 100000
set_option maxHeartbeats 1000000
/-! Plain: the constructor, sides(), sizes() -/
namespace E4
open PySem PySem.Spec PyProof.Rows L2
open C8 (Cal Mak Met InsC pe_c pe_mt pe_mt0 call_isC clsBody)
/-- a side with sorted products -/
def norm (x : Sd) : Sd := (x.1, sortT x.2.1, sortT x.2.2)
/-- the table at a: its sides, their products in order -/
def PlAt (C : Addr) (H : Hp) (a : Addr) (ss : List Sd) : Prop := ∃ dx l ts, H a = some (.ins C dx [("_sides", .ref l)]) ∧ H l = some (.lst (ts.map V.ref)) ∧ SdsAt H ts ss
theorem PlAt.same {C : Addr} {H H' : Hp} {a : Addr} {ss : List Sd} (h : PlAt C H a ss) (S : Same H H') : PlAt C H' a ss := let ⟨dx, l, ts, h1, h2, h3⟩ := h; ⟨dx, l, ts, S _ _ h1, S _ _ h2, h3.same S⟩
theorem str_ref {xs : List Str} {ts : List Addr} (h : xs.map V.str = ts.map V.ref) : ts = [] := by
  cases ts with
  | nil => rfl
  | cons t r =>
    cases xs with
    | nil => cases h
    | cons x y => cases (List.cons.inj h).1
/-- sides stay when a list of refs grows -/
theorem SdsAt.off {H H' : Hp} {D : Addr} {ts : List Addr} {xs : List Sd} {v : HO} (h : SdsAt H ts xs) (hD : H D = some (.lst (ts.map V.ref))) (hn : ∀ t ∈ ts, t ≠ D) (S : ∀ c o, c ≠ D → H c = some o → H' c = some o) : SdsAt H' ts xs := by
  refine h.imp fun t ht x hx => ?_
  obtain ⟨a, b, h1, h2, h3⟩ := hx
  have no : ∀ (c : Addr) (zs : List Str), H c = some (.lst (zs.map V.str)) → c ≠ D := fun c zs e z => by
    rw [z, hD] at e
    have := str_ref (HO.lst.inj (Option.some.inj e)).symm
    rw [this] at ht
    cases ht
  exact ⟨a, b, S _ _ (hn t ht) h1, S _ _ (no _ _ h2) h2, S _ _ (no _ _ h3) h3⟩
theorem length_sortT (l : List Str) : (sortT l).length = l.length := (sortT_perm l).length_eq
theorem SdOk.norm {x : Sd} (h : SdOk x) : SdOk (norm x) := by
  obtain ⟨h1, h2, h3, h4, h5⟩ := h
  exact ⟨h1, fun z hz => h2 z ((sortT_perm _).mem_iff.mp hz), fun z hz => h3 z ((sortT_perm _).mem_iff.mp hz), by show (sortT _).length ≤ 60; rw [length_sortT]; exact h4, by show (sortT _).length ≤ 60; rw [length_sortT]; exact h5⟩
theorem SdsOk.norm {xs : List Sd} (h : SdsOk xs) : SdsOk (xs.map norm) := by
  refine ⟨fun e => h.ne (List.map_eq_nil_iff.mp e), fun y hy => ?_, ?_, fun y hy z hz u hu => ?_, by rw [List.length_map]; exact h.len⟩
  · obtain ⟨x, hx, rfl⟩ := List.mem_map.mp hy
    exact (h.ok x hx).norm
  · rw [List.map_map]
    exact h.nd
  · obtain ⟨x, hx, rfl⟩ := List.mem_map.mp hy
    obtain ⟨x2, hx2, rfl⟩ := List.mem_map.mp hz
    refine h.free x hx x2 hx2 u ?_
    rcases hu with hu | hu
    · exact .inl ((sortT_perm _).mem_iff.mp hu)
    · exact .inr ((sortT_perm _).mem_iff.mp hu)
structure Px (P : Program) (w : World) (K : PySem.W.Frag) (mg : Str → Option Value) (base : Heap) (C : Addr) : Prop where
  cl : Cls K C
  na : NoAttr K C "_sides"
def spInit (C : Addr) : Sp := fun vs H Q _ => ∃ (a dx l : Addr) (ts : List Addr) (xs : List Sd), vs = [.ref a, .ref l] ∧ H a = some (.ins C dx []) ∧ H l = some (.lst (ts.map V.ref)) ∧ SdsAt H ts xs ∧ SdsOk xs ∧
  ∀ H' l' ts', SameB a H H' → H' a = some (.ins C dx [("_sides", .ref l')]) → H' l' = some (.lst (ts'.map V.ref)) → SdsAt H' ts' (xs.map norm) → Q .non H'
def spSides (C : Addr) : Sp := fun vs H Q _ => ∃ (a : Addr) (ss : List Sd), vs = [.ref a] ∧ PlAt C H a ss ∧ SdsOk ss ∧
  ∀ H' p ts', Same H H' → H p = none → H' p = some (.lst (ts'.map V.ref)) → SdsAt H' ts' ss → Q (.ref p) H'
section
variable {P : Program} {w : World} {K : PySem.W.Frag} {mg : Str → Option Value} {base : Heap} {C : Addr}
theorem scInit : FnScope ["self", "sides", "name", "size", "step"] ["self", "sides"] (defScope sInit) := ⟨rfl, rfl, rfl, by decide +kernel, rfl, by decide +kernel, by decide +kernel⟩
theorem ok_init {f : Addr} {fd : FuncData} (F : Fun K "__init__" "Plain.__init__" sInit f fd) (B : Bl mg) (T : Px P w K mg base C) (Is : Cal P w K mg base 4 "is_sides" spSidesOk []) : FnOk P w K mg base CX0 5 f fd ["self", "sides"] (spInit C) := by
  refine F.ok scInit (fun vs H Q E h => ?_) (fun cdv A outer s H vs Q E hr h => ?_)
  · obtain ⟨a, dx, l, ts, xs, rfl, _⟩ := h
    rfl
  · obtain ⟨a, dx, l, ts, xs, rfl, ha, hl, hx, ok, k⟩ := h
    refine ⟨_, pss_cons (ps_if (pt_not (pt_val (pe_c Is hr (by decide) rfl (pa_cons (pv 1) (pa_cons pe_int pa_nil))))) (pss_one ps_never) pss_nil)
      (pss_one (ps_fld (pv 0) (pe_lc (own := [("name", 2), ("size", 3), ("step", 4)]) (g := gTup K 3 (gCons (gName 2) (gCons (gName 3) (gCons (gName 4) gNil)))) (tt := tYes) (te := tTupS (tCons (tVar 2) (tCons (tCB (rSortedS K) (tCons (tVar 3) tNil)) (tCons (tCB (rSortedS K) (tCons (tVar 4) tNil)) tNil)))) rfl scInit.nd (pi_list (pv 1))
        (blkOk_by (own := [("name", 2), ("size", 3), ("step", 4)]) (N := ["self", "sides", "name", "size", "step"]) (sc := defScope sInit) (by decide +kernel))
        (fun _ _ _ _ _ => pg_tup rfl (pgs_cons (pg_name (i := 2) scInit.nd rfl (Or.inl rfl)) (pgs_cons (pg_name (i := 3) scInit.nd rfl (Or.inl rfl)) (pgs_cons (pg_name (i := 4) scInit.nd rfl (Or.inl rfl)) pgs_nil)))) (fun _ _ _ _ _ => pts_nil)
        (fun _ _ _ _ _ => by exact pe_tupS (pa_cons (pv 2) (pa_cons (pe_callB cr_sortedS (by rfl) B.srt_ (by decide +kernel) (pa_cons (pv 3) pa_nil)) (pa_cons (pe_callB cr_sortedS (by rfl) B.srt_ (by decide +kernel) (pa_cons (pv 4) pa_nil)) pa_nil))))) rfl)), ?_⟩
    have lt := hx.length
    have zl := ok.len
    refine ⟨_, rfl, l, ts, xs, rfl, hl, hx, ok, fun H1 S1 => ⟨true, rfl, iteF ?_⟩⟩
    dsimp only [tNext]
    have ha1 := S1 _ _ ha
    have hl1 := S1 _ _ hl
    have hx1 := hx.same S1
    refine ⟨_, rfl, l, rfl, ⟨_, SqL.of hl1⟩, fun D nD => ?_⟩
    refine lc_it (walk_list (xs := ts.map V.ref)) (fun i H' => Same H1 H' ∧ ∃ ts' : List Addr, H' D = some (.lst (ts'.map V.ref)) ∧ ts'.length = i ∧ SdsAt H' ts' ((xs.take i).map norm) ∧ ∀ t ∈ ts', t ≠ D) ⟨Same.upd nD, [], upd_same, rfl, .nil, fun _ h => absurd h List.not_mem_nil⟩ (fun i H' _ q => SqL.of (q.1 _ _ hl1)) ?_ ?_
    · rintro i x H2 H3 hi ⟨S2, ts', hD, lt', hs, ht'⟩ ⟨rfl, hx2⟩
      rw [List.length_map] at hi
      rw [List.getElem?_map] at hx2
      obtain ⟨t, htt, rfl⟩ := Option.map_eq_some_iff.mp hx2
      obtain ⟨y, hy, u, v, h1, h2, h3⟩ := paired_at hx1 htt
      obtain ⟨o1, o2, o3, o4, o5⟩ := ok.ok y (List.mem_of_getElem? hy)
      refine ⟨t, _, rfl, SqT.of (S2 _ _ h1), rfl, _, _, rfl, _, _, rfl, _, _, rfl, rfl, rfl, iteT (B := False) ?_⟩
      refine ⟨_, rfl, _, rfl, u, y.2.1, rfl, SqL.of (S2 _ _ h2), by omega, fun ys p pm so np => ?_⟩
      have ep : ∀ v : HO, Same H3 (upd H3 p v) := fun v => Same.upd np
      have S4 := S2.trans (ep (.lst (ys.map V.str)))
      have hp4 : (upd H3 p (.lst (ys.map V.str))) p = some (.lst (ys.map V.str)) := upd_same
      have hD4 := ep (.lst (ys.map V.str)) _ _ hD
      have S34 := ep (.lst (ys.map V.str))
      generalize upd H3 p (.lst (ys.map V.str)) = H4 at S4 hp4 hD4 S34 ⊢
      refine ⟨_, rfl, v, y.2.2, rfl, SqL.of (S4 _ _ h3), by omega, fun zs q pm2 so2 nq => ?_⟩
      have eq : ∀ v : HO, Same H4 (upd H4 q v) := fun v => Same.upd nq
      refine ⟨by show 3 ≤ sizeLine; decide, fun t6 H6 S6 n6 h6 => ?_⟩
      have S46 := (eq (.lst (zs.map V.str))).trans S6
      have S16 := S4.trans S46
      have hD6 := S46 _ _ hD4
      have hp6 := S46 _ _ hp4
      have hq6 := S6 _ _ (upd_same (H := H4) (a := q) (o := .lst (zs.map V.str)))
      have off : ∀ {c : Addr} {o u : HO}, c ≠ D → H6 c = some o → (upd H6 D u) c = some o := fun n e => by rw [upd_ne n]; exact e
      have npD : p ≠ D := (ne_of_none hD np).symm
      have nqD : q ≠ D := (ne_of_none hD4 nq).symm
      have n6D : t6 ≠ D := ne_of h6 hD6 (by intro z; cases z)
      refine ⟨_, hD6, by rw [List.length_map, lt', sizeLine_eq]; omega, fun c o e => off (ne_of_none e nD) (S16 _ _ e), ts' ++ [t6], by rw [upd_same, List.map_append]; rfl, by rw [List.length_append, lt']; rfl, ?_, ?_⟩
      · rw [take_snoc hy, List.map_append]
        refine paired_snoc (SdsAt.off (v := .lst []) hs hD ht' fun c o n e => off n (S46 _ _ (S34 _ _ e))) ⟨p, q, off n6D (by rw [h6]; rfl), off npD (by rw [hp6, sortT_one pm so]; rfl), off nqD (by rw [hq6, sortT_one pm2 so2]; rfl)⟩
      · intro t3 h3
        rcases List.mem_append.mp h3 with h | h
        · exact ht' t3 h
        · rw [List.mem_singleton.mp h]
          exact n6D
    · rintro H2 ⟨S2, ts', hD, lt', hs, _⟩
      rw [List.length_map, lt, List.take_length] at hs
      refine ⟨_, rfl, a, C, dx, [], rfl, S2 _ _ ha1, T.cl, T.na, by decide, ?_⟩
      have nDa : D ≠ a := (ne_of_none ha1 nD).symm
      refine k _ D ts' (fun c o n e => by rw [upd_ne n]; exact S2 _ _ (S1 _ _ e)) upd_same (by rw [upd_ne nDa]; exact hD) (hs.imp fun t3 _ x3 ⟨a3, b3, r1, r2, r3⟩ => ?_)
      have h5 := S2 _ _ ha1
      exact ⟨a3, b3, by rw [upd_ne (ne_of r1 h5 (by intro z; cases z))]; exact r1, by rw [upd_ne (ne_of r2 h5 (by intro z; cases z))]; exact r2, by rw [upd_ne (ne_of r3 h5 (by intro z; cases z))]; exact r3⟩
end
end E4

set_option Elab.async false
set_option linter.all false
set_option maxRecDepth 100000
set_option maxHeartbeats 1000000
/-! Plain: sides(), sizes() -/
namespace E4
open PySem PySem.Spec PyProof.Rows L2
open C8 (Cal Mak Met InsC pe_c pe_mt pe_mt0 call_isC clsBody)
section
variable {P : Program} {w : World} {K : PySem.W.Frag} {mg : Str → Option Value} {base : Heap} {C : Addr}
theorem scSides : FnScope ["self", "name", "size", "step"] ["self"] (defScope sSides) := ⟨rfl, rfl, rfl, by decide +kernel, rfl, by decide +kernel, by decide +kernel⟩
theorem ok_sides {f : Addr} {fd : FuncData} (F : Fun K "sides" "Plain.sides" sSides f fd) (B : Bl mg) (T : Px P w K mg base C) : FnOk P w K mg base CX0 1 f fd ["self"] (spSides C) := by
  refine F.ok scSides (fun vs H Q E h => ?_) (fun cdv A outer s H vs Q E hr h => ?_)
  · obtain ⟨a, ss, rfl, _⟩ := h
    rfl
  · obtain ⟨a, xs, rfl, ⟨dx, l, ts, ha, hl, hx⟩, ok, k⟩ := h
    refine ⟨_, pss_one (ps_ret (pe_lc (own := [("name", 1), ("size", 2), ("step", 3)]) (g := gTup K 3 (gCons (gName 1) (gCons (gName 2) (gCons (gName 3) gNil)))) (tt := tYes) (te := tTupS (tCons (tVar 1) (tCons (tCB (fun xs H Q => ∃ p ys, xs = [.ref p] ∧ (SqL K H p ys ∨ SqT K H p ys) ∧ ∀ l, H l = none → Q (.ref l) (upd H l (.lst ys))) (tCons (tVar 2) tNil)) (tCons (tCB (fun xs H Q => ∃ p ys, xs = [.ref p] ∧ (SqL K H p ys ∨ SqT K H p ys) ∧ ∀ l, H l = none → Q (.ref l) (upd H l (.lst ys))) (tCons (tVar 3) tNil)) tNil)))) rfl scSides.nd (pi_list (pe_fld (pv 0) rfl))
        (blkOk_by (own := [("name", 1), ("size", 2), ("step", 3)]) (N := ["self", "name", "size", "step"]) (sc := defScope sSides) (by decide +kernel))
        (fun _ _ _ _ _ => pg_tup rfl (pgs_cons (pg_name (i := 1) scSides.nd rfl (Or.inl rfl)) (pgs_cons (pg_name (i := 2) scSides.nd rfl (Or.inl rfl)) (pgs_cons (pg_name (i := 3) scSides.nd rfl (Or.inl rfl)) pgs_nil)))) (fun _ _ _ _ _ => pts_nil)
        (fun _ _ _ _ _ => by exact pe_tupS (pa_cons (pv 1) (pa_cons (pe_callTy call_list_of (by rfl) B.lst_ (by decide +kernel) (pa_cons (pv 2) pa_nil)) (pa_cons (pe_callTy call_list_of (by rfl) B.lst_ (by decide +kernel) (pa_cons (pv 3) pa_nil)) pa_nil)))))), ?_⟩
    have lt := hx.length
    have zl := ok.len
    refine ⟨_, rfl, a, C, dx, _, _, rfl, ha, T.cl, T.na, rfl, l, rfl, ⟨_, SqL.of hl⟩, fun D nD => ?_⟩
    refine lc_it (walk_list (xs := ts.map V.ref)) (fun i H' => Same H H' ∧ ∃ ts' : List Addr, H' D = some (.lst (ts'.map V.ref)) ∧ ts'.length = i ∧ SdsAt H' ts' (xs.take i) ∧ ∀ t ∈ ts', t ≠ D) ⟨Same.upd nD, [], upd_same, rfl, .nil, fun _ h => absurd h List.not_mem_nil⟩ (fun i H' _ q => SqL.of (q.1 _ _ hl)) ?_ ?_
    · rintro i x H2 H3 hi ⟨S2, ts', hD, lt', hs, ht'⟩ ⟨rfl, hx2⟩
      rw [List.length_map] at hi
      rw [List.getElem?_map] at hx2
      obtain ⟨t, htt, rfl⟩ := Option.map_eq_some_iff.mp hx2
      obtain ⟨y, hy, u, v, h1, h2, h3⟩ := paired_at hx htt
      refine ⟨t, _, rfl, SqT.of (S2 _ _ h1), rfl, _, _, rfl, _, _, rfl, _, _, rfl, rfl, rfl, iteT (B := False) ?_⟩
      refine ⟨_, rfl, _, rfl, u, _, rfl, .inl (SqL.of (S2 _ _ h2)), fun p np => ?_⟩
      have ep : ∀ v : HO, Same H3 (upd H3 p v) := fun v => Same.upd np
      have S4 := S2.trans (ep (.lst (y.2.1.map V.str)))
      have S34 := ep (.lst (y.2.1.map V.str))
      have hp4 : (upd H3 p (.lst (y.2.1.map V.str))) p = some (.lst (y.2.1.map V.str)) := upd_same
      have hD4 := ep (.lst (y.2.1.map V.str)) _ _ hD
      generalize upd H3 p (.lst (y.2.1.map V.str)) = H4 at S4 hp4 hD4 S34 ⊢
      refine ⟨_, rfl, v, _, rfl, .inl (SqL.of (S4 _ _ h3)), fun q nq => ?_⟩
      have eq : ∀ v : HO, Same H4 (upd H4 q v) := fun v => Same.upd nq
      refine ⟨by show 3 ≤ sizeLine; decide, fun t6 H6 S6 n6 h6 => ?_⟩
      have S46 := (eq (.lst (y.2.2.map V.str))).trans S6
      have S16 := S4.trans S46
      have hD6 := S46 _ _ hD4
      have hp6 := S46 _ _ hp4
      have hq6 := S6 _ _ (upd_same (H := H4) (a := q) (o := .lst (y.2.2.map V.str)))
      have off : ∀ {c : Addr} {o u : HO}, c ≠ D → H6 c = some o → (upd H6 D u) c = some o := fun n e => by rw [upd_ne n]; exact e
      have npD : p ≠ D := (ne_of_none hD np).symm
      have nqD : q ≠ D := (ne_of_none hD4 nq).symm
      have n6D : t6 ≠ D := ne_of h6 hD6 (by intro z; cases z)
      refine ⟨_, hD6, by rw [List.length_map, lt', sizeLine_eq]; omega, fun c o e => off (ne_of_none e nD) (S16 _ _ e), ts' ++ [t6], by rw [upd_same, List.map_append]; rfl, by rw [List.length_append, lt']; rfl, ?_, ?_⟩
      · rw [take_snoc hy]
        exact paired_snoc (SdsAt.off (v := .lst []) hs hD ht' fun c o n e => off n (S46 _ _ (S34 _ _ e))) ⟨p, q, off n6D h6, off npD hp6, off nqD hq6⟩
      · intro t3 h3
        rcases List.mem_append.mp h3 with h | h
        · exact ht' t3 h
        · rw [List.mem_singleton.mp h]
          exact n6D
    · rintro H2 ⟨S2, ts', hD, lt', hs, _⟩
      rw [List.length_map, lt, List.take_length] at hs
      exact k H2 D ts' S2 nD hD hs
end
end E4

set_option Elab.async false
set_option linter.all false
set_option maxRecDepth 100000
set_option maxHeartbeats 1000000
/-! list.remove of a text -/
namespace L2
open PySem PySem.Spec PyProof.Rows
end L2

set_option Elab.async false
set_option linter.all false
set_option maxRecDepth 100000
set_option maxHeartbeats 1000000
/-! left_of, misfit -/
namespace E4
open PySem PySem.Spec PyProof.Rows L2
open C8 (Cal Mak Met InsC pe_c pe_mt pe_mt0 call_isC clsBody)
/-- what is left of p -/
def leftOf (p o : List Str) : List Str := o.foldl (fun l z => l.erase z) p
section
variable {P : Program} {w : World} {K : PySem.W.Frag} {mg : Str → Option Value} {base : Heap} {C : Addr}
theorem inV_str (z : Str) : ∀ xs : List Str, inV (.str z) (xs.map V.str) = decide (z ∈ xs)
  | [] => by simp [inV]
  | x :: xs => by
    have ih := inV_str z xs
    unfold inV at ih ⊢
    rw [List.map_cons, List.any_cons, ih]
    by_cases e : x = z
    · subst e; simp [eqV]
    · have e2 : ¬ z = x := fun q => e q.symm
      simp [eqV, e, e2]
end
end E4

set_option Elab.async false
set_option linter.all false
set_option maxRecDepth 100000
set_option maxHeartbeats 1000000
/-! misfit, check_table, ordered, own_order -/
namespace E4
open PySem PySem.Spec PyProof.Rows L2
open C8 (Cal Mak Met InsC pe_c pe_mt pe_mt0 call_isC clsBody)
def Fit (x y : Sd) : Prop := leftOf (x.2.2 ++ x.2.1) y.2.2 = []
instance (x y : Sd) : Decidable (Fit x y) := inferInstanceAs (Decidable (_ = _))
section
variable {P : Program} {w : World} {K : PySem.W.Frag} {mg : Str → Option Value} {base : Heap} {C : Addr}
end
end E4

set_option Elab.async false
set_option linter.all false
set_option maxRecDepth 100000
set_option maxHeartbeats 1000000
/-! check_table, ordered, own_order -/
namespace L2
open PySem PySem.Spec PyProof.Rows
open LamX (Tabs ExtN TabB CodeO)
theorem NewT.none {H : Hp} {p : Addr} (h : NewT H p) {o : HO} (e : H p = some o) (t : ∀ ps, o ≠ .tbl ps) : False := let ⟨ps, q⟩ := h o e; t ps q
end L2
namespace E4
open PySem PySem.Spec PyProof.Rows L2
open C8 (Cal Mak Met InsC pe_c pe_mt pe_mt0 call_isC clsBody)
open LamX (Tabs ExtN TabB CodeO)
theorem SdAt.ext {H H' : Hp} {t : Addr} {x : Sd} (h : SdAt H t x) (S : ExtN H H') : SdAt H' t x :=
  let ⟨a, b, h1, h2, h3⟩ := h; ⟨a, b, S _ _ h1 (fun _ z => nomatch z), S _ _ h2 (fun _ z => nomatch z), S _ _ h3 (fun _ z => nomatch z)⟩
theorem SdsAt.ext {H H' : Hp} {ts : List Addr} {xs : List Sd} (h : SdsAt H ts xs) (S : ExtN H H') : SdsAt H' ts xs := h.imp fun _ _ _ q => q.ext S
theorem PlAt.ext {C : Addr} {H H' : Hp} {a : Addr} {ss : List Sd} (h : PlAt C H a ss) (S : ExtN H H') : PlAt C H' a ss :=
  let ⟨dx, l, ts, h1, h2, h3⟩ := h; ⟨dx, l, ts, S _ _ h1 (fun _ z => nomatch z), S _ _ h2 (fun _ z => nomatch z), h3.ext S⟩
/-- the class as a value -/
structure Cv (K : PySem.W.Frag) (mg : Str → Option Value) (C : Addr) : Prop where
  ins : InsC K C
  mgP : mg "Plain" = some (.ref C)
def spCheckT (C : Addr) : Sp := fun vs H Q _ => ∃ (a : Addr) (dx : Addr) (fs : List (Str × V)), vs = [.ref a] ∧ H a = some (.ins C dx fs) ∧ Q .non H
section
variable {P : Program} {w : World} {K : PySem.W.Frag} {mg : Str → Option Value} {base : Heap} {C : Addr}
theorem scCheckT : FnScope ["table"] ["table"] (defScope sCheckTable) := ⟨rfl, rfl, rfl, by decide +kernel, rfl, by decide +kernel, by decide +kernel⟩
theorem ok_checkT {f : Addr} {fd : FuncData} (F : Fun K "check_table" "check_table" sCheckTable f fd) (B : Bl mg) (V : Cv K mg C) : FnOk P w K mg base CX0 1 f fd ["table"] (spCheckT C) := by
  refine F.ok scCheckT (fun vs H Q E h => ?_) (fun cdv A outer s H vs Q E hr h => ?_)
  · obtain ⟨a, dx, fs, rfl, _⟩ := h
    rfl
  · obtain ⟨a, dx, fs, rfl, ha, k⟩ := h
    refine ⟨_, pss_one (ps_if (pt_not (pt_val (pe_callB (call_isC V.ins) (by rfl) B.isi (by decide +kernel) (pa_cons (pv 0) (pa_cons (pe_glob (v := .ref C) (by rfl) V.mgP rfl) pa_nil))))) (pss_one ps_never) pss_nil), ?_⟩
    exact ⟨_, rfl, a, dx, fs, rfl, ha, true, rfl, iteF k⟩
end
end E4

set_option Elab.async false
set_option linter.all false
set_option maxRecDepth 100000
set_option maxHeartbeats 1000000
/-! own_order, check_own_places, product_at -/
namespace E4
open PySem PySem.Spec PyProof.Rows L2
open C8 (Cal Mak Met InsC pe_c pe_mt pe_mt0 call_isC clsBody)
open LamX (Tabs ExtN TabB CodeO)
def prodI (l : List Int) : Int := l.foldr (· * ·) 1
theorem prodI_append (a b : List Int) : prodI (a ++ b) = prodI a * prodI b := by
  unfold prodI
  induction a with
  | nil => simp
  | cons x a ih => rw [List.cons_append, List.foldr_cons, List.foldr_cons, ih, Int.mul_assoc]
def spProd (K : PySem.W.Frag) : Sp := fun vs H Q _ => ∃ (t d : Addr) (m : List Str) (kvs : List (Key × V)) (g : Str → Int), vs = [.ref t, .ref d] ∧ SqL K H t (m.map V.str) ∧ H d = some (.dK kvs) ∧ (∀ x ∈ m, valV kvs (Sum.inr x) = some (.int (g x))) ∧ m.length ≤ 1000 ∧ (∀ x ∈ m, (g x).natAbs < 2 ^ 400) ∧ Q (.int (prodI (m.map g))) H
theorem cmw {i j : Int} {a b : Nat} (ha : i.natAbs < 2 ^ a) (hb : j.natAbs < 2 ^ b) (h0 : 0 < a) (h1 : 0 < b) (h : a + b ≤ 1000000) : CMulW i j := wide_mul ha hb h0 h1 h
theorem prod_lt (g : Str → Int) : ∀ l : List Str, (∀ x ∈ l, (g x).natAbs < 2 ^ 400) → (prodI (l.map g)).natAbs < 2 ^ (1 + l.length * 400)
  | [], _ => by show (1 : Int).natAbs < 2 ^ (1 + 0 * 400); decide
  | x :: l, h => by
    have ih := prod_lt g l fun y hy => h y (List.mem_cons.mpr (.inr hy))
    have hx := h x (List.mem_cons.mpr (.inl rfl))
    have e := wide_lt (a := 400) (b := 1 + l.length * 400) hx ih
    have e2 : 400 + (1 + l.length * 400) = 1 + (x :: l).length * 400 := by rw [List.length_cons, Nat.add_mul]; omega
    rw [e2] at e
    exact e
section
variable {P : Program} {w : World} {K : PySem.W.Frag} {mg : Str → Option Value} {base : Heap} {C : Addr}
theorem scProd : FnScope ["names", "values", "found", "name"] ["names", "values"] (defScope sProductAt) := ⟨rfl, rfl, rfl, by decide +kernel, rfl, by decide +kernel, by decide +kernel⟩
theorem ok_prod {f : Addr} {fd : FuncData} (F : Fun K "product_at" "product_at" sProductAt f fd) : FnOk P w K mg base CX0 1 f fd ["names", "values"] (spProd K) := by
  refine F.ok scProd (fun vs H Q E h => ?_) (fun cdv A outer s H vs Q E hr h => ?_)
  · obtain ⟨t, d, m, kvs, g, rfl, _⟩ := h
    rfl
  · obtain ⟨t, d, m, kvs, g, rfl, ht, hd, hg, hl, hb, k⟩ := h
    have u1 := Nat.lt_of_le_of_lt (Nat.add_le_add_left (by decide : 1 ≤ 64) _) hr.units
    refine ⟨_, pss_cons (ps_set (i := 2) scProd.nd rfl (Or.inl rfl) pe_int)
      (pss_cons (ps_for PassesOwn.never rfl (pi_list (pv 0)) (pg_name (i := 3) scProd.nd rfl (Or.inl rfl)) (pss_one (ps_set (i := 2) scProd.nd rfl (Or.inl rfl) (pe_op op_mulW (pv 2) (pe_dget u1 (pv 1) (pv 3) (fun _ _ => rfl))))))
      (pss_one (ps_ret (pv 2)))), ?_⟩
    refine seq_asg ⟨_, rfl, t, rfl, ⟨_, ht⟩, for_it (walk_list (xs := m.map V.str)) (fun i σ H' => H' = H ∧ ∃ u, σ = [some (.ref t), some (.ref d), some (.int (prodI ((m.take i).map g))), u]) ⟨rfl, none, rfl⟩ ?_ ?_ ?_⟩
    · rintro i σ H' _ ⟨rfl, _⟩
      exact ht
    · rintro i x σ H1 H2 hi ⟨rfl, u, rfl⟩ ⟨rfl, hx⟩
      rw [List.length_map] at hi
      rw [List.getElem?_map] at hx
      obtain ⟨z, hz, rfl⟩ := Option.map_eq_some_iff.mp hx
      have hm := List.mem_of_getElem? hz
      have p1 := prod_lt g (m.take i) fun y hy => hb y (List.mem_of_mem_take hy)
      have tl : (m.take i).length ≤ 1000 := by rw [List.length_take]; omega
      refine ⟨_, rfl, _, rfl, _, rfl, d, _, rfl, by rw [← hg z hm]; exact DGet.k (k := Sum.inr z) hd, _, _, rfl, rfl, cmw p1 (hb z hm) (by omega) (by decide) (by omega), rfl, some (V.str z), ?_⟩
      rw [take_snoc hz, List.map_append, prodI_append]
      show _ = [_, _, some (V.int (_ * (g z * 1))), _]
      rw [Int.mul_one]
      rfl
    · rintro σ H1 ⟨rfl, u, rfl⟩
      rw [List.length_map, List.take_length]
      exact ⟨_, rfl, k⟩
end
end E4

set_option Elab.async false
set_option linter.all false
set_option maxRecDepth 100000
set_option maxHeartbeats 1000000
/-! is_values, check_values, twos, cell_on -/
namespace E4
open PySem PySem.Spec PyProof.Rows L2
open C8 (Cal Mak Met InsC pe_c pe_mt pe_mt0 call_isC clsBody)
/-- a dict of whole numbers by texts -/
abbrev Vls := List (Str × Int)
def dI (l : Vls) : List (Key × V) := l.map fun x => (Sum.inr x.1, V.int x.2)
def getI (l : Vls) (z : Str) : Option Int := (l.find? fun x => decide (x.1 = z)).map (·.2)
def setI (l : Vls) (z : Str) (n : Int) : Vls := if (l.any fun x => decide (x.1 = z)) = true then l.map (fun x => if x.1 = z then (x.1, n) else x) else l ++ [(z, n)]
theorem valV_dI (z : Str) : ∀ l : Vls, valV (dI l) (Sum.inr z) = (getI l z).map V.int
  | [] => rfl
  | x :: l => by
    have ih := valV_dI z l
    unfold dI getI at ih ⊢
    rw [List.map_cons]
    by_cases e : x.1 = z
    · rw [valV_pos (by rw [e])]
      simp [e]
    · rw [valV_neg (by intro q; exact e (Sum.inr.inj q)), ih]
      simp [e]
theorem any_dI (z : Str) (l : Vls) : ((dI l).any fun kv => decide (kv.1 = Sum.inr z)) = l.any fun x => decide (x.1 = z) := by
  unfold dI
  rw [List.any_map]
  congr 1
  funext x
  simp
theorem putK_dI (l : Vls) (z : Str) (n : Int) : putK (dI l) (Sum.inr z) (V.int n) = dI (setI l z n) := by
  unfold putK setI
  rw [any_dI]
  split
  · unfold dI
    rw [List.map_map, List.map_map]
    refine List.map_congr_left fun x _ => ?_
    by_cases e : x.1 = z
    · simp [e]
    · simp [e]
  · unfold dI
    rw [List.map_append]
    rfl
theorem keys_set_new {l : Vls} {z : Str} {n : Int} (h : z ∉ l.map (·.1)) : setI l z n = l ++ [(z, n)] := by
  have : ¬ (l.any fun x => decide (x.1 = z)) = true := fun c => by
    obtain ⟨x, hx, e⟩ := List.any_eq_true.mp c
    exact h (List.mem_map.mpr ⟨x, hx, of_decide_eq_true e⟩)
  unfold setI
  rw [if_neg this]
theorem getI_isSome {l : Vls} {z : Str} (h : z ∈ l.map (·.1)) : ∃ n, getI l z = some n ∧ (z, n) ∈ l := by
  obtain ⟨x, hx, e⟩ := List.mem_map.mp h
  unfold getI
  cases c : l.find? fun x => decide (x.1 = z) with
  | none => exact absurd (decide_eq_true e) (by simpa using List.find?_eq_none.mp c x hx)
  | some y =>
    have h1 := List.find?_some c
    have h2 := List.mem_of_find?_eq_some c
    have h3 : y.1 = z := of_decide_eq_true h1
    exact ⟨y.2, rfl, by rw [← h3]; exact h2⟩
/-- good values -/
def VlsOk (l : Vls) : Prop := (∀ x ∈ l, LetOk x.1 ∧ x.2.natAbs < 2 ^ 400) ∧ l.length ≤ 2000
def spIsVals (K : PySem.W.Frag) : Sp := fun vs H Q _ => ∃ (d l : Addr) (vl : Vls) (xs : List Str), vs = [.ref d, .ref l] ∧ H d = some (.dK (dI vl)) ∧ VlsOk vl ∧ SqL K H l (xs.map V.str) ∧ xs.length ≤ 2000 ∧ (∀ x ∈ xs, x ∈ vl.map (·.1)) ∧ ∀ H', Same H H' → Q (.bl true) H'
section
variable {P : Program} {w : World} {K : PySem.W.Frag} {mg : Str → Option Value} {base : Heap} {C : Addr}
theorem len_dI (l : Vls) : (dI l).length = l.length := List.length_map ..
theorem scIsVals : FnScope ["values", "names", "name", "value"] ["values", "names"] (defScope sIsValues) := ⟨rfl, rfl, rfl, by decide +kernel, rfl, by decide +kernel, by decide +kernel⟩
theorem ok_isVals {f : Addr} {fd : FuncData} (F : Fun K "is_values" "is_values" sIsValues f fd) (B : Bl mg) (L : Cal P w K mg base 1 "is_letter" spIsLet []) (Wh : Cal P w K mg base 1 "is_whole" spWhole []) : FnOk P w K mg base CX0 2 f fd ["values", "names"] (spIsVals K) := by
  refine F.ok scIsVals (fun vs H Q E h => ?_) (fun cdv A outer s H vs Q E hr h => ?_)
  · obtain ⟨d, l, kvs, xs, rfl, _⟩ := h
    rfl
  · obtain ⟨d, l, vl, xs, rfl, hd, ⟨hv, hk⟩, hl, hx, hin, k⟩ := h
    have u1 := Nat.lt_of_le_of_lt (Nat.add_le_add_left (by decide : 1 ≤ 64) _) hr.units
    refine ⟨_, pss_cons (ps_if (pt_not (pt_val (pe_callB call_isi (by rfl) B.isi (by decide +kernel) (pa_cons (pv 0) (pa_cons (pe_bltn (v := .ty "dict") (by rfl) B.dict_ (by decide +kernel) rfl) pa_nil))))) (pss_one (ps_ret pe_bl)) pss_nil)
      (pss_cons (ps_if (pt_not (pt_val (pe_callB (cr_all rfl) (by rfl) B.all_ (by decide +kernel) (pa_cons (pe_lock (pe_lc (own := [("name", 2), ("value", 3)]) (g := gTup K 2 (gCons (gName 2) (gCons (gName 3) gNil))) (tt := tYes) (te := tAndV (tCall spIsLet [] C8.E0 (tCons (tVar 2) tNil)) (tCall spWhole [] C8.E0 (tCons (tVar 3) tNil))) rfl scIsVals.nd (pi_items (pv 0))
          (blkOk_by (own := [("name", 2), ("value", 3)]) (N := ["values", "names", "name", "value"]) (sc := defScope sIsValues) (by decide +kernel))
          (fun _ _ _ _ _ => pg_tup rfl (pgs_cons (pg_name (i := 2) scIsVals.nd rfl (Or.inl rfl)) (pgs_cons (pg_name (i := 3) scIsVals.nd rfl (Or.inl rfl)) pgs_nil))) (fun _ _ _ _ _ => pts_nil)
          (fun _ _ _ _ _ => by exact pe_and (pe_c L hr (by decide) rfl (pa_cons (pv 2) pa_nil)) (pe_one (pe_c Wh hr (by decide) rfl (pa_cons (pv 3) pa_nil)))))) pa_nil)))) (pss_one (ps_ret pe_bl)) pss_nil)
      (pss_one (ps_ret (pe_callB (cr_all rfl) (by rfl) B.all_ (by decide +kernel) (pa_cons (pe_lc (own := [("name", 2)]) (g := gName 2) (tt := tYes) (te := tDIn (tVar 2) (tVar 0)) rfl scIsVals.nd (pi_list (pv 1))
          (blkOk_by (own := [("name", 2)]) (N := ["values", "names", "name", "value"]) (sc := defScope sIsValues) (by decide +kernel))
          (fun _ _ _ _ _ => pg_name (i := 2) scIsVals.nd rfl (Or.inl rfl)) (fun _ _ _ _ _ => pts_nil) (fun _ _ _ _ _ => by exact pe_cmp (pc_din u1 (pv 2) (pv 0)))) pa_nil))))), ?_⟩
    refine ⟨_, rfl, _, _, _, _, true, rfl, .ty "dict", .base (.dK hd), kit_dd, true, rfl, iteF ?_⟩
    have sz : ∀ n : Nat, n ≤ 2000 → n < sizeLine := fun n h => by rw [sizeLine_eq]; omega
    refine ⟨d, .dK (dI vl), hd, trivial, fun od => ⟨_, rfl, d, od, dI vl, rfl, upd_same, fun D nD => ?_⟩⟩
    have h1 : (upd H d (.frz od (.dK (dI vl)))) d = some (.frz od (.dK (dI vl))) := upd_same
    have neD : D ≠ d := by rintro rfl; rw [upd_same] at nD; cases nD
    have back : ∀ H2, Same (upd H d (.frz od (.dK (dI vl)))) H2 → Same H (upd H2 d (.dK (dI vl))) := fun H2 S => same_back hd S
    generalize upd H d (.frz od (.dK (dI vl))) = H1 at h1 nD back ⊢
    refine lc_it walk_items (fun i H' => Same H1 H' ∧ H' D = some (.lst (List.replicate i (V.bl true)))) ⟨Same.upd nD, upd_same⟩ (fun i H' _ q => q.1 _ _ h1) ?_ ?_
    · rintro i x H2 H3 hi ⟨S, hD⟩ ⟨T, x1, y1, rfl, nT, rfl, e1, e2⟩
      rw [len_dI] at hi
      obtain ⟨kv, hkv⟩ : ∃ kv, vl[i]? = some kv := ⟨vl[i], List.getElem?_eq_getElem hi⟩
      obtain ⟨hz, _⟩ := hv kv (List.mem_of_getElem? hkv)
      have hkv2 : (dI vl)[i]? = some (Sum.inr kv.1, V.int kv.2) := by unfold dI; rw [List.getElem?_map, hkv]; rfl
      replace e1 : ((dI vl)[i]?.map fun kv => kV kv.1) = some x1 := e1
      replace e2 : (dI vl)[i]?.map Prod.snd = some y1 := e2
      rw [hkv2] at e1 e2
      obtain rfl : V.str kv.1 = x1 := Option.some.inj e1
      obtain rfl : V.int kv.2 = y1 := Option.some.inj e2
      have S2 : Same H2 (upd H2 T (.tup [.str kv.1, .int kv.2])) := Same.upd nT
      refine ⟨T, _, rfl, SqT.of upd_same, rfl, _, _, rfl, _, _, rfl, rfl, rfl, iteT (B := False) ?_⟩
      refine ⟨_, rfl, kv.1, rfl, hz, fun H4 S4 => ⟨true, rfl, iteT (B := False) ⟨_, rfl, kv.2, rfl, _, S4 _ _ (S2 _ _ hD), ?_, ?_, ?_⟩⟩⟩
      · rw [List.length_replicate]
        exact sz _ (by omega)
      · intro b o hb
        rw [upd_ne (ne_of_none hb nD)]
        exact S4 _ _ (S2 _ _ (S _ _ hb))
      · rw [upd_same, List.replicate_succ']
    · rintro H2 ⟨S, hD⟩
      refine ⟨S _ _ h1, D, List.replicate (dI vl).length true, rfl, SqL.of ?_, true, by rw [all_true], iteF ?_⟩
      · rw [upd_ne neD, List.map_replicate]
        exact hD
      · have S0 := back H2 S
        generalize upd H2 d (.dK (dI vl)) = H3 at S0 ⊢
        have hl3 := hl.same S0
        refine ⟨_, rfl, l, rfl, ⟨_, hl3⟩, fun D2 nD2 => ?_⟩
        refine lc_it (walk_list (xs := xs.map V.str)) (fun i H' => Same H3 H' ∧ H' D2 = some (.lst (List.replicate i (V.bl true)))) ⟨Same.upd nD2, upd_same⟩ (fun i H' _ q => hl3.same q.1) ?_ ?_
        · rintro i x H4 H5 hi ⟨S4, hD4⟩ ⟨rfl, hx2⟩
          rw [List.length_map] at hi
          rw [List.getElem?_map] at hx2
          obtain ⟨z, hz, rfl⟩ := Option.map_eq_some_iff.mp hx2
          obtain ⟨n, hn, _⟩ := getI_isSome (hin z (List.mem_of_getElem? hz))
          refine ⟨rfl, iteT (B := False) ⟨_, rfl, _, rfl, d, valV (dI vl) (Sum.inr z), rfl, DGet.k (k := Sum.inr z) (S4 _ _ (S0 _ _ hd)), _, hD4, ?_, ?_, ?_⟩⟩
          · rw [List.length_replicate]
            exact sz _ (by omega)
          · intro b o hb
            rw [upd_ne (ne_of_none hb nD2)]
            exact S4 _ _ hb
          · rw [upd_same, valV_dI, hn, List.replicate_succ']
            rfl
        · rintro H4 ⟨S4, hD4⟩
          refine ⟨D2, List.replicate xs.length true, rfl, SqL.of ?_, ?_⟩
          · rw [List.map_replicate]
            rw [List.length_map] at hD4
            exact hD4
          · rw [all_true]
            exact k H4 (S0.trans S4)
end
end E4

set_option Elab.async false
set_option linter.all false
set_option maxRecDepth 100000
set_option maxHeartbeats 1000000
/-! twos, cell_on -/
namespace E4
open PySem PySem.Spec PyProof.Rows L2
open C8 (Cal Mak Met InsC pe_c pe_mt pe_mt0 call_isC clsBody)
section
variable {P : Program} {w : World} {K : PySem.W.Frag} {mg : Str → Option Value} {base : Heap} {C : Addr}
end
end E4

set_option Elab.async false
set_option linter.all false
set_option maxRecDepth 100000
set_option maxHeartbeats 1000000
set_option exponentiation.threshold 500
/-! values_of_clash -/
namespace E4
open PySem PySem.Spec PyProof.Rows L2
open C8 (Cal Mak Met InsC pe_c pe_mt pe_mt0 call_isC clsBody)
section
variable {P : Program} {w : World} {K : PySem.W.Frag} {mg : Str → Option Value} {base : Heap} {C : Addr}
end
end E4

set_option Elab.async false
set_option linter.all false
set_option maxRecDepth 100000
set_option maxHeartbeats 1000000
set_option exponentiation.threshold 500
/-! clash -/
namespace E4
open PySem PySem.Spec PyProof.Rows L2
open C8 (Cal Mak Met InsC pe_c pe_mt pe_mt0 call_isC clsBody)
open LamX (Tabs ExtN TabB CodeO)
/-- the value of a letter -/
def gOf (vl : Vls) (z : Str) : Int := (getI vl z).getD 0
def AllV (p : Int → Prop) (l : Vls) : Prop := ∀ x ∈ l, p x.2
theorem AllV.set {p : Int → Prop} {l : Vls} {z : Str} {n : Int} (h : AllV p l) (hn : p n) : AllV p (setI l z n) := by
  unfold setI
  split
  · intro x hx
    obtain ⟨y, hy, rfl⟩ := List.mem_map.mp hx
    split
    · exact hn
    · exact h y hy
  · intro x hx
    rcases List.mem_append.mp hx with q | q
    · exact h x q
    · rw [List.mem_singleton.mp q]
      exact hn
theorem gOf_at {vl : Vls} {ks : List Str} {p : Int → Prop} (hk : vl.map (·.1) = ks) (ha : AllV p vl) {z : Str} (hz : z ∈ ks) : getI vl z = some (gOf vl z) ∧ p (gOf vl z) := by
  obtain ⟨n, hn, hm⟩ := getI_isSome (l := vl) (z := z) (by rw [hk]; exact hz)
  have e : gOf vl z = n := by unfold gOf; rw [hn]; rfl
  rw [e]
  exact ⟨hn, ha _ hm⟩
section
variable {P : Program} {w : World} {K : PySem.W.Frag} {mg : Str → Option Value} {base : Heap} {C : Addr}
end
end E4

set_option Elab.async false
set_option linter.all false
set_option maxRecDepth 100000
set_option maxHeartbeats 1000000
set_option exponentiation.threshold 500
/-! hole -/
namespace E4
open PySem PySem.Spec PyProof.Rows L2
open C8 (Cal Mak Met InsC pe_c pe_mt pe_mt0 call_isC clsBody)
open LamX (Tabs ExtN TabB CodeO)
theorem strOk_of {z : Str} (h : LetOk z) : PyData.strOk z = true := by
  unfold PyData.strOk
  rw [← Array.all_toList, List.all_eq_true]
  intro c hc
  have := (h.2.2 c hc).2
  exact decide_eq_true (by omega)
theorem canLay_strs (l : List Str) (h : ∀ z ∈ l, PyData.strOk z = true) : PyData.canLayAll0 (l.map PyData.str) = true := by
  induction l with
  | nil => rfl
  | cons b l ih => simpa [PyData.canLayAll0, PyData.canLay0] using ⟨h b (List.mem_cons.mpr (.inl rfl)), ih fun z hz => h z (List.mem_cons.mpr (.inr hz))⟩
theorem depth_strs (l : List Str) : PyData.depthAll (l.map PyData.str) = 0 := by
  induction l with
  | nil => rfl
  | cons b l ih =>
    show max (PyData.depth (.str b)) (PyData.depthAll (l.map PyData.str)) = 0
    rw [ih]
    rfl
theorem shaped_strs (l : List Str) (h : ∀ z ∈ l, PyData.strOk z = true) : SeqAt.shaped (.list (l.map PyData.str)) = true := by
  have h1 : PyData.canLay0 (.list (l.map PyData.str)) = true := by simpa [PyData.canLay0] using canLay_strs l h
  have h2 : PyData.depth (.list (l.map PyData.str)) ≤ 64 := by
    simp only [PyData.depth]
    rw [depth_strs]
    decide
  show (PyData.canLay0 _ && decide (PyData.depth _ ≤ 64)) = true
  rw [h1, decide_eq_true h2]
  rfl
theorem dp_strs {K : PySem.W.Frag} {H : Hp} (l : List Str) : DpAll K H (l.map V.str) (l.map PyData.str) := by
  induction l with
  | nil => exact .nil
  | cons b l ih => exact .cons (.str b) ih
theorem eqv_strs : ∀ xs ys : List Str, PyData.eqvAll (xs.map PyData.str) (ys.map PyData.str) = decide (xs = ys)
  | [], [] => rfl
  | [], y :: ys => by simp [PyData.eqvAll]
  | x :: xs, [] => by simp [PyData.eqvAll]
  | x :: xs, y :: ys => by
    rw [List.map_cons, List.map_cons]
    simp only [PyData.eqvAll, PyData.eqv]
    rw [eqv_strs xs ys]
    by_cases a : x = y
    · subst a; simp
    · simp [a]
theorem eqv_listS (xs ys : List Str) : PyData.eqv (.list (xs.map PyData.str)) (.list (ys.map PyData.str)) = decide (xs = ys) := by rw [← eqv_strs]; simp [PyData.eqv]
theorem leftOf_len : ∀ (o p : List Str), p.length ≤ (leftOf p o).length + o.length
  | [], p => Nat.le_refl _
  | z :: o, p => by
    have h := leftOf_len o (p.erase z)
    show p.length ≤ (leftOf (p.erase z) o).length + (o.length + 1)
    by_cases c : z ∈ p
    · rw [List.length_erase_of_mem c] at h
      omega
    · rw [List.erase_of_not_mem c] at h ⊢
      omega
section
variable {P : Program} {w : World} {K : PySem.W.Frag} {mg : Str → Option Value} {base : Heap} {C : Addr}
end
end E4

set_option Elab.async false
set_option linter.all false
set_option maxRecDepth 100000
set_option maxHeartbeats 1000000
/-! list(d.values()) -/
namespace L2
open PySem PySem.Spec PyProof.Rows
section
variable {X : Cx}
variable {o : Expr} {p pos apos mpos : Pos} {td : TE}
end
end L2

set_option Elab.async false
set_option linter.all false
set_option maxRecDepth 100000
set_option maxHeartbeats 1000000
/-! name = {k: v for ..} on one line, the name a local -/
namespace L2
open PySem PySem.Spec PyProof.Rows
section
variable {X : Cx}
end
end L2

set_option Elab.async false
set_option linter.all false
set_option maxRecDepth 100000
set_option maxHeartbeats 1000000
set_option exponentiation.threshold 5000
/-! cell_of -/
namespace E4
open PySem PySem.Spec PyProof.Rows L2
open C8 (Cal Mak Met InsC pe_c pe_mt pe_mt0 call_isC clsBody)
open LamX (Tabs ExtN TabB CodeO)
theorem prod_pos {g : Str → Int} : ∀ {l : List Str}, (∀ z ∈ l, 1 ≤ g z) → 1 ≤ prodI (l.map g)
  | [], _ => by show (1 : Int) ≤ 1; decide
  | z :: l, h => by
    have i1 := prod_pos (l := l) fun y hy => h y (List.mem_cons_of_mem _ hy)
    have a := h z List.mem_cons_self
    show 1 ≤ g z * prodI (l.map g)
    have := Int.mul_le_mul a i1 (by decide) (by omega)
    simpa using this
section
variable {P : Program} {w : World} {K : PySem.W.Frag} {mg : Str → Option Value} {base : Heap} {C : Addr}
end
end E4

set_option Elab.async false
set_option linter.all false
set_option maxRecDepth 100000
set_option maxHeartbeats 1000000
/-! Plain(rows), Plain(sides=rows); __eq__ -/
namespace L2
open PySem PySem.Spec PyProof.Rows
open C8 (Cal Mak Met InsC)
/-- C(k=v, ..): keywords alone -/
structure MakK (P : Program) (w : World) (K : PySem.W.Frag) (mg : Str → Option Value) (base : Heap) (k : Nat) (x : Str) (C : Addr) (sp : Sp) (ks : List Str) (gV : List V → List V → List V) : Prop where
  ex : ∃ (f : Addr) (fd : FuncData) (ps : List Str) (g : List Value → List Value → List Value), Mk K C f ∧ FnOk P w K mg base CX0 k f fd ps sp ∧ mg x = some (.ref C) ∧ KBn K fd ps 1 ks g gV
section
variable {X : Cx} {C : Addr} {x : Str} {p pos : Pos} {j k : Nat} {e : Expr} {es : List Expr} {t : TA}
/-- C(e): as it is told of __init__ -/
theorem pe_mk1 {sp : Sp} (c : Mak X.prog X.w X.K X.mg X.base k x C sp []) (hr : Room j X.A) (hk : k + 1 ≤ j) (hg : Gl X x) (ha : PA X (e :: es) t)
    (hdb : (x == ("__debug__" : Str)) = false := by decide) (hs : starEach (e :: es) X.env = (false, eval e X.env) :: starEach es X.env := by rfl) (hpl : (backTo pos (starEach es X.env)).any (·.1) = false := by rfl) :
    PE X (.Call (.Name x p) (e :: es) [] pos) (tMake C sp [] C8.E0 t) := by
  obtain ⟨f, fd, ps, ds, M, F, hm, b, d⟩ := c.ex
  refine ⟨fun pins s σ H Q I h => ?_⟩
  refine wpAny_Call_Name_kw (ld_glob I hg hm ?_ hdb)
  refine PySem.W.callWith_K (h₀ := X.base) I.ok.mod.kin M.kp (thn (ha.run pos pins s σ H _ I h) fun us s1 ⟨vs, H1, I1, r, q⟩ => ⟨I1.kIn, ?_⟩) hs hpl
  exact run_make (E := C8.E0) M F (hr.mono hk) b d pass0 I1 r fun y dx hy hdx ne => q y dx hy hdx ne
end
end L2
namespace E4
open PySem PySem.Spec PyProof.Rows L2
open C8 (Cal Mak Met InsC pe_c pe_mt pe_mt0 call_isC clsBody)
def sdD (x : Sd) : PyData := .tuple [.str x.1, .list (x.2.1.map PyData.str), .list (x.2.2.map PyData.str)]
theorem dp_sds {K : PySem.W.Frag} {H : Hp} {ts : List Addr} {xs : List Sd} (h : SdsAt H ts xs) : DpAll K H (ts.map V.ref) (xs.map sdD) := by
  unfold SdsAt at h
  induction h with
  | nil => exact .nil
  | cons r t ih =>
    obtain ⟨a, b, h1, h2, h3⟩ := r
    exact .cons (.tup (SqT.of h1) (.cons (.str _) (.cons (.lst (SqL.of h2) (dp_strs _)) (.cons (.lst (SqL.of h3) (dp_strs _)) .nil)))) ih
theorem canLay_sds : ∀ {xs : List Sd}, (∀ x ∈ xs, SdOk x) → PyData.canLayAll0 (xs.map sdD) = true
  | [], _ => rfl
  | x :: xs, h => by
    obtain ⟨h1, h2, h3, _, _⟩ := h x List.mem_cons_self
    have ih := canLay_sds (xs := xs) fun y hy => h y (List.mem_cons_of_mem _ hy)
    have c1 := canLay_strs x.2.1 fun z hz => strOk_of (h2 z hz)
    have c2 := canLay_strs x.2.2 fun z hz => strOk_of (h3 z hz)
    have c0 := strOk_of h1
    simp [sdD, PyData.canLayAll0, PyData.canLay0, c0, c1, c2, ih]
theorem depth_sds : ∀ xs : List Sd, PyData.depthAll (xs.map sdD) ≤ 3
  | [] => Nat.zero_le _
  | x :: xs => by
    have ih := depth_sds xs
    have d1 := depth_strs x.2.1
    have d2 := depth_strs x.2.2
    simp [sdD, PyData.depthAll, PyData.depth, d1, d2]
    try omega
theorem shaped_sds {xs : List Sd} (h : ∀ x ∈ xs, SdOk x) : SeqAt.shaped (.list (xs.map sdD)) = true := by
  have h1 : PyData.canLay0 (.list (xs.map sdD)) = true := by simpa [PyData.canLay0] using canLay_sds h
  have h2 : PyData.depth (.list (xs.map sdD)) ≤ 64 := by
    simp only [PyData.depth]
    have := depth_sds xs
    omega
  show (PyData.canLay0 _ && decide (PyData.depth _ ≤ 64)) = true
  rw [h1, decide_eq_true h2]
  rfl
/-- equal tables are equal -/
def spEq (C : Addr) : Sp := fun vs H Q _ => ∃ (a b : Addr) (ss : List Sd), vs = [.ref a, .ref b] ∧ PlAt C H a ss ∧ PlAt C H b ss ∧ SdsOk ss ∧ Q (.bl true) H
section
variable {P : Program} {w : World} {K : PySem.W.Frag} {mg : Str → Option Value} {base : Heap} {C : Addr}
theorem scEq : FnScope ["self", "other"] ["self", "other"] (defScope sEq) := ⟨rfl, rfl, rfl, by decide +kernel, rfl, by decide +kernel, by decide +kernel⟩
theorem ok_eq {f : Addr} {fd : FuncData} (F : Fun K "__eq__" "Plain.__eq__" sEq f fd) (B : Bl mg) (V : Cv K mg C) (T : Px P w K mg base C) : FnOk P w K mg base CX0 1 f fd ["self", "other"] (spEq C) := by
  refine F.ok scEq (fun vs H Q E h => ?_) (fun cdv A outer s H vs Q E hr h => ?_)
  · obtain ⟨a, b, ss, rfl, _⟩ := h
    rfl
  · obtain ⟨a, b, ss, rfl, ⟨dx, l, ts, ha, hl, hx⟩, ⟨dy, m, us, hb, hm, hy⟩, ok, k⟩ := h
    refine ⟨_, pss_one (ps_ret (pe_and (pe_callB (call_isC V.ins) (by rfl) B.isi (by decide +kernel) (pa_cons (pv 1) (pa_cons (pe_glob (v := .ref C) (by rfl) V.mgP rfl) pa_nil)))
      (pe_one (pe_cmpR (op_eqD hr.units) (pe_fld (pv 0) rfl) (pe_fld (pv 1) rfl) (by rfl))))), ?_⟩
    refine ⟨_, rfl, b, dy, _, rfl, hb, true, rfl, iteT (B := False) ?_⟩
    refine ⟨_, rfl, a, C, dx, _, _, rfl, ha, T.cl, T.na, rfl, _, rfl, b, C, dy, _, _, rfl, hb, T.cl, T.na, rfl, _, _, .lst (SqL.of hl) (dp_sds hx), .lst (SqL.of hm) (dp_sds hy), shaped_sds ok.ok, shaped_sds ok.ok, ?_⟩
    rw [SeqAt.eqv_refl _ (by simpa [PyData.canLay0] using canLay_sds ok.ok)]
    exact k
end
end E4

set_option Elab.async false
set_option linter.all false
set_option maxRecDepth 100000
set_option maxHeartbeats 1000000
/-! Sums of forms: the mathematics; {names: d[names] for names in d}. -/
namespace L2
open PySem PySem.Spec PyProof.Rows
def prodI : List Int → Int
  | [] => 1
  | x :: r => x * prodI r
theorem prodI_append : ∀ (l r : List Int), prodI (l ++ r) = prodI l * prodI r
  | [], r => by show prodI r = 1 * prodI r; omega
  | x :: l, r => by
    show x * prodI (l ++ r) = x * prodI l * prodI r
    rw [prodI_append l r, Int.mul_assoc]
theorem prodI_perm {l r : List Int} (h : l.Perm r) : prodI l = prodI r := by
  induction h with
  | nil => rfl
  | cons x _ ih => show x * _ = x * _; rw [ih]
  | swap x y l => show y * (x * prodI l) = x * (y * prodI l); rw [Int.mul_left_comm]
  | trans _ _ h1 h2 => rw [h1, h2]
def evM (σ : Str → Int) (m : MonR) : Int := prodI (m.map σ)
def ev (σ : Str → Int) : Fm → Rat
  | [] => 0
  | x :: r => x.2 * (evM σ x.1 : Rat) + ev σ r
theorem ev_neg (σ : Str → Int) : ∀ fm : Fm, ev σ (mapM (fun _ => true) (fun q => -q) fm) = -ev σ fm
  | [] => by show (0 : Rat) = -0; grind
  | x :: r => by
    have ih := ev_neg σ r
    unfold mapM at ih ⊢
    rw [List.filter_cons, if_pos rfl]
    show -x.2 * _ + ev σ _ = -(x.2 * _ + ev σ r)
    rw [ih]
    grind
theorem putM_hit {x : MonR × Rat} {r : Fm} {m : MonR} {q : Rat} (e : x.1 = m) (h : m ∉ r.map (·.1)) : putM (x :: r) m q = (m, q) :: r := by
  unfold putM
  rw [if_pos (by simp [e]), List.map_cons, if_pos e, e]
  congr 1
  have : ∀ l : Fm, m ∉ l.map (·.1) → l.map (fun y => if y.1 = m then (y.1, q) else y) = l := by
    intro l
    induction l with
    | nil => intro _; rfl
    | cons y l ih =>
      intro hl
      rw [List.map_cons] at hl
      rw [List.map_cons, if_neg fun z => hl (List.mem_cons.mpr (.inl z.symm)), ih fun z => hl (List.mem_cons.mpr (.inr z))]
  exact this r h
theorem putM_miss {x : MonR × Rat} {r : Fm} {m : MonR} {q : Rat} (e : ¬ x.1 = m) : putM (x :: r) m q = x :: putM r m q := by
  unfold putM
  rw [List.any_cons, decide_eq_false e, Bool.false_or]
  split
  · rw [List.map_cons, if_neg e]
  · rfl
theorem valM_hit {x : MonR × Rat} {r : Fm} {m : MonR} (e : x.1 = m) : valM (x :: r) m = some x.2 := by simp [valM, List.find?_cons, e]
theorem valM_miss {x : MonR × Rat} {r : Fm} {m : MonR} (e : ¬ x.1 = m) : valM (x :: r) m = valM r m := by simp [valM, List.find?_cons, e]
theorem keys_putM (m : MonR) (q : Rat) : ∀ fm : Fm, ∀ n ∈ (putM fm m q).map (·.1), n ∈ fm.map (·.1) ∨ n = m := by
  intro fm n hn
  unfold putM at hn
  split at hn
  · left
    rw [List.map_map] at hn
    obtain ⟨x, hx, e⟩ := List.mem_map.mp hn
    refine List.mem_map.mpr ⟨x, hx, ?_⟩
    by_cases c : x.1 = m
    · simpa [Function.comp, c] using e
    · simpa [Function.comp, c] using e
  · rw [List.map_append] at hn
    rcases List.mem_append.mp hn with h | h
    · exact .inl h
    · exact .inr (by simpa using h)
theorem nodup_putM (m : MonR) (q : Rat) : ∀ fm : Fm, (fm.map (·.1)).Nodup → ((putM fm m q).map (·.1)).Nodup
  | [], _ => by simp [putM]
  | x :: r, h => by
    rw [List.map_cons] at h
    obtain ⟨h1, h2⟩ := List.nodup_cons.mp h
    by_cases c : x.1 = m
    · rw [putM_hit c (by rw [← c]; exact h1), List.map_cons, ← c]
      exact List.nodup_cons.mpr ⟨h1, h2⟩
    · rw [putM_miss c, List.map_cons]
      refine List.nodup_cons.mpr ⟨fun z => ?_, nodup_putM m q r h2⟩
      rcases keys_putM m q r _ z with z | z
      · exact h1 z
      · exact c z
theorem mem_putM {m : MonR} {q : Rat} {fm : Fm} {x : MonR × Rat} (h : x ∈ putM fm m q) : x ∈ fm ∨ x = (m, q) := by
  unfold putM at h
  split at h
  · obtain ⟨y, hy, e⟩ := List.mem_map.mp h
    by_cases c : y.1 = m
    · rw [if_pos c] at e
      exact .inr (by rw [← e, c])
    · rw [if_neg c] at e
      exact .inl (e ▸ hy)
  · rcases List.mem_append.mp h with h | h
    · exact .inl h
    · exact .inr (by simpa using h)
theorem length_putM (m : MonR) (q : Rat) (fm : Fm) : (putM fm m q).length ≤ fm.length + 1 := by
  unfold putM
  split
  · rw [List.length_map]; omega
  · rw [List.length_append]; exact Nat.le_refl _
theorem mem_valM {m : MonR} {fm : Fm} {q : Rat} (h : valM fm m = some q) : (m, q) ∈ fm := by
  unfold valM at h
  obtain ⟨x, hx, e⟩ := Option.map_eq_some_iff.mp h
  have h1 := List.find?_some hx
  have h2 := List.mem_of_find?_eq_some hx
  have h3 : x = (m, q) := Prod.ext (of_decide_eq_true h1) e
  rwa [← h3]
/-- a term more -/
def add1 (acc : Fm) (x : MonR × Rat) : Fm := putM acc x.1 ((valM acc x.1).getD 0 + x.2)
def addTo (acc l : Fm) : Fm := l.foldl add1 acc
theorem addTo_snoc (acc l : Fm) (x : MonR × Rat) : addTo acc (l ++ [x]) = add1 (addTo acc l) x := by
  unfold addTo
  rw [List.foldl_append]
  rfl
theorem nodup_addTo : ∀ (l acc : Fm), (acc.map (·.1)).Nodup → ((addTo acc l).map (·.1)).Nodup
  | [], _, h => h
  | x :: l, acc, h => nodup_addTo l (add1 acc x) (nodup_putM _ _ _ h)
theorem length_addTo : ∀ (l acc : Fm), (addTo acc l).length ≤ acc.length + l.length
  | [], _ => Nat.le_refl _
  | x :: l, acc => by
    have h1 := length_addTo l (add1 acc x)
    have h2 : (add1 acc x).length ≤ acc.length + 1 := length_putM _ _ _
    rw [List.length_cons]
    show (addTo (add1 acc x) l).length ≤ _
    omega
theorem bq_add1 {D M N : Nat} {acc : Fm} {x : MonR × Rat} (h : ∀ y ∈ acc, Bq D M y.2) (hx : Bq D N x.2) : ∀ y ∈ add1 acc x, Bq D (M + N) y.2 := by
  intro y hy
  rcases mem_putM hy with hy | rfl
  · exact (h y hy).mono (Nat.le_add_right _ _)
  · rcases hv : valM acc x.1 with _ | q
    · refine Bq.mono (M := 0 + N) ?_ (by omega)
      rw [Option.getD_none]
      exact Bq.zero.add hx
    · rw [Option.getD_some]
      exact (h _ (mem_valM hv)).add hx
theorem bq_addTo {D N : Nat} : ∀ (l acc : Fm) (M : Nat), (∀ y ∈ acc, Bq D M y.2) → (∀ y ∈ l, Bq D N y.2) → ∀ y ∈ addTo acc l, Bq D (M + l.length * N) y.2
  | [], acc, M, h, _ => fun y hy => (h y hy).mono (Nat.le_add_right _ _)
  | x :: l, acc, M, h, hl => fun y hy => by
    have z := bq_addTo l (add1 acc x) (M + N) (bq_add1 h (hl x (List.mem_cons.mpr (.inl rfl)))) (fun y hy => hl y (List.mem_cons.mpr (.inr hy))) y hy
    refine z.mono ?_
    rw [List.length_cons, Nat.add_mul]
    omega
theorem keys_addTo : ∀ (l acc : Fm) (n : MonR), n ∈ (addTo acc l).map (·.1) → n ∈ acc.map (·.1) ∨ n ∈ l.map (·.1)
  | [], _, _, h => .inl h
  | x :: l, acc, n, h => by
    rcases keys_addTo l (add1 acc x) n h with h | h
    · rcases keys_putM _ _ _ _ h with h | h
      · exact .inl h
      · exact .inr (List.mem_cons.mpr (.inl h))
    · exact .inr (List.mem_cons.mpr (.inr h))
theorem take_addTo {acc l : Fm} {i : Nat} {x : MonR × Rat} (h : l[i]? = some x) : addTo acc (l.take (i + 1)) = add1 (addTo acc (l.take i)) x := by
  rw [take_snoc h, addTo_snoc]
end L2

set_option Elab.async false
set_option linter.all false
set_option maxRecDepth 100000
set_option maxHeartbeats 2000000
/-! Two dicts whose keys are tuples: ==. -/
namespace L2
open PySem PySem.Spec PyProof.Rows
section
variable {prog : Program} {w : World} {K : Type} [DecidableEq K] {knd : HeapKind prog w K} {A : Around} {E : Value → Shared → Prop} {s : Shared}
/-- what the other dict has to show for an entry: f tells whether it does -/
def ShowsH (knd : HeapKind prog w K) (A : Around) (s : Shared) (xb : List (K × Addr × Value)) (f : K → Bool) (x : K × Addr × Value) : Prop :=
  (atKey xb x.1 = none ∧ f x.1 = false) ∨ ∃ p, atKey xb x.1 = some p ∧ SeqAt.EqP prog w A s x.2.2 p.2 (f x.1)
theorem take_all_succ {α : Type} {l : List α} {i : Nat} {x : α} {f : α → Bool} (h : l[i]? = some x) : (l.take (i + 1)).all f = ((l.take i).all f && f x) := by
  rw [take_snoc h, List.all_append]
  simp
theorem all_stop {α : Type} {l : List α} {i : Nat} {x : α} {f : α → Bool} (h : l[i]? = some x) (hf : f x = false) : l.all f = false := by
  rw [List.all_eq_false]
  exact ⟨x, List.mem_of_getElem? h, by rw [hf]; exact Bool.false_ne_true⟩
theorem samePairsH {nm : String} {a b : Addr} {xa xb : List (K × Addr × Value)} {f : K → Bool} {Q : Bool → Shared → Prop} (ha : (a == sysModules) = false) (hb : (b == sysModules) = false) (hu : knd.room A)
    (da : s.heap.DictOfH knd a xa) (db : s.heap.DictOfH knd b xb) (hits : ∀ x ∈ xa, ShowsH knd A s xb f x) (h : Q (xa.length == xb.length && xa.all fun x => f x.1) s) :
    wpAny (model prog w) A (Builtin.Dict.samePairs nm a b) Q E s := by
  obtain ⟨oa, es, ep, hoa, _, hda, hea, hia, hna⟩ := da
  obtain ⟨ob, es', ep', hob, _, hdb, heb, hib, hnb⟩ := db
  have hla := size_of_entries hea
  have hlb := size_of_entries heb
  unfold Builtin.Dict.samePairs Builtin.Dict.showsAll
  rw [if_neg (show ¬ (a == sysModules) = true by rw [ha]; exact Bool.false_ne_true), if_neg (show ¬ (b == sysModules) = true by rw [hb]; exact Bool.false_ne_true)]
  refine wpAny_bind (wpAny_pure (wpAny_bind (wpAny_pure (wpAny_bind (wpAny_dictEntries hoa hda ?_)))))
  dsimp only
  refine wpAny_bind (wpAny_dictEntries hob hdb ?_)
  by_cases hsz : es.size = es'.size
  case neg =>
    rw [if_pos (by simpa using hsz)]
    have hbf : (xa.length == xb.length) = false := by rw [← hla, ← hlb]; simpa using hsz
    rw [hbf, Bool.false_and] at h
    exact wpAny_bind (wpAny_rule (wpAny_pure h))
  case pos =>
    have hbt : (xa.length == xb.length) = true := by rw [← hla, ← hlb]; simpa using hsz
    rw [hbt, Bool.true_and] at h
    rw [if_neg (by rw [hsz]; simp)]
    refine wpAny_bind (wpAny_dictEpoch hoa hda (wpAny_bind ?_))
    rw [Std.Legacy.Range.forIn_eq_forIn_range']
    simp only [Std.Legacy.Range.size, Nat.sub_zero, Nat.add_sub_cancel, Nat.div_one]
    refine wpAny_forIn_list _ (fun rest q s' => s' = s ∧ q = (none, ()) ∧ ∃ i, rest = List.range' i (es.size - i) ∧ i ≤ es.size ∧ ((xa.take i).all fun x => f x.1) = true) _ ?_ ?_ _ _ ⟨rfl, rfl, 0, by simp, Nat.zero_le _, rfl⟩
    · rintro j rest q s' ⟨rfl, rfl, i, hr, hi, pre⟩
      have hlt : i < es.size := by
        rcases Nat.lt_or_ge i es.size with z | z
        · exact z
        · rw [Nat.sub_eq_zero_of_le z] at hr; simp at hr
      obtain ⟨rfl, hrest⟩ : j = i ∧ rest = List.range' (i + 1) (es.size - (i + 1)) := by
        have e : es.size - i = (es.size - (i + 1)) + 1 := by omega
        rw [e, List.range'_succ] at hr
        injection hr with h1 h2
        exact ⟨h1, h2⟩
      have hlx : j < xa.length := by omega
      obtain ⟨⟨k, ad, v⟩, hx⟩ : ∃ x, xa[j]? = some x := ⟨_, List.getElem?_eq_getElem hlx⟩
      have hes : es[j]? = some (entryOfKey knd (k, ad, v)) := by rw [entry_at hea j, hx]; rfl
      refine wpAny_bind (wpAny_dictEntries hoa hda ?_)
      rw [hes]
      have hmem := List.mem_of_getElem? hx
      have stop : f k = false → Q false s' := fun e => by
        have z := all_stop (f := fun x : K × Addr × Value => f x.1) hx e
        rw [z] at h
        exact h
      show wpAny _ _ (holding [.ref ad, v] _ >>= _) _ _ _
      refine wpAny_bind (wpAny_holding (wpAny_bind (wpAny_dictFind_heap hu (hia _ hmem) hob hdb heb hib hnb (fun no => ?_) (fun i' p hp => ?_))))
      · have hn : atKey xb k = none := atKey_none_of_get no
        rcases hits _ hmem with ⟨_, er⟩ | ⟨p, hy, _⟩
        · refine wpAny_pure ?_
          show wpAny _ _ (if (!false) = true then _ else _) _ _ _
          rw [if_pos (by decide)]
          exact wpAny_pure (wpAny_pure (stop er))
        · rw [show atKey xb k = some p from hy] at hn
          cases hn
      · have hv := atKey_of_get hnb hp
        refine wpAny_bind (wpAny_dictEntries hob hdb ?_)
        rw [entry_at heb i', hp]
        rcases hits _ hmem with ⟨hn, _⟩ | ⟨p', hy, he⟩
        · rw [show atKey xb k = none from hn] at hv
          cases hv
        · rw [show atKey xb k = some p' from hy] at hv
          cases hv
          refine wpAny_holding (he _ _ ?_)
          cases ef : f k with
          | false =>
            show wpAny _ _ (if (!false) = true then _ else _) _ _ _
            rw [if_pos (by decide)]
            exact wpAny_pure (wpAny_pure (stop ef))
          | true =>
            show wpAny _ _ (if (!true) = true then _ else _) _ _ _
            rw [if_neg (by decide)]
            refine wpAny_bind (wpAny_dictEpoch hoa hda ?_)
            rw [if_neg (by simp)]
            refine wpAny_pure ⟨rfl, rfl, j + 1, hrest, hlt, ?_⟩
            rw [take_all_succ hx, pre]
            exact ef
    · rintro q s' ⟨rfl, rfl, i, hr, hi, pre⟩
      have hin : i = es.size := by
        rcases Nat.lt_or_ge i es.size with z | z
        · have e : es.size - i = (es.size - (i + 1)) + 1 := by omega
          rw [e, List.range'_succ] at hr
          cases hr
        · exact Nat.le_antisymm hi z
      refine wpAny_pure ?_
      rw [hin, hla, List.take_length] at pre
      rw [pre] at h
      exact h
theorem rcP_dictsH {a b : Addr} {xa xb : List (K × Addr × Value)} {f : K → Bool} (ha : (a == sysModules) = false) (hb : (b == sysModules) = false) (hu : A.units < cLine) (hk : knd.room A.in1)
    (da : s.heap.DictOfH knd a xa) (db : s.heap.DictOfH knd b xb) (hits : ∀ x ∈ xa, ShowsH knd A.in1 s xb f x) (E Q : Value → Shared → Prop) (h : Q (.bool (xa.length == xb.length && xa.all fun x => f x.1)) s) : wpAny (model prog w) A (richCompare .Eq (.ref a) (.ref b)) Q E s := by
  refine wpAny_richCompare_same_room (op := .Eq) da.typeIs db.typeIs PySem.F.slot_dict_eq (wpAny_call_entry PySem.F.slot_dict_eq da.typeIs PySem.F.entry_dict_eq ?_ (PySem.F.args_dict_eq_2 _ _)) hu
  show wpAny _ _ (Builtin.Dict.dictSlotArgs "__eq__" ⟨[.ref a, .ref b], []⟩ >>= _) _ _ s
  refine wpAny_bind ?_
  unfold Builtin.Dict.dictSlotArgs
  refine wpAny_bind (PySem.wpAny_notOrdered_dict da.typeIs ?_)
  show wpAny _ _ (pure (Value.ref a, Value.ref b)) _ _ s
  refine wpAny_pure (wpAny_bind (wpAny_isInstance (T := "dict") db.typeIs PySem.F.sub_dict_dict ?_))
  simp only [Bool.not_true, Bool.false_eq_true, if_false]
  refine wpAny_bind (wpAny_pure (wpAny_bind (wpAny_pure (wpAny_bind (samePairsH ha hb hk da db hits ?_)))))
  refine wpAny_pure ⟨_, rfl, ?_, ?_⟩
  · exact fun z => nomatch z
  · simpa using h
end
end L2

set_option Elab.async false
set_option linter.all false
set_option maxRecDepth 100000
set_option maxHeartbeats 2000000
/-! Two forms' dicts: ==. -/
namespace L2
open PySem PySem.Spec PyProof.Rows
/-- the same terms, whatever their order -/
def eqFm (a b : Fm) : Bool := a.length == b.length && a.all fun x => decide (valM b x.1 = valM a x.1)
def kQ (fm : Fm) (k : List Key) : Option Rat := (fm.find? fun x => decide (kS x.1 = k)).map (·.2)
theorem kQ_kS (fm : Fm) (m : MonR) : kQ fm (kS m) = valM fm m := by
  unfold kQ valM
  congr 1
  congr 1
  funext x
  by_cases c : x.1 = m
  · rw [decide_eq_true c, decide_eq_true (by rw [c])]
  · rw [decide_eq_false c, decide_eq_false fun e => c (kS_inj e)]
theorem dp_frac {K : PySem.W.Frag} {H : Hp} {a : Addr} {q : Rat} (h : SqT K H a (frac q)) : Dp K H (.ref a) (.tuple [.int q.num, .int (q.den : Int)]) := .tup h (.cons (.int _) (.cons (.int _) .nil))
theorem eqv_frac (p q : Rat) : PyData.eqv (.tuple [.int p.num, .int (p.den : Int)]) (.tuple [.int q.num, .int (q.den : Int)]) = decide (p = q) := by
  have e : PyData.eqv (.tuple [.int p.num, .int (p.den : Int)]) (.tuple [.int q.num, .int (q.den : Int)]) = (decide (p.num = q.num) && decide ((p.den : Int) = (q.den : Int))) := by
    simp [PyData.eqv, PyData.eqvAll]
    try rfl
  rw [e]
  by_cases c : p = q
  · subst c
    simp
  · rw [decide_eq_false c]
    by_cases h1 : p.num = q.num
    · have h2 : ¬ p.den = q.den := fun z => c (Rat.ext h1 z)
      rw [decide_eq_true h1, Bool.true_and]
      exact decide_eq_false fun z => h2 (Int.ofNat.inj z)
    · rw [decide_eq_false h1, Bool.false_and]
theorem fm_keys {K : PySem.W.Frag} {H : Hp} {ks : NAV} {fm : Fm} (r : FmKv K H ks fm) : ks.map (·.1) = (fm.map (·.1)).map kS := by
  unfold FmKv at r
  induction r with
  | nil => rfl
  | cons h t ih => rw [List.map_cons, List.map_cons, List.map_cons, ih, h.1]
theorem valM_at {fm : Fm} {i : Nat} {m : MonR} {q : Rat} (nd : (fm.map (·.1)).Nodup) (h : fm[i]? = some (m, q)) : valM fm m = some q := by
  induction fm generalizing i with
  | nil => cases h
  | cons x xs ih =>
    rw [List.map_cons, List.nodup_cons] at nd
    cases i with
    | zero =>
      cases h
      simp [valM, List.find?_cons]
    | succ j =>
      have hj : xs[j]? = some (m, q) := h
      have ne : ¬ x.1 = m := fun e => nd.1 (e ▸ List.mem_map.mpr ⟨(m, q), List.mem_of_getElem? hj, rfl⟩)
      have z : valM (x :: xs) m = valM xs m := by simp [valM, List.find?_cons, ne]
      rw [z]
      exact ih nd.2 hj
theorem nodup_of_map {α β : Type} (f : α → β) {l : List α} (h : (l.map f).Nodup) : l.Nodup := by
  induction l with
  | nil => exact List.nodup_nil
  | cons x xs ih =>
    rw [List.map_cons, List.nodup_cons] at h
    exact List.nodup_cons.mpr ⟨fun z => h.1 (List.mem_map.mpr ⟨x, z, rfl⟩), ih h.2⟩
theorem depth_frac (a b : Int) : PyData.depth (.tuple [.int a, .int b]) ≤ 8 := by
  simp [PyData.depth, PyData.depthAll] <;> first | omega | decide
def rEqFm (P : Program) (w : World) (K : PySem.W.Frag) : R2 := fun x y H Q => ∃ d e ks ls fa fb, x = .ref d ∧ y = .ref e ∧ H d = some (DfO P w d ks) ∧ H e = some (DfO P w e ls) ∧ FmKv K H ks fa ∧ FmKv K H ls fb ∧ Q (.bl (eqFm fa fb)) H
theorem op_eqFm {X : Cx} (hu : X.A.units + 64 < cLine) : OpR X (compareOp .Eq) (rEqFm X.prog X.w X.K) := by
  intro pins s σ H x y v u Q I rx ry h
  obtain ⟨d, e, ks, ls, fa, fb, rfl, rfl, hd, he, ha, hb, q⟩ := h
  obtain rfl : v = Value.ref d := rx
  obtain rfl : u = Value.ref e := ry
  have da := dn_of I (.inl hd) ha.keys.toN
  have db := dn_of I (.inl he) hb.keys.toN
  obtain ⟨_, y1, nd1, _⟩ := dn_get I (.inl hd)
  obtain ⟨_, y2, _⟩ := dn_get I (.inl he)
  have nda : (fa.map (·.1)).Nodup := by
    rw [List.map_map] at nd1
    have e1 : ks.map ((fun x : List Key × Addr × Value => x.1) ∘ toV) = ks.map (·.1) := rfl
    rw [e1, fm_keys ha] at nd1
    exact nodup_of_map _ nd1
  have la : (ks.map toV).length = fa.length := by rw [List.length_map, ha.length]
  have lb : (ls.map toV).length = fb.length := by rw [List.length_map, hb.length]
  refine rcP_dictsH (f := fun k => decide (kQ fb k = kQ fa k)) y1 y2 (Nat.lt_of_le_of_lt (Nat.le_add_right _ 64) hu) (show X.A.in1.units < cLine from ?_) da db (fun x hx => ?_) _ _ ?_
  · show X.A.units + 1 < cLine
    omega
  · obtain ⟨kv, hkv, rfl⟩ := List.mem_map.mp hx
    obtain ⟨i, hi⟩ := List.mem_iff_getElem?.mp hkv
    obtain ⟨m, p, b1, a1, hm, rfl, _, sa⟩ := ha.get hi
    have va : valM fa m = some p := valM_at nda hm
    rw [show toV (kS m, b1, a1) = (kS m, b1, Value.ref a1) from rfl]
    unfold ShowsH
    dsimp only
    rw [kQ_kS, kQ_kS, va, atKey_toV]
    rcases hb.val m with ⟨f1, f2⟩ | ⟨b2, a2, p2, f1, f2, sb⟩
    · rw [f1, f2]
      exact .inl ⟨rfl, rfl⟩
    · rw [f1, f2]
      refine .inr ⟨(b2, .ref a2), rfl, ?_⟩
      obtain ⟨as, r1⟩ := Dp.reads I _ _ (Value.ref a1) (dp_frac sa) rfl
      obtain ⟨bs, r2⟩ := Dp.reads I _ _ (Value.ref a2) (dp_frac sb) rfl
      have q := SeqAt.eqAt_reads _ _ X.A.in1 s _ _ _ _ r1 r2 (by rfl) (by rfl) (by show X.A.units + 1 + _ < cLine; have : min (PyData.depth (.tuple [.int p.num, .int (p.den : Int)])) (PyData.depth (.tuple [.int p2.num, .int (p2.den : Int)])) ≤ 8 := Nat.le_trans (Nat.min_le_left _ _) (depth_frac _ _); omega)
      rw [eqv_frac] at q
      have e9 : decide (p = p2) = decide (some p2 = some p) := by
        by_cases c2 : p = p2
        · rw [c2]; simp
        · rw [decide_eq_false c2, decide_eq_false fun z => c2 (Option.some.inj z).symm]
      rw [← e9]
      exact q.eqP
  · refine ⟨.bl _, H, I, rfl, ?_⟩
    have e : ((ks.map toV).length == (ls.map toV).length && (ks.map toV).all fun x => decide (kQ fb x.1 = kQ fa x.1)) = eqFm fa fb := by
      unfold eqFm
      rw [la, lb]
      congr 1
      have all2 : ∀ {l : NAV} {n : Fm}, FmKv X.K H l n → ((l.map toV).all fun x => decide (kQ fb x.1 = kQ fa x.1)) = n.all fun x => decide (valM fb x.1 = valM fa x.1) := by
        intro l n r
        unfold FmKv at r
        induction r with
        | nil => rfl
        | @cons p x ps xs h t ih =>
          rw [List.map_cons, List.all_cons, List.all_cons, ih]
          congr 1
          rw [show (toV p).1 = kS x.1 from h.1, kQ_kS, kQ_kS]
      exact all2 ha
    rw [e]
    exact q
end L2

set_option Elab.async false
set_option linter.all false
set_option maxRecDepth 100000
set_option maxHeartbeats 1000000
/-! a != b, both of one own class that has __eq__ alone. -/
namespace PySem.W
open PySem PySem.Calls PyProof.Rows
section
variable {prog : Program} {w : World} {A : Around} {E : Value → Shared → Prop} {s : Shared} {K : Frag} {x y C L f : Addr} {h₀ : Heap} {m : Str → Option Value} {ox : Obj} {od : Option Obj}
/-- what the class says of != -/
structure NoNe (K : Frag) (C f : Addr) : Prop where
  ne : findIn K (.ref C) "__ne__" = some (some (.builtin "object.__ne__"))
  eq : findIn K (.ref C) "__eq__" = some (some (.ref f))
  fn : isFn K (.ref f) = true
  sub : subIn K (.ref C) (.type "object") = some true
theorem check_ne (X : K.In s.heap) (I : InstAt s.heap x ox C od) (N : NoNe K C f) {b : Value} {Q : Unit → Shared → Prop} (hq : Q () s) : wpAny (model prog w) A (checkBuiltinCall "object.__ne__" ⟨[.ref x, b], []⟩) Q E s := by
  simp only [checkBuiltinCall, F.cmpKind_ne, F.cmpSplit_ne]
  refine wpAny_bind ?_
  unfold isInstance
  refine wpAny_bind (I.type.here ?_)
  refine (looks_subIn X N.sub).here ?_
  have ha := F.cmpArgs_ne (.ref x) b
  cases hsig : Manifest.signature? "object.__ne__" with
  | none => exact wpAny_pure hq
  | some sig =>
    simp only [argsOk, hsig] at ha
    have h2 : Bind.checkArgs "object.__ne__" sig ⟨[.ref x, b], []⟩ = pure () := ha
    show wpAny _ A (Bind.checkArgs "object.__ne__" sig ⟨[.ref x, b], []⟩) Q E _
    rw [h2]
    exact wpAny_pure hq
theorem entry_ne (X : K.In s.heap) (I : InstAt s.heap x ox C od) (N : NoNe K C f) (hu : A.units < cLine) {b : Value} {Q : Fin → Shared → Prop}
    (h : wpAny (model prog w) A (call (.ref f) [.ref x, b]) (fun v s' => ∃ r, v = .bool r ∧ Q (.done (.ret (.bool (!r)))) s') E s) : wpAny (model prog w) A (Builtin.«object.__ne__» ⟨[.ref x, b], []⟩) Q E s := by
  unfold Builtin.«object.__ne__»
  repeat (first
    | with_reducible refine wpAny_cRoomFor hu ?_
    | (refine wpAny_bind (m := callSpecialIfBound? (.ref x) (Str.ofString "__eq__") [b])
        (ifBound_K X I N.eq N.fn (wpAny_mono h (fun r s' hr => by
          obtain ⟨b, rfl, hq⟩ := hr
          repeat (first | exact hq | exact wpAny_pure hq | exact wpAny_truthy_bool hq | (refine wpAny_bind (m := truthy (.bool _)) (wpAny_truthy_bool ?_)) | wp_step)) fun _ _ e => e)))
    | wp_step)
theorem try_ne (X : K.In s.heap) (I : InstAt s.heap x ox C od) (N : NoNe K C f) (hu : A.units + 1 < cLine) {b : Value} {Q : Option Value → Shared → Prop}
    (h : wpAny (model prog w) A.in1 (call (.ref f) [.ref x, b]) (fun v s' => ∃ r, v = .bool r ∧ Q (some (.bool (!r))) s') E s) : wpAny (model prog w) A (tryCompare (.ref x) "__ne__" b) Q E s := by
  simp only [tryCompare]
  refine wpAny_bind ?_
  simp only [callSpecialIfBound?, bindSpecialIfBound?]
  refine wpAny_holding (wpAny_bind (wpAny_bind (wpAny_bind (I.type.here ((looks_findIn X N.ne).here ?_)))))
  simp only [F.cmp_object.ne.bind]
  refine wpAny_bind (wpAny_askSetting (wpAny_ite ?_))
  have back : wpAny (model prog w) A (call (.builtin "object.__ne__") [.ref x, b]) (fun v s' => ∃ r, v = .bool r ∧ Q (some (.bool r)) s') E s :=
    wpAny_call (codeAny_call_builtin F.cmp_object.ne.plain F.cmpEntry_ne (check_ne X I N (entry_ne (A := A.in1) X I N hu (wpAny_mono h (fun v s' hv => by
      obtain ⟨r, rfl, hq⟩ := hv
      exact ⟨r, rfl, _, rfl, hq⟩) fun _ _ e => e))))
  split
  · refine wpAny_bind (wpAny_pure (wpAny_pure (wpAny_bind (wpAny_mono back (fun v s' hv => ?_) fun _ _ e => e))))
    obtain ⟨r, rfl, hq⟩ := hv
    exact wpAny_pure (wpAny_pure hq)
  · refine wpAny_tryCatch (wpAny_bind (wpAny_pure (wpAny_pure (wpAny_bind (wpAny_mono back (fun v s' hv => ?_) fun _ _ e => e)))))
    obtain ⟨r, rfl, hq⟩ := hv
    exact wpAny_pure (wpAny_pure hq)
theorem ne_K {Q : Value → Shared → Prop} (hu : A.units + 1 < cLine) (X : K.In s.heap) (I : InstAt s.heap x ox C od) (hb : Looks (model prog w) s.heap (typeOf (.ref y)) (.ref C)) (N : NoNe K C f)
    (h : wpAny (model prog w) A.in1 (call (.ref f) [.ref x, .ref y]) (fun v s' => ∃ r, v = .bool r ∧ Q (.bool (!r)) s') E s) : wpAny (model prog w) A (richCompare .NotEq (.ref x) (.ref y)) Q E s := by
  unfold richCompare
  simp only [oneThing_ref]
  refine wpAny_holding (wpAny_bind (wpAny_cRoomFor (Nat.lt_of_succ_lt hu) ?_))
  rw [cmpInfo_NotEq]
  dsimp only
  refine wpAny_bind (I.type.here (wpAny_bind (hb.here ?_)))
  rw [show (Value.ref C != Value.ref C) = false from by simp]
  simp only [Bool.false_eq_true, if_false]
  refine wpAny_bind (wpAny_pure ?_)
  simp only [Bool.false_eq_true, if_false]
  refine wpAny_bind (try_ne X I N hu (wpAny_mono h (fun v s' hv => ?_) fun _ _ e => e))
  obtain ⟨r, rfl, hq⟩ := hv
  exact ⟨r, rfl, wpAny_pure hq⟩
end
end PySem.W

set_option Elab.async false
set_option linter.all false
set_option maxRecDepth 100000
set_option maxHeartbeats 1000000
/-! is_whole, right_side, number, without_noughts, over -/
namespace E2
open PySem PySem.Spec PyProof.Rows L2
open C8 (Cal Mak Met InsC pe_c pe_mt pe_mt0 call_isC clsBody)
/-- builtin names that the module leaves alone, and the class for isinstance -/
structure Bt (K : PySem.W.Frag) (mg : Str → Option Value) (C : Addr) : Prop where
  isi : mg "isinstance" = none
  int_ : mg "int" = none
  bool_ : mg "bool" = none
  ins : InsC K C
  ki : PySem.W.kitOne K (.ref C) (.type "int") = some false
  mgF : mg "Form" = some (.ref C)
def spWhole (C : Addr) : Sp := fun vs H Q _ => ∃ v, vs = [v] ∧ ((∃ i : Int, v = .int i ∧ Q (.bl true) H) ∨ ∃ a dx fs, v = .ref a ∧ H a = some (.ins C dx fs) ∧ Q (.bl false) H)
section
variable {P : Program} {w : World} {K : PySem.W.Frag} {mg : Str → Option Value} {base : Heap} {C : Addr}
theorem kit_ii : PySem.W.kitOne K (.type "int") (.type "int") = some true := by kernel_rfl
theorem kit_ib : PySem.W.kitOne K (.type "int") (.type "bool") = some false := by kernel_rfl
theorem scWhole : FnScope ["value"] ["value"] (defScope sIsWhole) := ⟨rfl, rfl, rfl, by decide +kernel, rfl, by decide +kernel, by decide +kernel⟩
theorem ok_whole {f : Addr} {fd : FuncData} (F : Fun K "is_whole" "is_whole" sIsWhole f fd) (B : Bt K mg C) : FnOk P w K mg base CX0 1 f fd ["value"] (spWhole C) := by
  refine F.ok scWhole (fun vs H Q E h => ?_) (fun cdv A outer s H vs Q E hr h => ?_)
  · obtain ⟨v, rfl, _⟩ := h
    rfl
  · obtain ⟨v, rfl, k⟩ := h
    refine ⟨_, pss_one (ps_ret (pe_and (pe_callB call_isi (by rfl) B.isi (by decide +kernel) (pa_cons (pv 0) (pa_cons (pe_bltn (v := .ty "int") (by rfl) B.int_ (by decide +kernel) rfl) pa_nil)))
      (pe_one (pe_not (pe_callB call_isi (by rfl) B.isi (by decide +kernel) (pa_cons (pv 0) (pa_cons (pe_bltn (v := .ty "bool") (by rfl) B.bool_ (by decide +kernel) rfl) pa_nil))))))), ?_⟩
    rcases k with ⟨i, rfl, q⟩ | ⟨a, dx, fs, rfl, ha, q⟩
    · refine ⟨_, rfl, _, _, _, _, true, rfl, .ty "int", .base (.int i), kit_ii, true, rfl, iteT (B := False) ?_⟩
      exact ⟨_, rfl, _, _, _, _, false, rfl, .ty "bool", .base (.int i), kit_ib, false, rfl, q⟩
    · refine ⟨_, rfl, _, _, _, _, false, rfl, .ty "int", .base (.ins ha B.ins.cl B.ins.ha B.ins.hn B.ins.htk B.ins.hm), B.ki, false, rfl, iteF ?_⟩
      exact q
def spWithout (P : Program) (w : World) (K : PySem.W.Frag) : Sp := fun vs H Q _ => ∃ d kvs fm, vs = [.ref d] ∧ H d = some (DfO P w d kvs) ∧ FmKv K H kvs fm ∧ (fm.map (·.1)).Nodup ∧ fm.length ≤ sizeLine ∧ ∀ H' D kvs', Same H H' → H D = none → H' D = some (DfO P w D kvs') → FmKv K H' kvs' (mapM (fun q => !decide (q = 0)) id fm) → Q (.ref D) H'
theorem scWithout : FnScope ["parts", "names", "worth"] ["parts"] (defScope sWithout) := ⟨rfl, rfl, rfl, by decide +kernel, rfl, by decide +kernel, by decide +kernel⟩
theorem ok_without {f : Addr} {fd : FuncData} (F : Fun K "without_noughts" "without_noughts" sWithout f fd) : FnOk P w K mg base CX0 1 f fd ["parts"] (spWithout P w K) := by
  refine F.ok scWithout (fun vs H Q E h => ?_) (fun cdv A outer s H vs Q E hr h => ?_)
  · obtain ⟨d, kvs, fm, rfl, _⟩ := h
    rfl
  · obtain ⟨d, kvs, fm, rfl, hd, hf, hn, hz, k⟩ := h
    refine ⟨_, pss_one (ps_ret (pe_lock (pe_dcN (own := [("names", 1), ("worth", 2)]) (g := gTup K 2 (gCons (gName 1) (gCons (gName 2) gNil))) (tt := tTest (tOp rNe (tOp (rIxT K) (tVar 2) (tC (.int 0))) (tC (.int 0)))) (tk := tVar 1) (tv := tVar 2) (Nat.lt_of_le_of_lt (Nat.le_add_right _ 64) hr.units) rfl scWithout.nd (pi_itemsN (pv 0))
      (blkOk_by (own := [("names", 1), ("worth", 2)]) (N := ["parts", "names", "worth"]) (sc := defScope sWithout) (by decide +kernel))
      ⟨fun _ _ _ _ _ => pg_tup rfl (pgs_cons (pg_name (i := 1) scWithout.nd rfl (Or.inl rfl)) (pgs_cons (pg_name (i := 2) scWithout.nd rfl (Or.inl rfl)) pgs_nil)),
       fun _ _ _ _ _ => pts_one (by exact pt_cmpR op_ne (pe_ix ix_tup (pv 2) pe_int (fun _ _ => rfl)) pe_int (nomark _)), fun _ _ _ _ _ => pv 1, fun _ _ _ _ _ => pv 2⟩))), ?_⟩
    refine ret_of (lock_items (p := fun q => !decide (q = 0)) (f := id) hd hf hn hz (fun od R h => ⟨_, rfl, h⟩) ?_ fun H' D kvs' S nD hD kv => k H' D kvs' S nD hD kv)
    intro H1 lk i m q H' T b a put skip hm S hT hb sa hput hskip
    refine ⟨T, _, rfl, SqT.of hT, rfl, _, _, rfl, _, _, rfl, rfl, rfl, ?_⟩
    have e : (!decide (V.int q.num = V.int 0)) = (!decide (q = 0)) := by
      rw [dec_int]
      congr 1
      by_cases h : q = 0
      · rw [decide_eq_true h]
        exact beq_iff_eq.mpr (Rat.num_eq_zero.mpr h)
      · rw [decide_eq_false h]
        exact beq_eq_false_iff_ne.mpr fun z => h (Rat.num_eq_zero.mp z)
    refine ⟨_, rfl, a, _, 0, _, rfl, rfl, sa, rfl, rfl, !decide (q = 0), congrArg V.bl e, ?_⟩
    cases hc : (!decide (q = 0)) with
    | true => exact iteT (B := skip H') ⟨_, rfl, _, rfl, hput hc H' b a (Same.refl H') hb sa⟩
    | false => exact iteF (hskip hc H' (Same.refl H'))
/-- the coefficients that the fractions' arithmetic takes -/
def Sm (fm : Fm) : Prop := ∀ x ∈ fm, x.2.num.natAbs < 2 ^ 400000 ∧ x.2.den < 2 ^ 4000
end
end E2

set_option Elab.async false
set_option linter.all false
set_option maxRecDepth 100000
set_option maxHeartbeats 1000000
/-! a == b, a != b of two forms -/
namespace L2
open PySem PySem.Spec PyProof.Rows
open C8 (Cal Mak Met InsC)
section
variable {X : Cx}
/-- an around where a def of this level may be called -/
structure SubA (X : Cx) (k : Nat) (A : Around) : Prop where
  room : Room k A
  fr : A.frames = X.A.frames
/-- a def called where the around is deeper -/
theorem run_sub {A : Around} {k : Nat} {f : Addr} {fd : FuncData} {ps : List Str} {sp : Sp} {pins : List (Addr × Obj)} {σ : L2.St} {H : Hp} {s : Shared} {Q : VK} {us : List Value} {vs : List V} (sb : SubA X k A) (F : FnOk X.prog X.w X.K X.mg X.base CX0 k f fd ps sp) (hb : Binds X.K fd ps [])
    (I : Inv X pins σ H s) (r : Vals vs us) (hsp : sp vs H Q E0) : wpAny (model X.prog X.w) A (call (.ref f) us) (EP X pins σ Q) X.xe s := by
  have e0 : Env0 X.prog X.w X.K X.mg X.base A X.stack s H := by
    have e := I.env0
    exact ⟨by rw [sb.fr]; exact e.frames, e.mod, e.bs, e.bsz, e.funs, e.frf, e.hok, e.bare⟩
  have hl := F.len _ _ _ _ hsp
  have hlu : us.length = ps.length := by rw [← r.length]; exact hl
  refine wpAny_call (codeAny_mono (F.run A X.stack s H ⟨us, []⟩ us vs _ E0 sb.room e0 (by
    have := hb s us I.kIn (by simpa using hlu)
    simpa using this) r hsp) fun r s' hq => ?_)
  cases r with
  | error e => exact pass0 pins σ H s e s' I hq
  | ok fl =>
    cases fl with
    | ret w =>
      obtain ⟨z, H', I', rz, q⟩ := I.after hq
      exact ⟨z, H', I', rz, q⟩
    | next => exact False.elim hq
    | brk => exact False.elim hq
    | cont => exact False.elim hq
end
def spEqF (P : Program) (w : World) (K : PySem.W.Frag) (C : Addr) : Sp := fun vs H Q _ => ∃ a b fa fb, vs = [.ref a, .ref b] ∧ FmAt P w K C H a fa ∧ FmAt P w K C H b fb ∧ Q (.bl (eqFm fa fb)) H
/-- what == and != of two forms lean on -/
structure EqM (P : Program) (w : World) (K : PySem.W.Frag) (mg : Str → Option Value) (base : Heap) (k : Nat) (C : Addr) : Prop where
  ex : ∃ (f : Addr) (fd : FuncData) (ps : List Str), PySem.W.NoNe K C f ∧ FnOk P w K mg base CX0 k f fd ps (spEqF P w K C) ∧ Binds K fd ps []
section
variable {X : Cx} {C : Addr} {k j : Nat}
end
end L2
namespace E2
open PySem PySem.Spec PyProof.Rows L2
open C8 (Cal Mak Met InsC pe_c pe_mt pe_mt0 call_isC clsBody)
abbrev sEq : Stmt := meth 5
section
variable {P : Program} {w : World} {K : PySem.W.Frag} {mg : Str → Option Value} {base : Heap} {C : Addr}
theorem scEq : FnScope ["self", "other"] ["self", "other"] (defScope sEq) := ⟨rfl, rfl, rfl, by decide +kernel, rfl, by decide +kernel, by decide +kernel⟩
theorem ok_eq {f : Addr} {fd : FuncData} (F : Fun K "__eq__" "Form.__eq__" sEq f fd) (T : Fx P w K mg base C) (B : Bt K mg C) : FnOk P w K mg base CX0 1 f fd ["self", "other"] (spEqF P w K C) := by
  refine F.ok scEq (fun vs H Q E h => ?_) (fun cdv A outer s H vs Q E hr h => ?_)
  · obtain ⟨a, b, fa, fb, rfl, _⟩ := h
    rfl
  · obtain ⟨a, b, fa, fb, rfl, ⟨dx, d, kvs, ha, hd, hf⟩, ⟨dy, e, kvs2, hb, he, hf2⟩, k⟩ := h
    refine ⟨_, pss_one (ps_ret (pe_and (pe_callB (call_isC B.ins) (by rfl) B.isi (by decide +kernel) (pa_cons (pv 1) (pa_cons (pe_glob (v := .ref C) (by rfl) B.mgF rfl) pa_nil))) (pe_one (pe_cmpR (op_eqFm hr.units) (pe_fld (pv 0) rfl) (pe_fld (pv 1) rfl) (nomark _))))), ?_⟩
    exact ⟨_, rfl, b, dy, _, rfl, hb, true, rfl, iteT (B := False) ⟨_, rfl, a, C, dx, _, _, rfl, ha, T.cl, T.na, rfl, _, rfl, b, C, dy, _, _, rfl, hb, T.cl, T.na, rfl, d, e, kvs, kvs2, fa, fb, rfl, rfl, hd, he, hf, hf2, k⟩⟩
end
end E2

set_option Elab.async false
set_option linter.all false
set_option maxRecDepth 100000
set_option maxHeartbeats 1000000
/-! a def called beneath a comparison -/
namespace L2
open PySem PySem.Spec PyProof.Rows
section
variable {X : Cx}
end

end L2

set_option Elab.async false
set_option linter.all false
set_option maxRecDepth 100000
set_option maxHeartbeats 1000000
/-! a != b, tuples whose items are equal in this program and world (dicts among them) -/
namespace L2
open PySem PySem.Spec PyProof.Rows
open AutoSeq1 (wpAny_loadPart')
def EqIn (prog : Program) (w : World) (A : Around) (s : Shared) (x y : Value) : Prop := ∀ (E : Value → Shared → Prop) (Q : Bool → Shared → Prop), Q true s → wpAny (model prog w) A (eqBool x y) Q E s
theorem EqIn.of {prog : Program} {w : World} {A : Around} {s : Shared} {x y : Value} (h : SeqAt.EqAt A s x y true) : EqIn prog w A s x y := fun E Q q => h prog w E Q q
end L2

set_option Elab.async false
set_option linter.all false
set_option maxRecDepth 100000
set_option maxHeartbeats 1000000
/-! a != b: tuples of data and of dicts, the items equal one by one -/
namespace L2
open PySem PySem.Spec PyProof.Rows
/-- equal data, or dicts with equal entries -/
inductive SamV (K : PySem.W.Frag) (H : Hp) : V → V → Prop where
  | dat {x y : V} {d : PyData} (hx : Dp K H x d) (hy : Dp K H y d) (hl : PyData.canLay0 d = true) (hd : PyData.depth d ≤ 16) : SamV K H x y
  | dict {a b : Addr} {ks ls : List (Key × V)} (ha : H a = some (.dK ks)) (hb : H b = some (.dK ls)) (hn : ks.length = ls.length) (hp : ∀ p ∈ ks, valV ls p.1 = some p.2 ∧ flatB p.2 = true) : SamV K H (.ref a) (.ref b)
section
variable {X : Cx}
end
end L2

set_option Elab.async false
set_option linter.all false
set_option maxRecDepth 100000
set_option maxHeartbeats 1000000
/-! a != b, two equal tables -/
namespace E4
open PySem PySem.Spec PyProof.Rows L2
open C8 (Cal Mak Met InsC pe_c pe_mt pe_mt0 call_isC clsBody)
/-- what != of two tables leans on -/
structure EqP (P : Program) (w : World) (K : PySem.W.Frag) (mg : Str → Option Value) (base : Heap) (k : Nat) (C : Addr) : Prop where
  ex : ∃ (f : Addr) (fd : FuncData) (ps : List Str), PySem.W.NoNe K C f ∧ FnOk P w K mg base CX0 k f fd ps (spEq C) ∧ Binds K fd ps []
def rNeP (C : Addr) : R2 := fun x y H Q => ∃ a b ss, x = .ref a ∧ y = .ref b ∧ PlAt C H a ss ∧ PlAt C H b ss ∧ SdsOk ss ∧ Q (.bl false) H
theorem op_neP {X : Cx} {C : Addr} {k j : Nat} (O : EqP X.prog X.w X.K X.mg X.base k C) (hr : Room j X.A) (hk : k + 1 ≤ j) : OpR X (compareOp .NotEq) (rNeP C) := by
  obtain ⟨f, fd, ps, N, F, hb⟩ := O.ex
  intro pins s σ H x y v u Q I rx ry h
  obtain ⟨a, b, ss, rfl, rfl, ha, hb2, ok, q⟩ := h
  obtain rfl : v = Value.ref a := rx
  obtain rfl : u = Value.ref b := ry
  obtain ⟨dx, l, ts, ea, _⟩ := id ha
  obtain ⟨dy, m, us, eb, _⟩ := id hb2
  obtain ⟨ox, od, J⟩ := inst_of I ea
  obtain ⟨oy, oe, J2⟩ := inst_of I eb
  have hrk : Room (k + 1) X.A := hr.mono hk
  have sb : SubA X k X.A.in1 := ⟨hrk.in1, rfl⟩
  refine PySem.W.ne_K (A := X.A) (Nat.lt_of_le_of_lt (Nat.add_le_add_left (by decide : 1 ≤ 64) _) hrk.units) I.kIn J J2.type N ?_
  refine thn (run_sub (Q := fun v H' => v = .bl true ∧ H' = H) (vs := [V.ref a, V.ref b]) sb F hb I (.cons rfl (.cons rfl .nil)) ⟨a, b, ss, rfl, ha, hb2, ok, rfl, rfl⟩) fun r s' z => ?_
  obtain ⟨z, H', I', rz, rfl, rfl⟩ := z
  obtain rfl : r = Value.bool true := rz
  exact ⟨true, rfl, .bl false, H', I', rfl, q⟩
end E4

set_option Elab.async false
set_option linter.all false
set_option maxRecDepth 100000
set_option maxHeartbeats 1000000
/-! the draws of stage 3's laws: _law_purse, _law_mixed, _law_draw -/
namespace E3
open PySem PySem.Spec PyProof.Rows L2
open C8 (Cal Mak Met InsC pe_c pe_mt pe_mt0 call_isC clsBody)
def top (i : Nat) : Stmt := PySem.Challenge.pw_cellplaces_k61_whole_jumps.main.body.getD i (.Pass ⟨0, 0, 0, 0⟩)
abbrev sPurse : Stmt := top 38
abbrev sMixed : Stmt := top 39
abbrev sDraw : Stmt := top 40
abbrev sLaw : Stmt := top 57
structure Bt4 (mg : Str → Option Value) : Prop where
  sum_ : mg "sum" = none
  max_ : mg "max" = none
  rng_ : mg "range" = none
  len_ : mg "len" = none
/-- a purse, with so many draws left -/
def PurseAt (H : Hp) (a : Addr) (n : Nat) : Prop := ∃ p0 p1 p2 : Int, H a = some (.lst [.int p0, .int p1, .int p2]) ∧ 0 ≤ p0 ∧ p0 < 10 ^ 480 ∧ 0 ≤ p1 ∧ p1 < 2 ^ 31 ∧ 0 ≤ p2 ∧ p2 + n ≤ 2 ^ 60
theorem PurseAt.same {H H' : Hp} {a : Addr} {n : Nat} (h : PurseAt H a n) (S : Same H H') : PurseAt H' a n :=
  let ⟨p0, p1, p2, h1, h2⟩ := h
  ⟨p0, p1, p2, S _ _ h1, h2⟩
theorem PurseAt.less {H : Hp} {a : Addr} {n m : Nat} (h : PurseAt H a n) (l : m ≤ n) : PurseAt H a m :=
  let ⟨p0, p1, p2, h1, h2, h3, h4, h5, h6, h7⟩ := h
  ⟨p0, p1, p2, h1, h2, h3, h4, h5, h6, by omega⟩
def spPurse (K : PySem.W.Frag) : Sp := fun vs H Q _ => ∃ (sc : Addr) (i : Int) (ns : List Int), vs = [.ref sc, .int i] ∧ SqL K H sc (ns.map V.int) ∧ 0 ≤ i ∧ i < 100 ∧ ∀ H' p, Same H H' → H p = none → PurseAt H' p (2 ^ 59) → Q (.ref p) H'
def spMixed : Sp := fun vs H Q _ => ∃ a b : Int, vs = [.int a, .int b] ∧ 0 ≤ a ∧ a < 2 ^ 31 ∧ 0 ≤ b ∧ b < 2 ^ 61 ∧ ∀ r : Int, 0 ≤ r → r < 2147483587 → Q (.int r) H
def spDraw : Sp := fun vs H Q _ => ∃ (a : Addr) (many : Int) (n : Nat), vs = [.ref a, .int many] ∧ PurseAt H a (n + 4) ∧ 1 ≤ many ∧ many < 2 ^ 100 ∧ ∀ r H', 0 ≤ r → r < many → PurseAt H' a n → SameB a H H' → Q (.int r) H'
theorem bits_100 {m : Int} (h0 : 1 ≤ m) (h : m < 2 ^ 100) : Builtin.Int.intBits m ≤ 100 := by
  unfold Builtin.Int.intBits
  rw [if_neg (by intro e; have := eq_of_beq e; omega)]
  have h1 : m.natAbs < 2 ^ 100 := by
    have e : ((m.natAbs : Nat) : Int) = m := Int.natAbs_of_nonneg (by omega)
    have : ((m.natAbs : Nat) : Int) < ((2 ^ 100 : Nat) : Int) := by rw [e]; exact_mod_cast h
    exact Int.ofNat_lt.mp this
  have := PySem.Flt.log2_lt_of (by decide) h1
  omega
section
variable {P : Program} {w : World} {K : PySem.W.Frag} {mg : Str → Option Value} {base : Heap}
theorem scPurse : FnScope ["_law_script", "_law_at", "_law_cell"] ["_law_script", "_law_at"] (defScope sPurse) := ⟨rfl, rfl, rfl, by decide +kernel, rfl, by decide +kernel, by decide +kernel⟩
theorem ok_purse {f : Addr} {fd : FuncData} (F : Fun K "_law_purse" "_law_purse" sPurse f fd) (B : Bt4 mg) : FnOk P w K mg base CX0 1 f fd ["_law_script", "_law_at"] (spPurse K) := by
  refine F.ok scPurse (fun vs H Q E h => ?_) (fun cdv A outer s H vs Q E hr h => ?_)
  · obtain ⟨sc, i, ns, rfl, _⟩ := h
    rfl
  · obtain ⟨sc, i, ns, rfl, hs, i0, i1, k⟩ := h
    refine ⟨_, pss_cons (ps_set (i := 2) scPurse.nd rfl (Or.inl rfl) (pe_callB (cr_sum rfl) (by rfl) B.sum_ (by decide +kernel) (pa_cons (pe_slice sl_listS (pv 0) (po_some (pv 1)) (po_some (pe_op op_add (pv 1) pe_int))) pa_nil)))
      (pss_one (ps_ret (pe_lstS (pa_cons (pe_op op_mod (pe_callB (call_max2 rfl) (by rfl) B.max_ (by decide +kernel) (pa_cons (pe_op op_sub (pv 2) (pe_op op_pow pe_int pe_int)) (pa_cons pe_int pa_nil))) (pe_op op_powX (pe_op op_pow pe_int pe_int) pe_int))
        (pa_cons (pe_op op_mod (pv 2) pe_int) (pa_cons (pe_op op_mul pe_int (pv 1)) pa_nil)))))), ?_⟩
    obtain ⟨ms, hms⟩ := cut_ints ns (some i) (some (i + 1))
    refine ⟨_, rfl, _, rfl, i, rfl, _, rfl, i, 1, rfl, rfl, i + 1, rfl, sc, _, rfl, hs, fun pc H1 S1 n1 h1 => ?_⟩
    rw [hms] at h1
    refine ⟨pc, ms, rfl, SqL.of h1, ?_⟩
    have c1 : CPow 10 18 := ⟨by decide, by decide, by decide⟩
    have c2 : CPow 10 60 := ⟨by decide, by decide, by decide⟩
    have c3 : CPowX ((10 : Int) ^ (60 : Int).toNat) 8 := ⟨by decide, by decide +kernel⟩
    refine ⟨_, rfl, 10, 18, rfl, rfl, c1, _, _, rfl, rfl, _, _, rfl, ?_⟩
    refine ⟨10, 60, rfl, rfl, c2, _, 8, rfl, rfl, c3, _, _, rfl, rfl, (show (0 : Int) < ((10 : Int) ^ (60 : Int).toNat) ^ (8 : Int).toNat by decide +kernel), ?_⟩
    refine ⟨_, rfl, _, _, rfl, rfl, (show (0 : Int) < 2147483629 by decide), _, rfl, _, _, rfl, rfl, .inl (by constructor <;> decide), (by show 3 ≤ sizeLine; decide), fun p H2 S2 np hp => ?_⟩
    refine k H2 p (S1.trans S2) (S1.free np) ⟨_, _, _, hp, Int.emod_nonneg _ (by decide +kernel), ?_, Int.emod_nonneg _ (by decide), ?_, by omega, by omega⟩
    · have e : ((10 : Int) ^ (60 : Int).toNat) ^ (8 : Int).toNat = 10 ^ 480 := by decide +kernel
      rw [e]
      exact Int.emod_lt_of_pos _ (by decide +kernel)
    · exact Int.lt_trans (Int.emod_lt_of_pos _ (by decide)) (by decide)
theorem scMixed : FnScope ["_law_seed", "_law_step", "_law_found"] ["_law_seed", "_law_step"] (defScope sMixed) := ⟨rfl, rfl, rfl, by decide +kernel, rfl, by decide +kernel, by decide +kernel⟩
theorem ok_mixed {f : Addr} {fd : FuncData} (F : Fun K "_law_mixed" "_law_mixed" sMixed f fd) : FnOk P w K mg base CX0 1 f fd ["_law_seed", "_law_step"] spMixed := by
  refine F.ok scMixed (fun vs H Q E h => ?_) (fun cdv A outer s H vs Q E hr h => ?_)
  · obtain ⟨a, b, rfl, _⟩ := h
    rfl
  · obtain ⟨a, b, rfl, a0, a1, b0, b1, k⟩ := h
    refine ⟨_, pss_cons (ps_set (i := 2) scMixed.nd rfl (Or.inl rfl) (pe_op op_mod (pe_op op_add (pe_op op_add (pe_op op_mul (pv 0) pe_int) (pe_op op_mul (pe_op op_mul pe_int (pv 1)) (pv 1))) (pv 1)) pe_int))
      (pss_cons (ps_set (i := 2) scMixed.nd rfl (Or.inl rfl) (pe_op op_mod (pe_op op_add (pe_op op_mul (pv 2) (pv 2)) pe_int) pe_int))
      (pss_one (ps_ret (pe_op op_mod (pe_op op_mul (pv 2) pe_int) pe_int)))), ?_⟩
    refine ⟨_, rfl, _, _, rfl, rfl, .inr (by constructor <;> decide), _, rfl, _, _, rfl, rfl, .inl (by constructor <;> decide), _, rfl, _, _, rfl, rfl, .inr ⟨by omega, by omega⟩, _, _, rfl, rfl, _, rfl, _, _, rfl, rfl, _, _, rfl, rfl, (show (0 : Int) < 2147483647 by decide), ?_⟩
    generalize hm : (a * 69069 + 104729 * b * b + b) % 2147483647 = m
    have m0 : 0 ≤ m := hm ▸ Int.emod_nonneg _ (by decide)
    have m1 : m < 2147483647 := hm ▸ Int.emod_lt_of_pos _ (by decide)
    refine ⟨_, rfl, _, rfl, _, _, rfl, rfl, .inr ⟨by omega, by omega⟩, _, _, rfl, rfl, _, _, rfl, rfl, (show (0 : Int) < 2147483629 by decide), ?_⟩
    refine ⟨_, rfl, _, _, rfl, rfl, .inr (by constructor <;> decide), _, _, rfl, rfl, (show (0 : Int) < 2147483587 by decide), ?_⟩
    exact k _ (Int.emod_nonneg _ (by decide)) (Int.emod_lt_of_pos _ (by decide))
theorem scDraw : FnScope ["_law_purse_here", "_law_many", "_law_drawn", "_law_found", "_law_piece"] ["_law_purse_here", "_law_many"] (defScope sDraw) := ⟨rfl, rfl, rfl, by decide +kernel, rfl, by decide +kernel, by decide +kernel⟩
theorem ok_draw {f : Addr} {fd : FuncData} (F : Fun K "_law_draw" "_law_draw" sDraw f fd) (B : Bt4 mg) (M : Cal P w K mg base 1 "_law_mixed" spMixed []) : FnOk P w K mg base CX0 2 f fd ["_law_purse_here", "_law_many"] spDraw := by
  refine F.ok scDraw (fun vs H Q E h => ?_) (fun cdv A outer s H vs Q E hr h => ?_)
  · obtain ⟨a, many, n, rfl, _⟩ := h
    rfl
  · obtain ⟨a, many, n, rfl, ⟨p0, p1, p2, hp, a0, a1, b0, b1, c0, c1⟩, m1, m2, k⟩ := h
    refine ⟨_, pss_cons (ps_if (pt_cmpR op_gt (pe_ix ix_list (pv 0) pe_int (fun _ _ => rfl)) pe_int (by rfl))
        (pss_cons (ps_set (i := 2) scDraw.nd rfl (Or.inl rfl) (pe_op op_mod (pe_ix ix_list (pv 0) pe_int (fun _ _ => rfl)) (pv 1)))
        (pss_cons (ps_asg (pe_op op_fdivW (pe_ix ix_list (pv 0) pe_int (fun _ _ => rfl)) (pv 1)) (pg_sub (pv 0) pe_int set_list))
        (pss_one (ps_ret (pv 2))))) pss_nil)
      (pss_cons (ps_set (i := 3) scDraw.nd rfl (Or.inl rfl) pe_int)
      (pss_cons (ps_for PassesOwn.never rfl (pi_range1 rfl B.rng_ (pa_cons (pe_op op_add pe_int (pe_op op_fdiv (pe_bits (pv 1)) pe_int)) pa_nil)) (pg_name (i := 4) scDraw.nd rfl (Or.inl rfl))
        (pss_cons (ps_asg (pe_op op_add (pe_ix ix_list (pv 0) pe_int (fun _ _ => rfl)) pe_int) (pg_sub (pv 0) pe_int set_list))
        (pss_one (ps_set (i := 3) scDraw.nd rfl (Or.inl rfl) (pe_op op_add (pe_op op_mul (pv 3) pe_int) (pe_c M hr (by decide) rfl (pa_cons (pe_ix ix_list (pv 0) pe_int (fun _ _ => rfl)) (pa_cons (pe_ix ix_list (pv 0) pe_int (fun _ _ => rfl)) pa_nil))))))))
      (pss_one (ps_ret (pe_op op_mod (pv 3) (pv 1)))))), ?_⟩
    have ml : CDivW p0 many := by
      refine ⟨by omega, ?_⟩
      have h1 := bits_100 m1 m2
      unfold Builtin.Int.intBits at h1
      rw [if_neg (by intro e; have := eq_of_beq e; omega)] at h1
      omega
    refine ⟨_, rfl, a, _, 0, _, rfl, rfl, SqL.of hp, rfl, _, _, rfl, rfl, _, rfl, iteD (fun h => ?_) (fun h => ?_)⟩
    · refine ⟨_, rfl, a, _, 0, _, rfl, rfl, SqL.of hp, rfl, _, rfl, _, _, rfl, rfl, (show 0 < many by omega), ?_⟩
      refine ⟨_, rfl, a, _, 0, _, rfl, rfl, SqL.of hp, rfl, _, rfl, _, _, rfl, rfl, ml, _, rfl, a, _, 0, 0, rfl, rfl, hp, rfl, ?_⟩
      refine ⟨_, rfl, k _ _ (Int.emod_nonneg _ (by omega)) (Int.emod_lt_of_pos _ (by omega)) ⟨p0 / many, p1, p2, upd_same, Int.ediv_nonneg a0 (by omega), Int.lt_of_le_of_lt (Int.ediv_le_self _ a0) a1, b0, b1, c0, by omega⟩ fun c o nc e => by rw [upd_ne nc]; exact e⟩
    · dsimp only [tNext]
      refine seq_asg ?_
      dsimp only [tC]
      have bb := bits_100 m1 m2
      have jn : ((1 + ((Builtin.Int.intBits many : Nat) : Int) / 28)).toNat ≤ 4 := by omega
      refine ⟨_, rfl, many, rfl, _, 28, rfl, rfl, (by constructor <;> decide), _, _, rfl, rfl, _, rfl, ?_⟩
      refine ⟨by omega, by omega, for_it (walk_range (n := (1 + ((Builtin.Int.intBits many : Nat) : Int) / 28).toNat)) (fun i σ' H' => (∃ fnd v, σ' = [some (.ref a), some (.int many), none, some (.int fnd), v]) ∧ SameB a H H' ∧ H' a = some (.lst [.int p0, .int p1, .int (p2 + (i : Nat))])) ⟨⟨0, none, rfl⟩, SameB.refl _ _, by rw [hp]; simp⟩ (fun _ _ _ _ _ => trivial) ?_ ?_⟩
      · rintro i x σ' H1 H2 hi ⟨⟨fnd, v, rfl⟩, S, hp'⟩ ⟨rfl, rfl⟩
        have hi4 : i < 4 := Nat.lt_of_lt_of_le hi jn
        refine ⟨_, rfl, a, _, 2, _, rfl, rfl, SqL.of hp', rfl, _, _, rfl, rfl, _, rfl, a, _, 2, 2, rfl, rfl, hp', rfl, ?_⟩
        have hq : (upd H2 a (.lst [.int p0, .int p1, .int (p2 + (i : Nat) + 1)])) a = some (.lst [.int p0, .int p1, .int (p2 + (i : Nat) + 1)]) := upd_same
        have sq : SqL K (upd H2 a (.lst [.int p0, .int p1, .int (p2 + (i : Nat) + 1)])) a [.int p0, .int p1, .int (p2 + (i : Nat) + 1)] := SqL.of hq
        refine ⟨_, rfl, _, _, rfl, rfl, .inr (by constructor <;> decide), _, rfl, a, _, 1, _, rfl, rfl, sq, rfl, _, rfl, a, _, 2, _, rfl, rfl, sq, rfl, p1, p2 + (i : Nat) + 1, rfl, b0, b1, by omega, by omega, fun r r0 r1 => ⟨_, _, rfl, rfl, ⟨_, _, rfl⟩, S.upd, ?_⟩⟩
        rw [upd_same]
        have e : p2 + ((i + 1 : Nat) : Int) = p2 + (i : Nat) + 1 := by omega
        rw [e]
        rfl
      · rintro σ' H1 ⟨⟨fnd, v, rfl⟩, S, hp'⟩
        dsimp only
        exact ⟨_, rfl, _, rfl, _, _, rfl, rfl, (show 0 < many by omega), k _ _ (Int.emod_nonneg _ (by omega)) (Int.emod_lt_of_pos _ (by omega)) ⟨p0, p1, _, hp', a0, a1, b0, b1, by omega, by omega⟩ S⟩
end
end E3

set_option Elab.async false
set_option linter.all false
set_option maxRecDepth 100000
set_option maxHeartbeats 1000000
/-! the law's draws: one of, shuffled, letters, names -/
namespace E4
open PySem PySem.Spec PyProof.Rows L2
open C8 (Cal Mak Met InsC pe_c pe_mt pe_mt0 call_isC clsBody)
open E3 (PurseAt spPurse spMixed spDraw)
abbrev sOneOf : Stmt := top 41
abbrev sShuffled : Stmt := top 42
abbrev sLetters : Stmt := top 43
abbrev sNamesL : Stmt := top 44
theorem purse_ne {K : PySem.W.Frag} {H : Hp} {p a : Addr} {n : Nat} {xs : List Str} (h : PurseAt H p n) (hl : H a = some (.lst (xs.map V.str))) : a ≠ p := by
  obtain ⟨p0, p1, p2, e, _⟩ := h
  rintro rfl
  rw [e] at hl
  cases xs with
  | nil => cases hl
  | cons x r =>
    have z := HO.lst.inj (Option.some.inj hl)
    cases (List.cons.inj z).1
def spOneOf (K : PySem.W.Frag) : Sp := fun vs H Q _ => ∃ (a l : Addr) (xs : List V) (n : Nat), vs = [.ref a, .ref l] ∧ PurseAt H a (n + 4) ∧ SqL K H l xs ∧ l ≠ a ∧ 1 ≤ xs.length ∧ xs.length ≤ 1000 ∧
  ∀ (i : Nat) (x : V) (H' : Hp), xs[i]? = some x → PurseAt H' a n → SameB a H H' → Q x H'
def spShuf (K : PySem.W.Frag) : Sp := fun vs H Q _ => ∃ (a l : Addr) (xs : List Str) (n : Nat), vs = [.ref a, .ref l] ∧ PurseAt H a (n + 4 * xs.length) ∧ H l = some (.lst (xs.map V.str)) ∧ xs.length ≤ 2000 ∧
  ∀ (ys : List Str) q H', ys.Perm xs → H' q = some (.lst (ys.map V.str)) → H q = none → PurseAt H' a n → SameB a H H' → Q (.ref q) H'
section
variable {P : Program} {w : World} {K : PySem.W.Frag} {mg : Str → Option Value} {base : Heap}
theorem atI_some {xs : List V} {r : Int} (h0 : 0 ≤ r) (h1 : r < xs.length) : ∃ x, atI xs r = some x ∧ xs[r.toNat]? = some x := by
  have hx : xs[r.toNat]? = some xs[r.toNat] := List.getElem?_eq_getElem (by omega)
  refine ⟨_, ?_, hx⟩
  unfold atI ixN
  rw [if_pos h0, if_pos h1]
  exact hx
theorem scOneOf : FnScope ["_law_purse_here", "_law_some"] ["_law_purse_here", "_law_some"] (defScope sOneOf) := ⟨rfl, rfl, rfl, by decide +kernel, rfl, by decide +kernel, by decide +kernel⟩
theorem ok_oneOf {f : Addr} {fd : FuncData} (F : Fun K "_law_one_of" "_law_one_of" sOneOf f fd) (B : Bl mg) (D : Cal P w K mg base 2 "_law_draw" spDraw []) : FnOk P w K mg base CX0 3 f fd ["_law_purse_here", "_law_some"] (spOneOf K) := by
  refine F.ok scOneOf (fun vs H Q E h => ?_) (fun cdv A outer s H vs Q E hr h => ?_)
  · obtain ⟨a, l, xs, n, rfl, _⟩ := h
    rfl
  · obtain ⟨a, l, xs, n, rfl, hp, hl, ne, l1, l2, k⟩ := h
    refine ⟨_, pss_one (ps_ret (pe_ix ix_list (pv 1) (pe_c D hr (by decide) rfl (pa_cons (pv 0) (pa_cons (pe_callB call_len_seq (by rfl) B.len_ PySem.boot_len (pa_cons (pv 1) pa_nil)) pa_nil))) (fun _ _ => rfl))), ?_⟩
    refine ⟨_, rfl, _, rfl, _, rfl, l, xs, rfl, .inl hl, a, (xs.length : Int), n, rfl, hp, by omega, by omega, fun r H1 r0 r1 hp1 S1 => ?_⟩
    obtain ⟨x, e1, e2⟩ := atI_some r0 r1
    exact ⟨l, xs, r, x, rfl, rfl, hl.sameB S1 ne, e1, k _ _ _ e2 hp1 S1⟩
theorem scShuf : FnScope ["_law_purse_here", "_law_some", "_law_found", "_law_item"] ["_law_purse_here", "_law_some"] (defScope sShuffled) := ⟨rfl, rfl, rfl, by decide +kernel, rfl, by decide +kernel, by decide +kernel⟩
theorem ok_shuf {f : Addr} {fd : FuncData} (F : Fun K "_law_shuffled" "_law_shuffled" sShuffled f fd) (B : Bl mg) (D : Cal P w K mg base 2 "_law_draw" spDraw []) : FnOk P w K mg base CX0 3 f fd ["_law_purse_here", "_law_some"] (spShuf K) := by
  refine F.ok scShuf (fun vs H Q E h => ?_) (fun cdv A outer s H vs Q E hr h => ?_)
  · obtain ⟨a, l, xs, n, rfl, _⟩ := h
    rfl
  · obtain ⟨a, l, xs, n, rfl, hp, hl, l2, k⟩ := h
    refine ⟨_, pss_cons (ps_set (i := 2) scShuf.nd rfl (Or.inl rfl) (pe_lstS pa_nil))
      (pss_cons (ps_for PassesOwn.never rfl (pi_list (pv 1)) (pg_name (i := 3) scShuf.nd rfl (Or.inl rfl))
        (pss_one (ps_expr (pe_bm PySem.F.plainAttrs_list PySem.F.slot_list_insert PySem.F.type_list_insert mt_insert (pv 2) (pa_cons (pe_c D hr (by decide) rfl (pa_cons (pv 0) (pa_cons (pe_op op_add (pe_callB call_len_seq (by rfl) B.len_ PySem.boot_len (pa_cons (pv 2) pa_nil)) pe_int) pa_nil))) (pa_cons (pv 3) pa_nil))))))
      (pss_one (ps_ret (pv 2)))), ?_⟩
    refine seq_asg ⟨by show 0 ≤ sizeLine; decide, fun d0 H1 S1 n1 h1 => ?_⟩
    have nla : l ≠ a := purse_ne (K := K) hp hl
    have nda : d0 ≠ a := by
      obtain ⟨p0, p1, p2, e, _⟩ := hp
      exact (ne_of_none e n1).symm
    have ndl : l ≠ d0 := ne_of_none hl n1
    refine ⟨_, rfl, l, rfl, ⟨_, SqL.of (S1 _ _ hl)⟩, for_it (walk_list (xs := xs.map V.str)) (fun i σ' H' => ∃ u ys, σ' = [some (.ref a), some (.ref l), some (.ref d0), u] ∧ ys.Perm (xs.take i) ∧ H' d0 = some (.lst (ys.map V.str)) ∧ PurseAt H' a (n + 4 * (xs.length - i)) ∧ ∀ c o, c ≠ a → c ≠ d0 → H1 c = some o → H' c = some o) ⟨none, [], rfl, List.Perm.refl _, h1, (hp.same S1), fun _ _ _ _ e => e⟩ (fun i σ' H' _ q => let ⟨_, _, _, _, _, _, S⟩ := q; SqL.of (S _ _ nla ndl (S1 _ _ hl))) ?_ ?_⟩
    · rintro i v σ' H2 H3 hi ⟨u, ys, rfl, pm, hd, hpu, S2⟩ ⟨rfl, hxi⟩
      rw [List.length_map] at hi
      rw [List.getElem?_map] at hxi
      obtain ⟨z, hz, rfl⟩ := Option.map_eq_some_iff.mp hxi
      have ly : ys.length = i := by rw [pm.length_eq, List.length_take]; omega
      refine ⟨_, rfl, .inl ⟨rfl, _, SqL.of hd⟩, ?_⟩
      have lm : (ys.map V.str).length = i := by rw [List.length_map, ly]
      refine ⟨_, rfl, _, rfl, d0, _, rfl, .inl (SqL.of hd), _, _, rfl, rfl, a, _, n + 4 * (xs.length - (i + 1)), rfl, hpu.less (by omega), by omega, by rw [lm]; omega, fun r H4 r0 r1 hp4 S4 => ?_⟩
      have hd4 := S4 _ _ nda hd
      refine ⟨_, rfl, d0, _, r, _, rfl, rfl, hd4, by rw [lm, sizeLine_eq]; omega, r0, by rw [lm] at r1; omega, ?_⟩
      refine ⟨_, ys.take r.toNat ++ [z] ++ ys.drop r.toNat, rfl, ?_, ?_, ?_, fun c o nc nd e => ?_⟩
      · rw [take_snoc hz]
        refine List.Perm.trans ?_ (pm.append_right [z])
        rw [List.append_assoc]
        refine List.perm_middle.trans ?_
        show (z :: (List.take r.toNat ys ++ List.drop r.toNat ys)).Perm (ys ++ [z])
        rw [List.take_append_drop]
        exact (List.perm_append_comm (l₁ := [z]) (l₂ := ys))
      · rw [upd_same, List.map_append, List.map_append, List.map_take, List.map_drop]
        rfl
      · obtain ⟨p0, p1, p2, e, r⟩ := hp4
        exact ⟨p0, p1, p2, by rw [upd_ne (Ne.symm nda)]; exact e, r⟩
      · rw [upd_ne nd]
        exact S4 _ _ nc (S2 _ _ nc nd e)
    · rintro σ' H2 ⟨u, ys, rfl, pm, hd, hpu, S2⟩
      rw [List.length_map, List.take_length] at pm
      rw [List.length_map] at hpu
      refine ⟨_, rfl, k ys d0 H2 pm hd n1 (hpu.less (by omega)) fun c o nc e => S2 c o nc (ne_of_none e n1) (S1 _ _ e)⟩
def L8a : List Str := ["m", "n", "n", "mn", "p", "abc", "height", "nm"]
def L8 : List Str := L8a ++ (["x", "y"] : List Str)
def N8 : List Str := ["r", "c", "z", "kk", "a", "page", "columnes", "abcdefghij"]
def spLetters : Sp := fun vs H Q _ => ∃ (a : Addr) (m n : Nat), vs = [.ref a, .int (m : Int)] ∧ m ≤ 3 ∧ PurseAt H a (n + 20) ∧
  ∀ (zs : List Str) q H', (∀ z ∈ zs, z ∈ L8) → zs.length ≤ m → H' q = some (.lst (zs.map V.str)) → H q = none → PurseAt H' a n → SameB a H H' → Q (.ref q) H'
def spNamesL : Sp := fun vs H Q _ => ∃ (a : Addr) (m n : Nat), vs = [.ref a, .int (m : Int)] ∧ 1 ≤ m ∧ m ≤ 8 ∧ PurseAt H a (n + 40) ∧
  ∀ (zs : List Str) q H', (∀ z ∈ zs, z ∈ N8) → zs.Nodup → zs.length = m → H' q = some (.lst (zs.map V.str)) → H q = none → PurseAt H' a n → SameB a H H' → Q (.ref q) H'
theorem scLetters : FnScope ["_law_purse_here", "_law_most", "_law_found", "_law_turn"] ["_law_purse_here", "_law_most"] (defScope sLetters) := ⟨rfl, rfl, rfl, by decide +kernel, rfl, by decide +kernel, by decide +kernel⟩
theorem ok_letters {f : Addr} {fd : FuncData} (F : Fun K "_law_letters" "_law_letters" sLetters f fd) (B4 : E3.Bt4 mg) (D : Cal P w K mg base 2 "_law_draw" spDraw []) (O : Cal P w K mg base 3 "_law_one_of" (spOneOf K) []) : FnOk P w K mg base CX0 4 f fd ["_law_purse_here", "_law_most"] spLetters := by
  refine F.ok scLetters (fun vs H Q E h => ?_) (fun cdv A outer s H vs Q E hr h => ?_)
  · obtain ⟨a, m, n, rfl, _⟩ := h
    rfl
  · obtain ⟨a, m, n, rfl, lm, hp, k⟩ := h
    refine ⟨_, pss_cons (ps_set (i := 2) scLetters.nd rfl (Or.inl rfl) (pe_lstS pa_nil))
      (pss_cons (ps_for PassesOwn.never rfl (pi_range1 rfl B4.rng_ (pa_cons (pe_c D hr (by decide) rfl (pa_cons (pv 0) (pa_cons (pe_op op_add (pv 1) pe_int) pa_nil))) pa_nil)) (pg_name (i := 3) scLetters.nd rfl (Or.inl rfl))
        (pss_one (ps_expr (pe_bm PySem.F.plainAttrs_list PySem.F.slot_list_append PySem.F.type_list_append mt_append (pv 2) (pa_cons (pe_c O hr (by decide) rfl (pa_cons (pv 0) (pa_cons (pe_lstS (pa_cons pe_str (pa_cons pe_str (pa_cons pe_str (pa_cons pe_str (pa_cons pe_str (pa_cons pe_str (pa_cons pe_str (pa_cons pe_str pa_nil))))))))) pa_nil))) pa_nil)))))
      (pss_one (ps_ret (pv 2)))), ?_⟩
    refine seq_asg ⟨by show 0 ≤ sizeLine; decide, fun d0 H1 S1 n1 h1 => ?_⟩
    have nda : d0 ≠ a := by
      obtain ⟨p0, p1, p2, e, _⟩ := hp
      exact (ne_of_none e n1).symm
    refine ⟨_, rfl, _, rfl, _, _, rfl, rfl, a, _, n + 16, rfl, (hp.same S1).less (by omega), by omega, by omega, fun r H2 r0 r1 hp2 S2 => ?_⟩
    have hd2 := S2 _ _ nda h1
    refine ⟨r, rfl, by omega, by omega, for_it (walk_range (n := r.toNat)) (fun i σ' H' => ∃ u zs, σ' = [some (.ref a), some (.int m), some (.ref d0), u] ∧ (∀ z ∈ zs, z ∈ L8) ∧ zs.length = i ∧ H' d0 = some (.lst (zs.map V.str)) ∧ PurseAt H' a (n + 4 * (r.toNat - i)) ∧ ∀ c o, c ≠ a → c ≠ d0 → H1 c = some o → H' c = some o) ⟨none, [], rfl, fun _ h => absurd h List.not_mem_nil, rfl, hd2, hp2.less (by omega), fun c o nc _ e => S2 _ _ nc e⟩ (fun _ _ _ _ _ => trivial) ?_ ?_⟩
    · rintro i x σ' H3 H4 hi ⟨u, zs, rfl, hz, lz, hd, hpu, S3⟩ ⟨rfl, rfl⟩
      refine ⟨_, rfl, .inl ⟨rfl, _, SqL.of hd⟩, ?_⟩
      refine ⟨_, rfl, by show 8 ≤ sizeLine; decide, fun p H5 S5 n5 h5 => ?_⟩
      have npa : p ≠ a := by
        obtain ⟨p0, p1, p2, e, _⟩ := hpu
        exact (ne_of_none e n5).symm
      refine ⟨a, p, L8a.map V.str, n + 4 * (r.toNat - (i + 1)), rfl, (hpu.same S5).less (by omega), SqL.of h5, npa, by decide, by decide, fun j x H6 hx hp6 S6 => ?_⟩
      rw [List.getElem?_map] at hx
      obtain ⟨z, hzj, rfl⟩ := Option.map_eq_some_iff.mp hx
      have hd6 := S6 _ _ nda (S5 _ _ hd)
      refine ⟨d0, _, _, rfl, rfl, hd6, by rw [List.length_map, lz, sizeLine_eq]; omega, ?_⟩
      refine ⟨_, zs ++ [z], rfl, ?_, by rw [List.length_append, lz]; rfl, by rw [upd_same, List.map_append]; rfl, ?_, fun c o nc nd e => ?_⟩
      · intro y hy
        rcases List.mem_append.mp hy with q | q
        · exact hz y q
        · rw [List.mem_singleton.mp q]
          exact List.mem_append.mpr (.inl (List.mem_of_getElem? hzj))
      · obtain ⟨p0, p1, p2, e, r⟩ := hp6
        exact ⟨p0, p1, p2, by rw [upd_ne (Ne.symm nda)]; exact e, r⟩
      · rw [upd_ne nd]
        exact S6 _ _ nc (S5 _ _ (S3 _ _ nc nd e))
    · rintro σ' H3 ⟨u, zs, rfl, hz, lz, hd, hpu, S3⟩
      exact ⟨_, rfl, k zs d0 H3 hz (by omega) hd n1 (hpu.less (by omega)) fun c o nc e => S3 c o nc (ne_of_none e n1) (S1 _ _ e)⟩
theorem scNamesL : FnScope ["_law_purse_here", "_law_many"] ["_law_purse_here", "_law_many"] (defScope sNamesL) := ⟨rfl, rfl, rfl, by decide +kernel, rfl, by decide +kernel, by decide +kernel⟩
theorem ok_namesL {f : Addr} {fd : FuncData} (F : Fun K "_law_names" "_law_names" sNamesL f fd) (Sh : Cal P w K mg base 3 "_law_shuffled" (spShuf K) []) : FnOk P w K mg base CX0 4 f fd ["_law_purse_here", "_law_many"] spNamesL := by
  refine F.ok scNamesL (fun vs H Q E h => ?_) (fun cdv A outer s H vs Q E hr h => ?_)
  · obtain ⟨a, m, n, rfl, _⟩ := h
    rfl
  · obtain ⟨a, m, n, rfl, l1, lm, hp, k⟩ := h
    refine ⟨_, pss_one (ps_ret (pe_slice sl_listS (pe_c Sh hr (by decide) rfl (pa_cons (pv 0) (pa_cons (pe_lstS (pa_cons pe_str (pa_cons pe_str (pa_cons pe_str (pa_cons pe_str (pa_cons pe_str (pa_cons pe_str (pa_cons pe_str (pa_cons pe_str pa_nil))))))))) pa_nil))) po_none (po_some (pv 1)))), ?_⟩
    refine ⟨_, rfl, by show 8 ≤ sizeLine; decide, fun p H1 S1 n1 h1 => ?_⟩
    refine ⟨a, p, N8, n, rfl, (hp.same S1).less (by show n + 32 ≤ n + 40; omega), h1, by decide, fun ys q H2 pm hq nq hp2 S2 => ?_⟩
    have ly : ys.length = 8 := pm.length_eq
    refine ⟨_, rfl, m, rfl, q, _, rfl, SqL.of hq, fun t H3 S3 n3 h3 => ?_⟩
    have ec : cutV (ys.map V.str) none (some (m : Int)) = (ys.take m).map V.str := by
      unfold cutV
      rw [HT.sIx_nat, HT.sIx_none, List.length_map, ly, Nat.min_eq_left lm, List.map_take]
      rfl
    rw [ec] at h3
    have SB : SameB a H H2 := fun c o nc e => S2 _ _ nc (S1 _ _ e)
    have hn : H t = none := by
      cases e : H t with
      | none => rfl
      | some o =>
        by_cases c : t = a
        · subst c
          obtain ⟨p0, p1, p2, e1, _⟩ := hp2
          rw [n3] at e1
          cases e1
        · have := SB _ _ c e
          rw [n3] at this
          cases this
    refine k (ys.take m) t H3 (fun z hz => pm.mem_iff.mp (List.mem_of_mem_take hz)) ((pm.nodup_iff.mpr (by decide)).sublist (List.take_sublist _ _)) (by rw [List.length_take]; omega) h3 hn (hp2.same S3) fun c o nc e => S3 _ _ (SB _ _ nc e)
end
end E4

set_option Elab.async false
set_option linter.all false
set_option maxRecDepth 100000
set_option maxHeartbeats 1000000
/-! _law_chain -/
namespace E4
open PySem PySem.Spec PyProof.Rows L2
open C8 (Cal Mak Met InsC pe_c pe_mt pe_mt0 call_isC clsBody)
open E3 (PurseAt spPurse spMixed spDraw)
abbrev sChain : Stmt := top 45
theorem purse_ref {H : Hp} {p a : Addr} {n : Nat} {ts : List Addr} (h : PurseAt H p n) (hl : H a = some (.lst (ts.map V.ref))) : a ≠ p := by
  obtain ⟨p0, p1, p2, e, _⟩ := h
  rintro rfl
  rw [e] at hl
  cases ts with
  | nil => cases hl
  | cons x r =>
    have z := HO.lst.inj (Option.some.inj hl)
    cases (List.cons.inj z).1
theorem purse_str {H : Hp} {p a : Addr} {n : Nat} {xs : List Str} (h : PurseAt H p n) (hl : H a = some (.lst (xs.map V.str))) : a ≠ p := by
  obtain ⟨p0, p1, p2, e, _⟩ := h
  rintro rfl
  rw [e] at hl
  cases xs with
  | nil => cases hl
  | cons x r =>
    have z := HO.lst.inj (Option.some.inj hl)
    cases (List.cons.inj z).1
theorem purse_none {H : Hp} {p a : Addr} {n : Nat} (h : PurseAt H p n) (hn : H a = none) : a ≠ p := by
  obtain ⟨p0, p1, p2, e, _⟩ := h
  exact (ne_of_none e hn).symm
theorem purse_upd {H : Hp} {p D : Addr} {n : Nat} {o : HO} (h : PurseAt H p n) (ne : D ≠ p) : PurseAt (upd H D o) p n := by
  obtain ⟨p0, p1, p2, e, r⟩ := h
  exact ⟨p0, p1, p2, by rw [upd_ne (Ne.symm ne)]; exact e, r⟩
theorem purse_tup {H : Hp} {p a : Addr} {n : Nat} {xs : List V} (h : PurseAt H p n) (hl : H a = some (.tup xs)) : a ≠ p := by
  obtain ⟨p0, p1, p2, e, _⟩ := h
  rintro rfl
  rw [e] at hl
  cases hl
theorem SdAt.purse {H H' : Hp} {p t : Addr} {n : Nat} {x : Sd} (h : SdAt H t x) (hp : PurseAt H p n) (S : SameB p H H') : SdAt H' t x :=
  let ⟨a, b, h1, h2, h3⟩ := h
  ⟨a, b, S _ _ (purse_tup hp h1) h1, S _ _ (purse_str hp h2) h2, S _ _ (purse_str hp h3) h3⟩
theorem SdsAt.purse {H H' : Hp} {p : Addr} {n : Nat} {ts : List Addr} {xs : List Sd} (h : SdsAt H ts xs) (hp : PurseAt H p n) (S : SameB p H H') : SdsAt H' ts xs := h.imp fun _ _ _ q => q.purse hp S
/-- what the law's sides are made of -/
def RowOk (x : Sd) : Prop := (∀ z ∈ x.2.1, z ∈ L8) ∧ (∀ z ∈ x.2.2, z ∈ L8) ∧ x.2.1.length ≤ 3 ∧ x.2.2.length ≤ 8
theorem let_L8 : ∀ z ∈ L8, LetOk z := by
  intro z hz
  have : (L8.all fun z => decide (1 ≤ z.length) && decide (z.length ≤ 10) && z.cps.toList.all fun c => decide (97 ≤ c) && decide (c ≤ 122)) = true := by decide +kernel
  have h := List.all_eq_true.mp this z hz
  simp only [Bool.and_eq_true, decide_eq_true_eq, List.all_eq_true] at h
  exact ⟨h.1.1, h.1.2, h.2⟩
theorem let_N8 : ∀ z ∈ N8, LetOk z := by
  intro z hz
  have : (N8.all fun z => decide (1 ≤ z.length) && decide (z.length ≤ 10) && z.cps.toList.all fun c => decide (97 ≤ c) && decide (c ≤ 122)) = true := by decide +kernel
  have h := List.all_eq_true.mp this z hz
  simp only [Bool.and_eq_true, decide_eq_true_eq, List.all_eq_true] at h
  exact ⟨h.1.1, h.1.2, h.2⟩
theorem apart : ∀ z ∈ L8, z ∉ N8 := by decide +kernel
theorem rows_ok {xs : List Sd} {names : List Str} (h1 : xs.map (·.1) = names) (h2 : ∀ z ∈ names, z ∈ N8) (nd : names.Nodup) (hr : ∀ x ∈ xs, RowOk x) (ne : xs ≠ []) (hl : xs.length ≤ 8) : SdsOk xs := by
  have nm : ∀ x ∈ xs, x.1 ∈ N8 := fun x hx => h2 _ (by rw [← h1]; exact List.mem_map.mpr ⟨x, hx, rfl⟩)
  refine ⟨ne, fun x hx => ?_, by rw [h1]; exact nd, fun x hx y hy z hz e => ?_, by omega⟩
  · obtain ⟨a, b, c, d⟩ := hr x hx
    exact ⟨let_N8 _ (nm x hx), fun z hz => let_L8 _ (a z hz), fun z hz => let_L8 _ (b z hz), by omega, by omega⟩
  · obtain ⟨a, b, _, _⟩ := hr x hx
    have : z ∈ L8 := hz.elim (a z) (b z)
    exact apart z this (by rw [e]; exact nm y hy)
def spChain : Sp := fun vs H Q _ => ∃ (a : Addr) (many : Nat) (often : Int) (n : Nat), vs = [.ref a, .int (many : Int), .int often] ∧ 1 ≤ many ∧ many ≤ 8 ∧ 1 ≤ often ∧ often < 2 ^ 100 ∧ PurseAt H a (n + 4000) ∧
  ∀ l ts xs H', H' l = some (.lst (ts.map V.ref)) → SdsAt H' ts xs → SdsOk xs → (∀ x ∈ xs, RowOk x) → xs.length = many → (∀ x ∈ xs, x.1 ∈ N8) → H l = none → PurseAt H' a n → SameB a H H' → Q (.ref l) H'
section
variable {P : Program} {w : World} {K : PySem.W.Frag} {mg : Str → Option Value} {base : Heap}
theorem scChain : FnScope ["_law_purse_here", "_law_many", "_law_often", "_law_rows", "_law_due_here", "_law_word", "_law_extra", "_law_span", "_law_step"] ["_law_purse_here", "_law_many", "_law_often"] (defScope sChain) := ⟨rfl, rfl, rfl, by decide +kernel, rfl, by decide +kernel, by decide +kernel⟩
theorem ok_chain {f : Addr} {fd : FuncData} (F : Fun K "_law_chain" "_law_chain" sChain f fd) (B : Bl mg) (D : Cal P w K mg base 2 "_law_draw" spDraw []) (Sh : Cal P w K mg base 3 "_law_shuffled" (spShuf K) []) (Le : Cal P w K mg base 4 "_law_letters" spLetters []) (Na : Cal P w K mg base 4 "_law_names" spNamesL []) :
    FnOk P w K mg base CX0 5 f fd ["_law_purse_here", "_law_many", "_law_often"] spChain := by
  refine F.ok scChain (fun vs H Q E h => ?_) (fun cdv A outer s H vs Q E hr h => ?_)
  · obtain ⟨a, m, o, n, rfl, _⟩ := h
    rfl
  · obtain ⟨a, many, often, n, rfl, m1, m8, o1, o2, hp, k⟩ := h
    refine ⟨_, pss_cons (ps_par (i := 3) (j := 4) (by rfl) scChain.nd rfl rfl (by decide) rfl rfl (pa_cons (pe_lstS pa_nil) (pa_cons (pe_lstS pa_nil) pa_nil)) (by rfl))
      (pss_cons (ps_for PassesOwn.never rfl (pi_list (pe_c Na hr (by decide) rfl (pa_cons (pv 0) (pa_cons (pv 1) pa_nil)))) (pg_name (i := 5) scChain.nd rfl (Or.inl rfl))
        (pss_cons (ps_set (i := 6) scChain.nd rfl (Or.inl rfl) (pe_ifExp (pt_cmpR op_eq (pe_c D hr (by decide) rfl (pa_cons (pv 0) (pa_cons (pv 2) pa_nil))) pe_int (by rfl)) (pe_c Le hr (by decide) rfl (pa_cons (pv 0) (pa_cons pe_int pa_nil))) (pe_lstS pa_nil)))
        (pss_cons (ps_set (i := 7) scChain.nd rfl (Or.inl rfl) (pe_c Le hr (by decide) rfl (pa_cons (pv 0) (pa_cons (pe_ix ix_list (pe_lstS (pa_cons pe_int (pa_cons pe_int (pa_cons pe_int pa_nil)))) (pe_c D hr (by decide) rfl (pa_cons (pv 0) (pa_cons pe_int pa_nil))) (fun _ _ => rfl)) pa_nil))))
        (pss_cons (ps_set (i := 8) scChain.nd rfl (Or.inl rfl) (pe_c Sh hr (by decide) rfl (pa_cons (pv 0) (pa_cons (pe_op op_catS (pv 4) (pv 6)) pa_nil))))
        (pss_cons (ps_if (pt_cmpR op_gt (pe_callB call_len_seq (by rfl) B.len_ PySem.boot_len (pa_cons (pv 8) pa_nil)) pe_int (by rfl)) (pss_one (ps_par (i := 7) (j := 8) (by rfl) scChain.nd rfl rfl (by decide) rfl rfl (pa_cons (pe_lstS pa_nil) (pa_cons (pe_lstS pa_nil) pa_nil)) (by rfl))) pss_nil)
        (pss_cons (ps_expr (pe_bm PySem.F.plainAttrs_list PySem.F.slot_list_append PySem.F.type_list_append mt_append (pv 3) (pa_cons (pe_tupS (pa_cons (pv 5) (pa_cons (pv 7) (pa_cons (pv 8) pa_nil)))) pa_nil)))
        (pss_one (ps_set (i := 4) scChain.nd rfl (Or.inl rfl) (pe_ifExp (pt_cmpR (op_neD hr.units) (pv 7) (pe_lstS pa_nil) (by rfl)) (pe_slice sl_listS (pe_op op_catS (pv 8) (pv 7)) po_none (po_some pe_int)) (pv 4))))))))))
      (pss_one (ps_ret (pv 3)))), ?_⟩
    refine ⟨by show 0 ≤ sizeLine; decide, fun rl H1 S1 n1 h1 => ⟨by show 0 ≤ sizeLine; decide, fun du0 H2 S2 n2 h2 => ?_⟩⟩
    refine ⟨_, _, rfl, ?_⟩
    dsimp only
    have hp2 := (hp.same S1).same S2
    have hrl2 := S2 _ _ h1
    have nra : rl ≠ a := purse_none hp n1
    refine ⟨_, rfl, _, rfl, a, many, n + 3900, rfl, m1, m8, hp2.less (by omega), fun names nl H3 hn nd ln hnl nnl hp3 S3 => ?_⟩
    have nnr : nl ≠ rl := (ne_of_none hrl2 nnl).symm
    have nnd : du0 ≠ rl := (ne_of_none h1 n2).symm
    have hd3 := S3 _ _ (purse_str (xs := []) hp2 h2) h2
    have hrl3 := S3 _ _ nra hrl2
    refine ⟨nl, rfl, ⟨_, SqL.of hnl⟩, for_it (walk_list (xs := names.map V.str)) (fun i σ' H' => ∃ du dz ts xs u5 u6 u7 u8, σ' = [some (.ref a), some (.int many), some (.int often), some (.ref rl), some (.ref du), u5, u6, u7, u8] ∧ H' du = some (.lst (dz.map V.str)) ∧ (∀ z ∈ dz, z ∈ L8) ∧ dz.length ≤ 6 ∧ du ≠ rl ∧
        H' rl = some (.lst (ts.map V.ref)) ∧ SdsAt H' ts xs ∧ (∀ t ∈ ts, t ≠ rl) ∧ xs.map (·.1) = names.take i ∧ (∀ x ∈ xs, RowOk x) ∧ PurseAt H' a (n + 200 * (many - i)) ∧ ∀ c o, c ≠ a → c ≠ rl → H3 c = some o → H' c = some o)
      ⟨du0, [], [], [], none, none, none, none, rfl, hd3, fun _ h => absurd h List.not_mem_nil, by decide, nnd, hrl3, .nil, fun _ h => absurd h List.not_mem_nil, rfl, fun _ h => absurd h List.not_mem_nil, hp3.less (by omega), fun _ _ _ _ e => e⟩
      (fun i σ' H' _ q => let ⟨_, _, _, _, _, _, _, _, _, _, _, _, _, _, _, _, _, _, _, S⟩ := q; SqL.of (S _ _ (purse_str hp3 hnl) nnr hnl)) ?_ ?_⟩
    · rintro i v σ' H4 H5 hi ⟨du, dz, ts, xs, u5, u6, u7, u8, rfl, hdu, hdz, ldz, ndr, hrl, hs, hts, hnm, hro, hpu, S4⟩ ⟨rfl, hxi⟩
      rw [List.length_map] at hi
      rw [List.getElem?_map] at hxi
      obtain ⟨nm, hnmi, rfl⟩ := Option.map_eq_some_iff.mp hxi
      dsimp only
      -- extra
      refine seq_asg (te_mid (fun x H' => ∃ (e : Addr) (ez : List Str), x = .ref e ∧ (∀ z ∈ ez, z ∈ L8) ∧ ez.length ≤ 2 ∧ H' e = some (.lst (ez.map V.str)) ∧ PurseAt H' a (n + 200 * (many - (i + 1)) + 150) ∧ SameB a H5 H' ∧ H5 e = none) (fun R hR => ?_) ?_)
      · refine ⟨_, rfl, _, rfl, a, often, n + 200 * (many - (i + 1)) + 190, rfl, hpu.less (by omega), o1, o2, fun r H6 r0 r1 hp6 S6 => ⟨rfl, _, rfl, iteD (fun c => ?_) (fun c => ?_)⟩⟩
        · refine ⟨_, rfl, a, 2, n + 200 * (many - (i + 1)) + 150, rfl, by decide, hp6.less (by omega), fun zs q H7 hz lz hq nq hp7 S7 => hR _ _ ⟨q, zs, rfl, hz, lz, hq, hp7, S6.trans S7, ?_⟩⟩
          cases eq : H5 q with
          | none => rfl
          | some o =>
            by_cases c2 : q = a
            · exact absurd c2 (purse_none hp6 nq)
            · rw [S6 _ _ c2 eq] at nq
              cases nq
        · refine ⟨by show 0 ≤ sizeLine; decide, fun q H7 S7 nq hq => hR _ _ ⟨q, [], rfl, fun _ h => absurd h List.not_mem_nil, by decide, hq, (hp6.same S7).less (by omega), S6.to S7, ?_⟩⟩
          cases eq : H5 q with
          | none => rfl
          | some o =>
            by_cases c2 : q = a
            · exact absurd c2 (purse_none hp6 nq)
            · rw [S6 _ _ c2 eq] at nq
              cases nq
      rintro x H6 ⟨e, ez, rfl, hez, lez, he, hp6, S6, ne6⟩
      have nea : e ≠ a := purse_none hpu ne6
      have ner : e ≠ rl := (ne_of_none hrl ne6).symm
      have hrl6 := S6 _ _ nra hrl
      have hdu6 := S6 _ _ (purse_str hpu hdu) hdu
      -- span
      refine seq_asg ⟨_, rfl, by show 3 ≤ sizeLine; decide, fun p H7 S7 np hp7 => ⟨_, rfl, a, 3, n + 200 * (many - (i + 1)) + 140, rfl, (hp6.same S7).less (by omega), by decide, by decide, fun r H8 r0 r1 hp8 S8 => ?_⟩⟩
      obtain ⟨m, em, lm⟩ : ∃ m : Nat, atI [V.int 2, V.int 2, V.int 3] r = some (V.int (m : Int)) ∧ m ≤ 3 := by
        have : r = 0 ∨ r = 1 ∨ r = 2 := by omega
        rcases this with rfl | rfl | rfl
        · exact ⟨2, rfl, by decide⟩
        · exact ⟨2, rfl, by decide⟩
        · exact ⟨3, rfl, by decide⟩
      have npa : p ≠ a := purse_none hp6 np
      refine ⟨p, _, r, _, rfl, rfl, SqL.of (S8 _ _ npa hp7), em, a, m, n + 200 * (many - (i + 1)) + 110, rfl, lm, hp8.less (by omega), fun sz sp H9 hsz lsz hsp nsp hp9 S9 => ?_⟩
      have S69 : SameB a H6 H9 := fun c o nc ec => S9 _ _ nc (S8 _ _ nc (S7 _ _ ec))
      have hrl9 := S69 _ _ nra hrl6
      have hdu9 := S69 _ _ (purse_str hp6 hdu6) hdu6
      have he9 := S69 _ _ nea he
      have hrl8 := S8 _ _ nra (S7 _ _ hrl6)
      have nsr : sp ≠ rl := (ne_of_none hrl8 nsp).symm
      have nsa : sp ≠ a := purse_none hp8 nsp
      -- step
      refine seq_asg ⟨_, rfl, _, rfl, _, rfl, du, e, _, _, rfl, rfl, hdu9, he9, by rw [List.length_map, List.length_map, sizeLine_eq]; omega, fun c H10 S10 nc hc => ?_⟩
      rw [← List.map_append] at hc
      refine ⟨a, c, dz ++ ez, n + 200 * (many - (i + 1)) + 70, rfl, (hp9.same S10).less (by rw [List.length_append]; omega), hc, by rw [List.length_append]; omega, fun tz st H11 pm hst nst hp11 S11 => ?_⟩
      have S911 : SameB a H9 H11 := fun c o nc ec => S11 _ _ nc (S10 _ _ ec)
      have hrl11 := S911 _ _ nra hrl9
      have hdu11 := S911 _ _ (purse_str hp9 hdu9) hdu9
      have hsp11 := S911 _ _ nsa hsp
      have ntr : st ≠ rl := (ne_of_none (S10 _ _ hrl9) nst).symm
      have nta : st ≠ a := purse_none (hp9.same S10) nst
      have htz : ∀ z ∈ tz, z ∈ L8 := fun z hz => (List.mem_append.mp (pm.mem_iff.mp hz)).elim (hdz z) (hez z)
      have ltz : tz.length ≤ 8 := by rw [pm.length_eq, List.length_append]; omega
      have Sall : SameB a H5 H11 := (S6.trans S69).trans S911
      have hs11 := hs.purse hpu Sall
      refine ts_mid (fun σ' H' => ∃ (s' t' : Addr) (sz' tz' : List Str), σ' = [some (.ref a), some (.int many), some (.int often), some (.ref rl), some (.ref du), some (.str nm), some (.ref e), some (.ref s'), some (.ref t')] ∧ H' s' = some (.lst (sz'.map V.str)) ∧ H' t' = some (.lst (tz'.map V.str)) ∧
          (∀ z ∈ sz', z ∈ L8) ∧ (∀ z ∈ tz', z ∈ L8) ∧ sz'.length ≤ 3 ∧ tz'.length ≤ 8 ∧ s' ≠ rl ∧ t' ≠ rl ∧ Same H11 H') (fun N hN => ?_) ?_
      · refine ⟨_, rfl, st, _, rfl, .inl (SqL.of hst), _, _, rfl, rfl, _, rfl, iteD (fun _ => ?_) (fun _ => ?_)⟩
        · refine ⟨by show 0 ≤ sizeLine; decide, fun q1 H12 S12 n12 h12 => ⟨by show 0 ≤ sizeLine; decide, fun q2 H13 S13 n13 h13 => ⟨_, _, rfl, ?_⟩⟩⟩
          exact hN _ _ ⟨q1, q2, [], [], rfl, S13 _ _ h12, h13, fun _ h => absurd h List.not_mem_nil, fun _ h => absurd h List.not_mem_nil, by decide, by decide, (ne_of_none hrl11 n12).symm, (ne_of_none (S12 _ _ hrl11) n13).symm, S12.trans S13⟩
        · exact hN _ _ ⟨sp, st, sz, tz, rfl, hsp11, hst, hsz, htz, by omega, ltz, nsr, ntr, fun _ _ e => e⟩
      rintro σ' H12 ⟨s', t', sz', tz', rfl, hs', ht', hsz', htz', lsz', ltz', ns', nt', S12⟩
      have hrl12 := S12 _ _ hrl11
      have hp12 := hp11.same S12
      have hs12 := hs11.same S12
      have hdu12 := S12 _ _ hdu11
      have lts : ts.length = i := by
        have h1 := hs.length
        have h2 := congrArg List.length hnm
        rw [List.length_map, List.length_take] at h2
        omega
      refine ⟨_, rfl, .inl ⟨rfl, _, SqL.of hrl12⟩, ?_⟩
      refine ⟨_, rfl, _, rfl, _, rfl, by show 3 ≤ sizeLine; decide, fun rw_ H13 S13 n13 h13 => ?_⟩
      have hrl13 := S13 _ _ hrl12
      have nwr : rw_ ≠ rl := (ne_of_none hrl12 n13).symm
      refine ⟨rl, _, _, rfl, rfl, hrl13, by rw [List.length_map, lts, sizeLine_eq]; omega, ?_⟩
      dsimp only
      have off : ∀ {c : Addr} {o u : HO}, c ≠ rl → H13 c = some o → (upd H13 rl u) c = some o := fun n e => by rw [upd_ne n]; exact e
      have rows14 : SdsAt (upd H13 rl (.lst (ts.map V.ref ++ [V.ref rw_]))) (ts ++ [rw_]) (xs ++ [(nm, sz', tz')]) :=
        paired_snoc (SdsAt.off (v := .lst []) hs12 hrl12 hts fun c o n e => off n (S13 _ _ e)) ⟨s', t', off nwr h13, off ns' (S13 _ _ hs'), off nt' (S13 _ _ ht')⟩
      have rl14 : (upd H13 rl (.lst (ts.map V.ref ++ [V.ref rw_]))) rl = some (.lst ((ts ++ [rw_]).map V.ref)) := by rw [upd_same, List.map_append]; rfl
      have hp14 : PurseAt (upd H13 rl (.lst (ts.map V.ref ++ [V.ref rw_]))) a (n + 200 * (many - (i + 1)) + 70) := purse_upd ((hp12.same S13)) nra
      have hp14 : PurseAt (upd H13 rl (.lst (ts.map V.ref ++ [V.ref rw_]))) a (n + 200 * (many - (i + 1))) := hp14.less (by omega)
      have s14 : (upd H13 rl (.lst (ts.map V.ref ++ [V.ref rw_]))) s' = some (.lst (sz'.map V.str)) := off ns' (S13 _ _ hs')
      have t14 : (upd H13 rl (.lst (ts.map V.ref ++ [V.ref rw_]))) t' = some (.lst (tz'.map V.str)) := off nt' (S13 _ _ ht')
      have du14 : (upd H13 rl (.lst (ts.map V.ref ++ [V.ref rw_]))) du = some (.lst (dz.map V.str)) := off ndr (S13 _ _ hdu12)
      have fr14 : ∀ c o, c ≠ a → c ≠ rl → H3 c = some o → (upd H13 rl (.lst (ts.map V.ref ++ [V.ref rw_]))) c = some o := fun c o nc nr ec => off nr (S13 _ _ (S12 _ _ (Sall _ _ nc (S4 _ _ nc nr ec))))
      generalize upd H13 rl (.lst (ts.map V.ref ++ [V.ref rw_])) = H14 at rows14 rl14 hp14 s14 t14 du14 fr14 ⊢
      have hts' : ∀ t ∈ ts ++ [rw_], t ≠ rl := fun t ht => (List.mem_append.mp ht).elim (hts t) fun q => by rw [List.mem_singleton.mp q]; exact nwr
      have hnm' : (xs ++ [(nm, sz', tz')]).map (·.1) = names.take (i + 1) := by rw [List.map_append, hnm, take_snoc hnmi]; rfl
      have hro' : ∀ x ∈ xs ++ [(nm, sz', tz')], RowOk x := fun x hx => (List.mem_append.mp hx).elim (hro x) fun q => by
        rw [List.mem_singleton.mp q]
        exact ⟨hsz', htz', lsz', ltz'⟩
      refine ⟨_, rfl, by show 0 ≤ sizeLine; decide, fun q1 H15 S15 n15 h15 => ⟨.list (sz'.map PyData.str), .list [], .lst (SqL.of (S15 _ _ s14)) (dp_strs _), .lst (SqL.of h15) .nil, shaped_strs _ (fun z hz => strOk_of (let_L8 z (hsz' z hz))), by decide, _, rfl, ?_⟩⟩
      have fin : ∀ (H' : Hp) (d : Addr) (dz' : List Str), Same H14 H' → H' d = some (.lst (dz'.map V.str)) → (∀ z ∈ dz', z ∈ L8) → dz'.length ≤ 6 → d ≠ rl → _ := fun H' d dz' S hd hz hl hn =>
        (⟨d, dz', ts ++ [rw_], xs ++ [(nm, sz', tz')], _, _, _, _, rfl, hd, hz, hl, hn, S _ _ rl14, rows14.same S, hts', hnm', hro', hp14.same S, fun c o nc nr ec => S _ _ (fr14 c o nc nr ec)⟩ :
          ∃ (du : Addr) (dz : List Str) (ts : List Addr) (xs : List Sd) (u5 u6 u7 u8 : Option V), [some (V.ref a), some (.int many), some (.int often), some (.ref rl), some (.ref d), some (.str nm), some (.ref e), some (.ref s'), some (.ref t')] = [some (.ref a), some (.int many), some (.int often), some (.ref rl), some (.ref du), u5, u6, u7, u8] ∧ H' du = some (.lst (dz.map V.str)) ∧ (∀ z ∈ dz, z ∈ L8) ∧ dz.length ≤ 6 ∧ du ≠ rl ∧
        H' rl = some (.lst (ts.map V.ref)) ∧ SdsAt H' ts xs ∧ (∀ t ∈ ts, t ≠ rl) ∧ xs.map (·.1) = names.take (i + 1) ∧ (∀ x ∈ xs, RowOk x) ∧ PurseAt H' a (n + 200 * (many - (i + 1))) ∧ ∀ c o, c ≠ a → c ≠ rl → H3 c = some o → H' c = some o)
      cases hb : (!PyData.eqv (.list (sz'.map PyData.str)) (.list [])) with
      | false => exact iteF ⟨_, rfl, fin H15 du dz S15 (S15 _ _ du14) hdz ldz ndr⟩
      | true =>
        refine iteT (B := False) ⟨_, rfl, _, rfl, t', s', _, _, rfl, rfl, S15 _ _ t14, S15 _ _ s14, by rw [List.length_map, List.length_map, sizeLine_eq]; omega, fun c H16 S16 n16 h16 => ?_⟩
        rw [← List.map_append] at h16
        refine ⟨6, rfl, c, _, rfl, SqL.of h16, fun d H17 S17 n17 h17 => ?_⟩
        have ec : cutV ((tz' ++ sz').map V.str) none (some 6) = ((tz' ++ sz').take 6).map V.str := by
          unfold cutV
          rw [show (some (6 : Int)) = some ((6 : Nat) : Int) from rfl, HT.sIx_nat, HT.sIx_none, List.map_take, List.drop_zero]
          refine List.take_eq_take_iff.mpr ?_
          omega
        rw [ec] at h17
        refine fin H17 d _ (S15.trans (S16.trans S17)) h17 (fun z hz => (List.mem_append.mp (List.mem_of_mem_take hz)).elim (htz' z) (hsz' z)) (by rw [List.length_take]; omega) (ne_of_none (S16 _ _ (S15 _ _ rl14)) n17).symm
    · rintro σ' H4 ⟨du, dz, ts, xs, u5, u6, u7, u8, rfl, hdu, hdz, ldz, ndr, hrl, hs, hts, hnm, hro, hpu, S4⟩
      rw [List.length_map, List.take_length] at hnm
      have lx : xs.length = many := by rw [← ln, ← hnm, List.length_map]
      have ne : xs ≠ [] := fun c => by rw [c] at lx; simp at lx; omega
      refine ⟨_, rfl, k rl ts xs H4 hrl hs (rows_ok hnm hn nd hro ne (by omega)) hro lx (fun x hx => hn _ (by rw [← hnm]; exact List.mem_map.mpr ⟨x, hx, rfl⟩)) n1 (hpu.less (by omega)) fun c o nc e => ?_⟩
      exact S4 _ _ nc (ne_of_none e n1) (S3 _ _ nc (S2 _ _ (S1 _ _ e)))
end
end E4

set_option Elab.async false
set_option linter.all false
set_option maxRecDepth 100000
set_option maxHeartbeats 1000000
/-! _law_used, _law_sizes -/
namespace E4
open PySem PySem.Spec PyProof.Rows L2
open C8 (Cal Mak Met InsC pe_c pe_mt pe_mt0 call_isC clsBody)
open E3 (PurseAt spPurse spMixed spDraw)
abbrev sUsed : Stmt := top 47
abbrev sSizesL : Stmt := top 48
/-- z stands in a product of these sides -/
def InLets (xs : List Sd) (z : Str) : Prop := ∃ x ∈ xs, z ∈ x.2.1 ∨ z ∈ x.2.2
def spUsed (K : PySem.W.Frag) : Sp := fun vs H Q _ => ∃ (l : Addr) (ts : List Addr) (xs : List Sd), vs = [.ref l] ∧ SqL K H l (ts.map V.ref) ∧ SdsAt H ts xs ∧ (∀ x ∈ xs, RowOk x) ∧ xs.length ≤ 8 ∧
  ∀ (us : List Str) q H', us.Nodup → sortedS us = true → us.length ≤ 100 → (∀ z, z ∈ us ↔ InLets xs z) → H' q = some (.lst (us.map V.str)) → H q = none → Same H H' → Q (.ref q) H'
section
variable {P : Program} {w : World} {K : PySem.W.Frag} {mg : Str → Option Value} {base : Heap}
theorem scUsed : FnScope ["_law_rows", "_law_found", "_law_word", "_law_span", "_law_step", "_law_one"] ["_law_rows"] (defScope sUsed) := ⟨rfl, rfl, rfl, by decide +kernel, rfl, by decide +kernel, by decide +kernel⟩
theorem ok_used {f : Addr} {fd : FuncData} (F : Fun K "_law_used" "_law_used" sUsed f fd) (B : Bl mg) : FnOk P w K mg base CX0 1 f fd ["_law_rows"] (spUsed K) := by
  refine F.ok scUsed (fun vs H Q E h => ?_) (fun cdv A outer s H vs Q E hr h => ?_)
  · obtain ⟨l, ts, xs, rfl, _⟩ := h
    rfl
  · obtain ⟨l, ts, xs, rfl, hl, hx, ok, l8, k⟩ := h
    refine ⟨_, pss_cons (ps_set (i := 1) scUsed.nd rfl (Or.inr rfl) (pe_lstS pa_nil))
      (pss_cons (ps_for PassesOwn.never rfl (pi_list (pv 0)) (pg_tup rfl (pgs_cons (pg_name (i := 2) scUsed.nd rfl (Or.inl rfl)) (pgs_cons (pg_name (i := 3) scUsed.nd rfl (Or.inl rfl)) (pgs_cons (pg_name (i := 4) scUsed.nd rfl (Or.inl rfl)) pgs_nil))))
        (pss_one (ps_set (i := 1) scUsed.nd rfl (Or.inr rfl) (pe_op op_catS (pv 1) (pe_lc (own := [("_law_one", 5)]) (g := gName 5) (tt := tTest (tOp (rIn K true) (tVar 5) (tVar 1))) (te := tVar 5) rfl scUsed.nd (pi_list (pe_op op_catS (pv 3) (pv 4)))
          (blkOk_by (own := [("_law_one", 5)]) (N := ["_law_rows", "_law_found", "_law_word", "_law_span", "_law_step", "_law_one"]) (sc := defScope sUsed) (by decide +kernel))
          (fun _ _ _ _ _ => pg_name (i := 5) scUsed.nd rfl (Or.inl rfl)) (fun _ _ _ _ _ => by exact pts_one (pt_cmpR op_notIn_seq (pv 5) (pv 1) (by rfl))) (fun _ _ _ _ _ => pv 5))))))
      (pss_one (ps_ret (pe_callB (cr_sortedSS rfl) (by rfl) B.srt_ (by decide +kernel) (pa_cons (pe_callTy (cr_setLS rfl) (by rfl) B.set_ (by decide +kernel) (pa_cons (pv 1) pa_nil)) pa_nil))))), ?_⟩
    have lt := hx.length
    refine seq_asg ⟨by show 0 ≤ sizeLine; decide, fun d0 H1 S1 n1 h1 => ?_⟩
    refine ⟨_, rfl, l, rfl, ⟨_, hl.same S1⟩, for_it (walk_list (xs := ts.map V.ref)) (fun i σ' H' => ∃ d fz u2 u3 u4 u5, σ' = [some (.ref l), some (.ref d), u2, u3, u4, u5] ∧ Same H H' ∧ H' d = some (.lst (fz.map V.str)) ∧ fz.length ≤ 11 * i ∧ ∀ z, z ∈ fz ↔ InLets (xs.take i) z) ⟨d0, [], none, none, none, none, rfl, S1, h1, by decide, fun z => ⟨fun h => absurd h List.not_mem_nil, fun ⟨x, hx, _⟩ => absurd hx List.not_mem_nil⟩⟩ (fun i σ' H' _ q => let ⟨_, _, _, _, _, _, _, S, _⟩ := q; hl.same S) ?_ ?_⟩
    · rintro i v σ' H2 H3 hi ⟨d, fz, u2, u3, u4, u5, rfl, S2, hd, lf, hf⟩ ⟨rfl, hxi⟩
      rw [List.length_map] at hi
      rw [List.getElem?_map] at hxi
      obtain ⟨t, htt, rfl⟩ := Option.map_eq_some_iff.mp hxi
      obtain ⟨y, hy, c1, c2, r0, r1, r2⟩ := paired_at hx htt
      obtain ⟨y1, y2, y3, y4⟩ := ok y (List.mem_of_getElem? hy)
      refine ⟨t, _, rfl, SqT.of (S2 _ _ r0), rfl, _, _, rfl, _, _, rfl, _, _, rfl, rfl, ?_⟩
      refine ⟨_, rfl, _, rfl, _, rfl, c1, c2, _, _, rfl, rfl, S2 _ _ r1, S2 _ _ r2, by rw [List.length_map, List.length_map, sizeLine_eq]; omega, fun c H4 S4 nc hc => ?_⟩
      rw [← List.map_append] at hc
      have hd4 := S4 _ _ hd
      refine ⟨c, rfl, ⟨_, SqL.of hc⟩, fun D nD => ?_⟩
      refine lc_it (walk_list (xs := (y.2.1 ++ y.2.2).map V.str)) (fun j H' => Same H4 H' ∧ H' D = some (.lst ((((y.2.1 ++ y.2.2).take j).filter fun p => decide (p ∉ fz)).map V.str))) ⟨Same.upd nD, upd_same⟩ (fun j H' _ q => SqL.of (q.1 _ _ hc)) ?_ ?_
      · rintro j v H5 H6 hj ⟨S5, hD⟩ ⟨rfl, hxj⟩
        rw [List.length_map] at hj
        rw [List.getElem?_map] at hxj
        obtain ⟨p, hp2, rfl⟩ := Option.map_eq_some_iff.mp hxj
        have e := take_snoc hp2
        refine ⟨rfl, _, rfl, _, rfl, d, _, rfl, .inl (SqL.of (S5 _ _ hd4)), rfl, flat_strs _, ?_⟩
        show ∃ k, V.bl (!inV (.str p) (fz.map V.str)) = V.bl k ∧ _
        rw [inV_str]
        refine ⟨_, rfl, ?_⟩
        by_cases cc : p ∈ fz
        · refine ifF (by rw [decide_eq_true cc]; rfl) ⟨S5, ?_⟩
          rw [e, List.filter_append, List.filter_cons_of_neg (by simp [cc]), List.filter_nil, List.append_nil]
          exact hD
        · refine ifT (by rw [decide_eq_false cc]; rfl) ⟨_, rfl, _, hD, ?_, ?_, ?_⟩
          · have := List.length_filter_le (fun p => decide (p ∉ fz)) ((y.2.1 ++ y.2.2).take j)
            rw [List.length_take] at this
            rw [List.length_append] at hj
            rw [List.length_map, sizeLine_eq]
            omega
          · intro c o ec
            rw [upd_ne (ne_of_none ec nD)]
            exact S5 _ _ ec
          · rw [upd_same, e, List.filter_append, List.filter_cons_of_pos (by simp [cc]), List.filter_nil, List.map_append]
            rfl
      · rintro H5 ⟨S5, hD⟩
        rw [List.length_map, List.take_length] at hD
        have lfl := List.length_filter_le (fun p => decide (p ∉ fz)) (y.2.1 ++ y.2.2)
        rw [List.length_append] at lfl
        refine ⟨d, D, _, _, rfl, rfl, S5 _ _ hd4, hD, by rw [List.length_map, List.length_map, sizeLine_eq]; omega, fun e H6 S6 ne he => ?_⟩
        rw [← List.map_append] at he
        refine ⟨e, _, _, _, _, _, rfl, S2.trans (S4.trans (S5.trans S6)), he, by rw [List.length_append]; omega, fun z => ?_⟩
        rw [List.mem_append, List.mem_filter, take_snoc hy]
        constructor
        · rintro (h | ⟨h, _⟩)
          · obtain ⟨x, hx1, h⟩ := (hf z).mp h
            exact ⟨x, List.mem_append.mpr (.inl hx1), h⟩
          · exact ⟨y, List.mem_append.mpr (.inr List.mem_cons_self), List.mem_append.mp h⟩
        · rintro ⟨x, hx1, h⟩
          by_cases cc : z ∈ fz
          · exact .inl cc
          · rcases List.mem_append.mp hx1 with q | q
            · exact .inl ((hf z).mpr ⟨x, q, h⟩)
            · rw [List.mem_singleton.mp q] at h
              exact .inr ⟨List.mem_append.mpr h, by simp [cc]⟩
    · rintro σ' H2 ⟨d, fz, u2, u3, u4, u5, rfl, S2, hd, lf, hf⟩
      rw [List.length_map, lt, List.take_length] at hf
      rw [List.length_map, lt] at lf
      have sb : ∀ i, (putAll [] (fz.take i)).length + 1 < scanBound := fun i => by
        have h1 := len_putAll (fz.take i) []
        rw [List.length_take] at h1
        have : (88 : Nat) + 1 < scanBound := by decide
        simp only [List.length_nil] at h1
        omega
      refine ⟨_, rfl, d, fz, rfl, SqL.of hd, sb, fun sa nsa => ?_⟩
      refine ⟨sa, _, rfl, upd_same, fun ys pm nd so p H3 S3 np hp => ?_⟩
      have S23 : Same H2 H3 := (Same.upd nsa).trans S3
      have h1 := len_putAll fz []
      simp only [List.length_nil] at h1
      refine k ys p H3 (pm.nodup_iff.mpr nd) so (by rw [pm.length_eq]; omega) (fun z => ?_) hp ((S2.trans (Same.upd nsa)).free np) (S2.trans S23)
      rw [pm.mem_iff, mem_putAll, ← hf z]
      exact ⟨fun h => h.elim (fun q => absurd q List.not_mem_nil) id, .inr⟩
def spSizesL (K : PySem.W.Frag) : Sp := fun vs H Q _ => ∃ (a l : Addr) (ts : List Addr) (xs : List Sd) (most : Int) (n : Nat), vs = [.ref a, .ref l, .int most] ∧ PurseAt H a (n + 1000) ∧ H l = some (.lst (ts.map V.ref)) ∧ SdsAt H ts xs ∧ (∀ x ∈ xs, RowOk x) ∧ xs.length ≤ 8 ∧ 1 ≤ most ∧ most < 2 ^ 100 ∧
  ∀ (vl : Vls) q H', (∀ z, z ∈ vl.map (·.1) ↔ InLets xs z) → (∀ x ∈ vl, 1 ≤ x.2 ∧ x.2 ≤ most) → vl.length ≤ 100 → H' q = some (.dK (dI vl)) → H q = none → PurseAt H' a n → SameB a H H' → Q (.ref q) H'
theorem scSizesL : FnScope ["_law_purse_here", "_law_rows", "_law_most", "_law_found", "_law_one"] ["_law_purse_here", "_law_rows", "_law_most"] (defScope sSizesL) := ⟨rfl, rfl, rfl, by decide +kernel, rfl, by decide +kernel, by decide +kernel⟩
theorem ok_sizesL {f : Addr} {fd : FuncData} (F : Fun K "_law_sizes" "_law_sizes" sSizesL f fd) (D : Cal P w K mg base 2 "_law_draw" spDraw []) (Sh : Cal P w K mg base 3 "_law_shuffled" (spShuf K) []) (Us : Cal P w K mg base 1 "_law_used" (spUsed K) []) : FnOk P w K mg base CX0 4 f fd ["_law_purse_here", "_law_rows", "_law_most"] (spSizesL K) := by
  refine F.ok scSizesL (fun vs H Q E h => ?_) (fun cdv A outer s H vs Q E hr h => ?_)
  · obtain ⟨a, l, ts, xs, most, n, rfl, _⟩ := h
    rfl
  · obtain ⟨a, l, ts, xs, most, n, rfl, hp, hl, hx, ok, l8, m1, m2, k⟩ := h
    have ul := Nat.lt_of_le_of_lt (Nat.add_le_add_left (by decide : 1 ≤ 64) _) hr.units
    refine ⟨_, pss_cons (ps_set (i := 3) scSizesL.nd rfl (Or.inl rfl) pe_dnewS)
      (pss_cons (ps_for PassesOwn.never rfl (pi_list (pe_c Sh hr (by decide) rfl (pa_cons (pv 0) (pa_cons (pe_c Us hr (by decide) rfl (pa_cons (pv 1) pa_nil)) pa_nil)))) (pg_name (i := 4) scSizesL.nd rfl (Or.inl rfl))
        (pss_one (ps_dput ul (pv 3) (pv 4) (pe_op op_add pe_int (pe_c D hr (by decide) rfl (pa_cons (pv 0) (pa_cons (pv 2) pa_nil)))) rfl)))
      (pss_one (ps_ret (pv 3)))), ?_⟩
    refine seq_asg fun d0 H1 S1 n1 h1 => ?_
    have nda : d0 ≠ a := purse_none hp n1
    have hp1 := hp.same S1
    refine ⟨_, rfl, _, rfl, l, ts, xs, rfl, SqL.of (S1 _ _ hl), hx.same S1, ok, l8, fun us u0 H2 ndu _ lu hu h2 n2 S2 => ?_⟩
    refine ⟨a, u0, us, n + 400, rfl, (hp1.same S2).less (by omega), h2, by omega, fun ys y0 H3 pm h3 n3 hp3 S3 => ?_⟩
    have hd2 := S2 _ _ h1
    have hd3 := S3 _ _ nda hd2
    have ny : y0 ≠ d0 := (ne_of_none hd2 n3).symm
    have nya : y0 ≠ a := purse_str hp3 h3
    have ly : ys.length ≤ 100 := by rw [pm.length_eq]; exact lu
    refine ⟨y0, rfl, ⟨_, SqL.of h3⟩, for_it (walk_list (xs := ys.map V.str)) (fun i σ' H' => ∃ u vl, σ' = [some (.ref a), some (.ref l), some (.int most), some (.ref d0), u] ∧ H' d0 = some (.dK (dI vl)) ∧ vl.map (·.1) = ys.take i ∧ (∀ x ∈ vl, 1 ≤ x.2 ∧ x.2 ≤ most) ∧ PurseAt H' a (n + 4 * (100 - i)) ∧ ∀ c o, c ≠ a → c ≠ d0 → H3 c = some o → H' c = some o) ⟨none, [], rfl, hd3, rfl, fun _ h => absurd h List.not_mem_nil, hp3.less (by omega), fun _ _ _ _ e => e⟩ (fun i σ' H' _ q => let ⟨_, _, _, _, _, _, _, S⟩ := q; SqL.of (S _ _ nya ny h3)) ?_ ?_⟩
    · rintro i v σ' H4 H5 hi ⟨u, vl, rfl, hd, hk, hv, hpu, S4⟩ ⟨rfl, hxi⟩
      rw [List.length_map] at hi
      rw [List.getElem?_map] at hxi
      obtain ⟨z, hz, rfl⟩ := Option.map_eq_some_iff.mp hxi
      refine ⟨_, rfl, _, rfl, a, most, n + 4 * (100 - (i + 1)), rfl, hpu.less (by omega), m1, m2, fun r H6 r0 r1 hp6 S6 => ⟨_, _, rfl, rfl, ?_⟩⟩
      have hd6 := S6 _ _ nda hd
      have ndy : ys.Nodup := pm.nodup_iff.mpr ndu
      have nin : z ∉ vl.map (·.1) := fun c => by
        rw [hk] at c
        obtain ⟨j, hj⟩ := List.mem_iff_getElem?.mp c
        have hj2 : j < i := by
          have := (List.getElem?_eq_some_iff.mp hj).1
          rw [List.length_take] at this
          omega
        rw [List.getElem?_take_of_lt hj2] at hj
        have := (List.getElem?_inj (i := j) (j := i) (by omega) ndy).mp (hj.trans hz.symm)
        omega
      have lv : vl.length = i := by
        have := congrArg List.length hk
        rw [List.length_map, List.length_take] at this
        omega
      refine ⟨_, rfl, _, rfl, d0, _, rfl, DPut.k (k := Sum.inr z) hd6 (by rw [len_dI, lv, sizeLine_eq]; omega), ?_⟩
      refine ⟨_, setI vl z (1 + r), rfl, by rw [upd_same, putK_dI], ?_, ?_, purse_upd hp6 nda, fun c o nc nd e => by rw [upd_ne nd]; exact S6 _ _ nc (S4 _ _ nc nd e)⟩
      · rw [keys_set_new nin, List.map_append, hk, take_snoc hz]
        rfl
      · rw [keys_set_new nin]
        intro x hx1
        rcases List.mem_append.mp hx1 with q | q
        · exact hv x q
        · rw [List.mem_singleton.mp q]
          show 1 ≤ 1 + r ∧ 1 + r ≤ most
          omega
    · rintro σ' H4 ⟨u, vl, rfl, hd, hk, hv, hpu, S4⟩
      rw [List.length_map, List.take_length] at hk
      refine ⟨_, rfl, k vl d0 H4 (fun z => ?_) hv ?_ hd n1 (hpu.less (by omega)) fun c o nc e => ?_⟩
      · rw [hk, pm.mem_iff]
        exact hu z
      · have := congrArg List.length hk
        rw [List.length_map] at this
        omega
      · exact S4 _ _ nc (ne_of_none e n1) (S3 _ _ nc (S2 _ _ (S1 _ _ e)))
end
end E4

set_option Elab.async false
set_option linter.all false
set_option maxRecDepth 100000
set_option maxHeartbeats 1000000
/-! list.count of a text -/
namespace L2
open PySem PySem.Spec PyProof.Rows
end L2

set_option Elab.async false
set_option linter.all false
set_option maxRecDepth 100000
set_option maxHeartbeats 1000000
/-! _law_fits, _law_chained -/
namespace E4
open PySem PySem.Spec PyProof.Rows L2
open C8 (Cal Mak Met InsC pe_c pe_mt pe_mt0 call_isC clsBody)
section
variable {P : Program} {w : World} {K : PySem.W.Frag} {mg : Str → Option Value} {base : Heap}
theorem cut_drop (xs : List V) (k : Nat) : cutV xs (some ((k : Nat) : Int)) none = xs.drop k := by
  unfold cutV
  rw [HT.sIx_nat, HT.sIx_none]
  rcases Nat.lt_or_ge k xs.length with h | h
  · rw [Nat.min_eq_left (by omega), List.take_of_length_le (by rw [List.length_drop]; exact Nat.le_refl _)]
  · rw [Nat.min_eq_right h, List.drop_of_length_le (Nat.le_refl _), List.drop_of_length_le h, List.take_nil]
end
end E4

set_option Elab.async false
set_option linter.all false
set_option maxRecDepth 100000
set_option maxHeartbeats 1000000
/-! rows any two of which go one into the other: their cells have places of their own -/
namespace E4
open PySem PySem.Spec PyProof.Rows L2
open PySem.W (dataLe)
end E4

set_option Elab.async false
set_option linter.all false
set_option maxRecDepth 100000
set_option maxHeartbeats 1000000
/-! law_k55's law -/
namespace E4
open PySem PySem.Spec PyProof.Rows L2
open C8 (Cal Mak Met InsC pe_c pe_mt pe_mt0 call_isC clsBody)
open E3 (PurseAt spPurse spMixed spDraw)
open LamX (Tabs ExtN TabB CodeO)
abbrev sLaw : Stmt := top 57
def kv1 : List V → List V → List V := fun vs zs => match vs, zs with
  | [], [x] => [x]
  | _, _ => []
def spLaw (T : List (Addr × Str)) (K : PySem.W.Frag) : Sp := fun vs H Q _ => ∃ (sc : Addr) (ns : List Int), vs = [.ref sc] ∧ SqL K H sc (ns.map V.int) ∧ ns.length ≤ 63 ∧ Tabs T H ∧ ∀ H', Q (.bl true) H'
theorem tabsP {T : List (Addr × Str)} {p : Addr} {n : Nat} {H H' : Hp} (t : Tabs T H) (hp : PurseAt H p n) (S : SameB p H H') : Tabs T H' := fun u hu => by
  obtain ⟨p0, p1, p2, hD, _⟩ := hp
  obtain ⟨ps, h1, h2, h3⟩ := t u hu
  exact ⟨ps, S _ _ (ne_of h1 hD (by intro w; cases w)) h1, h2, fun pos cv e => let ⟨c, e1, e2⟩ := h3 pos cv e; ⟨c, e1, S _ _ (ne_of e2 hD (by unfold CodeO; intro w; cases w)) e2⟩⟩
theorem PurseAt.ext {p : Addr} {n : Nat} {H H' : Hp} (h : PurseAt H p n) (S : ExtN H H') : PurseAt H' p n :=
  let ⟨p0, p1, p2, h1, r⟩ := h; ⟨p0, p1, p2, S _ _ h1 (fun _ z => nomatch z), r⟩
theorem dp_ints {K : PySem.W.Frag} {H : Hp} : ∀ l : List Int, DpAll K H (l.map V.int) (l.map PyData.int)
  | [] => .nil
  | _ :: l => .cons (.int _) (dp_ints l)
theorem lay_ints : ∀ l : List Int, PyData.canLayAll0 (l.map PyData.int) = true
  | [] => rfl
  | _ :: l => by simpa [PyData.canLayAll0, PyData.canLay0] using lay_ints l
theorem dep_ints : ∀ l : List Int, PyData.depthAll (l.map PyData.int) = 0
  | [] => rfl
  | x :: l => by
    show max (PyData.depth (.int x)) (PyData.depthAll (l.map PyData.int)) = 0
    rw [dep_ints l]
    rfl
end E4

set_option Elab.async false
set_option linter.all false
set_option maxRecDepth 100000
set_option maxHeartbeats 1000000
/-! _law_times, _law_spot -/
namespace E4
open PySem PySem.Spec PyProof.Rows L2
open C8 (Cal Mak Met InsC pe_c pe_mt pe_mt0 call_isC clsBody)
open E3 (PurseAt spPurse spMixed spDraw)
abbrev sTimes : Stmt := top 46
abbrev sSpot : Stmt := top 49
/-- values of letters: small whole numbers from 1 on -/
structure ValsOk (vl : Vls) (xs : List Sd) : Prop where
  mem : ∀ x ∈ xs, ∀ z, z ∈ x.2.1 ∨ z ∈ x.2.2 → z ∈ vl.map (·.1)
  bd : AllV (fun n => 1 ≤ n ∧ n.natAbs < 2 ^ 400) vl
abbrev tm (vl : Vls) (m : List Str) : Int := prodI (m.map (gOf vl))
theorem val_at {vl : Vls} {p : Int → Prop} (ha : AllV p vl) {z : Str} (hz : z ∈ vl.map (·.1)) : valV (dI vl) (Sum.inr z) = some (.int (gOf vl z)) ∧ p (gOf vl z) := by
  obtain ⟨e1, e2⟩ := gOf_at rfl ha hz
  exact ⟨by rw [valV_dI, e1]; rfl, e2⟩
theorem tm_pos {vl : Vls} {m : List Str} (ha : AllV (fun n => 1 ≤ n ∧ n.natAbs < 2 ^ 400) vl) (h : ∀ z ∈ m, z ∈ vl.map (·.1)) : 1 ≤ tm vl m := prod_pos fun z hz => (val_at ha (h z hz)).2.1
theorem tm_lt {vl : Vls} {m : List Str} (ha : AllV (fun n => 1 ≤ n ∧ n.natAbs < 2 ^ 400) vl) (h : ∀ z ∈ m, z ∈ vl.map (·.1)) : (tm vl m).natAbs < 2 ^ (1 + m.length * 400) := prod_lt _ _ fun z hz => (val_at ha (h z hz)).2.2
theorem tm_append (vl : Vls) (a b : List Str) : tm vl (a ++ b) = tm vl a * tm vl b := by unfold tm; rw [List.map_append, prodI_append]
def spTimes (K : PySem.W.Frag) : Sp := fun vs H Q _ => ∃ (t d : Addr) (m : List Str) (vl : Vls), vs = [.ref t, .ref d] ∧ SqL K H t (m.map V.str) ∧ H d = some (.dK (dI vl)) ∧ (∀ z ∈ m, z ∈ vl.map (·.1)) ∧ AllV (fun n => 1 ≤ n ∧ n.natAbs < 2 ^ 400) vl ∧ m.length ≤ 1000 ∧ Q (.int (tm vl m)) H
/-- the place of a cell -/
def spotI (vl : Vls) (xs : List Sd) (cs : List Int) : Int := ((xs.zip cs).map fun p => p.2 * tm vl p.1.2.2).sum
def spSpot (K : PySem.W.Frag) : Sp := fun vs H Q _ => ∃ (l d c : Addr) (ts : List Addr) (xs : List Sd) (vl : Vls) (cs : List Int), vs = [.ref l, .ref d, .ref c] ∧ SqL K H l (ts.map V.ref) ∧ SdsAt H ts xs ∧ H d = some (.dK (dI vl)) ∧ ValsOk vl xs ∧ (∀ x ∈ xs, RowOk x) ∧ xs.length ≤ 8 ∧
  SqL K H c (cs.map V.int) ∧ cs.length = xs.length ∧ (∀ i ∈ cs, i.natAbs < 2 ^ 4000) ∧ ∀ H', Same H H' → Q (.int (spotI vl xs cs)) H'
section
variable {P : Program} {w : World} {K : PySem.W.Frag} {mg : Str → Option Value} {base : Heap}
theorem scTimes : FnScope ["_law_product", "_law_sizes_here", "_law_found", "_law_one"] ["_law_product", "_law_sizes_here"] (defScope sTimes) := ⟨rfl, rfl, rfl, by decide +kernel, rfl, by decide +kernel, by decide +kernel⟩
theorem ok_times {f : Addr} {fd : FuncData} (F : Fun K "_law_times" "_law_times" sTimes f fd) : FnOk P w K mg base CX0 1 f fd ["_law_product", "_law_sizes_here"] (spTimes K) := by
  refine F.ok scTimes (fun vs H Q E h => ?_) (fun cdv A outer s H vs Q E hr h => ?_)
  · obtain ⟨t, d, m, vl, rfl, _⟩ := h
    rfl
  · obtain ⟨t, d, m, vl, rfl, ht, hd, hm0, hb, hl, k⟩ := h
    have u1 := Nat.lt_of_le_of_lt (Nat.add_le_add_left (by decide : 1 ≤ 64) _) hr.units
    refine ⟨_, pss_cons (ps_set (i := 2) scTimes.nd rfl (Or.inl rfl) pe_int)
      (pss_cons (ps_for PassesOwn.never rfl (pi_list (pv 0)) (pg_name (i := 3) scTimes.nd rfl (Or.inl rfl)) (pss_one (ps_set (i := 2) scTimes.nd rfl (Or.inl rfl) (pe_op op_mulW (pv 2) (pe_dget u1 (pv 1) (pv 3) (fun _ _ => rfl))))))
      (pss_one (ps_ret (pv 2)))), ?_⟩
    refine seq_asg ⟨_, rfl, t, rfl, ⟨_, ht⟩, for_it (walk_list (xs := m.map V.str)) (fun i σ H' => H' = H ∧ ∃ u, σ = [some (.ref t), some (.ref d), some (.int (tm vl (m.take i))), u]) ⟨rfl, none, rfl⟩ ?_ ?_ ?_⟩
    · rintro i σ H' _ ⟨rfl, _⟩
      exact ht
    · rintro i x σ H1 H2 hi ⟨rfl, u, rfl⟩ ⟨rfl, hx⟩
      rw [List.length_map] at hi
      rw [List.getElem?_map] at hx
      obtain ⟨z, hz, rfl⟩ := Option.map_eq_some_iff.mp hx
      have hm := hm0 z (List.mem_of_getElem? hz)
      have p1 := tm_lt (m := m.take i) hb fun y hy => hm0 y (List.mem_of_mem_take hy)
      have tl : (m.take i).length ≤ 1000 := by rw [List.length_take]; omega
      refine ⟨_, rfl, _, rfl, _, rfl, d, _, rfl, by rw [← (val_at hb hm).1]; exact DGet.k (k := Sum.inr z) hd, _, _, rfl, rfl, cmw p1 (val_at hb hm).2.2 (by omega) (by decide) (by omega), rfl, some (V.str z), ?_⟩
      rw [take_snoc hz, tm_append]
      show _ = [_, _, some (V.int (_ * (gOf vl z * 1))), _]
      rw [Int.mul_one]
      rfl
    · rintro σ H1 ⟨rfl, u, rfl⟩
      rw [List.length_map, List.take_length]
      exact ⟨_, rfl, k⟩
theorem scSpot : FnScope ["_law_rows", "_law_sizes_here", "_law_cell", "_law_at"] ["_law_rows", "_law_sizes_here", "_law_cell"] (defScope sSpot) := ⟨rfl, rfl, rfl, by decide +kernel, rfl, by decide +kernel, by decide +kernel⟩
theorem atI_get {xs : List V} {i : Nat} {v : V} (h : xs[i]? = some v) : atI xs (i : Int) = some v := by
  have hl := (List.getElem?_eq_some_iff.mp h).1
  unfold atI ixN
  rw [if_pos (by omega), if_pos (by omega)]
  exact h
theorem ok_spot {f : Addr} {fd : FuncData} (F : Fun K "_law_spot" "_law_spot" sSpot f fd) (B : E3.Bt4 mg) (Tm : Cal P w K mg base 1 "_law_times" (spTimes K) []) : FnOk P w K mg base CX0 2 f fd ["_law_rows", "_law_sizes_here", "_law_cell"] (spSpot K) := by
  refine F.ok scSpot (fun vs H Q E h => ?_) (fun cdv A outer s H vs Q E hr h => ?_)
  · obtain ⟨l, d, c, ts, xs, vl, cs, rfl, _⟩ := h
    rfl
  · obtain ⟨l, d, c, ts, xs, vl, cs, rfl, hl, hx, hd, vok, ok, l8, hc, lc, cb, k⟩ := h
    refine ⟨_, pss_one (ps_ret (pe_callB (cr_sum rfl) (by rfl) B.sum_ (by decide +kernel) (pa_cons (pe_lc (own := [("_law_at", 3)]) (g := gName 3) (tt := tYes)
        (te := tOp (rI CMulW fun i j => .int (i * j)) (tOp (rIxL K) (tVar 2) (tVar 3)) (tCall (spTimes K) [] C8.E0 (tCons (tOp (rIxT K) (tOp (rIxL K) (tVar 0) (tVar 3)) (tC (.int 2))) (tCons (tVar 1) tNil)))) rfl scSpot.nd
        (pi_range1 rfl B.rng_ (pa_cons (pe_callB call_len_seq (by rfl) B.len_ PySem.boot_len (pa_cons (pv 0) pa_nil)) pa_nil))
        (blkOk_by (own := [("_law_at", 3)]) (N := ["_law_rows", "_law_sizes_here", "_law_cell", "_law_at"]) (sc := defScope sSpot) (by decide +kernel))
        (fun _ _ _ _ _ => pg_name (i := 3) scSpot.nd rfl (Or.inl rfl)) (fun _ _ _ _ _ => pts_nil)
        (fun _ _ _ _ _ => by exact pe_op op_mulW (pe_ix ix_list (pv 2) (pv 3) (fun _ _ => rfl)) (pe_c Tm hr (by decide) rfl (pa_cons (pe_ix ix_tup (pe_ix ix_list (pv 0) (pv 3) (fun _ _ => rfl)) pe_int (fun _ _ => rfl)) (pa_cons (pv 1) pa_nil))))) pa_nil))), ?_⟩
    have lt := hx.length
    have lx : (ts.map V.ref).length = xs.length := by rw [List.length_map]; exact lt
    refine ⟨_, rfl, l, _, rfl, .inl hl, _, rfl, by rw [lx]; omega, by rw [lx]; omega, fun D nD => ?_⟩
    rw [lx, Int.toNat_natCast]
    refine lc_it (walk_range (n := xs.length)) (fun i H' => Same H H' ∧ H' D = some (.lst ((((xs.zip cs).map fun p => p.2 * tm vl p.1.2.2).take i).map V.int))) ⟨Same.upd nD, upd_same⟩ (fun _ _ _ _ => trivial) ?_ ?_
    · rintro i x H2 H3 hi ⟨S2, hD⟩ ⟨rfl, rfl⟩
      have hxi : xs[i]? = some xs[i] := List.getElem?_eq_getElem hi
      have hci : cs[i]? = some cs[i] := List.getElem?_eq_getElem (by omega)
      generalize xs[i] = y at hxi
      generalize cs[i] = n at hci
      obtain ⟨t, ht, c1, c2, r0, r1, r2⟩ := paired_ix hx hxi
      obtain ⟨a1, a2, a3, a4⟩ := ok y (List.mem_of_getElem? hxi)
      have ym : ∀ z ∈ y.2.2, z ∈ vl.map (·.1) := fun z hz => vok.mem y (List.mem_of_getElem? hxi) z (.inr hz)
      have hz : ((xs.zip cs).map fun p => p.2 * tm vl p.1.2.2)[i]? = some (n * tm vl y.2.2) := by rw [List.getElem?_map, show (xs.zip cs)[i]? = some (y, n) from List.getElem?_zip_eq_some.mpr ⟨hxi, hci⟩]; rfl
      refine ⟨rfl, iteT (B := False) ⟨_, rfl, _, rfl, c, _, (0 : Int) + (i : Nat), _, rfl, rfl, hc.same S2, by rw [Int.zero_add]; exact atI_get (by rw [List.getElem?_map, hci]; rfl), ?_⟩⟩
      refine ⟨_, rfl, _, rfl, l, _, (0 : Int) + (i : Nat), _, rfl, rfl, hl.same S2, by rw [Int.zero_add]; exact atI_get (by rw [List.getElem?_map, ht]; rfl), t, _, 2, _, rfl, rfl, SqT.of (S2 _ _ r0), rfl, _, rfl, c2, d, y.2.2, vl, rfl, SqL.of (S2 _ _ r2), S2 _ _ hd, ym, vok.bd, by omega, ?_⟩
      refine ⟨_, _, rfl, rfl, cmw (cb n (List.mem_of_getElem? hci)) (tm_lt vok.bd ym) (by decide) (by omega) (by omega), _, hD, ?_, ?_, ?_⟩
      · rw [List.length_map, List.length_take, sizeLine_eq]
        omega
      · intro b o e
        rw [upd_ne (ne_of_none e nD)]
        exact S2 _ _ e
      · rw [upd_same, take_snoc hz, List.map_append]
        rfl
    · rintro H2 ⟨S2, hD⟩
      have e : ((xs.zip cs).map fun p => p.2 * tm vl p.1.2.2).take xs.length = (xs.zip cs).map fun p => p.2 * tm vl p.1.2.2 := List.take_of_length_le (by rw [List.length_map, List.length_zip]; omega)
      rw [e] at hD
      exact ⟨D, _, rfl, SqL.of hD, k H2 S2⟩
end
end E4

set_option Elab.async false
set_option linter.all false
set_option maxRecDepth 100000
set_option maxHeartbeats 1000000
/-! _law_cells -/
namespace E4
open PySem PySem.Spec PyProof.Rows L2
open C8 (Cal Mak Met InsC pe_c pe_mt pe_mt0 call_isC clsBody)
/-- the number of cells -/
def manyI (vl : Vls) (xs : List Sd) : Int := prodI (xs.map fun x => tm vl x.2.1)
theorem many_snoc (vl : Vls) (xs : List Sd) (x : Sd) : manyI vl (xs ++ [x]) = manyI vl xs * tm vl x.2.1 := by
  unfold manyI
  rw [List.map_append, prodI_append]
  show _ * (tm vl x.2.1 * 1) = _
  rw [Int.mul_one]
theorem many_pos {vl : Vls} {xs : List Sd} (v : ValsOk vl xs) : 1 ≤ manyI vl xs := by
  unfold manyI
  have : ∀ l : List Sd, (∀ x ∈ l, x ∈ xs) → 1 ≤ prodI (l.map fun x => tm vl x.2.1) := by
    intro l
    induction l with
    | nil => intro _; exact Int.le_refl 1
    | cons x l ih =>
      intro h
      have h1 := ih fun y hy => h y (List.mem_cons_of_mem _ hy)
      have h2 := tm_pos (m := x.2.1) v.bd fun z hz => v.mem x (h x List.mem_cons_self) z (.inl hz)
      show 1 ≤ tm vl x.2.1 * prodI (l.map fun x => tm vl x.2.1)
      have := Int.mul_le_mul h2 h1 (by decide) (by omega)
      simpa using this
  exact this xs fun _ h => h
theorem ValsOk.take {vl : Vls} {xs : List Sd} (v : ValsOk vl xs) (i : Nat) : ValsOk vl (xs.take i) := ⟨fun x hx => v.mem x (List.mem_of_mem_take hx), v.bd⟩
theorem many_mono {vl : Vls} {xs : List Sd} (v : ValsOk vl xs) : ∀ (k i : Nat), xs.length = i + k → manyI vl (xs.take i) ≤ manyI vl xs := by
  intro k
  induction k with
  | zero =>
    intro i h
    rw [List.take_of_length_le (by omega)]
    exact Int.le_refl _
  | succ k ih =>
    intro i h
    refine Int.le_trans ?_ (ih (i + 1) (by omega))
    have hx : xs[i]? = some xs[i] := List.getElem?_eq_getElem (by omega)
    generalize xs[i] = x at hx
    have p := tm_pos (m := x.2.1) v.bd fun z hz => v.mem x (List.mem_of_getElem? hx) z (.inl hz)
    have q := many_pos (v.take i)
    rw [take_snoc hx, many_snoc]
    have := Int.mul_le_mul_of_nonneg_left p (by omega : (0 : Int) ≤ manyI vl (xs.take i))
    simpa using this
/-- lists of whole numbers -/
def CsAt (H : Hp) (as : List Addr) (cs : List (List Int)) : Prop := Paired (fun (a : Addr) (c : List Int) => H a = some (.lst (c.map V.int))) as cs
theorem CsAt.imp {H H' : Hp} {as : List Addr} {cs : List (List Int)} (h : CsAt H as cs) (k : ∀ a ∈ as, ∀ o, H a = some o → H' a = some o) : CsAt H' as cs := by
  unfold CsAt at h ⊢
  induction h with
  | nil => exact .nil
  | cons r t ih => exact .cons (k _ List.mem_cons_self _ r) (ih fun z hz => k z (List.mem_cons_of_mem _ hz))
theorem CsAt.same {H H' : Hp} {as : List Addr} {cs : List (List Int)} (h : CsAt H as cs) (S : Same H H') : CsAt H' as cs := h.imp fun a _ o e => S _ _ e
theorem CsAt.app {H : Hp} {as bs : List Addr} {cs ds : List (List Int)} (h : CsAt H as cs) (g : CsAt H bs ds) : CsAt H (as ++ bs) (cs ++ ds) := by
  unfold CsAt at h g ⊢
  induction h with
  | nil => exact g
  | cons r t ih => exact .cons r ih
theorem CsAt.there {H : Hp} {as : List Addr} {cs : List (List Int)} (h : CsAt H as cs) : ∀ a ∈ as, H a ≠ none := by
  unfold CsAt at h
  induction h with
  | nil => exact fun _ h => absurd h List.not_mem_nil
  | cons r t ih =>
    intro a ha
    rcases List.mem_cons.mp ha with rfl | q
    · rw [r]; exact fun z => nomatch z
    · exact ih a q
section
variable {P : Program} {w : World} {K : PySem.W.Frag} {mg : Str → Option Value} {base : Heap}
end
end E4

set_option Elab.async false
set_option linter.all false
set_option maxRecDepth 100000
set_option maxHeartbeats 1000000
/-! sorted(d), d a dict with whole numbers as keys -/
namespace L2
open PySem PySem.Spec PyProof.Rows
section
variable {prog : Program} {w : World} {A : Around} {E : Value → Shared → Prop} {s : Shared} {T : String} {r d : Addr} {n : Nat} {P : Nat → Value → Prop} {OK : Heap → Prop}
end
end L2

set_option Elab.async false
set_option linter.all false
set_option maxRecDepth 100000
/-! set(xs), xs a list of whole numbers; sorted of such a set, of any size -/
namespace L2
open PySem PySem.Spec PyProof.Rows
/-- the set just made -/
abbrev nSet (w : World) : Obj := { cls := .type "set", dict := none, data := .set #[] 0 (.fresh 0 0 (!w.params.followText "set-order")) }
section
variable {P : Program} {w : World} {A : Around} {E : Value → Shared → Prop} {s : Shared} {l : Addr} {items : Array Value} {ns : List Int}
/-- what set.__init__ has done behind its walk -/
abbrev SetDone (w : World) (s : Shared) (ns : List Int) (s₂ : Shared) : Prop := ∃ h' tk c, s₂ = { s with heap := h', toks := tk } ∧ SetR w h' s.heap.objs.size (fun j => decide (j ∈ ns)) c ∧ c ≤ ns.length ∧ ∀ b o, s.heap.get? b = some o → h'.get? b = some o
theorem ints_at (hit : IntsAre items.toList ns) (i : Nat) (v : Value) (hv : items[i]? = some v) : ∃ k t, ns[i]? = some k ∧ v = .int k t := by
  have z : items.size = ns.length := by rw [← Array.length_toList]; exact IntsAre.length hit
  have lt : i < ns.length := z ▸ (Array.getElem?_eq_some_iff.mp hv).1
  obtain ⟨t, e⟩ := hit.int_at i v (by rw [Array.getElem?_toList]; exact hv)
  exact ⟨ns[i], t, List.getElem?_eq_getElem lt, by rw [e, List.getD_eq_getElem?_getD, List.getElem?_eq_getElem lt] <;> rfl⟩
set_option maxHeartbeats 3200000 in
theorem set_init_ints (hh : A.handled = none) (hl : s.heap.IsList l items) (hit : IntsAre items.toList ns) (hb : ns.length + 1 < scanBound) (T : Shared.TypeIs { s with heap := s.heap.push (nSet w) } (.ref s.heap.objs.size) "set") {R : Result → Shared → Prop} (hR : ∀ s₂, SetDone w s ns s₂ → R (.ok (.ret .none)) s₂) :
    wpAny (model P w) A.in1 (Builtin.«set.__init__» ⟨[.ref s.heap.objs.size, .ref l], []⟩) (fun fin s' => match fin with | .done f => R (.ok f) s' | .again c' => c'.quiet = true ∧ codeAny (model P w) A c' R s') (fun e s' => R (.error e) s') { s with heap := s.heap.push (nSet w) } := by
  have hS : (s.heap.push (nSet w)).get? s.heap.objs.size = some (nSet w) := Heap.get?_push_size _ rfl
  obtain ⟨⟨oc, od, dt, osl⟩, hol, rfl, nl, rfl⟩ := hl
  have h1 : (s.heap.push (nSet w)).get? l = some { cls := .type "list", dict := od, data := .seq items nl, slots := osl } := Heap.get?_push_of_some _ hol
  have L1 : (s.heap.push (nSet w)).IsList l items := ⟨_, h1, rfl, nl, rfl⟩
  have lS : l < s.heap.objs.size := Heap.lt_size hol
  have n1 := F.sub_list_set
  have n2 := F.sub_list_frozenset
  have n3 : (Value.type "list" == Value.type "dict") = false := by decide
  have isz : items.size = ns.length := by rw [← Array.length_toList]; exact IntsAre.length hit
  unfold Builtin.«set.__init__» noKeywords Builtin.Frozenset.updateFrom
  generalize hPI : pyIter = PI
  wp_walk
  subst hPI
  refine wpAny_pyIter_list L1 ?_
  refine wpAny_bind (wpAny_runValue ?_)
  have sz : (s.heap.push (nSet w)).objs.size = s.heap.objs.size + 1 := Heap.size_push ..
  have ne1 : l ≠ (s.heap.push (nSet w)).objs.size := by rw [sz]; exact Nat.ne_of_lt (Nat.lt_succ_of_lt lS)
  have nf : s.heap.objs.size ∉ [(s.heap.push (nSet w)).objs.size, l] := by
    rw [sz]
    simp only [List.mem_cons, List.not_mem_nil, or_false, not_or]
    exact ⟨Nat.ne_of_lt (Nat.lt_succ_self _), Nat.ne_of_gt lS⟩
  refine set_update_ints ((Walks.list (by simp [hh]) _ l ne1 items).toS) s.heap.objs.size nf ns isz hb (ints_at hit) (items.size - 0) 0 _ (by omega) (Nat.zero_le _) ⟨⟨_, Heap.get?_push_size _ rfl, rfl, rfl⟩, L1.push _⟩ ⟨0, Nat.le_refl 0, setR_new_at (Heap.get?_push_of_some _ hS)⟩ ?_
  rintro ⟨h', g2, d', tk', os'⟩ c' hm hc' hS'
  obtain rfl : g2 = s.gens := hm.gens
  obtain rfl : d' = s.drawn := hm.drawn
  obtain rfl : os' = s.os := hm.os
  refine wpAny_pure ?_
  refine wpAny_pure (hR _ ⟨h', tk', c', rfl, hS', by omega, fun b o e => ?_⟩)
  have b0 : b < s.heap.objs.size := Heap.lt_size e
  refine hm.heap b o ?_ (Heap.get?_push_of_some _ (Heap.get?_push_of_some _ e))
  simp only [List.mem_cons, List.not_mem_nil, or_false, not_or]
  exact ⟨Nat.ne_of_lt b0, by rw [sz]; exact Nat.ne_of_lt (Nat.lt_succ_of_lt b0)⟩
set_option maxHeartbeats 3200000 in
theorem call_set_ints {Q : Value → Shared → Prop} (hh : A.handled = none) (hl : s.heap.IsList l items) (hit : IntsAre items.toList ns) (hb : ns.length + 1 < scanBound) (h : ∀ s₂, SetDone w s ns s₂ → Q (.ref s.heap.objs.size) s₂) : wpAny (model P w) A (call (.type "set") [.ref l]) Q E s := by
  obtain ⟨c, tl, m1⟩ := F.called_set.mro
  have m2 := F.called_set.made
  have m3 := F.called_set.sub
  have m4 := F.called_set.notType
  have m5 := F.called_set.canCreate
  have m6 := F.typeCall_set_1 (.ref l)
  have T : Shared.TypeIs { s with heap := s.heap.push (nSet w) } (.ref s.heap.objs.size) "set" := ⟨_, Heap.get?_push_size _ rfl, rfl⟩
  have m7 := F.called_set.init.lookup
  have m8 := F.called_set.init.bind (.ref s.heap.objs.size)
  refine wpAny_call (codeAny_of_tree (show wpAny _ _ (callAny (.type "set") _) _ _ _ from wpAny_pure ⟨Code.quiet_builtin _ (by decide +kernel), codeAny_builtin F.entry_type_call ?_⟩))
  rw [Around.under_plain (weight_type_call_type "set" [.ref l] []) rfl]
  repeat (any_goals (first | assumption | wp_step))
  refine codeAny_mono (code_set_led1 (.ref l) (E := E) (Q₁ := fun obj s₁ => obj = .ref s.heap.objs.size ∧ s₁ = { s with heap := s.heap.push (nSet w) }) ⟨rfl, rfl⟩) fun r s₁ hr => ?_
  match r, hr with
  | .error e, hr => exact hr
  | .ok (.ret obj), ⟨e1, e2⟩ =>
    subst e1 e2
    repeat (any_goals (first | assumption | wp_step))
    refine codeAny_mono (codeAny_call_builtin (R := wants (fun r s₂ => r = .none ∧ SetDone w s ns s₂) E) F.called_set.init.plain F.entry_set_init (check_set_init_1 T (set_init_ints (by simp [hh]) hl hit hb T fun s₂ d => ⟨rfl, d⟩))) fun r₂ s₂ hr₂ => ?_
    match r₂, hr₂ with
    | .error e, hr₂ => exact hr₂
    | .ok (.ret r), ⟨e1, d⟩ =>
      subst e1
      repeat (any_goals (first | assumption | wp_step))
      exact h _ d
end
/-- set(xs), ints -/
def rSetLI (K : PySem.W.Frag) (w : World) : List V → Hp → VK → Prop := fun vs H Q => ∃ (a : Addr) (ns : List Int), vs = [V.ref a] ∧ SqL K H a (ns.map V.int) ∧ ns.length + 1 < scanBound ∧ ∀ p c, H p = none → Q (.ref p) (upd H p (SetO w p (fun j => decide (j ∈ ns)) c))
theorem cr_setL {X : Cx} (hc : X.calm = true) : CallR X (.type "set") (rSetLI X.K X.w) := by
  intro pins s σ H vs us Q I r h
  obtain ⟨a, ns, rfl, hs, hz, q⟩ := h
  obtain ⟨its, rv, hl, _⟩ := I.list hs
  rw [Vals.ref1 r]
  refine call_set_ints (P := X.prog) (w := X.w) (I.ok.hd hc) hl.isList (by simpa using rv.ints) hz fun s₂ d => ?_
  obtain ⟨h', tk, c, rfl, R, _, k⟩ := d
  exact ⟨.ref s.heap.objs.size, _, I.laid (t' := tk) k (Nat.le_refl _) (setO_new R), rfl, q _ c (I.hok.fresh (Nat.le_refl _))⟩
/-- sorted(s), s a set of ints -/
def rSortedSL (w : World) : List V → Hp → VK → Prop := fun vs H Q => ∃ (a : Addr) (S : Int → Bool) (n : Nat), vs = [V.ref a] ∧ H a = some (SetO w a S n) ∧ ∀ ns : List Int, ns.Pairwise (· ≤ ·) → ns.Nodup → (∀ k : Int, k ∈ ns ↔ S k = true) → NewQ H (.lst (ns.map V.int)) Q
theorem cr_sortedSL {X : Cx} (hc : X.calm = true) : CallR X (.builtin "sorted") (rSortedSL X.w) := by
  intro pins s σ H vs us Q I r h
  obtain ⟨a, S, n, rfl, ha, q⟩ := h
  obtain ⟨o, es, ep, t, ho, hex, hd, g, nd, hm, hb, hf, _, hr, hl⟩ := setO_get I ha
  rw [Vals.ref1 r]
  refine Calls.call_function_entry kind_sorted plain_sorted entry_sorted (args_sorted1 _) ?_
  unfold Builtin.«sorted»
  refine wpAny_bind (m := checkCount "sorted" 1 1 _) (wpAny_pure ?_)
  refine wpAny_bind (collect_set (I.ok.hd hc) ⟨o, ho, hex.1, hd⟩ hf hb hr hl fun s1 vs k1 hz g1 o1 pm => ?_)
  have hi := ints_of vs fun v hv => by
    obtain ⟨e, he, ev⟩ := List.mem_map.mp (pm.mem_iff.mp hv)
    obtain ⟨k, tk, e1, _⟩ := g e he
    exact ⟨k, tk, ev.symm.trans e1⟩
  have pk := pm.map Builtin.Re.reRawOf
  rw [List.map_map] at pk
  have pk2 : (vs.map Builtin.Re.reRawOf).Perm (es.toList.map keyOf) := pk
  have vz : vs.length ≤ sizeLine := fits_of_scanBound (by rw [pm.length_eq, List.length_map, Array.length_toList]; exact hb)
  refine wpAny_bind (wpAny_newList ?_ vz)
  have oL : (s1.heap.push (seqObj "list" vs.toArray 0)).get? s1.heap.objs.size = some (seqObj "list" vs.toArray 0) := Heap.get?_push_size _ rfl
  refine wpAny_bind (wpAny_holding (wpAny_call_entry slot_list_sort ⟨_, oL, rfl⟩ entry_list_sort (SrtO.list_sort_ord SrtO.swo_int oL vz (fun h2 => SrtO.ints_sortable hi h2) fun out hs hsb => ⟨_, rfl, ?_⟩) (args_list_sort _)))
  obtain ⟨q1, q2, q3⟩ := SrtO.ints_out hi hs hsb
  obtain ⟨c, hc2⟩ := sortedHeap_at (vs := vs) (out := out.toArray) oL
  have pn := q2.trans pk2
  have ol : ((out.map SrtO.iv).map V.int).length ≤ sizeLine := by rw [List.length_map, q2.length_eq, List.length_map]; exact vz
  have np : H s1.heap.objs.size = none := I.hok.fresh hz
  have kk : ∀ b u, s.heap.get? b = some u → (sortedHeap (s1.heap.push (seqObj "list" vs.toArray 0)) s1.heap.objs.size vs out.toArray).get? b = some u := fun b u e => by
    have lt := Heap.lt_size (k1 b u e)
    rw [sortedHeap_old (Nat.ne_of_lt lt) (by rw [size_push']; exact Nat.lt_succ_of_lt lt)]
    exact Heap.get?_push_of_some _ (k1 b u e)
  have J : Inv X pins σ (upd H s1.heap.objs.size (.lst ((out.map SrtO.iv).map V.int))) { s with heap := sortedHeap (s1.heap.push (seqObj "list" vs.toArray 0)) s1.heap.objs.size vs out.toArray, gens := s1.gens, drawn := s1.drawn, toks := s1.toks } :=
    I.call (ch := []) (Un.laid kk hz np) (I.hok.laid kk hz ⟨ol, out, c, vals_of_ints q1, hc2⟩) (by rw [g1]; exact I.bare) (fun _ z => nomatch z)
  have e : ({ s1 with heap := sortedHeap (s1.heap.push (seqObj "list" vs.toArray 0)) s1.heap.objs.size vs out.toArray } : Shared) = { s with heap := sortedHeap (s1.heap.push (seqObj "list" vs.toArray 0)) s1.heap.objs.size vs out.toArray, gens := s1.gens, drawn := s1.drawn, toks := s1.toks } := by
    cases s1; cases s; cases o1; rfl
  refine wpAny_pure ⟨_, rfl, ?_⟩
  show EP _ _ _ _ _ ({ s1 with heap := sortedHeap (s1.heap.push (seqObj "list" vs.toArray 0)) s1.heap.objs.size vs out.toArray } : Shared)
  rw [e]
  exact ⟨.ref s1.heap.objs.size, _, J, rfl, (q _ q3 (pn.nodup_iff.mpr nd) fun k => by rw [pn.mem_iff, ← hm k]).at np⟩
end L2

set_option Elab.async false
set_option linter.all false
set_option maxRecDepth 100000
/-! len of a set of whole numbers -/
namespace L2
open PySem PySem.Spec PyProof.Rows
end L2

set_option Elab.async false
set_option linter.all false
set_option maxRecDepth 100000
set_option maxHeartbeats 1000000
set_option exponentiation.threshold 5000
/-! _law_apart -/
namespace E4
open PySem PySem.Spec PyProof.Rows L2
open C8 (Cal Mak Met InsC pe_c pe_mt pe_mt0 call_isC clsBody)
/-- a cell's indices -/
def CellIn (vl : Vls) (xs : List Sd) (cs : List Int) : Prop := Paired (fun (x : Sd) (i : Int) => 0 ≤ i ∧ i < tm vl x.2.1) xs cs
theorem many_lt {vl : Vls} {xs : List Sd} (v : ValsOk vl xs) (ok : ∀ x ∈ xs, RowOk x) : (manyI vl xs).natAbs < 2 ^ (1 + xs.length * 1300) := by
  unfold manyI
  have : ∀ l : List Sd, (∀ x ∈ l, x ∈ xs) → (prodI (l.map fun x => tm vl x.2.1)).natAbs < 2 ^ (1 + l.length * 1300) := by
    intro l
    induction l with
    | nil => intro _; show (1 : Int).natAbs < 2 ^ 1; decide
    | cons x l ih =>
      intro h
      have h1 := ih fun y hy => h y (List.mem_cons_of_mem _ hy)
      have h2 := tm_lt (m := x.2.1) v.bd fun z hz => v.mem x (h x List.mem_cons_self) z (.inl hz)
      have h3 := (ok x (h x List.mem_cons_self)).2.2.1
      have h4 : (tm vl x.2.1).natAbs < 2 ^ 1300 := Nat.lt_of_lt_of_le h2 (Nat.pow_le_pow_right (by decide) (by omega))
      have e := wide_lt (a := 1300) (b := 1 + l.length * 1300) h4 h1
      have e2 : 1300 + (1 + l.length * 1300) = 1 + (x :: l).length * 1300 := by rw [List.length_cons, Nat.add_mul]; omega
      rw [e2] at e
      exact e
  exact this xs fun _ h => h
theorem CellIn.small {vl : Vls} {xs : List Sd} {cs : List Int} (h : CellIn vl xs cs) (v : ValsOk vl xs) (ok : ∀ x ∈ xs, RowOk x) : ∀ i ∈ cs, i.natAbs < 2 ^ 4000 := by
  intro i hi
  obtain ⟨j, hj⟩ := List.mem_iff_getElem?.mp hi
  obtain ⟨x, hx, h0, h1⟩ := paired_ix h hj
  have xm := List.mem_of_getElem? hx
  have h2 := tm_lt (m := x.2.1) v.bd fun z hz => v.mem x xm z (.inl hz)
  have h3 := (ok x xm).2.2.1
  have h4 : (tm vl x.2.1).natAbs < 2 ^ 4000 := Nat.lt_of_lt_of_le h2 (Nat.pow_le_pow_right (by decide) (by omega))
  omega
section
variable {P : Program} {w : World} {K : PySem.W.Frag} {mg : Str → Option Value} {base : Heap}
end
end E4

set_option Elab.async false
set_option linter.all false
set_option maxRecDepth 100000
set_option maxHeartbeats 1000000
/-! _law_ordered -/
namespace E4
open PySem PySem.Spec PyProof.Rows L2
open C8 (Cal Mak Met InsC pe_c pe_mt pe_mt0 call_isC clsBody)
section
variable {P : Program} {w : World} {K : PySem.W.Frag} {mg : Str → Option Value} {base : Heap}
end
end E4

set_option Elab.async false
set_option linter.all false
set_option maxRecDepth 100000
set_option maxHeartbeats 1000000
/-! the places of chained rows are apart -/
namespace E4
open PySem PySem.Spec PyProof.Rows L2
theorem prodI_perm {a b : List Int} (h : a.Perm b) : prodI a = prodI b := by
  unfold prodI
  induction h with
  | nil => rfl
  | cons x _ ih => rw [List.foldr_cons, List.foldr_cons, ih]
  | swap x y l => rw [List.foldr_cons, List.foldr_cons, List.foldr_cons, List.foldr_cons, Int.mul_left_comm]
  | trans _ _ h1 h2 => exact h1.trans h2
theorem tm_perm {vl : Vls} {a b : List Str} (h : a.Perm b) : tm vl a = tm vl b := prodI_perm (h.map _)
/-- two rows of which one goes into the other -/
def FitE (x y : Sd) : Prop := leftOf (x.2.1 ++ x.2.2) y.2.2 = []
theorem FitE.len {x y : Sd} (h : FitE x y) : x.2.1.length + x.2.2.length ≤ y.2.2.length := by
  have := leftOf_len y.2.2 (x.2.1 ++ x.2.2)
  unfold FitE at h
  rw [h, List.length_append] at this
  simpa using this
end E4

set_option Elab.async false
set_option linter.all false
set_option maxRecDepth 100000
set_option maxHeartbeats 1000000
/-! rows put in order by what fits into what -/
namespace E4
open PySem PySem.Spec PyProof.Rows L2
abbrev sl (x : Sd) : Nat := x.2.2.length
/-- rows with two cells or more of which any two go one into the other, laid one by one -/
structure OrdOk (acc src : List Sd) : Prop where
  pm : acc.Perm src
  pw : acc.Pairwise fun a b => sl a < sl b
end E4

set_option Elab.async false
set_option linter.all false
set_option maxRecDepth 100000
set_option maxHeartbeats 1000000
/-! what clash tells is right -/
namespace E4
open PySem PySem.Spec PyProof.Rows L2
/-- what clash's indices are -/
structure ClOk (vl : Vls) (x y : Sd) (i j : Int) : Prop where
  i1 : 1 ≤ i
  j1 : 1 ≤ j
  i2 : i < tm vl x.2.1
  j2 : j < tm vl y.2.1
  e : i * tm vl x.2.2 = j * tm vl y.2.2
end E4

set_option Elab.async false
set_option linter.all false
set_option maxRecDepth 100000
set_option maxHeartbeats 1000000
/-! sorted(d), d a dict with texts as keys -/
namespace L2
open PySem PySem.Spec PyProof.Rows
end L2

set_option Elab.async false
set_option linter.all false
set_option maxRecDepth 100000
set_option maxHeartbeats 1000000
/-! _law_cell_right, _law_clash_right -/
namespace E4
open PySem PySem.Spec PyProof.Rows L2
open C8 (Cal Mak Met InsC pe_c pe_mt pe_mt0 call_isC clsBody)
section
variable {P : Program} {w : World} {K : PySem.W.Frag} {mg : Str → Option Value} {base : Heap}
end
end E4

set_option Elab.async false
set_option linter.all false
set_option maxRecDepth 100000
set_option maxHeartbeats 1000000
set_option exponentiation.threshold 500
/-! _law_shuffled of rows; what clash tells of rows is right -/
namespace E4
open PySem PySem.Spec PyProof.Rows L2
open C8 (Cal Mak Met InsC pe_c pe_mt pe_mt0 call_isC clsBody)
open E3 (PurseAt spPurse spMixed spDraw)
def spShufV : Sp := fun vs H Q _ => ∃ (a l : Addr) (xs : List V) (n : Nat), vs = [.ref a, .ref l] ∧ PurseAt H a (n + 4 * xs.length) ∧ H l = some (.lst xs) ∧ l ≠ a ∧ xs.length ≤ 2000 ∧
  ∀ (ys : List V) q H', ys.Perm xs → H' q = some (.lst ys) → H q = none → PurseAt H' a n → SameB a H H' → Q (.ref q) H'
section
variable {P : Program} {w : World} {K : PySem.W.Frag} {mg : Str → Option Value} {base : Heap}
theorem ok_shufV {f : Addr} {fd : FuncData} (F : Fun K "_law_shuffled" "_law_shuffled" sShuffled f fd) (B : Bl mg) (D : Cal P w K mg base 2 "_law_draw" spDraw []) : FnOk P w K mg base CX0 3 f fd ["_law_purse_here", "_law_some"] spShufV := by
  refine F.ok scShuf (fun vs H Q E h => ?_) (fun cdv A outer s H vs Q E hr h => ?_)
  · obtain ⟨a, l, xs, n, rfl, _⟩ := h
    rfl
  · obtain ⟨a, l, xs, n, rfl, hp, hl, nla, l2, k⟩ := h
    refine ⟨_, pss_cons (ps_set (i := 2) scShuf.nd rfl (Or.inl rfl) (pe_lstS pa_nil))
      (pss_cons (ps_for PassesOwn.never rfl (pi_list (pv 1)) (pg_name (i := 3) scShuf.nd rfl (Or.inl rfl))
        (pss_one (ps_expr (pe_bm PySem.F.plainAttrs_list PySem.F.slot_list_insert PySem.F.type_list_insert mt_insert (pv 2) (pa_cons (pe_c D hr (by decide) rfl (pa_cons (pv 0) (pa_cons (pe_op op_add (pe_callB call_len_seq (by rfl) B.len_ PySem.boot_len (pa_cons (pv 2) pa_nil)) pe_int) pa_nil))) (pa_cons (pv 3) pa_nil))))))
      (pss_one (ps_ret (pv 2)))), ?_⟩
    refine seq_asg ⟨by show 0 ≤ sizeLine; decide, fun d0 H1 S1 n1 h1 => ?_⟩
    have nda : d0 ≠ a := purse_none hp n1
    have ndl : l ≠ d0 := ne_of_none hl n1
    refine ⟨_, rfl, l, rfl, ⟨_, SqL.of (S1 _ _ hl)⟩, for_it (walk_list (xs := xs)) (fun i σ' H' => ∃ u ys, σ' = [some (.ref a), some (.ref l), some (.ref d0), u] ∧ ys.Perm (xs.take i) ∧ H' d0 = some (.lst ys) ∧ PurseAt H' a (n + 4 * (xs.length - i)) ∧ ∀ c o, c ≠ a → c ≠ d0 → H1 c = some o → H' c = some o) ⟨none, [], rfl, List.Perm.refl _, h1, (hp.same S1), fun _ _ _ _ e => e⟩ (fun i σ' H' _ q => let ⟨_, _, _, _, _, _, S⟩ := q; SqL.of (S _ _ nla ndl (S1 _ _ hl))) ?_ ?_⟩
    · rintro i z σ' H2 H3 hi ⟨u, ys, rfl, pm, hd, hpu, S2⟩ ⟨rfl, hz⟩
      have ly : ys.length = i := by rw [pm.length_eq, List.length_take]; omega
      refine ⟨_, rfl, .inl ⟨rfl, _, SqL.of hd⟩, ?_⟩
      refine ⟨_, rfl, _, rfl, d0, _, rfl, .inl (SqL.of hd), _, _, rfl, rfl, a, _, n + 4 * (xs.length - (i + 1)), rfl, hpu.less (by omega), by omega, by rw [ly]; omega, fun r H4 r0 r1 hp4 S4 => ?_⟩
      have hd4 := S4 _ _ nda hd
      refine ⟨_, rfl, d0, _, r, _, rfl, rfl, hd4, by rw [ly, sizeLine_eq]; omega, r0, by rw [ly] at r1; omega, ?_⟩
      refine ⟨_, ys.take r.toNat ++ z :: ys.drop r.toNat, rfl, ?_, ?_, ?_, fun c o nc nd e => ?_⟩
      · rw [take_snoc hz]
        refine List.Perm.trans ?_ (pm.append_right [z])
        refine List.perm_middle.trans ?_
        show (z :: (List.take r.toNat ys ++ List.drop r.toNat ys)).Perm (ys ++ [z])
        rw [List.take_append_drop]
        exact (List.perm_append_comm (l₁ := [z]) (l₂ := ys))
      · rw [upd_same]
        try simp
      · obtain ⟨p0, p1, p2, e, r⟩ := hp4
        exact ⟨p0, p1, p2, by rw [upd_ne (Ne.symm nda)]; exact e, r⟩
      · rw [upd_ne nd]
        exact S4 _ _ nc (S2 _ _ nc nd e)
    · rintro σ' H2 ⟨u, ys, rfl, pm, hd, hpu, S2⟩
      rw [List.take_length] at pm
      exact ⟨_, rfl, k ys d0 H2 pm hd n1 (hpu.less (by omega)) fun c o nc e => S2 c o nc (ne_of_none e n1) (S1 _ _ e)⟩
end
/-- what _law_clash_right asks of what clash tells -/
structure ToldOk (vl : Vls) (xs : List Sd) (cs1 cs2 : List Int) : Prop where
  nd : (vl.map (·.1)).Nodup
  mem : ∀ z, z ∈ vl.map (·.1) ↔ InLets xs z
  bd : AllV (fun n => 1 ≤ n ∧ n.natAbs < 2 ^ 400) vl
  in1 : CellIn vl xs cs1
  in2 : CellIn vl xs cs2
  ne : cs1 ≠ cs2
  eq : spotI vl xs cs1 = spotI vl xs cs2
end E4

set_option Elab.async false
set_option linter.all false
set_option maxRecDepth 100000
set_option maxHeartbeats 1000000
/-! _law_fixed_right -/
namespace E4
open PySem PySem.Spec PyProof.Rows L2
open C8 (Cal Mak Met InsC pe_c pe_mt pe_mt0 call_isC clsBody)
open E3 (PurseAt spPurse spMixed spDraw)
open LamX (Tabs ExtN TabB CodeO)
section
variable {X : Cx} {k j : Nat} {x : Str} {sp : Sp} {p pos : Pos}
end
theorem mk_plainR {C : Addr} {H : Hp} {l : Addr} {ts : List Addr} {xs : List Sd} {R : VK} {E : XK} {x dx : Addr} (hl : H l = some (.lst (ts.map V.ref))) (hx : SdsAt H ts xs) (ok : SdsOk xs) (nx : H x = none) (nd : H dx = none) (ne : dx ≠ x)
    (k : ∀ H', Same H H' → PlAt C H' x (xs.map norm) → R .non H') : spInit C [.ref x, .ref l] (upd (upd H dx (.own x)) x (.ins C dx [])) R E := by
  have S : Same H (upd (upd H dx (.own x)) x (.ins C dx [])) := fun c o e => by
    rw [upd_ne (ne_of_none e nx), upd_ne (ne_of_none e nd)]
    exact e
  exact ⟨x, dx, l, ts, xs, rfl, upd_same, S _ _ hl, hx.same S, ok, fun H' l' ts' S' h1 h2 h3 => k H' (fun c o e => S' c o (ne_of_none e nx) (S _ _ e)) ⟨dx, l', ts', h1, h2, h3⟩⟩
section
variable {P : Program} {w : World} {K : PySem.W.Frag} {mg : Str → Option Value} {base : Heap} {C : Addr}
end
end E4

set_option Elab.async false
set_option linter.all false
set_option maxRecDepth 100000
set_option maxHeartbeats 1000000
/-! frames: a purse drawn from, new things changed -/
namespace E4
open PySem PySem.Spec PyProof.Rows L2
open C8 (Cal Mak Met InsC pe_c pe_mt pe_mt0 call_isC clsBody)
open E3 (PurseAt spPurse spMixed spDraw)
open LamX (Tabs ExtN TabB CodeO)
/-- all but the purse (and tables) stays -/
def FrP (p : Addr) (H H' : Hp) : Prop := ∀ c o, c ≠ p → H c = some o → (∀ ps, o ≠ .tbl ps) → H' c = some o
theorem FrP.refl (p : Addr) (H : Hp) : FrP p H H := fun _ _ _ e _ => e
theorem FrP.trans {p : Addr} {H1 H2 H3 : Hp} (a : FrP p H1 H2) (b : FrP p H2 H3) : FrP p H1 H3 := fun c o n e t => b c o n (a c o n e t) t
theorem FrP.ofS {p : Addr} {H H' : Hp} (h : Same H H') : FrP p H H' := fun c o _ e _ => h c o e
theorem FrP.ofB {p : Addr} {H H' : Hp} (h : SameB p H H') : FrP p H H' := fun c o n e _ => h c o n e
/-- this address was not taken there -/
def Frsh (p : Addr) (H : Hp) (D : Addr) : Prop := D ≠ p ∧ ∀ o, H D = some o → ∃ ps, o = .tbl ps
theorem FrP.upd {p D : Addr} {H H' : Hp} {v : HO} (h : FrP p H H') (f : Frsh p H D) : FrP p H (upd H' D v) := fun c o n e t => by
  have nD : c ≠ D := fun q => by
    subst q
    obtain ⟨ps, e2⟩ := f.2 o e
    exact t ps e2
  rw [upd_ne nD]
  exact h c o n e t
theorem Frsh.of {p D : Addr} {n : Nat} {H H' : Hp} (h : FrP p H H') (hp : PurseAt H' p n) (nt : NewT H' D) : Frsh p H D := by
  have ne : D ≠ p := fun q => by
    subst q
    obtain ⟨p0, p1, p2, e, _⟩ := hp
    obtain ⟨ps, e2⟩ := nt _ e
    cases e2
  refine ⟨ne, fun o e => ?_⟩
  by_cases t : ∀ ps, o ≠ .tbl ps
  · exact nt o (h D o ne e t)
  · exact Classical.byContradiction fun no => t fun ps e2 => no ⟨ps, e2⟩
theorem SdAt.frP {p : Addr} {n : Nat} {H H' : Hp} {t : Addr} {x : Sd} (h : SdAt H t x) (hp : PurseAt H p n) (S : FrP p H H') : SdAt H' t x :=
  let ⟨a, b, h1, h2, h3⟩ := h
  ⟨a, b, S _ _ (purse_tup hp h1) h1 (fun _ z => nomatch z), S _ _ (purse_str hp h2) h2 (fun _ z => nomatch z), S _ _ (purse_str hp h3) h3 (fun _ z => nomatch z)⟩
theorem SdsAt.frP {p : Addr} {n : Nat} {H H' : Hp} {ts : List Addr} {xs : List Sd} (h : SdsAt H ts xs) (hp : PurseAt H p n) (S : FrP p H H') : SdsAt H' ts xs := h.imp fun _ _ _ q => q.frP hp S
theorem PlAt.frP {C p : Addr} {n : Nat} {H H' : Hp} {a : Addr} {ss : List Sd} (h : PlAt C H a ss) (hp : PurseAt H p n) (S : FrP p H H') : PlAt C H' a ss := by
  obtain ⟨dx, l, ts, h1, h2, h3⟩ := h
  have ne : a ≠ p := by
    obtain ⟨p0, p1, p2, e, _⟩ := hp
    exact ne_of h1 e (by intro z; cases z)
  exact ⟨dx, l, ts, S _ _ ne h1 (fun _ z => nomatch z), S _ _ (purse_ref hp h2) h2 (fun _ z => nomatch z), h3.frP hp S⟩
theorem tabs_lst {T : List (Addr × Str)} {D : Addr} {H : Hp} {l : List V} {v : HO} (t : Tabs T H) (hD : H D = some (.lst l)) : Tabs T (upd H D v) := fun p hp =>
  let ⟨ps, h1, h2, h3⟩ := t p hp
  ⟨ps, by rw [upd_ne (ne_of h1 hD (by intro w; cases w))]; exact h1, h2, fun pos cv e => let ⟨c, e1, e2⟩ := h3 pos cv e; ⟨c, e1, by rw [upd_ne (ne_of e2 hD (by unfold CodeO; intro w; cases w))]; exact e2⟩⟩
theorem sortT_of_perm' {l m : List Str} (h : l.Perm m) : sortT l = sortT m :=
  List.Perm.eq_of_pairwise (le := fun a b => leT a b = true) (fun _ _ _ _ => leT_anti) (sortT_pw l) (sortT_pw m) ((sortT_perm l).trans (h.trans (sortT_perm m).symm))
/-- rows with these names -/
theorem SdsOk.with_names {xs ys : List Sd} (h : SdsOk xs) (hn : ∀ x ∈ xs, x.1 ∈ N8) (e : ys.map (·.1) = xs.map (·.1)) (hr : ∀ y ∈ ys, RowOk y) (l8 : xs.length ≤ 8) : SdsOk ys := by
  have le : ys.length = xs.length := by have := congrArg List.length e; rwa [List.length_map, List.length_map] at this
  refine rows_ok e (fun z hz => ?_) h.nd hr (fun c => h.ne (List.length_eq_zero_iff.mp (by rw [← le, c]; rfl))) (by omega)
  obtain ⟨u, hu, rfl⟩ := List.mem_map.mp hz
  exact hn u hu
end E4

set_option Elab.async false
set_option linter.all false
set_option maxRecDepth 100000
set_option maxHeartbeats 1000000
/-! list.remove of something that stands in the heap as data -/
namespace L2
open PySem PySem.Spec PyProof.Rows
end L2

set_option Elab.async false
set_option linter.all false
set_option maxRecDepth 100000
set_option maxHeartbeats 1000000
set_option exponentiation.threshold 5000
/-! _law_many_cells, _law_full -/
namespace E4
open PySem PySem.Spec PyProof.Rows L2
open C8 (Cal Mak Met InsC pe_c pe_mt pe_mt0 call_isC clsBody)
abbrev sMany : Stmt := top 50
def spMany (K : PySem.W.Frag) : Sp := fun vs H Q _ => ∃ (l d : Addr) (ts : List Addr) (xs : List Sd) (vl : Vls), vs = [.ref l, .ref d] ∧ SqL K H l (ts.map V.ref) ∧ SdsAt H ts xs ∧ H d = some (.dK (dI vl)) ∧ ValsOk vl xs ∧ (∀ x ∈ xs, RowOk x) ∧ xs.length ≤ 8 ∧ Q (.int (manyI vl xs)) H
section
variable {P : Program} {w : World} {K : PySem.W.Frag} {mg : Str → Option Value} {base : Heap}
theorem scMany : FnScope ["_law_rows", "_law_sizes_here", "_law_found", "_law_row"] ["_law_rows", "_law_sizes_here"] (defScope sMany) := ⟨rfl, rfl, rfl, by decide +kernel, rfl, by decide +kernel, by decide +kernel⟩
theorem ok_many {f : Addr} {fd : FuncData} (F : Fun K "_law_many_cells" "_law_many_cells" sMany f fd) (Tm : Cal P w K mg base 1 "_law_times" (spTimes K) []) : FnOk P w K mg base CX0 2 f fd ["_law_rows", "_law_sizes_here"] (spMany K) := by
  refine F.ok scMany (fun vs H Q E h => ?_) (fun cdv A outer s H vs Q E hr h => ?_)
  · obtain ⟨l, d, ts, xs, vl, rfl, _⟩ := h
    rfl
  · obtain ⟨l, d, ts, xs, vl, rfl, hl, hx, hd, vok, ok, l8, k⟩ := h
    refine ⟨_, pss_cons (ps_set (i := 2) scMany.nd rfl (Or.inl rfl) pe_int)
      (pss_cons (ps_for PassesOwn.never rfl (pi_list (pv 0)) (pg_name (i := 3) scMany.nd rfl (Or.inl rfl))
        (pss_one (ps_set (i := 2) scMany.nd rfl (Or.inl rfl) (pe_op op_mulW (pv 2) (pe_c Tm hr (by decide) rfl (pa_cons (pe_ix ix_tup (pv 3) pe_int (fun _ _ => rfl)) (pa_cons (pv 1) pa_nil)))))))
      (pss_one (ps_ret (pv 2)))), ?_⟩
    have lt := hx.length
    refine seq_asg ⟨_, rfl, l, rfl, ⟨_, hl⟩, for_it (walk_list (xs := ts.map V.ref)) (fun i σ' H' => H' = H ∧ ∃ u3, σ' = [some (.ref l), some (.ref d), some (.int (manyI vl (xs.take i))), u3]) ⟨rfl, none, rfl⟩ (fun i σ' H' _ q => by rw [q.1]; exact hl) ?_ ?_⟩
    · rintro i v σ' H2 H3 hi ⟨rfl, u3, rfl⟩ ⟨rfl, hxi⟩
      rw [List.length_map] at hi
      rw [List.getElem?_map] at hxi
      obtain ⟨t, htt, rfl⟩ := Option.map_eq_some_iff.mp hxi
      obtain ⟨y, hy, c1, c2, r0, r1, r2⟩ := paired_at hx htt
      have ym : ∀ z ∈ y.2.1, z ∈ vl.map (·.1) := fun z hz => vok.mem y (List.mem_of_getElem? hy) z (.inl hz)
      have y3 := (ok y (List.mem_of_getElem? hy)).2.2.1
      have ml := many_lt (vok.take i) fun x hx1 => ok x (List.mem_of_mem_take hx1)
      have tl : (xs.take i).length ≤ 8 := by rw [List.length_take]; omega
      refine ⟨_, rfl, _, rfl, t, _, 1, _, rfl, rfl, SqT.of r0, rfl, _, rfl, c1, d, y.2.1, vl, rfl, SqL.of r1, hd, ym, vok.bd, by omega, _, _, rfl, rfl, cmw ml (tm_lt vok.bd ym) (by omega) (by omega) (by omega), rfl, some (.ref t), ?_⟩
      rw [take_snoc hy, many_snoc]
      rfl
    · rintro σ' H2 ⟨rfl, u3, rfl⟩
      rw [List.length_map, lt, List.take_length]
      exact ⟨_, rfl, k⟩
theorem room65 {k : Nat} {A : Around} (r : Room k A) : A.units + 65 < cLine := by have := r.un; omega
end
end E4

set_option Elab.async false
set_option linter.all false
set_option maxRecDepth 100000
set_option maxHeartbeats 1000000
/-! full rows: each step the one before times its size -/
namespace E4
open PySem PySem.Spec PyProof.Rows L2
/-- rows with two cells or more, the steps one after the other from s on -/
def FullCh : List Str → List Sd → Prop
  | _, [] => True
  | s, r :: rs => r.2.2.Perm s ∧ r.2.1 ≠ [] ∧ FullCh (r.2.1 ++ r.2.2) rs
theorem FullCh.long : ∀ {O : List Sd} {s : List Str}, FullCh s O → ∀ r ∈ O, s.length ≤ sl r
  | [], _, _ => fun _ h => absurd h List.not_mem_nil
  | r :: rs, s, h => by
    intro q hq
    have l1 := h.1.length_eq
    have l2 := List.length_pos_iff.mpr h.2.1
    rcases List.mem_cons.mp hq with rfl | hq
    · show s.length ≤ q.2.2.length; omega
    · have := h.2.2.long q hq
      rw [List.length_append] at this
      omega
theorem FullCh.pw : ∀ {O : List Sd} {s : List Str}, FullCh s O → O.Pairwise fun a b => sl a < sl b
  | [], _, _ => List.Pairwise.nil
  | r :: rs, s, h => by
    refine List.pairwise_cons.mpr ⟨fun q hq => ?_, h.2.2.pw⟩
    have := h.2.2.long q hq
    have l2 := List.length_pos_iff.mpr h.2.1
    rw [List.length_append] at this
    show r.2.2.length < _
    omega
/-- what hole asks of a full table -/
theorem FullCh.at : ∀ {O : List Sd} {s : List Str}, FullCh s O → ∀ (j : Nat) (y : Sd), O[j]? = some y → y.2.2.Perm ((O.take j).flatMap (·.2.1) ++ s)
  | r :: rs, s, h, 0, y, e => by cases e; exact h.1
  | r :: rs, s, h, j + 1, y, e => by
    have := h.2.2.at j y e
    rw [List.take_succ_cons, List.flatMap_cons]
    refine this.trans ?_
    have p2 : (r.2.1 ++ r.2.2).Perm (r.2.1 ++ s) := List.Perm.append_left _ h.1
    refine (List.Perm.append_left _ p2).trans ?_
    rw [← List.append_assoc]
    exact List.Perm.append_right _ List.perm_append_comm
theorem perm_lift {α β : Type} (f : β → α) {a : List α} {T : List β} (h : a.Perm (T.map f)) : ∃ U : List β, U.Perm T ∧ U.map f = a := by
  have : ∀ (a b : List α), a.Perm b → ∀ T : List β, b = T.map f → ∃ U : List β, U.Perm T ∧ U.map f = a := by
    intro a b h
    induction h with
    | nil =>
      intro T e
      cases T with
      | nil => exact ⟨[], List.Perm.refl _, rfl⟩
      | cons _ _ => cases e
    | cons x _ ih =>
      intro T e
      cases T with
      | nil => cases e
      | cons t T =>
        obtain ⟨e1, e2⟩ := List.cons.inj e
        obtain ⟨us, h1, h2⟩ := ih T e2
        exact ⟨t :: us, h1.cons _, by rw [List.map_cons, h2, e1]⟩
    | swap x y l =>
      intro T e
      match T, e with
      | t :: t2 :: T, e =>
        obtain ⟨e1, e2⟩ := List.cons.inj e
        obtain ⟨e3, e4⟩ := List.cons.inj e2
        exact ⟨t2 :: t :: T, .swap _ _ _, by rw [List.map_cons, List.map_cons, e1, e3, e4]⟩
    | trans _ _ i1 i2 =>
      intro T e
      obtain ⟨us, h1, h2⟩ := i2 T e
      obtain ⟨ws, h3, h4⟩ := i1 us h2.symm
      exact ⟨ws, h3.trans h1, h4⟩
  exact this _ _ h T rfl
end E4

set_option Elab.async false
set_option linter.all false
set_option maxRecDepth 100000
set_option maxHeartbeats 1000000
/-! mathematics of holes: full rows are those without one; no cell stands at one -/
namespace E4
open PySem PySem.Spec PyProof.Rows L2
end E4

set_option Elab.async false
set_option linter.all false
set_option maxRecDepth 100000
set_option maxHeartbeats 1000000
/-! mathematics of walks: a smooth walk's spots, one after the other -/
namespace E4
open PySem PySem.Spec PyProof.Rows L2
abbrev SW (vl : Vls) (x : Sd) : Nat := (tm vl x.2.1).toNat
abbrev TW (vl : Vls) (x : Sd) : Int := tm vl x.2.2
theorem spot_consW {vl : Vls} {x : Sd} {c : Int} {xs : List Sd} {cs : List Int} : spotI vl (x :: xs) (c :: cs) = c * TW vl x + spotI vl xs cs := by
  unfold spotI
  rw [List.zip_cons_cons, List.map_cons, List.sum_cons]
theorem spot_setW {vl : Vls} {m : Int} : ∀ {xs : List Sd} {cs : List Int} {i : Nat} {x : Sd}, xs[i]? = some x → cs[i]? = some 0 → spotI vl xs (cs.set i m) = spotI vl xs cs + m * TW vl x
  | y :: xs, c :: cs, 0, x, hx, hc => by
    cases hx
    cases hc
    rw [List.set_cons_zero, spot_consW, spot_consW, Int.zero_mul, Int.zero_add, Int.add_comm]
  | y :: xs, c :: cs, i + 1, x, hx, hc => by
    rw [List.set_cons_succ, spot_consW, spot_consW, spot_setW (i := i) (by simpa using hx) (by simpa using hc)]
    omega
  | [], _, _, _, hx, _ => by simp at hx
  | _ :: _, [], _, _, _, hc => by simp at hc
def turnW (c : List Int) (i n : Nat) : List (List Int) := (List.range n).map fun k => c.set i ((k : Nat) : Int)
def stepW (vl : Vls) (L : List (List Int)) (q : Nat × Sd) : List (List Int) := L.flatMap fun c => turnW c q.1 (SW vl q.2)
/-- the cells of a walk, its last word the fastest -/
def walkW (vl : Vls) (xs : List Sd) (A : List (Nat × Sd)) : List (List Int) := A.foldl (stepW vl) [xs.map fun _ => 0]
end E4

set_option Elab.async false
set_option linter.all false
set_option maxRecDepth 100000
set_option maxHeartbeats 2000000
/-! _law_walked -/
namespace E4
open PySem PySem.Spec PyProof.Rows L2
open C8 (Cal Mak Met InsC pe_c pe_mt pe_mt0 call_isC clsBody)
abbrev sWalked : Stmt := top 52
/-- the rows of a route, with their places among the rows -/
structure RouteOk (xs : List Sd) (A : List (Nat × Sd)) : Prop where
  nd : (A.map (·.1)).Nodup
  at_ : ∀ q ∈ A, xs[q.1]? = some q.2
def spWalked (K : PySem.W.Frag) : Sp := fun vs H Q _ => ∃ (l d t : Addr) (ts : List Addr) (xs : List Sd) (vl : Vls) (A : List (Nat × Sd)), vs = [.ref l, .ref d, .ref t] ∧ SqL K H l (ts.map V.ref) ∧ SdsAt H ts xs ∧ H d = some (.dK (dI vl)) ∧ ValsOk vl xs ∧ (∀ x ∈ xs, RowOk x) ∧ xs.length ≤ 8 ∧ (xs.map (·.1)).Nodup ∧ (∀ x ∈ xs, LetOk x.1) ∧
  H t = some (.lst ((A.map (·.2.1)).map V.str)) ∧ RouteOk xs A ∧ manyI vl (A.map (·.2)) ≤ 400 ∧
  ∀ H' p as, Same H H' → H p = none → H' p = some (.lst (as.map V.ref)) → CsAt H' as (walkW vl xs A) → Q (.ref p) H'
theorem walk_snoc (vl : Vls) (xs : List Sd) (A : List (Nat × Sd)) (q : Nat × Sd) : walkW vl xs (A ++ [q]) = stepW vl (walkW vl xs A) q := by unfold walkW; rw [List.foldl_append]; rfl
theorem turnW_len (c : List Int) (i n : Nat) : (turnW c i n).length = n := by unfold turnW; rw [List.length_map, List.length_range]
theorem turnW_snoc (c : List Int) (i n : Nat) : turnW c i (n + 1) = turnW c i n ++ [c.set i ((n : Nat) : Int)] := by unfold turnW; rw [List.range_succ, List.map_append]; rfl
theorem stepW_len (vl : Vls) (acc : List (List Int)) (q : Nat × Sd) : (stepW vl acc q).length = acc.length * SW vl q.2 := by
  unfold stepW
  induction acc with
  | nil => simp
  | cons c acc ih => rw [List.flatMap_cons, List.length_append, ih, turnW_len, List.length_cons, Nat.add_mul, Nat.one_mul, Nat.add_comm]
theorem stepW_snoc {vl : Vls} {cc : List (List Int)} {j : Nat} {c : List Int} (q : Nat × Sd) (h : cc[j]? = some c) : stepW vl (cc.take (j + 1)) q = stepW vl (cc.take j) q ++ turnW c q.1 (SW vl q.2) := by
  rw [take_snoc h]
  unfold stepW
  rw [List.flatMap_append, List.flatMap_cons, List.flatMap_nil, List.append_nil]
theorem ValsOk.route {vl : Vls} {xs : List Sd} {A : List (Nat × Sd)} (v : ValsOk vl xs) (r : RouteOk xs A) : ValsOk vl (A.map (·.2)) := ⟨fun x hx z hz => by
  obtain ⟨q, hq, rfl⟩ := List.mem_map.mp hx
  exact v.mem _ (List.mem_of_getElem? (r.at_ q hq)) z hz, v.bd⟩
theorem walk_len {vl : Vls} {xs : List Sd} {A : List (Nat × Sd)} (v : ValsOk vl xs) (r : RouteOk xs A) : ∀ i, i ≤ A.length → (((walkW vl xs (A.take i)).length : Nat) : Int) = manyI vl ((A.map (·.2)).take i) := by
  intro i
  induction i with
  | zero => intro _; rfl
  | succ i ih =>
    intro hi
    have hx : A[i]? = some A[i] := List.getElem?_eq_getElem (by omega)
    generalize A[i] = q at hx
    have hx2 : (A.map (·.2))[i]? = some q.2 := by rw [List.getElem?_map, hx]; rfl
    have p := tm_pos (m := q.2.2.1) v.bd fun z hz => v.mem q.2 (List.mem_of_getElem? (r.at_ q (List.mem_of_getElem? hx))) z (.inl hz)
    rw [take_snoc hx, walk_snoc, take_snoc hx2, many_snoc, stepW_len, ← ih (by omega), Int.natCast_mul, Int.toNat_of_nonneg (by omega)]
theorem walk_each (vl : Vls) (xs : List Sd) (A : List (Nat × Sd)) : ∀ c ∈ walkW vl xs A, c.length = xs.length := by
  have : ∀ (A : List (Nat × Sd)) (acc : List (List Int)) (n : Nat), (∀ c ∈ acc, c.length = n) → ∀ c ∈ A.foldl (stepW vl) acc, c.length = n := by
    intro A
    induction A with
    | nil => intro acc n h c hc; exact h c hc
    | cons q A ih =>
      intro acc n h c hc
      refine ih (stepW vl acc q) n (fun c hc => ?_) c hc
      obtain ⟨b, hb, h2⟩ := List.mem_flatMap.mp hc
      obtain ⟨i, _, rfl⟩ := List.mem_map.mp h2
      rw [List.length_set, h b hb]
  exact this A _ _ fun c hc => by rw [List.mem_singleton.mp hc, List.length_map]
theorem set_cut {c : List Int} {i : Nat} {k : Int} (h : i < c.length) : c.set i k = c.take i ++ [k] ++ c.drop (i + 1) := by
  rw [List.set_eq_take_append_cons_drop, if_pos h, List.append_assoc]
  rfl
theorem cut_take (xs : List V) (k : Nat) : cutV xs none (some ((k : Nat) : Int)) = xs.take k := by
  unfold cutV
  rw [HT.sIx_nat, HT.sIx_none, List.drop_zero, Nat.sub_zero]
  rcases Nat.le_total k xs.length with h | h
  · rw [Nat.min_eq_left h]
  · rw [Nat.min_eq_right h, List.take_of_length_le (Nat.le_refl _), List.take_of_length_le h]
theorem atI_nat {xs : List V} {k : Nat} {v : V} (h : xs[k]? = some v) : atI xs ((k : Nat) : Int) = some v := by
  obtain ⟨h1, h2⟩ := List.getElem?_eq_some_iff.mp h
  unfold atI ixN
  simp [h1, h2]
section
variable {P : Program} {w : World} {K : PySem.W.Frag} {mg : Str → Option Value} {base : Heap}
end
end E4

set_option Elab.async false
set_option linter.all false
set_option maxRecDepth 100000
set_option maxHeartbeats 1000000
/-! is_letter, letter, number, right_side -/
namespace E2
open PySem PySem.Spec PyProof.Rows L2
open C8 (Cal Mak Met InsC pe_c pe_mt pe_mt0 call_isC clsBody)
theorem iteP {p : Prop} [Decidable p] {A B : Prop} (hp : p) (h : B) : if (!decide p) = true then A else B := by
  rw [decide_eq_true hp]
  exact h
theorem iteN {p : Prop} [Decidable p] {A B : Prop} (hp : ¬ p) (h : A) : if (!decide p) = true then A else B := by
  rw [decide_eq_false hp]
  exact h
/-- a letter -/
def LetOk (z : Str) : Prop := 1 ≤ z.length ∧ z.length ≤ 10 ∧ ∀ c ∈ z.cps.toList, 97 ≤ c ∧ c ≤ 122
/-- more names that the module leaves alone -/
structure Bt2 (mg : Str → Option Value) : Prop where
  str_ : mg "str" = none
  len_ : mg "len" = none
  all_ : mg "all" = none
def spIsLet : Sp := fun vs H Q _ => ∃ z : Str, vs = [.str z] ∧ LetOk z ∧ ∀ H', Same H H' → Q (.bl true) H'
section
variable {P : Program} {w : World} {K : PySem.W.Frag} {mg : Str → Option Value} {base : Heap} {C : Addr}
theorem kit_ss : PySem.W.kitOne K (.type "str") (.type "str") = some true := by kernel_rfl
theorem scIsLet : FnScope ["name", "sign"] ["name"] (defScope sIsLetter) := ⟨rfl, rfl, rfl, by decide +kernel, rfl, by decide +kernel, by decide +kernel⟩
abbrev rLeS : R2 := fun x y H Q => ∃ i j, x = .str i ∧ y = .str j ∧ Q (.bl (!decide (j.cps.toList < i.cps.toList))) H
theorem ok_isLet {f : Addr} {fd : FuncData} (F : Fun K "is_letter" "is_letter" sIsLetter f fd) (B : Bt K mg C) (B2 : Bt2 mg) : FnOk P w K mg base CX0 1 f fd ["name"] spIsLet := by
  refine F.ok scIsLet (fun vs H Q E h => ?_) (fun cdv A outer s H vs Q E hr h => ?_)
  · obtain ⟨z, rfl, _⟩ := h
    rfl
  · obtain ⟨z, rfl, ⟨l1, l2, hc⟩, k⟩ := h
    refine ⟨_, pss_cons (ps_if (PW.pt (pw_or (pt_not (pt_val (pe_callB call_isi (by rfl) B.isi (by decide +kernel) (pa_cons (pv 0) (pa_cons (pe_bltn (v := .ty "str") (by rfl) B2.str_ (by decide +kernel) rfl) pa_nil)))))
        (pw_or1 (pt_not (pt_chain op_le op_le pe_int (pe_callB call_len_str (by rfl) B2.len_ PySem.boot_len (pa_cons (pv 0) pa_nil)) pe_int))))) (pss_one (ps_ret pe_bl)) pss_nil)
      (pss_one (ps_ret (pe_callB (cr_all rfl) (by rfl) B2.all_ (by decide +kernel) (pa_cons (pe_lc (own := [("sign", 1)]) (g := gName 1) (tt := tYes) (te := tChain rLeS rLeS (tC (.str "a")) (tVar 1) (tC (.str "z"))) rfl scIsLet.nd (pi_str (pv 0))
        (blkOk_by (own := [("sign", 1)]) (N := ["name", "sign"]) (sc := defScope sIsLetter) (by decide +kernel))
        (fun _ _ _ _ _ => pg_name (i := 1) scIsLet.nd rfl (Or.inl rfl)) (fun _ _ _ _ _ => pts_nil) (fun _ _ _ _ _ => by exact pe_chain op_le_str op_le_str pe_str (pv 1) pe_str)) pa_nil)))), ?_⟩
    have hz : z.length ≤ sizeLine := by rw [sizeLine_eq]; omega
    refine ⟨_, rfl, _, _, _, _, true, rfl, .ty "str", .base (.str z), kit_ss, true, rfl, iteF ?_⟩
    refine ⟨_, rfl, z, rfl, hz, _, _, rfl, rfl, _, rfl, iteD (fun _ => ?_) (fun h => absurd (by omega) h)⟩
    refine ⟨_, _, rfl, rfl, _, rfl, iteP (by omega) ?_⟩
    refine ⟨_, rfl, z, rfl, fun D nD => lc_it walk_str (fun i H' => Same H H' ∧ H' D = some (.lst (List.replicate i (V.bl true)))) ⟨Same.upd nD, upd_same⟩ (fun _ _ _ _ => trivial) ?_ ?_⟩
    · rintro i x H1 H1' hi ⟨S, hD⟩ ⟨rfl, c, hcz, rfl⟩
      have hm : c ∈ z.cps.toList := by
        rw [← Array.getElem?_toList] at hcz
        exact List.mem_of_getElem? hcz
      obtain ⟨c1, c2⟩ := hc c hm
      have n1 : ¬ ((⟨#[c]⟩ : Str).cps.toList < ("a" : Str).cps.toList) := by
        show ¬ ([c] < [97])
        rw [List.cons_lt_cons_iff]
        rintro (h | ⟨_, h⟩)
        · omega
        · exact absurd h (by decide)
      have n2 : ¬ (("z" : Str).cps.toList < (⟨#[c]⟩ : Str).cps.toList) := by
        show ¬ ([122] < [c])
        rw [List.cons_lt_cons_iff]
        rintro (h | ⟨_, h⟩)
        · omega
        · exact absurd h (by decide)
      refine ⟨rfl, iteT (B := False) ⟨_, rfl, _, _, rfl, rfl, _, rfl, iteN n1 ⟨_, _, rfl, rfl, _, hD, ?_, ?_, ?_⟩⟩⟩
      · rw [List.length_replicate]
        have : i < z.length := hi
        omega
      · intro b o hb
        rw [upd_ne (ne_of_none hb nD)]
        exact S _ _ hb
      · rw [upd_same, decide_eq_false n2, List.replicate_succ']
        rfl
    · rintro H1 ⟨S, hD⟩
      refine ⟨D, List.replicate z.cps.size true, rfl, SqL.of ?_, ?_⟩
      · rw [List.map_replicate]
        exact hD
      · rw [show (List.replicate z.cps.size true).all id = true by simp]
        exact k H1 S
def spLetter (P : Program) (w : World) (K : PySem.W.Frag) (C : Addr) : Sp := fun vs H Q _ => ∃ z : Str, vs = [.str z] ∧ LetOk z ∧ ∀ H' b, Same H H' → H b = none → FmAt P w K C H' b [([z], 1)] → Q (.ref b) H'
theorem scLetter : FnScope ["name"] ["name"] (defScope sLetter) := ⟨rfl, rfl, rfl, by decide +kernel, rfl, by decide +kernel, by decide +kernel⟩
theorem ok_letter {f : Addr} {fd : FuncData} (F : Fun K "letter" "letter" sLetter f fd) (T : Fx P w K mg base C) (L : Cal P w K mg base 1 "is_letter" spIsLet []) : FnOk P w K mg base CX0 3 f fd ["name"] (spLetter P w K C) := by
  refine F.ok scLetter (fun vs H Q E h => ?_) (fun cdv A outer s H vs Q E hr h => ?_)
  · obtain ⟨z, rfl, _⟩ := h
    rfl
  · obtain ⟨z, rfl, hz, k⟩ := h
    refine ⟨_, pss_cons (ps_if (pt_not (pt_val (pe_c L hr (by decide) rfl (pa_cons (pv 0) pa_nil)))) (pss_one ps_never) pss_nil)
      (pss_one (ps_ret (pe_mkF T.maks hr (by decide) rfl (pe_dispN (Nat.lt_of_le_of_lt (Nat.le_add_right _ 64) hr.units) (pe_tupN (pa_cons (pv 0) pa_nil)) (pe_tupS (pa_cons pe_int (pa_cons pe_int pa_nil))))))), ?_⟩
    refine ⟨_, rfl, z, rfl, hz, fun H0 S0 => ⟨true, rfl, iteF ?_⟩⟩
    refine fun p np => ⟨_, rfl, (by show 1 ≤ sizeLine; decide), fun t H1 S1 n1 h1 => ⟨(by show 2 ≤ sizeLine; decide), fun u H2 S2 n2 h2 => ?_⟩⟩
    have hp := S2 _ _ (S1 _ _ (upd_same (H := H0) (a := p) (o := DfO P w p [])))
    refine ⟨hp, [Sum.inr z], t, u, rfl, rfl, (h1.same S2).sq, fun a dx H3 S3 na ha => ?_⟩
    have SA : Same H0 (upd H2 p (DfO P w p [([Sum.inr z], t, u)])) := by
      intro b o hb
      rw [upd_ne (ne_of_none hb np)]
      exact S2 _ _ (S1 _ _ (Same.upd np _ _ hb))
    refine k H3 a ((S0.trans SA).trans S3) ((S0.trans SA).free na) ⟨dx, p, _, ha, S3 _ _ upd_same, .cons ⟨rfl, ((h1.same S2).off hp fun o => noTup_df.2 o _).same S3, ?_⟩ .nil⟩
    exact (SqT.off (SqT.of h2) hp (noTup_df.1 _) (fun o => noTup_df.2 o _)).same S3
def spNumber (P : Program) (w : World) (K : PySem.W.Frag) (C : Addr) : Sp := fun vs H Q _ => ∃ n : Int, vs = [.int n] ∧ ∀ H' b, Same H H' → H b = none → FmAt P w K C H' b (if n = 0 then [] else [([], (n : Rat))]) → Q (.ref b) H'
theorem scNumber : FnScope ["value"] ["value"] (defScope sNumber) := ⟨rfl, rfl, rfl, by decide +kernel, rfl, by decide +kernel, by decide +kernel⟩
theorem ok_number {f : Addr} {fd : FuncData} (F : Fun K "number" "number" sNumber f fd) (T : Fx P w K mg base C) (Wh : Cal P w K mg base 1 "is_whole" (spWhole C) []) (Wo : Cal P w K mg base 1 "without_noughts" (spWithout P w K) []) : FnOk P w K mg base CX0 3 f fd ["value"] (spNumber P w K C) := by
  refine F.ok scNumber (fun vs H Q E h => ?_) (fun cdv A outer s H vs Q E hr h => ?_)
  · obtain ⟨n, rfl, _⟩ := h
    rfl
  · obtain ⟨n, rfl, k⟩ := h
    refine ⟨_, pss_cons (ps_if (pt_not (pt_val (pe_c Wh hr (by decide) rfl (pa_cons (pv 0) pa_nil)))) (pss_one ps_never) pss_nil)
      (pss_one (ps_ret (pe_mkF T.maks hr (by decide) rfl (pe_c Wo hr (by decide) rfl (pa_cons (pe_dispN (Nat.lt_of_le_of_lt (Nat.le_add_right _ 64) hr.units) (pe_tupN pa_nil) (pe_tupS (pa_cons (pv 0) (pa_cons pe_int pa_nil)))) pa_nil))))), ?_⟩
    refine ⟨_, rfl, _, rfl, .inl ⟨n, rfl, true, rfl, iteF ?_⟩⟩
    refine fun p np => ⟨(by show 0 ≤ sizeLine; decide), fun t H1 S1 n1 h1 => ⟨_, rfl, (by show 2 ≤ sizeLine; decide), fun u H2 S2 n2 h2 => ?_⟩⟩
    have hp := S2 _ _ (S1 _ _ (upd_same (H := H) (a := p) (o := DfO P w p [])))
    refine ⟨hp, [], t, u, rfl, rfl, (h1.same S2).sq, ?_⟩
    have SA : Same H (upd H2 p (DfO P w p [([], t, u)])) := by
      intro b o hb
      rw [upd_ne (ne_of_none hb np)]
      exact S2 _ _ (S1 _ _ (Same.upd np _ _ hb))
    refine ⟨p, _, [([], (n : Rat))], rfl, upd_same, .cons ⟨rfl, (h1.same S2).off hp (fun o => noTup_df.2 o _), SqT.off (SqT.of h2) hp (noTup_df.1 _) (fun o => noTup_df.2 o _)⟩ .nil, ?_, by show 1 ≤ sizeLine; decide, fun H3 D kvs' S3 nD hD kv a dx H4 S4 na ha => ?_⟩
    · exact List.nodup_cons.mpr ⟨List.not_mem_nil, List.nodup_nil⟩
    · refine k H4 a ((SA.trans S3).trans S4) ((SA.trans S3).free na) ⟨dx, D, kvs', ha, S4 _ _ hD, ?_⟩
      have e : mapM (fun q => !decide (q = 0)) id [([], (n : Rat))] = if n = 0 then [] else [([], (n : Rat))] := by
        by_cases h : n = 0
        · subst h
          rfl
        · have h2 : ¬ ((n : Rat) = 0) := fun e => h (Rat.intCast_inj.mp (e.trans (by rfl : (0 : Rat) = ((0 : Int) : Rat))))
          rw [if_neg h]
          unfold mapM
          rw [List.filter_cons, if_pos (by show (!decide ((n : Rat) = 0)) = true; rw [decide_eq_false h2]; rfl)]
          rfl
      rw [e] at kv
      exact kv.same S4
/-- the terms of a whole number -/
def numM (n : Int) : Fm := if n = 0 then [] else [([], (n : Rat))]
def spRight (P : Program) (w : World) (K : PySem.W.Frag) (C : Addr) : Sp := fun vs H Q _ => ∃ v, vs = [v] ∧ ((∃ n : Int, v = .int n ∧ ∀ H' b, Same H H' → H b = none → FmAt P w K C H' b (numM n) → Q (.ref b) H') ∨ ∃ a dx fs, v = .ref a ∧ H a = some (.ins C dx fs) ∧ Q (.ref a) H)
theorem scRight : FnScope ["other"] ["other"] (defScope sRightSide) := ⟨rfl, rfl, rfl, by decide +kernel, rfl, by decide +kernel, by decide +kernel⟩
theorem ok_right {f : Addr} {fd : FuncData} (F : Fun K "right_side" "right_side" sRightSide f fd) (B : Bt K mg C) (Wh : Cal P w K mg base 1 "is_whole" (spWhole C) []) (Nu : Cal P w K mg base 3 "number" (spNumber P w K C) []) : FnOk P w K mg base CX0 4 f fd ["other"] (spRight P w K C) := by
  refine F.ok scRight (fun vs H Q E h => ?_) (fun cdv A outer s H vs Q E hr h => ?_)
  · obtain ⟨v, rfl, _⟩ := h
    rfl
  · obtain ⟨v, rfl, k⟩ := h
    refine ⟨_, pss_cons (ps_if (pt_val (pe_c Wh hr (by decide) rfl (pa_cons (pv 0) pa_nil))) (pss_one (ps_ret (pe_c Nu hr (by decide) rfl (pa_cons (pv 0) pa_nil)))) pss_nil)
      (pss_cons (ps_if (pt_not (pt_val (pe_callB (call_isC B.ins) (by rfl) B.isi (by decide +kernel) (pa_cons (pv 0) (pa_cons (pe_glob (v := .ref C) (by rfl) B.mgF rfl) pa_nil))))) (pss_one ps_never) pss_nil)
      (pss_one (ps_ret (pv 0)))), ?_⟩
    rcases k with ⟨n, rfl, q⟩ | ⟨a, dx, fs, rfl, ha, q⟩
    · exact ⟨_, rfl, _, rfl, .inl ⟨n, rfl, true, rfl, iteT (B := False) ⟨_, rfl, n, rfl, q⟩⟩⟩
    · exact ⟨_, rfl, _, rfl, .inr ⟨a, dx, fs, rfl, ha, false, rfl, iteF ⟨_, rfl, a, dx, fs, rfl, ha, true, rfl, iteF ⟨_, rfl, q⟩⟩⟩⟩
end
end E2

set_option Elab.async false
set_option linter.all false
set_option maxRecDepth 100000
set_option maxHeartbeats 1000000
/-! {names: d[names] for names in d}: the copy of a form's dict -/
namespace L2
open PySem PySem.Spec PyProof.Rows
theorem findN_at : ∀ {l : NAV} {i : Nat} {x : List Key × Addr × Addr}, (l.map (·.1)).Nodup → l[i]? = some x → findN l x.1 = some x.2
  | [], _, _, _, h => by cases h
  | y :: r, 0, x, _, h => by
    obtain rfl : y = x := Option.some.inj h
    exact findN_hit rfl
  | y :: r, i + 1, x, hn, h => by
    rw [List.map_cons] at hn
    obtain ⟨h1, h2⟩ := List.nodup_cons.mp hn
    have h' : r[i]? = some x := by simpa using h
    rw [findN_miss fun e => h1 (by rw [e]; exact List.mem_map.mpr ⟨x, List.mem_of_getElem? h', rfl⟩)]
    exact findN_at h2 h'
theorem FmKv.nodup {K : PySem.W.Frag} {H : Hp} {l : NAV} {fm : Fm} (h : FmKv K H l fm) (hn : (fm.map (·.1)).Nodup) : (l.map (·.1)).Nodup := by
  have e : l.map (·.1) = (fm.map (·.1)).map kS := by
    unfold FmKv at h
    clear hn
    induction h with
    | nil => rfl
    | cons r t ih => rw [List.map_cons, List.map_cons, List.map_cons, ih, r.1]
  rw [e]
  exact List.Pairwise.map kS (fun a b n z => n (kS_inj z)) hn
/-- the dict locked, its keys walked by a dict comprehension, the dict open again -/
theorem lock_keys {P : Program} {w : World} {K : PySem.W.Frag} {H : Hp} {d : Addr} {l : NAV} {fm : Fm} {td : TE} {g : TG} {tk tv : TE} {vs : List Nat} {σ : St} {Q : VK}
    (hd : H d = some (DfO P w d l)) (hf : FmKv K H l fm) (hn : (fm.map (·.1)).Nodup) (hz : fm.length ≤ sizeLine)
    (hte : ∀ (od : Obj) (R : VK), R (.ref d) (upd H d (.frz od (DfO P w d l))) → td σ (upd H d (.frz od (DfO P w d l))) R)
    (hs : ∀ (od : Obj) (H1 : Hp), H1 = upd H d (.frz od (DfO P w d l)) → ∀ (i : Nat) (m : MonR) (q : Rat) (H' : Hp) (b a : Addr) (put : V → V → Hp → Prop) (skip : Hp → Prop), fm[i]? = some (m, q) → Same H1 H' → TupN H' b ((kS m).map kV) → GetN P w K H' d (.ref b) (some a) → SqT K H' a (frac q) →
      (∀ H5 (b' a' : Addr), Same H' H5 → TupN H5 b' ((kS m).map kV) → SqT K H5 a' (frac q) → put (.ref b') (.ref a') H5) →
      g (.ref b) (wipe σ vs) H' fun σ2 H2 => wipe σ2 vs = wipe σ vs ∧ tYes σ2 H2 fun c H3 => if c = true then tk σ2 H3 fun y H4 => tv σ2 H4 fun z H5 => put y z H5 else skip H3)
    (hq : ∀ H' D l', Same H H' → H D = none → H' D = some (DfO P w D l') → FmKv K H' l' fm → Q (.ref D) H') :
    tLockE (tDcN P w K (iKeysN P w td) g tYes tk tv vs) σ H Q := by
  refine ⟨d, DfO P w d l, hd, trivial, fun od => ?_⟩
  have hf0 : FmKv K (upd H d (.frz od (DfO P w d l))) l fm := hf.imp (.off hd noTup_df)
  refine hte od _ ⟨d, od, l, rfl, upd_same, fun D nD => ?_⟩
  have neD : D ≠ d := by
    rintro rfl
    rw [upd_same] at nD
    cases nD
  have nD' : H D = none := by rwa [upd_ne neD] at nD
  have h1 : (upd H d (.frz od (DfO P w d l))) d = some (.frz od (DfO P w d l)) := upd_same
  generalize hH1 : upd H d (.frz od (DfO P w d l)) = H1 at hf0 nD h1 ⊢
  refine dcN_it walk_keysN (fun i H' => Same H1 H' ∧ ∃ l', H' D = some (DfO P w D l') ∧ FmKv K H' l' (fm.take i)) ⟨Same.upd nD, [], upd_same, .nil⟩ (fun i H _ q => q.1 _ _ h1) ?_ ?_
  · rintro i x H0 H' hi ⟨S, l', hD', kv'⟩ ⟨rfl, k, qb, av, hkv, rfl⟩
    obtain ⟨m, q, b, a, hm, e, tb, sa⟩ := hf0.get hkv
    obtain ⟨rfl, e2⟩ := Prod.mk.inj e
    obtain ⟨rfl, rfl⟩ := Prod.mk.inj e2
    have tk1 := take_snoc hm
    have hil : i < fm.length := by rw [← hf.length]; exact hi
    have dg : GetN P w K H' d (.ref qb) (some av) := ⟨l, qb, kS m, .inr ⟨od, S _ _ h1⟩, (hf0.same S).keys, rfl, (tb.same S).sq, by rw [findN_at (hf.nodup hn) hkv]; rfl⟩
    refine hs od H1 hH1.symm i m q H' qb av _ _ hm S (tb.same S) dg (sa.same S) fun H5 b' a' S5 hb' sa' => ?_
    refine ⟨l', kS m, b', a', rfl, rfl, hb'.sq, S5 _ _ hD', (kv'.same S5).keys, ?_, ?_, ?_⟩
    · rw [kv'.length, List.length_take]
      omega
    · intro c u e
      rw [upd_ne (ne_of_none e nD)]
      exact S5 _ _ (S _ _ e)
    · refine ⟨_, upd_same, ?_⟩
      rw [tk1]
      have k6 := (kv'.same S5).put m hb' sa'
      rw [putM_new _ (nodup_new hn hm)] at k6
      exact k6.imp (.off (S5 _ _ hD') noTup_df)
  · rintro H' ⟨S, l', hD', kv'⟩
    rw [hf.length, List.take_length] at kv'
    subst hH1
    refine ⟨S _ _ h1, hq _ D l' (same_back hd S) nD' (by rw [upd_ne neD]; exact hD') ?_⟩
    exact kv'.imp (.off (S _ _ h1) noTup_fz)
end L2

set_option Elab.async false
set_option linter.all false
set_option maxRecDepth 100000
set_option maxHeartbeats 1000000
/-! a + b -/
namespace E2
open PySem PySem.Spec PyProof.Rows L2
open C8 (Cal Mak Met InsC pe_c pe_mt pe_mt0 call_isC clsBody)
abbrev nz : Rat → Bool := fun q => !decide (q = 0)
/-- what stands on the right: a whole number, or a form -/
def RightV (P : Program) (w : World) (K : PySem.W.Frag) (C : Addr) (H : Hp) (v : V) (fm : Fm) : Prop := (∃ n : Int, v = .int n ∧ fm = numM n) ∨ ∃ b, v = .ref b ∧ FmAt P w K C H b fm
theorem right_of {P : Program} {w : World} {K : PySem.W.Frag} {C : Addr} {H : Hp} {v : V} {fm : Fm} {Q : VK} {E : XK} (h : RightV P w K C H v fm) (k : ∀ H0 b, Same H H0 → FmAt P w K C H0 b fm → Q (.ref b) H0) : spRight P w K C [v] H Q E := by
  rcases h with ⟨n, rfl, rfl⟩ | ⟨b, rfl, hb⟩
  · exact ⟨_, rfl, .inl ⟨n, rfl, fun H' b S _ hb => k H' b S hb⟩⟩
  · obtain ⟨dx, d, kvs, ha, hd, hf⟩ := hb
    exact ⟨_, rfl, .inr ⟨b, dx, _, rfl, ha, k H b (Same.refl H) ⟨dx, d, kvs, ha, hd, hf⟩⟩⟩
/-- sizes that the fractions' arithmetic takes -/
structure Szs (fm1 fm2 : Fm) : Prop where
  n1 : (fm1.map (·.1)).Nodup
  n2 : (fm2.map (·.1)).Nodup
  len : fm1.length + fm2.length < sizeLine
  bq : ∃ D M N, 0 < D ∧ D < 2 ^ 4000 ∧ M + fm2.length * N < 2 ^ 400000 ∧ N < 2 ^ 400000 ∧ (∀ x ∈ fm1, Bq D M x.2) ∧ ∀ x ∈ fm2, Bq D N x.2
def spAdd (P : Program) (w : World) (K : PySem.W.Frag) (C : Addr) : Sp := fun vs H Q _ => ∃ a v fm1 fm2, vs = [.ref a, v] ∧ FmAt P w K C H a fm1 ∧ RightV P w K C H v fm2 ∧ Szs fm1 fm2 ∧ ∀ H' b, Same H H' → H b = none → FmAt P w K C H' b (mapM nz id (addTo fm1 fm2)) → Q (.ref b) H'
theorem get_or {K : PySem.W.Frag} {H : Hp} {l : NAV} {fm : Fm} {D M : Nat} {t : Addr} (h : FmKv K H l fm) (m : MonR) (ht : SqT K H t (frac 0)) (hb : ∀ y ∈ fm, Bq D M y.2) :
    ∃ p, orV ((findN l (kS m)).map (·.2)) (.ref t) = .ref p ∧ SqT K H p (frac ((valM fm m).getD 0)) ∧ Bq D M ((valM fm m).getD 0) := by
  rcases h.val m with ⟨e1, e2⟩ | ⟨b, a, q, e1, e2, sa⟩
  · rw [e1, e2]
    exact ⟨t, rfl, ht, Bq.zero.mono (Nat.zero_le _)⟩
  · rw [e1, e2]
    exact ⟨a, rfl, sa, hb _ (mem_valM e2)⟩
section
variable {P : Program} {w : World} {K : PySem.W.Frag} {mg : Str → Option Value} {base : Heap} {C : Addr}
theorem scAdd : FnScope ["self", "other", "right", "parts", "names", "worth"] ["self", "other"] (defScope sAdd) := ⟨rfl, rfl, rfl, by decide +kernel, rfl, by decide +kernel, by decide +kernel⟩
theorem ok_add {f : Addr} {fd : FuncData} (F : Fun K "__add__" "Form.__add__" sAdd f fd) (T : Fx P w K mg base C) (R : Cal P w K mg base 4 "right_side" (spRight P w K C) []) (Fs : Cal P w K mg base 2 "fraction_sum" (spFrac K (· + ·)) []) (Wo : Cal P w K mg base 1 "without_noughts" (spWithout P w K) []) : FnOk P w K mg base CX0 5 f fd ["self", "other"] (spAdd P w K C) := by
  refine F.ok scAdd (fun vs H Q E h => ?_) (fun cdv A outer s H vs Q E hr h => ?_)
  · obtain ⟨a, v, fm1, fm2, rfl, _⟩ := h
    rfl
  · obtain ⟨a, v0, fm1, fm2, rfl, ⟨dx, d, kvs, ha, hd, hf⟩, hv, Z, k⟩ := h
    have u1 := Nat.lt_of_le_of_lt (Nat.add_le_add_left (by decide : 1 ≤ 64) _) hr.units
    refine ⟨_, pss_cons (ps_set (i := 2) scAdd.nd rfl (Or.inl rfl) (pe_c R hr (by decide) rfl (pa_cons (pv 1) pa_nil)))
      (pss_cons (ps_lock (ps_dcN (i := 3) (swD_true rfl rfl rfl (by rfl)) (own := [("names", 4)]) (g := gName 4) (tt := tYes) (tk := tVar 4) (tv := tOp (rDf P w K) (tFld K (tVar 0) "_parts") (tVar 4)) (Nat.lt_of_le_of_lt (Nat.le_add_right _ 64) hr.units) rfl scAdd.nd rfl rfl (pi_keysN (pe_fld (pv 0) rfl))
        (blkOk_by (own := [("names", 4)]) (N := ["self", "other", "right", "parts", "names", "worth"]) (sc := defScope sAdd) (by decide +kernel))
        ⟨fun _ _ _ _ _ => pg_name (i := 4) scAdd.nd rfl (Or.inl rfl), fun _ _ _ _ _ => pts_nil, fun _ _ _ _ _ => pv 4, fun _ _ _ _ _ => by exact pe_ix (ix_df u1) (pe_fld (pv 0) rfl) (pv 4) (fun _ _ => rfl)⟩))
      (pss_cons (ps_lock (ps_for PassesOwn.never rfl (pi_itemsN (pe_fld (pv 2) rfl)) (pg_tup rfl (pgs_cons (pg_name (i := 4) scAdd.nd rfl (Or.inl rfl)) (pgs_cons (pg_name (i := 5) scAdd.nd rfl (Or.inl rfl)) pgs_nil)))
        (pss_one (ps_asg (pe_c Fs hr (by decide) rfl (pa_cons (pe_get2N u1 (pv 3) (pv 4) (pe_tupS (pa_cons pe_int (pa_cons pe_int pa_nil))) ⟨rfl, rfl, rfl, rfl⟩) (pa_cons (pv 5) pa_nil))) (pg_sub (pv 3) (pv 4) (set_df u1))))))
      (pss_one (ps_ret (pe_mkF T.maks hr (by decide) rfl (pe_c Wo hr (by decide) rfl (pa_cons (pv 3) pa_nil))))))), ?_⟩
    refine seq_asg (call_one rfl (right_of hv fun H0 b S0 hb => ?_))
    have hd0 : H0 d = some (DfO P w d kvs) := S0 _ _ hd
    refine seq_lockasg ?_
    refine lock_keys hd0 (hf.same S0) Z.n1 (by have := Z.len; omega) (fun od R h => ⟨_, rfl, a, C, dx, _, _, rfl, by rw [upd_ne (ne_of ha hd (by intro z; cases z))]; exact S0 _ _ ha, T.cl, T.na, rfl, h⟩) ?_ ?_
    · rintro od H1 rfl i m q H' b1 a1 put skip hm S hb1 dg sa hput
      refine ⟨rfl, iteT (B := False) ?_⟩
      refine ⟨_, rfl, _, rfl, a, C, dx, _, _, rfl, S _ _ (by rw [upd_ne (ne_of ha hd (by intro z; cases z))]; exact S0 _ _ ha), T.cl, T.na, rfl, _, rfl, d, _, rfl, dg, hput H' b1 a1 (Same.refl H') hb1 sa⟩
    · intro H1 D kvs1 S1 nD hD kv1
      obtain ⟨dx2, d2, kvs2, hb1, hd2, hf2⟩ := hb
      have neD : D ≠ d2 := by
        rintro rfl
        rw [nD] at hd2
        cases hd2
      have hd21 := S1 _ _ hd2
      have hb11 := S1 _ _ hb1
      obtain ⟨Dn, M, N, hD0, hD4, hMN, hN, hq1, hq2⟩ := Z.bq
      refine seq_for_items (l := kvs2) (fm := fm2) (d := d2) hd21 (hf2.same S1) (fun od R h => ⟨_, rfl, b, C, dx2, _, _, rfl, by rw [upd_ne (ne_of hb11 hd21 (by intro z; cases z))]; exact hb11, T.cl, T.na, rfl, h⟩)
        (fun od i σ' H' => (∃ u v, σ' = [some (.ref a), some v0, some (.ref b), some (.ref D), u, v]) ∧ SameB D (upd H1 d2 (.frz od (DfO P w d2 kvs2))) H' ∧ ∃ kvs', H' D = some (DfO P w D kvs') ∧ FmKv K H' kvs' (addTo fm1 (fm2.take i))) ?_ ?_ ?_ ?_
      · intro od
        refine ⟨⟨none, none, rfl⟩, SameB.refl _ _, kvs1, by rw [upd_ne neD]; exact hD, ?_⟩
        exact kv1.imp (.off hd21 noTup_df)
      · rintro od i σ' H' ⟨_, S, _⟩
        exact ⟨S _ _ (Ne.symm neD) upd_same, .sameB S (by rw [upd_ne neD]; exact hD) noTup_df⟩
      · rintro od i m q σ' H' T b2 a2 rt bk hm ⟨⟨u, v, rfl⟩, S, kvs', hD', kv'⟩ nT hb2 sa2
        have S2 : Same H' (upd H' T (.tup [.ref b2, .ref a2])) := Same.upd nT
        refine ⟨T, _, rfl, SqT.of upd_same, rfl, _, _, rfl, _, _, rfl, rfl, ?_⟩
        refine ⟨_, rfl, D, kvs', rfl, .inl (S2 _ _ hD'), _, rfl, (by show 2 ≤ sizeLine; decide), fun t H3 S3 n3 h3 => ?_⟩
        have hD3 := S3 _ _ (S2 _ _ hD')
        have kv3 := (kv'.same S2).same S3
        have tb2 := (hb2.same S2).same S3
        refine ⟨_, ⟨kvs', b2, kS m, .inl hD3, kv3.keys, rfl, tb2.sq, rfl⟩, ?_⟩
        have hil : i < fm2.length := (List.getElem?_eq_some_iff.mp hm).1
        have tl : (fm2.take i).length = i := by rw [List.length_take]; omega
        obtain ⟨p0, e0, sp, bq0⟩ := get_or kv3 m (SqT.of h3) (bq_addTo (fm2.take i) fm1 M hq1 fun y hy => hq2 y (List.mem_of_mem_take hy))
        rw [e0]
        have bq1 := hq2 _ (List.mem_of_getElem? hm)
        have le0 : M + (fm2.take i).length * N < 2 ^ 400000 := Nat.lt_of_le_of_lt (Nat.add_le_add_left (Nat.mul_le_mul_right _ (by rw [tl]; omega)) _) hMN
        refine ⟨_, rfl, p0, a2, _, q, rfl, sp, (sa2.same S2).same S3, Nat.lt_of_le_of_lt (bq0.num_le hD0) le0, Nat.lt_of_le_of_lt (bq1.num_le hD0) hN, Nat.lt_of_le_of_lt (bq0.den_le hD0) hD4, Nat.lt_of_le_of_lt (bq1.den_le hD0) hD4, fun p5 H5 S5 n5 h5 => ?_⟩
        have hD5 := S5 _ _ hD3
        have ll := length_addTo (fm2.take i) fm1
        refine ⟨_, rfl, _, rfl, D, b2, _, kvs', kS m, rfl, rfl, rfl, hD5, (kv3.same S5).keys, (tb2.same S5).sq, (by rw [kv'.length]; have := Z.len; omega), ⟨_, _, rfl⟩, (((S.to S2).to S3).to S5).upd, _, upd_same, ?_⟩
        rw [take_addTo hm]
        exact ((kv3.same S5).put m (tb2.same S5) (SqT.of h5)).imp (.off hD5 noTup_df)
      · rintro od σ' H' ⟨⟨u, v, rfl⟩, S, kvs', hD', kv'⟩
        rw [List.take_length] at kv'
        have hl2 : H' d2 = some (.frz od (DfO P w d2 kvs2)) := S _ _ (Ne.symm neD) upd_same
        have SH : Same H (upd H' d2 (DfO P w d2 kvs2)) := by
          intro c o e
          have e0 := S0 _ _ e
          have nc : c ≠ D := by
            rintro rfl
            rw [nD] at e0
            cases e0
          by_cases c2 : c = d2
          · subst c2
            rw [upd_same]
            rw [hd2] at e0
            exact e0
          · rw [upd_ne c2]
            exact S _ _ nc (by rw [upd_ne c2]; exact S1 _ _ e0)
        have nDH : ∀ {c : Addr}, upd H' d2 (DfO P w d2 kvs2) c = none → H c = none := fun {c} n => SH.free n
        refine ret_mkF ?_
        refine call_one rfl ⟨D, kvs', addTo fm1 fm2, rfl, by rw [upd_ne neD]; exact hD', kv'.imp (.off hl2 noTup_fz), nodup_addTo _ _ Z.n1, Nat.le_of_lt (Nat.lt_of_le_of_lt (length_addTo _ _) Z.len), fun H4 D4 kvs4 S4 nD4 hD4 kv4 b5 dx5 H5 S5 nb5 hb5 => ?_⟩
        exact k H5 b5 ((SH.trans S4).trans S5) ((SH.trans S4).free nb5) ⟨dx5, D4, kvs4, hb5, S5 _ _ hD4, kv4.same S5⟩
end
end E2

set_option Elab.async false
set_option linter.all false
set_option maxRecDepth 100000
set_option maxHeartbeats 1000000
/-! for .. in d.items(), where d may be walked already; products of forms: the mathematics -/
namespace L2
open PySem PySem.Spec PyProof.Rows
def tLockO (t : TS) : TS := fun D σ H => tLock t D σ H ∨ t D σ H
theorem ps_lockO {X : Cx} {st : Stmt} {t : TS} (h : PS X st t) : PS X st (tLockO t) :=
  ⟨fun pins s σ H D I hw => hw.elim (fun q => (ps_lock h).run pins s σ H D I q) fun q => h.run pins s σ H D I q⟩
/-- Hl is H, d's dict locked -/
structure Lk (P : Program) (w : World) (d : Addr) (l : NAV) (od : Obj) (H Hl : Hp) : Prop where
  at_ : Hl d = some (.frz od (DfO P w d l))
  off : ∀ b, b ≠ d → Hl b = H b
theorem for_itemsO {P : Program} {w : World} {K : PySem.W.Frag} {H : Hp} {d : Addr} {l : NAV} {fm : Fm} {td : TE} {g : TG} {tb : TS} {D : Ends} {σ : St} (hd : Rd H d (DfO P w d l)) (hf : FmKv K H l fm)
    (hte : ∀ (od : Obj) (Hl : Hp), Lk P w d l od H Hl → ∀ R : VK, R (.ref d) Hl → td σ Hl R) (Pv : Obj → Hp → Nat → St → Hp → Prop) (h0 : ∀ od Hl, Lk P w d l od H Hl → Pv od Hl 0 σ Hl)
    (hl : ∀ od Hl, Lk P w d l od H Hl → ∀ i σ' H', Pv od Hl i σ' H' → H' d = some (.frz od (DfO P w d l)) ∧ Mv K Hl H')
    (hs : ∀ (od : Obj) (Hl : Hp), Lk P w d l od H Hl → ∀ (i : Nat) (m : MonR) (q : Rat) (σ' : St) (H' : Hp) (T b a : Addr) (rt : VK) (bk : St → Hp → Prop), fm[i]? = some (m, q) → Pv od Hl i σ' H' → H' T = none → TupN H' b ((kS m).map kV) → SqT K H' a (frac q) →
      g (.ref T) σ' (upd H' T (.tup [.ref b, .ref a])) fun σ2 H2 => tb { nx := Pv od Hl (i + 1), rt := rt, bk := bk, ct := Pv od Hl (i + 1) } σ2 H2)
    (he : ∀ od Hl, Lk P w d l od H Hl → ∀ σ' H' Hu, Pv od Hl fm.length σ' H' → Hu d = H d → (∀ b, b ≠ d → Hu b = H' b) → D.nx σ' Hu) : tLockO (tFor (iItemsN P w td) g tb) D σ H := by
  have core : ∀ (od : Obj) (Hl : Hp) (L : Lk P w d l od H Hl) (D' : Ends), FmKv K Hl l fm → (∀ σ' H', Pv od Hl fm.length σ' H' → D'.nx σ' H') → tFor (iItemsN P w td) g tb D' σ Hl := by
    intro od Hl L D' hf0 hnx
    refine hte od Hl L _ ⟨d, od, l, rfl, L.at_, for_it walk_itemsN (Pv od Hl) (h0 od Hl L) (fun i σ' H' _ p => (hl od Hl L i σ' H' p).1) ?_ ?_⟩
    · rintro i x σ' H' H'' hi p ⟨T, k, qb, av, hkv, rfl, nT, rfl⟩
      obtain ⟨m, q, b, a, hm, e, tb, sa⟩ := hf0.get hkv
      obtain ⟨rfl, e2⟩ := Prod.mk.inj e
      obtain ⟨rfl, rfl⟩ := Prod.mk.inj e2
      have M := (hl od Hl L i σ' H' p).2
      exact hs od Hl L i m q σ' H' T qb av _ _ hm p nT (M.tn _ _ tb) (M.sq _ _ sa)
    · intro σ' H' p
      rw [hf.length] at p
      exact hnx σ' H' p
  rcases hd with hd | ⟨o, hd⟩
  · refine .inl ⟨d, DfO P w d l, hd, trivial, fun od => ?_⟩
    have L : Lk P w d l od H (upd H d (.frz od (DfO P w d l))) := ⟨upd_same, fun b n => upd_ne n⟩
    refine core od _ L _ (hf.imp (.agree hd noTup_df L.off)) fun σ' H' p => ⟨(hl od _ L _ σ' H' p).1, ?_⟩
    exact he od _ L σ' H' _ p (by rw [upd_same, hd]) fun b n => upd_ne n
  · have L : Lk P w d l o H H := ⟨hd, fun _ _ => rfl⟩
    refine .inr (core o H L D hf fun σ' H' p => he o H L σ' H' H' p ?_ fun _ _ => rfl)
    rw [(hl o H L _ σ' H' p).1, hd]
/-- a product of two terms, its letters sorted -/
def MulT (z : MonR × Rat) (xy : (MonR × Rat) × (MonR × Rat)) : Prop := z.1.Perm (xy.1.1 ++ xy.2.1) ∧ sortedS z.1 = true ∧ z.2 = xy.1.2 * xy.2.2
def allP (a b : Fm) : List ((MonR × Rat) × (MonR × Rat)) := a.flatMap fun x => b.map fun y => (x, y)
theorem allP_snoc (a b : Fm) (x : MonR × Rat) : allP (a ++ [x]) b = allP a b ++ b.map fun y => (x, y) := by
  unfold allP
  rw [List.flatMap_append]
  simp
theorem allP_length (a b : Fm) : (allP a b).length = a.length * b.length := by
  unfold allP
  induction a with
  | nil => simp
  | cons x a ih => rw [List.flatMap_cons, List.length_append, List.length_map, ih, List.length_cons, Nat.add_mul]; omega
end L2

set_option Elab.async false
set_option linter.all false
set_option maxRecDepth 100000
set_option maxHeartbeats 1000000
/-! a * b -/
namespace E2
open PySem PySem.Spec PyProof.Rows L2
open C8 (Cal Mak Met InsC pe_c pe_mt pe_mt0 call_isC clsBody)
structure Bt3 (mg : Str → Option Value) : Prop where
  tup_ : mg "tuple" = none
  srt_ : mg "sorted" = none
structure SzM (fm1 fm2 : Fm) : Prop where
  n1 : (fm1.map (·.1)).Nodup
  n2 : (fm2.map (·.1)).Nodup
  len : fm1.length * fm2.length < sizeLine
  keys : ∀ x ∈ fm1, ∀ y ∈ fm2, x.1.length + y.1.length ≤ sizeLine
  bq : ∃ D M E N, 0 < D ∧ 0 < E ∧ D * E < 2 ^ 4000 ∧ fm1.length * fm2.length * (M * N) < 2 ^ 400000 ∧ M * N < 2 ^ 400000 ∧ M < 2 ^ 400000 ∧ N < 2 ^ 400000 ∧ (∀ x ∈ fm1, Bq D M x.2) ∧ ∀ x ∈ fm2, Bq E N x.2
def spMul (P : Program) (w : World) (K : PySem.W.Frag) (C : Addr) : Sp := fun vs H Q _ => ∃ a v fm1 fm2, vs = [.ref a, v] ∧ FmAt P w K C H a fm1 ∧ RightV P w K C H v fm2 ∧ SzM fm1 fm2 ∧ ∀ H' b l, Same H H' → H b = none → Paired MulT l (allP fm1 fm2) → FmAt P w K C H' b (mapM nz id (addTo [] l)) → Q (.ref b) H'
theorem sort_cat {K : PySem.W.Frag} {i j : Nat} {a b : Addr} {m n : List Str} {σ : L2.St} {H : Hp} {Q : VK} (h4 : σ[i]? = some (some (.ref a))) (h6 : σ[j]? = some (some (.ref b))) (sa : SqT K H a (m.map V.str)) (sb : SqT K H b (n.map V.str)) (hz : m.length + n.length ≤ sizeLine)
    (k : ∀ H' p (ys : List Str), Same H H' → ys.Perm (m ++ n) → sortedS ys = true → TupN H' p (ys.map V.str) → Q (.ref p) H') : tCB (rTupN K) (tCons (tCB (rSortedTS K) (tCons (tOp (rCatA K) (tVar i) (tVar j)) tNil)) tNil) σ H Q := by
  have fin : ∀ H1 c, Same H H1 → SqT K H1 c ((m ++ n).map V.str) → rSortedTS K [.ref c] H1 (fun x H2 => rTupN K [x] H2 Q) := fun H1 c S s =>
    ⟨c, m ++ n, rfl, s, by rw [List.length_append]; exact hz, fun ys p1 p2 p H2 S2 np hp => ⟨p, _, rfl, SqL.of hp, fun q H3 S3 nq tq => k H3 q ys ((S.trans S2).trans S3) p1 p2 tq⟩⟩
  refine ⟨_, h4, _, h6, a, b, _, _, rfl, rfl, sa, sb, by rw [List.length_map, List.length_map]; exact hz, fun e => ?_, fun e1 e2 => ?_, fun e1 e2 p np => ?_⟩
  · have e' : m = [] := List.map_eq_nil_iff.mp e
    exact fin H b (Same.refl H) (by rw [e']; exact sb)
  · have e' : n = [] := List.map_eq_nil_iff.mp e2
    exact fin H a (Same.refl H) (by rw [e', List.append_nil]; exact sa)
  · exact fin _ p (Same.upd np) (by rw [List.map_append]; exact SqT.of upd_same)
theorem bq_mulT {D M E N : Nat} {l : Fm} {ps : List ((MonR × Rat) × (MonR × Rat))} (h : Paired MulT l ps) (hp : ∀ p ∈ ps, Bq D M p.1.2 ∧ Bq E N p.2.2) : ∀ z ∈ l, Bq (D * E) (M * N) z.2 := by
  induction h with
  | nil => intro z hz; exact absurd hz List.not_mem_nil
  | @cons z p l ps r t ih =>
    intro y hy
    rcases List.mem_cons.mp hy with rfl | hy
    · rw [r.2.2]
      exact (hp p (List.mem_cons.mpr (.inl rfl))).1.mul (hp p (List.mem_cons.mpr (.inl rfl))).2
    · exact ih (fun p h => hp p (List.mem_cons.mpr (.inr h))) y hy
theorem mem_allP {a b : Fm} {p : (MonR × Rat) × (MonR × Rat)} (h : p ∈ allP a b) : p.1 ∈ a ∧ p.2 ∈ b := by
  unfold allP at h
  obtain ⟨x, hx, h⟩ := List.mem_flatMap.mp h
  obtain ⟨y, hy, rfl⟩ := List.mem_map.mp h
  exact ⟨hx, hy⟩
theorem seq_lockO {wi : TI} {g : TG} {tb u : TS} {D : Ends} {σ : L2.St} {H : Hp} (h : tLockO (tFor wi g tb) { D with nx := u D } σ H) : tSeq (tLockO (tFor wi g tb)) u D σ H := h
section
variable {P : Program} {w : World} {K : PySem.W.Frag} {mg : Str → Option Value} {base : Heap} {C : Addr}
theorem scMul : FnScope ["self", "other", "right", "parts", "mine", "worth", "its", "factor", "names", "grown"] ["self", "other"] (defScope sMul) := ⟨rfl, rfl, rfl, by decide +kernel, rfl, by decide +kernel, by decide +kernel⟩
theorem ok_mul {f : Addr} {fd : FuncData} (F : Fun K "__mul__" "Form.__mul__" sMul f fd) (T : Fx P w K mg base C) (B : Bt3 mg) (R : Cal P w K mg base 4 "right_side" (spRight P w K C) []) (Fs : Cal P w K mg base 2 "fraction_sum" (spFrac K (· + ·)) []) (Fp : Cal P w K mg base 2 "fraction_product" (spFrac K (· * ·)) []) (Wo : Cal P w K mg base 1 "without_noughts" (spWithout P w K) []) : FnOk P w K mg base CX0 5 f fd ["self", "other"] (spMul P w K C) := by
  refine F.ok scMul (fun vs H Q E h => ?_) (fun cdv A outer s H vs Q E hr h => ?_)
  · obtain ⟨a, v, fm1, fm2, rfl, _⟩ := h
    rfl
  · obtain ⟨a, v0, fm1, fm2, rfl, ⟨dx, d, kvs, ha, hd, hf⟩, hv, Z, k⟩ := h
    have u1 := Nat.lt_of_le_of_lt (Nat.add_le_add_left (by decide : 1 ≤ 64) _) hr.units
    refine ⟨_, pss_cons (ps_set (i := 2) scMul.nd rfl (Or.inl rfl) (pe_c R hr (by decide) rfl (pa_cons (pv 1) pa_nil)))
      (pss_cons (ps_set (i := 3) scMul.nd rfl (Or.inl rfl) pe_newD)
      (pss_cons (ps_lockO (ps_for PassesOwn.never rfl (pi_itemsN (pe_fld (pv 0) rfl)) (pg_tup rfl (pgs_cons (pg_name (i := 4) scMul.nd rfl (Or.inl rfl)) (pgs_cons (pg_name (i := 5) scMul.nd rfl (Or.inl rfl)) pgs_nil)))
        (pss_one (ps_lockO (ps_for PassesOwn.never rfl (pi_itemsN (pe_fld (pv 2) rfl)) (pg_tup rfl (pgs_cons (pg_name (i := 6) scMul.nd rfl (Or.inl rfl)) (pgs_cons (pg_name (i := 7) scMul.nd rfl (Or.inl rfl)) pgs_nil)))
          (pss_cons (ps_set (i := 8) scMul.nd rfl (Or.inl rfl) (pe_callTy cr_tupN (by rfl) B.tup_ (by decide +kernel) (pa_cons (pe_callB cr_sortedTS (by rfl) B.srt_ (by decide +kernel) (pa_cons (pe_op op_catA (pv 4) (pv 6)) pa_nil)) pa_nil)))
          (pss_cons (ps_set (i := 9) scMul.nd rfl (Or.inl rfl) (pe_c Fp hr (by decide) rfl (pa_cons (pv 5) (pa_cons (pv 7) pa_nil))))
          (pss_one (ps_asg (pe_c Fs hr (by decide) rfl (pa_cons (pe_get2N u1 (pv 3) (pv 8) (pe_tupS (pa_cons pe_int (pa_cons pe_int pa_nil))) ⟨rfl, rfl, rfl, rfl⟩) (pa_cons (pv 9) pa_nil))) (pg_sub (pv 3) (pv 8) (set_df u1))))))))))) 
      (pss_one (ps_ret (pe_mkF T.maks hr (by decide) rfl (pe_c Wo hr (by decide) rfl (pa_cons (pv 3) pa_nil))))))), ?_⟩
    refine seq_asg (call_one rfl (right_of hv fun H0 b S0 hb => ?_))
    refine seq_asg (fun D nD => ?_)
    obtain ⟨dx2, d2, kvs2, hb1, hd2, hf2⟩ := hb
    have hd0 := S0 _ _ hd
    have neD : d ≠ D := by rintro rfl; rw [nD] at hd0; cases hd0
    have neD2 : d2 ≠ D := by rintro rfl; rw [nD] at hd2; cases hd2
    have nebD : b ≠ D := by rintro rfl; rw [nD] at hb1; cases hb1
    have nebd : b ≠ d := by rintro rfl; rw [hd0] at hb1; cases hb1
    have nebd2 : b ≠ d2 := by rintro rfl; rw [hd2] at hb1; cases hb1
    have nad : a ≠ d := ne_of ha hd (by intro z; cases z)
    have naD : a ≠ D := by rintro rfl; rw [S0 _ _ ha] at nD; cases nD
    generalize hHn : upd H0 D _ = Hn
    have SN : Same H0 Hn := by rw [← hHn]; exact Same.upd nD
    have hDn : Hn D = some (DfO P w D []) := by rw [← hHn]; exact upd_same
    have hoff : ∀ c, c ≠ D → Hn c = H0 c := fun c n => by rw [← hHn]; exact upd_ne n
    obtain ⟨Dn, M, En, N, p1', p2', bDE, b1', b2', b3, b4, hq1, hq2⟩ := Z.bq
    have hdn := SN _ _ hd0
    have lkD : ∀ {od Hl}, Lk P w d kvs od Hn Hl → Hl D = some (DfO P w D []) := fun {od Hl} L => by rw [L.off D (Ne.symm neD)]; exact hDn
    have lkS : ∀ {od Hl}, Lk P w d kvs od Hn Hl → Mv K Hn Hl := fun {od Hl} L => .agree hdn noTup_df L.off
    have rd2 : ∀ {od Hl}, Lk P w d kvs od Hn Hl → Rd Hl d2 (DfO P w d2 kvs2) := fun {od Hl} L => by
      by_cases e : d2 = d
      · subst e
        have e2 : DfO P w d2 kvs = DfO P w d2 kvs2 := Option.some.inj (hd0.symm.trans hd2)
        exact .inr ⟨od, by rw [← e2]; exact L.at_⟩
      · exact .inl (by rw [L.off d2 e]; exact SN _ _ hd2)
    refine seq_lockO (for_itemsO (l := kvs) (fm := fm1) (d := d) (.inl hdn) ((hf.same S0).same SN) (fun od Hl L R h => ⟨_, rfl, a, C, dx, _, _, rfl, by rw [L.off a nad]; exact SN _ _ (S0 _ _ ha), T.cl, T.na, rfl, h⟩)
      (fun od Hl i σ' H' => (∃ u4 u5 u6 u7 u8 u9, σ' = [some (.ref a), some v0, some (.ref b), some (.ref D), u4, u5, u6, u7, u8, u9]) ∧ SameB D Hl H' ∧ ∃ kvs' l, H' D = some (DfO P w D kvs') ∧ FmKv K H' kvs' (addTo [] l) ∧ Paired MulT l (allP (fm1.take i) fm2)) ?_ ?_ ?_ ?_)
    · intro od Hl L
      exact ⟨⟨none, none, none, none, none, none, rfl⟩, SameB.refl _ _, [], [], lkD L, .nil, .nil⟩
    · rintro od Hl L i σ' H' ⟨_, S, _⟩
      exact ⟨S _ _ neD L.at_, .sameB S (lkD L) noTup_df⟩
    · rintro od Hl L i m q σ' H' T1 k1 a1 rt bk hm ⟨⟨u4, u5, u6, u7, u8, u9, rfl⟩, S, kvs', l, hD', kv', pl⟩ nT hk1 sa1
      have hq := hq1 _ (List.mem_of_getElem? hm)
      have hmm := List.mem_of_getElem? hm
      refine ⟨T1, _, rfl, SqT.of upd_same, rfl, _, _, rfl, _, _, rfl, rfl, ?_⟩
      have S2 : Same H' (upd H' T1 (.tup [.ref k1, .ref a1])) := Same.upd nT
      have hD1 := S2 _ _ hD'
      have SB := S.to S2
      have kv1 := kv'.same S2
      have sa1 := sa1.same S2
      have hk1 := hk1.same S2
      generalize upd H' T1 (.tup [.ref k1, .ref a1]) = H1 at S2 hD1 SB kv1 sa1 hk1 ⊢
      have rd1 : Rd H1 d2 (DfO P w d2 kvs2) := by
        rcases rd2 L with h | ⟨o, h⟩
        · exact .inl (SB _ _ neD2 h)
        · exact .inr ⟨o, SB _ _ neD2 h⟩
      have hf21 : FmKv K H1 kvs2 fm2 := (hf2.same SN).imp ((lkS L).trans (.sameB SB (lkD L) noTup_df))
      have hb11 : H1 b = some (.ins C dx2 [("_parts", .ref d2)]) := SB _ _ nebD (by rw [L.off b nebd]; exact SN _ _ hb1)
      have lk2S : ∀ {od2 Hl2}, Lk P w d2 kvs2 od2 H1 Hl2 → Mv K H1 Hl2 := fun {od2 Hl2} L2 => by
        rcases rd1 with h | ⟨o, h⟩
        · exact .agree h noTup_df L2.off
        · exact .agree h noTup_fz L2.off
      have lk2D : ∀ {od2 Hl2}, Lk P w d2 kvs2 od2 H1 Hl2 → Hl2 D = some (DfO P w D kvs') := fun {od2 Hl2} L2 => by rw [L2.off D (Ne.symm neD2)]; exact hD1
      refine for_itemsO (l := kvs2) (fm := fm2) (d := d2) rd1 hf21 (fun od2 Hl2 L2 R h => ⟨_, rfl, b, C, dx2, _, _, rfl, by rw [L2.off b nebd2]; exact hb11, T.cl, T.na, rfl, h⟩)
        (fun od2 Hl2 j σ' H' => (∃ u6 u7 u8 u9, σ' = [some (.ref a), some v0, some (.ref b), some (.ref D), some (.ref k1), some (.ref a1), u6, u7, u8, u9]) ∧ SameB D Hl2 H' ∧ ∃ kvs' l, H' D = some (DfO P w D kvs') ∧ FmKv K H' kvs' (addTo [] l) ∧ Paired MulT l (allP (fm1.take i) fm2 ++ (fm2.take j).map fun y => ((m, q), y))) ?_ ?_ ?_ ?_
      · intro od2 Hl2 L2
        exact ⟨⟨u6, u7, u8, u9, rfl⟩, SameB.refl _ _, kvs', l, lk2D L2, kv1.imp (lk2S L2), by rw [List.take_zero, List.map_nil, List.append_nil]; exact pl⟩
      · rintro od2 Hl2 L2 j σ' H'' ⟨_, S'', _⟩
        exact ⟨S'' _ _ neD2 L2.at_, .sameB S'' (lk2D L2) noTup_df⟩
      · rintro od2 Hl2 L2 j m2 q2 σ' H'' T2 k2 a2 rt2 bk2 hm2 ⟨⟨u6, u7, u8, u9, rfl⟩, S'', kvs'', l'', hD'', kv'', pl''⟩ nT2 hk2 sa2
        have hm2m := List.mem_of_getElem? hm2
        have hqq := hq2 _ hm2m
        have T2S : Same H'' (upd H'' T2 (.tup [.ref k2, .ref a2])) := Same.upd nT2
        refine ⟨T2, _, rfl, SqT.of upd_same, rfl, _, _, rfl, _, _, rfl, rfl, ?_⟩
        have hD2 := T2S _ _ hD''
        have SB2 := S''.to T2S
        have kv2 := kv''.same T2S
        have sk1 : SqT K (upd H'' T2 (.tup [.ref k2, .ref a2])) k1 (m.map V.str) := SqT.same ((Mv.sameB S'' (lk2D L2) noTup_df).sq _ _ ((lk2S L2).sq _ _ (by rw [← kS_kV]; exact hk1.sq))) T2S
        have sk2 : SqT K (upd H'' T2 (.tup [.ref k2, .ref a2])) k2 (m2.map V.str) := by rw [← kS_kV]; exact (hk2.same T2S).sq
        have sv1 : SqT K (upd H'' T2 (.tup [.ref k2, .ref a2])) a1 (frac q) := SqT.same ((Mv.sameB S'' (lk2D L2) noTup_df).sq _ _ ((lk2S L2).sq _ _ sa1)) T2S
        have sv2 := sa2.same T2S
        generalize upd H'' T2 (.tup [.ref k2, .ref a2]) = G0 at hD2 SB2 kv2 sk1 sk2 sv1 sv2 ⊢
        refine seq_asg (sort_cat rfl rfl sk1 sk2 (Z.keys _ hmm _ hm2m) fun G1 p1 ys S1 pm so hp1 => ?_)
        have pE : 0 < Dn * En := Nat.mul_pos p1' p2'
        have d1 : Dn ≤ Dn * En := Nat.le_mul_of_pos_right _ p2'
        have d2' : En ≤ Dn * En := Nat.le_mul_of_pos_left _ p1'
        refine seq_asg ⟨_, rfl, _, rfl, a1, a2, q, q2, rfl, sv1.same S1, sv2.same S1, Nat.lt_of_le_of_lt (hq.num_le p1') b3, Nat.lt_of_le_of_lt (hqq.num_le p2') b4, Nat.lt_of_le_of_lt (Nat.le_trans (hq.den_le p1') d1) bDE, Nat.lt_of_le_of_lt (Nat.le_trans (hqq.den_le p2') d2') bDE, fun p4 G2 S2' n4 h4 => ?_⟩
        refine ⟨_, rfl, D, kvs'', rfl, .inl (S2' _ _ (S1 _ _ hD2)), _, rfl, (by show 2 ≤ sizeLine; decide), fun t G3 S3 n5 h5 => ?_⟩
        have SG := (S1.trans S2').trans S3
        have hk3 : TupN G3 p1 ((kS ys).map kV) := by rw [kS_kV]; exact (hp1.same S2').same S3
        have hD3 := SG _ _ hD2
        refine ⟨_, ⟨kvs'', p1, kS ys, .inl hD3, (kv2.same SG).keys, rfl, hk3.sq, rfl⟩, ?_⟩
        have lps : l''.length = i * fm2.length + j := by
          have h1 := Paired.length pl''
          have li : (fm1.take i).length = i := by rw [List.length_take]; have := (List.getElem?_eq_some_iff.mp hm).1; omega
          have lj : (fm2.take j).length = j := by rw [List.length_take]; have := (List.getElem?_eq_some_iff.mp hm2).1; omega
          rw [List.length_append, allP_length, List.length_map, li, lj] at h1
          exact h1
        have hlt : i * fm2.length + j < fm1.length * fm2.length := by
          have h1 := (List.getElem?_eq_some_iff.mp hm).1
          have h2 := (List.getElem?_eq_some_iff.mp hm2).1
          have h3 : (i + 1) * fm2.length ≤ fm1.length * fm2.length := Nat.mul_le_mul_right _ h1
          rw [Nat.add_mul] at h3
          omega
        have bl : ∀ z ∈ l'', Bq (Dn * En) (M * N) z.2 := bq_mulT pl'' fun p hp => by
          rcases List.mem_append.mp hp with hp | hp
          · exact ⟨hq1 _ (List.mem_of_mem_take (mem_allP hp).1), hq2 _ (mem_allP hp).2⟩
          · obtain ⟨y, hy, rfl⟩ := List.mem_map.mp hp
            exact ⟨hq, hq2 _ (List.mem_of_mem_take hy)⟩
        obtain ⟨p0, e0, sp, bq0⟩ := get_or (kv2.same SG) ys (SqT.of h5) (bq_addTo l'' [] 0 (fun y hy => absurd hy List.not_mem_nil) bl)
        rw [e0]
        have le0 : 0 + l''.length * (M * N) < 2 ^ 400000 := by
          rw [Nat.zero_add, lps]
          exact Nat.lt_of_le_of_lt (Nat.mul_le_mul_right _ (Nat.le_of_lt hlt)) b1'
        have bqm := hq.mul hqq
        refine ⟨_, rfl, p0, p4, _, q * q2, rfl, sp, (SqT.of h4).same S3, Nat.lt_of_le_of_lt (bq0.num_le pE) le0, Nat.lt_of_le_of_lt (bqm.num_le pE) b2', Nat.lt_of_le_of_lt (bq0.den_le pE) bDE, Nat.lt_of_le_of_lt (bqm.den_le pE) bDE, fun p6 G4 S4 n6 h6 => ?_⟩
        have hD4 := S4 _ _ hD3
        have ll := length_addTo l'' []
        refine ⟨_, rfl, _, rfl, D, p1, _, kvs'', kS ys, rfl, rfl, rfl, hD4, ((kv2.same SG).same S4).keys, (hk3.same S4).sq, (by rw [kv2.length]; rw [List.length_nil] at ll; have := Z.len; omega), ⟨_, _, _, _, rfl⟩, ((SB2.to SG).to S4).upd, _, l'' ++ [(ys, q * q2)], upd_same, ?_, ?_⟩
        · rw [addTo_snoc]
          exact (((kv2.same SG).same S4).put ys (hk3.same S4) (SqT.of h6)).imp (.off hD4 noTup_df)
        · rw [take_snoc hm2, List.map_append, ← List.append_assoc]
          exact Paired.snoc pl'' ⟨pm, so, rfl⟩
      · rintro od2 Hl2 L2 σ' H'' Hu ⟨⟨u6, u7, u8, u9, rfl⟩, S'', kvs'', l'', hD'', kv'', pl''⟩ e1 e2
        refine ⟨⟨_, _, _, _, _, _, rfl⟩, fun c o nc h => ?_, kvs'', l'', by rw [e2 D (Ne.symm neD2)]; exact hD'', kv''.imp (.agree (S'' _ _ neD2 L2.at_) noTup_fz e2), ?_⟩
        · by_cases cd : c = d2
          · subst cd
            rw [e1]
            exact SB _ _ nc h
          · rw [e2 c cd]
            exact S'' _ _ nc (by rw [L2.off c cd]; exact SB _ _ nc h)
        · rw [take_snoc hm, allP_snoc]
          rw [List.take_length] at pl''
          exact pl''
    · rintro od Hl L σ' H' Hu ⟨⟨u4, u5, u6, u7, u8, u9, rfl⟩, S, kvs', l, hD', kv', pl⟩ e1 e2
      rw [List.take_length] at pl
      have SH : Same H Hu := by
        intro c o e
        have e0 := S0 _ _ e
        have nc : c ≠ D := by rintro rfl; rw [nD] at e0; cases e0
        by_cases cd : c = d
        · subst cd
          rw [e1]
          exact SN _ _ e0
        · rw [e2 c cd]
          exact S _ _ nc (by rw [L.off c cd]; exact SN _ _ e0)
      have ll : (addTo [] l).length ≤ fm1.length * fm2.length := by
        have h1 := length_addTo l []
        have h2 := Paired.length pl
        rw [allP_length] at h2
        rw [List.length_nil] at h1
        omega
      show tRet (tMkF C (tCall (spWithout P w K) [] C8.E0 (tCons (tVar 3) tNil))) _ _ _
      refine ret_mkF ?_
      refine call_one rfl ⟨D, kvs', addTo [] l, rfl, by rw [e2 D (Ne.symm neD)]; exact hD', kv'.imp (.agree (S _ _ neD L.at_) noTup_fz e2), nodup_addTo _ _ List.nodup_nil, Nat.le_of_lt (Nat.lt_of_le_of_lt ll Z.len), fun H4 D4 kvs4 S4 nD4 hD4 kv4 b5 dx5 H5 S5 nb5 hb5 => ?_⟩
      exact k H5 b5 l ((SH.trans S4).trans S5) ((SH.trans S4).free nb5) pl ⟨dx5, D4, kvs4, hb5, S5 _ _ hD4, kv4.same S5⟩
end
end E2

set_option Elab.async false
set_option linter.all false
set_option maxRecDepth 100000
set_option maxHeartbeats 1000000
/-! is_values, product_at -/
namespace E2
open PySem PySem.Spec PyProof.Rows L2
open C8 (Cal Mak Met InsC pe_c pe_mt pe_mt0 call_isC clsBody)
/-- a dict of letters and whole numbers -/
def ValsOk (kvs : List (Key × V)) : Prop := ∀ kv ∈ kvs, ∃ (z : Str) (n : Int), kv = (Sum.inr z, V.int n) ∧ LetOk z
def spIsVals (P : Program) (w : World) (K : PySem.W.Frag) : Sp := fun vs H Q _ => ∃ (d l : Addr) (kvs : List (Key × V)) (xs : List Str), vs = [.ref d, .ref l] ∧ H d = some (.dK kvs) ∧ ValsOk kvs ∧ kvs.length ≤ 1000 ∧ SqL K H l (xs.map V.str) ∧ xs.length ≤ 1000 ∧ (∀ x ∈ xs, (valV kvs (Sum.inr x)).isSome = true) ∧ ∀ H', Same H H' → Q (.bl true) H'
theorem all_true (n : Nat) : (List.replicate n true).all id = true := by simp
section
variable {P : Program} {w : World} {K : PySem.W.Frag} {mg : Str → Option Value} {base : Heap} {C : Addr}
theorem kit_dd : PySem.W.kitOne K (.type "dict") (.type "dict") = some true := by kernel_rfl
theorem scIsVals : FnScope ["values", "names", "name", "value"] ["values", "names"] (defScope sIsValues) := ⟨rfl, rfl, rfl, by decide +kernel, rfl, by decide +kernel, by decide +kernel⟩
theorem ok_isVals {f : Addr} {fd : FuncData} (F : Fun K "is_values" "is_values" sIsValues f fd) (B : Bt K mg C) (B2 : Bt2 mg) (hdict : mg "dict" = none) (L : Cal P w K mg base 1 "is_letter" spIsLet []) (Wh : Cal P w K mg base 1 "is_whole" (spWhole C) []) : FnOk P w K mg base CX0 2 f fd ["values", "names"] (spIsVals P w K) := by
  refine F.ok scIsVals (fun vs H Q E h => ?_) (fun cdv A outer s H vs Q E hr h => ?_)
  · obtain ⟨d, l, kvs, xs, rfl, _⟩ := h
    rfl
  · obtain ⟨d, l, kvs, xs, rfl, hd, hv, hk, hl, hx, hin, k⟩ := h
    have u1 := Nat.lt_of_le_of_lt (Nat.add_le_add_left (by decide : 1 ≤ 64) _) hr.units
    refine ⟨_, pss_cons (ps_if (pt_not (pt_val (pe_callB call_isi (by rfl) B.isi (by decide +kernel) (pa_cons (pv 0) (pa_cons (pe_bltn (v := .ty "dict") (by rfl) hdict (by decide +kernel) rfl) pa_nil))))) (pss_one (ps_ret pe_bl)) pss_nil)
      (pss_cons (ps_if (pt_not (pt_val (pe_callB (cr_all rfl) (by rfl) B2.all_ (by decide +kernel) (pa_cons (pe_lock (pe_lc (own := [("name", 2), ("value", 3)]) (g := gTup K 2 (gCons (gName 2) (gCons (gName 3) gNil))) (tt := tYes) (te := tAndV (tCall spIsLet [] E0 (tCons (tVar 2) tNil)) (tCall (spWhole C) [] E0 (tCons (tVar 3) tNil))) rfl scIsVals.nd (pi_items (pv 0))
          (blkOk_by (own := [("name", 2), ("value", 3)]) (N := ["values", "names", "name", "value"]) (sc := defScope sIsValues) (by decide +kernel))
          (fun _ _ _ _ _ => pg_tup rfl (pgs_cons (pg_name (i := 2) scIsVals.nd rfl (Or.inl rfl)) (pgs_cons (pg_name (i := 3) scIsVals.nd rfl (Or.inl rfl)) pgs_nil))) (fun _ _ _ _ _ => pts_nil)
          (fun _ _ _ _ _ => by exact pe_and (pe_c L hr (by decide) rfl (pa_cons (pv 2) pa_nil)) (pe_one (pe_c Wh hr (by decide) rfl (pa_cons (pv 3) pa_nil)))))) pa_nil)))) (pss_one (ps_ret pe_bl)) pss_nil)
      (pss_one (ps_ret (pe_callB (cr_all rfl) (by rfl) B2.all_ (by decide +kernel) (pa_cons (pe_lc (own := [("name", 2)]) (g := gName 2) (tt := tYes) (te := tDIn (tVar 2) (tVar 0)) rfl scIsVals.nd (pi_list (pv 1))
          (blkOk_by (own := [("name", 2)]) (N := ["values", "names", "name", "value"]) (sc := defScope sIsValues) (by decide +kernel))
          (fun _ _ _ _ _ => pg_name (i := 2) scIsVals.nd rfl (Or.inl rfl)) (fun _ _ _ _ _ => pts_nil) (fun _ _ _ _ _ => by exact pe_cmp (pc_din u1 (pv 2) (pv 0)))) pa_nil))))), ?_⟩
    refine ⟨_, rfl, _, _, _, _, true, rfl, .ty "dict", .base (.dK hd), kit_dd, true, rfl, iteF ?_⟩
    have sz : ∀ n : Nat, n ≤ 1000 → n < sizeLine := fun n h => by rw [sizeLine_eq]; omega
    -- the rest, with any heap that has grown
    have rest : ∀ H1, Same H H1 → ∀ σ : L2.St, σ = [some (.ref d), some (.ref l), none, none] → ∀ D, H1 D = none → ∃ W : Nat → Nat → Hp → Prop, (∃ m, W 0 m (upd H1 D (.lst []))) ∧ ∀ i m H, W i m H → ((Itl K l).stop i H ∧ rAll K [.ref D] H Q) ∨ ((Itl K l).go i H ∧ ∃ Nx : Hp → Prop, (∀ H', Nx H' → ∃ m', m' < m ∧ W (i + 1) m' H') ∧ ∀ x H', (Itl K l).yld i H x H' → gName 2 x (wipe σ [2]) H' fun σ2 H2 => wipe σ2 [2] = wipe σ [2] ∧ tYes σ2 H2 fun b H3 =>
        if b = true then tDIn (tVar 2) (tVar 0) σ2 H3 fun y H4 => ∃ acc, H4 D = some (.lst acc) ∧ acc.length < sizeLine ∧ Nx (upd H4 D (.lst (acc ++ [y]))) else Nx H3) := by
      rintro H1 S1 σ rfl D nD
      refine lc_it walk_list (fun i H' => Same H1 H' ∧ H' D = some (.lst (List.replicate i (V.bl true)))) ⟨Same.upd nD, upd_same⟩ (fun i H' _ q => (hl.same S1).same q.1) ?_ ?_
      · rintro i x H2 H3 hi ⟨S, hD⟩ ⟨rfl, hx2⟩
        rw [List.length_map] at hi
        obtain ⟨z, hz, rfl⟩ : ∃ z, xs[i]? = some z ∧ x = V.str z := by
          rw [List.getElem?_map] at hx2
          obtain ⟨z, hz, e⟩ := Option.map_eq_some_iff.mp hx2
          exact ⟨z, hz, e.symm⟩
        have hs := hin z (List.mem_of_getElem? hz)
        refine ⟨rfl, iteT (B := False) ⟨_, rfl, _, rfl, d, valV kvs (Sum.inr z), rfl, DGet.k (k := Sum.inr z) (S _ _ (S1 _ _ hd)), _, hD, ?_, ?_, ?_⟩⟩
        · rw [List.length_replicate]
          exact sz _ (by omega)
        · intro b o hb
          rw [upd_ne (ne_of_none hb nD)]
          exact S _ _ hb
        · rw [upd_same, hs, List.replicate_succ']
      · rintro H2 ⟨S, hD⟩
        refine ⟨D, List.replicate xs.length true, rfl, SqL.of ?_, ?_⟩
        · rw [List.map_replicate]
          rw [List.length_map] at hD
          exact hD
        · rw [all_true]
          exact k H2 (S1.trans S)
    refine ⟨d, .dK kvs, hd, trivial, fun od => ⟨_, rfl, d, od, kvs, rfl, upd_same, fun D nD => ?_⟩⟩
    have h1 : (upd H d (.frz od (.dK kvs))) d = some (.frz od (.dK kvs)) := upd_same
    have neD : D ≠ d := by rintro rfl; rw [upd_same] at nD; cases nD
    have back : ∀ H2, Same (upd H d (.frz od (.dK kvs))) H2 → Same H (upd H2 d (.dK kvs)) := fun H2 S => same_back hd S
    generalize upd H d (.frz od (.dK kvs)) = H1 at h1 nD back ⊢
    refine lc_it walk_items (fun i H' => Same H1 H' ∧ H' D = some (.lst (List.replicate i (V.bl true)))) ⟨Same.upd nD, upd_same⟩ (fun i H' _ q => q.1 _ _ h1) ?_ ?_
    · rintro i x H2 H3 hi ⟨S, hD⟩ ⟨T, x1, y1, rfl, nT, rfl, e1, e2⟩
      obtain ⟨kv, hkv⟩ : ∃ kv, kvs[i]? = some kv := ⟨kvs[i], List.getElem?_eq_getElem hi⟩
      obtain ⟨z, n, rfl, hz⟩ := hv kv (List.mem_of_getElem? hkv)
      replace e1 : (kvs[i]?.map fun kv => kV kv.1) = some x1 := e1
      replace e2 : kvs[i]?.map Prod.snd = some y1 := e2
      rw [hkv] at e1 e2
      obtain rfl : V.str z = x1 := Option.some.inj e1
      obtain rfl : V.int n = y1 := Option.some.inj e2
      have S2 : Same H2 (upd H2 T (.tup [.str z, .int n])) := Same.upd nT
      refine ⟨T, _, rfl, SqT.of upd_same, rfl, _, _, rfl, _, _, rfl, rfl, rfl, iteT (B := False) ?_⟩
      refine ⟨_, rfl, z, rfl, hz, fun H4 S4 => ⟨true, rfl, iteT (B := False) ⟨_, rfl, _, rfl, .inl ⟨n, rfl, _, S4 _ _ (S2 _ _ hD), ?_, ?_, ?_⟩⟩⟩⟩
      · rw [List.length_replicate]
        exact sz _ (by omega)
      · intro b o hb
        rw [upd_ne (ne_of_none hb nD)]
        exact S4 _ _ (S2 _ _ (S _ _ hb))
      · rw [upd_same, List.replicate_succ']
    · rintro H2 ⟨S, hD⟩
      refine ⟨S _ _ h1, D, List.replicate kvs.length true, rfl, SqL.of ?_, true, by rw [all_true], iteF ?_⟩
      · rw [upd_ne neD, List.map_replicate]
        exact hD
      · exact ⟨_, rfl, l, rfl, ⟨_, hl.same (back H2 S)⟩, fun D2 nD2 => rest _ (back H2 S) _ rfl D2 nD2⟩
def spProd (P : Program) (w : World) (K : PySem.W.Frag) : Sp := fun vs H Q _ => ∃ (t d : Addr) (m : List Str) (kvs : List (Key × V)) (g : Str → Int), vs = [.ref t, .ref d] ∧ SqT K H t (m.map V.str) ∧ H d = some (.dK kvs) ∧ (∀ x ∈ m, valV kvs (Sum.inr x) = some (.int (g x))) ∧ m.length ≤ 1000 ∧ (∀ x ∈ m, (g x).natAbs < 2 ^ 400) ∧ Q (.int (prodI (m.map g))) H
theorem scProd : FnScope ["names", "values", "found", "name"] ["names", "values"] (defScope sProductAt) := ⟨rfl, rfl, rfl, by decide +kernel, rfl, by decide +kernel, by decide +kernel⟩
theorem prod_lt (g : Str → Int) : ∀ l : List Str, (∀ x ∈ l, (g x).natAbs < 2 ^ 400) → (prodI (l.map g)).natAbs < 2 ^ (1 + l.length * 400)
  | [], _ => by show (1 : Int).natAbs < 2 ^ (1 + 0 * 400); decide
  | x :: l, h => by
    have ih := prod_lt g l fun y hy => h y (List.mem_cons.mpr (.inr hy))
    have hx := h x (List.mem_cons.mpr (.inl rfl))
    have e := wide_lt (a := 400) (b := 1 + l.length * 400) hx ih
    have e2 : 400 + (1 + l.length * 400) = 1 + (x :: l).length * 400 := by rw [List.length_cons, Nat.add_mul]; omega
    rw [e2] at e
    exact e
theorem ok_prod {f : Addr} {fd : FuncData} (F : Fun K "product_at" "product_at" sProductAt f fd) : FnOk P w K mg base CX0 1 f fd ["names", "values"] (spProd P w K) := by
  refine F.ok scProd (fun vs H Q E h => ?_) (fun cdv A outer s H vs Q E hr h => ?_)
  · obtain ⟨t, d, m, kvs, g, rfl, _⟩ := h
    rfl
  · obtain ⟨t, d, m, kvs, g, rfl, ht, hd, hg, hl, hb, k⟩ := h
    have u1 := Nat.lt_of_le_of_lt (Nat.add_le_add_left (by decide : 1 ≤ 64) _) hr.units
    refine ⟨_, pss_cons (ps_set (i := 2) scProd.nd rfl (Or.inl rfl) pe_int)
      (pss_cons (ps_for PassesOwn.never rfl (pi_tup (pv 0)) (pg_name (i := 3) scProd.nd rfl (Or.inl rfl)) (pss_one (ps_set (i := 2) scProd.nd rfl (Or.inl rfl) (pe_op op_mulW (pv 2) (pe_dget u1 (pv 1) (pv 3) (fun _ _ => rfl))))))
      (pss_one (ps_ret (pv 2)))), ?_⟩
    refine seq_asg ⟨_, rfl, t, rfl, ⟨_, ht⟩, for_it (walk_tup (xs := m.map V.str)) (fun i σ H' => H' = H ∧ ∃ u, σ = [some (.ref t), some (.ref d), some (.int (prodI ((m.take i).map g))), u]) ⟨rfl, none, rfl⟩ ?_ ?_ ?_⟩
    · rintro i σ H' _ ⟨rfl, _⟩
      exact ht
    · rintro i x σ H1 H2 hi ⟨rfl, u, rfl⟩ ⟨rfl, hx⟩
      rw [List.length_map] at hi
      obtain ⟨z, hz, rfl⟩ : ∃ z, m[i]? = some z ∧ x = V.str z := by
        rw [List.getElem?_map] at hx
        obtain ⟨z, hz, e⟩ := Option.map_eq_some_iff.mp hx
        exact ⟨z, hz, e.symm⟩
      have hm := List.mem_of_getElem? hz
      have p1 := prod_lt g (m.take i) fun y hy => hb y (List.mem_of_mem_take hy)
      have tl : (m.take i).length ≤ 1000 := by rw [List.length_take]; omega
      refine ⟨_, rfl, _, rfl, _, rfl, d, _, rfl, by rw [← hg z hm]; exact DGet.k (k := Sum.inr z) hd, _, _, rfl, rfl, cmw p1 (hb z hm) (by omega) (by decide) (by omega), rfl, some (V.str z), ?_⟩
      rw [take_snoc hz, List.map_append, prodI_append]
      show _ = [_, _, some (V.int (_ * (g z * 1))), _]
      rw [Int.mul_one]
      rfl
    · rintro σ H1 ⟨rfl, u, rfl⟩
      rw [List.length_map, List.take_length]
      exact ⟨_, rfl, k⟩
end
end E2

set_option Elab.async false
set_option linter.all false
set_option maxRecDepth 100000
set_option maxHeartbeats 1000000
/-! a.at(values) -/
namespace L2
open PySem PySem.Spec PyProof.Rows
def rLcm : List V → Hp → VK → Prop := fun vs H Q => ∃ a b : Nat, vs = [.int (a : Int), .int (b : Int)] ∧ 0 < a ∧ a < 2 ^ 64 ∧ b < 2 ^ 64 ∧ Q (.int ((Nat.lcm a b : Nat) : Int)) H
theorem cr_lcm {X : Cx} : CallR X (.builtin "math.lcm") rLcm := by
  intro pins s σ H vs us Q I r h
  obtain ⟨a, b, rfl, ha0, ha, hb, q⟩ := h
  obtain ⟨t, u, rfl⟩ := Vals.int2 r
  have e1 : Nat.lcm 1 (a : Int).natAbs = a := by rw [Int.natAbs_natCast, Nat.lcm_comm, Nat.lcm_one_right]
  have e2 : (((Nat.lcm 1 (a : Int).natAbs).lcm (b : Int).natAbs : Nat) : Int) = ((Nat.lcm a b : Nat) : Int) := by rw [e1, Int.natAbs_natCast]
  have hl : Nat.lcm a b < 2 ^ 128 := by
    have h1 : Nat.lcm a b ≤ a * b := by
      unfold Nat.lcm
      exact Nat.div_le_self _ _
    exact Nat.lt_of_le_of_lt h1 (by rw [show (2 : Nat) ^ 128 = 2 ^ 64 * 2 ^ 64 by decide]; exact Nat.mul_lt_mul'' ha hb)
  exact PySem.W.mg_lcm_v (by rw [Int.natAbs_natCast]; exact ha) (by rw [Int.natAbs_natCast]; exact hb) e2 (by rw [Int.natAbs_natCast]; exact Nat.lt_of_lt_of_le (PySem.Flt.log2_lt_of (by decide) hl) (by decide)) ⟨.int _, H, I.tok _, ⟨_, rfl⟩, q⟩
/-- the least common multiple of the denominators -/
def cmD (fm : Fm) : Nat := fm.foldl (fun c x => Nat.lcm c x.2.den) 1
theorem cmD_snoc (fm : Fm) (x : MonR × Rat) : cmD (fm ++ [x]) = Nat.lcm (cmD fm) x.2.den := by
  unfold cmD
  rw [List.foldl_append]
  rfl
theorem foldl_dvd {D : Nat} : ∀ (fm : Fm) (c : Nat), c ∣ D → (∀ x ∈ fm, x.2.den ∣ D) → fm.foldl (fun c x => Nat.lcm c x.2.den) c ∣ D
  | [], _, h, _ => h
  | x :: r, c, h, hx => foldl_dvd r _ (Nat.lcm_dvd h (hx x (List.mem_cons.mpr (.inl rfl)))) fun y hy => hx y (List.mem_cons.mpr (.inr hy))
theorem cmD_dvd {D : Nat} {fm : Fm} (h : ∀ x ∈ fm, x.2.den ∣ D) : cmD fm ∣ D := foldl_dvd fm 1 (Nat.one_dvd _) h
theorem foldl_base : ∀ (fm : Fm) (c : Nat), c ∣ fm.foldl (fun c x => Nat.lcm c x.2.den) c
  | [], _ => Nat.dvd_refl _
  | x :: r, c => Nat.dvd_trans (Nat.dvd_lcm_left c x.2.den) (foldl_base r _)
theorem den_foldl : ∀ (fm : Fm) (c : Nat), ∀ x ∈ fm, x.2.den ∣ fm.foldl (fun c x => Nat.lcm c x.2.den) c
  | y :: r, c, x, h => by
    rcases List.mem_cons.mp h with rfl | h
    · exact Nat.dvd_trans (Nat.dvd_lcm_right c x.2.den) (foldl_base r _)
    · exact den_foldl r _ x h
theorem den_cmD {fm : Fm} : ∀ x ∈ fm, x.2.den ∣ cmD fm := den_foldl fm 1
theorem foldl_pos : ∀ (fm : Fm) (c : Nat), 0 < c → 0 < fm.foldl (fun c x => Nat.lcm c x.2.den) c
  | [], _, h => h
  | x :: r, c, h => foldl_pos r _ (Nat.lcm_pos h x.2.den_pos)
theorem cmD_pos (fm : Fm) : 0 < cmD fm := foldl_pos fm 1 (by decide)
/-- the sum that at builds -/
def totD (c : Nat) (g : Str → Int) : Fm → Int
  | [] => 0
  | x :: r => x.2.num * ((c : Int) / (x.2.den : Int)) * evM g x.1 + totD c g r
theorem totD_append (c : Nat) (g : Str → Int) : ∀ a b : Fm, totD c g (a ++ b) = totD c g a + totD c g b
  | [], b => by show totD c g b = 0 + totD c g b; omega
  | x :: a, b => by
    show _ + totD c g (a ++ b) = _ + totD c g a + totD c g b
    rw [totD_append c g a b, Int.add_assoc]
theorem totD_ev {c : Nat} (g : Str → Int) : ∀ fm : Fm, (∀ x ∈ fm, x.2.den ∣ c) → (totD c g fm : Rat) = (c : Rat) * ev g fm
  | [], _ => by show (0 : Rat) = _ * 0; grind
  | x :: r, h => by
    have ih := totD_ev g r fun y hy => h y (List.mem_cons.mpr (.inr hy))
    obtain ⟨k, hk⟩ := h x (List.mem_cons.mpr (.inl rfl))
    have hd : (x.2.den : Int) ≠ 0 := by have := x.2.den_nz; omega
    have e1 : (c : Int) / (x.2.den : Int) = (k : Int) := by rw [hk, Int.natCast_mul, Int.mul_ediv_cancel_left _ hd]
    show ((x.2.num * ((c : Int) / (x.2.den : Int)) * evM g x.1 + totD c g r : Int) : Rat) = (c : Rat) * (x.2 * _ + ev g r)
    rw [Rat.intCast_add, ih, e1, Rat.intCast_mul, Rat.intCast_mul, rat_num, Rat.intCast_natCast, hk, Rat.natCast_mul]
    grind
end L2

set_option Elab.async false
set_option linter.all false
set_option maxRecDepth 100000
set_option maxHeartbeats 1000000
/-! a.at(values) -/
namespace L2
open PySem PySem.Spec PyProof.Rows
theorem upd_back {H : Hp} {d : Addr} {u z : HO} (h : H d = some u) : upd (upd H d z) d u = H := by
  funext b
  by_cases c : b = d
  · subst c
    rw [upd_same, h]
  · rw [upd_ne c, upd_ne c]
/-- for .. in d.values(), the heap as it was -/
theorem for_valsO {P : Program} {w : World} {K : PySem.W.Frag} {H : Hp} {d : Addr} {l : NAV} {fm : Fm} {td : TE} {g : TG} {tb : TS} {D : Ends} {σ : L2.St} (hd : Rd H d (DfO P w d l)) (hf : FmKv K H l fm)
    (hte : ∀ (od : Obj) (Hl : Hp), Lk P w d l od H Hl → ∀ R : VK, R (.ref d) Hl → td σ Hl R) (Pv : Nat → L2.St → Prop) (h0 : Pv 0 σ)
    (hs : ∀ (Hl : Hp) (i : Nat) (m : MonR) (q : Rat) (σ' : L2.St) (a : Addr) (rt : VK) (bk : L2.St → Hp → Prop), fm[i]? = some (m, q) → Pv i σ' → SqT K Hl a (frac q) →
      g (.ref a) σ' Hl fun σ2 H2 => tb { nx := fun σ3 H3 => H3 = Hl ∧ Pv (i + 1) σ3, rt := rt, bk := bk, ct := fun σ3 H3 => H3 = Hl ∧ Pv (i + 1) σ3 } σ2 H2)
    (he : ∀ σ', Pv fm.length σ' → D.nx σ' H) : tLockO (tFor (iValsN P w td) g tb) D σ H := by
  have core : ∀ (od : Obj) (Hl : Hp) (L : Lk P w d l od H Hl) (D' : Ends), FmKv K Hl l fm → (∀ σ', Pv fm.length σ' → D'.nx σ' Hl) → tFor (iValsN P w td) g tb D' σ Hl := by
    intro od Hl L D' hf0 hnx
    refine hte od Hl L _ ⟨d, od, l, rfl, L.at_, for_it walk_valuesN (fun i σ' H' => H' = Hl ∧ Pv i σ') ⟨rfl, h0⟩ (fun i σ' H' _ p => by rw [p.1]; exact L.at_) ?_ ?_⟩
    · rintro i x σ' H' H'' hi ⟨rfl, p⟩ ⟨rfl, k, qb, av, hkv, rfl⟩
      obtain ⟨m, q, b, a, hm, e, tb, sa⟩ := hf0.get hkv
      obtain ⟨rfl, e2⟩ := Prod.mk.inj e
      obtain ⟨rfl, rfl⟩ := Prod.mk.inj e2
      exact hs _ i m q σ' av _ _ hm p sa
    · rintro σ' H' ⟨rfl, p⟩
      rw [hf.length] at p
      exact hnx σ' p
  rcases hd with hd | ⟨o, hd⟩
  · refine .inl ⟨d, DfO P w d l, hd, trivial, fun od => ?_⟩
    have L : Lk P w d l od H (upd H d (.frz od (DfO P w d l))) := ⟨upd_same, fun b n => upd_ne n⟩
    refine core od _ L _ (hf.imp (.agree hd noTup_df L.off)) fun σ' p => ⟨upd_same, ?_⟩
    rw [upd_back hd]
    exact he σ' p
  · exact .inr (core o H ⟨hd, fun _ _ => rfl⟩ D hf he)
end L2
namespace E2
open PySem PySem.Spec PyProof.Rows L2
open C8 (Cal Mak Met InsC pe_c pe_mt pe_mt0 call_isC clsBody)
/-- few letters -/
def LetsIn (fm : Fm) : Prop := ∃ names : List Str, names.length ≤ 1000 ∧ ∀ x ∈ fm, ∀ z ∈ x.1, z ∈ names
theorem nodup_le : ∀ {l m : List Str}, l.Nodup → (∀ x ∈ l, x ∈ m) → l.length ≤ m.length
  | [], _, _, _ => Nat.zero_le _
  | x :: l, m, nd, h => by
    have ⟨n1, n2⟩ := List.nodup_cons.mp nd
    have hx := h x List.mem_cons_self
    have ih := nodup_le (m := m.erase x) n2 fun y hy => (List.mem_erase_of_ne (by rintro rfl; exact n1 hy)).mpr (h y (List.mem_cons_of_mem _ hy))
    rw [List.length_erase_of_mem hx] at ih
    have := List.length_pos_of_mem hx
    rw [List.length_cons]
    omega
def spLetters (P : Program) (w : World) (K : PySem.W.Frag) (C : Addr) : Sp := fun vs H Q _ => ∃ a fm, vs = [.ref a] ∧ FmAt P w K C H a fm ∧ LetsIn fm ∧
  ∀ H' p (xs : List Str), Same H H' → H p = none → H' p = some (.lst (xs.map V.str)) → xs.length ≤ 1000 → sortedS xs = true → xs.Nodup → (∀ x, x ∈ xs ↔ ∃ m ∈ fm.map (·.1), x ∈ m) → Q (.ref p) H'
def spAt (P : Program) (w : World) (K : PySem.W.Frag) (C : Addr) : Sp := fun vs H Q _ => ∃ (a d : Addr) (fm : Fm) (kvs : List (Key × V)) (g : Str → Int) (D M : Nat), vs = [.ref a, .ref d] ∧ FmAt P w K C H a fm ∧ LetsIn fm ∧ (∀ x ∈ fm, x.1.length ≤ 1000) ∧ H d = some (.dK kvs) ∧ ValsOk kvs ∧ kvs.length ≤ 1000 ∧
  (∀ x ∈ fm, ∀ z ∈ x.1, valV kvs (Sum.inr z) = some (.int (g z)) ∧ (g z).natAbs < 2 ^ 400) ∧ 0 < D ∧ D < 2 ^ 64 ∧ M < 2 ^ 400000 ∧ (∀ x ∈ fm, Bq D M x.2) ∧
  ∀ H', Same H H' → (∀ n : Int, ev g fm = (n : Rat) → Q (.int n) H') ∧ ((∀ n : Int, ev g fm ≠ (n : Rat)) → Q .non H')
section
variable {P : Program} {w : World} {K : PySem.W.Frag} {mg : Str → Option Value} {base : Heap} {C : Addr}
theorem scAt : FnScope ["self", "values", "common", "_", "bottom", "total", "names", "top"] ["self", "values"] (defScope sAt) := ⟨rfl, rfl, rfl, by decide +kernel, rfl, by decide +kernel, by decide +kernel⟩
theorem ok_at {f : Addr} {fd : FuncData} (F : Fun K "at" "Form.at" sAt f fd) (T : Fx P w K mg base C) (hlcm : mg "lcm" = some (.builtin "math.lcm")) (Iv : Cal P w K mg base 2 "is_values" (spIsVals P w K) []) (Le : Met P w K mg base 2 C "letters" (spLetters P w K C) []) (Pr : Cal P w K mg base 1 "product_at" (spProd P w K) []) : FnOk P w K mg base CX0 3 f fd ["self", "values"] (spAt P w K C) := by
  refine F.ok scAt (fun vs H Q E h => ?_) (fun cdv A outer s H vs Q E hr h => ?_)
  · obtain ⟨a, d, fm, kvs, g, D, M, rfl, _⟩ := h
    rfl
  · obtain ⟨a, d, fm, kvs, g, D, M, rfl, ⟨dx, dp, kvp, ha, hd, hf⟩, hli, hkl, hv, vok, hk, hg, D0, D64, M4, hq, k⟩ := h
    refine ⟨_, pss_cons (ps_if (pt_not (pt_val (pe_c Iv hr (by decide) rfl (pa_cons (pv 1) (pa_cons (pe_mt0 Le hr (by decide) (pv 0)) pa_nil))))) (pss_one ps_never) pss_nil)
      (pss_cons (ps_set (i := 2) scAt.nd rfl (Or.inl rfl) pe_int)
      (pss_cons (ps_lockO (ps_for PassesOwn.never rfl (pi_valuesN (pe_fld (pv 0) rfl)) (pg_tup rfl (pgs_cons (pg_name (i := 3) scAt.nd rfl (Or.inl rfl)) (pgs_cons (pg_name (i := 4) scAt.nd rfl (Or.inl rfl)) pgs_nil)))
        (pss_one (ps_set (i := 2) scAt.nd rfl (Or.inl rfl) (pe_callBfun cr_lcm rfl hlcm (pa_cons (pv 2) (pa_cons (pv 4) pa_nil)))))))
      (pss_cons (ps_set (i := 5) scAt.nd rfl (Or.inl rfl) pe_int)
      (pss_cons (ps_lockO (ps_for PassesOwn.never rfl (pi_itemsN (pe_fld (pv 0) rfl)) (pg_tup rfl (pgs_cons (pg_name (i := 6) scAt.nd rfl (Or.inl rfl)) (pgs_cons (pg_tup rfl (pgs_cons (pg_name (i := 7) scAt.nd rfl (Or.inl rfl)) (pgs_cons (pg_name (i := 4) scAt.nd rfl (Or.inl rfl)) pgs_nil))) pgs_nil)))
        (pss_one (ps_set (i := 5) scAt.nd rfl (Or.inl rfl) (pe_op op_add (pv 5) (pe_op op_mulW (pe_op op_mulW (pv 7) (pe_op op_fdivW (pv 2) (pv 4))) (pe_c Pr hr (by decide) rfl (pa_cons (pv 6) (pa_cons (pv 1) pa_nil)))))))))
      (pss_one (ps_ret (pe_ifExp (pt_cmpR op_eq (pe_op op_modN (pv 5) (pv 2)) pe_int (nomark _)) (pe_op op_fdivW (pv 5) (pv 2)) pe_non))))))), ?_⟩
    have hin : ∀ (xs : List Str), (∀ x, x ∈ xs ↔ ∃ m ∈ fm.map (·.1), x ∈ m) → ∀ x ∈ xs, (valV kvs (Sum.inr x)).isSome = true := fun xs hm x hx => by
      obtain ⟨m, hm2, hxm⟩ := (hm x).mp hx
      obtain ⟨y, hy, rfl⟩ := List.mem_map.mp hm2
      rw [(hg y hy x hxm).1]
      rfl
    refine ⟨_, rfl, _, rfl, a, dx, _, rfl, ha, rfl, a, fm, rfl, ⟨dx, dp, kvp, ha, hd, hf⟩, hli, fun H1 p xs S1 np hp hxl hso hnd hmem => ?_⟩
    refine ⟨d, p, kvs, xs, rfl, S1 _ _ hv, vok, hk, SqL.of hp, hxl, hin xs hmem, fun H2 S2 => ⟨true, rfl, iteF ?_⟩⟩
    dsimp only [tNext]
    have SS := S1.trans S2
    have ha2 := SS _ _ ha
    have hd2 := SS _ _ hd
    have hv2 := SS _ _ hv
    have hf2 := hf.same SS
    have nad : a ≠ dp := ne_of ha hd (by intro z; cases z)
    have ndd : d ≠ dp := ne_of hv hd (by intro z; cases z)
    refine seq_asg (show (tSeq _ _ _ _ _) from ?_)
    have cdv : ∀ i, cmD (fm.take i) ∣ D := fun i => cmD_dvd fun x hx => (hq x (List.mem_of_mem_take hx)).den
    have cle : ∀ i, cmD (fm.take i) < 2 ^ 64 := fun i => Nat.lt_of_le_of_lt (Nat.le_of_dvd D0 (cdv i)) D64
    refine seq_lockO (for_valsO (l := kvp) (fm := fm) (d := dp) (.inl hd2) hf2 (fun od Hl L R h => ⟨_, rfl, a, C, dx, _, _, rfl, by rw [L.off a nad]; exact ha2, T.cl, T.na, rfl, h⟩)
      (fun i σ' => ∃ u3 u4, σ' = [some (.ref a), some (.ref d), some (.int (cmD (fm.take i) : Nat)), u3, u4, none, none, none]) ⟨none, none, rfl⟩ ?_ ?_)
    · rintro Hl i m q σ' a1 rt bk hm ⟨u3, u4, rfl⟩ sa
      have hq1 := hq _ (List.mem_of_getElem? hm)
      refine ⟨a1, _, rfl, sa, rfl, _, _, rfl, _, _, rfl, rfl, ?_⟩
      refine ⟨_, rfl, _, rfl, cmD (fm.take i), q.den, rfl, cmD_pos _, cle i, Nat.lt_of_le_of_lt (hq1.den_le D0) D64, rfl, some (.int q.num), some (.int q.den), ?_⟩
      rw [take_snoc hm, cmD_snoc]
      rfl
    rintro σ' ⟨u3, u4, rfl⟩
    rw [List.take_length]
    have c64 : cmD fm < 2 ^ 64 := by have := cle fm.length; rwa [List.take_length] at this
    have c0 := cmD_pos fm
    dsimp only
    refine seq_asg (show (tSeq _ _ _ _ _) from ?_)
    refine seq_lockO (for_itemsO (l := kvp) (fm := fm) (d := dp) (.inl hd2) hf2 (fun od Hl L R h => ⟨_, rfl, a, C, dx, _, _, rfl, by rw [L.off a nad]; exact ha2, T.cl, T.na, rfl, h⟩)
      (fun od Hl i σ' H' => Same Hl H' ∧ ∃ u3 u4 u6 u7, σ' = [some (.ref a), some (.ref d), some (.int (cmD fm : Nat)), u3, u4, some (.int (totD (cmD fm) g (fm.take i))), u6, u7]) ?_ ?_ ?_ ?_)
    · intro od Hl L
      exact ⟨Same.refl _, u3, u4, none, none, rfl⟩
    · rintro od Hl L i σ' H' ⟨S, _⟩
      exact ⟨S _ _ L.at_, .same S⟩
    · rintro od Hl L i m q σ' H' T1 b1 a1 rt bk hm ⟨S, u3, u4, u6, u7, rfl⟩ nT hb1 sa
      have hmem1 := List.mem_of_getElem? hm
      have hq1 := hq _ hmem1
      have hgm := hg _ hmem1
      have ST : Same H' (upd H' T1 (.tup [.ref b1, .ref a1])) := Same.upd nT
      have hdv : (upd H' T1 (.tup [.ref b1, .ref a1])) d = some (.dK kvs) := ST _ _ (S _ _ (by rw [L.off d ndd]; exact hv2))
      have hml : m.length ≤ 1000 := hkl _ hmem1
      have dq : (0 : Int) < (q.den : Int) := by have := q.den_pos; omega
      have dl : q.den < 2 ^ 64 := Nat.lt_of_le_of_lt (hq1.den_le D0) D64
      have cd : ((cmD fm : Int) / (q.den : Int)).natAbs < 2 ^ 64 := by
        have e : (cmD fm : Int) / (q.den : Int) = ((cmD fm / q.den : Nat) : Int) := (Int.natCast_ediv _ _).symm
        rw [e, Int.natAbs_natCast]
        exact Nat.lt_of_le_of_lt (Nat.div_le_self _ _) c64
      have nl : q.num.natAbs < 2 ^ 400000 := Nat.lt_of_le_of_lt (hq1.num_le D0) M4
      have pl := prod_lt g m fun y hy => (hgm y hy).2
      refine ⟨T1, _, rfl, SqT.of upd_same, rfl, _, _, rfl, _, _, rfl, ⟨a1, _, rfl, sa.same ST, rfl, _, _, rfl, _, _, rfl, rfl, rfl, ?_⟩⟩
      refine ⟨_, rfl, _, rfl, _, rfl, _, rfl, _, _, rfl, rfl, wide_div dq (by rw [Int.natAbs_natCast]; exact dl) (by decide) (by decide), _, _, rfl, rfl, cmw nl cd (by decide) (by decide) (by decide), ?_⟩
      refine ⟨_, rfl, _, rfl, b1, d, m, kvs, g, rfl, (by rw [← kS_kV]; exact (hb1.same ST).sq), hdv, fun x hx => (hgm x hx).1, hml, fun x hx => (hgm x hx).2, _, _, rfl, rfl, cmw (wide_lt nl cd) pl (by decide) (by omega) (by omega), _, _, rfl, rfl, S.trans ST, u3, some (.int q.den), some (.ref b1), some (.int q.num), ?_⟩
      rw [take_snoc hm, totD_append]
      show _ = [_, _, _, _, _, some (V.int (_ + (q.num * ((cmD fm : Int) / (q.den : Int)) * evM g m + 0))), _, _]
      rw [Int.add_zero]
      rfl
    · rintro od Hl L σ' H' Hu ⟨S, u3, u4, u6, u7, rfl⟩ e1 e2
      rw [List.take_length]
      have SH : Same H Hu := by
        intro c o e
        have e0 := SS _ _ e
        by_cases cd : c = dp
        · subst cd
          rw [e1]
          exact e0
        · rw [e2 c cd]
          exact S _ _ (by rw [L.off c cd]; exact e0)
      have te := totD_ev g fm den_cmD
      have cz : (cmD fm : Int) ≠ 0 := by omega
      have crat : ((cmD fm : Nat) : Rat) ≠ 0 := fun e => by
        rw [← Rat.intCast_natCast] at e
        have := Rat.intCast_inj.mp (e.trans (by rfl : (0 : Rat) = ((0 : Int) : Rat)))
        omega
      dsimp only
      refine ret_of ⟨_, rfl, _, rfl, _, _, rfl, rfl, cz, rfl, _, rfl, iteD (fun h => ?_) (fun h => ?_)⟩
      · have h0 : (totD (cmD fm) g fm).fmod (cmD fm : Int) = 0 := by injection h
        have h1 : totD (cmD fm) g fm = (cmD fm : Int) * (totD (cmD fm) g fm / (cmD fm : Int)) := by
          have := Int.mul_ediv_cancel' (Int.dvd_of_fmod_eq_zero h0)
          omega
        refine ⟨_, rfl, _, rfl, _, _, rfl, rfl, wide_div (by omega) (by rw [Int.natAbs_natCast]; exact c64) (by decide) (by decide), (k Hu SH).1 _ ?_⟩
        have h2 := te
        rw [h1, Rat.intCast_mul, Rat.intCast_natCast] at h2
        grind
      · refine (k Hu SH).2 fun n hn => h ?_
        rw [hn] at te
        have h3 : totD (cmD fm) g fm = (cmD fm : Int) * n := by
          apply Rat.intCast_inj.mp
          rw [te, Rat.intCast_mul, Rat.intCast_natCast]
        show V.int ((totD (cmD fm) g fm).fmod (cmD fm : Int)) = V.int 0
        rw [h3, Int.mul_fmod_right]
end
end E2

set_option Elab.async false
set_option linter.all false
set_option maxRecDepth 100000
set_option maxHeartbeats 1000000
/-! product_form, kept -/
namespace E4
open PySem PySem.Spec PyProof.Rows L2
open C8 (Cal Mak Met InsC pe_c pe_mt pe_mt0 call_isC clsBody)
abbrev sProdF : Stmt := top 19
/-- a product of letters, as a form -/
def oneM (m : List Str) : Fm := [(sortT m, 1)]
def spProdF (P : Program) (w : World) (K : PySem.W.Frag) (CF : Addr) : Sp := fun vs H Q _ => ∃ (l : Addr) (m : List Str), vs = [.ref l] ∧ H l = some (.lst (m.map V.str)) ∧ m.length < 64 ∧ ∀ H' b, Same H H' → H b = none → FmAt P w K CF H' b (oneM m) → Q (.ref b) H'
section
variable {P : Program} {w : World} {K : PySem.W.Frag} {mg : Str → Option Value} {base : Heap} {C CF : Addr}
theorem scProdF : FnScope ["names"] ["names"] (defScope sProdF) := ⟨rfl, rfl, rfl, by decide +kernel, rfl, by decide +kernel, by decide +kernel⟩
theorem ok_prodF {f : Addr} {fd : FuncData} (F : Fun K "product_form" "product_form" sProdF f fd) (B : Bl mg) (T : E2.Fx P w K mg base CF) : FnOk P w K mg base CX0 3 f fd ["names"] (spProdF P w K CF) := by
  refine F.ok scProdF (fun vs H Q E h => ?_) (fun cdv A outer s H vs Q E hr h => ?_)
  · obtain ⟨l, m, rfl, _⟩ := h
    rfl
  · obtain ⟨l, m, rfl, hl, lm, k⟩ := h
    refine ⟨_, pss_one (ps_ret (pe_mkF T.maks hr (by decide) rfl (pe_dispN (Nat.lt_of_le_of_lt (Nat.le_add_right _ 64) hr.units) (pe_callTy cr_tupN (by rfl) B.tup_ (by decide +kernel) (pa_cons (pe_callB cr_sortedS (by rfl) B.srt_ (by decide +kernel) (pa_cons (pv 0) pa_nil)) pa_nil)) (pe_tupS (pa_cons pe_int (pa_cons pe_int pa_nil)))))), ?_⟩
    refine fun p np => ?_
    have hlp : l ≠ p := ne_of_none hl np
    refine ⟨_, rfl, l, m, rfl, SqL.of (by rw [upd_ne hlp]; exact hl), lm, fun ys q0 pm so nq0 => ?_⟩
    have e1 := sortT_one pm so
    subst e1
    have S1 : Same (upd H p (DfO P w p [])) (upd (upd H p (DfO P w p [])) q0 (.lst ((sortT m).map V.str))) := Same.upd nq0
    refine ⟨q0, _, rfl, SqL.of upd_same, fun t H2 S2 n2 h2 => ⟨by show 2 ≤ sizeLine; decide, fun u H3 S3 n3 h3 => ?_⟩⟩
    replace S2 : Same (upd (upd H p (DfO P w p [])) q0 (.lst ((sortT m).map V.str))) H2 := S2
    have hp := S3 _ _ (S2 _ _ (S1 _ _ (upd_same (H := H) (a := p) (o := DfO P w p []))))
    refine ⟨hp, kS (sortT m), t, u, rfl, rfl, ?_, fun a dx H4 S4 na ha => ?_⟩
    · have := (h2.same S3).sq (K := K)
      unfold kS
      rw [List.map_map]
      exact this
    have SA : Same H (upd H3 p (DfO P w p [(kS (sortT m), t, u)])) := by
      intro b o hb
      rw [upd_ne (ne_of_none hb np)]
      exact S3 _ _ (S2 _ _ (S1 _ _ (Same.upd np _ _ hb)))
    have hk : TupN H3 t ((kS (sortT m)).map kV) := by
      have := h2.same S3
      unfold kS
      rw [List.map_map]
      exact this
    refine k H4 a (SA.trans S4) (SA.free na) ⟨dx, p, _, ha, S4 _ _ upd_same, .cons ⟨rfl, (hk.off hp fun o => noTup_df.2 o _).same S4, ?_⟩ .nil⟩
    exact (SqT.off (SqT.of h3) hp (noTup_df.1 _) (fun o => noTup_df.2 o _)).same S4
end
end E4

set_option Elab.async false
set_option linter.all false
set_option maxRecDepth 100000
set_option maxHeartbeats 1000000
/-! a - b -/
namespace E2
open PySem PySem.Spec PyProof.Rows L2
open C8 (Cal Mak Met InsC pe_c pe_mt pe_mt0 call_isC clsBody)
/-- an operator's method of the class at C -/
structure OpM (P : Program) (w : World) (K : PySem.W.Frag) (mg : Str → Option Value) (base : Heap) (k : Nat) (C : Addr) (name : Str) (sp : Sp) : Prop where
  ex : ∃ (f : Addr) (fd : FuncData) (ps : List Str), OwnOp K C name f ∧ FnOk P w K mg base CX0 k f fd ps sp ∧ Binds K fd ps []
abbrev negM (fm : Fm) : Fm := mapM (fun _ => true) (fun q => -q) fm
def spSub (P : Program) (w : World) (K : PySem.W.Frag) (C : Addr) : Sp := fun vs H Q _ => ∃ a v fm1 fm2, vs = [.ref a, v] ∧ FmAt P w K C H a fm1 ∧ RightV P w K C H v fm2 ∧ Szs fm1 (negM fm2) ∧ (fm2.map (·.1)).Nodup ∧ fm2.length ≤ sizeLine ∧ ∀ H' b, Same H H' → H b = none → FmAt P w K C H' b (mapM nz id (addTo fm1 (negM fm2))) → Q (.ref b) H'
theorem un_one {r : V → Hp → VK → Prop} {t : TE} {σ : L2.St} {H : Hp} {Q : VK} (h : t σ H fun x H1 => r x H1 Q) : tUn r t σ H Q := h
section
variable {P : Program} {w : World} {K : PySem.W.Frag} {mg : Str → Option Value} {base : Heap} {C : Addr}
theorem scSub : FnScope ["self", "other"] ["self", "other"] (defScope sSub) := ⟨rfl, rfl, rfl, by decide +kernel, rfl, by decide +kernel, by decide +kernel⟩
theorem ok_sub {f : Addr} {fd : FuncData} (F : Fun K "__sub__" "Form.__sub__" sSub f fd) (R : Cal P w K mg base 4 "right_side" (spRight P w K C) []) (Oa : OpM P w K mg base 5 C "__add__" (spAdd P w K C)) (On : OpM P w K mg base 3 C "__neg__" (spNeg P w K C (fun q => -q))) : FnOk P w K mg base CX0 6 f fd ["self", "other"] (spSub P w K C) := by
  obtain ⟨fa, fda, pa, oa, Fa, ba⟩ := Oa.ex
  obtain ⟨fn, fdn, pn, on, Fn, bn⟩ := On.ex
  refine F.ok scSub (fun vs H Q E h => ?_) (fun cdv A outer s H vs Q E hr h => ?_)
  · obtain ⟨a, v, fm1, fm2, rfl, _⟩ := h
    rfl
  · obtain ⟨a, v, fm1, fm2, rfl, ha, hv, Z, n2, l2, k⟩ := h
    refine ⟨_, pss_one (ps_ret (pe_op (op_own (op := .Add) oa Fa hr ba) (pv 0) (pe_un (un_own on Fn (hr.mono (by decide)) bn) (pe_c R hr (by decide) rfl (pa_cons (pv 1) pa_nil))))), ?_⟩
    refine ⟨_, rfl, un_one (call_one rfl (right_of hv fun H0 b S0 hb => ?_))⟩
    obtain ⟨dxb, db, kvb, hb1, hb2, hb3⟩ := hb
    refine ⟨b, dxb, _, rfl, hb1, b, fm2, rfl, ⟨dxb, db, kvb, hb1, hb2, hb3⟩, n2, l2, fun H1 c S1 nc hc => ?_⟩
    have ha1 := (ha.same S0).same S1
    obtain ⟨dxa, da, kva, ha2, ha3, ha4⟩ := ha1
    obtain ⟨dxc, dc, kvc, hc2, hc3, hc4⟩ := hc
    exact ⟨a, c, dxa, _, dxc, _, rfl, rfl, ha2, hc2, a, _, fm1, negM fm2, rfl, ⟨dxa, da, kva, ha2, ha3, ha4⟩, .inr ⟨c, rfl, dxc, dc, kvc, hc2, hc3, hc4⟩, Z, fun H2 e S2 ne he => k H2 e ((S0.trans S1).trans S2) ((S0.trans S1).free ne) he⟩
end
end E2

set_option Elab.async false
set_option linter.all false
set_option maxRecDepth 100000
set_option maxHeartbeats 1000000
set_option exponentiation.threshold 500000
/-! products of letters multiplied; _law_product_form -/
namespace E4
open PySem PySem.Spec PyProof.Rows L2
open C8 (Cal Mak Met InsC pe_c pe_mt pe_mt0 call_isC clsBody)
abbrev sLPF : Stmt := top 51
theorem oneM_mul {a b : List Str} {l : Fm} (h : Paired MulT l (allP (oneM a) (oneM b))) : mapM E2.nz id (addTo [] l) = oneM (a ++ b) := by
  have e : allP (oneM a) (oneM b) = [((sortT a, 1), (sortT b, 1))] := rfl
  rw [e] at h
  cases h with
  | cons r t =>
    cases t
    rename_i x
    obtain ⟨r1, r2, r3⟩ := r
    have k1 : x.1 = sortT (a ++ b) := (sortT_one r1 r2).trans (sortT_of_perm' ((sortT_perm a).append (sortT_perm b)))
    have k2 : x.2 = 1 := r3.trans (Rat.mul_one 1)
    obtain ⟨x1, x2⟩ := x
    subst k1 k2
    have e2 : addTo [] [(sortT (a ++ b), (1 : Rat))] = [(sortT (a ++ b), 0 + 1)] := rfl
    rw [e2, Rat.zero_add]
    rfl
theorem oneM_szm {a b : List Str} (h : a.length + b.length ≤ 1000) : E2.SzM (oneM a) (oneM b) := by
  have e1 : ∀ a : List Str, (oneM a).map (·.1) = [sortT a] := fun _ => rfl
  refine ⟨by rw [e1]; exact List.nodup_cons.mpr ⟨List.not_mem_nil, List.nodup_nil⟩, by rw [e1]; exact List.nodup_cons.mpr ⟨List.not_mem_nil, List.nodup_nil⟩, by show 1 * 1 < sizeLine; decide, fun x hx y hy => ?_, 1, 1, 1, 1, by decide, by decide, ?_, ?_, ?_, ?_, ?_, fun x hx => ?_, fun x hx => ?_⟩
  · rw [List.mem_singleton.mp hx, List.mem_singleton.mp hy]
    show (sortT a).length + (sortT b).length ≤ sizeLine
    rw [length_sortT, length_sortT, sizeLine_eq]
    omega
  · exact Nat.one_lt_two_pow (by decide)
  · exact Nat.one_lt_two_pow (by decide)
  · exact Nat.one_lt_two_pow (by decide)
  · exact Nat.one_lt_two_pow (by decide)
  · exact Nat.one_lt_two_pow (by decide)
  · rw [List.mem_singleton.mp hx]
    exact Bq.int (n := 1)
  · rw [List.mem_singleton.mp hx]
    exact Bq.int (n := 1)
def spLPF (P : Program) (w : World) (K : PySem.W.Frag) (CF : Addr) : Sp := fun vs H Q _ => ∃ (l : Addr) (m : List Str), vs = [.ref l] ∧ SqL K H l (m.map V.str) ∧ (∀ z ∈ m, LetOk z) ∧ m.length ≤ 100 ∧ ∀ H' b, Same H H' → FmAt P w K CF H' b (oneM m) → Q (.ref b) H'
section
variable {P : Program} {w : World} {K : PySem.W.Frag} {mg : Str → Option Value} {base : Heap} {C CF : Addr}
theorem scLPF : FnScope ["_law_product", "_law_found", "_law_one"] ["_law_product"] (defScope sLPF) := ⟨rfl, rfl, rfl, by decide +kernel, rfl, by decide +kernel, by decide +kernel⟩
theorem ok_lpf {f : Addr} {fd : FuncData} (F : Fun K "_law_product_form" "_law_product_form" sLPF f fd) (Nu : Cal P w K mg base 3 "number" (E2.spNumber P w K CF) []) (Le : Cal P w K mg base 3 "letter" (E2.spLetter P w K CF) []) (Mu : E2.OpM P w K mg base 5 CF "__mul__" (E2.spMul P w K CF)) : FnOk P w K mg base CX0 6 f fd ["_law_product"] (spLPF P w K CF) := by
  obtain ⟨fm, fdm, psm, Om, Fm_, bm⟩ := Mu.ex
  refine F.ok scLPF (fun vs H Q E h => ?_) (fun cdv A outer s H vs Q E hr h => ?_)
  · obtain ⟨l, m, rfl, _⟩ := h
    rfl
  · obtain ⟨l, m, rfl, hl, hlet, lm, k⟩ := h
    refine ⟨_, pss_cons (ps_set (i := 1) scLPF.nd rfl (Or.inl rfl) (pe_c Nu hr (by decide) rfl (pa_cons pe_int pa_nil)))
      (pss_cons (ps_for PassesOwn.never rfl (pi_list (pv 0)) (pg_name (i := 2) scLPF.nd rfl (Or.inl rfl)) (pss_one (ps_set (i := 1) scLPF.nd rfl (Or.inl rfl) (pe_op (op_own Om Fm_ hr bm) (pv 1) (pe_c Le hr (by decide) rfl (pa_cons (pv 2) pa_nil))))))
      (pss_one (ps_ret (pv 1)))), ?_⟩
    refine seq_asg ⟨1, rfl, fun H1 b S1 n1 h1 => ?_⟩
    rw [if_neg (by decide)] at h1
    refine ⟨_, rfl, l, rfl, ⟨_, hl.same S1⟩, for_it (walk_list (xs := m.map V.str)) (fun i σ' H' => ∃ b u2, σ' = [some (.ref l), some (.ref b), u2] ∧ Same H H' ∧ FmAt P w K CF H' b (oneM (m.take i))) ⟨b, none, rfl, S1, h1⟩ (fun i σ' H' _ q => let ⟨_, _, _, S, _⟩ := q; hl.same S) ?_ ?_⟩
    · rintro i v σ' H2 H3 hi ⟨b2, u2, rfl, S2, hb⟩ ⟨rfl, hxi⟩
      rw [List.length_map] at hi
      rw [List.getElem?_map] at hxi
      obtain ⟨z, hz, rfl⟩ := Option.map_eq_some_iff.mp hxi
      refine ⟨_, rfl, _, rfl, z, rfl, hlet z (List.mem_of_getElem? hz), fun H4 b4 S4 n4 h4 => ?_⟩
      have hb4 := hb.same S4
      obtain ⟨dx, d, kvs, e1, _, _⟩ := id hb4
      obtain ⟨dx', d', kvs', e2, _, _⟩ := id h4
      refine ⟨b2, b4, dx, _, dx', _, rfl, rfl, e1, e2, b2, .ref b4, oneM (m.take i), oneM [z], rfl, hb4, .inr ⟨b4, rfl, h4⟩, oneM_szm (by rw [List.length_take, List.length_singleton]; omega), fun H5 b5 ll S5 n5 hp h5 => ?_⟩
      rw [oneM_mul hp] at h5
      exact ⟨b5, _, rfl, S2.trans (S4.trans S5), by rw [take_snoc hz]; exact h5⟩
    · rintro σ' H2 ⟨b2, u2, rfl, S2, hb⟩
      rw [List.length_map, List.take_length] at hb
      exact ⟨_, rfl, k H2 b2 S2 hb⟩
end
end E4

set_option Elab.async false
set_option linter.all false
set_option maxRecDepth 100000
set_option maxHeartbeats 2000000
/-! _law_walked, by the places of the words -/
namespace E4
open PySem PySem.Spec PyProof.Rows L2
open C8 (Cal Mak Met InsC pe_c pe_mt pe_mt0 call_isC clsBody)
section
variable {P : Program} {w : World} {K : PySem.W.Frag} {mg : Str → Option Value} {base : Heap}
abbrev NW : List Str := ["_law_rows", "_law_sizes_here", "_law_route", "_law_found", "_law_spots", "_law_at", "_law_longer", "_law_cell", "_law_index", "_law_row", "_law_word"]
theorem scWalkd : FnScope NW ["_law_rows", "_law_sizes_here", "_law_route"] (defScope sWalked) := ⟨rfl, rfl, rfl, by decide +kernel, rfl, by decide +kernel, by decide +kernel⟩
theorem nodup_le_ {α : Type} [DecidableEq α] : ∀ {l m : List α}, l.Nodup → (∀ x ∈ l, x ∈ m) → l.length ≤ m.length
  | [], _, _, _ => Nat.zero_le _
  | x :: l, m, h, k => by
    obtain ⟨h1, h2⟩ := List.nodup_cons.mp h
    have hx := k x List.mem_cons_self
    have ih := nodup_le_ (m := m.erase x) h2 fun y hy => (List.mem_erase_of_ne (by rintro rfl; exact h1 hy)).mpr (k y (List.mem_cons_of_mem _ hy))
    rw [List.length_erase_of_mem hx] at ih
    have := List.length_pos_of_mem hx
    rw [List.length_cons]
    omega
theorem route_len {xs : List Sd} {A : List (Nat × Sd)} (r : RouteOk xs A) : A.length ≤ xs.length := by
  have h : (A.map (·.1)).length ≤ (List.range xs.length).length := nodup_le_ r.nd fun i hi => by
    obtain ⟨q, hq, rfl⟩ := List.mem_map.mp hi
    exact List.mem_range.mpr (List.getElem?_eq_some_iff.mp (r.at_ q hq)).1
  rwa [List.length_map, List.length_range] at h
def scIn : Scope := { kind := .function, names := [(".0", .local), ("_law_word", .local), ("_law_rows", .free)], isGenerator := false, isCoroutine := false }
def scRow : Scope := { kind := .function, names := [(".0", .local), ("_law_row", .local)], isGenerator := false, isCoroutine := false }
def tIdx (K : PySem.W.Frag) : TE := tBM K "list" (rIndex K) (tLc (iList K (tVar 0)) (gName 9) tYes (tOp (rIxT K) (tVar 9) (tC (.int 0))) [9]) (tCons (tVar 10) tNil)
theorem ok_walked {f : Addr} {fd : FuncData} (F : Fun K "_law_walked" "_law_walked" sWalked f fd) (B : E3.Bt4 mg) (Tm : Cal P w K mg base 1 "_law_times" (spTimes K) []) : FnOk P w K mg base CX0 2 f fd ["_law_rows", "_law_sizes_here", "_law_route"] (spWalked K) := by
  refine F.ok scWalkd (fun vs H Q E h => ?_) (fun cdv A outer s H vs Q E hr h => ?_)
  · obtain ⟨l, d, t, ts, xs, vl, A, rfl, _⟩ := h
    rfl
  · obtain ⟨l, d, t, ts, xs, vl, A, rfl, hl, hx, hd, vok, ok, l8, nd, lets, ht, ro, m4, k⟩ := h
    refine ⟨_, pss_cons (ps_set (i := 3) scWalkd.nd rfl (Or.inl rfl) (pe_lstS (pa_cons (pe_lc (own := [("_law_row", 9)]) (g := gName 9) (tt := tYes) (te := tC (.int 0)) rfl scWalkd.nd (pi_list (pv 0))
          (blkOk_by (own := [("_law_row", 9)]) (N := NW) (sc := defScope sWalked) (by decide +kernel))
          (fun _ _ _ _ _ => pg_name (i := 9) scWalkd.nd rfl (Or.inl rfl)) (fun _ _ _ _ _ => pts_nil) (fun _ _ _ _ _ => by exact pe_int)) pa_nil)))
      (pss_cons (ps_setLc (i := 4) (own := [("_law_word", 10)]) (g := gName 10) (tt := tYes) (te := tIdx K) (by rfl) scWalkd.nd rfl rfl (by rfl) (pi_list (pv 2))
          (blkOk_by (own := [("_law_word", 10)]) (N := NW) (sc := defScope sWalked) (by decide +kernel))
          (fun _ _ _ _ _ => pg_name (i := 10) scWalkd.nd rfl (Or.inl rfl)) (fun _ _ _ _ _ => pts_nil)
          (fun _ _ _ _ _ => by exact pe_bm PySem.F.plainAttrs_list PySem.F.slot_list_index PySem.F.type_list_index mt_index (pe_lc (own := [("_law_row", 9)]) (g := gName 9) (tt := tYes) (te := tOp (rIxT K) (tVar 9) (tC (.int 0))) rfl scWalkd.nd (pi_list (pv 0))
            (by refine blkOk_by ?_; show blkC NW scIn scRow [("_law_row", 9)] = true; decide +kernel)
            (fun _ _ _ _ _ => pg_name (i := 9) scWalkd.nd rfl (Or.inl rfl)) (fun _ _ _ _ _ => pts_nil) (fun _ _ _ _ _ => by exact pe_ix ix_tup (pv 9) pe_int (fun _ _ => rfl))) (pa_cons (pv 10) pa_nil)))
      (pss_cons (ps_for PassesOwn.never rfl (pi_list (pv 4)) (pg_name (i := 5) scWalkd.nd rfl (Or.inl rfl))
        (pss_cons (ps_set (i := 6) scWalkd.nd rfl (Or.inl rfl) (pe_lstS pa_nil))
        (pss_cons (ps_for PassesOwn.never rfl (pi_list (pv 3)) (pg_name (i := 7) scWalkd.nd rfl (Or.inl rfl))
          (pss_one (ps_for PassesOwn.never rfl (pi_range1 rfl B.rng_ (pa_cons (pe_c Tm hr (by decide) rfl (pa_cons (pe_ix ix_tup (pe_ix ix_list (pv 0) (pv 5) (fun _ _ => rfl)) pe_int (fun _ _ => rfl)) (pa_cons (pv 1) pa_nil))) pa_nil)) (pg_name (i := 8) scWalkd.nd rfl (Or.inl rfl))
            (pss_one (ps_expr (pe_bm PySem.F.plainAttrs_list PySem.F.slot_list_append PySem.F.type_list_append mt_append (pv 6) (pa_cons (pe_op op_catS (pe_op op_catS (pe_slice sl_listS (pv 7) po_none (po_some (pv 5))) (pe_lstS (pa_cons (pv 8) pa_nil))) (pe_slice sl_listS (pv 7) (po_some (pe_op op_add (pv 5) pe_int)) po_none)) pa_nil)))))))
        (pss_one (ps_set (i := 3) scWalkd.nd rfl (Or.inl rfl) (pv 6))))))
      (pss_one (ps_ret (pv 3))))), ?_⟩
    have lt := hx.length
    have lA8 : ∀ i, i ≤ A.length → (walkW vl xs (A.take i)).length ≤ 400 := fun i hi => by
      have h1 := walk_len vok ro i hi
      have h2 := many_mono (vok.route ro) ((A.map (·.2)).length - i) i (by rw [List.length_map]; omega)
      omega
    refine seq_asg ?_
    refine ⟨_, rfl, l, rfl, ⟨_, hl⟩, fun D nD => lc_it (walk_list (xs := ts.map V.ref)) (fun i H' => Same H H' ∧ H' D = some (.lst (List.replicate i (V.int 0)))) ⟨Same.upd nD, upd_same⟩ (fun i H' _ q => hl.same q.1) ?_ ?_⟩
    · rintro i x H2 H3 hi ⟨S, hD⟩ ⟨rfl, hx2⟩
      rw [List.length_map] at hi
      refine ⟨rfl, iteT (B := False) ⟨_, hD, ?_, ?_, ?_⟩⟩
      · rw [List.length_replicate, sizeLine_eq]
        omega
      · intro b o hb
        rw [upd_ne (ne_of_none hb nD)]
        exact S _ _ hb
      · rw [upd_same, List.replicate_succ']
    rintro H0 ⟨S0, hD⟩
    rw [List.length_map, lt] at hD
    refine ⟨by show 1 ≤ sizeLine; decide, fun f0 H1 S1 n1 h1 => ?_⟩
    have S01 := S0.trans S1
    have zz : (xs.map fun _ => (0 : Int)).map V.int = List.replicate xs.length (V.int 0) := by
      rw [List.map_map]
      exact List.map_const' ..
    have hl1 := hl.same S01
    refine seq_asg ?_
    refine ⟨_, rfl, t, rfl, ⟨_, SqL.of (S01 _ _ ht)⟩, fun W nW => lc_it (walk_list (xs := (A.map (·.2.1)).map V.str)) (fun i H' => Same H1 H' ∧ H' W = some (.lst ((A.take i).map fun q => V.int (q.1 : Nat)))) ⟨Same.upd nW, upd_same⟩ (fun i H' _ q => SqL.of (q.1 _ _ (S01 _ _ ht))) ?_ ?_⟩
    · rintro i v H2 H3 hi ⟨S2, hW⟩ ⟨rfl, hxi⟩
      rw [List.length_map, List.length_map] at hi
      rw [List.getElem?_map, List.getElem?_map] at hxi
      obtain ⟨w1, hw1, rfl⟩ := Option.map_eq_some_iff.mp hxi
      obtain ⟨q, hq, rfl⟩ := Option.map_eq_some_iff.mp hw1
      have hy := ro.at_ q (List.mem_of_getElem? hq)
      have iq : q.1 < xs.length := (List.getElem?_eq_some_iff.mp hy).1
      have hl2 := hl1.same S2
      refine ⟨rfl, iteT (B := False) ?_⟩
      refine ⟨_, rfl, l, rfl, ⟨_, hl2⟩, fun E0 nE => lc_it (walk_list (xs := ts.map V.ref)) (fun j H' => Same H3 H' ∧ H' E0 = some (.lst (((xs.take j).map (·.1)).map V.str))) ⟨Same.upd nE, upd_same⟩ (fun j H' _ q => hl2.same q.1) ?_ ?_⟩
      · rintro j x H4 H5 hj ⟨S4, hE⟩ ⟨rfl, hx2⟩
        rw [List.length_map] at hj
        rw [List.getElem?_map] at hx2
        obtain ⟨t', htt, rfl⟩ := Option.map_eq_some_iff.mp hx2
        obtain ⟨y, hyj, d1, d2, g0, g1, g2⟩ := paired_at hx htt
        refine ⟨rfl, iteT (B := False) ⟨_, rfl, t', _, 0, _, rfl, rfl, SqT.of (S4 _ _ (S2 _ _ (S01 _ _ g0))), rfl, _, hE, ?_, ?_, ?_⟩⟩
        · rw [List.length_map, List.length_map, List.length_take, sizeLine_eq]
          omega
        · intro b o hb
          rw [upd_ne (ne_of_none hb nE)]
          exact S4 _ _ hb
        · rw [upd_same, take_snoc hyj, List.map_append, List.map_append]
          rfl
      rintro H4 ⟨S4, hE⟩
      rw [List.length_map, lt, List.take_length] at hE
      refine ⟨.inl ⟨rfl, _, SqL.of hE⟩, ?_⟩
      refine ⟨_, rfl, E0, _, _, q.1, .str q.2.1, rfl, rfl, SqL.of hE, rfl, flat_strs _, by rw [List.getElem?_map, List.getElem?_map, hy]; rfl, by simp [eqV], fun m z' hm hz' => ?_, ?_⟩
      · rw [List.getElem?_map, List.getElem?_map] at hz'
        obtain ⟨w2, hw2, rfl⟩ := Option.map_eq_some_iff.mp hz'
        have hn : (xs.map (·.1))[m]? = some w2 := by rw [List.getElem?_map]; exact hw2
        have hn2 : (xs.map (·.1))[q.1]? = some q.2.1 := by rw [List.getElem?_map, hy]; rfl
        have : w2 ≠ q.2.1 := fun e => by
          subst e
          have := (List.getElem?_inj (i := m) (j := q.1) (by rw [List.length_map]; omega) nd).mp (hn.trans hn2.symm)
          omega
        simp [eqV, this]
      refine ⟨_, S4 _ _ hW, ?_, ?_, ?_⟩
      · rw [List.length_map, List.length_take, sizeLine_eq]
        have := route_len ro
        omega
      · intro b o hb
        rw [upd_ne (ne_of_none hb nW)]
        exact S4 _ _ (S2 _ _ hb)
      · rw [upd_same, take_snoc hq, List.map_append]
        rfl
    rintro H1w ⟨S1w, hW⟩
    rw [List.length_map, List.length_map, List.take_length] at hW
    have S0w := S01.trans S1w
    have nWH : H W = none := S01.free nW
    have f0W := S1w _ _ h1
    refine ⟨_, rfl, W, rfl, ⟨_, SqL.of hW⟩, for_it (walk_list (xs := A.map fun q => V.int (q.1 : Nat))) (fun i σ' H' => ∃ fl as u5 u6 u7 u8, σ' = [some (.ref l), some (.ref d), some (.ref t), some (.ref fl), some (.ref W), u5, u6, u7, u8, none, none] ∧ Same H1w H' ∧ H' fl = some (.lst (as.map V.ref)) ∧ H fl = none ∧ CsAt H' as (walkW vl xs (A.take i)))
      ⟨f0, [D], none, none, none, none, rfl, fun _ _ e => e, f0W, S0.free n1, .cons (by rw [zz]; exact S1w _ _ (S1 _ _ hD)) .nil⟩ (fun i σ' H' _ q => let ⟨_, _, _, _, _, _, _, S, _⟩ := q; SqL.of (S _ _ hW)) ?_ ?_⟩
    · rintro i v σ' H2 H3 hi ⟨fl, as, u5, u6, u7, u8, rfl, S2w, hfl, nfl, hcs⟩ ⟨rfl, hxi⟩
      have S2 := S0w.trans S2w
      have ht : True := trivial
      rw [List.length_map] at hi
      rw [List.getElem?_map] at hxi
      obtain ⟨q, hq, rfl⟩ := Option.map_eq_some_iff.mp hxi
      have hy := ro.at_ q (List.mem_of_getElem? hq)
      have iq : q.1 < xs.length := (List.getElem?_eq_some_iff.mp hy).1
      obtain ⟨tq, htq⟩ : ∃ tq, ts[q.1]? = some tq := ⟨_, List.getElem?_eq_getElem (h := by omega)⟩
      obtain ⟨y', hy', c1, c2, r0, r1, r2⟩ := paired_at hx htq
      rw [hy] at hy'
      obtain rfl := Option.some.inj hy'
      obtain ⟨y1, y2, y3, y4⟩ := ok q.2 (List.mem_of_getElem? hy)
      have ym : ∀ z ∈ q.2.2.1, z ∈ vl.map (·.1) := fun z hz => vok.mem q.2 (List.mem_of_getElem? hy) z (.inl hz)
      have tp := tm_pos (m := q.2.2.1) vok.bd ym
      have lb := lA8 (i + 1) (by omega)
      have al := lA8 i (by omega)
      have eC : walkW vl xs (A.take (i + 1)) = stepW vl (walkW vl xs (A.take i)) q := by rw [take_snoc hq, walk_snoc]
      rw [eC] at lb ⊢
      have ce : ∀ c ∈ walkW vl xs (A.take i), c.length = xs.length := walk_each vl xs (A.take i)
      have la := hcs.length
      generalize walkW vl xs (A.take i) = cc at hcs lb la al ce
      have tl : cc.length ≠ 0 → SW vl q.2 ≤ 400 := fun c0 => by
        rw [stepW_len] at lb
        exact Nat.le_trans (Nat.le_mul_of_pos_left _ (by omega)) lb
      refine seq_asg ?_
      refine ⟨by show 0 ≤ sizeLine; decide, fun g0 H5 S5 n5 h5 => ?_⟩
      dsimp only
      have S35 := S5
      have S05 := S2.trans S35
      have ngf : g0 ≠ fl := (ne_of_none hfl n5).symm
      have nH5 : H g0 = none := S2.free n5
      have nH5w : H1w g0 = none := S2w.free n5
      have nas : ∀ a ∈ as, a ≠ g0 := fun a ha e => by
        subst e
        exact hcs.there a ha n5
      refine ⟨_, rfl, fl, rfl, ⟨_, SqL.of (S35 _ _ hfl)⟩, for_it (walk_list (xs := as.map V.ref)) (fun j σ' H' => ∃ bs u8 u9, σ' = [some (.ref l), some (.ref d), some (.ref t), some (.ref fl), some (.ref W), some (.int (q.1 : Nat)), some (.ref g0), u8, u9, none, none] ∧ SameB g0 H5 H' ∧ H' g0 = some (.lst (bs.map V.ref)) ∧ (∀ b ∈ bs, b ≠ g0) ∧ CsAt H' bs (stepW vl (cc.take j) q))
        ⟨[], u7, u8, rfl, fun _ _ _ e => e, h5, (fun _ h => nomatch h), .nil⟩ (fun j σ' H' _ q => let ⟨_, _, _, _, S, _⟩ := q; SqL.of (S _ _ ngf.symm (S35 _ _ hfl))) ?_ ?_⟩
      · rintro j v σ' H6 H7 hj ⟨bs, u8, u9, rfl, S6, hg, nb, hbs⟩ ⟨rfl, hxj⟩
        rw [List.length_map] at hj
        rw [List.getElem?_map] at hxj
        obtain ⟨a, haj, rfl⟩ := Option.map_eq_some_iff.mp hxj
        obtain ⟨c, hcj, hac⟩ := paired_at hcs haj
        have tl' := tl (by have := (List.getElem?_eq_some_iff.mp hcj).1; omega)
        have eS := stepW_snoc (vl := vl) q hcj
        have na := nas a (List.mem_of_getElem? haj)
        have lc := ce c (List.mem_of_getElem? hcj)
        have lb1 := hbs.length
        have lb2 : (stepW vl (cc.take j) q).length ≤ 400 := by
          rw [stepW_len]
          rw [stepW_len] at lb
          refine Nat.le_trans (Nat.mul_le_mul_right _ ?_) lb
          rw [List.length_take]
          omega
        have toH : ∀ {x : Addr} {o : HO}, H x = some o → H7 x = some o := fun e => S6 _ _ (ne_of_none e nH5) (S05 _ _ e)
        have hl6 : SqL K H7 l (ts.map V.ref) := by
          rcases hl with (h | ⟨o, h⟩) | h
          · exact .inl (.inl (toH h))
          · exact .inl (.inr ⟨o, toH h⟩)
          · exact .inr h
        have hac6 := S6 _ _ na (S35 _ _ hac)
        have tv : tm vl q.2.2.1 = ((SW vl q.2 : Nat) : Int) := (Int.toNat_of_nonneg (by omega)).symm
        rw [eS]
        refine ⟨_, rfl, _, rfl, l, _, (q.1 : Int), _, rfl, rfl, hl6, atI_nat (v := V.ref tq) (by rw [List.getElem?_map, htq]; rfl), tq, _, 1, _, rfl, rfl, SqT.of (toH r0), rfl, _, rfl, c1, d, q.2.2.1, vl, rfl, SqL.of (toH r1), toH hd, ym, vok.bd, by omega, _, rfl, by omega, by omega, ?_⟩
        refine for_it (walk_range (n := SW vl q.2)) (fun m σ' H' => ∃ es u9, σ' = [some (.ref l), some (.ref d), some (.ref t), some (.ref fl), some (.ref W), some (.int (q.1 : Nat)), some (.ref g0), some (.ref a), u9, none, none] ∧ SameB g0 H7 H' ∧ H' g0 = some (.lst ((bs ++ es).map V.ref)) ∧ (∀ b ∈ bs ++ es, b ≠ g0) ∧ CsAt H' (bs ++ es) (stepW vl (cc.take j) q ++ turnW c q.1 m))
          ⟨[], u9, rfl, fun _ _ _ e => e, by rw [List.append_nil]; exact hg, by rw [List.append_nil]; exact nb, by rw [List.append_nil]; show CsAt H7 bs (_ ++ []); rw [List.append_nil]; exact hbs⟩ (fun _ _ _ _ _ => trivial) ?_ ?_
        · rintro m x σ' H8 H9 hm ⟨es, u9, rfl, S8, hg8, nb8, hb8⟩ ⟨rfl, rfl⟩
          have hm : m < SW vl q.2 := hm
          have hac8 := S8 _ _ na hac6
          have le8 := hb8.length
          rw [List.length_append, List.length_append, turnW_len] at le8
          refine ⟨_, rfl, .inl ⟨rfl, _, SqL.of hg8⟩, ?_⟩
          refine ⟨_, rfl, _, rfl, (q.1 : Int), rfl, a, _, rfl, SqL.of hac8, fun p1 Ha Sa n1' hp1 => ?_⟩
          refine ⟨_, rfl, by show 1 ≤ sizeLine; decide, fun p2 Hb Sb n2' hp2 => ?_⟩
          refine ⟨p1, p2, _, _, rfl, rfl, Sb _ _ hp1, hp2, by rw [cut_take, List.length_take, List.length_map, sizeLine_eq]; show _ + 1 ≤ _; omega, fun p3 Hc Sc n3' hp3 => ?_⟩
          have S8c := Sa.trans (Sb.trans Sc)
          refine ⟨_, rfl, _, rfl, (q.1 : Int), 1, rfl, rfl, (q.1 : Int) + 1, rfl, a, _, rfl, SqL.of (S8c _ _ hac8), fun p4 Hd Sd n4' hp4 => ?_⟩
          refine ⟨p3, p4, _, _, rfl, rfl, Sd _ _ hp3, hp4, ?_, fun p5 He Se n5' hp5 => ?_⟩
          · rw [List.length_append, cut_take, show ((q.1 : Int) + 1) = ((q.1 + 1 : Nat) : Int) from rfl, cut_drop, List.length_take, List.length_drop, List.length_map, sizeLine_eq]
            show _ + 1 + _ ≤ _
            omega
          have S8e := S8c.trans (Sd.trans Se)
          have hge := S8e _ _ hg8
          have n5g : p5 ≠ g0 := (ne_of_none ((S8c.trans Sd) _ _ hg8) n5').symm
          refine ⟨g0, _, _, rfl, rfl, hge, by rw [List.length_map, List.length_append, sizeLine_eq]; omega, ?_⟩
          have ep : cutV (c.map V.int) none (some ((q.1 : Nat) : Int)) ++ [V.int (0 + ((m : Nat) : Int))] ++ cutV (c.map V.int) (some ((q.1 : Int) + 1)) none = (c.set q.1 ((m : Nat) : Int)).map V.int := by
            rw [cut_take, show ((q.1 : Int) + 1) = ((q.1 + 1 : Nat) : Int) from rfl, cut_drop, set_cut (by omega), Int.zero_add, List.map_append, List.map_append, List.map_take, List.map_drop]
            rfl
          refine ⟨es ++ [p5], _, rfl, fun x o n e => by rw [upd_ne n]; exact S8e _ _ (S8 _ _ n e), by rw [upd_same, ← List.append_assoc, List.map_append (l₁ := bs ++ es)]; rfl, fun b hb => ?_, ?_⟩
          · rw [← List.append_assoc] at hb
            rcases List.mem_append.mp hb with h | h
            · exact nb8 b h
            · rw [List.mem_singleton.mp h]; exact n5g
          · rw [← List.append_assoc, turnW_snoc, ← List.append_assoc]
            refine CsAt.app (hb8.imp fun b hb o eo => ?_) (.cons ?_ .nil)
            · rw [upd_ne (nb8 b hb)]
              exact S8e _ _ eo
            · rw [upd_ne n5g, hp5, ep]
        · rintro σ' H8 ⟨es, u9, rfl, S8, hg8, nb8, hb8⟩
          exact ⟨bs ++ es, _, _, rfl, fun x o n e => S8 _ _ n (S6 _ _ n e), hg8, nb8, hb8⟩
      · rintro σ' H6 ⟨bs, u8, u9, rfl, S6, hg, nb, hbs⟩
        rw [List.length_map, la, List.take_length] at hbs
        exact ⟨_, rfl, g0, bs, _, _, _, _, rfl, fun x o e => S6 _ _ (ne_of_none e nH5w) (S5 _ _ (S2w _ _ e)), hg, nH5, hbs⟩
    · rintro σ' H2 ⟨fl, as, u5, u6, u7, u8, rfl, S2w, hfl, nfl, hcs⟩
      rw [List.length_map, List.take_length] at hcs
      exact ⟨_, rfl, k H2 fl as (S0w.trans S2w) nfl hfl hcs⟩
end
end E4

set_option Elab.async false
set_option linter.all false
set_option maxRecDepth 100000
set_option maxHeartbeats 2000000
/-! a walk's steps: which word goes on, and how far -/
namespace E4
open PySem PySem.Spec PyProof.Rows L2
/-- how far a step of the m-th word goes -/
def WidI (vl : Vls) : List (Nat × Sd) → Nat → Int
  | [], _ => 0
  | q :: A, 0 => TW vl q.2 - (A.map fun r => ((SW vl r.2 : Nat) - 1 : Int) * TW vl r.2).sum
  | _ :: A, m + 1 => WidI vl A m
/-- which words go on, in order -/
def goW (vl : Vls) (A : List (Nat × Sd)) : Nat → List Nat
  | 0 => []
  | n + 1 => match A[n]? with
    | none => goW vl A n
    | some q => List.replicate (SW vl q.2 - 1) n ++ (goW vl A n).flatMap fun g => g :: List.replicate (SW vl q.2 - 1) n
def cntN (vl : Vls) (A : List (Nat × Sd)) : Nat → Nat
  | 0 => 1
  | n + 1 => match A[n]? with
    | none => cntN vl A n
    | some q => cntN vl A n * SW vl q.2
inductive RunW (R : List Int → List Int → Nat → Prop) : List (List Int) → List Nat → Prop where
  | one (c : List Int) : RunW R [c] []
  | cons {c c' : List Int} {L : List (List Int)} {g : Nat} {G : List Nat} (h : R c c' g) (t : RunW R (c' :: L) G) : RunW R (c :: c' :: L) (g :: G)
theorem RunW.app {R : List Int → List Int → Nat → Prop} {X Y : List (List Int)} {GX GY : List Nat} {g : Nat} {b c : List Int} (hx : RunW R X GX) (hy : RunW R (c :: Y) GY) (hb : X.getLast? = some b) (h : R b c g) : RunW R (X ++ c :: Y) (GX ++ g :: GY) := by
  induction hx with
  | one d =>
    cases hb
    exact .cons h hy
  | cons h1 t ih =>
    rw [List.getLast?_cons_cons] at hb
    exact .cons h1 (ih hb)
theorem RunW.len {R : List Int → List Int → Nat → Prop} {L : List (List Int)} {G : List Nat} (h : RunW R L G) : L.length = G.length + 1 := by
  induction h with
  | one => rfl
  | cons _ _ ih => rw [List.length_cons, ih, List.length_cons]
theorem RunW.at_ {R : List Int → List Int → Nat → Prop} {L : List (List Int)} {G : List Nat} (h : RunW R L G) : ∀ (i : Nat) g, G[i]? = some g → ∃ c c', L[i]? = some c ∧ L[i + 1]? = some c' ∧ R c c' g := by
  induction h with
  | one => intro i g e; simp at e
  | cons h1 t ih =>
    intro i g e
    cases i with
    | zero => cases e; exact ⟨_, _, rfl, rfl, h1⟩
    | succ i => exact ih i g e
theorem RunW.imp {R R' : List Int → List Int → Nat → Prop} {L : List (List Int)} {G : List Nat} (h : RunW R L G) (p : List Int → Prop) (hp : ∀ c ∈ L, p c) (k : ∀ c c' g, p c → p c' → R c c' g → R' c c' g) : RunW R' L G := by
  induction h with
  | one => exact .one _
  | cons h1 t ih => exact .cons (k _ _ _ (hp _ List.mem_cons_self) (hp _ (List.mem_cons_of_mem _ List.mem_cons_self)) h1) (ih fun c hc => hp c (List.mem_cons_of_mem _ hc))
/-- one turn of the innermost word -/
theorem turn_run {R : List Int → List Int → Nat → Prop} {c : List Int} {i n : Nat} (N : Nat) (h : ∀ j : Nat, j + 1 < N + 1 → R (c.set i (j : Nat)) (c.set i ((j + 1 : Nat) : Int)) n) : RunW R (turnW c i (N + 1)) (List.replicate N n) ∧ (turnW c i (N + 1)).getLast? = some (c.set i (N : Nat)) ∧ ∃ Y, turnW c i (N + 1) = c.set i 0 :: Y := by
  induction N with
  | zero => exact ⟨.one _, rfl, [], rfl⟩
  | succ N ih =>
    obtain ⟨h1, h2, Y, h3⟩ := ih fun j hj => h j (by omega)
    rw [turnW_snoc]
    refine ⟨?_, by rw [List.getLast?_concat], Y ++ [c.set i ((N + 1 : Nat) : Int)], by rw [h3]; rfl⟩
    rw [List.replicate_succ']
    exact RunW.app h1 (.one _) h2 (h N (by omega))
theorem flat_run {R R' : List Int → List Int → Nat → Prop} {i n N : Nat} {L : List (List Int)} {G : List Nat} (hr : RunW R L G) (p : List Int → Prop) (hp : ∀ c ∈ L, p c) (h1 : ∀ c, p c → ∀ j : Nat, j + 1 < N + 1 → R' (c.set i (j : Nat)) (c.set i ((j + 1 : Nat) : Int)) n) (h2 : ∀ c c' g, p c → p c' → R c c' g → R' (c.set i (N : Nat)) (c'.set i 0) g) :
    RunW R' (L.flatMap fun c => turnW c i (N + 1)) (List.replicate N n ++ G.flatMap fun g => g :: List.replicate N n) ∧ ∃ c Y, L.head? = some c ∧ (L.flatMap fun c => turnW c i (N + 1)) = c.set i 0 :: Y := by
  induction hr with
  | one c =>
    obtain ⟨t1, t2, Y, t3⟩ := turn_run (R := R') (c := c) (i := i) (n := n) N (h1 c (hp c List.mem_cons_self))
    rw [List.flatMap_cons, List.flatMap_nil, List.append_nil, List.flatMap_nil, List.append_nil]
    exact ⟨t1, c, Y, rfl, t3⟩
  | @cons c c' L g G r t ih =>
    obtain ⟨ih1, c0, Y0, e0, ih2⟩ := ih fun d hd => hp d (List.mem_cons_of_mem _ hd)
    cases e0
    obtain ⟨t1, t2, Y, t3⟩ := turn_run (R := R') (c := c) (i := i) (n := n) N (h1 c (hp c List.mem_cons_self))
    rw [List.flatMap_cons, ih2, List.flatMap_cons]
    rw [ih2] at ih1
    refine ⟨?_, c, Y ++ c'.set i 0 :: Y0, rfl, by rw [t3]; rfl⟩
    exact RunW.app t1 ih1 t2 (h2 c c' g (hp c List.mem_cons_self) (hp c' (List.mem_cons_of_mem _ List.mem_cons_self)) r)
def GtW (c c' : List Int) (q : Nat × Sd) : Prop := ∃ a b, c[q.1]? = some a ∧ c'[q.1]? = some b ∧ a < b
/-- from one cell to the next: the g-th word alone goes on -/
structure RelW (vl : Vls) (xs : List Sd) (A : List (Nat × Sd)) (k : Nat) (c c' : List Int) (g : Nat) : Prop where
  lt : g < k
  on : ∀ q, A[g]? = some q → GtW c c' q
  off : ∀ m q, A[m]? = some q → m ≠ g → ¬ GtW c c' q
  wd : spotI vl xs c' - spotI vl xs c = WidI vl (A.take k) g
theorem wid_new (vl : Vls) (q : Nat × Sd) : ∀ A : List (Nat × Sd), WidI vl (A ++ [q]) A.length = TW vl q.2
  | [] => by show TW vl q.2 - 0 = _; omega
  | r :: A => wid_new vl q A
theorem wid_old (vl : Vls) (q : Nat × Sd) : ∀ (A : List (Nat × Sd)) (m : Nat), m < A.length → WidI vl (A ++ [q]) m = WidI vl A m - ((SW vl q.2 : Nat) - 1 : Int) * TW vl q.2
  | [], m, h => absurd h (Nat.not_lt_zero _)
  | r :: A, 0, _ => by
    show TW vl r.2 - ((A ++ [q]).map fun r => ((SW vl r.2 : Nat) - 1 : Int) * TW vl r.2).sum = TW vl r.2 - (A.map fun r => ((SW vl r.2 : Nat) - 1 : Int) * TW vl r.2).sum - _
    rw [List.map_append, List.sum_append]
    simp only [List.map_cons, List.map_nil, List.sum_cons, List.sum_nil]
    omega
  | r :: A, m + 1, h => wid_old vl q A m (by simpa using h)
def CellW (xs : List Sd) (A : List (Nat × Sd)) (k : Nat) (c : List Int) : Prop := c.length = xs.length ∧ ∀ m q, A[m]? = some q → k ≤ m → c[q.1]? = some 0
theorem walk_run {vl : Vls} {xs : List Sd} {A : List (Nat × Sd)} (ro : RouteOk xs A) (pos : ∀ q ∈ A, 1 ≤ SW vl q.2) : ∀ k, k ≤ A.length → RunW (RelW vl xs A k) (walkW vl xs (A.take k)) (goW vl A k) ∧ ∀ c ∈ walkW vl xs (A.take k), CellW xs A k c
  | 0, _ => by
    refine ⟨.one _, fun c hc => ?_⟩
    have e : c = xs.map fun _ => 0 := List.mem_singleton.mp hc
    subst e
    refine ⟨List.length_map .., fun m q hq _ => ?_⟩
    rw [List.getElem?_map, ro.at_ q (List.mem_of_getElem? hq)]
    rfl
  | k + 1, hk => by
    obtain ⟨ih, ic⟩ := walk_run ro pos k (by omega)
    have hq : A[k]? = some A[k] := List.getElem?_eq_getElem (by omega)
    generalize A[k] = q at hq
    have hN := pos q (List.mem_of_getElem? hq)
    obtain ⟨N, eN⟩ : ∃ N, SW vl q.2 = N + 1 := ⟨SW vl q.2 - 1, by omega⟩
    have et : A.take (k + 1) = A.take k ++ [q] := take_snoc hq
    have lk : (A.take k).length = k := by rw [List.length_take]; omega
    have ew : walkW vl xs (A.take (k + 1)) = (walkW vl xs (A.take k)).flatMap fun c => turnW c q.1 (N + 1) := by
      rw [et, walk_snoc]
      unfold stepW
      rw [eN]
    have eg : goW vl A (k + 1) = List.replicate N k ++ (goW vl A k).flatMap fun g => g :: List.replicate N k := by
      show (match A[k]? with | none => _ | some q => _) = _
      rw [hq]
      dsimp only
      rw [eN, Nat.add_sub_cancel]
    have ne : ∀ m r, A[m]? = some r → m ≠ k → r.1 ≠ q.1 := fun m r hr n e => by
      have a1 : (A.map (·.1))[m]? = some r.1 := by rw [List.getElem?_map, hr]; rfl
      have a2 : (A.map (·.1))[k]? = some q.1 := by rw [List.getElem?_map, hq]; rfl
      rw [e] at a1
      exact n ((List.getElem?_inj (List.getElem?_eq_some_iff.mp a1).1 ro.nd).mp (a1.trans a2.symm))
    have hx := ro.at_ q (List.mem_of_getElem? hq)
    have hxl := (List.getElem?_eq_some_iff.mp hx).1
    have c0 : ∀ c, CellW xs A k c → c[q.1]? = some 0 := fun c h => h.2 k q hq (Nat.le_refl _)
    have get : ∀ c, CellW xs A k c → ∀ v : Int, (c.set q.1 v)[q.1]? = some v := fun c h v => List.getElem?_set_self (by rw [h.1]; exact hxl)
    have oth : ∀ (c : List Int) (v : Int) m r, A[m]? = some r → m ≠ k → (c.set q.1 v)[r.1]? = c[r.1]? := fun c v m r hr n => List.getElem?_set_ne (ne m r hr n).symm
    have sp : ∀ c, CellW xs A k c → ∀ v : Int, spotI vl xs (c.set q.1 v) = spotI vl xs c + v * TW vl q.2 := fun c h v => spot_setW hx (c0 c h)
    rw [ew, eg]
    refine ⟨(flat_run (R' := RelW vl xs A (k + 1)) ih (CellW xs A k) ic (fun c hc j hj => ⟨Nat.lt_succ_self k, fun r hr => ?_, fun m r hr n g => ?_, ?_⟩) (fun c c' g hc hc' R => ⟨Nat.lt_succ_of_lt R.lt, fun r hr => ?_, fun m r hr n z => ?_, ?_⟩)).1, fun c hc => ?_⟩
    · rw [hq] at hr
      cases hr
      exact ⟨_, _, get c hc _, get c hc _, by omega⟩
    · obtain ⟨a, b, h1, h2, h3⟩ := g
      rw [oth c _ m r hr n] at h1 h2
      rw [h1] at h2
      cases h2
      omega
    · rw [sp c hc, sp c hc, et]
      have := wid_new vl q (A.take k)
      rw [lk] at this
      rw [this]
      have e : (((j + 1 : Nat) : Int)) * TW vl q.2 = (j : Nat) * TW vl q.2 + TW vl q.2 := by rw [Int.natCast_add, Int.add_mul]; simp
      omega
    · obtain ⟨a, b, h1, h2, h3⟩ := R.on r hr
      have gk := R.lt
      exact ⟨a, b, by rw [oth c _ g r hr (by omega)]; exact h1, by rw [oth c' _ g r hr (by omega)]; exact h2, h3⟩
    · obtain ⟨a, b, h1, h2, h3⟩ := z
      by_cases e : m = k
      · subst e
        rw [hq] at hr
        cases hr
        rw [get c hc] at h1
        rw [get c' hc'] at h2
        cases h1
        cases h2
        omega
      · rw [oth c _ m r hr e] at h1
        rw [oth c' _ m r hr e] at h2
        exact R.off m r hr n ⟨a, b, h1, h2, h3⟩
    · rw [sp c hc, sp c' hc', et, wid_old vl q (A.take k) g (by rw [lk]; exact R.lt), ← R.wd, eN]
      have e : (((N + 1 : Nat) : Int) - 1) = (N : Nat) := by omega
      rw [e]
      omega
    · obtain ⟨d, hd, h⟩ := List.mem_flatMap.mp hc
      obtain ⟨j, _, rfl⟩ := List.mem_map.mp h
      have := ic d hd
      refine ⟨by rw [List.length_set, this.1], fun m r hr hm => ?_⟩
      rw [oth d _ m r hr (by omega)]
      exact this.2 m r hr (by omega)
theorem cnt_len {vl : Vls} {A : List (Nat × Sd)} (pos : ∀ q ∈ A, 1 ≤ SW vl q.2) : ∀ k, k ≤ A.length → (goW vl A k).length + 1 = cntN vl A k
  | 0, _ => rfl
  | k + 1, hk => by
    have ih := cnt_len pos k (by omega)
    have hq : A[k]? = some A[k] := List.getElem?_eq_getElem (by omega)
    generalize A[k] = q at hq
    have hN := pos q (List.mem_of_getElem? hq)
    obtain ⟨N, eN⟩ : ∃ N, SW vl q.2 = N + 1 := ⟨SW vl q.2 - 1, by omega⟩
    have e1 : goW vl A (k + 1) = List.replicate N k ++ (goW vl A k).flatMap fun g => g :: List.replicate N k := by
      show (match A[k]? with | none => _ | some q => _) = _
      rw [hq]
      dsimp only
      rw [eN, Nat.add_sub_cancel]
    have e2 : cntN vl A (k + 1) = cntN vl A k * (N + 1) := by
      show (match A[k]? with | none => _ | some q => _) = _
      rw [hq]
      dsimp only
      rw [eN]
    have fl : ∀ G : List Nat, (G.flatMap fun g => g :: List.replicate N k).length = G.length * (N + 1) := by
      intro G
      induction G with
      | nil => simp
      | cons g G ih => rw [List.flatMap_cons, List.length_append, ih, List.length_cons, List.length_replicate, List.length_cons, Nat.add_mul, Nat.one_mul, Nat.add_comm]
    rw [e1, e2, ← ih, List.length_append, fl, List.length_replicate, Nat.add_mul, Nat.one_mul]
    omega
theorem go_lt {vl : Vls} {A : List (Nat × Sd)} : ∀ k, ∀ g ∈ goW vl A k, g < k
  | 0, g, h => absurd h List.not_mem_nil
  | k + 1, g, h => by
    have ih := go_lt (vl := vl) (A := A) k
    have e : goW vl A (k + 1) = (match A[k]? with | none => goW vl A k | some q => List.replicate (SW vl q.2 - 1) k ++ (goW vl A k).flatMap fun g => g :: List.replicate (SW vl q.2 - 1) k) := rfl
    rw [e] at h
    cases hq : A[k]? with
    | none =>
      rw [hq] at h
      exact Nat.lt_succ_of_lt (ih g h)
    | some q =>
      rw [hq] at h
      dsimp only at h
      rcases List.mem_append.mp h with h | h
      · rw [(List.mem_replicate.mp h).2]; exact Nat.lt_succ_self _
      · obtain ⟨x, hx, h⟩ := List.mem_flatMap.mp h
        rcases List.mem_cons.mp h with h | h
        · rw [h]; exact Nat.lt_succ_of_lt (ih x hx)
        · rw [(List.mem_replicate.mp h).2]; exact Nat.lt_succ_self _
/-- how often each goes on -/
theorem go_count {vl : Vls} {A : List (Nat × Sd)} (pos : ∀ q ∈ A, 1 ≤ SW vl q.2) : ∀ k, k ≤ A.length → ∀ m q, A[m]? = some q → m < k → (goW vl A k).count m = (SW vl q.2 - 1) * cntN vl A m
  | 0, _, m, q, _, h => absurd h (Nat.not_lt_zero _)
  | k + 1, hk, m, r, hr, hm => by
    have ih := go_count pos k (by omega)
    have hq : A[k]? = some A[k] := List.getElem?_eq_getElem (by omega)
    generalize A[k] = q at hq
    have e1 : goW vl A (k + 1) = List.replicate (SW vl q.2 - 1) k ++ (goW vl A k).flatMap fun g => g :: List.replicate (SW vl q.2 - 1) k := by
      show (match A[k]? with | none => _ | some q => _) = _
      rw [hq]
    generalize hN : SW vl q.2 - 1 = N at e1
    rw [e1, List.count_append]
    by_cases e : m = k
    · subst e
      rw [hq] at hr
      cases hr
      have fl : ∀ G : List Nat, (∀ g ∈ G, g < m) → (G.flatMap fun g => g :: List.replicate N m).count m = G.length * N := by
        intro G
        induction G with
        | nil => intro _; simp
        | cons g G ih2 =>
          intro h
          have := h g List.mem_cons_self
          rw [List.flatMap_cons, List.count_append, ih2 fun x hx => h x (List.mem_cons_of_mem _ hx), List.count_cons_of_ne (by omega), List.count_replicate_self, List.length_cons, Nat.add_mul, Nat.one_mul, Nat.add_comm]
      rw [fl _ (go_lt m), List.count_replicate_self, hN, ← cnt_len pos m (by omega), Nat.mul_add, Nat.mul_one, Nat.mul_comm, Nat.add_comm]
    · have fl : ∀ G : List Nat, (G.flatMap fun g => g :: List.replicate N k).count m = G.count m := by
        intro G
        induction G with
        | nil => rfl
        | cons g G ih2 =>
          have z : (List.replicate N k).count m = 0 := by rw [List.count_replicate]; simp; omega
          rw [List.flatMap_cons, List.count_append, ih2, List.count_cons, List.count_cons, z]
          omega
      have z : (List.replicate N k).count m = 0 := by rw [List.count_replicate]; simp; omega
      rw [fl, z, Nat.zero_add]
      exact ih m r hr (by omega)
end E4

set_option Elab.async false
set_option linter.all false
set_option maxRecDepth 100000
set_option maxHeartbeats 2000000
set_option exponentiation.threshold 5000
/-! _law_steps -/
namespace E4
open PySem PySem.Spec PyProof.Rows L2
open C8 (Cal Mak Met InsC pe_c pe_mt pe_mt0 call_isC clsBody)
abbrev sSteps : Stmt := top 53
theorem set_small {xs : List Sd} {A : List (Nat × Sd)} {vl : Vls} (v : ValsOk vl xs) (ro : RouteOk xs A) (rw_ : ∀ x ∈ xs, RowOk x) : ∀ c ∈ walkW vl xs A, ∀ i ∈ c, i.natAbs < 2 ^ 4000 := by
  have key : ∀ (B : List (Nat × Sd)) (L : List (List Int)), (∀ q ∈ B, q ∈ A) → (∀ c ∈ L, ∀ i ∈ c, i.natAbs < 2 ^ 4000) → ∀ c ∈ B.foldl (stepW vl) L, ∀ i ∈ c, i.natAbs < 2 ^ 4000 := by
    intro B
    induction B with
    | nil => intro L _ h; exact h
    | cons q B ih =>
      intro L hB h
      refine ih (stepW vl L q) (fun r hr => hB r (List.mem_cons_of_mem _ hr)) fun c hc i hi => ?_
      obtain ⟨b, hb, h2⟩ := List.mem_flatMap.mp hc
      obtain ⟨j, hj, rfl⟩ := List.mem_map.mp h2
      rcases List.mem_or_eq_of_mem_set hi with e | e
      · exact h b hb i e
      · rw [e]
        have hx := List.mem_of_getElem? (ro.at_ q (hB q List.mem_cons_self))
        have hm : ∀ z ∈ q.2.2.1, z ∈ vl.map (·.1) := fun z hz => v.mem q.2 hx z (.inl hz)
        have b1 := tm_lt (m := q.2.2.1) v.bd hm
        have b2 := tm_pos (m := q.2.2.1) v.bd hm
        have b3 := (rw_ q.2 hx).2.2.1
        have b4 : (2 : Nat) ^ (1 + q.2.2.1.length * 400) ≤ 2 ^ 4000 := Nat.pow_le_pow_right (by decide) (by omega)
        have b5 : j < SW vl q.2 := List.mem_range.mp hj
        have b6 : SW vl q.2 = (tm vl q.2.2.1).toNat := rfl
        omega
  exact key A _ (fun _ h => h) fun c hc i hi => by
    rw [List.mem_singleton.mp hc] at hi
    obtain ⟨_, _, rfl⟩ := List.mem_map.mp hi
    exact Nat.pow_pos (by decide)
theorem one_of {x : Int} : ∀ {ns : List Int}, ns.Nodup → (∀ k, k ∈ ns ↔ k = x) → ns = [x]
  | [], _, h => absurd ((h x).mpr rfl) List.not_mem_nil
  | [y], _, h => by rw [(h y).mp (by simp)]
  | y :: z :: ns, nd, h => by
    have h1 := (h y).mp (by simp)
    have h2 := (h z).mp (by simp)
    rw [h1, h2] at nd
    exact absurd nd (by simp)
section
variable {P : Program} {w : World} {K : PySem.W.Frag} {mg : Str → Option Value} {base : Heap}
abbrev NS : List Str := ["_law_rows", "_law_sizes_here", "_law_route", "_law_cells", "_law_found", "_law_words", "_law_at", "_law_here", "_law_after", "_law_grown", "_law_width", "_law_kept_widths", "_law_many", "_law_row", "_law_word"]
/-- what has been noted of the steps so far -/
def StepD (H : Hp) (vl : Vls) (A : List (Nat × Sd)) (kd : List (Key × V)) (G : List Nat) : Prop := ∀ m q, A[m]? = some q →
  (G.count m = 0 → valV kd (Sum.inr q.2.1) = none) ∧ (G.count m ≠ 0 → ∃ t a, valV kd (Sum.inr q.2.1) = some (.ref t) ∧ H t = some (.tup [.ref a, .int (G.count m : Nat)]) ∧ H a = some (.lst [.int (WidI vl A m)]))
def spSteps (K : PySem.W.Frag) : Sp := fun vs H Q _ => ∃ (l d t : Addr) (ts : List Addr) (xs : List Sd) (vl : Vls) (A : List (Nat × Sd)), vs = [.ref l, .ref d, .ref t] ∧ SqL K H l (ts.map V.ref) ∧ SdsAt H ts xs ∧ H d = some (.dK (dI vl)) ∧ ValsOk vl xs ∧ (∀ x ∈ xs, RowOk x) ∧ xs.length ≤ 8 ∧ (xs.map (·.1)).Nodup ∧ (∀ x ∈ xs, LetOk x.1) ∧
  H t = some (.lst ((A.map (·.2.1)).map V.str)) ∧ RouteOk xs A ∧ A.length = xs.length ∧ manyI vl (A.map (·.2)) ≤ 400 ∧
  ∀ H' p kd, Same H H' → H p = none → H' p = some (.dK kd) → StepD H' vl A kd (goW vl A A.length) → Q (.ref p) H'
theorem scSteps : FnScope NS ["_law_rows", "_law_sizes_here", "_law_route"] (defScope sSteps) := ⟨rfl, rfl, rfl, by decide +kernel, rfl, by decide +kernel, by decide +kernel⟩
theorem ok_steps {f : Addr} {fd : FuncData} (F : Fun K "_law_steps" "_law_steps" sSteps f fd) (B4 : E3.Bt4 mg) (B : Bl mg) (Wd : Cal P w K mg base 2 "_law_walked" (spWalked K) []) (Sp_ : Cal P w K mg base 2 "_law_spot" (spSpot K) []) : FnOk P w K mg base CX0 3 f fd ["_law_rows", "_law_sizes_here", "_law_route"] (spSteps K) := by
  refine F.ok scSteps (fun vs H Q E h => ?_) (fun cdv A outer s H vs Q E hr h => ?_)
  · obtain ⟨l, d, t, ts, xs, vl, A, rfl, _⟩ := h
    rfl
  · obtain ⟨l, d, t, ts, xs, vl, A, rfl, hl, hx, hd, vok, ok, l8, nd, lets, ht, ro, lA, m4, k⟩ := h
    have ul := Nat.lt_of_le_of_lt (Nat.add_le_add_left (by decide : 1 ≤ 64) _) hr.units
    refine ⟨_, pss_cons (ps_par (i := 3) (j := 4) (by rfl) scSteps.nd rfl rfl (by decide) rfl rfl (pa_cons (pe_c Wd hr (by decide) rfl (pa_cons (pv 0) (pa_cons (pv 1) (pa_cons (pv 2) pa_nil)))) (pa_cons pe_dnewS pa_nil)) (by rfl))
      (pss_cons (ps_set (i := 5) scSteps.nd rfl (Or.inr rfl) (pe_lc (own := [("_law_row", 13)]) (g := gName 13) (tt := tYes) (te := tOp (rIxT K) (tVar 13) (tC (.int 0))) rfl scSteps.nd (pi_list (pv 0))
          (blkOk_by (own := [("_law_row", 13)]) (N := NS) (sc := defScope sSteps) (by decide +kernel))
          (fun _ _ _ _ _ => pg_name (i := 13) scSteps.nd rfl (Or.inl rfl)) (fun _ _ _ _ _ => pts_nil) (fun _ _ _ _ _ => by exact pe_ix ix_tup (pv 13) pe_int (fun _ _ => rfl))))
      (pss_cons (ps_for PassesOwn.never rfl (pi_range1 rfl B4.rng_ (pa_cons (pe_op op_sub (pe_callB call_len_seq (by rfl) B.len_ PySem.boot_len (pa_cons (pv 3) pa_nil)) pe_int) pa_nil)) (pg_name (i := 6) scSteps.nd rfl (Or.inl rfl))
        (pss_cons (ps_asg (pe_tupS (pa_cons (pe_ix ix_list (pv 3) (pv 6) (fun _ _ => rfl)) (pa_cons (pe_ix ix_list (pv 3) (pe_op op_add (pv 6) pe_int) (fun _ _ => rfl)) pa_nil))) (pg_tup (by rfl) (pgs_cons (pg_name (i := 7) scSteps.nd rfl (Or.inr rfl)) (pgs_cons (pg_name (i := 8) scSteps.nd rfl (Or.inr rfl)) pgs_nil))))
        (pss_cons (ps_setLc (i := 9) (own := [("_law_word", 14)]) (g := gName 14) (tt := tTest (tOp (rI0 fun i j => .bl (decide (j < i))) (tOp (rIxL K) (tVar 8) (tBM K "list" (rIndex K) (tVar 5) (tCons (tVar 14) tNil))) (tOp (rIxL K) (tVar 7) (tBM K "list" (rIndex K) (tVar 5) (tCons (tVar 14) tNil))))) (te := tVar 14) (by rfl) scSteps.nd rfl rfl (by rfl) (pi_list (pv 2))
            (blkOk_by (own := [("_law_word", 14)]) (N := NS) (sc := defScope sSteps) (by decide +kernel))
            (fun _ _ _ _ _ => pg_name (i := 14) scSteps.nd rfl (Or.inl rfl))
            (fun _ _ _ _ _ => by exact pts_one (pt_cmpR op_gt (pe_ix ix_list (pv 8) (pe_bm PySem.F.plainAttrs_list PySem.F.slot_list_index PySem.F.type_list_index mt_index (pv 5) (pa_cons (pv 14) pa_nil)) (fun _ _ => rfl)) (pe_ix ix_list (pv 7) (pe_bm PySem.F.plainAttrs_list PySem.F.slot_list_index PySem.F.type_list_index mt_index (pv 5) (pa_cons (pv 14) pa_nil)) (fun _ _ => rfl)) (by rfl)))
            (fun _ _ _ _ _ => pv 14))
        (pss_cons (ps_set (i := 10) scSteps.nd rfl (Or.inl rfl) (pe_op op_sub (pe_c Sp_ hr (by decide) rfl (pa_cons (pv 0) (pa_cons (pv 1) (pa_cons (pv 8) pa_nil)))) (pe_c Sp_ hr (by decide) rfl (pa_cons (pv 0) (pa_cons (pv 1) (pa_cons (pv 7) pa_nil))))))
        (pss_cons (ps_asg (pe_dget2 ul (pv 4) (pe_ix ix_list (pv 9) pe_int (fun _ _ => rfl)) (pe_tupS (pa_cons (pe_lstS pa_nil) (pa_cons pe_int pa_nil))) ⟨by rfl, by rfl, by rfl, by rfl⟩) (pg_tup (by rfl) (pgs_cons (pg_name (i := 11) scSteps.nd rfl (Or.inl rfl)) (pgs_cons (pg_name (i := 12) scSteps.nd rfl (Or.inl rfl)) pgs_nil))))
        (pss_one (ps_dput ul (pv 4) (pe_ix ix_list (pv 9) pe_int (fun _ _ => rfl)) (pe_tupS (pa_cons (pe_callB (cr_sortedSL rfl) (by rfl) B.srt_ (by decide +kernel) (pa_cons (pe_callTy (cr_setL rfl) (by rfl) B.set_ (by decide +kernel) (pa_cons (pe_op op_catS (pv 11) (pe_lstS (pa_cons (pv 10) pa_nil))) pa_nil)) pa_nil)) (pa_cons (pe_op op_add (pv 12) pe_int) pa_nil))) rfl)))))))
      (pss_one (ps_ret (pv 4))))), ?_⟩
    have lt := hx.length
    have pos : ∀ q ∈ A, 1 ≤ SW vl q.2 := fun q hq => by
      have := tm_pos (m := q.2.2.1) vok.bd fun z hz => vok.mem q.2 (List.mem_of_getElem? (ro.at_ q hq)) z (.inl hz)
      show 1 ≤ (tm vl q.2.2.1).toNat
      omega
    obtain ⟨run, _⟩ := walk_run ro pos A.length (Nat.le_refl _)
    have each := walk_each vl xs A
    have small := set_small vok ro ok
    rw [List.take_length] at run
    have rlen := run.len
    have rat := run.at_
    have llen : (walkW vl xs A).length ≤ 400 := by
      have h := walk_len vok ro A.length (Nat.le_refl _)
      rw [List.take_length, List.take_of_length_le (by rw [List.length_map]; exact Nat.le_refl _)] at h
      omega
    generalize hLL : walkW vl xs A = LL at run each small rlen rat llen
    generalize goW vl A A.length = GG at run rlen rat k
    refine ⟨_, rfl, _, rfl, _, rfl, l, d, t, ts, xs, vl, A, rfl, hl, hx, hd, vok, ok, l8, nd, lets, ht, ro, m4, fun H1 cp as S1 n1 h1 hcs => ?_⟩
    rw [hLL] at hcs
    refine fun fd H2 S2 nfd hfd => ⟨_, _, rfl, ?_⟩
    have S02 := S1.trans S2
    have hl2 := hl.same S02
    have hcp := S2 _ _ h1
    have hcs2 := hcs.same S2
    dsimp only
    refine seq_asg ?_
    refine ⟨_, rfl, l, rfl, ⟨_, hl2⟩, fun W nW => lc_it (walk_list (xs := ts.map V.ref)) (fun j H' => Same H2 H' ∧ H' W = some (.lst (((xs.take j).map (·.1)).map V.str))) ⟨Same.upd nW, upd_same⟩ (fun j H' _ q => hl2.same q.1) ?_ ?_⟩
    · rintro j x H4 H5 hj ⟨S4, hE⟩ ⟨rfl, hx2⟩
      rw [List.length_map] at hj
      rw [List.getElem?_map] at hx2
      obtain ⟨t', htt, rfl⟩ := Option.map_eq_some_iff.mp hx2
      obtain ⟨y, hyj, d1, d2, g0, g1, g2⟩ := paired_at hx htt
      refine ⟨rfl, iteT (B := False) ⟨_, rfl, t', _, 0, _, rfl, rfl, SqT.of (S4 _ _ (S02 _ _ g0)), rfl, _, hE, ?_, ?_, ?_⟩⟩
      · rw [List.length_map, List.length_map, List.length_take, sizeLine_eq]
        omega
      · intro b o hb
        rw [upd_ne (ne_of_none hb nW)]
        exact S4 _ _ hb
      · rw [upd_same, take_snoc hyj, List.map_append, List.map_append]
        rfl
    rintro H3 ⟨S3, hW⟩
    rw [List.length_map, lt, List.take_length] at hW
    have nfd0 : H fd = none := S1.free nfd
    have hfd3 := S3 _ _ hfd
    have hcp3 := S3 _ _ hcp
    have hcs3 := hcs2.same S3
    have S03 := S02.trans S3
    have nWf : W ≠ fd := ne_of hW hfd3 (by intro z; cases z)
    have ncf : cp ≠ fd := ne_of hcp3 hfd3 (by intro z; cases z)
    have las : as.length = LL.length := hcs.length
    have toH : ∀ {H' : Hp} {x : Addr} {o : HO}, SameB fd H3 H' → H x = some o → H' x = some o := fun S e => S _ _ (ne_of_none e nfd0) (S03 _ _ e)
    have en : (((as.map V.ref).length : Nat) : Int) - 1 = (GG.length : Nat) := by rw [List.length_map, las, rlen]; omega
    refine ⟨_, rfl, cp, _, rfl, .inl (SqL.of hcp3), _, _, rfl, rfl, (GG.length : Nat), by show [V.int ((((as.map V.ref).length : Nat) : Int) - 1)] = _; rw [en], by omega, by omega, ?_⟩
    refine for_it (walk_range (n := ((GG.length : Nat) : Int).toNat)) (fun i σ' H' => ∃ u6 u7 u8 u9 u10 u11 u12 kd, σ' = [some (.ref l), some (.ref d), some (.ref t), some (.ref cp), some (.ref fd), some (.ref W), u6, u7, u8, u9, u10, u11, u12, none, none] ∧ SameB fd H3 H' ∧ H' fd = some (.dK kd) ∧ kd.length ≤ i ∧ StepD H' vl A kd (GG.take i)) ⟨none, none, none, none, none, none, none, [], rfl, SameB.refl _ _, hfd3, Nat.le_refl _, fun m q _ => ⟨fun _ => rfl, fun h => absurd rfl h⟩⟩ (fun _ _ _ _ _ => trivial) ?_ ?_
    · rintro i v σ' Hx H4 hi ⟨u6, u7, u8, u9, u10, u11, u12, kd, rfl, S4, hd4, lkd, sd⟩ ⟨rfl, rfl⟩
      have hi : i < GG.length := by simpa using hi
      obtain ⟨g, hg⟩ : ∃ g, GG[i]? = some g := ⟨_, List.getElem?_eq_getElem hi⟩
      obtain ⟨c, c', e1, e2, R⟩ := rat i g hg
      obtain ⟨q, hq⟩ : ∃ q, A[g]? = some q := ⟨_, List.getElem?_eq_getElem R.lt⟩
      have hcp4 := S4 _ _ ncf hcp3
      have hW4 := S4 _ _ nWf hW
      obtain ⟨a1, ha1, r1⟩ := paired_ix hcs3 e1
      obtain ⟨a2, ha2, r2⟩ := paired_ix hcs3 e2
      have r1' := S4 _ _ (ne_of r1 hfd3 (by intro z; cases z)) r1
      have r2' := S4 _ _ (ne_of r2 hfd3 (by intro z; cases z)) r2
      have ht4 := toH S4 ht
      show gName 6 (V.int (0 + (i : Nat))) _ _ _
      rw [Int.zero_add]
      refine ⟨_, rfl, _, rfl, cp, _, (i : Nat), _, rfl, rfl, SqL.of hcp4, atI_nat (by rw [List.getElem?_map, ha1]; rfl), ?_⟩
      refine ⟨_, rfl, _, rfl, (i : Int), 1, rfl, rfl, cp, _, ((i + 1 : Nat) : Int), _, rfl, rfl, SqL.of hcp4, atI_nat (by rw [List.getElem?_map, ha2]; rfl), ?_⟩
      refine ⟨by show 2 ≤ sizeLine; decide, fun tt H5 S5 ntt htt => ?_⟩
      refine ⟨tt, _, rfl, SqT.of htt, rfl, _, _, rfl, _, _, rfl, rfl, ?_⟩
      have r1'' := S5 _ _ r1'
      have r2'' := S5 _ _ r2'
      have hW5 := S5 _ _ hW4
      have ht5 := S5 _ _ ht4
      have hd5 := S5 _ _ hd4
      have lc := each c (List.mem_of_getElem? e1)
      have lc' := each c' (List.mem_of_getElem? e2)
      have idx : ∀ r ∈ A, ∀ {Hq : Hp} {Q : VK}, Hq W = some (.lst ((xs.map (·.1)).map V.str)) → Q (.int (r.1 : Nat)) Hq → rIndex K (.ref W) [.str r.2.1] Hq Q := fun r hrA Hq Q hq k => by
        have hy := ro.at_ r hrA
        have iq : r.1 < xs.length := (List.getElem?_eq_some_iff.mp hy).1
        refine ⟨W, _, _, r.1, .str r.2.1, rfl, rfl, SqL.of hq, rfl, flat_strs _, by rw [List.getElem?_map, List.getElem?_map, hy]; rfl, by simp [eqV], fun m z' hm hz' => ?_, k⟩
        rw [List.getElem?_map, List.getElem?_map] at hz'
        obtain ⟨w2, hw2, rfl⟩ := Option.map_eq_some_iff.mp hz'
        have hn : (xs.map (·.1))[m]? = some w2 := by rw [List.getElem?_map]; exact hw2
        have hn2 : (xs.map (·.1))[r.1]? = some r.2.1 := by rw [List.getElem?_map, hy]; rfl
        have : w2 ≠ r.2.1 := fun e => by
          subst e
          have := (List.getElem?_inj (i := m) (j := r.1) (by rw [List.length_map]; omega) nd).mp (hn.trans hn2.symm)
          omega
        simp [eqV, this]
      dsimp only
      refine seq_asg ?_
      refine ⟨_, rfl, t, rfl, ⟨_, SqL.of ht5⟩, fun D nD => lc_it (walk_list (xs := (A.map (·.2.1)).map V.str)) (fun j H' => Same H5 H' ∧ H' D = some (.lst (if g < j then [V.str q.2.1] else []))) ⟨Same.upd nD, by rw [if_neg (Nat.not_lt_zero _)]; exact upd_same⟩ (fun j H' _ z => SqL.of (z.1 _ _ ht5)) ?_ ?_⟩
      · rintro j v H6 H7 hj ⟨S6, hD⟩ ⟨rfl, hxj⟩
        rw [List.length_map, List.length_map] at hj
        rw [List.getElem?_map, List.getElem?_map] at hxj
        obtain ⟨w1, hw1, rfl⟩ := Option.map_eq_some_iff.mp hxj
        obtain ⟨r, hrj, rfl⟩ := Option.map_eq_some_iff.mp hw1
        have hrA := List.mem_of_getElem? hrj
        have hy := ro.at_ r hrA
        have iq : r.1 < xs.length := (List.getElem?_eq_some_iff.mp hy).1
        obtain ⟨b, hb⟩ : ∃ b, c'[r.1]? = some b := ⟨_, List.getElem?_eq_getElem (h := by omega)⟩
        obtain ⟨a, ha⟩ : ∃ a, c[r.1]? = some a := ⟨_, List.getElem?_eq_getElem (h := by omega)⟩
        refine ⟨rfl, _, rfl, _, rfl, .inl ⟨rfl, _, SqL.of (S6 _ _ hW5)⟩, _, rfl, ?_⟩
        dsimp only [tNil]
        refine idx r hrA (S6 _ _ hW5) ?_
        refine ⟨a2, _, (r.1 : Nat), .int b, rfl, rfl, SqL.of (S6 _ _ r2''), atI_nat (by rw [List.getElem?_map, hb]; rfl), ?_⟩
        refine ⟨_, rfl, _, rfl, .inl ⟨rfl, _, SqL.of (S6 _ _ hW5)⟩, _, rfl, ?_⟩
        dsimp only [tNil]
        refine idx r hrA (S6 _ _ hW5) ?_
        refine ⟨a1, _, (r.1 : Nat), .int a, rfl, rfl, SqL.of (S6 _ _ r1''), atI_nat (by rw [List.getElem?_map, ha]; rfl), ?_⟩
        refine ⟨b, a, rfl, rfl, _, rfl, ?_⟩
        by_cases ej : j = g
        · subst ej
          obtain ⟨a', b', k1, k2, k3⟩ := R.on r hrj
          rw [ha] at k1
          rw [hb] at k2
          cases k1
          cases k2
          rw [hq] at hrj
          cases hrj
          rw [if_neg (Nat.lt_irrefl _)] at hD
          refine ifT (decide_eq_true k3) ⟨_, rfl, _, hD, by show 0 < sizeLine; decide, fun x o e => by rw [upd_ne (ne_of_none e nD)]; exact S6 _ _ e, by rw [upd_same, if_pos (Nat.lt_succ_self _)]; rfl⟩
        · have nlt : ¬ a < b := fun h => R.off j r hrj ej ⟨a, b, ha, hb, h⟩
          refine ifF (decide_eq_false nlt) ⟨S6, ?_⟩
          have : (g < j + 1) = (g < j) := by rw [eq_iff_iff]; omega
          simp only [this]
          exact hD
      rintro H6 ⟨S6, hD⟩
      rw [List.length_map, List.length_map, if_pos R.lt] at hD
      have S46 := S5.trans S6
      have S36 : ∀ {x : Addr} {o : HO}, H x = some o → H6 x = some o := fun e => S46 _ _ (toH S4 e)
      have S06 : Same H H6 := fun _ _ e => S36 e
      refine seq_asg ?_
      refine ⟨_, rfl, _, rfl, _, rfl, l, d, a2, ts, xs, vl, c', rfl, hl.same S06, hx.same S06, S06 _ _ hd, vok, ok, l8, SqL.of (S6 _ _ r2''), lc', small c' (List.mem_of_getElem? e2), fun H7 S7 => ?_⟩
      refine ⟨_, rfl, _, rfl, _, rfl, l, d, a1, ts, xs, vl, c, rfl, hl.same (S06.trans S7), hx.same (S06.trans S7), S7 _ _ (S06 _ _ hd), vok, ok, l8, SqL.of (S7 _ _ (S6 _ _ r1'')), lc, small c (List.mem_of_getElem? e1), fun H8 S8 => ⟨_, _, rfl, rfl, ?_⟩⟩
      have S68 := S7.trans S8
      have wd : spotI vl xs c' - spotI vl xs c = WidI vl A g := by have := R.wd; rwa [List.take_length] at this
      dsimp only
      rw [wd]
      have hd8 := (S46.trans S68) _ _ hd4
      have hD8 := S68 _ _ hD
      have S48 := S46.trans S68
      obtain ⟨sn, so⟩ := sd g q hq
      have eG : GG.take (i + 1) = GG.take i ++ [g] := take_snoc hg
      have cnt : ∀ m, (GG.take (i + 1)).count m = (GG.take i).count m + if g = m then 1 else 0 := fun m => by
        rw [eG, List.count_append, List.count_singleton]
        simp
      have l63 : kd.length < sizeLine := by rw [sizeLine_eq]; omega
      -- what was kept of this word
      refine ⟨_, rfl, fd, rfl, .inl ⟨_, .inl hd8⟩, _, rfl, D, _, 0, _, rfl, rfl, SqL.of hD8, rfl, ?_⟩
      refine ⟨by show 0 ≤ sizeLine; decide, fun z0 H9 S9 nz0 hz0 => ⟨by show 2 ≤ sizeLine; decide, fun z1 H10 S10 nz1 hz1 => ?_⟩⟩
      have S810 := S9.trans S10
      have hd10 := S810 _ _ hd8
      have hD10 := S810 _ _ hD8
      have hz0' := S10 _ _ hz0
      refine ⟨_, DGet.k (k := Sum.inr q.2.1) hd10, ?_⟩
      have key : ∃ (tk ka : Addr) (ks : List Int), ((valV kd (Sum.inr q.2.1)).getD (V.ref z1)) = V.ref tk ∧ H10 tk = some (.tup [.ref ka, .int ((GG.take i).count g : Nat)]) ∧ H10 ka = some (.lst (ks.map V.int)) ∧ ks.length ≤ 1 ∧ ∀ x ∈ ks, x = WidI vl A g := by
        by_cases c0 : (GG.take i).count g = 0
        · rw [sn c0, c0]
          exact ⟨z1, z0, [], rfl, hz1, hz0', Nat.zero_le _, fun _ h => absurd h List.not_mem_nil⟩
        · obtain ⟨tk, ka, v1, v2, v3⟩ := so c0
          rw [v1]
          exact ⟨tk, ka, [WidI vl A g], rfl, S810 _ _ (S48 _ _ v2), S810 _ _ (S48 _ _ v3), Nat.le_refl _, fun x h => List.mem_singleton.mp h⟩
      obtain ⟨tk, ka, ks, ek, h1k, h2k, lks, hks⟩ := key
      show gTup _ _ _ ((valV kd (Sum.inr q.2.1)).getD (V.ref z1)) _ _ _
      rw [ek]
      refine ⟨tk, _, rfl, SqT.of h1k, rfl, _, _, rfl, _, _, rfl, rfl, ?_⟩
      dsimp only
      refine ⟨_, rfl, _, rfl, by show 1 ≤ sizeLine; decide, fun w1 H11 S11 nw1 hw1 => ?_⟩
      refine ⟨ka, w1, _, _, rfl, rfl, S11 _ _ h2k, hw1, by rw [List.length_map, sizeLine_eq]; show _ + 1 ≤ _; omega, fun cc H12 S12 ncc hcc => ?_⟩
      have ecc : ks.map V.int ++ [V.int (WidI vl A g)] = (ks ++ [WidI vl A g]).map V.int := by rw [List.map_append]; rfl
      rw [ecc] at hcc
      refine ⟨cc, ks ++ [WidI vl A g], rfl, SqL.of hcc, ?_, fun sa n0 nsa => ?_⟩
      · rw [List.length_append]
        have : (0 : Nat) + 60 + 1 < scanBound := by decide
        simp only [List.length_cons, List.length_nil]
        omega
      have S13 : Same H12 (upd H12 sa (SetO w sa (fun j => decide (j ∈ ks ++ [WidI vl A g])) n0)) := Same.upd nsa
      have hsa : (upd H12 sa (SetO w sa (fun j => decide (j ∈ ks ++ [WidI vl A g])) n0)) sa = some (SetO w sa (fun j => decide (j ∈ ks ++ [WidI vl A g])) n0) := upd_same
      refine ⟨sa, _, _, rfl, upd_same, fun ns pw_ nd_ mem => ?_⟩
      have ens : ns = [WidI vl A g] := one_of nd_ fun x => by
        rw [mem]
        simp only [decide_eq_true_eq, List.mem_append, List.mem_singleton]
        exact ⟨fun h => h.elim (hks x) id, fun h => .inr h⟩
      subst ens
      intro p14 H14 S14 np14 hp14
      refine ⟨_, rfl, _, _, rfl, rfl, by show 2 ≤ sizeLine; decide, fun t15 H15 S15 nt15 ht15 => ?_⟩
      have S1015 := S11.trans (S12.trans (S13.trans (S14.trans S15)))
      have hd15 := S1015 _ _ hd10
      have hD15 := S1015 _ _ hD10
      refine ⟨_, rfl, _, rfl, D, _, 0, _, rfl, rfl, SqL.of hD15, rfl, fd, _, rfl, DPut.k (k := Sum.inr q.2.1) hd15 l63, ?_⟩
      have S415 : Same H4 H15 := S48.trans (S810.trans S1015)
      have off : ∀ {x : Addr} {o : HO}, x ≠ fd → H15 x = some o → (upd H15 fd (.dK (putK kd (Sum.inr q.2.1) (.ref t15)))) x = some o := fun n e => by rw [upd_ne n]; exact e
      have nt15f : t15 ≠ fd := ne_of ht15 hd15 (by intro z; cases z)
      have np14f : p14 ≠ fd := (ne_of_none ((S11.trans (S12.trans S13)) _ _ hd10) np14).symm
      refine ⟨_, _, _, _, _, _, _, putK kd (Sum.inr q.2.1) (.ref t15), rfl, fun x o n e => off n (S415 _ _ (S4 _ _ n e)), upd_same, by have := length_putK kd (Sum.inr q.2.1) (V.ref t15); omega, fun m r hrm => ?_⟩
      rw [valV_put, cnt m]
      by_cases em : m = g
      · subst em
        rw [hq] at hrm
        cases hrm
        rw [if_pos rfl, if_pos rfl]
        refine ⟨fun h => by omega, fun _ => ⟨t15, p14, rfl, ?_, ?_⟩⟩
        · exact off nt15f ht15
        · exact off np14f (S15 _ _ hp14)
      · have nn : (Sum.inr r.2.1 : Key) ≠ Sum.inr q.2.1 := fun e => em (by
          have e2 : r.2.1 = q.2.1 := Sum.inr.inj e
          have hr1 := ro.at_ r (List.mem_of_getElem? hrm)
          have hq1 := ro.at_ q (List.mem_of_getElem? hq)
          have k1 : (xs.map (·.1))[r.1]? = some r.2.1 := by rw [List.getElem?_map, hr1]; rfl
          have k2 : (xs.map (·.1))[q.1]? = some q.2.1 := by rw [List.getElem?_map, hq1]; rfl
          rw [e2] at k1
          have k3 := (List.getElem?_inj (List.getElem?_eq_some_iff.mp k1).1 nd).mp (k1.trans k2.symm)
          have k4 : (A.map (·.1))[m]? = some r.1 := by rw [List.getElem?_map, hrm]; rfl
          have k5 : (A.map (·.1))[g]? = some q.1 := by rw [List.getElem?_map, hq]; rfl
          rw [k3] at k4
          exact (List.getElem?_inj (List.getElem?_eq_some_iff.mp k4).1 ro.nd).mp (k4.trans k5.symm))
        rw [if_neg nn, if_neg (fun e => em e.symm), Nat.add_zero]
        obtain ⟨s1, s2⟩ := sd m r hrm
        refine ⟨s1, fun h => ?_⟩
        obtain ⟨t9, a9, v1, v2, v3⟩ := s2 h
        exact ⟨t9, a9, v1, off (ne_of v2 hd4 (by intro z; cases z)) (S415 _ _ v2), off (ne_of v3 hd4 (by intro z; cases z)) (S415 _ _ v3)⟩
    · rintro σ' H4 ⟨u6, u7, u8, u9, u10, u11, u12, kd, rfl, S4, hd4, lkd, sd⟩
      have e : GG.take ((GG.length : Nat) : Int).toNat = GG := by rw [Int.toNat_natCast, List.take_length]
      rw [e] at sd
      exact ⟨_, rfl, k H4 fd kd (fun x o e => toH S4 e) nfd0 hd4 sd⟩
end
end E4

set_option Elab.async false
set_option linter.all false
set_option maxRecDepth 100000
set_option maxHeartbeats 1000000
set_option exponentiation.threshold 5000
/-! _law_many of law_k63 -/
namespace E4
open PySem PySem.Spec PyProof.Rows L2
open C8 (Cal Mak Met InsC pe_c pe_mt pe_mt0 call_isC clsBody)
section
variable {P : Program} {w : World} {K : PySem.W.Frag} {mg : Str → Option Value} {base : Heap}
end
end E4

set_option Elab.async false
set_option linter.all false
set_option maxRecDepth 100000
set_option maxHeartbeats 1000000
set_option exponentiation.threshold 500000
/-! a product's value; at of a product of letters -/
namespace E4
open PySem PySem.Spec PyProof.Rows L2
theorem evM_tm (vl : Vls) : ∀ m : List Str, evM (gOf vl) m = tm vl m
  | [] => rfl
  | z :: m => by
    have ih := evM_tm vl m
    show gOf vl z * evM (gOf vl) m = gOf vl z * tm vl m
    rw [ih]
theorem ev_one (vl : Vls) (m : List Str) : ev (gOf vl) (oneM m) = ((tm vl m : Int) : Rat) := by
  show 1 * (evM (gOf vl) (sortT m) : Rat) + 0 = _
  rw [evM_tm, tm_perm (sortT_perm m)]
  grind
end E4

set_option Elab.async false
set_option linter.all false
set_option maxRecDepth 100000
set_option maxHeartbeats 1000000
/-! a form stays where only a purse and the tables of code change -/
namespace E4
open PySem PySem.Spec PyProof.Rows L2
open E3 (PurseAt)
theorem fm_frP {P : Program} {w : World} {K : PySem.W.Frag} {CF p a : Addr} {n : Nat} {H H' : Hp} {fm : Fm} (h : FmAt P w K CF H a fm) (hp : PurseAt H p n) (S : FrP p H H') : FmAt P w K CF H' a fm := by
  obtain ⟨p0, p1, p2, ep, _⟩ := hp
  have ne : ∀ {c : Addr} {o : HO}, H c = some o → (∀ l, o ≠ .lst l) → c ≠ p := fun e k z => by
    subst z
    rw [ep] at e
    exact k _ (Option.some.inj e).symm
  have st : ∀ {c : Addr} {o : HO}, H c = some o → (∀ l, o ≠ .lst l) → (∀ l, o ≠ .tbl l) → H' c = some o := fun e k t => S _ _ (ne e k) e t
  obtain ⟨dx, d, kvs, h1, h2, h3⟩ := h
  refine ⟨dx, d, kvs, st h1 (fun _ z => nomatch z) (fun _ z => nomatch z), st h2 ?_ ?_, ?_⟩
  · intro l z; unfold DfO at z; cases z
  · intro l z; unfold DfO at z; cases z
  · unfold FmKv at h3 ⊢
    refine Paired.mapP h3 fun e mq z => ⟨z.1, ?_, ?_⟩
    · obtain ⟨o, g1, g2⟩ := z.2.1
      exact ⟨o, st g1 (fun _ z => nomatch z) (fun _ z => nomatch z), g2⟩
    · rcases z.2.2 with (g | ⟨o, g⟩) | g
      · exact .inl (.inl (st g (fun _ z => nomatch z) (fun _ z => nomatch z)))
      · exact .inl (.inr ⟨o, st g (fun _ z => nomatch z) (fun _ z => nomatch z)⟩)
      · exact .inr g
end E4

set_option Elab.async false
set_option linter.all false
set_option maxRecDepth 100000
set_option maxHeartbeats 1000000
/-! check_walk, inside_out, smooth -/
namespace E4
open PySem PySem.Spec PyProof.Rows L2
open LamX (Tabs ExtN TabB CodeO)
open C8 (Cal Mak Met InsC pe_c pe_mt pe_mt0 call_isC clsBody)
abbrev sWalk : Stmt := top 35
abbrev sInside : Stmt := top 36
def spWalk (C : Addr) : Sp := fun vs H Q _ => ∃ (l a : Addr) (wk : List Str) (ss : List Sd), vs = [.ref l, .ref a] ∧ H l = some (.lst (wk.map V.str)) ∧ wk.Perm (ss.map (·.1)) ∧ PlAt C H a ss ∧ SdsOk ss ∧ ∀ H', Same H H' → Q .non H'
/-- rows with their addresses, in the order of a walk from its inner side -/
def InsideB (H : Hp) (ss : List Sd) (wk : List Str) (A : List (Addr × Sd)) : Prop := A.map (·.2.1) = wk.reverse ∧ ∀ q ∈ A, SdAt H q.1 q.2 ∧ q.2 ∈ ss
def spInside (C : Addr) : Sp := fun vs H Q _ => ∃ (l a : Addr) (wk : List Str) (ss : List Sd), vs = [.ref a, .ref l] ∧ H l = some (.lst (wk.map V.str)) ∧ wk.Perm (ss.map (·.1)) ∧ PlAt C H a ss ∧ SdsOk ss ∧
  ∀ H' p A, Same H H' → H p = none → H' p = some (.lst (A.map fun q => V.ref q.1)) → InsideB H' ss wk A → Q (.ref p) H'
section
variable {P : Program} {w : World} {K : PySem.W.Frag} {mg : Str → Option Value} {base : Heap} {C : Addr}
theorem scWalk : FnScope ["walk", "table", "name"] ["walk", "table"] (defScope sWalk) := ⟨rfl, rfl, rfl, by decide +kernel, rfl, by decide +kernel, by decide +kernel⟩
theorem ok_walk {f : Addr} {fd : FuncData} (F : Fun K "check_walk" "check_walk" sWalk f fd) (B : Bl mg) (L : Cal P w K mg base 1 "is_letter" spIsLet []) (Sd_ : Met P w K mg base 1 C "sides" (spSides C) []) (Nm : Cal P w K mg base 1 "names_of" (spNames K) []) : FnOk P w K mg base CX0 2 f fd ["walk", "table"] (spWalk C) := by
  refine F.ok scWalk (fun vs H Q E h => ?_) (fun cdv A outer s H vs Q E hr h => ?_)
  · obtain ⟨l, a, wk, ss, rfl, _⟩ := h
    rfl
  · obtain ⟨l, a, wk, ss, rfl, hl, pm, hp, ok, k⟩ := h
    refine ⟨_, pss_cons (ps_if (PW.pt (pw_or (pt_not (pt_val (pe_callB call_isi (by rfl) B.isi (by decide +kernel) (pa_cons (pv 0) (pa_cons (pe_bltn (v := .ty "list") (by rfl) B.lst_ (by decide +kernel) rfl) pa_nil)))))
        (pw_or1 (pt_not (pt_val (pe_callB (cr_all rfl) (by rfl) B.all_ (by decide +kernel) (pa_cons (pe_lc (own := [("name", 2)]) (g := gName 2) (tt := tYes) (te := tCall spIsLet [] C8.E0 (tCons (tVar 2) tNil)) rfl scWalk.nd (pi_list (pv 0))
        (blkOk_by (own := [("name", 2)]) (N := ["walk", "table", "name"]) (sc := defScope sWalk) (by decide +kernel))
        (fun _ _ _ _ _ => pg_name (i := 2) scWalk.nd rfl (Or.inl rfl)) (fun _ _ _ _ _ => pts_nil) (fun _ _ _ _ _ => by exact pe_c L hr (by decide) rfl (pa_cons (pv 2) pa_nil))) pa_nil))))))) (pss_one ps_never) pss_nil)
      (pss_one (ps_if (pt_cmpR (op_neD hr.units) (pe_callB cr_sortedS (by rfl) B.srt_ (by decide +kernel) (pa_cons (pv 0) pa_nil)) (pe_callB cr_sortedS (by rfl) B.srt_ (by decide +kernel) (pa_cons (pe_c Nm hr (by decide) rfl (pa_cons (pe_mt0 Sd_ hr (by decide) (pv 1)) pa_nil)) pa_nil)) (by rfl)) (pss_one ps_never) pss_nil)), ?_⟩
    have hlen : wk.length ≤ 16 := by rw [pm.length_eq, List.length_map]; exact ok.len
    have hlet : ∀ z ∈ wk, LetOk z := fun z hz => by
      obtain ⟨x, hx, rfl⟩ := List.mem_map.mp (pm.mem_iff.mp hz)
      exact (ok.ok x hx).1
    refine ⟨_, rfl, _, _, _, _, true, rfl, .ty "list", .base (.lst hl), kit_ll, true, rfl, iteF ?_⟩
    refine ⟨_, rfl, l, rfl, ⟨_, SqL.of hl⟩, fun D nD => lc_it (walk_list (xs := wk.map V.str)) (fun i H' => Same H H' ∧ H' D = some (.lst (List.replicate i (V.bl true)))) ⟨Same.upd nD, upd_same⟩ (fun i H' _ q => SqL.of (q.1 _ _ hl)) ?_ ?_⟩
    · rintro i x H2 H3 hi ⟨S, hD⟩ ⟨rfl, hx2⟩
      rw [List.length_map] at hi
      rw [List.getElem?_map] at hx2
      obtain ⟨z, hzz, rfl⟩ := Option.map_eq_some_iff.mp hx2
      refine ⟨rfl, iteT (B := False) ⟨_, rfl, z, rfl, hlet z (List.mem_of_getElem? hzz), fun H4 S4 => ⟨_, S4 _ _ hD, ?_, ?_, ?_⟩⟩⟩
      · rw [List.length_replicate, sizeLine_eq]
        omega
      · intro b o hb
        rw [upd_ne (ne_of_none hb nD)]
        exact S4 _ _ (S _ _ hb)
      · rw [upd_same, List.replicate_succ']
    · rintro H2 ⟨S2, hD⟩
      rw [List.length_map] at hD
      refine ⟨D, List.replicate wk.length true, rfl, SqL.of (by rw [List.map_replicate]; exact hD), ?_⟩
      rw [all_true]
      refine ⟨true, rfl, ifF rfl ?_⟩
      dsimp only [tNext]
      have hl2 := S2 _ _ hl
      refine ⟨_, rfl, l, wk, rfl, SqL.of hl2, by omega, fun ys q pmy so nq => ?_⟩
      have e1 := sortT_one pmy so
      subst e1
      have S3 : Same H2 (upd H2 q (.lst ((sortT wk).map V.str))) := Same.upd nq
      obtain ⟨dx, l0, ts0, ha, hl0, hx0⟩ := id hp
      refine ⟨_, rfl, a, dx, _, rfl, S3 _ _ (S2 _ _ ha), rfl, a, ss, rfl, hp.same (S2.trans S3), ok, fun H4 p ts S4 np hpp hx => ?_⟩
      refine ⟨p, ts, ss, rfl, SqL.of hpp, hx, by have := ok.len; omega, fun H5 r S5 nr hr5 => ?_⟩
      refine ⟨r, ss.map (·.1), rfl, SqL.of hr5, by rw [List.length_map]; have := ok.len; omega, fun zs u pmz so2 nu => ?_⟩
      have e2 := sortT_one pmz so2
      subst e2
      have S6 : Same H5 (upd H5 u (.lst ((sortT (ss.map (·.1))).map V.str))) := Same.upd nu
      have S26 := S3.trans (S4.trans (S5.trans S6))
      have hq : upd H5 u (.lst ((sortT (ss.map (·.1))).map V.str)) q = some (.lst ((sortT wk).map V.str)) := S6 _ _ (S5 _ _ (S4 _ _ upd_same))
      refine ⟨.list ((sortT wk).map PyData.str), .list ((sortT (ss.map (·.1))).map PyData.str), .lst (SqL.of hq) (dp_strs _), .lst (SqL.of upd_same) (dp_strs _), shaped_strs _ (fun z hz => strOk_of (hlet z ((sortT_perm _).mem_iff.mp hz))), shaped_strs _ (fun z hz => strOk_of (hlet z (pm.mem_iff.mpr ((sortT_perm _).mem_iff.mp hz)))), _, rfl, ?_⟩
      refine ifF (by rw [eqv_listS, decide_eq_true (sortT_of_perm' pm)]; rfl) ?_
      exact k _ (S2.trans S26)
theorem scInside : FnScope ["table", "walk", "sides", "side", "name"] ["table", "walk"] (defScope sInside) := ⟨rfl, rfl, rfl, by decide +kernel, rfl, by decide +kernel, by decide +kernel⟩
/-- rows by their names -/
def kvR (A : List (Addr × Sd)) : List (Key × V) := A.map fun q => (Sum.inr q.2.1, V.ref q.1)
theorem valV_kvR {n : Str} : ∀ {A : List (Addr × Sd)}, n ∈ A.map (·.2.1) → ∃ q ∈ A, q.2.1 = n ∧ valV (kvR A) (Sum.inr n) = some (.ref q.1)
  | [], h => nomatch h
  | q :: A, h => by
    by_cases c : q.2.1 = n
    · refine ⟨q, List.mem_cons_self, c, ?_⟩
      unfold kvR valV
      rw [List.map_cons, List.find?_cons_of_pos (by simp [c])]
      rfl
    · obtain ⟨r, h1, h2, h3⟩ := valV_kvR (A := A) (n := n) (by
        rw [List.map_cons] at h
        rcases List.mem_cons.mp h with e | e
        · exact absurd e.symm c
        · exact e)
      refine ⟨r, List.mem_cons_of_mem _ h1, h2, ?_⟩
      unfold kvR valV at h3 ⊢
      rw [List.map_cons, List.find?_cons_of_neg (by simpa using c)]
      exact h3
theorem putK_kvR {A : List (Addr × Sd)} {n : Str} {a : Addr} {x : Sd} (e : x.1 = n) (h : n ∉ A.map (·.2.1)) : putK (kvR A) (Sum.inr n) (V.ref a) = kvR (A ++ [(a, x)]) := by
  have : ((kvR A).any fun kv => decide (kv.1 = Sum.inr n)) = false := by
    apply Bool.eq_false_iff.mpr
    intro c
    obtain ⟨kv, h1, h2⟩ := List.any_eq_true.mp c
    unfold kvR at h1
    obtain ⟨q, h3, rfl⟩ := List.mem_map.mp h1
    exact h (List.mem_map.mpr ⟨q, h3, Sum.inr.inj (of_decide_eq_true h2)⟩)
  unfold putK
  rw [this]
  unfold kvR
  rw [List.map_append, List.map_cons, List.map_nil, e]
  rfl
theorem ok_inside {f : Addr} {fd : FuncData} (F : Fun K "inside_out" "inside_out" sInside f fd) (B : Bl mg) (Sd_ : Met P w K mg base 1 C "sides" (spSides C) []) : FnOk P w K mg base CX0 2 f fd ["table", "walk"] (spInside C) := by
  refine F.ok scInside (fun vs H Q E h => ?_) (fun cdv A outer s H vs Q E hr h => ?_)
  · obtain ⟨l, a, wk, ss, rfl, _⟩ := h
    rfl
  · obtain ⟨l, a, wk, ss, rfl, hl, pm, hp, ok, k⟩ := h
    refine ⟨_, pss_cons (ps_set (i := 2) scInside.nd rfl (Or.inr rfl) (pe_dc (own := [("side", 3)]) (g := gName 3) (tt := tYes) (tk := tOp (rIxT K) (tVar 3) (tC (.int 0))) (tv := tVar 3) rfl scInside.nd (pi_list (pe_mt0 Sd_ hr (by decide) (pv 0)))
        (blkOk_by (own := [("side", 3)]) (N := ["table", "walk", "sides", "side", "name"]) (sc := defScope sInside) (by decide +kernel))
        (fun _ _ _ _ _ => pg_name (i := 3) scInside.nd rfl (Or.inl rfl)) (fun _ _ _ _ _ => pts_nil) (fun _ _ _ _ _ => by exact pe_ix ix_tup (pv 3) pe_int (fun _ _ => rfl)) (fun _ _ _ _ _ => pv 3)))
      (pss_one (ps_ret (pe_lc (own := [("name", 4)]) (g := gName 4) (tt := tYes) (te := tDGet (tVar 2) (tVar 4)) rfl scInside.nd (pi_reversed (by rfl) B.rev_ (pa_cons (pv 1) pa_nil))
        (blkOk_by (own := [("name", 4)]) (N := ["table", "walk", "sides", "side", "name"]) (sc := defScope sInside) (by decide +kernel))
        (fun _ _ _ _ _ => pg_name (i := 4) scInside.nd rfl (Or.inl rfl)) (fun _ _ _ _ _ => pts_nil) (fun _ _ _ _ _ => by exact pe_dget (Nat.lt_of_le_of_lt (Nat.add_le_add_left (by decide : 1 ≤ 64) _) hr.units) (pv 2) (pv 4) (fun _ _ => rfl))))), ?_⟩
    have hlen : wk.length ≤ 16 := by rw [pm.length_eq, List.length_map]; exact ok.len
    have slen := ok.len
    obtain ⟨dx, l0, ts0, ha, hl0, hx0⟩ := id hp
    refine seq_asg ?_
    refine ⟨_, rfl, a, dx, _, rfl, ha, rfl, a, ss, rfl, hp, ok, fun H1 p ts S1 np hpp hx => ?_⟩
    refine ⟨p, rfl, ⟨_, SqL.of hpp⟩, fun D nD => ?_⟩
    have lt := hx.length
    have hz : ∀ (i : Nat) (t : Addr) (y : Sd), ts[i]? = some t → ss[i]? = some y → (ts.zip ss)[i]? = some (t, y) := fun i t y h1 h2 => by rw [List.getElem?_zip_eq_some]; exact ⟨h1, h2⟩
    have zn : (ts.zip ss).map (fun q : Addr × Sd => q.2.1) = ss.map (·.1) := by
      have : (ts.zip ss).map (fun q : Addr × Sd => q.2.1) = ((ts.zip ss).map (·.2)).map (·.1) := by rw [List.map_map]; rfl
      rw [this, List.map_snd_zip (by omega)]
    have hin : ∀ q ∈ ts.zip ss, SdAt H1 q.1 q.2 ∧ q.2 ∈ ss := fun q hq => by
      obtain ⟨i, hi⟩ := List.mem_iff_getElem?.mp hq
      rw [List.getElem?_zip_eq_some] at hi
      obtain ⟨y, hy, r⟩ := paired_at hx hi.1
      rw [hi.2] at hy
      cases hy
      exact ⟨r, List.mem_of_getElem? hi.2⟩
    generalize hA : ts.zip ss = A at hz zn hin
    have lA : A.length = ss.length := by rw [← hA, List.length_zip]; omega
    let w := walk_list (K := K) (a := p) (xs := ts.map V.ref)
    let Pv : Nat → Hp → Prop := fun i H' => Same H1 H' ∧ H' D = some (.dK (kvR (A.take i)))
    refine ⟨fun i m H => m = ts.length - i ∧ i ≤ ts.length ∧ Pv i H, ⟨ts.length, by simp, Nat.zero_le _, Same.upd nD, upd_same⟩, ?_⟩
    rintro i m H2 ⟨rfl, hi, S2, hD⟩
    have q : SqL K H2 p (ts.map V.ref) := SqL.of (S2 _ _ hpp)
    by_cases hlt : i < ts.length
    · refine .inr ⟨w.goes i H2 (by rw [List.length_map]; exact hlt) q, Pv (i + 1), fun H' p' => ⟨ts.length - (i + 1), by omega, rfl, hlt, p'⟩, fun x H' y => ?_⟩
      obtain ⟨rfl, hxi⟩ := w.yields i H2 x H' (by rw [List.length_map]; exact hlt) q y
      rw [List.getElem?_map] at hxi
      obtain ⟨t, htt, rfl⟩ := Option.map_eq_some_iff.mp hxi
      obtain ⟨y, hy, u, v, h1, h2, h3⟩ := paired_at hx htt
      have e := take_snoc (hz i t y htt hy)
      have nin : y.1 ∉ (A.take i).map (fun q : Addr × Sd => q.2.1) := fun c => by
        have nd : (A.map (fun q : Addr × Sd => q.2.1)).Nodup := by rw [zn]; exact ok.nd
        rw [List.map_take] at c
        obtain ⟨j, hj⟩ := List.mem_iff_getElem?.mp c
        have hj2 : j < i := by
          have := (List.getElem?_eq_some_iff.mp hj).1
          rw [List.length_take] at this
          omega
        rw [List.getElem?_take_of_lt hj2] at hj
        have hk : (A.map (fun q : Addr × Sd => q.2.1))[i]? = some y.1 := by rw [List.getElem?_map, hz i t y htt hy]; rfl
        have := (List.getElem?_inj (i := j) (j := i) (by
          have := (List.getElem?_eq_some_iff.mp hj).1
          exact this) nd).mp (hj.trans hk.symm)
        omega
      refine ⟨rfl, iteT (B := False) ⟨_, rfl, t, _, 0, _, rfl, rfl, SqT.of (S2 _ _ h1), rfl, _, rfl, _, Sum.inr y.1, rfl, hD, ?_, ?_, ?_⟩⟩
      · unfold kvR
        rw [List.length_map, List.length_take, sizeLine_eq]
        omega
      · intro c o ec
        rw [upd_ne (ne_of_none ec nD)]
        exact S2 _ _ ec
      · rw [upd_same, putK_kvR (x := y) rfl nin, e]
    · have ei : i = ts.length := by omega
      subst ei
      have : A.take ts.length = A := List.take_of_length_le (by omega)
      rw [this] at hD
      refine .inl ⟨by have := w.stops H2 q; rw [List.length_map] at this; exact this, ?_⟩
      have S02 := S1.trans S2
      have hl2 := S02 _ _ hl
      dsimp only
      refine ret_of ?_
      refine ⟨_, rfl, l, wk.map V.str, rfl, SqL.of hl2, fun D2 nD2 => ?_⟩
      refine lc_it walk_rev (fun i H' => Same H2 H' ∧ ∃ B : List (Addr × Sd), B.map (·.2.1) = wk.reverse.take i ∧ (∀ q ∈ B, q ∈ A) ∧ H' D2 = some (.lst (B.map fun q => V.ref q.1))) ⟨Same.upd nD2, [], rfl, (fun _ h => nomatch h), upd_same⟩ (fun i H' _ q => SqL.of (q.1 _ _ hl2)) ?_ ?_
      · rintro i v H3 H4 hi ⟨S3, B, b1, b2, hD2⟩ ⟨rfl, hxi⟩
        rw [List.length_map] at hi hxi
        have hr : (wk.map V.str).reverse[i]? = some v := by
          rw [List.getElem?_reverse (by rw [List.length_map]; exact hi), List.length_map]
          exact hxi
        rw [← List.map_reverse, List.getElem?_map] at hr
        obtain ⟨n, hn, rfl⟩ := Option.map_eq_some_iff.mp hr
        have nm : n ∈ A.map (·.2.1) := by
          rw [zn]
          exact pm.mem_iff.mp (List.mem_reverse.mp (List.mem_of_getElem? hn))
        obtain ⟨q, q1, q2, q3⟩ := valV_kvR nm
        have bl : B.length ≤ 16 := by
          have := congrArg List.length b1
          rw [List.length_map, List.length_take, List.length_reverse] at this
          omega
        refine ⟨rfl, iteT (B := False) ⟨_, rfl, _, rfl, D, _, rfl, by rw [← q3]; exact DGet.k (k := Sum.inr n) (S3 _ _ hD), _, hD2, ?_, ?_, B ++ [q], ?_, fun r hr => ?_, ?_⟩⟩
        · rw [List.length_map, sizeLine_eq]; omega
        · intro c o ec
          rw [upd_ne (ne_of_none ec nD2)]
          exact S3 _ _ ec
        · rw [List.map_append, b1, take_snoc hn, List.map_cons, List.map_nil, q2]
        · rcases List.mem_append.mp hr with h | h
          · exact b2 r h
          · rw [List.mem_singleton.mp h]; exact q1
        · rw [upd_same, List.map_append, List.map_cons, List.map_nil]
      · rintro H3 ⟨S3, B, b1, b2, hD2⟩
        rw [List.length_map, ← List.length_reverse, List.take_length] at b1
        exact k H3 D2 B (S02.trans S3) ((S02).free nD2) hD2 ⟨b1, fun q hq => ⟨(hin q (b2 q hq)).1.same (S2.trans S3), (hin q (b2 q hq)).2⟩⟩
end
end E4

set_option Elab.async false
set_option linter.all false
set_option maxRecDepth 100000
set_option maxHeartbeats 1000000
/-! sums and products of forms as functions (beside the plain family) -/
namespace L2
open PySem PySem.Spec PyProof.Rows
def mulT (xy : (MonR × Rat) × (MonR × Rat)) : MonR × Rat := (sortT (xy.1.1 ++ xy.2.1), xy.1.2 * xy.2.2)
theorem MulT.eq {z : MonR × Rat} {xy : (MonR × Rat) × (MonR × Rat)} (h : MulT z xy) : z = mulT xy := Prod.ext (sortT_one h.1 h.2.1) h.2.2
theorem mulT_list {l : Fm} {ps : List ((MonR × Rat) × (MonR × Rat))} (h : Paired MulT l ps) : l = ps.map mulT := by
  induction h with
  | nil => rfl
  | cons r t ih => rw [List.map_cons, ← ih, r.eq]
/-- a + b, a * b -/
def addF (a b : Fm) : Fm := mapM (fun q => !decide (q = 0)) id (addTo a b)
def mulF (a b : Fm) : Fm := mapM (fun q => !decide (q = 0)) id (addTo [] ((allP a b).map mulT))
end L2

set_option Elab.async false
set_option linter.all false
set_option maxRecDepth 100000
set_option maxHeartbeats 1000000
/-! forms as polynomials: sums over terms, the ring -/
namespace L2
open PySem PySem.Spec PyProof.Rows
/-- the sum of the coefficients, each times what f says of its sorted letters -/
def pr (f : MonR → Rat) : Fm → Rat
  | [] => 0
  | x :: r => x.2 * f (sortT x.1) + pr f r
theorem pr_append (f : MonR → Rat) : ∀ (a b : Fm), pr f (a ++ b) = pr f a + pr f b
  | [], b => by show pr f b = 0 + pr f b; grind
  | x :: a, b => by
    show x.2 * _ + pr f (a ++ b) = x.2 * _ + pr f a + pr f b
    rw [pr_append f a b]
    grind
theorem pr_mapM (f : MonR → Rat) {p : Rat → Bool} (hp : ∀ q, p q = false → q = 0) : ∀ fm : Fm, pr f (mapM p id fm) = pr f fm
  | [] => rfl
  | x :: r => by
    have ih := pr_mapM f hp r
    unfold mapM at ih ⊢
    rw [List.filter_cons]
    by_cases c : p x.2 = true
    · rw [if_pos c]
      show x.2 * _ + pr f _ = x.2 * _ + pr f r
      rw [ih]
    · rw [if_neg c, ih]
      show pr f r = x.2 * _ + pr f r
      rw [hp x.2 (by simpa using c)]
      grind
theorem pr_neg (f : MonR → Rat) : ∀ fm : Fm, pr f (mapM (fun _ => true) (fun q => -q) fm) = -pr f fm
  | [] => by show (0 : Rat) = -0; grind
  | x :: r => by
    have ih := pr_neg f r
    unfold mapM at ih ⊢
    rw [List.filter_cons, if_pos rfl]
    show -x.2 * _ + pr f _ = -(x.2 * _ + pr f r)
    rw [ih]
    grind
theorem pr_putM (f : MonR → Rat) (m : MonR) (c : Rat) : ∀ fm : Fm, (fm.map (·.1)).Nodup → pr f (putM fm m ((valM fm m).getD 0 + c)) = pr f fm + c * f (sortT m)
  | [], _ => by
    show (0 + c) * _ + 0 = 0 + c * _
    grind
  | x :: r, h => by
    rw [List.map_cons] at h
    obtain ⟨h1, h2⟩ := List.nodup_cons.mp h
    by_cases e : x.1 = m
    · rw [valM_hit e, putM_hit e (by rw [← e]; exact h1), Option.getD_some]
      show (x.2 + c) * _ + pr f r = x.2 * f (sortT x.1) + pr f r + c * _
      rw [e]
      grind
    · rw [valM_miss e, putM_miss e]
      show x.2 * _ + pr f _ = x.2 * _ + pr f r + c * _
      rw [pr_putM f m c r h2]
      grind
theorem pr_addTo (f : MonR → Rat) : ∀ (l acc : Fm), (acc.map (·.1)).Nodup → pr f (addTo acc l) = pr f acc + pr f l
  | [], acc, _ => by show pr f acc = pr f acc + 0; grind
  | x :: l, acc, h => by
    show pr f (addTo (add1 acc x) l) = pr f acc + (x.2 * _ + pr f l)
    rw [pr_addTo f l (add1 acc x) (nodup_putM _ _ _ h)]
    unfold add1
    rw [pr_putM f x.1 x.2 acc h]
    grind
theorem nzP : ∀ q : Rat, (!decide (q = 0)) = false → q = 0 := fun q h => by simpa using h
theorem pr_addF (f : MonR → Rat) {a b : Fm} (h : (a.map (·.1)).Nodup) : pr f (addF a b) = pr f a + pr f b := by
  unfold addF
  rw [pr_mapM f nzP, pr_addTo f b a h]
/-! sorted lists of letters: a commutative monoid -/
theorem sortT_sorted {l : List Str} (h : List.Pairwise (fun a b => leT a b = true) l) : sortT l = l :=
  (List.Perm.eq_of_pairwise (le := fun a b => leT a b = true) (fun _ _ _ _ => leT_anti) h (sortT_pw l) (sortT_perm l).symm).symm
theorem sortT_of_perm {l m : List Str} (h : l.Perm m) : sortT l = sortT m :=
  List.Perm.eq_of_pairwise (le := fun a b => leT a b = true) (fun _ _ _ _ => leT_anti) (sortT_pw l) (sortT_pw m) ((sortT_perm l).trans (h.trans (sortT_perm m).symm))
theorem sortT_idem (l : List Str) : sortT (sortT l) = sortT l := sortT_sorted (sortT_pw l)
/-- products, the letters sorted -/
theorem pr_row (f : MonR → Rat) (x : MonR × Rat) : ∀ b : Fm, pr f ((b.map fun y => (x, y)).map mulT) = x.2 * pr (fun n => f (sortT (x.1 ++ n))) b
  | [] => by show (0 : Rat) = _ * 0; grind
  | y :: b => by
    have ih := pr_row f x b
    rw [List.map_cons, List.map_cons]
    show x.2 * y.2 * f (sortT (sortT (x.1 ++ y.1))) + pr f _ = x.2 * (y.2 * f (sortT (x.1 ++ sortT y.1)) + pr _ b)
    rw [ih, sortT_idem, sortT_of_perm (List.Perm.append (List.Perm.refl x.1) (sortT_perm y.1))]
    grind
theorem pr_all (f : MonR → Rat) (b : Fm) : ∀ a : Fm, pr f ((allP a b).map mulT) = pr (fun m => pr (fun n => f (sortT (m ++ n))) b) a
  | [] => rfl
  | x :: a => by
    have ih := pr_all f b a
    unfold allP at ih ⊢
    rw [List.flatMap_cons, List.map_append, pr_append, ih, pr_row]
    show _ = x.2 * pr (fun n => f (sortT (sortT x.1 ++ n))) b + _
    have e : (fun n => f (sortT (sortT x.1 ++ n))) = fun n => f (sortT (x.1 ++ n)) := by
      funext n
      rw [sortT_of_perm (List.Perm.append (sortT_perm x.1) (List.Perm.refl n))]
    rw [e]
theorem pr_mulF (f : MonR → Rat) (a b : Fm) : pr f (mulF a b) = pr (fun m => pr (fun n => f (sortT (m ++ n))) b) a := by
  unfold mulF
  rw [pr_mapM f nzP, pr_addTo f _ [] List.nodup_nil, pr_all]
  show 0 + _ = _
  grind
theorem pr_congr {f g : MonR → Rat} (h : ∀ m, f (sortT m) = g (sortT m)) : ∀ a : Fm, pr f a = pr g a
  | [] => rfl
  | x :: a => by
    show x.2 * f (sortT x.1) + pr f a = x.2 * g (sortT x.1) + pr g a
    rw [h, pr_congr h a]
theorem pr_add (f g : MonR → Rat) : ∀ a : Fm, pr (fun m => f m + g m) a = pr f a + pr g a
  | [] => by show (0 : Rat) = 0 + 0; grind
  | x :: a => by
    have ih := pr_add f g a
    show x.2 * (f _ + g _) + pr _ a = x.2 * f _ + pr f a + (x.2 * g _ + pr g a)
    rw [ih]
    grind
theorem pr_mulc (c : Rat) (f : MonR → Rat) : ∀ a : Fm, pr (fun m => c * f m) a = c * pr f a
  | [] => by show (0 : Rat) = c * 0; grind
  | x :: a => by
    have ih := pr_mulc c f a
    show x.2 * (c * f _) + pr _ a = c * (x.2 * f _ + pr f a)
    rw [ih]
    grind
theorem pr_zero (f : MonR → Rat) (h : ∀ m, f m = 0) : ∀ a : Fm, pr f a = 0
  | [] => rfl
  | x :: a => by
    show x.2 * f _ + pr f a = 0
    rw [h, pr_zero f h a]
    grind
theorem pr_swap (F : MonR → MonR → Rat) (b : Fm) : ∀ a : Fm, pr (fun m => pr (fun n => F m n) b) a = pr (fun n => pr (fun m => F m n) a) b
  | [] => by
    show 0 = pr (fun _ => (0 : Rat)) b
    rw [pr_zero _ (fun _ => rfl)]
  | x :: a => by
    have ih := pr_swap F b a
    show x.2 * pr (fun n => F (sortT x.1) n) b + pr _ a = pr (fun n => x.2 * F (sortT x.1) n + pr (fun m => F m n) a) b
    rw [pr_add, pr_mulc, ih]
/-- the same polynomial -/
def Peq (a b : Fm) : Prop := ∀ f, pr f a = pr f b
theorem Peq.refl (a : Fm) : Peq a a := fun _ => rfl
theorem Peq.symm {a b : Fm} (h : Peq a b) : Peq b a := fun f => (h f).symm
theorem Peq.trans {a b c : Fm} (h : Peq a b) (k : Peq b c) : Peq a c := fun f => (h f).trans (k f)
instance polS : Setoid Fm := ⟨Peq, Peq.refl, Peq.symm, Peq.trans⟩
def Pol : Type := Quotient polS
def mulL (a b : Fm) : Fm := (allP a b).map mulT
def sclL (c : Rat) (a : Fm) : Fm := a.map fun x => (x.1, c * x.2)
theorem pr_sclL (c : Rat) (f : MonR → Rat) : ∀ a : Fm, pr f (sclL c a) = c * pr f a
  | [] => by show (0 : Rat) = c * 0; grind
  | x :: a => by
    have ih := pr_sclL c f a
    show c * x.2 * f _ + pr f (sclL c a) = c * (x.2 * f _ + pr f a)
    rw [ih]
    grind
theorem peq_app {a a' b b' : Fm} (h : Peq a a') (k : Peq b b') : Peq (a ++ b) (a' ++ b') := fun f => by rw [pr_append, pr_append, h f, k f]
theorem peq_mul {a a' b b' : Fm} (h : Peq a a') (k : Peq b b') : Peq (mulL a b) (mulL a' b') := fun f => by
  unfold mulL
  rw [pr_all, pr_all, h]
  exact pr_congr (fun m => k _) a'
theorem peq_scl {a a' : Fm} (c : Rat) (h : Peq a a') : Peq (sclL c a) (sclL c a') := fun f => by rw [pr_sclL, pr_sclL, h f]
theorem mulL_comm (a b : Fm) : Peq (mulL a b) (mulL b a) := fun f => by
  unfold mulL
  rw [pr_all, pr_all, pr_swap]
  refine pr_congr (fun m => ?_) b
  refine pr_congr (fun n => ?_) a
  rw [sortT_of_perm List.perm_append_comm]
theorem mulL_assoc (a b c : Fm) : Peq (mulL (mulL a b) c) (mulL a (mulL b c)) := fun f => by
  show pr f ((allP ((allP a b).map mulT) c).map mulT) = pr f ((allP a ((allP b c).map mulT)).map mulT)
  rw [pr_all, pr_all, pr_all]
  refine pr_congr (fun m => ?_) a
  rw [pr_all]
  refine pr_congr (fun n => ?_) b
  refine pr_congr (fun k => ?_) c
  rw [sortT_of_perm (List.Perm.append (sortT_perm _) (List.Perm.refl _)), sortT_of_perm (List.Perm.append (List.Perm.refl (sortT m)) (sortT_perm _)), List.append_assoc]
theorem mulL_add (a b c : Fm) : Peq (mulL a (b ++ c)) (mulL a b ++ mulL a c) := fun f => by
  rw [pr_append]
  unfold mulL
  rw [pr_all, pr_all, pr_all, ← pr_add]
  exact pr_congr (fun m => pr_append _ _ _) a
theorem mulL_one (a : Fm) : Peq (mulL a [([], 1)]) a := fun f => by
  unfold mulL
  rw [pr_all]
  refine pr_congr (fun m => ?_) a
  show 1 * f (sortT (sortT m ++ [])) + 0 = f (sortT m)
  rw [List.append_nil, sortT_idem]
  grind
end L2

set_option Elab.async false
set_option linter.all false
set_option maxRecDepth 100000
set_option maxHeartbeats 1000000
/-! the ring of polynomials; forms as its elements; == -/
namespace L2
open PySem PySem.Spec PyProof.Rows
def pol (a : Fm) : Pol := Quotient.mk polS a
theorem pol_eq {a b : Fm} (h : Peq a b) : pol a = pol b := Quotient.sound h
theorem pol_peq {a b : Fm} (h : pol a = pol b) : Peq a b := Quotient.exact h
def cst (q : Rat) : Pol := pol [([], q)]
theorem pr_one (f : MonR → Rat) (m : MonR) (q : Rat) : pr f [(m, q)] = q * f (sortT m) := by
  show q * f (sortT m) + 0 = _
  grind
theorem sortT_nil : sortT ([] : List Str) = [] := rfl
theorem mulL_cst (q : Rat) (a : Fm) : Peq (mulL [([], q)] a) (sclL q a) := fun f => by
  unfold mulL
  rw [pr_all, pr_sclL, pr_one]
  congr 1
  refine pr_congr (fun m => ?_) a
  rw [sortT_nil, List.nil_append, sortT_idem]
instance : Add Pol := ⟨Quotient.lift₂ (fun a b => pol (a ++ b)) fun _ _ _ _ h k => pol_eq (peq_app h k)⟩
instance : Mul Pol := ⟨Quotient.lift₂ (fun a b => pol (mulL a b)) fun _ _ _ _ h k => pol_eq (peq_mul h k)⟩
instance : Neg Pol := ⟨Quotient.lift (fun a => pol (sclL (-1) a)) fun _ _ h => pol_eq (peq_scl (-1) h)⟩
instance : _root_.Sub Pol := ⟨fun a b => a + -b⟩
instance : NatCast Pol := ⟨fun n => cst (n : Rat)⟩
instance : IntCast Pol := ⟨fun n => cst (n : Rat)⟩
instance (n : Nat) : OfNat Pol n := ⟨cst (n : Rat)⟩
instance : SMul Nat Pol := ⟨fun n a => cst (n : Rat) * a⟩
instance : SMul Int Pol := ⟨fun n a => cst (n : Rat) * a⟩
def powP (a : Pol) : Nat → Pol
  | 0 => cst 1
  | n + 1 => powP a n * a
instance : HPow Pol Nat Pol := ⟨powP⟩
theorem pol_app (a b : Fm) : pol (a ++ b) = pol a + pol b := rfl
theorem pol_scl (q : Rat) (a : Fm) : pol (sclL q a) = cst q * pol a := (pol_eq (mulL_cst q a)).symm
theorem pol_neg1 (a : Fm) : -pol a = cst (-1) * pol a := pol_scl (-1) a
theorem cst_add (p q : Rat) : cst (p + q) = cst p + cst q := pol_eq fun f => by
  rw [pr_append, pr_one, pr_one, pr_one]
  grind
theorem cst_mul (p q : Rat) : cst (p * q) = cst p * cst q := pol_eq fun f => by
  show pr f _ = pr f ((allP _ _).map mulT)
  rw [pr_all, pr_one, pr_one, pr_one]
  rw [sortT_nil, List.nil_append, sortT_nil]
  grind
theorem cst_zero : cst 0 = pol [] := pol_eq fun f => by
  rw [pr_one]
  show 0 * _ = (0 : Rat)
  grind
theorem neg_cst (q : Rat) : -cst q = cst (-q) := by
  show -pol _ = _
  rw [pol_neg1]
  show cst (-1) * cst q = _
  rw [← cst_mul]
  congr 1
  grind
theorem zero_def : (0 : Pol) = cst 0 := rfl
theorem one_def : (1 : Pol) = cst 1 := rfl
theorem padd_comm (a b : Pol) : a + b = b + a := Quotient.inductionOn₂ a b fun a b => pol_eq fun f => by
  rw [pr_append, pr_append]
  grind
theorem padd_assoc (a b c : Pol) : a + b + c = a + (b + c) := Quotient.inductionOn₃ a b c fun a b c => by
  show pol (a ++ b ++ c) = pol (a ++ (b ++ c))
  rw [List.append_assoc]
theorem padd_zero (a : Pol) : a + 0 = a := Quotient.inductionOn a fun a => by
  show pol a + cst 0 = pol a
  rw [cst_zero, ← pol_app, List.append_nil]
theorem pmul_comm (a b : Pol) : a * b = b * a := Quotient.inductionOn₂ a b fun a b => pol_eq (mulL_comm a b)
theorem pmul_assoc (a b c : Pol) : a * b * c = a * (b * c) := Quotient.inductionOn₃ a b c fun a b c => pol_eq (mulL_assoc a b c)
theorem pmul_one (a : Pol) : a * 1 = a := Quotient.inductionOn a fun a => pol_eq (mulL_one a)
theorem pdistrib (a b c : Pol) : a * (b + c) = a * b + a * c := Quotient.inductionOn₃ a b c fun a b c => pol_eq (mulL_add a b c)
theorem pmul_zero (a : Pol) : a * 0 = 0 := by
  rw [pmul_comm]
  refine Quotient.inductionOn a fun a => ?_
  show cst 0 * pol a = cst 0
  rw [cst_zero]
  rfl
instance : Lean.Grind.CommRing Pol where
  add_zero := padd_zero
  add_comm := padd_comm
  add_assoc := padd_assoc
  mul_assoc := pmul_assoc
  mul_comm := pmul_comm
  mul_one := pmul_one
  one_mul a := by rw [pmul_comm, pmul_one]
  left_distrib := pdistrib
  right_distrib a b c := by rw [pmul_comm, pdistrib, pmul_comm c, pmul_comm c]
  zero_mul a := by rw [pmul_comm, pmul_zero]
  mul_zero := pmul_zero
  pow_zero _ := rfl
  pow_succ _ _ := rfl
  ofNat_succ n := by
    show cst ((n + 1 : Nat) : Rat) = cst (n : Rat) + cst 1
    rw [← cst_add, Rat.natCast_add]
    rfl
  neg_add_cancel a := by
    refine Quotient.inductionOn a fun a => ?_
    show -pol a + pol a = cst 0
    rw [cst_zero]
    refine pol_eq fun f => ?_
    show pr f (sclL (-1) a ++ a) = 0
    rw [pr_append, pr_sclL]
    grind
  sub_eq_add_neg _ _ := rfl
  neg_zsmul i a := by
    show cst ((-i : Int) : Rat) * a = -(cst (i : Rat) * a)
    rw [Rat.intCast_neg]
    refine Quotient.inductionOn a fun a => ?_
    show cst (-(i : Rat)) * pol a = -(cst (i : Rat) * pol a)
    rw [← pol_scl, ← pol_scl]
    refine pol_eq fun f => ?_
    show _ = pr f (sclL (-1) (sclL _ a))
    rw [pr_sclL, pr_sclL, pr_sclL]
    grind
  zsmul_natCast_eq_nsmul n a := by
    show cst (((n : Int)) : Rat) * a = cst (n : Rat) * a
    rw [Rat.intCast_natCast]
  intCast_ofNat n := by
    show cst ((((OfNat.ofNat n : Nat) : Int)) : Rat) = cst (n : Rat)
    rfl
  intCast_neg i := by
    show cst ((-i : Int) : Rat) = -cst (i : Rat)
    rw [neg_cst, Rat.intCast_neg]
example (a b : Pol) : (a - b) * (a + b) = a * a - b * b := by grind
/-- the forms' operations -/
theorem pol_addF {a b : Fm} (h : (a.map (·.1)).Nodup) : pol (addF a b) = pol a + pol b := pol_eq fun f => by rw [pr_addF f h, pr_append]
theorem pol_mulF (a b : Fm) : pol (mulF a b) = pol a * pol b := pol_eq fun f => by
  show _ = pr f (mulL a b)
  rw [pr_mulF]
  unfold mulL
  rw [pr_all]
theorem pol_negM (a : Fm) : pol (mapM (fun _ => true) (fun q => -q) a) = -pol a := pol_eq fun f => by
  show _ = pr f (sclL (-1) a)
  rw [pr_neg, pr_sclL]
  grind
end L2

set_option Elab.async false
set_option linter.all false
set_option maxRecDepth 100000
set_option maxHeartbeats 1000000
/-! two forms are equal dicts exactly if they are the same polynomial -/
namespace L2
open PySem PySem.Spec PyProof.Rows
structure Canon (a : Fm) : Prop where
  nd : (a.map (·.1)).Nodup
  so : ∀ x ∈ a, sortT x.1 = x.1
  nz : ∀ x ∈ a, x.2 ≠ 0
def dlt (m : MonR) : MonR → Rat := fun k => if k = m then 1 else 0
theorem valM_none {a : Fm} {m : MonR} (h : m ∉ a.map (·.1)) : valM a m = none := by
  induction a with
  | nil => rfl
  | cons x r ih =>
    rw [List.map_cons] at h
    rw [valM_miss fun e => h (List.mem_cons.mpr (.inl e.symm)), ih fun z => h (List.mem_cons.mpr (.inr z))]
theorem valM_of_mem : ∀ {a : Fm}, (a.map (·.1)).Nodup → ∀ x ∈ a, valM a x.1 = some x.2
  | [], _, x, h => absurd h List.not_mem_nil
  | y :: r, hn, x, h => by
    rw [List.map_cons] at hn
    obtain ⟨h1, h2⟩ := List.nodup_cons.mp hn
    rcases List.mem_cons.mp h with rfl | h
    · exact valM_hit rfl
    · rw [valM_miss fun e => h1 (by rw [e]; exact List.mem_map.mpr ⟨x, h, rfl⟩), valM_of_mem h2 x h]
theorem pr_dlt (m : MonR) : ∀ a : Fm, (a.map (·.1)).Nodup → (∀ x ∈ a, sortT x.1 = x.1) → pr (dlt m) a = (valM a m).getD 0
  | [], _, _ => rfl
  | x :: r, hn, so => by
    rw [List.map_cons] at hn
    obtain ⟨h1, h2⟩ := List.nodup_cons.mp hn
    have ih := pr_dlt m r h2 fun y hy => so y (List.mem_cons.mpr (.inr hy))
    show x.2 * dlt m (sortT x.1) + pr (dlt m) r = _
    rw [so x List.mem_cons_self, ih]
    unfold dlt
    by_cases e : x.1 = m
    · rw [valM_hit e, if_pos e, valM_none (by rw [← e]; exact h1)]
      show x.2 * 1 + 0 = x.2
      grind
    · rw [valM_miss e, if_neg e]
      grind
theorem valM_nz {a : Fm} (c : Canon a) (m : MonR) : (valM a m = none ∧ m ∉ a.map (·.1)) ∨ ∃ q, valM a m = some q ∧ q ≠ 0 ∧ m ∈ a.map (·.1) := by
  by_cases h : m ∈ a.map (·.1)
  · obtain ⟨x, hx, rfl⟩ := List.mem_map.mp h
    exact .inr ⟨x.2, valM_of_mem c.nd x hx, c.nz x hx, h⟩
  · exact .inl ⟨valM_none h, h⟩
theorem valM_same {a b : Fm} (ca : Canon a) (cb : Canon b) (h : pol a = pol b) (m : MonR) : valM a m = valM b m := by
  have e := pol_peq h (dlt m)
  rw [pr_dlt m a ca.nd ca.so, pr_dlt m b cb.nd cb.so] at e
  rcases valM_nz ca m with ⟨h1, _⟩ | ⟨p, h1, n1, _⟩ <;> rcases valM_nz cb m with ⟨h2, _⟩ | ⟨q, h2, n2, _⟩
  · rw [h1, h2]
  · rw [h1, h2] at e
    exact absurd e.symm n2
  · rw [h1, h2] at e
    exact absurd e n1
  · rw [h1, h2] at e
    rw [h1, h2]
    exact congrArg some e
theorem eqFm_of_pol {a b : Fm} (ca : Canon a) (cb : Canon b) (h : pol a = pol b) : eqFm a b = true := by
  have hv := valM_same ca cb h
  have hp : (a.map (·.1)).Perm (b.map (·.1)) := (List.perm_ext_iff_of_nodup ca.nd cb.nd).mpr fun m => by
    rcases valM_nz ca m with ⟨h1, n1⟩ | ⟨p, h1, _, m1⟩ <;> rcases valM_nz cb m with ⟨h2, n2⟩ | ⟨q, h2, _, m2⟩
    · exact ⟨fun z => absurd z n1, fun z => absurd z n2⟩
    · rw [hv m, h2] at h1; cases h1
    · rw [hv m, h2] at h1; cases h1
    · exact ⟨fun _ => m2, fun _ => m1⟩
  unfold eqFm
  rw [Bool.and_eq_true]
  refine ⟨?_, List.all_eq_true.mpr fun x _ => decide_eq_true (hv x.1).symm⟩
  have := hp.length_eq
  rw [List.length_map, List.length_map] at this
  rw [this]
  exact beq_self_eq_true _
theorem canon_nz {l : Fm} (nd : (l.map (·.1)).Nodup) (so : ∀ n ∈ l.map (·.1), sortT n = n) : Canon (mapM (fun q => !decide (q = 0)) id l) := by
  refine ⟨mapM_nodup nd, fun x hx => ?_, fun x hx => ?_⟩
  · exact so _ (mapM_keys (List.mem_map.mpr ⟨x, hx, rfl⟩))
  · unfold mapM at hx
    obtain ⟨y, hy, rfl⟩ := List.mem_map.mp hx
    have := (List.mem_filter.mp hy).2
    simpa using this
theorem canon_addF {a b : Fm} (ca : Canon a) (cb : Canon b) : Canon (addF a b) := by
  refine canon_nz (nodup_addTo b a ca.nd) fun n hn => ?_
  rcases keys_addTo b a n hn with h | h
  · obtain ⟨x, hx, rfl⟩ := List.mem_map.mp h
    exact ca.so x hx
  · obtain ⟨x, hx, rfl⟩ := List.mem_map.mp h
    exact cb.so x hx
theorem canon_mulF (a b : Fm) : Canon (mulF a b) := by
  refine canon_nz (nodup_addTo _ [] List.nodup_nil) fun n hn => ?_
  rcases keys_addTo _ [] n hn with h | h
  · cases h
  · rw [List.map_map] at h
    obtain ⟨x, _, rfl⟩ := List.mem_map.mp h
    exact sortT_idem _
theorem canon_neg {a : Fm} (ca : Canon a) : Canon (mapM (fun _ => true) (fun q => -q) a) := by
  refine ⟨mapM_nodup ca.nd, fun x hx => ?_, fun x hx => ?_⟩
  · obtain ⟨y, hy, e⟩ := List.mem_map.mp (mapM_keys (List.mem_map.mpr ⟨x, hx, rfl⟩))
    rw [← e]
    exact ca.so y hy
  · unfold mapM at hx
    obtain ⟨y, hy, rfl⟩ := List.mem_map.mp hx
    have h := ca.nz y (List.mem_filter.mp hy).1
    intro z
    exact h (by have : -(-y.2) = 0 := by rw [show -y.2 = 0 from z]; rfl
                rwa [Rat.neg_neg] at this)
end L2

set_option Elab.async false
set_option linter.all false
set_option maxRecDepth 100000
set_option maxHeartbeats 1000000
set_option exponentiation.threshold 500000
/-! sizes of forms without laws' trees: what of FmH3 and LwE speaks of sums alone -/
namespace E2
open PySem PySem.Spec PyProof.Rows L2
theorem keys_mapM {p : Rat → Bool} {f : Rat → Rat} {fm : Fm} {x : MonR × Rat} (h : x ∈ mapM p f fm) : ∃ y ∈ fm, x = (y.1, f y.2) ∧ p y.2 = true := by
  unfold mapM at h
  obtain ⟨y, hy, e⟩ := List.mem_map.mp h
  have := List.mem_filter.mp hy
  exact ⟨y, this.1, e.symm, this.2⟩
theorem mem_addTo_key {acc l : Fm} {x : MonR × Rat} (h : x ∈ addTo acc l) : x.1 ∈ acc.map (·.1) ∨ x.1 ∈ l.map (·.1) := keys_addTo l acc x.1 (List.mem_map.mpr ⟨x, h, rfl⟩)
theorem length_mapM {p : Rat → Bool} {f : Rat → Rat} {fm : Fm} : (mapM p f fm).length ≤ fm.length := by
  unfold mapM
  rw [List.length_map]
  exact List.length_filter_le _ _
abbrev negF (a : Fm) : Fm := mapM (fun _ => true) (fun q => -q) a
theorem canon_nil : Canon [] := ⟨List.nodup_nil, fun _ h => absurd h List.not_mem_nil, fun _ h => absurd h List.not_mem_nil⟩
structure Bd (names : List Str) (fm : Fm) (n L D b : Nat) : Prop where
  can : Canon fm
  len : fm.length ≤ n
  key : ∀ x ∈ fm, x.1.length ≤ L ∧ ∀ z ∈ x.1, z ∈ names
  bq : ∀ x ∈ fm, Bq D (2 ^ b) x.2
structure Ok (n L D b : Nat) : Prop where
  n_ : n ≤ 2000
  l_ : L ≤ 100
  d0 : 0 < D
  d_ : D ≤ 2 ^ 100
  b_ : b ≤ 20000
theorem p2 {a b : Nat} (h : a ≤ b) : 2 ^ a ≤ 2 ^ b := Nat.pow_le_pow_right (by decide) h
section
variable {names : List Str} {f1 f2 fm : Fm} {n n1 n2 L L1 L2 D D1 D2 b b1 b2 : Nat}
theorem Bd.mono {n' L' b' : Nat} (A : Bd names fm n L D b) (hn : n ≤ n') (hL : L ≤ L') (hb : b ≤ b') : Bd names fm n' L' D b' :=
  ⟨A.can, Nat.le_trans A.len hn, fun x hx => ⟨Nat.le_trans (A.key x hx).1 hL, (A.key x hx).2⟩, fun x hx => (A.bq x hx).mono (p2 hb)⟩
theorem Bd.nil : Bd names [] n L D b := ⟨canon_nil, Nat.zero_le _, fun x hx => absurd hx List.not_mem_nil, fun x hx => absurd hx List.not_mem_nil⟩
theorem keys_addF {x : MonR × Rat} (h : x ∈ addF f1 f2) : x.1 ∈ f1.map (·.1) ∨ x.1 ∈ f2.map (·.1) := by
  obtain ⟨y, hy, rfl, _⟩ := keys_mapM h
  exact mem_addTo_key hy
theorem Bd.add {c : Nat} (A : Bd names f1 n1 L D b) (B : Bd names f2 n2 L D b) (hc : 1 + n2 ≤ 2 ^ c) : Bd names (addF f1 f2) (n1 + n2) L D (b + c) := by
  refine ⟨canon_addF A.can B.can, ?_, fun x hx => ?_, fun x hx => ?_⟩
  · exact Nat.le_trans length_mapM (Nat.le_trans (length_addTo _ _) (by have := A.len; have := B.len; omega))
  · rcases keys_addF hx with h | h
    · obtain ⟨y, hy, e⟩ := List.mem_map.mp h
      rw [← e]; exact A.key y hy
    · obtain ⟨y, hy, e⟩ := List.mem_map.mp h
      rw [← e]; exact B.key y hy
  · obtain ⟨y, hy, rfl, _⟩ := keys_mapM hx
    refine (bq_addTo f2 f1 _ A.bq B.bq y hy).mono ?_
    have h1 : 2 ^ b + f2.length * 2 ^ b = (1 + f2.length) * 2 ^ b := by rw [Nat.add_mul, Nat.one_mul]
    rw [h1, Nat.mul_comm, Nat.pow_add]
    exact Nat.mul_le_mul_left _ (Nat.le_trans (by have := B.len; omega) hc)
theorem Bd.neg (A : Bd names fm n L D b) : Bd names (negF fm) n L D b := by
  refine ⟨canon_neg A.can, Nat.le_trans length_mapM A.len, fun x hx => ?_, fun x hx => ?_⟩
  · obtain ⟨y, hy, rfl, _⟩ := keys_mapM hx
    exact A.key y hy
  · obtain ⟨y, hy, rfl, _⟩ := keys_mapM hx
    exact (A.bq y hy).neg
theorem Bd.szs (A : Bd names f1 n1 L1 D1 b1) (B : Bd names f2 n2 L2 D2 b2) (oa : Ok n1 L1 D1 b1) (ob : Ok n2 L2 D2 b2) : Szs f1 f2 := by
  have l1 := A.len
  have l2 := B.len
  have a1 := oa.n_
  have a2 := ob.n_
  have e : (2 : Nat) ^ 20000 * 2 ^ 100 = 2 ^ 20100 := by rw [← Nat.pow_add]
  have m1 : 2 ^ b1 * D2 ≤ 2 ^ 20100 := by rw [← e]; exact Nat.mul_le_mul (p2 oa.b_) ob.d_
  have m2 : 2 ^ b2 * D1 ≤ 2 ^ 20100 := by rw [← e]; exact Nat.mul_le_mul (p2 ob.b_) oa.d_
  refine ⟨A.can.nd, B.can.nd, by rw [sizeLine_eq]; omega, D1 * D2, 2 ^ b1 * D2, 2 ^ b2 * D1, Nat.mul_pos oa.d0 ob.d0, ?_, ?_, ?_, fun x hx => (A.bq x hx).scale, fun x hx => by rw [Nat.mul_comm D1]; exact (B.bq x hx).scale⟩
  · refine Nat.lt_of_le_of_lt (Nat.mul_le_mul oa.d_ ob.d_) ?_
    rw [← Nat.pow_add]
    exact Nat.pow_lt_pow_right (by decide) (by decide)
  · have h1 : f2.length * (2 ^ b2 * D1) ≤ 2 ^ 11 * 2 ^ 20100 := Nat.mul_le_mul (by omega) m2
    rw [← Nat.pow_add] at h1
    have h2 : (2 : Nat) ^ 20100 ≤ 2 ^ 20111 := p2 (by decide)
    have h3 : (2 : Nat) ^ 20112 = 2 * 2 ^ 20111 := Nat.pow_succ'
    have h4 : (2 : Nat) ^ 20112 < 2 ^ 400000 := Nat.pow_lt_pow_right (by decide) (by decide)
    have h5 : (11 + 20100) = 20111 := rfl
    rw [h5] at h1
    generalize (2 : Nat) ^ 20111 = x at *
    omega
  · exact Nat.lt_of_le_of_lt m2 (Nat.pow_lt_pow_right (by decide) (by decide))
end
end E2

set_option Elab.async false
set_option linter.all false
set_option maxRecDepth 100000
set_option maxHeartbeats 1000000
set_option exponentiation.threshold 500000
/-! what jumps tells: mathematics and sizes of its forms -/
namespace E4
open PySem PySem.Spec PyProof.Rows L2
open E2 (Bd spAdd spSub)
abbrev Bw (n b : Nat) (f : Fm) : Prop := Bd L8 f n 40 1 b
theorem own_refs {P : Program} {w : World} {K : PySem.W.Frag} {C : Addr} {H : Hp} {a b : Addr} {fa fb : Fm} (ha : FmAt P w K C H a fa) (hb : FmAt P w K C H b fb) : ∃ dxa fsa dxb fsb, H a = some (.ins C dxa fsa) ∧ H b = some (.ins C dxb fsb) :=
  let ⟨x, _, _, h1, _⟩ := ha
  let ⟨y, _, _, h2, _⟩ := hb
  ⟨x, _, y, _, h1, h2⟩
theorem canon_one (m : List Str) : Canon (oneM m) := by
  refine ⟨show [sortT m].Nodup from List.nodup_cons.mpr ⟨List.not_mem_nil, List.nodup_nil⟩, fun x hx => ?_, fun x hx => ?_⟩
  · rw [List.mem_singleton.mp hx]; exact sortT_idem m
  · rw [List.mem_singleton.mp hx]; show (1 : Rat) ≠ 0; decide
theorem one_bw {m : List Str} (h : ∀ z ∈ m, z ∈ L8) (l : m.length ≤ 40) : Bw 1 0 (oneM m) := by
  refine ⟨canon_one m, Nat.le_refl _, fun x hx => ?_, fun x hx => ?_⟩
  · rw [List.mem_singleton.mp hx]
    exact ⟨by show (sortT m).length ≤ 40; rw [length_sortT]; exact l, fun z hz => h z ((sortT_perm m).mem_iff.mp hz)⟩
  · rw [List.mem_singleton.mp hx]; exact Bq.int (n := 1)
theorem bw_ok {n b : Nat} (hn : n ≤ 2000) (hb : b ≤ 20000) : E2.Ok n 40 1 b := ⟨hn, by decide, by decide, by decide, hb⟩
section
variable {P : Program} {w : World} {K : PySem.W.Frag} {CF : Addr} {H : Hp} {a b : Addr} {fa fb : Fm} {n1 n2 b1 b2 : Nat} {Q : VK}
theorem sub_op (ha : FmAt P w K CF H a fa) (hb : FmAt P w K CF H b fb) (A : Bw n1 b1 fa) (B : Bw n2 b2 fb) (h : n1 ≤ 2000 ∧ n2 ≤ 2000 ∧ b1 ≤ 20000 ∧ b2 ≤ 20000) (k : ∀ H' c, Same H H' → H c = none → FmAt P w K CF H' c (addF fa (E2.negF fb)) → Q (.ref c) H') : rOwn CF (spSub P w K CF) (.ref a) (.ref b) H Q := by
  obtain ⟨dxa, fsa, dxb, fsb, e1, e2⟩ := own_refs ha hb
  exact ⟨a, b, dxa, fsa, dxb, fsb, rfl, rfl, e1, e2, a, .ref b, fa, fb, rfl, ha, .inr ⟨b, rfl, hb⟩, A.szs B.neg (bw_ok h.1 h.2.2.1) (bw_ok h.2.1 h.2.2.2), B.can.nd, by have := B.len; rw [sizeLine_eq]; omega, k⟩
theorem add_op (ha : FmAt P w K CF H a fa) (hb : FmAt P w K CF H b fb) (A : Bw n1 b1 fa) (B : Bw n2 b2 fb) (h : n1 ≤ 2000 ∧ n2 ≤ 2000 ∧ b1 ≤ 20000 ∧ b2 ≤ 20000) (k : ∀ H' c, Same H H' → H c = none → FmAt P w K CF H' c (addF fa fb) → Q (.ref c) H') : rOwn CF (spAdd P w K CF) (.ref a) (.ref b) H Q := by
  obtain ⟨dxa, fsa, dxb, fsb, e1, e2⟩ := own_refs ha hb
  exact ⟨a, b, dxa, fsa, dxb, fsb, rfl, rfl, e1, e2, a, .ref b, fa, fb, rfl, ha, .inr ⟨b, rfl, hb⟩, A.szs B (bw_ok h.1 h.2.2.1) (bw_ok h.2.1 h.2.2.2), k⟩
end
/-- a product of letters, as a polynomial -/
def pm (m : List Str) : Pol := pol (oneM m)
theorem pm_perm {a b : List Str} (h : a.Perm b) : pm a = pm b := by unfold pm oneM; rw [sortT_of_perm' h]
/-- where the sides inside have come to -/
def backP : List Sd → Pol
  | [] => cst 0
  | x :: xs => (pm (x.2.2 ++ x.2.1) + -pm x.2.2) + backP xs
theorem backP_snoc (x : Sd) : ∀ xs : List Sd, backP (xs ++ [x]) = backP xs + pm (x.2.2 ++ x.2.1) + -pm x.2.2
  | [] => by show (pm (x.2.2 ++ x.2.1) + -pm x.2.2) + cst 0 = cst 0 + pm (x.2.2 ++ x.2.1) + -pm x.2.2; rw [← zero_def]; grind
  | y :: ys => by
    have ih := backP_snoc x ys
    show (pm (y.2.2 ++ y.2.1) + -pm y.2.2) + backP (ys ++ [x]) = (pm (y.2.2 ++ y.2.1) + -pm y.2.2) + backP ys + pm (x.2.2 ++ x.2.1) + -pm x.2.2
    rw [ih]
    grind
def aroundL (xs : List Sd) (i : Nat) : List Str := (xs.drop (i + 1)).flatMap (·.2.1)
abbrev Jp := Str × Fm × Fm
structure JOk (xs : List Sd) (i : Nat) (x : Sd) (j : Jp) : Prop where
  nm : j.1 = x.1
  cw : Canon j.2.1
  co : Canon j.2.2
  pw : pol j.2.1 = pm x.2.2 + -backP (xs.take i)
  po : pol j.2.2 = pm (aroundL xs i ++ x.2.1) + -pm (aroundL xs i)
def JsOk (xs : List Sd) (js : List Jp) : Prop := js.length = xs.length ∧ ∀ (i : Nat) x j, xs[i]? = some x → js[i]? = some j → JOk xs i x j
def JpAt (P : Program) (w : World) (K : PySem.W.Frag) (CF : Addr) (H : Hp) (t : Addr) (j : Jp) : Prop := ∃ a b, H t = some (.tup [.str j.1, .ref a, .ref b]) ∧ FmAt P w K CF H a j.2.1 ∧ FmAt P w K CF H b j.2.2
theorem JpAt.same {P : Program} {w : World} {K : PySem.W.Frag} {CF : Addr} {H H' : Hp} {t : Addr} {j : Jp} (h : JpAt P w K CF H t j) (S : Same H H') : JpAt P w K CF H' t j := let ⟨a, b, h1, h2, h3⟩ := h; ⟨a, b, S _ _ h1, h2.same S, h3.same S⟩
theorem pol_sub {a b : Fm} (ca : Canon a) (cb : Canon b) : pol (addF a (E2.negF b)) = pol a + -pol b := by
  rw [pol_addF ca.nd, show pol (E2.negF b) = -pol b from pol_negM b]
theorem around_len {xs : List Sd} (ok : ∀ x ∈ xs, RowOk x) (l : xs.length ≤ 8) (i : Nat) : (aroundL xs i).length ≤ 24 ∧ ∀ z ∈ aroundL xs i, z ∈ L8 := by
  have g : ∀ ys : List Sd, (∀ x ∈ ys, RowOk x) → (ys.flatMap (·.2.1)).length ≤ 3 * ys.length := by
    intro ys h
    induction ys with
    | nil => exact Nat.le_refl _
    | cons y ys ih =>
      have i1 := ih fun x hx => h x (List.mem_cons_of_mem _ hx)
      have i2 := (h y List.mem_cons_self).2.2.1
      rw [List.flatMap_cons, List.length_append, List.length_cons]
      omega
  have hd : ∀ x ∈ xs.drop (i + 1), RowOk x := fun x hx => ok x (List.mem_of_mem_drop hx)
  refine ⟨?_, fun z hz => ?_⟩
  · have := g _ hd
    rw [List.length_drop] at this
    unfold aroundL
    omega
  · obtain ⟨x, hx, h⟩ := List.mem_flatMap.mp hz
    exact (hd x hx).1 z h
end E4

set_option Elab.async false
set_option linter.all false
set_option maxRecDepth 100000
set_option maxHeartbeats 2000000
set_option exponentiation.threshold 500000
/-! jumps -/
namespace E4
open PySem PySem.Spec PyProof.Rows L2
open E2 (Bd spAdd spSub)
open C8 (Cal Mak Met InsC pe_c pe_mt pe_mt0 call_isC clsBody)
abbrev sJumps : Stmt := top 34
def spJumps (P : Program) (w : World) (K : PySem.W.Frag) (C CF : Addr) : Sp := fun vs H Q _ => ∃ (a l : Addr) (wk : List Str) (ss : List Sd), vs = [.ref a, .ref l] ∧ H l = some (.lst (wk.map V.str)) ∧ wk.Perm (ss.map (·.1)) ∧ PlAt C H a ss ∧ SdsOk ss ∧ (∀ x ∈ ss, RowOk x) ∧ ss.length ≤ 8 ∧
  ∀ H' p ts js xs, Same H H' → H p = none → H' p = some (.lst (ts.map V.ref)) → Paired (JpAt P w K CF H') ts js → xs.map (·.1) = wk.reverse → (∀ x ∈ xs, x ∈ ss) → JsOk xs js → Q (.ref p) H'
theorem paired_imp {α β : Type} {R R' : α → β → Prop} {as : List α} {bs : List β} (h : Paired R as bs) (k : ∀ a ∈ as, ∀ b, R a b → R' a b) : Paired R' as bs := by
  induction h with
  | nil => exact .nil
  | cons r t ih => exact .cons (k _ List.mem_cons_self _ r) (ih fun a ha => k a (List.mem_cons_of_mem _ ha))
theorem noTup_lst4 {xs : List V} : NoTup (.lst xs) := ⟨fun _ z => (nomatch z), fun _ _ z => (nomatch z)⟩
theorem fm_sameL {P : Program} {w : World} {K : PySem.W.Frag} {C : Addr} {D : Addr} {H H' : Hp} {b : Addr} {f : Fm} {xs : List V} (h : FmAt P w K C H b f) (S : SameB D H H') (hD : H D = some (.lst xs)) : FmAt P w K C H' b f := by
  obtain ⟨dx, d, kvs, h1, h2, h3⟩ := h
  refine ⟨dx, d, kvs, S _ _ (fun z => ?_) h1, S _ _ (fun z => ?_) h2, h3.imp (.sameB S hD noTup_lst4)⟩
  · rw [z, hD] at h1; cases h1
  · rw [z, hD] at h2; exact absurd (Option.some.inj h2).symm (fun z => nomatch (show HO.ext _ = _ from z))
section
variable {P : Program} {w : World} {K : PySem.W.Frag} {mg : Str → Option Value} {base : Heap} {C CF : Addr}
theorem scJumps : FnScope ["table", "walk", "sides", "found", "back", "at", "name", "size", "step", "around", "side", "part", "often"] ["table", "walk"] (defScope sJumps) := ⟨rfl, rfl, rfl, by decide +kernel, rfl, by decide +kernel, by decide +kernel⟩
theorem ok_jumps {f : Addr} {fd : FuncData} (F : Fun K "jumps" "jumps" sJumps f fd) (hen : mg "enumerate" = none) (Ct : Cal P w K mg base 1 "check_table" (spCheckT C) []) (Cw : Cal P w K mg base 2 "check_walk" (spWalk C) []) (Io : Cal P w K mg base 2 "inside_out" (spInside C) []) (Nu : Cal P w K mg base 3 "number" (E2.spNumber P w K CF) []) (Pf : Cal P w K mg base 3 "product_form" (spProdF P w K CF) [])
    (Ad : E2.OpM P w K mg base 5 CF "__add__" (spAdd P w K CF)) (Su : E2.OpM P w K mg base 6 CF "__sub__" (spSub P w K CF)) : FnOk P w K mg base CX0 7 f fd ["table", "walk"] (spJumps P w K C CF) := by
  obtain ⟨fa, fda, psa, Oa, Fa, ba⟩ := Ad.ex
  obtain ⟨fs, fds, pss_, Os, Fs, bs⟩ := Su.ex
  refine F.ok scJumps (fun vs H Q E h => ?_) (fun cdv A outer s H vs Q E hr h => ?_)
  · obtain ⟨a, l, wk, ss, rfl, _⟩ := h
    rfl
  · obtain ⟨a, l, wk, ss, rfl, hl, pmw, hp, ok, rok, l8, k⟩ := h
    refine ⟨_, pss_cons (ps_expr (pe_c Ct hr (by decide) rfl (pa_cons (pv 0) pa_nil)))
      (pss_cons (ps_expr (pe_c Cw hr (by decide) rfl (pa_cons (pv 1) (pa_cons (pv 0) pa_nil))))
      (pss_cons (ps_set (i := 2) scJumps.nd rfl (Or.inl rfl) (pe_c Io hr (by decide) rfl (pa_cons (pv 0) (pa_cons (pv 1) pa_nil))))
      (pss_cons (ps_set (i := 3) scJumps.nd rfl (Or.inl rfl) (pe_lstS pa_nil))
      (pss_cons (ps_set (i := 4) scJumps.nd rfl (Or.inl rfl) (pe_c Nu hr (by decide) rfl (pa_cons pe_int pa_nil)))
      (pss_cons (ps_for PassesOwn.never rfl (pi_enum (by rfl) hen (pa_cons (pv 2) pa_nil)) (pg_tup rfl (pgs_cons (pg_name (i := 5) scJumps.nd rfl (Or.inl rfl)) (pgs_cons (pg_tup rfl (pgs_cons (pg_name (i := 6) scJumps.nd rfl (Or.inl rfl)) (pgs_cons (pg_name (i := 7) scJumps.nd rfl (Or.inl rfl)) (pgs_cons (pg_name (i := 8) scJumps.nd rfl (Or.inl rfl)) pgs_nil)))) pgs_nil)))
        (pss_cons (ps_setLc2 (i := 9) (own := [("side", 10), ("part", 11)]) (vs1 := [11]) (g := gName 10) (tt := tYes) (wi1 := iList K (tOp (rIxT K) (tVar 10) (tC (.int 1)))) (g1 := gName 11) (tt1 := tYes) (te := tVar 11) rfl scJumps.nd rfl rfl (by rfl)
          (pi_list (pe_slice sl_listS (pv 2) (po_some (pe_op op_add (pv 5) pe_int)) po_none)) (blkOk_by (own := [("side", 10), ("part", 11)]) (N := ["table", "walk", "sides", "found", "back", "at", "name", "size", "step", "around", "side", "part", "often"]) (sc := defScope sJumps) (by decide +kernel)) (by decide)
          (fun _ _ _ _ _ => pg_name (i := 10) scJumps.nd rfl (Or.inl rfl)) (fun _ _ _ _ _ => pts_nil)
          (fun _ _ _ _ _ => by exact pi_list (pe_ix ix_tup (pv 10) pe_int (fun _ _ => rfl))) (fun _ _ _ _ _ => pg_name (i := 11) scJumps.nd rfl (Or.inl rfl)) (fun _ _ _ _ _ => pts_nil) (fun _ _ _ _ _ => pv 11))
        (pss_cons (ps_set (i := 12) scJumps.nd rfl (Or.inl rfl) (pe_op (op_own Os Fs hr bs) (pe_c Pf hr (by decide) rfl (pa_cons (pe_op op_catS (pv 9) (pv 7)) pa_nil)) (pe_c Pf hr (by decide) rfl (pa_cons (pv 9) pa_nil))))
        (pss_cons (ps_expr (pe_bm PySem.F.plainAttrs_list PySem.F.slot_list_append PySem.F.type_list_append mt_append (pv 3) (pa_cons (pe_tupS (pa_cons (pv 6) (pa_cons (pe_op (op_own Os Fs hr bs) (pe_c Pf hr (by decide) rfl (pa_cons (pv 8) pa_nil)) (pv 4)) (pa_cons (pv 12) pa_nil)))) pa_nil)))
        (pss_one (ps_set (i := 4) scJumps.nd rfl (Or.inl rfl) (pe_op (op_own Os Fs hr bs) (pe_op (op_own Oa Fa (hr.mono (by decide)) ba) (pv 4) (pe_c Pf hr (by decide) rfl (pa_cons (pe_op op_catS (pv 8) (pv 7)) pa_nil))) (pe_c Pf hr (by decide) rfl (pa_cons (pv 8) pa_nil)))))))))
      (pss_one (ps_ret (pv 3)))))))), ?_⟩
    obtain ⟨dx, l0, ts0, ha, hl0, hx0⟩ := id hp
    refine ⟨_, rfl, a, dx, _, rfl, ha, ?_⟩
    dsimp only
    refine ⟨_, rfl, _, rfl, l, a, wk, ss, rfl, hl, pmw, hp, ok, fun H1 S1 => ?_⟩
    dsimp only
    refine seq_asg ⟨_, rfl, _, rfl, l, a, wk, ss, rfl, S1 _ _ hl, pmw, hp.same S1, ok, fun H2 sd A S2 nsd hsd inB => ?_⟩
    refine seq_asg ⟨by show 0 ≤ sizeLine; decide, fun fo H3 S3 nfo hfo => ?_⟩
    refine seq_asg ⟨0, rfl, fun H4 ba_ S4 nba hba => ?_⟩
    rw [if_pos rfl] at hba
    have S04 := S1.trans (S2.trans (S3.trans S4))
    obtain ⟨iA, iB⟩ := inB
    let xs : List Sd := A.map (·.2)
    have lA : A.length ≤ 8 := by
      have := congrArg List.length iA
      rw [List.length_map, List.length_reverse, pmw.length_eq, List.length_map] at this
      omega
    have lxs : xs.length = A.length := List.length_map ..
    have rx : ∀ x ∈ xs, RowOk x := fun x hx => by
      obtain ⟨q, hq, rfl⟩ := List.mem_map.mp hx
      exact rok _ (iB q hq).2
    have iA2 : xs.map (·.1) = wk.reverse := by rw [List.map_map]; exact iA
    have iB2 : ∀ x ∈ xs, x ∈ ss := fun x hx => by
      obtain ⟨q, hq, rfl⟩ := List.mem_map.mp hx
      exact (iB q hq).2
    have hA4 : ∀ q ∈ A, SdAt H4 q.1 q.2 := fun q hq => (iB q hq).1.same (S3.trans S4)
    have hsd4 := S4 _ _ (S3 _ _ hsd)
    have hfo4 := S4 _ _ hfo
    have nsf : sd ≠ fo := ne_of_none hsd nfo
    have nfo0 : H fo = none := (S1.trans S2).free nfo
    have off : ∀ {H' : Hp} {u : HO}, Same H4 H' → Same H (upd H' fo u) := fun S c o ec => by
      rw [upd_ne (ne_of_none ec nfo0)]
      exact S _ _ (S04 _ _ ec)
    refine ⟨_, rfl, sd, _, rfl, SqL.of hsd4, for_it (walk_enum (xs := A.map fun q => V.ref q.1)) (fun i σ' H' => ∃ bk fb ts js u5 u6 u7 u8 u9 u10 u11 u12, σ' = [some (.ref a), some (.ref l), some (.ref sd), some (.ref fo), some (.ref bk), u5, u6, u7, u8, u9, u10, u11, u12] ∧ SameB fo H4 H' ∧ H' fo = some (.lst (ts.map V.ref)) ∧ Paired (JpAt P w K CF H') ts js ∧ (∀ t ∈ ts, t ≠ fo) ∧ js.length = i ∧ (∀ (i' : Nat) x j, xs[i']? = some x → js[i']? = some j → JOk xs i' x j) ∧ FmAt P w K CF H' bk fb ∧ Bw (2 * i) (2 * i) fb ∧ pol fb = backP (xs.take i)) ⟨ba_, [], [], [], none, none, none, none, none, none, none, none, rfl, fun _ _ _ e => e, hfo4, .nil, (fun _ h => nomatch h), rfl, (fun i' x j _ h => by simp at h), hba, Bd.nil, cst_zero.symm⟩ (fun i σ' H' _ q => by
        obtain ⟨_, _, _, _, _, _, _, _, _, _, _, _, _, S, _⟩ := q
        exact SqL.of (S _ _ nsf hsd4)) ?_ ?_⟩
    · rintro i v σ' H5 H6 hi ⟨bk, fb, ts, js, u5, u6, u7, u8, u9, u10, u11, u12, rfl, S5, hfo5, hj, hts, lj, jok, hbk, bwb, epb⟩ ⟨T, xv, yv, rfl, nT, rfl, ex, ey⟩
      replace ex : some (V.int (i : Nat)) = some xv := ex
      replace ey : (A.map fun q => V.ref q.1)[i]? = some yv := ey
      obtain rfl := Option.some.inj ex
      rw [List.getElem?_map] at ey
      obtain ⟨q, hq, rfl⟩ := Option.map_eq_some_iff.mp ey
      have hqm := List.mem_of_getElem? hq
      have hi8 : i < A.length := (List.getElem?_eq_some_iff.mp hq).1
      have hxi : xs[i]? = some q.2 := by show (A.map (·.2))[i]? = _; rw [List.getElem?_map, hq]; rfl
      obtain ⟨c1, c2, r0, r1, r2⟩ := (iB q hqm).1
      have n0 : q.1 ≠ fo := ne_of_none r0 nfo
      have n1 : c1 ≠ fo := ne_of_none r1 nfo
      have n2 : c2 ≠ fo := ne_of_none r2 nfo
      obtain ⟨z1, z2, z3, z4⟩ := rx q.2 (List.mem_of_getElem? hxi)
      have S24 := S3.trans S4
      have lift : ∀ {c : Addr} {o : HO}, c ≠ fo → H2 c = some o → H5 c = some o := fun n e => S5 _ _ n (S24 _ _ e)
      have S56 : Same H5 (upd H5 T (.tup [.int (i : Nat), .ref q.1])) := Same.upd nT
      refine ⟨T, _, rfl, SqT.of upd_same, rfl, _, _, rfl, _, _, rfl, q.1, _, rfl, SqT.of (S56 _ _ (lift n0 r0)), rfl, _, _, rfl, _, _, rfl, _, _, rfl, rfl, rfl, ?_⟩
      generalize upd H5 T (.tup [.int (i : Nat), .ref q.1]) = H6 at S56 ⊢
      dsimp only
      refine seq_asg ?_
      refine ⟨_, rfl, _, rfl, (i : Int), 1, rfl, rfl, (i : Int) + 1, rfl, sd, _, rfl, SqL.of (S56 _ _ (lift nsf hsd)), fun p H7 S7 np hp7 => ?_⟩
      have ec : cutV (A.map fun q => V.ref q.1) (some ((i : Int) + 1)) none = (A.drop (i + 1)).map fun q => V.ref q.1 := by
        rw [List.map_drop, ← cut_drop]
        rfl
      rw [ec] at hp7
      have hR : ∀ r ∈ A.drop (i + 1), SdAt H2 r.1 r.2 ∧ RowOk r.2 := fun r hr => ⟨(iB r (List.mem_of_mem_drop hr)).1, rx _ (List.mem_map.mpr ⟨r, List.mem_of_mem_drop hr, rfl⟩)⟩
      have eA : aroundL xs i = (A.drop (i + 1)).flatMap (·.2.2.1) := by
        unfold aroundL
        rw [← List.map_drop, List.flatMap_map]
      have aL := around_len rx (by rw [lxs]; exact lA) i
      rw [eA] at aL
      generalize hRR : A.drop (i + 1) = R at hp7 hR eA aL
      have S57 := S56.trans S7
      refine ⟨p, rfl, ⟨_, SqL.of hp7⟩, fun D nD => ?_⟩
      have kl : ∀ k, ((R.take k).flatMap (·.2.2.1)).length ≤ 24 := fun k => by
        have : ((R.take k).flatMap (·.2.2.1)).length + ((R.drop k).flatMap (·.2.2.1)).length = (R.flatMap (·.2.2.1)).length := by
          rw [← List.length_append, ← List.flatMap_append, List.take_append_drop]
        omega
      refine cl_it (tp := fun σ2 H2 N => tYes σ2 H2 fun b H3 => if b = true then (iList K (tOp (rIxT K) (tVar 10) (tC (.int 1)))) σ2 H3 fun J1 H4 => ∃ W1 : Nat → Nat → Hp → Prop, (∃ m, W1 0 m H4) ∧ ∀ j k H, W1 j k H →
          (J1.stop j H ∧ N H) ∨ (J1.go j H ∧ ∃ Nx1 : Hp → Prop, (∀ H', Nx1 H' → ∃ k', k' < k ∧ W1 (j + 1) k' H') ∧ ∀ x H', J1.yld j H x H' → gName 11 x (wipe σ2 [11]) H' fun σ3 H5 => wipe σ3 [11] = wipe σ2 [11] ∧ tYes σ3 H5 fun b H6 =>
            if b = true then (tVar 11) σ3 H6 fun y H7 => ∃ acc, H7 D = some (.lst acc) ∧ acc.length < sizeLine ∧ Nx1 (upd H7 D (.lst (acc ++ [y]))) else Nx1 H6)
        else N H3) (walk_list (xs := R.map fun q => V.ref q.1)) (fun k H' => Same H7 H' ∧ H' D = some (.lst (((R.take k).flatMap (·.2.2.1)).map V.str))) ⟨Same.upd nD, upd_same⟩ (fun k H' _ q => SqL.of (q.1 _ _ hp7)) ?_ ?_
      · rintro kk v H8 H9 hk ⟨S8, hD⟩ ⟨rfl, hxk⟩
        rw [List.length_map] at hk
        rw [List.getElem?_map] at hxk
        obtain ⟨r, hr_, rfl⟩ := Option.map_eq_some_iff.mp hxk
        obtain ⟨⟨d1, d2, g0, g1, g2⟩, rr⟩ := hR r (List.mem_of_getElem? hr_)
        have m0 : r.1 ≠ fo := ne_of_none g0 nfo
        have m1 : d1 ≠ fo := ne_of_none g1 nfo
        have S58 := S57.trans S8
        have klen2 := kl (kk + 1)
        have e := take_snoc hr_
        rw [e, List.flatMap_append, List.flatMap_cons, List.flatMap_nil, List.append_nil, List.length_append] at klen2
        refine ⟨rfl, iteT (B := False) ?_⟩
        refine ⟨_, rfl, r.1, _, 1, _, rfl, rfl, SqT.of (S58 _ _ (lift m0 g0)), rfl, d1, rfl, ⟨_, SqL.of (S58 _ _ (lift m1 g1))⟩, ?_⟩
        refine cl_it (tp := fun σ3 H5 Nx1 => tYes σ3 H5 fun b H6 => if b = true then (tVar 11) σ3 H6 fun y H7 => ∃ acc, H7 D = some (.lst acc) ∧ acc.length < sizeLine ∧ Nx1 (upd H7 D (.lst (acc ++ [y]))) else Nx1 H6) (walk_list (xs := r.2.2.1.map V.str)) (fun j H' => Same H7 H' ∧ H' D = some (.lst (((R.take kk).flatMap (·.2.2.1) ++ r.2.2.1.take j).map V.str))) ⟨S8, by simpa using hD⟩ (fun j H' _ q => SqL.of (q.1 _ _ (S57 _ _ (lift m1 g1)))) ?_ ?_
        · rintro j v Ha Hb hj' ⟨Sa, hDa⟩ ⟨rfl, hxj⟩
          rw [List.length_map] at hj'
          rw [List.getElem?_map] at hxj
          obtain ⟨z, hz, rfl⟩ := Option.map_eq_some_iff.mp hxj
          refine ⟨rfl, iteT (B := False) ⟨_, rfl, _, hDa, ?_, ?_, ?_⟩⟩
          · rw [List.length_map, List.length_append, List.length_take, sizeLine_eq]
            omega
          · intro c o ec
            rw [upd_ne (ne_of_none ec nD)]
            exact Sa _ _ ec
          · rw [upd_same, take_snoc hz, ← List.append_assoc, List.map_append (l₁ := List.flatMap _ (List.take kk R) ++ List.take j r.2.2.1)]
            rfl
        · rintro Ha ⟨Sa, hDa⟩
          rw [List.length_map, List.take_length] at hDa
          exact ⟨Sa, by rw [e, List.flatMap_append, List.flatMap_cons, List.flatMap_nil, List.append_nil]; exact hDa⟩
      · rintro H8 ⟨S8, hD⟩
        rw [List.length_map, List.take_length, ← eA] at hD
        rw [← eA] at aL
        have S58 := S57.trans S8
        have h7 := S58 _ _ (lift n1 r1)
        have h8 := S58 _ _ (lift n2 r2)
        refine seq_asg ?_
        refine ⟨_, rfl, _, rfl, D, c1, _, _, rfl, rfl, hD, h7, by rw [List.length_map, List.length_map, sizeLine_eq]; omega, fun e H9 S9 ne he => ?_⟩
        refine ⟨e, aroundL xs i ++ q.2.2.1, rfl, by rw [he, List.map_append], by rw [List.length_append]; omega, fun H10 b1 S10 nb1 f1 => ?_⟩
        refine ⟨_, rfl, D, aroundL xs i, rfl, S10 _ _ (S9 _ _ hD), by omega, fun H11 b2 S11 nb2 f2 => ?_⟩
        have la1 : ∀ z ∈ aroundL xs i ++ q.2.2.1, z ∈ L8 := fun z hz => (List.mem_append.mp hz).elim (aL.2 z) (z1 z)
        have B1 : Bw 1 0 (oneM (aroundL xs i ++ q.2.2.1)) := one_bw la1 (by rw [List.length_append]; omega)
        have B2 : Bw 1 0 (oneM (aroundL xs i)) := one_bw aL.2 (by omega)
        refine sub_op (f1.same S11) f2 B1 B2 (by decide) (fun H12 bo S12 nbo fo_ => ?_)
        have S812 := S9.trans (S10.trans (S11.trans S12))
        have S512 := S58.trans S812
        have hfo12 := S512 _ _ hfo5
        refine ⟨_, rfl, .inl ⟨rfl, _, SqL.of hfo12⟩, ?_⟩
        refine ⟨_, rfl, _, rfl, c2, q.2.2.2, rfl, S812 _ _ h8, by omega, fun H13 b3 S13 nb3 f3 => ?_⟩
        have B3 : Bw 1 0 (oneM q.2.2.2) := one_bw z2 (by omega)
        have hbk13 := hbk.same (S512.trans S13)
        refine ⟨_, rfl, sub_op f3 hbk13 B3 bwb ⟨by decide, by omega, by decide, by omega⟩ (fun H14 bw_ S14 nbw fw => ?_)⟩
        refine ⟨_, rfl, by show 3 ≤ sizeLine; decide, fun rw_ H15 S15 n15 h15 => ?_⟩
        have S515 := S512.trans (S13.trans (S14.trans S15))
        have hfo15 := S515 _ _ hfo5
        have lts : ts.length = i := by rw [hj.length]; exact lj
        refine ⟨fo, _, _, rfl, rfl, hfo15, by rw [List.length_map, lts, sizeLine_eq]; omega, ?_⟩
        have nwr : rw_ ≠ fo := (ne_of_none ((S512.trans (S13.trans S14)) _ _ hfo5) n15).symm
        have S1516 : SameB fo H15 (upd H15 fo (.lst (ts.map V.ref ++ [V.ref rw_]))) := fun c o n e => by rw [upd_ne n]; exact e
        have fo16 : (upd H15 fo (.lst (ts.map V.ref ++ [V.ref rw_]))) fo = some (.lst ((ts ++ [rw_]).map V.ref)) := by rw [upd_same, List.map_append]; rfl
        generalize upd H15 fo (.lst (ts.map V.ref ++ [V.ref rw_])) = H16 at S1516 fo16 ⊢
        have h8b := S1516 _ _ n2 (S515 _ _ (lift n2 r2))
        have h7b := S1516 _ _ n1 (S515 _ _ (lift n1 r1))
        have fw16 := fm_sameL (fw.same S15) S1516 hfo15
        have fo16_ := fm_sameL (fo_.same (S13.trans (S14.trans S15))) S1516 hfo15
        have hbk16 := fm_sameL (hbk.same S515) S1516 hfo15
        have hj16 : Paired (JpAt P w K CF H16) (ts ++ [rw_]) (js ++ [(q.2.1, addF (oneM q.2.2.2) (E2.negF fb), addF (oneM (aroundL xs i ++ q.2.2.1)) (E2.negF (oneM (aroundL xs i))))]) := by
          refine paired_snoc ?_ ⟨bw_, bo, S1516 _ _ nwr h15, fw16, fo16_⟩
          refine paired_imp hj fun t ht j ⟨x1, x2, g1, g2, g3⟩ => ⟨x1, x2, S1516 _ _ (hts t ht) (S515 _ _ g1), fm_sameL (g2.same S515) S1516 hfo15, fm_sameL (g3.same S515) S1516 hfo15⟩
        have hts16 : ∀ t ∈ ts ++ [rw_], t ≠ fo := fun t ht => (List.mem_append.mp ht).elim (hts t) fun q => by rw [List.mem_singleton.mp q]; exact nwr
        have jok16 : ∀ (i' : Nat) x j, xs[i']? = some x → (js ++ [(q.2.1, addF (oneM q.2.2.2) (E2.negF fb), addF (oneM (aroundL xs i ++ q.2.2.1)) (E2.negF (oneM (aroundL xs i))))])[i']? = some j → JOk xs i' x j := by
          intro i' x j hx hj'
          by_cases c : i' < js.length
          · rw [List.getElem?_append_left c] at hj'
            exact jok i' x j hx hj'
          · have e1 : i' = i := by
              have := (List.getElem?_eq_some_iff.mp hj').1
              rw [List.length_append, List.length_singleton] at this
              omega
            subst e1
            rw [List.getElem?_append_right (by omega), lj, Nat.sub_self] at hj'
            obtain rfl := Option.some.inj hj'
            rw [hxi] at hx
            obtain rfl := Option.some.inj hx
            refine ⟨rfl, canon_addF B3.can bwb.neg.can, canon_addF B1.can B2.neg.can, ?_, pol_sub B1.can B2.can⟩
            rw [← epb]
            exact pol_sub B3.can bwb.can
        have lb : ∀ z ∈ q.2.2.2 ++ q.2.2.1, z ∈ L8 := fun z hz => (List.mem_append.mp hz).elim (z2 z) (z1 z)
        have B5 : Bw 1 0 (oneM (q.2.2.2 ++ q.2.2.1)) := one_bw lb (by rw [List.length_append]; omega)
        have B6 : Bw (2 * i + 1) (2 * i + 1) (addF fb (oneM (q.2.2.2 ++ q.2.2.1))) := bwb.add (B5.mono (Nat.le_refl _) (Nat.le_refl _) (Nat.zero_le _)) (by decide)
        have B8 : Bw (2 * (i + 1)) (2 * (i + 1)) (addF (addF fb (oneM (q.2.2.2 ++ q.2.2.1))) (E2.negF (oneM q.2.2.2))) := by
          have := B6.add ((B3.neg).mono (Nat.le_refl _) (Nat.le_refl _) (Nat.zero_le (2 * i + 1))) (c := 1) (by decide)
          exact this
        have P8 : pol (addF (addF fb (oneM (q.2.2.2 ++ q.2.2.1))) (E2.negF (oneM q.2.2.2))) = backP (xs.take (i + 1)) := by
          rw [pol_sub B6.can B3.can, pol_addF bwb.can.nd, epb, take_snoc hxi, backP_snoc]
          rfl
        refine ⟨_, rfl, _, rfl, _, rfl, c2, c1, _, _, rfl, rfl, h8b, h7b, by rw [List.length_map, List.length_map, sizeLine_eq]; omega, fun e2 H17 S17 ne2 he2 => ?_⟩
        refine ⟨e2, q.2.2.2 ++ q.2.2.1, rfl, by rw [he2, List.map_append], by rw [List.length_append]; omega, fun H18 b5 S18 n5 f5 => ?_⟩
        refine add_op (hbk16.same (S17.trans S18)) f5 bwb B5 ⟨by omega, by decide, by omega, by decide⟩ (fun H19 b6 S19 n6 f6 => ?_)
        have S1619 := S17.trans (S18.trans S19)
        refine ⟨_, rfl, c2, q.2.2.2, rfl, S1619 _ _ h8b, by omega, fun H20 b7 S20 n7 f7 => ?_⟩
        refine sub_op (f6.same S20) f7 B6 B3 ⟨by omega, by decide, by omega, by decide⟩ (fun H21 b8 S21 n8 f8 => ?_)
        have S1621 := S1619.trans (S20.trans S21)
        exact ⟨b8, _, ts ++ [rw_], js ++ [(q.2.1, addF (oneM q.2.2.2) (E2.negF fb), addF (oneM (aroundL xs i ++ q.2.2.1)) (E2.negF (oneM (aroundL xs i))))], _, _, _, _, _, _, _, _, rfl,
          fun c o n e => S1621 _ _ (S1516 _ _ n (S515 _ _ (S5 _ _ n e))), S1621 _ _ fo16, paired_imp hj16 fun t ht j h => h.same S1621, hts16, by rw [List.length_append, lj]; rfl, jok16, f8, B8, P8⟩
    · rintro σ' H5 ⟨bk, fb, ts, js, u5, u6, u7, u8, u9, u10, u11, u12, rfl, S5, hfo5, hj, hts, lj, jok, hbk, bwb, epb⟩
      rw [List.length_map] at lj
      refine ⟨_, rfl, k H5 fo ts js xs (fun c o ec => S5 _ _ (ne_of_none ec nfo0) (S04 _ _ ec)) nfo0 hfo5 hj iA2 iB2 ⟨by rw [lj, lxs], jok⟩⟩
end
end E4

set_option Elab.async false
set_option linter.all false
set_option maxRecDepth 100000
set_option maxHeartbeats 1000000
set_option exponentiation.threshold 500000
/-! sizes of products of forms -/
namespace E2
open PySem PySem.Spec PyProof.Rows L2
section
variable {names : List Str} {f1 f2 fm : Fm} {n n1 n2 L L1 L2 D D1 D2 b b1 b2 : Nat}
theorem allP_len : (allP f1 f2).length = f1.length * f2.length := allP_length f1 f2
theorem Bd.mulK (A : Bd names f1 n1 L1 D1 b1) (B : Bd names f2 n2 L2 D2 b2) {E M : Nat} (hz : ∀ x ∈ f1, ∀ y ∈ f2, Bq E M (x.2 * y.2)) {c : Nat} (hc : n1 * n2 * M ≤ 2 ^ c) : Bd names (mulF f1 f2) (n1 * n2) (L1 + L2) E c := by
  have ll : ((allP f1 f2).map mulT).length ≤ n1 * n2 := by rw [List.length_map, allP_len]; exact Nat.mul_le_mul A.len B.len
  refine ⟨canon_mulF _ _, ?_, fun x hx => ?_, fun x hx => ?_⟩
  · exact Nat.le_trans length_mapM (Nat.le_trans (length_addTo _ _) (by rw [List.length_nil]; omega))
  · obtain ⟨y, hy, rfl, _⟩ := keys_mapM hx
    rcases mem_addTo_key hy with h | h
    · exact absurd h List.not_mem_nil
    · obtain ⟨z, hz2, e⟩ := List.mem_map.mp h
      obtain ⟨p, hp, rfl⟩ := List.mem_map.mp hz2
      obtain ⟨m1, m2⟩ := mem_allP hp
      have pm : (mulT p).1.Perm (p.1.1 ++ p.2.1) := sortT_perm _
      have k1 := A.key _ m1
      have k2 := B.key _ m2
      show y.1.length ≤ _ ∧ ∀ z ∈ y.1, z ∈ names
      rw [← e]
      refine ⟨by rw [pm.length_eq, List.length_append]; omega, fun x hx => ?_⟩
      rcases List.mem_append.mp (pm.mem_iff.mp hx) with h | h
      · exact k1.2 x h
      · exact k2.2 x h
  · obtain ⟨y, hy, rfl, _⟩ := keys_mapM hx
    have q := bq_addTo (D := E) (N := M) ((allP f1 f2).map mulT) [] 0 (fun y hy => absurd hy List.not_mem_nil) (fun z hz2 => ?_) y hy
    · refine q.mono ?_
      rw [Nat.zero_add]
      exact Nat.le_trans (Nat.mul_le_mul_right _ ll) hc
    · obtain ⟨p, hp, rfl⟩ := List.mem_map.mp hz2
      obtain ⟨m1, m2⟩ := mem_allP hp
      exact hz _ m1 _ m2
theorem Bd.mul {c : Nat} (A : Bd names f1 n1 L1 D1 b1) (B : Bd names f2 n2 L2 D2 b2) (hc : n1 * n2 ≤ 2 ^ c) : Bd names (mulF f1 f2) (n1 * n2) (L1 + L2) (D1 * D2) (b1 + b2 + c) :=
  A.mulK B (fun x hx y hy => (A.bq x hx).mul (B.bq y hy)) (by
    rw [Nat.pow_add, Nat.pow_add, Nat.mul_comm (2 ^ b1 * 2 ^ b2)]
    exact Nat.mul_le_mul_right _ hc)
theorem Bd.szm (A : Bd names f1 n1 L1 D1 b1) (B : Bd names f2 n2 L2 D2 b2) (oa : Ok n1 L1 D1 b1) (ob : Ok n2 L2 D2 b2) : SzM f1 f2 := by
  have l1 := A.len
  have l2 := B.len
  have a1 := oa.n_
  have a2 := ob.n_
  have ll : f1.length * f2.length ≤ 2000 * 2000 := Nat.mul_le_mul (by omega) (by omega)
  have mm : 2 ^ b1 * 2 ^ b2 ≤ 2 ^ 40000 := by rw [← Nat.pow_add]; exact p2 (by have := oa.b_; have := ob.b_; omega)
  refine ⟨A.can.nd, B.can.nd, by rw [sizeLine_eq]; omega, fun x hx y hy => ?_, D1, 2 ^ b1, D2, 2 ^ b2, oa.d0, ob.d0, ?_, ?_, ?_, ?_, ?_, A.bq, B.bq⟩
  · have := (A.key x hx).1
    have := (B.key y hy).1
    have := oa.l_
    have := ob.l_
    rw [sizeLine_eq]
    omega
  · refine Nat.lt_of_le_of_lt (Nat.mul_le_mul oa.d_ ob.d_) ?_
    rw [← Nat.pow_add]
    exact Nat.pow_lt_pow_right (by decide) (by decide)
  · have h1 : f1.length * f2.length * (2 ^ b1 * 2 ^ b2) ≤ 2 ^ 22 * 2 ^ 40000 := Nat.mul_le_mul (Nat.le_trans ll (by decide)) mm
    rw [show (2 : Nat) ^ 22 * 2 ^ 40000 = 2 ^ 40022 from (Nat.pow_add 2 22 40000).symm] at h1
    exact Nat.lt_of_le_of_lt h1 (Nat.pow_lt_pow_right (by decide) (by decide))
  · exact Nat.lt_of_le_of_lt mm (Nat.pow_lt_pow_right (by decide) (by decide))
  · exact Nat.lt_of_le_of_lt (p2 oa.b_) (Nat.pow_lt_pow_right (by decide) (by decide))
  · exact Nat.lt_of_le_of_lt (p2 ob.b_) (Nat.pow_lt_pow_right (by decide) (by decide))
end
end E2

set_option Elab.async false
set_option linter.all false
set_option maxRecDepth 100000
set_option maxHeartbeats 1000000
/-! a != b of two lists whose items are seen to be equal, objects of own classes among them -/
namespace GN
open PySem PySem.SeqAt GQ
open AutoSeq1 (wpAny_loadPart')
open MeetsSeq MeetsSeq2 MeetsSeq3 SeqRoads2
section
variable {prog : Program} {w : World} {A : Around} {R : Result → Shared → Prop}
theorem ne_loop (p q : Addr) (len : Nat) (J : Nat → Shared → Prop) (hJ : ListI prog w A (fun e s' => R (.error e) s') p q len J)
    (done : ∀ s, J len s → R (.ok (.ret (.bool false))) s) (left : Nat) :
    ∀ j : Nat, len - j = left → j ≤ len → ∀ s, J j s →
      wpAny (model prog w) A.in1 (Builtin.«list.__eq__.loop» ⟨[.ref p, .ref q, rawInt j, rawInt 3], []⟩) (FinOf prog w A R) (fun e s' => R (.error e) s') s := by
  induction left with
  | zero =>
    intro j hk hj s h
    obtain ⟨us, vs, n, n2, e1, e2, z1, z2, _⟩ := hJ _ _ h
    obtain rfl : j = len := by omega
    have hR : R (.ok (.ret (.bool false))) s := done s h
    obtain ⟨hp, g, d, tk, os⟩ := s
    wp_walk using wpAny_loadPart' e1, wpAny_loadPart' e2
    have o1 : us[((j : Nat) : Int).toNat]? = none := by simp; omega
    have o2 : vs[((j : Nat) : Int).toNat]? = none := by simp; omega
    rw [o1, o2]
    wp_walk using wpAny_loadPart' e1, wpAny_loadPart' e2
    show R (.ok (.ret (.bool (us.size != vs.size)))) _
    rw [z1, z2]
    simpa using hR
  | succ left ih =>
    intro j hk hj s h
    obtain ⟨us, vs, n, n2, e1, e2, z1, z2, turn⟩ := hJ _ _ h
    have lt1 : j < us.size := by omega
    have lt2 : j < vs.size := by omega
    have ht := turn lt1 lt2
    obtain ⟨hp, g, d, tk, os⟩ := s
    wp_walk using wpAny_loadPart' e1, wpAny_loadPart' e2
    have o1 : us[((j : Nat) : Int).toNat]? = some us[j] := by simp [lt1]
    have o2 : vs[((j : Nat) : Int).toNat]? = some vs[j] := by simp [lt2]
    have ec : ((j : Int) + 1) = ((j + 1 : Nat) : Int) := by omega
    rw [o1, o2]
    refine wpAny_bind (wpAny_mono ht (fun r s2 h2 => ?_) fun _ _ x => x)
    obtain ⟨rfl, h2⟩ := h2
    have again := ih (j + 1) (by omega) (by omega) s2 h2
    obtain ⟨hp2, g2, d2, tk2, os2⟩ := s2
    wp_walk
    rw [ec]
    exact ⟨plainId_quiet plain_eq_loop _, codeAny_builtin entry_eq_loop (by
      rw [Around.under_plainId plain_eq_loop _]
      exact again)⟩
theorem list_ne (p q : Addr) (len : Nat) (J : Nat → Shared → Prop) (hJ : ListI prog w A (fun e s' => R (.error e) s') p q len J)
    (done : ∀ s, J len s → R (.ok (.ret (.bool false))) s) {s : Shared} (h : J 0 s) :
    wpAny (model prog w) A.in1 (Builtin.«list.__ne__» ⟨[.ref p, .ref q], []⟩) (FinOf prog w A R) (fun e s' => R (.error e) s') s := by
  obtain ⟨us, vs, n, n2, e1, e2, z1, z2, _⟩ := hJ _ _ h
  have again := ne_loop (A := A) (R := R) p q len J hJ done _ 0 rfl (Nat.zero_le _) s h
  obtain ⟨hp, g, d, tk, os⟩ := s
  have f3 := AutoSeq1.sub_list_list
  have dif : ¬ (us.size != vs.size) = true := by simp [z1, z2]
  wp_walk using wpAny_loadPart' e1, wpAny_loadPart' e2
  exact ⟨plainId_quiet plain_eq_loop _, codeAny_builtin entry_eq_loop (by
    rw [Around.under_plainId plain_eq_loop _]
    exact again)⟩
end
theorem rc_listN {prog : Program} {w : World} {A : Around} {E : Value → Shared → Prop} {s : Shared} {p q : Addr} {len : Nat} {Q : Value → Shared → Prop} (hu : A.units < cLine) (J : Nat → Shared → Prop) (hJ : ListI prog w A E p q len J)
    (done : ∀ s, J len s → Q (.bool false) s) (h : J 0 s) : wpAny (model prog w) A (richCompare .NotEq (.ref p) (.ref q)) Q E s := by
  obtain ⟨us, vs, n, n2, e1, e2, _, _, _⟩ := hJ _ _ h
  refine wpAny_richCompare_same_room (op := .NotEq) ⟨_, e1, rfl⟩ ⟨_, e2, rfl⟩ F.slot_list_ne (call_here F.slot_list_ne ⟨_, e1, rfl⟩ F.entry_list_ne (F.args_list_ne_2 _ _) ?_) hu
  exact list_ne (R := wants (fun v s' => v ≠ .notImplemented ∧ Q v s') E) p q len J hJ (fun s' z => ⟨(fun x => nomatch x), done s' z⟩) h
end GN
namespace L2
open PySem PySem.Spec PyProof.Rows
/-- x != y of two lists, False -/
def rNeG (D : Eqv) : R2 := fun x y H Q => DList D x y H ∧ ∀ H', Ext H H' → Q (.bl false) H'
section
variable {X : Cx} {n k : Nat} {D : Eqv}
theorem op_neG (hD : Mon D) (h : EqG X n D) (hr : Room (n + 1) X.A) : OpR X (compareOp .NotEq) (rNeG D) := by
  intro pins s σ H x y v u Q I rx ry hq
  obtain ⟨⟨a, b, xs, ys, rfl, rfl, ha, hb, p⟩, q⟩ := hq
  cases rx
  cases ry
  refine GN.rc_listN (len := xs.length) hr.units0 (fun _ s' => LoopI X pins σ H s') (fun i s' z => ?_) (fun s' z => ?_) ⟨H, I, Ext.rfl'⟩
  · obtain ⟨H1, I1, e1⟩ := id z
    obtain ⟨z1, its, k, r, e⟩ := I1.hok a _ (e1 _ _ ha)
    obtain ⟨z2, its2, k2, r2, e2⟩ := I1.hok b _ (e1 _ _ hb)
    exact ⟨its.toArray, its2.toArray, k, k2, e, e2, by rw [List.size_toArray, ← r.length], by rw [List.size_toArray, ← r2.length, ← p.1], fun h1 h2 => turnG hD h ⟨hr, rfl⟩ p r r2 i h1 h2 s' z⟩
  · obtain ⟨H1, I1, e1⟩ := z
    exact ⟨.bl false, H1, I1, rfl, q H1 e1⟩
/-- two forms that are equal -/
def DFm (P : Program) (w : World) (K : PySem.W.Frag) (C : Addr) : Eqv := fun x y H => ∃ a b fa fb, x = .ref a ∧ y = .ref b ∧ FmAt P w K C H a fa ∧ FmAt P w K C H b fb ∧ eqFm fa fb = true
theorem mon_fm {P : Program} {w : World} {K : PySem.W.Frag} {C : Addr} : Mon (DFm P w K C) := fun x y H H' e ⟨a, b, fa, fb, h1, h2, h3, h4, h5⟩ => ⟨a, b, fa, fb, h1, h2, h3.same e, h4.same e, h5⟩
theorem rcG_fm {C : Addr} (O : EqM X.prog X.w X.K X.mg X.base k C) : RcG X k (DFm X.prog X.w X.K C) := by
  obtain ⟨f, fd, ps, N, F, hb⟩ := O.ex
  intro A pins s σ H x y v u sb I rx ry h
  obtain ⟨a, b, fa, fb, rfl, rfl, ha, hb2, q⟩ := h
  obtain rfl : v = Value.ref a := rx
  obtain rfl : u = Value.ref b := ry
  obtain ⟨dx, d, kvs, ea, _⟩ := id ha
  obtain ⟨dy, e, kvs2, eb, _⟩ := id hb2
  obtain ⟨ox, od, J⟩ := inst_of I ea
  obtain ⟨oy, oe, J2⟩ := inst_of I eb
  obtain ⟨m, fr⟩ := I.fr
  refine PySem.W.cmp_K (op := .Eq) (tb := .ref C) sb.room.units0 fr I.ok.mod.kin J J2.type (by simp [PySem.W.notFirst]) N.eq N.fn ?_
  refine thn (run_sub (Q := fun v H' => v = .bl (eqFm fa fb) ∧ H' = H) ⟨sb.room, sb.fr⟩ (vs := [V.ref a, V.ref b]) F hb I (.cons rfl (.cons rfl .nil)) ⟨a, b, fa, fb, rfl, ha, hb2, rfl, rfl⟩) fun r s' z => ?_
  obtain ⟨z, H', I', rz, rfl, rfl⟩ := z
  rw [q] at rz
  obtain rfl : r = Value.bool true := rz
  exact ⟨rfl, _, I', Ext.rfl'⟩
theorem eqG_fm {C : Addr} (O : EqM X.prog X.w X.K X.mg X.base k C) : EqG X k (DFm X.prog X.w X.K C) := (rcG_fm O).eqG fun _ _ _ d => let ⟨a, b, _, _, hx, hy, _⟩ := d; ⟨a, b, hx, hy⟩
end
end L2

set_option Elab.async false
set_option linter.all false
set_option maxRecDepth 100000
set_option maxHeartbeats 2000000
set_option exponentiation.threshold 500000
/-! products of forms and their polynomials; what _law_due leans on -/
namespace E4
open PySem PySem.Spec PyProof.Rows L2
open E2 (Bd spAdd spSub spMul)
open C8 (Cal Mak Met InsC pe_c pe_mt pe_mt0 call_isC clsBody)
/-- an own operator with a whole number on its right -/
structure OpI (P : Program) (w : World) (K : PySem.W.Frag) (mg : Str → Option Value) (base : Heap) (k : Nat) (C : Addr) (name : String) (sp : Sp) : Prop where
  ex : ∃ (f : Addr) (fd : FuncData) (ps : List Str), OwnOpI K C name f ∧ FnOk P w K mg base CX0 k f fd ps sp ∧ Binds K fd ps []
theorem numM_one : E2.numM 1 = oneM [] := by
  unfold E2.numM oneM
  rw [if_neg (by decide)]
  rfl
theorem mulF_one (a b : List Str) : mulF (oneM a) (oneM b) = oneM (a ++ b) := by
  have e : (allP (oneM a) (oneM b)).map mulT = [(sortT (sortT a ++ sortT b), 1 * 1)] := rfl
  unfold mulF
  rw [e, sortT_of_perm' ((sortT_perm a).append (sortT_perm b)), Rat.one_mul]
  have e2 : addTo [] [(sortT (a ++ b), (1 : Rat))] = [(sortT (a ++ b), 0 + 1)] := rfl
  rw [e2, Rat.zero_add]
  rfl
theorem pm_app (a b : List Str) : pm (a ++ b) = pm a * pm b := by
  unfold pm
  rw [← mulF_one, pol_mulF]
theorem pm_nil : pm [] = 1 := by
  unfold pm
  rw [one_def]
  rfl
section
variable {P : Program} {w : World} {K : PySem.W.Frag} {CF : Addr} {H : Hp} {a b : Addr} {fa fb : Fm} {n1 n2 b1 b2 : Nat} {Q : VK}
theorem mul_op {L1 L2 : Nat} (ha : FmAt P w K CF H a fa) (hb : FmAt P w K CF H b fb) (A : Bd L8 fa n1 L1 1 b1) (B : Bd L8 fb n2 L2 1 b2) (h : n1 ≤ 2000 ∧ n2 ≤ 2000 ∧ b1 ≤ 20000 ∧ b2 ≤ 20000 ∧ L1 ≤ 100 ∧ L2 ≤ 100) (k : ∀ H' c, Same H H' → H c = none → FmAt P w K CF H' c (mulF fa fb) → Q (.ref c) H') : rOwn CF (spMul P w K CF) (.ref a) (.ref b) H Q := by
  obtain ⟨dxa, fsa, dxb, fsb, e1, e2⟩ := own_refs ha hb
  refine ⟨a, b, dxa, fsa, dxb, fsb, rfl, rfl, e1, e2, a, .ref b, fa, fb, rfl, ha, .inr ⟨b, rfl, hb⟩, A.szm B ⟨h.1, h.2.2.2.2.1, by decide, by decide, h.2.2.1⟩ ⟨h.2.1, h.2.2.2.2.2, by decide, by decide, h.2.2.2.1⟩, fun H' c l S n hp hc => k H' c S n ?_⟩
  rw [mulT_list hp] at hc
  exact hc
theorem subI_op {L : Nat} (ha : FmAt P w K CF H a fa) (A : Bd L8 fa n1 L 1 b1) (h : n1 ≤ 2000 ∧ b1 ≤ 20000 ∧ L ≤ 100) (k : ∀ H' c, Same H H' → H c = none → FmAt P w K CF H' c (addF fa (E2.negF (oneM []))) → Q (.ref c) H') : rOwnI CF (spSub P w K CF) (.ref a) (.int 1) H Q := by
  obtain ⟨dxa, d, kvs, e1, _⟩ := id ha
  have B : Bw 1 0 (oneM []) := one_bw (fun _ h => absurd h List.not_mem_nil) (by decide)
  refine ⟨a, 1, dxa, _, rfl, rfl, e1, a, .int 1, fa, E2.numM 1, rfl, ha, .inl ⟨1, rfl, rfl⟩, ?_, ?_, ?_, ?_⟩
  · rw [numM_one]; exact A.szs B.neg ⟨h.1, h.2.2, by decide, by decide, h.2.1⟩ (bw_ok (by decide) (by decide))
  · rw [numM_one]; exact B.can.nd
  · rw [numM_one]; have := B.len; rw [sizeLine_eq]; omega
  · rw [numM_one]; exact k
end
theorem fm_sameD {P : Program} {w : World} {K : PySem.W.Frag} {C : Addr} {D : Addr} {H H' : Hp} {b : Addr} {f : Fm} {kvs : List (Key × V)} (h : FmAt P w K C H b f) (S : SameB D H H') (hD : H D = some (.dK kvs)) : FmAt P w K C H' b f := by
  obtain ⟨dx, d, kvs2, h1, h2, h3⟩ := h
  refine ⟨dx, d, kvs2, S _ _ (fun z => ?_) h1, S _ _ (fun z => ?_) h2, h3.imp (.sameB S hD ⟨fun _ z => (nomatch z), fun _ _ z => (nomatch z)⟩)⟩
  · rw [z, hD] at h1; cases h1
  · rw [z, hD] at h2; exact absurd (Option.some.inj h2).symm (fun z => nomatch (show HO.ext _ = _ from z))
end E4

set_option Elab.async false
set_option linter.all false
set_option maxRecDepth 100000
set_option maxHeartbeats 2000000
set_option exponentiation.threshold 500000
/-! what jumps tells, at values -/
namespace E4
open PySem PySem.Spec PyProof.Rows L2
open E2 (Bd)
theorem ev_prW (g : Str → Int) : ∀ a : Fm, ev g a = pr (fun m => (evM g m : Rat)) a
  | [] => rfl
  | x :: a => by
    have e : evM g (sortT x.1) = evM g x.1 := L2.prodI_perm ((sortT_perm x.1).map g)
    have ih := ev_prW g a
    show x.2 * (evM g x.1 : Rat) + ev g a = x.2 * (evM g (sortT x.1) : Rat) + pr _ a
    rw [ih, e]
theorem ev_addW (g : Str → Int) {a b : Fm} (h : (a.map (·.1)).Nodup) : ev g (addF a b) = ev g a + ev g b := by
  rw [ev_prW, ev_prW, ev_prW, pr_addF _ h]
theorem ev_pol (g : Str → Int) {a b : Fm} (h : pol a = pol b) : ev g a = ev g b := by
  have hp : Peq a b := Quotient.exact h
  rw [ev_prW, ev_prW]
  exact hp _
/-- where the sides inside come to, as a form -/
def backF : List Sd → Fm
  | [] => []
  | x :: xs => addF (addF (backF xs) (oneM (x.2.2 ++ x.2.1))) (E2.negF (oneM x.2.2))
theorem one_bd {N : List Str} {m : List Str} (h : ∀ z ∈ m, z ∈ N) (l : m.length ≤ 40) : Bd N (oneM m) 1 40 1 0 := by
  refine ⟨canon_one m, Nat.le_refl _, fun x hx => ?_, fun x hx => ?_⟩
  · rw [List.mem_singleton.mp hx]
    exact ⟨by show (sortT m).length ≤ 40; rw [length_sortT]; exact l, fun z hz => h z ((sortT_perm m).mem_iff.mp hz)⟩
  · rw [List.mem_singleton.mp hx]; exact Bq.int (n := 1)
/-- the letters of rows -/
abbrev letsW (xs : List Sd) : List Str := xs.flatMap fun x => x.2.1 ++ x.2.2
theorem back_bd {N : List Str} : ∀ {xs : List Sd}, (∀ x ∈ xs, RowOk x) → (∀ x ∈ xs, ∀ z, z ∈ x.2.1 ∨ z ∈ x.2.2 → z ∈ N) → Bd N (backF xs) (2 * xs.length) 40 1 (2 * xs.length)
  | [], _, _ => Bd.nil
  | x :: xs, h, hN => by
    have ih := back_bd (fun y hy => h y (List.mem_cons_of_mem _ hy)) (fun y hy => hN y (List.mem_cons_of_mem _ hy)) (N := N)
    obtain ⟨_, _, z3, z4⟩ := h x List.mem_cons_self
    have m1 : ∀ z ∈ x.2.2 ++ x.2.1, z ∈ N := fun z hz => hN x List.mem_cons_self z ((List.mem_append.mp hz).elim .inr .inl)
    have m2 : ∀ z ∈ x.2.2, z ∈ N := fun z hz => hN x List.mem_cons_self z (.inr hz)
    have B1 := ih.add (c := 1) ((one_bd m1 (by rw [List.length_append]; omega)).mono (Nat.le_refl _) (Nat.le_refl _) (Nat.zero_le _)) (by decide)
    have B2 := B1.add (c := 1) ((one_bd m2 (by omega)).neg.mono (Nat.le_refl _) (Nat.le_refl _) (Nat.zero_le _)) (by decide)
    rw [List.length_cons]
    exact B2.mono (by omega) (Nat.le_refl _) (by omega)
theorem back_pol : ∀ {xs : List Sd}, (∀ x ∈ xs, RowOk x) → pol (backF xs) = backP xs
  | [], _ => cst_zero.symm
  | x :: xs, h => by
    have hx := fun y hy => h y (List.mem_cons_of_mem _ hy)
    have ih := back_pol (xs := xs) hx
    have B := back_bd (N := letsW xs) hx fun y hy z hz => List.mem_flatMap.mpr ⟨y, hy, List.mem_append.mpr hz⟩
    show pol (addF (addF (backF xs) (oneM (x.2.2 ++ x.2.1))) (E2.negF (oneM x.2.2))) = (pm (x.2.2 ++ x.2.1) + -pm x.2.2) + backP xs
    rw [pol_sub (canon_addF B.can (canon_one _)) (canon_one _), pol_addF B.can.nd, ih]
    show backP xs + pm _ + -pm _ = _
    grind
def backI (vl : Vls) (xs : List Sd) : Int := (xs.map fun x => (tm vl x.2.1 - 1) * TW vl x).sum
theorem back_ev (vl : Vls) : ∀ {xs : List Sd}, (∀ x ∈ xs, RowOk x) → ev (gOf vl) (backF xs) = ((backI vl xs : Int) : Rat)
  | [], _ => rfl
  | x :: xs, h => by
    have hx := fun y hy => h y (List.mem_cons_of_mem _ hy)
    have ih := back_ev vl (xs := xs) hx
    have B := back_bd (N := letsW xs) hx fun y hy z hz => List.mem_flatMap.mpr ⟨y, hy, List.mem_append.mpr hz⟩
    have e : backI vl (x :: xs) = (tm vl x.2.1 - 1) * TW vl x + backI vl xs := rfl
    show ev (gOf vl) (addF (addF (backF xs) (oneM (x.2.2 ++ x.2.1))) (E2.negF (oneM x.2.2))) = _
    rw [ev_addW _ (canon_addF B.can (canon_one _)).nd, ev_addW _ B.can.nd, ih, ev_neg, ev_one, ev_one, e, tm_append]
    push_cast
    grind
theorem valM_in {a : Fm} (nd : (a.map (·.1)).Nodup) {x : MonR × Rat} (h : x ∈ a) : valM a x.1 = some x.2 := by
  unfold valM
  induction a with
  | nil => exact absurd h List.not_mem_nil
  | cons y a ih =>
    rw [List.map_cons] at nd
    obtain ⟨n1, n2⟩ := List.nodup_cons.mp nd
    rcases List.mem_cons.mp h with e | e
    · subst e
      rw [List.find?_cons_of_pos (by simp)]
      rfl
    · have : y.1 ≠ x.1 := fun z => n1 (by rw [z]; exact List.mem_map.mpr ⟨x, e, rfl⟩)
      rw [List.find?_cons_of_neg (by simpa using this)]
      exact ih n2 e
theorem valM_out {a : Fm} {m : MonR} {q : Rat} (h : valM a m = some q) : (m, q) ∈ a := by
  unfold valM at h
  obtain ⟨x, hx, rfl⟩ := Option.map_eq_some_iff.mp h
  have h1 := List.mem_of_find?_eq_some hx
  have h2 := List.find?_some hx
  have : x.1 = m := by simpa using h2
  rw [← this]
  exact h1
theorem mem_pol {a b : Fm} (ca : Canon a) (cb : Canon b) (h : pol a = pol b) : ∀ x ∈ a, x ∈ b := fun x hx => by
  have h1 := valM_in ca.nd hx
  rw [valM_same ca cb h] at h1
  exact valM_out h1
/-- at, of a form whose polynomial is known -/
theorem at_fm {P : Program} {w : World} {K : PySem.W.Frag} {CF : Addr} {H : Hp} {Q : VK} {E : XK} {a d : Addr} {fm f0 : Fm} {N : List Str} {n b : Nat} {v : Int} {vl : Vls} (ha : FmAt P w K CF H a fm) (c1 : Canon fm) (e : pol fm = pol f0) (B : Bd N f0 n 40 1 b) (hb' : b ≤ 20000) (hN : N.length ≤ 1000) (hNv : ∀ z ∈ N, z ∈ vl.map (·.1)) (ev0 : ev (gOf vl) f0 = ((v : Int) : Rat))
    (hd : H d = some (.dK (dI vl))) (hl : vl.length ≤ 1000) (hb : AllV (fun n => 1 ≤ n ∧ n.natAbs < 2 ^ 400) vl) (hlet : ∀ z ∈ vl.map (·.1), LetOk z) (k : ∀ H', Same H H' → Q (.int v) H') : E2.spAt P w K CF [.ref a, .ref d] H Q E := by
  have hm := mem_pol c1 B.can e
  have ev1 : ev (gOf vl) fm = ((v : Int) : Rat) := (ev_pol _ e).trans ev0
  refine ⟨a, d, fm, dI vl, gOf vl, 1, 2 ^ b, rfl, ha, ⟨N, hN, fun x hx z hz => (B.key x (hm x hx)).2 z hz⟩, fun x hx => by have := (B.key x (hm x hx)).1; omega, hd, fun kv hkv => ?_, by rw [len_dI]; exact hl, fun x hx z hz => ?_, by decide, by decide, Nat.pow_lt_pow_right (by decide) (by omega), fun x hx => B.bq x (hm x hx), fun H' S => ⟨fun n' e' => ?_, fun h => absurd ev1 (h _)⟩⟩
  · unfold dI at hkv
    obtain ⟨u, hu, rfl⟩ := List.mem_map.mp hkv
    exact ⟨u.1, u.2, rfl, hlet u.1 (List.mem_map.mpr ⟨u, hu, rfl⟩)⟩
  · obtain ⟨v1, v2⟩ := val_at hb (hNv z ((B.key x (hm x hx)).2 z hz))
    exact ⟨v1, v2.2⟩
  · have : n' = v := Rat.intCast_inj.mp (e'.symm.trans ev1)
    rw [this]
    exact k H' S
/-- what a told width and a told count of steps come to -/
def widY (vl : Vls) (ys : List Sd) (i : Nat) (x : Sd) : Int := TW vl x - backI vl (ys.take i)
def cntY (vl : Vls) (ys : List Sd) (i : Nat) (x : Sd) : Int := tm vl (aroundL ys i) * tm vl x.2.1 - tm vl (aroundL ys i)
section
variable {P : Program} {w : World} {K : PySem.W.Frag} {CF : Addr} {H : Hp} {Q : VK} {E : XK} {a d : Addr} {ys : List Sd} {i : Nat} {x : Sd} {j : Jp} {vl : Vls}
theorem lets_len (ro : ∀ y ∈ ys, RowOk y) (l8 : ys.length ≤ 8) : (letsW ys).length ≤ 1000 := by
  have : ∀ zs : List Sd, (∀ y ∈ zs, RowOk y) → (letsW zs).length ≤ 11 * zs.length := by
    intro zs
    induction zs with
    | nil => intro _; exact Nat.le_refl _
    | cons z zs ih =>
      intro h
      have h1 := ih fun y hy => h y (List.mem_cons_of_mem _ hy)
      obtain ⟨_, _, z3, z4⟩ := h z List.mem_cons_self
      show ((z.2.1 ++ z.2.2) ++ letsW zs).length ≤ _
      rw [List.length_append, List.length_append, List.length_cons]
      omega
  have := this ys ro
  omega
theorem at_wid (J : JOk ys i x j) (hx : ys[i]? = some x) (ro : ∀ y ∈ ys, RowOk y) (l8 : ys.length ≤ 8) (ha : FmAt P w K CF H a j.2.1) (hNv : ∀ z ∈ letsW ys, z ∈ vl.map (·.1)) (hd : H d = some (.dK (dI vl))) (hl : vl.length ≤ 1000) (hb : AllV (fun n => 1 ≤ n ∧ n.natAbs < 2 ^ 400) vl) (hlet : ∀ z ∈ vl.map (·.1), LetOk z)
    (k : ∀ H', Same H H' → Q (.int (widY vl ys i x)) H') : E2.spAt P w K CF [.ref a, .ref d] H Q E := by
  have xm := List.mem_of_getElem? hx
  have roi : ∀ y ∈ ys.take i, RowOk y := fun y hy => ro y (List.mem_of_mem_take hy)
  have inN : ∀ y ∈ ys, ∀ z, z ∈ y.2.1 ∨ z ∈ y.2.2 → z ∈ letsW ys := fun y hy z hz => List.mem_flatMap.mpr ⟨y, hy, List.mem_append.mpr hz⟩
  have B1 := one_bd (N := letsW ys) (m := x.2.2) (fun z hz => inN x xm z (.inr hz)) (by have := (ro x xm).2.2.2; omega)
  have B2 := back_bd (N := letsW ys) roi fun y hy => inN y (List.mem_of_mem_take hy)
  have lt := List.length_take_le' i ys
  have B3 := (B1.mono (Nat.le_refl _) (Nat.le_refl _) (Nat.zero_le (2 * (ys.take i).length))).add (c := 8) B2.neg (by show 1 + _ ≤ 256; omega)
  refine at_fm ha J.cw ?_ B3 (by omega) (lets_len ro l8) hNv ?_ hd hl hb hlet k
  · rw [J.pw, pol_sub B1.can B2.can, back_pol roi]
    rfl
  · rw [ev_addW _ B1.can.nd, ev_neg, ev_one, back_ev vl roi]
    unfold widY
    push_cast
    grind
theorem at_cnt (J : JOk ys i x j) (hx : ys[i]? = some x) (ro : ∀ y ∈ ys, RowOk y) (l8 : ys.length ≤ 8) (ha : FmAt P w K CF H a j.2.2) (hNv : ∀ z ∈ letsW ys, z ∈ vl.map (·.1)) (hd : H d = some (.dK (dI vl))) (hl : vl.length ≤ 1000) (hb : AllV (fun n => 1 ≤ n ∧ n.natAbs < 2 ^ 400) vl) (hlet : ∀ z ∈ vl.map (·.1), LetOk z)
    (k : ∀ H', Same H H' → Q (.int (cntY vl ys i x)) H') : E2.spAt P w K CF [.ref a, .ref d] H Q E := by
  have xm := List.mem_of_getElem? hx
  have inN : ∀ y ∈ ys, ∀ z, z ∈ y.2.1 ∨ z ∈ y.2.2 → z ∈ letsW ys := fun y hy z hz => List.mem_flatMap.mpr ⟨y, hy, List.mem_append.mpr hz⟩
  have il : i < ys.length := (List.getElem?_eq_some_iff.mp hx).1
  have al : (aroundL ys i).length ≤ 3 * (ys.length - (i + 1)) := by
    have : ∀ zs : List Sd, (∀ y ∈ zs, RowOk y) → (zs.flatMap (·.2.1)).length ≤ 3 * zs.length := by
      intro zs
      induction zs with
      | nil => intro _; exact Nat.le_refl _
      | cons z zs ih =>
        intro h
        have h1 := ih fun y hy => h y (List.mem_cons_of_mem _ hy)
        obtain ⟨_, _, z3, z4⟩ := h z List.mem_cons_self
        rw [List.flatMap_cons, List.length_append, List.length_cons]
        omega
    have h := this (ys.drop (i + 1)) fun y hy => ro y (List.mem_of_mem_drop hy)
    rw [List.length_drop] at h
    exact h
  have am : ∀ z ∈ aroundL ys i, z ∈ letsW ys := fun z hz => by
    obtain ⟨y, hy, h⟩ := List.mem_flatMap.mp hz
    exact inN y (List.mem_of_mem_drop hy) z (.inl h)
  have s3 := (ro x xm).2.2.1
  have B1 := one_bd (N := letsW ys) (m := aroundL ys i ++ x.2.1) (fun z hz => (List.mem_append.mp hz).elim (am z) fun h => inN x xm z (.inl h)) (by rw [List.length_append]; omega)
  have B2 := one_bd (N := letsW ys) (m := aroundL ys i) am (by omega)
  have B3 := B1.add (c := 1) B2.neg (by decide)
  refine at_fm ha J.co ?_ B3 (by decide) (lets_len ro l8) hNv ?_ hd hl hb hlet k
  · rw [J.po, pol_sub B1.can B2.can]
    rfl
  · rw [ev_addW _ B1.can.nd, ev_neg, ev_one, ev_one, tm_append]
    unfold cntY
    push_cast
    grind
end
end E4

set_option Elab.async false
set_option linter.all false
set_option maxRecDepth 100000
set_option maxHeartbeats 2000000
set_option exponentiation.threshold 5000
/-! _law_small_right -/
namespace L2
open PySem PySem.Spec PyProof.Rows
def rNotInT (K : PySem.W.Frag) : R2 := fun x y H Q => ∃ d ds, Dp K H x d ∧ Dp K H y (.tuple ds) ∧ SeqAt.shaped d = true ∧ SeqAt.shaped (.tuple ds) = true ∧ (ds.any fun z => PyData.eqv z d) = true ∧ Q (.bl false) H
theorem op_notInT {X : Cx} (hu : X.A.units + 65 < cLine) : OpR X (compareOp .NotIn) (rNotInT X.K) := by
  intro pins s σ H x y v u Q I rx ry h
  obtain ⟨d, ds, hd, he, sd, se, ha, q⟩ := h
  obtain ⟨as, r1⟩ := Dp.reads I d x v hd rx
  obtain ⟨bs, r2⟩ := Dp.reads I (.tuple ds) y u he ry
  refine SeqAt.notIn_tuple_reads r2 r1 (SeqAt.canLay_of_shaped se) (SeqAt.canLay_of_shaped sd) (room_in_shaped sd hu) ⟨.bl false, H, I, ?_, q⟩
  rw [ha]
  rfl
end L2
namespace E4
open PySem PySem.Spec PyProof.Rows L2
open C8 (Cal Mak Met InsC pe_c pe_mt pe_mt0 call_isC clsBody)
abbrev sSmall : Stmt := top 54
theorem JOk.raw {xs : List Sd} {i : Nat} {x : Sd} {j : Jp} (J : JOk (xs.map norm) i (norm x) j) : JOk xs i x j := by
  have b : ∀ zs : List Sd, backP (zs.map norm) = backP zs := by
    intro zs
    induction zs with
    | nil => rfl
    | cons z zs ih =>
      show (pm (sortT z.2.2 ++ sortT z.2.1) + -pm (sortT z.2.2)) + backP (zs.map norm) = _
      rw [ih, pm_perm ((sortT_perm z.2.2).append (sortT_perm z.2.1)), pm_perm (sortT_perm z.2.2)]
      rfl
  have a : (aroundL (xs.map norm) i).Perm (aroundL xs i) := by
    unfold aroundL
    rw [← List.map_drop, List.flatMap_map]
    have : ∀ zs : List Sd, (zs.flatMap fun x => (norm x).2.1).Perm (zs.flatMap (·.2.1)) := by
      intro zs
      induction zs with
      | nil => exact List.Perm.refl _
      | cons z zs ih =>
        rw [List.flatMap_cons, List.flatMap_cons]
        exact (sortT_perm z.2.1).append ih
    exact this _
  refine ⟨J.nm, J.cw, J.co, ?_, ?_⟩
  · rw [J.pw, ← List.map_take, b]
    show pm (sortT x.2.2) + _ = _
    rw [pm_perm (sortT_perm x.2.2)]
  · rw [J.po]
    show pm (aroundL (xs.map norm) i ++ sortT x.2.1) + _ = _
    rw [pm_perm (a.append (sortT_perm x.2.1)), pm_perm a]
theorem JsOk.raw {xs : List Sd} {js : List Jp} (h : JsOk (xs.map norm) js) : JsOk xs js := by
  refine ⟨by rw [h.1, List.length_map], fun i x j hx hj => JOk.raw (h.2 i (norm x) j (by rw [List.getElem?_map, hx]; rfl) hj)⟩
/-- rows of a route from its inner side -/
abbrev inW (A : List (Nat × Sd)) : List Sd := A.reverse.map (·.2)
theorem in_at {A : List (Nat × Sd)} {i : Nat} {x : Sd} (h : (inW A)[i]? = some x) : ∃ q, A[A.length - 1 - i]? = some q ∧ q.2 = x ∧ i < A.length := by
  have hi := (List.getElem?_eq_some_iff.mp h).1
  rw [List.length_map, List.length_reverse] at hi
  rw [List.getElem?_map, List.getElem?_reverse hi] at h
  obtain ⟨q, hq, e⟩ := Option.map_eq_some_iff.mp h
  exact ⟨q, hq, e, hi⟩
theorem sum_perm {a b : List Int} (h : a.Perm b) : a.sum = b.sum := by
  induction h with
  | nil => rfl
  | cons x _ ih => rw [List.sum_cons, List.sum_cons, ih]
  | swap x y l => rw [List.sum_cons, List.sum_cons, List.sum_cons, List.sum_cons]; omega
  | trans _ _ h1 h2 => exact h1.trans h2
theorem wid_drop (vl : Vls) : ∀ (A : List (Nat × Sd)) (m : Nat) (q : Nat × Sd), A[m]? = some q → WidI vl A m = TW vl q.2 - ((A.drop (m + 1)).map fun r => ((SW vl r.2 : Nat) - 1 : Int) * TW vl r.2).sum
  | [], m, q, h => by simp at h
  | r :: A, 0, q, h => by cases h; rfl
  | r :: A, m + 1, q, h => by
    show WidI vl A m = _
    rw [wid_drop vl A m q (by simpa using h)]
    rfl
theorem wid_in {vl : Vls} {A : List (Nat × Sd)} (pos : ∀ q ∈ A, 1 ≤ tm vl q.2.2.1) {i : Nat} {q : Nat × Sd} (h : A[A.length - 1 - i]? = some q) (hi : i < A.length) : widY vl (inW A) i q.2 = WidI vl A (A.length - 1 - i) := by
  rw [wid_drop vl A _ q h]
  unfold widY backI
  congr 1
  have e : (inW A).take i = ((A.drop (A.length - 1 - i + 1)).reverse).map (·.2) := by
    show (A.reverse.map (·.2)).take i = _
    rw [← List.map_take, List.take_reverse]
    have : A.length - 1 - i + 1 = A.length - i := by omega
    rw [this]
  rw [e, List.map_map]
  refine (sum_perm ((List.reverse_perm _).map _)).trans ?_
  refine congrArg List.sum (List.map_congr_left fun r hr => ?_)
  have := pos r (List.mem_of_mem_drop hr)
  have e2 : ((SW vl r.2 : Nat) : Int) = tm vl r.2.2.1 := Int.toNat_of_nonneg (by omega)
  show (tm vl r.2.2.1 - 1) * TW vl r.2 = _
  rw [e2]
theorem cnt_prod {vl : Vls} {A : List (Nat × Sd)} (pos : ∀ q ∈ A, 1 ≤ tm vl q.2.2.1) : ∀ m, m ≤ A.length → ((cntN vl A m : Nat) : Int) = tm vl ((A.take m).flatMap (·.2.2.1))
  | 0, _ => rfl
  | m + 1, hm => by
    have ih := cnt_prod pos m (by omega)
    have hq : A[m]? = some A[m] := List.getElem?_eq_getElem (by omega)
    generalize A[m] = q at hq
    have e : cntN vl A (m + 1) = cntN vl A m * SW vl q.2 := by
      show (match A[m]? with | none => _ | some q => _) = _
      rw [hq]
    have := pos q (List.mem_of_getElem? hq)
    have e2 : ((SW vl q.2 : Nat) : Int) = tm vl q.2.2.1 := Int.toNat_of_nonneg (by omega)
    rw [e, take_snoc hq, List.flatMap_append, List.flatMap_cons, List.flatMap_nil, List.append_nil, tm_append, Int.natCast_mul, ih, e2]
theorem cnt_in {vl : Vls} {A : List (Nat × Sd)} (pos : ∀ q ∈ A, 1 ≤ tm vl q.2.2.1) {i : Nat} {q : Nat × Sd} (h : A[A.length - 1 - i]? = some q) (hi : i < A.length) : cntY vl (inW A) i q.2 = (((goW vl A A.length).count (A.length - 1 - i) : Nat) : Int) := by
  have pos2 : ∀ q ∈ A, 1 ≤ SW vl q.2 := fun r hr => by
    have := pos r hr
    show 1 ≤ (tm vl r.2.2.1).toNat
    omega
  rw [go_count pos2 A.length (Nat.le_refl _) _ q h (by omega)]
  have p := pos2 q (List.mem_of_getElem? h)
  have pz := pos q (List.mem_of_getElem? h)
  have e2 : ((SW vl q.2 : Nat) : Int) = tm vl q.2.2.1 := Int.toNat_of_nonneg (by omega)
  have ea : tm vl (aroundL (inW A) i) = ((cntN vl A (A.length - 1 - i) : Nat) : Int) := by
    rw [cnt_prod pos _ (by omega)]
    refine tm_perm ?_
    unfold aroundL
    have e1 : (inW A).drop (i + 1) = ((A.take (A.length - 1 - i)).reverse).map (·.2) := by
      show (A.reverse.map (·.2)).drop (i + 1) = _
      rw [← List.map_drop, List.drop_reverse]
      have : A.length - (i + 1) = A.length - 1 - i := by omega
      rw [this]
    rw [e1, List.flatMap_map]
    exact (List.reverse_perm _).flatMap_right _
  unfold cntY
  rw [ea, Int.natCast_mul, Int.natCast_sub p, e2]
  generalize ((cntN vl A (A.length - 1 - i) : Nat) : Int) = c
  show c * tm vl q.2.2.1 - c = (tm vl q.2.2.1 - 1) * c
  rw [Int.sub_mul, Int.one_mul, Int.mul_comm]
end E4

set_option Elab.async false
set_option linter.all false
set_option maxRecDepth 100000
set_option maxHeartbeats 2000000
set_option exponentiation.threshold 5000
/-! _law_small_right -/
namespace E4
open PySem PySem.Spec PyProof.Rows L2
open C8 (Cal Mak Met InsC pe_c pe_mt pe_mt0 call_isC clsBody)
structure VlOk (vl : Vls) : Prop where
  len : vl.length ≤ 1000
  lets : ∀ z ∈ vl.map (·.1), LetOk z
def spSmall (P : Program) (w : World) (K : PySem.W.Frag) (CF : Addr) : Sp := fun vs H Q _ => ∃ (l p t d : Addr) (ts us : List Addr) (xs : List Sd) (vl : Vls) (A : List (Nat × Sd)) (js : List Jp), vs = [.ref l, .ref p, .ref t, .ref d] ∧ SqL K H l (ts.map V.ref) ∧ SdsAt H ts xs ∧ H d = some (.dK (dI vl)) ∧ ValsOk vl xs ∧ VlOk vl ∧ (∀ x ∈ xs, RowOk x) ∧ xs.length ≤ 8 ∧ (xs.map (·.1)).Nodup ∧ (∀ x ∈ xs, LetOk x.1) ∧
  H t = some (.lst ((A.map (·.2.1)).map V.str)) ∧ RouteOk xs A ∧ A.length = xs.length ∧ manyI vl (A.map (·.2)) ≤ 400 ∧ H p = some (.lst (us.map V.ref)) ∧ Paired (JpAt P w K CF H) us js ∧ JsOk (inW A) js ∧
  ∀ H', Same H H' → Q (.bl true) H'
theorem dp_intsW {K : PySem.W.Frag} {H : Hp} {a : Addr} (l : List Int) (h : H a = some (.lst (l.map V.int))) : Dp K H (.ref a) (.list (l.map PyData.int)) := .lst (SqL.of h) (dp_ints l)
theorem shaped_intsW (l : List Int) : SeqAt.shaped (.list (l.map PyData.int)) = true := by
  have c : PyData.canLay0 (.list (l.map PyData.int)) = true := by simpa [PyData.canLay0] using lay_ints l
  show (PyData.canLay0 _ && decide (PyData.depth _ ≤ 64)) = true
  rw [c, decide_eq_true (by simp only [PyData.depth]; rw [dep_ints]; decide)]
  rfl
theorem shaped_two (v : Int) : SeqAt.shaped (.tuple [.list [], .list [.int v]]) = true := by
  show (PyData.canLay0 _ && decide (PyData.depth _ ≤ 64)) = true
  simp [PyData.canLay0, PyData.canLayAll0, PyData.depth, PyData.depthAll]
section
variable {P : Program} {w : World} {K : PySem.W.Frag} {mg : Str → Option Value} {base : Heap} {CF : Addr}
abbrev NSm : List Str := ["_law_rows", "_law_told", "_law_route", "_law_sizes_here", "_law_due_here", "_law_word", "_law_width", "_law_steps_here", "_law_seen", "_law_many"]
theorem scSmall : FnScope NSm ["_law_rows", "_law_told", "_law_route", "_law_sizes_here"] (defScope sSmall) := ⟨rfl, rfl, rfl, by decide +kernel, rfl, by decide +kernel, by decide +kernel⟩
theorem ok_small {f : Addr} {fd : FuncData} (F : Fun K "_law_small_right" "_law_small_right" sSmall f fd) (St : Cal P w K mg base 3 "_law_steps" (spSteps K) []) (At : Met P w K mg base 3 CF "at" (E2.spAt P w K CF) []) : FnOk P w K mg base CX0 5 f fd ["_law_rows", "_law_told", "_law_route", "_law_sizes_here"] (spSmall P w K CF) := by
  refine F.ok scSmall (fun vs H Q E h => ?_) (fun cdv A_ outer s H vs Q E hr h => ?_)
  · obtain ⟨l, p, t, d, ts, us, xs, vl, A, js, rfl, _⟩ := h
    rfl
  · obtain ⟨l, p, t, d, ts, us, xs, vl, A, js, rfl, hl, hx, hd, vok, vlo, ok, l8, nd, lets, ht, ro, lA, m4, hp, hj, jok, k⟩ := h
    have ul := Nat.lt_of_le_of_lt (Nat.add_le_add_left (by decide : 1 ≤ 64) _) hr.units
    refine ⟨_, pss_cons (ps_set (i := 4) scSmall.nd rfl (Or.inl rfl) (pe_c St hr (by decide) rfl (pa_cons (pv 0) (pa_cons (pv 3) (pa_cons (pv 2) pa_nil)))))
      (pss_cons (ps_for PassesOwn.never rfl (pi_list (pv 1)) (pg_tup rfl (pgs_cons (pg_name (i := 5) scSmall.nd rfl (Or.inl rfl)) (pgs_cons (pg_name (i := 6) scSmall.nd rfl (Or.inl rfl)) (pgs_cons (pg_name (i := 7) scSmall.nd rfl (Or.inl rfl)) pgs_nil))))
        (pss_cons (ps_asg (pe_dget2 ul (pv 4) (pv 5) (pe_tupS (pa_cons (pe_lstS pa_nil) (pa_cons pe_int pa_nil))) ⟨by rfl, by rfl, by rfl, by rfl⟩) (pg_tup (by rfl) (pgs_cons (pg_name (i := 8) scSmall.nd rfl (Or.inl rfl)) (pgs_cons (pg_name (i := 9) scSmall.nd rfl (Or.inl rfl)) pgs_nil))))
        (pss_one (ps_if (PW.pt (pw_or (pt_cmpR op_ne (pe_mt At hr (by decide) (pv 7) (pa_cons (pv 3) pa_nil)) (pv 9) (by rfl))
            (pw_or1 (pt_cmpR (op_notInT (room65 hr)) (pv 8) (pe_tupS (pa_cons (pe_lstS pa_nil) (pa_cons (pe_lstS (pa_cons (pe_mt At hr (by decide) (pv 6) (pa_cons (pv 3) pa_nil)) pa_nil)) pa_nil))) (by rfl))))) (pss_one (ps_ret pe_bl)) pss_nil))))
      (pss_one (ps_ret pe_bl))), ?_⟩
    have pos : ∀ q ∈ A, 1 ≤ tm vl q.2.2.1 := fun q hq => tm_pos (m := q.2.2.1) vok.bd fun z hz => vok.mem q.2 (List.mem_of_getElem? (ro.at_ q hq)) z (.inl hz)
    have roi : ∀ y ∈ inW A, RowOk y := fun y hy => by
      obtain ⟨q, hq, rfl⟩ := List.mem_map.mp hy
      exact ok _ (List.mem_of_getElem? (ro.at_ q (List.mem_reverse.mp hq)))
    have li : (inW A).length ≤ 8 := by rw [List.length_map, List.length_reverse]; omega
    have ln : ∀ z ∈ letsW (inW A), z ∈ vl.map (·.1) := fun z hz => by
      obtain ⟨y, hy, h⟩ := List.mem_flatMap.mp hz
      obtain ⟨q, hq, rfl⟩ := List.mem_map.mp hy
      exact vok.mem _ (List.mem_of_getElem? (ro.at_ q (List.mem_reverse.mp hq))) z (List.mem_append.mp h)
    refine seq_asg ?_
    refine ⟨_, rfl, _, rfl, _, rfl, l, d, t, ts, xs, vl, A, rfl, hl, hx, hd, vok, ok, l8, nd, lets, ht, ro, lA, m4, fun H1 e kd S1 ne he sd => ?_⟩
    have hp1 := S1 _ _ hp
    have hj1 : Paired (JpAt P w K CF H1) us js := paired_imp hj fun _ _ _ z => z.same S1
    have hd1 := S1 _ _ hd
    refine ⟨_, rfl, p, rfl, ⟨_, SqL.of hp1⟩, for_it (walk_list (xs := us.map V.ref)) (fun i σ' H' => (∃ u5 u6 u7 u8 u9, σ' = [some (.ref l), some (.ref p), some (.ref t), some (.ref d), some (.ref e), u5, u6, u7, u8, u9]) ∧ Same H1 H') ⟨⟨none, none, none, none, none, rfl⟩, fun _ _ e => e⟩ (fun i σ' H' _ z => SqL.of (z.2 _ _ hp1)) ?_ ?_⟩
    · rintro i v σ' Hx H2 hi ⟨⟨u5, u6, u7, u8, u9, rfl⟩, S2⟩ ⟨rfl, hxi⟩
      rw [List.length_map] at hi
      rw [List.getElem?_map] at hxi
      obtain ⟨u, hu, rfl⟩ := Option.map_eq_some_iff.mp hxi
      obtain ⟨j, hji, fa, fb, w1, w2, w3⟩ := paired_at hj1 hu
      have hil : i < (inW A).length := by rw [← jok.1]; exact (List.getElem?_eq_some_iff.mp hji).1
      obtain ⟨y, hy⟩ : ∃ y, (inW A)[i]? = some y := ⟨_, List.getElem?_eq_getElem hil⟩
      have J := jok.2 i y j hy hji
      obtain ⟨q, hq, rfl, iA⟩ := in_at hy
      have w2' := w2.same S2
      have w3' := w3.same S2
      obtain ⟨s1, s2⟩ := sd _ q hq
      have ec := cnt_in pos hq iA
      have ew := wid_in pos hq iA
      generalize hm : (goW vl A A.length).count (A.length - 1 - i) = cn at s1 s2 ec
      generalize WidI vl A (A.length - 1 - i) = ww at s2 ew
      refine ⟨u, _, rfl, SqT.of (S2 _ _ w1), rfl, _, _, rfl, _, _, rfl, _, _, rfl, rfl, ?_⟩
      rw [J.nm]
      have he2 := S2 _ _ he
      refine ⟨_, rfl, e, rfl, .inl ⟨_, .inl he2⟩, _, rfl, by show 0 ≤ sizeLine; decide, fun z0 H3 S3 nz0 hz0 => ⟨by show 2 ≤ sizeLine; decide, fun z1 H4 S4 nz1 hz1 => ⟨_, DGet.k (k := Sum.inr q.2.1) ((S3.trans S4) _ _ he2), ?_⟩⟩⟩
      have S24 := S3.trans S4
      have key : ∃ (tk ka : Addr) (ks : List Int), ((valV kd (Sum.inr q.2.1)).getD (V.ref z1)) = V.ref tk ∧ H4 tk = some (.tup [.ref ka, .int (cn : Nat)]) ∧ H4 ka = some (.lst (ks.map V.int)) ∧ (ks = [] ∨ ks = [ww]) := by
        by_cases c0 : cn = 0
        · rw [s1 c0, c0]
          exact ⟨z1, z0, [], rfl, hz1, S4 _ _ hz0, .inl rfl⟩
        · obtain ⟨tk, ka, v1, v2, v3⟩ := s2 c0
          rw [v1]
          exact ⟨tk, ka, [ww], rfl, S24 _ _ (S2 _ _ v2), S24 _ _ (S2 _ _ v3), .inr rfl⟩
      obtain ⟨tk, ka, ks, ek, h1k, h2k, hks⟩ := key
      show gTup _ _ _ ((valV kd (Sum.inr q.2.1)).getD (V.ref z1)) _ _ _
      rw [ek]
      refine ⟨tk, _, rfl, SqT.of h1k, rfl, _, _, rfl, _, _, rfl, rfl, ?_⟩
      dsimp only
      have S14 := S2.trans S24
      have w3'' := w3'.same S24
      have w2'' := w2'.same S24
      obtain ⟨dxb, db, kvb, hfb, _⟩ := id w3''
      obtain ⟨dxa, da, kva, hfa, _⟩ := id w2''
      have hd4 := S14 _ _ hd1
      refine ⟨_, rfl, fb, dxb, _, rfl, hfb, rfl, _, rfl, ?_⟩
      dsimp only [tNil, List.nil_append, List.cons_append, List.append_nil]
      refine at_cnt J hy roi li w3'' ln hd4 vlo.len vok.bd vlo.lets fun H5 S5 => ?_
      rw [ec]
      refine ⟨_, rfl, rfl, _, rfl, ifF (by simp) ?_⟩
      refine ⟨_, rfl, by show 0 ≤ sizeLine; decide, fun e1 H6 S6 n6 h6 => ?_⟩
      have S46 := S5.trans S6
      refine ⟨_, rfl, fa, dxa, _, rfl, S46 _ _ hfa, rfl, _, rfl, ?_⟩
      dsimp only [tNil, List.nil_append, List.cons_append, List.append_nil]
      refine at_wid J hy roi li (w2''.same S46) ln (S46 _ _ hd4) vlo.len vok.bd vlo.lets fun H7 S7 => ?_
      rw [ew]
      refine ⟨by show 1 ≤ sizeLine; decide, fun e2 H8 S8 n8 h8 => ⟨by show 2 ≤ sizeLine; decide, fun e3 H9 S9 n9 h9 => ?_⟩⟩
      have S69 := S7.trans (S8.trans S9)
      have S49 := S46.trans S69
      refine ⟨.list (ks.map PyData.int), [.list [], .list [.int ww]], dp_intsW ks (S49 _ _ h2k), .tup (SqT.of h9) (.cons (.lst (SqL.of (S69 _ _ h6)) .nil) (.cons (.lst (SqL.of (S9 _ _ h8)) (.cons (.int _) .nil)) .nil)), shaped_intsW ks, shaped_two ww, ?_, _, rfl, ifF rfl ⟨⟨_, _, _, _, _, rfl⟩, S14.trans S49⟩⟩
      rcases hks with e | e
      · rw [e]; simp [PyData.eqv, PyData.eqvAll]
      · rw [e]; simp [PyData.eqv, PyData.eqvAll]
    · rintro σ' H2 ⟨⟨u5, u6, u7, u8, u9, rfl⟩, S2⟩
      exact k H2 (S1.trans S2)
end
end E4

set_option Elab.async false
set_option linter.all false
set_option maxRecDepth 100000
set_option maxHeartbeats 2000000
set_option exponentiation.threshold 500000
/-! _law_great_right -/
namespace E4
open PySem PySem.Spec PyProof.Rows L2
open C8 (Cal Mak Met InsC pe_c pe_mt pe_mt0 call_isC clsBody)
abbrev sGreat : Stmt := top 55
def termY (vl : Vls) (ys : List Sd) (i : Nat) : Int := match ys[i]? with
  | none => 0
  | some x => widY vl ys i x * cntY vl ys i x
theorem tele (vl : Vls) : ∀ (n : Nat) (ys : List Sd), ys.length = n → ((List.range n).map (termY vl ys)).sum = backI vl ys
  | 0, ys, h => by
    have : ys = [] := List.length_eq_zero_iff.mp h
    subst this
    rfl
  | n + 1, ys, h => by
    have hz : ys[n]? = some ys[n] := List.getElem?_eq_getElem (by omega)
    generalize ys[n] = z at hz
    have e : ys = ys.take n ++ [z] := by rw [← take_snoc hz, List.take_of_length_le (by omega)]
    have lt : (ys.take n).length = n := by rw [List.length_take]; omega
    have ih := tele vl n (ys.take n) lt
    generalize ys.take n = zs at e lt ih
    subst e
    have t1 : ∀ i, i < n → termY vl (zs ++ [z]) i = tm vl z.2.1 * termY vl zs i := fun i hi => by
      have h1 : (zs ++ [z])[i]? = zs[i]? := List.getElem?_append_left (by omega)
      have hx : zs[i]? = some zs[i] := List.getElem?_eq_getElem (by omega)
      generalize zs[i] = x at hx
      unfold termY
      rw [h1, hx]
      dsimp only
      have w : widY vl (zs ++ [z]) i x = widY vl zs i x := by unfold widY; rw [List.take_append_of_le_length (by omega)]
      have a : aroundL (zs ++ [z]) i = aroundL zs i ++ z.2.1 := by
        unfold aroundL
        rw [List.drop_append_of_le_length (by omega), List.flatMap_append]
        simp
      have c : cntY vl (zs ++ [z]) i x = tm vl z.2.1 * cntY vl zs i x := by
        unfold cntY
        rw [a, tm_append]
        grind
      rw [w, c]
      grind
    have t2 : termY vl (zs ++ [z]) n = (TW vl z - backI vl zs) * (tm vl z.2.1 - 1) := by
      have h1 : (zs ++ [z])[n]? = some z := by rw [List.getElem?_append_right (by omega), lt, Nat.sub_self]; rfl
      unfold termY
      rw [h1]
      dsimp only
      have w : widY vl (zs ++ [z]) n z = TW vl z - backI vl zs := by unfold widY; rw [List.take_append_of_le_length (by omega), List.take_of_length_le (by omega)]
      have a : aroundL (zs ++ [z]) n = [] := by
        unfold aroundL
        rw [List.drop_of_length_le (by rw [List.length_append]; simp; omega)]
        rfl
      have o : tm vl ([] : List Str) = 1 := rfl
      have c : cntY vl (zs ++ [z]) n z = tm vl z.2.1 - 1 := by
        unfold cntY
        rw [a, o]
        omega
      rw [w, c]
    have sm : ∀ (c : Int) (l : List Nat) (f g : Nat → Int), (∀ i ∈ l, f i = c * g i) → (l.map f).sum = c * (l.map g).sum := by
      intro c l f g
      induction l with
      | nil => intro _; simp
      | cons i l ih2 =>
        intro h
        rw [List.map_cons, List.sum_cons, List.map_cons, List.sum_cons, h i List.mem_cons_self, ih2 fun j hj => h j (List.mem_cons_of_mem _ hj), Int.mul_add]
    have b : backI vl (zs ++ [z]) = backI vl zs + (tm vl z.2.1 - 1) * TW vl z := by
      unfold backI
      rw [List.map_append, List.sum_append]
      simp
    rw [List.range_succ, List.map_append, List.sum_append, List.map_cons, List.map_nil, List.sum_cons, List.sum_nil, t2, sm _ _ _ _ (fun i hi => t1 i (List.mem_range.mp hi)), ih, b]
    grind
theorem back_perm (vl : Vls) {a b : List Sd} (h : a.Perm b) : backI vl a = backI vl b := sum_perm (h.map _)
theorem spot_last (vl : Vls) : ∀ xs : List Sd, spotI vl xs (xs.map fun x => tm vl x.2.1 - 1) = backI vl xs
  | [] => rfl
  | x :: xs => by
    have ih := spot_last vl xs
    rw [List.map_cons, spot_consW, ih]
    rfl
theorem int_bound {v : Int} {b : Nat} (h : v.natAbs < 2 ^ b) {c : Nat} (hc : b ≤ c) : v.natAbs < 2 ^ c := Nat.lt_of_lt_of_le h (Nat.pow_le_pow_right (by decide) hc)
theorem add_bound {u v : Int} {a : Nat} (h1 : u.natAbs < 2 ^ a) (h2 : v.natAbs < 2 ^ a) : (u + v).natAbs < 2 ^ (a + 1) := by
  rw [Nat.pow_succ]; omega
theorem mul_bound {u v : Int} {a b : Nat} (h1 : u.natAbs < 2 ^ a) (h2 : v.natAbs < 2 ^ b) : (u * v).natAbs < 2 ^ (a + b) := by
  rw [Int.natAbs_mul, Nat.pow_add]
  exact Nat.mul_lt_mul'' h1 h2
theorem tm_b {vl : Vls} {m : List Str} (hb : AllV (fun n => 1 ≤ n ∧ n.natAbs < 2 ^ 400) vl) (h : ∀ z ∈ m, z ∈ vl.map (·.1)) (l : m.length ≤ 40) : (tm vl m).natAbs < 2 ^ 16001 := int_bound (tm_lt hb h) (by omega)
theorem back_b {vl : Vls} (hb : AllV (fun n => 1 ≤ n ∧ n.natAbs < 2 ^ 400) vl) : ∀ {xs : List Sd}, (∀ x ∈ xs, RowOk x) → (∀ z ∈ letsW xs, z ∈ vl.map (·.1)) → (backI vl xs).natAbs < 2 ^ (32010 + xs.length)
  | [], _, _ => by show (0 : Int).natAbs < _; exact Nat.pow_pos (by decide)
  | x :: xs, h, hm => by
    have hm2 : ∀ z ∈ letsW xs, z ∈ vl.map (·.1) := fun z hz => hm z (List.mem_append_right _ hz)
    have ih := back_b hb (fun y hy => h y (List.mem_cons_of_mem _ hy)) hm2
    obtain ⟨_, _, z3, z4⟩ := h x List.mem_cons_self
    have m1 : ∀ z ∈ x.2.1, z ∈ vl.map (·.1) := fun z hz => hm z (List.mem_append_left _ (List.mem_append_left _ hz))
    have m2 : ∀ z ∈ x.2.2, z ∈ vl.map (·.1) := fun z hz => hm z (List.mem_append_left _ (List.mem_append_right _ hz))
    have b1 := tm_b hb m1 (by omega)
    have b2 := tm_b hb m2 (by omega)
    have b3 : (tm vl x.2.1 - 1).natAbs < 2 ^ 16002 := by rw [Nat.pow_succ]; have : 1 ≤ 2 ^ 16001 := Nat.one_le_two_pow; omega
    have b4 := mul_bound b3 b2
    have e : backI vl (x :: xs) = (tm vl x.2.1 - 1) * TW vl x + backI vl xs := rfl
    rw [e]
    have := add_bound (int_bound b4 (c := 32010 + xs.length) (by omega)) ih
    exact int_bound this (by rw [List.length_cons]; omega)
end E4

set_option Elab.async false
set_option linter.all false
set_option maxRecDepth 100000
set_option maxHeartbeats 2000000
set_option exponentiation.threshold 500000
/-! _law_great_right, the def -/
namespace E4
open PySem PySem.Spec PyProof.Rows L2
open C8 (Cal Mak Met InsC pe_c pe_mt pe_mt0 call_isC clsBody)
def spGreat (P : Program) (w : World) (K : PySem.W.Frag) (CF : Addr) : Sp := fun vs H Q _ => ∃ (l p d : Addr) (ts us : List Addr) (xs ys : List Sd) (vl : Vls) (js : List Jp), vs = [.ref l, .ref p, .ref d] ∧ SqL K H l (ts.map V.ref) ∧ SdsAt H ts xs ∧ H d = some (.dK (dI vl)) ∧ ValsOk vl xs ∧ VlOk vl ∧ (∀ x ∈ xs, RowOk x) ∧ xs.length ≤ 8 ∧
  ys.Perm xs ∧ H p = some (.lst (us.map V.ref)) ∧ Paired (JpAt P w K CF H) us js ∧ JsOk ys js ∧
  ∀ H', Same H H' → Q (.bl true) H'
theorem sub_bound {u v : Int} {a : Nat} (h1 : u.natAbs < 2 ^ a) (h2 : v.natAbs < 2 ^ a) : (u - v).natAbs < 2 ^ (a + 1) := by
  rw [Nat.pow_succ]
  generalize 2 ^ a = M at h1 h2 ⊢
  omega
section
variable {P : Program} {w : World} {K : PySem.W.Frag} {mg : Str → Option Value} {base : Heap} {CF : Addr}
abbrev NG : List Str := ["_law_rows", "_law_told", "_law_sizes_here", "_law_last", "_law_row", "_law_word", "_law_width", "_law_steps_here"]
theorem scGreat : FnScope NG ["_law_rows", "_law_told", "_law_sizes_here"] (defScope sGreat) := ⟨rfl, rfl, rfl, by decide +kernel, rfl, by decide +kernel, by decide +kernel⟩
theorem ok_great {f : Addr} {fd : FuncData} (F : Fun K "_law_great_right" "_law_great_right" sGreat f fd) (B4 : E3.Bt4 mg) (Tm : Cal P w K mg base 1 "_law_times" (spTimes K) []) (Sp_ : Cal P w K mg base 2 "_law_spot" (spSpot K) []) (At : Met P w K mg base 3 CF "at" (E2.spAt P w K CF) []) : FnOk P w K mg base CX0 5 f fd ["_law_rows", "_law_told", "_law_sizes_here"] (spGreat P w K CF) := by
  refine F.ok scGreat (fun vs H Q E h => ?_) (fun cdv A_ outer s H vs Q E hr h => ?_)
  · obtain ⟨l, p, d, ts, us, xs, ys, vl, js, rfl, _⟩ := h
    rfl
  · obtain ⟨l, p, d, ts, us, xs, ys, vl, js, rfl, hl, hx, hd, vok, vlo, ok, l8, py, hp, hj, jok, k⟩ := h
    refine ⟨_, pss_cons (ps_setLc (i := 3) (own := [("_law_row", 4)]) (g := gName 4) (tt := tYes) (te := tOp (rI0 fun i j => .int (i - j)) (tCall (spTimes K) [] C8.E0 (tCons (tOp (rIxT K) (tVar 4) (tC (.int 1))) (tCons (tVar 2) tNil))) (tC (.int 1))) (by rfl) scGreat.nd rfl rfl (by rfl) (pi_list (pv 0))
          (blkOk_by (own := [("_law_row", 4)]) (N := NG) (sc := defScope sGreat) (by decide +kernel))
          (fun _ _ _ _ _ => pg_name (i := 4) scGreat.nd rfl (Or.inl rfl)) (fun _ _ _ _ _ => pts_nil)
          (fun _ _ _ _ _ => by exact pe_op op_sub (pe_c Tm hr (by decide) rfl (pa_cons (pe_ix ix_tup (pv 4) pe_int (fun _ _ => rfl)) (pa_cons (pv 2) pa_nil))) pe_int))
      (pss_one (ps_ret (pe_cmpR op_eq (pe_callB (cr_sum rfl) (by rfl) B4.sum_ (by decide +kernel) (pa_cons (pe_lc (own := [("_law_word", 5), ("_law_width", 6), ("_law_steps_here", 7)]) (g := gTup K 3 (gCons (gName 5) (gCons (gName 6) (gCons (gName 7) gNil)))) (tt := tYes)
            (te := tOp (rI CMulW fun i j => .int (i * j)) (tMeth CF "at" (E2.spAt P w K CF) [] C8.E0 (tVar 6) (tCons (tVar 2) tNil)) (tMeth CF "at" (E2.spAt P w K CF) [] C8.E0 (tVar 7) (tCons (tVar 2) tNil))) rfl scGreat.nd (pi_list (pv 1))
            (blkOk_by (own := [("_law_word", 5), ("_law_width", 6), ("_law_steps_here", 7)]) (N := NG) (sc := defScope sGreat) (by decide +kernel))
            (fun _ _ _ _ _ => pg_tup rfl (pgs_cons (pg_name (i := 5) scGreat.nd rfl (Or.inl rfl)) (pgs_cons (pg_name (i := 6) scGreat.nd rfl (Or.inl rfl)) (pgs_cons (pg_name (i := 7) scGreat.nd rfl (Or.inl rfl)) pgs_nil)))) (fun _ _ _ _ _ => pts_nil)
            (fun _ _ _ _ _ => by exact pe_op op_mulW (pe_mt At hr (by decide) (pv 6) (pa_cons (pv 2) pa_nil)) (pe_mt At hr (by decide) (pv 7) (pa_cons (pv 2) pa_nil)))) pa_nil))
          (pe_c Sp_ hr (by decide) rfl (pa_cons (pv 0) (pa_cons (pv 2) (pa_cons (pv 3) pa_nil)))) (by rfl)))), ?_⟩
    have lt := hx.length
    have roi : ∀ y ∈ ys, RowOk y := fun y hy => ok y (py.mem_iff.mp hy)
    have li : ys.length ≤ 8 := by rw [py.length_eq]; exact l8
    have ln : ∀ z ∈ letsW ys, z ∈ vl.map (·.1) := fun z hz => by
      obtain ⟨y, hy, h⟩ := List.mem_flatMap.mp hz
      exact vok.mem _ (py.mem_iff.mp hy) z (List.mem_append.mp h)
    have mem1 : ∀ x ∈ xs, ∀ z ∈ x.2.1, z ∈ vl.map (·.1) := fun x hx z hz => vok.mem x hx z (.inl hz)
    refine seq_asg ?_
    refine ⟨_, rfl, l, rfl, ⟨_, hl⟩, fun D nD => lc_it (walk_list (xs := ts.map V.ref)) (fun i H' => Same H H' ∧ H' D = some (.lst (((xs.take i).map fun x => tm vl x.2.1 - 1).map V.int))) ⟨Same.upd nD, upd_same⟩ (fun i H' _ q => hl.same q.1) ?_ ?_⟩
    · rintro i v H1 H2 hi ⟨S1, hD⟩ ⟨rfl, hxi⟩
      rw [List.length_map] at hi
      rw [List.getElem?_map] at hxi
      obtain ⟨t, htt, rfl⟩ := Option.map_eq_some_iff.mp hxi
      obtain ⟨x, hxx, c1, c2, w0, w1, w2⟩ := paired_at hx htt
      have xm := List.mem_of_getElem? hxx
      have s3 := (ok x xm).2.2.1
      refine ⟨rfl, iteT (B := False) ?_⟩
      refine ⟨_, rfl, t, _, 1, _, rfl, rfl, SqT.of (S1 _ _ w0), rfl, _, rfl, c1, d, x.2.1, vl, rfl, SqL.of (S1 _ _ w1), S1 _ _ hd, mem1 x xm, vok.bd, by omega, _, _, rfl, rfl, _, hD, ?_, ?_, ?_⟩
      · rw [List.length_map, List.length_map, List.length_take, sizeLine_eq]
        omega
      · intro c o e
        rw [upd_ne (ne_of_none e nD)]
        exact S1 _ _ e
      · rw [upd_same, take_snoc hxx, List.map_append, List.map_append]
        rfl
    rintro H1 ⟨S1, hD⟩
    rw [List.length_map, lt, List.take_length] at hD
    have hp1 := S1 _ _ hp
    have hd1 := S1 _ _ hd
    have hj1 : Paired (JpAt P w K CF H1) us js := paired_imp hj fun _ _ _ z => z.same S1
    have lus : us.length = ys.length := by rw [hj.length, jok.1]
    dsimp only
    refine ⟨_, rfl, p, rfl, ⟨_, SqL.of hp1⟩, fun D2 nD2 => lc_it (walk_list (xs := us.map V.ref)) (fun i H' => Same H1 H' ∧ H' D2 = some (.lst (((List.range i).map (termY vl ys)).map V.int))) ⟨Same.upd nD2, upd_same⟩ (fun i H' _ q => SqL.of (q.1 _ _ hp1)) ?_ ?_⟩
    · rintro i v H2 H3 hi ⟨S2, hD2⟩ ⟨rfl, hxi⟩
      rw [List.length_map] at hi
      rw [List.getElem?_map] at hxi
      obtain ⟨u, hu, rfl⟩ := Option.map_eq_some_iff.mp hxi
      obtain ⟨j, hji, fa, fb, w1, w2, w3⟩ := paired_at hj1 hu
      obtain ⟨y, hy⟩ : ∃ y, ys[i]? = some y := ⟨_, List.getElem?_eq_getElem (h := by omega)⟩
      have J := jok.2 i y j hy hji
      have w2' := w2.same S2
      have w3' := w3.same S2
      obtain ⟨dxb, db, kvb, hfb, _⟩ := id w3'
      obtain ⟨dxa, da, kva, hfa, _⟩ := id w2'
      have ym := List.mem_of_getElem? hy
      obtain ⟨_, _, y3, y4⟩ := roi y ym
      have inN : ∀ y ∈ ys, ∀ z, z ∈ y.2.1 ∨ z ∈ y.2.2 → z ∈ vl.map (·.1) := fun y hy z hz => ln z (List.mem_flatMap.mpr ⟨y, hy, List.mem_append.mpr hz⟩)
      have tb : ∀ zs : List Sd, (∀ y ∈ zs, RowOk y) → (zs.flatMap (·.2.1)).length ≤ 3 * zs.length := by
        intro zs
        induction zs with
        | nil => intro _; exact Nat.le_refl _
        | cons z zs ih =>
          intro h
          have h1 := ih fun y hy => h y (List.mem_cons_of_mem _ hy)
          obtain ⟨_, _, z3, z4⟩ := h z List.mem_cons_self
          rw [List.flatMap_cons, List.length_append, List.length_cons]
          omega
      have al : (aroundL ys i).length ≤ 40 := by
        have := tb (ys.drop (i + 1)) fun y hy => roi y (List.mem_of_mem_drop hy)
        rw [List.length_drop] at this
        show ((ys.drop (i + 1)).flatMap (·.2.1)).length ≤ 40
        omega
      have am : ∀ z ∈ aroundL ys i, z ∈ vl.map (·.1) := fun z hz => by
        obtain ⟨y, hy, h⟩ := List.mem_flatMap.mp hz
        exact inN y (List.mem_of_mem_drop hy) z (.inl h)
      have bw : (widY vl ys i y).natAbs < 2 ^ 40001 := by
        have b1 := int_bound (tm_b vok.bd (fun z hz => inN y ym z (.inr hz)) (by omega : y.2.2.length ≤ 40)) (c := 40000) (by decide)
        have b2 := int_bound (back_b vok.bd (xs := ys.take i) (fun y hy => roi y (List.mem_of_mem_take hy)) fun z hz => by
          obtain ⟨y, hy, h⟩ := List.mem_flatMap.mp hz
          exact inN y (List.mem_of_mem_take hy) z (List.mem_append.mp h)) (c := 40000) (by have := List.length_take_le' i ys; omega)
        exact sub_bound b1 b2
      have bc : (cntY vl ys i y).natAbs < 2 ^ 40001 := by
        have b1 := tm_b vok.bd am al
        have b2 := tm_b vok.bd (fun z hz => inN y ym z (.inl hz)) (by omega : y.2.1.length ≤ 40)
        have b3 := int_bound (mul_bound b1 b2) (c := 40000) (by decide)
        have b4 := int_bound b1 (c := 40000) (by decide)
        exact sub_bound b3 b4
      refine ⟨u, _, rfl, SqT.of (S2 _ _ w1), rfl, _, _, rfl, _, _, rfl, _, _, rfl, rfl, ?_⟩
      refine ⟨rfl, iteT (B := False) ?_⟩
      refine ⟨_, rfl, fa, dxa, _, rfl, hfa, rfl, _, rfl, ?_⟩
      dsimp only [tNil, List.nil_append, List.cons_append, List.append_nil]
      refine at_wid J hy roi li w2' ln (S2 _ _ hd1) vlo.len vok.bd vlo.lets fun H4 S4 => ?_
      refine ⟨_, rfl, fb, dxb, _, rfl, S4 _ _ hfb, rfl, _, rfl, ?_⟩
      dsimp only [tNil, List.nil_append, List.cons_append, List.append_nil]
      refine at_cnt J hy roi li (w3'.same S4) ln (S4 _ _ (S2 _ _ hd1)) vlo.len vok.bd vlo.lets fun H5 S5 => ?_
      have S25 := S4.trans S5
      refine ⟨_, _, rfl, rfl, cmw bw bc (by decide) (by decide) (by decide), _, S25 _ _ hD2, ?_, ?_, ?_⟩
      · rw [List.length_map, List.length_map, List.length_range, sizeLine_eq]
        omega
      · intro c o e
        rw [upd_ne (ne_of_none e nD2)]
        exact S25 _ _ (S2 _ _ e)
      · have et : termY vl ys i = widY vl ys i y * cntY vl ys i y := by unfold termY; rw [hy]
        rw [upd_same, List.range_succ, List.map_append, List.map_append, List.map_cons, List.map_nil, et]
        rfl
    rintro H2 ⟨S2, hD2⟩
    rw [List.length_map, lus] at hD2
    have S02 := S1.trans S2
    refine ⟨D2, _, rfl, SqL.of hD2, ?_⟩
    have e1 := tele vl ys.length ys rfl
    have e2 := spot_last vl xs
    rw [e1]
    refine ⟨_, rfl, _, rfl, _, rfl, l, d, D, ts, xs, vl, xs.map (fun x => tm vl x.2.1 - 1), rfl, hl.same S02, hx.same S02, S02 _ _ hd, vok, ok, l8, SqL.of (S2 _ _ hD), List.length_map .., fun i hi => ?_, fun H3 S3 => ?_⟩
    · obtain ⟨x, hx, rfl⟩ := List.mem_map.mp hi
      have s3 := (ok x hx).2.2.1
      have b1 := int_bound (tm_lt vok.bd (mem1 x hx)) (c := 3999) (by omega)
      rw [show (4000 : Nat) = 3999 + 1 from rfl, Nat.pow_succ]
      have : 1 ≤ 2 ^ 3999 := Nat.one_le_two_pow
      omega
    · rw [e2, back_perm vl py]
      refine ⟨rfl, ?_⟩
      rw [decide_eq_true rfl]
      exact k H3 (S02.trans S3)
end
end E4

set_option Elab.async false
set_option linter.all false
set_option maxRecDepth 100000
set_option maxHeartbeats 1000000
set_option exponentiation.threshold 5000
/-! what k61's law compares; a route's rows -/
namespace E4
open PySem PySem.Spec PyProof.Rows L2
open C8 (Cal Mak Met InsC pe_c pe_mt pe_mt0 call_isC clsBody)
theorem norm_rows {xs : List Sd} (ro : ∀ x ∈ xs, RowOk x) : ∀ x ∈ xs.map norm, RowOk x := fun r hr => by
  obtain ⟨u, hu, rfl⟩ := List.mem_map.mp hr
  obtain ⟨a1, a2, a3, a4⟩ := ro u hu
  exact ⟨fun z hz => a1 z ((sortT_perm _).mem_iff.mp hz), fun z hz => a2 z ((sortT_perm _).mem_iff.mp hz), by show (sortT u.2.1).length ≤ 3; rw [length_sortT]; exact a3, by show (sortT u.2.2).length ≤ 8; rw [length_sortT]; exact a4⟩
/-- a side as jumps tells it -/
abbrev DJp (P : Program) (w : World) (K : PySem.W.Frag) (C : Addr) : Eqv := DTup K (fun x y H => DFlat x y H ∨ DFm P w K C x y H)
theorem mon_jp {P : Program} {w : World} {K : PySem.W.Frag} {C : Addr} : Mon (DJp P w K C) := mon_tup (mon_flat.or mon_fm)
theorem eqG_jp {X : Cx} {C : Addr} (O : EqM X.prog X.w X.K X.mg X.base 1 C) : EqG X 2 (DJp X.prog X.w X.K C) := eqG_tup (mon_flat.or mon_fm) (EqG.or (eqG_flat.mono (by decide)) (eqG_fm O))
theorem ne_jumps {P : Program} {w : World} {K : PySem.W.Frag} {CF : Addr} {H : Hp} {p q : Addr} {ts us : List Addr} {xs : List Sd} {js ks : List Jp} {Q : VK} (hp : H p = some (.lst (ts.map V.ref))) (hq : H q = some (.lst (us.map V.ref)))
    (h1 : Paired (JpAt P w K CF H) ts js) (h2 : Paired (JpAt P w K CF H) us ks) (o1 : JsOk xs js) (o2 : JsOk xs ks) (k : ∀ H', Same H H' → Q (.bl false) H') : rNeG (DJp P w K CF) (.ref p) (.ref q) H Q := by
  have l1 := h1.length
  have l2 := h2.length
  refine ⟨⟨p, q, _, _, rfl, rfl, hp, hq, by rw [List.length_map, List.length_map, l1, l2, o1.1, o2.1], fun i x y hx hy => ?_⟩, k⟩
  rw [List.getElem?_map] at hx hy
  obtain ⟨t, ht, rfl⟩ := Option.map_eq_some_iff.mp hx
  obtain ⟨u, hu, rfl⟩ := Option.map_eq_some_iff.mp hy
  obtain ⟨j, hj, a, b, r1, r2, r3⟩ := paired_at h1 ht
  obtain ⟨m, hm, c, d, q1, q2, q3⟩ := paired_at h2 hu
  obtain ⟨s, hs⟩ : ∃ s, xs[i]? = some s := by
    have := (List.getElem?_eq_some_iff.mp hj).1
    exact ⟨_, List.getElem?_eq_getElem (by rw [← o1.1]; exact this)⟩
  have J := o1.2 i s j hs hj
  have M := o2.2 i s m hs hm
  refine ⟨t, u, _, _, rfl, rfl, SqT.of r1, SqT.of q1, .cons (.inl ?_) (.cons (.inr ⟨a, c, _, _, rfl, rfl, r2, q2, eqFm_of_pol J.cw M.cw (by rw [J.pw, M.pw])⟩) (.cons (.inr ⟨b, d, _, _, rfl, rfl, r3, q3, eqFm_of_pol J.co M.co (by rw [J.po, M.po])⟩) .nil))⟩
  rw [J.nm, M.nm]
  exact ⟨rfl, rfl, by simp [eqV]⟩
/-- rows by their names -/
theorem rows_one {ss : List Sd} (nd : (ss.map (·.1)).Nodup) : ∀ {xs ys : List Sd}, xs.map (·.1) = ys.map (·.1) → (∀ x ∈ xs, x ∈ ss) → (∀ x ∈ ys, x ∈ ss) → xs = ys
  | [], [], _, _, _ => rfl
  | [], _ :: _, h, _, _ => nomatch h
  | _ :: _, [], h, _, _ => nomatch h
  | x :: xs, y :: ys, h, h1, h2 => by
    rw [List.map_cons, List.map_cons] at h
    injection h with e1 e2
    rw [rows_one nd e2 (fun z hz => h1 z (List.mem_cons_of_mem _ hz)) (fun z hz => h2 z (List.mem_cons_of_mem _ hz))]
    congr 1
    obtain ⟨i, hi⟩ := List.mem_iff_getElem?.mp (h1 x List.mem_cons_self)
    obtain ⟨j, hj⟩ := List.mem_iff_getElem?.mp (h2 y List.mem_cons_self)
    have a1 : (ss.map (·.1))[i]? = some x.1 := by rw [List.getElem?_map, hi]; rfl
    have a2 : (ss.map (·.1))[j]? = some y.1 := by rw [List.getElem?_map, hj]; rfl
    have := (List.getElem?_inj (List.getElem?_eq_some_iff.mp a1).1 nd).mp (a1.trans (by rw [e1, a2]))
    subst this
    exact Option.some.inj (hi.symm.trans hj)
theorem route_pick {xs : List Sd} : ∀ {wk : List Str}, (∀ n ∈ wk, n ∈ xs.map (·.1)) → ∃ A : List (Nat × Sd), A.map (·.2.1) = wk ∧ ∀ q ∈ A, xs[q.1]? = some q.2
  | [], _ => ⟨[], rfl, fun _ h => absurd h List.not_mem_nil⟩
  | n :: wk, h => by
    obtain ⟨A, a1, a2⟩ := route_pick (xs := xs) (wk := wk) fun m hm => h m (List.mem_cons_of_mem _ hm)
    obtain ⟨x, hx, e⟩ := List.mem_map.mp (h n List.mem_cons_self)
    obtain ⟨i, hi⟩ := List.mem_iff_getElem?.mp hx
    refine ⟨(i, x) :: A, by rw [List.map_cons, a1, e], fun q hq => ?_⟩
    rcases List.mem_cons.mp hq with r | r
    · rw [r]; exact hi
    · exact a2 q r
theorem map_nodup {α β : Type} {f : α → β} : ∀ {l : List α}, (l.map f).Nodup → l.Nodup
  | [], _ => List.nodup_nil
  | x :: l, h => by
    rw [List.map_cons] at h
    obtain ⟨h1, h2⟩ := List.nodup_cons.mp h
    exact List.nodup_cons.mpr ⟨fun m => h1 (List.mem_map.mpr ⟨x, m, rfl⟩), map_nodup h2⟩
/-- the rows of a route -/
theorem route_of {xs : List Sd} {wk : List Str} (nd : (xs.map (·.1)).Nodup) (pw : wk.Perm (xs.map (·.1))) : ∃ A : List (Nat × Sd), A.map (·.2.1) = wk ∧ RouteOk xs A ∧ A.length = xs.length ∧ (A.map (·.2)).Perm xs ∧ (inW A).map (·.1) = wk.reverse ∧ ∀ y ∈ inW A, y ∈ xs := by
  obtain ⟨A, a1, a2⟩ := route_pick (xs := xs) (wk := wk) fun n hn => pw.mem_iff.mp hn
  have ndw : (A.map (·.2.1)).Nodup := by rw [a1]; exact pw.nodup_iff.mpr nd
  have nd1 : (A.map (·.1)).Nodup := by
    have e : ∀ B : List (Nat × Sd), (∀ q ∈ B, xs[q.1]? = some q.2) → (B.map (·.2.1)).Nodup → (B.map (·.1)).Nodup := by
      intro B
      induction B with
      | nil => intro _ _; exact List.nodup_nil
      | cons q B ih =>
        intro h1 h2
        rw [List.map_cons] at h2 ⊢
        obtain ⟨n1, n2⟩ := List.nodup_cons.mp h2
        refine List.nodup_cons.mpr ⟨fun m => n1 ?_, ih (fun r hr => h1 r (List.mem_cons_of_mem _ hr)) n2⟩
        obtain ⟨r, hr, er⟩ := List.mem_map.mp m
        have k1 := h1 q List.mem_cons_self
        have k2 := h1 r (List.mem_cons_of_mem _ hr)
        rw [er, k1] at k2
        exact List.mem_map.mpr ⟨r, hr, by rw [Option.some.inj k2]⟩
    exact e A a2 ndw
  have ro : RouteOk xs A := ⟨nd1, a2⟩
  have lA : A.length = xs.length := by
    have h1 := congrArg List.length a1
    rw [List.length_map] at h1
    rw [h1, pw.length_eq, List.length_map]
  have ndA : (A.map (·.2)).Nodup := map_nodup (f := fun x : Sd => x.1) (by rw [List.map_map]; exact ndw)
  have ndx : xs.Nodup := map_nodup (f := fun x : Sd => x.1) nd
  have sub : ∀ x ∈ A.map (·.2), x ∈ xs := fun x hx => by
    obtain ⟨q, hq, rfl⟩ := List.mem_map.mp hx
    exact List.mem_of_getElem? (a2 q hq)
  have pA : (A.map (·.2)).Perm xs := by
    refine (List.perm_ext_iff_of_nodup ndA ndx).mpr fun x => ⟨sub x, fun hx => ?_⟩
    have hn : x.1 ∈ A.map (·.2.1) := by rw [a1]; exact pw.mem_iff.mpr (List.mem_map.mpr ⟨x, hx, rfl⟩)
    obtain ⟨q, hq, e⟩ := List.mem_map.mp hn
    have hq2 : q.2 ∈ A.map (·.2) := List.mem_map.mpr ⟨q, hq, rfl⟩
    have : q.2 = x := by
      have := rows_one nd (xs := [q.2]) (ys := [x]) (by rw [List.map_cons, List.map_cons, e]) (fun z hz => by rw [List.mem_singleton.mp hz]; exact sub _ hq2) (fun z hz => by rw [List.mem_singleton.mp hz]; exact hx)
      exact (List.cons.inj this).1
    rw [← this]
    exact hq2
  refine ⟨A, a1, ro, lA, pA, ?_, fun y hy => ?_⟩
  · rw [List.map_map, ← a1, List.map_reverse]
    rfl
  · obtain ⟨q, hq, rfl⟩ := List.mem_map.mp hy
    exact List.mem_of_getElem? (a2 q (List.mem_reverse.mp hq))
theorem many_perm (vl : Vls) {a b : List Sd} (h : a.Perm b) : manyI vl a = manyI vl b := prodI_perm (h.map _)
end E4

set_option Elab.async false
set_option linter.all false
set_option maxRecDepth 100000
set_option maxHeartbeats 2000000
set_option exponentiation.threshold 500000
/-! _law_due -/
namespace E4
open PySem PySem.Spec PyProof.Rows L2
open E2 (Bd spAdd spSub spMul)
open C8 (Cal Mak Met InsC pe_c pe_mt pe_mt0 call_isC clsBody)
abbrev sDue : Stmt := top 56
/-- a row's two products, as forms -/
def SidF (P : Program) (w : World) (K : PySem.W.Frag) (CF : Addr) (H : Hp) (t : Addr) (x : Sd) : Prop := ∃ f g, H t = some (.tup [.ref f, .ref g]) ∧ FmAt P w K CF H f (oneM x.2.1) ∧ FmAt P w K CF H g (oneM x.2.2)
def spDue (P : Program) (w : World) (K : PySem.W.Frag) (CF : Addr) : Sp := fun vs H Q _ => ∃ (l r : Addr) (ts : List Addr) (wk : List Str) (xs : List Sd), vs = [.ref l, .ref r] ∧ H l = some (.lst (ts.map V.ref)) ∧ SdsAt H ts xs ∧ SdsOk xs ∧ (∀ x ∈ xs, RowOk x) ∧ xs.length ≤ 8 ∧ H r = some (.lst (wk.map V.str)) ∧ wk.Perm (xs.map (·.1)) ∧
  ∀ H' p us js ys, Same H H' → H p = none → H' p = some (.lst (us.map V.ref)) → Paired (JpAt P w K CF H') us js → ys.map (·.1) = wk.reverse → (∀ y ∈ ys, y ∈ xs) → JsOk ys js → Q (.ref p) H'
theorem cut_takeD (xs : List V) (k : Nat) : cutV xs none (some ((k : Nat) : Int)) = xs.take k := by
  unfold cutV
  rw [HT.sIx_nat, HT.sIx_none, List.drop_zero, Nat.sub_zero]
  rcases Nat.le_total k xs.length with h | h
  · rw [Nat.min_eq_left h]
  · rw [Nat.min_eq_right h, List.take_of_length_le (Nat.le_refl _), List.take_of_length_le h]
theorem pick {A : List (Addr × Sd)} : ∀ {l : List Str}, (∀ n ∈ l, n ∈ A.map (·.2.1)) → ∃ B : List (Addr × Sd), B.map (·.2.1) = l ∧ ∀ q ∈ B, q ∈ A ∧ valV (kvR A) (Sum.inr q.2.1) = some (.ref q.1)
  | [], _ => ⟨[], rfl, fun _ h => absurd h List.not_mem_nil⟩
  | n :: l, h => by
    obtain ⟨B, b1, b2⟩ := pick (A := A) (l := l) fun m hm => h m (List.mem_cons_of_mem _ hm)
    obtain ⟨q, q1, q2, q3⟩ := valV_kvR (h n List.mem_cons_self)
    refine ⟨q :: B, by rw [List.map_cons, b1, q2], fun r hr => ?_⟩
    rcases List.mem_cons.mp hr with e | e
    · rw [e]; exact ⟨q1, by rw [q2]; exact q3⟩
    · exact b2 r e
section
variable {P : Program} {w : World} {K : PySem.W.Frag} {mg : Str → Option Value} {base : Heap} {CF : Addr}
abbrev ND : List Str := ["_law_rows", "_law_route", "_law_sides", "_law_back", "_law_found", "_law_word", "_law_span", "_law_step", "_law_at", "_law_steps_here", "_law_outer"]
theorem scDue : FnScope ND ["_law_rows", "_law_route"] (defScope sDue) := ⟨rfl, rfl, rfl, by decide +kernel, rfl, by decide +kernel, by decide +kernel⟩
theorem ok_due {f : Addr} {fd : FuncData} (F : Fun K "_law_due" "_law_due" sDue f fd) (B4 : E3.Bt4 mg) (B : Bl mg) (Nu : Cal P w K mg base 3 "number" (E2.spNumber P w K CF) []) (Lp : Cal P w K mg base 6 "_law_product_form" (spLPF P w K CF) [])
    (Ad : E2.OpM P w K mg base 5 CF "__add__" (spAdd P w K CF)) (Su : E2.OpM P w K mg base 6 CF "__sub__" (spSub P w K CF)) (SuI : OpI P w K mg base 6 CF "sub" (spSub P w K CF)) (Mu : E2.OpM P w K mg base 5 CF "__mul__" (spMul P w K CF)) : FnOk P w K mg base CX0 7 f fd ["_law_rows", "_law_route"] (spDue P w K CF) := by
  obtain ⟨fa, fda, psa, Oa, Fa, ba⟩ := Ad.ex
  obtain ⟨fs, fds, pss_, Os, Fs, bs⟩ := Su.ex
  obtain ⟨fi, fdi, psi, Oi, Fi, bi⟩ := SuI.ex
  obtain ⟨fm, fdm, psm, Om, Fm_, bm⟩ := Mu.ex
  refine F.ok scDue (fun vs H Q E h => ?_) (fun cdv A outer s H vs Q E hr h => ?_)
  · obtain ⟨l, r, ts, wk, xs, rfl, _⟩ := h
    rfl
  · obtain ⟨l, r, ts, wk, xs, rfl, hl, hx, ok, ro, l8, hw, pw, k⟩ := h
    have ul := Nat.lt_of_le_of_lt (Nat.add_le_add_left (by decide : 1 ≤ 64) _) hr.units
    refine ⟨_, pss_cons (ps_par3 (i := 2) (j := 3) (l := 4) (by rfl) scDue.nd rfl rfl rfl (by decide) (by decide) (by decide) rfl rfl rfl (pa_cons pe_dnewS (pa_cons (pe_c Nu hr (by decide) rfl (pa_cons pe_int pa_nil)) (pa_cons (pe_lstS pa_nil) pa_nil))) (by rfl))
      (pss_cons (ps_for PassesOwn.never rfl (pi_list (pv 0)) (pg_tup rfl (pgs_cons (pg_name (i := 5) scDue.nd rfl (Or.inl rfl)) (pgs_cons (pg_name (i := 6) scDue.nd rfl (Or.inl rfl)) (pgs_cons (pg_name (i := 7) scDue.nd rfl (Or.inl rfl)) pgs_nil))))
        (pss_one (ps_dput ul (pv 2) (pv 5) (pe_tupS (pa_cons (pe_c Lp hr (by decide) rfl (pa_cons (pv 6) pa_nil)) (pa_cons (pe_c Lp hr (by decide) rfl (pa_cons (pv 7) pa_nil)) pa_nil))) rfl)))
      (pss_cons (ps_for PassesOwn.never rfl (pi_range3 (by rfl) B4.rng_ (pa_cons (pe_op op_sub (pe_callB call_len_seq (by rfl) B.len_ PySem.boot_len (pa_cons (pv 1) pa_nil)) pe_int) (pa_cons (pe_un un_neg pe_int) (pa_cons (pe_un un_neg pe_int) pa_nil)))) (pg_name (i := 8) scDue.nd rfl (Or.inl rfl))
        (pss_cons (ps_asg (pe_dget ul (pv 2) (pe_ix ix_list (pv 1) (pv 8) (fun _ _ => rfl)) (fun _ _ => rfl)) (pg_tup (by rfl) (pgs_cons (pg_name (i := 6) scDue.nd rfl (Or.inl rfl)) (pgs_cons (pg_name (i := 7) scDue.nd rfl (Or.inl rfl)) pgs_nil))))
        (pss_cons (ps_set (i := 9) scDue.nd rfl (Or.inl rfl) (pe_op (op_ownI (op := .Sub) Oi Fi hr bi) (pv 6) pe_int))
        (pss_cons (ps_for PassesOwn.never rfl (pi_list (pe_slice sl_listS (pv 1) po_none (po_some (pv 8)))) (pg_name (i := 10) scDue.nd rfl (Or.inl rfl))
          (pss_one (ps_set (i := 9) scDue.nd rfl (Or.inl rfl) (pe_op (op_own (op := .Mult) Om Fm_ (hr.mono (by decide)) bm) (pv 9) (pe_ix ix_tup (pe_dget ul (pv 2) (pv 10) (fun _ _ => rfl)) pe_int (fun _ _ => rfl))))))
        (pss_cons (ps_expr (pe_bm PySem.F.plainAttrs_list PySem.F.slot_list_append PySem.F.type_list_append mt_append (pv 4) (pa_cons (pe_tupS (pa_cons (pe_ix ix_list (pv 1) (pv 8) (fun _ _ => rfl)) (pa_cons (pe_op (op_own (op := .Sub) Os Fs hr bs) (pv 7) (pv 3)) (pa_cons (pv 9) pa_nil)))) pa_nil)))
        (pss_one (ps_set (i := 3) scDue.nd rfl (Or.inl rfl) (pe_op (op_own (op := .Add) Oa Fa (hr.mono (by decide)) ba) (pv 3) (pe_op (op_own (op := .Mult) Om Fm_ (hr.mono (by decide)) bm) (pe_op (op_ownI (op := .Sub) Oi Fi hr bi) (pv 6) pe_int) (pv 7))))))))))
      (pss_one (ps_ret (pv 4))))), ?_⟩
    refine fun d H1 S1 nd hd => ⟨0, rfl, fun H2 bk0 S2 nbk0 hbk0 => ⟨by show 0 ≤ sizeLine; decide, fun fo H3 S3 nfo hfo => ⟨_, _, _, rfl, ?_⟩⟩⟩
    rw [if_pos rfl] at hbk0
    have S03 := S1.trans (S2.trans S3)
    have hd3 := S3 _ _ (S2 _ _ hd)
    have hbk3 := hbk0.same S3
    have nd0 : H d = none := nd
    have nfo0 : H fo = none := (S1.trans S2).free nfo
    have hl3 := S03 _ _ hl
    have hx3 := hx.same S03
    have hw3 := S03 _ _ hw
    have lt := hx.length
    have dfo : d ≠ fo := ne_of hd3 hfo (by intro z; cases z)
    refine ⟨_, rfl, l, rfl, ⟨_, SqL.of hl3⟩, for_it (walk_list (xs := ts.map V.ref)) (fun i σ' H' => ∃ u5 u6 u7 A, σ' = [some (.ref l), some (.ref r), some (.ref d), some (.ref bk0), some (.ref fo), u5, u6, u7, none, none, none] ∧ SameB d H3 H' ∧ H' d = some (.dK (kvR A)) ∧ A.map (·.2) = xs.take i ∧ ∀ q ∈ A, SidF P w K CF H' q.1 q.2) ⟨none, none, none, [], rfl, SameB.refl _ _, hd3, rfl, fun _ h => absurd h List.not_mem_nil⟩ (fun i σ' H' _ q => let ⟨_, _, _, _, _, S, _⟩ := q; SqL.of (S _ _ (ne_of hl3 hd3 (by intro z; cases z)) hl3)) ?_ ?_⟩
    · rintro i v σ' Hx H4 hi ⟨u5, u6, u7, A, rfl, S4, hd4, hA, hsA⟩ ⟨rfl, hxi⟩
      rw [List.length_map] at hi
      rw [List.getElem?_map] at hxi
      obtain ⟨t, htt, rfl⟩ := Option.map_eq_some_iff.mp hxi
      obtain ⟨x, hxx, u, v, w1, w2, w3⟩ := paired_at hx3 htt
      have hxm := List.mem_of_getElem? hxx
      obtain ⟨o1, o2, o3, _, _⟩ := ok.ok x hxm
      obtain ⟨_, _, z3, z4⟩ := ro x hxm
      have td : t ≠ d := ne_of w1 hd3 (by intro z; cases z)
      have ud : u ≠ d := ne_of w2 hd3 (by intro z; cases z)
      have vd : v ≠ d := ne_of w3 hd3 (by intro z; cases z)
      have lA : A.length = i := by
        have := congrArg List.length hA
        rw [List.length_map, List.length_take] at this
        omega
      have hxt : (xs.take (i + 1)) = xs.take i ++ [x] := take_snoc hxx
      have nin : x.1 ∉ A.map (fun q : Addr × Sd => q.2.1) := fun c => by
        have e : A.map (fun q : Addr × Sd => q.2.1) = (xs.take i).map (·.1) := by rw [← hA, List.map_map]; rfl
        rw [e] at c
        have nd2 : ((xs.take (i + 1)).map (·.1)).Nodup := by rw [List.map_take]; exact ok.nd.sublist (List.take_sublist _ _)
        rw [hxt, List.map_append] at nd2
        exact (List.nodup_append.mp nd2).2.2 _ c _ (by simp) rfl
      refine ⟨t, _, rfl, SqT.of (S4 _ _ td w1), rfl, _, _, rfl, _, _, rfl, _, _, rfl, rfl, ?_⟩
      refine ⟨_, rfl, u, x.2.1, rfl, SqL.of (S4 _ _ ud w2), o2, by omega, fun H5 f5 S5 hf5 => ⟨_, rfl, v, x.2.2, rfl, SqL.of (S5 _ _ (S4 _ _ vd w3)), o3, by omega, fun H6 f6 S6 hf6 => ⟨by show 2 ≤ sizeLine; decide, fun t' H7 S7 n7 h7 => ?_⟩⟩⟩
      have S47 := S5.trans (S6.trans S7)
      have hd7 := S47 _ _ hd4
      have t'd : t' ≠ d := ne_of h7 hd7 (by intro z; cases z)
      refine ⟨_, rfl, _, rfl, d, _, rfl, DPut.k (k := Sum.inr x.1) hd7 (by unfold kvR; rw [List.length_map, lA, sizeLine_eq]; omega), ?_⟩
      rw [putK_kvR (x := x) rfl nin]
      have S78 : SameB d H7 (upd H7 d (.dK (kvR (A ++ [(t', x)])))) := fun c o n e => by rw [upd_ne n]; exact e
      have h8 : (upd H7 d (.dK (kvR (A ++ [(t', x)])))) d = some (.dK (kvR (A ++ [(t', x)]))) := upd_same
      generalize upd H7 d (.dK (kvR (A ++ [(t', x)]))) = H8 at S78 h8 ⊢
      refine ⟨_, _, _, A ++ [(t', x)], rfl, fun c o n e => S78 _ _ n (S47 _ _ (S4 _ _ n e)), h8, by rw [List.map_append, hA, hxt]; rfl, fun q hq => ?_⟩
      rcases List.mem_append.mp hq with h | h
      · obtain ⟨f, g, g1, g2, g3⟩ := hsA q h
        have qd : q.1 ≠ d := ne_of g1 hd4 (by intro z; cases z)
        exact ⟨f, g, S78 _ _ qd (S47 _ _ g1), fm_sameD (g2.same S47) S78 hd7, fm_sameD (g3.same S47) S78 hd7⟩
      · rw [List.mem_singleton.mp h]
        exact ⟨f5, f6, S78 _ _ t'd h7, fm_sameD (hf5.same (S6.trans S7)) S78 hd7, fm_sameD (hf6.same S7) S78 hd7⟩
    · rintro σ' H4 ⟨u5, u6, u7, A, rfl, S4, hd4, hA, hsA⟩
      rw [List.length_map, lt, List.take_length] at hA
      have hw4 := S4 _ _ (ne_of hw3 hd3 (by intro z; cases z)) hw3
      have hfo4 := S4 _ _ dfo.symm hfo
      have hbk4 := fm_sameD hbk3 S4 hd3
      have eA : A.map (·.2.1) = xs.map (·.1) := by rw [← hA, List.map_map]; rfl
      have lw : wk.length = xs.length := by rw [pw.length_eq, List.length_map]
      obtain ⟨C, c1, c2⟩ := pick (A := A) (l := wk) fun n hn => by rw [eA]; exact pw.mem_iff.mp hn
      have lC : C.length = wk.length := by rw [← c1, List.length_map]
      have cx : ∀ q ∈ C, q.2 ∈ xs := fun q hq => by rw [← hA]; exact List.mem_map.mpr ⟨q, (c2 q hq).1, rfl⟩
      have S04 : ∀ c o, H c = some o → c ≠ d → H4 c = some o := fun c o e n => S4 _ _ n (S03 _ _ e)
      have rg : RgC ((wk.length : Int) - 1) (-1) (-1) wk.length := by
        have h := RgC.neg (i := (wk.length : Int) - 1) (j := -1) (by omega) (by omega) (by decide) (by decide)
        have e : ((wk.length : Int) - 1 - -1).toNat = wk.length := by omega
        rwa [e] at h
      refine ⟨_, rfl, r, _, rfl, .inl (SqL.of hw4), _, _, rfl, rfl, 1, rfl, 1, rfl, (wk.length : Int) - 1, -1, -1, wk.length, by rw [List.length_map], rg, ?_⟩
      let ys : List Sd := C.reverse.map (·.2)
      have ly : ys.length = wk.length := by show (C.reverse.map (·.2)).length = _; rw [List.length_map, List.length_reverse, lC]
      have yx : ∀ y ∈ ys, y ∈ xs := fun y hy => by
        obtain ⟨q, hq, rfl⟩ := List.mem_map.mp hy
        exact cx q (List.mem_reverse.mp hq)
      have yn : ys.map (·.1) = wk.reverse := by rw [List.map_map, List.map_reverse, ← c1]; rfl
      refine for_it walk_rangeC (fun i σ' H' => ∃ bk fb us js u5 u6 u7 u8 u9 u10, σ' = [some (.ref l), some (.ref r), some (.ref d), some (.ref bk), some (.ref fo), u5, u6, u7, u8, u9, u10] ∧ SameB fo H4 H' ∧ H' fo = some (.lst (us.map V.ref)) ∧ Paired (JpAt P w K CF H') us js ∧ (∀ t ∈ us, t ≠ fo) ∧ js.length = i ∧ (∀ (j : Nat) x y, ys[j]? = some x → js[j]? = some y → JOk ys j x y) ∧ FmAt P w K CF H' bk fb ∧ Bw (2 * i) (4 * i) fb ∧ pol fb = backP (ys.take i))
        ⟨bk0, [], [], [], u5, u6, u7, none, none, none, rfl, SameB.refl _ _, hfo4, .nil, fun _ h => absurd h List.not_mem_nil, rfl, fun j x y _ h => by simp at h, hbk4, Bd.nil, by rw [List.take_zero]; exact cst_zero.symm⟩ (fun _ _ _ _ _ => trivial) ?_ ?_
      · rintro i v σ' Hx H5 hi ⟨bk, fb, us, js, u5, u6, u7, u8, u9, u10, rfl, S5, hf5, hj, hus, lj, jok, hbk, bwb, epb⟩ ⟨rfl, rfl⟩
        let at_ : Nat := wk.length - 1 - i
        have eat : ((wk.length : Int) - 1 + (i : Nat) * -1) = (at_ : Nat) := by show _ = ((wk.length - 1 - i : Nat) : Int); omega
        have hat : at_ < C.length := by show wk.length - 1 - i < _; omega
        have hq : C[at_]? = some C[at_] := List.getElem?_eq_getElem hat
        generalize C[at_] = q at hq
        have hqm := List.mem_of_getElem? hq
        have hwa : wk[at_]? = some q.2.1 := by rw [← c1, List.getElem?_map, hq]; rfl
        have hyi : ys[i]? = some q.2 := by
          show (C.reverse.map (·.2))[i]? = _
          rw [List.getElem?_map, List.getElem?_reverse (by omega), lC, hq]
          rfl
        obtain ⟨f1, g1, w1, w2, w3⟩ := hsA q (c2 q hqm).1
        obtain ⟨z1, z2, z3, z4⟩ := ro q.2 (cx q hqm)
        have qf : q.1 ≠ fo := ne_of w1 hfo4 (by intro z; cases z)
        have hd5 := S5 _ _ dfo hd4
        have hw5 := S5 _ _ (ne_of_none hw nfo0) hw4
        have w1' := S5 _ _ qf w1
        have w2' := fm_sameL w2 S5 hfo4
        have w3' := fm_sameL w3 S5 hfo4
        show gName 8 (V.int ((wk.length : Int) - 1 + (i : Nat) * -1)) _ _ _
        rw [eat]
        have B1 : Bd L8 (oneM q.2.2.1) 1 3 1 0 := ⟨canon_one _, Nat.le_refl _, fun x hx => by
          rw [List.mem_singleton.mp hx]
          exact ⟨by show (sortT q.2.2.1).length ≤ 3; rw [length_sortT]; exact z3, fun z hz => z1 z ((sortT_perm _).mem_iff.mp hz)⟩, fun x hx => by rw [List.mem_singleton.mp hx]; exact Bq.int (n := 1)⟩
        have aw : atI (wk.map V.str) (at_ : Nat) = some (.str q.2.1) := atI_get (by rw [List.getElem?_map, hwa]; rfl)
        refine ⟨_, rfl, _, rfl, _, rfl, r, _, _, _, rfl, rfl, SqL.of hw5, aw, d, _, rfl, by rw [← (c2 q hqm).2]; exact DGet.k (k := Sum.inr q.2.1) hd5, ?_⟩
        refine ⟨q.1, _, rfl, SqT.of w1', rfl, _, _, rfl, _, _, rfl, rfl, ?_⟩
        dsimp only
        refine seq_asg ?_
        refine ⟨_, rfl, ?_⟩
        refine subI_op w2' B1 ⟨by decide, by decide, by decide⟩ fun H6 st S6 n6 f6 => ?_
        have BN : Bd L8 (oneM []) 1 3 1 0 := ⟨canon_one _, Nat.le_refl _, fun x hx => by
          rw [List.mem_singleton.mp hx]
          exact ⟨Nat.zero_le _, fun z hz => absurd hz List.not_mem_nil⟩, fun x hx => by rw [List.mem_singleton.mp hx]; exact Bq.int (n := 1)⟩
        have B2 : Bd L8 (addF (oneM q.2.2.1) (E2.negF (oneM []))) 2 3 1 1 := B1.add (c := 1) BN.neg (by decide)
        have P2 : pol (addF (oneM q.2.2.1) (E2.negF (oneM []))) = pm q.2.2.1 + -1 := by rw [pol_sub B1.can BN.can]; show pm _ + -pm [] = _; rw [pm_nil]
        have hw6 := S6 _ _ hw5
        refine ⟨_, rfl, _, rfl, (at_ : Int), rfl, r, _, rfl, SqL.of hw6, fun p7 H7 S7 np7 hp7 => ?_⟩
        have ec : cutV (wk.map V.str) none (some (at_ : Int)) = (wk.take at_).map V.str := by rw [cut_takeD, List.map_take]
        rw [ec] at hp7
        have S57 := S6.trans S7
        have hd7 := S57 _ _ hd5
        have f7 := f6.same S7
        refine ⟨p7, rfl, ⟨_, SqL.of hp7⟩, for_it (walk_list (xs := (wk.take at_).map V.str)) (fun j σ' H' => ∃ st fs u10, σ' = [some (.ref l), some (.ref r), some (.ref d), some (.ref bk), some (.ref fo), u5, some (.ref f1), some (.ref g1), some (.int (at_ : Nat)), some (.ref st), u10] ∧ Same H7 H' ∧ FmAt P w K CF H' st fs ∧ Bd L8 fs 2 (3 * (j + 1)) 1 (1 + j) ∧ pol fs = (pm q.2.2.1 + -1) * pm ((C.take j).flatMap (·.2.2.1)))
          ⟨st, _, u10, rfl, fun _ _ e => e, f7, B2, by rw [P2, List.take_zero, List.flatMap_nil, pm_nil]; grind⟩ (fun j σ' H' _ z => let ⟨_, _, _, _, S, _⟩ := z; SqL.of (S _ _ hp7)) ?_ ?_⟩
        · rintro j v σ' Hy H8 hj' ⟨st8, fs8, v10, rfl, S8, f8, B8, P8⟩ ⟨rfl, hxj⟩
          rw [List.length_map] at hj'
          rw [List.getElem?_map] at hxj
          obtain ⟨n, hn, rfl⟩ := Option.map_eq_some_iff.mp hxj
          rw [List.length_take] at hj'
          rw [List.getElem?_take_of_lt (by omega)] at hn
          have hcj : j < C.length := by omega
          have hq2 : C[j]? = some C[j] := List.getElem?_eq_getElem hcj
          generalize C[j] = q2 at hq2
          have hq2m := List.mem_of_getElem? hq2
          have en : n = q2.2.1 := by
            rw [← c1, List.getElem?_map, hq2] at hn
            exact (Option.some.inj hn).symm
          subst en
          obtain ⟨f2, g2, y1, y2, y3⟩ := hsA q2 (c2 q2 hq2m).1
          obtain ⟨z1', z2', z3', z4'⟩ := ro q2.2 (cx q2 hq2m)
          have q2f : q2.1 ≠ fo := ne_of y1 hfo4 (by intro z; cases z)
          have S58 := S57.trans S8
          have y1' := S58 _ _ (S5 _ _ q2f y1)
          have y2' := (fm_sameL y2 S5 hfo4).same S58
          have BB : Bd L8 (oneM q2.2.2.1) 1 3 1 0 := ⟨canon_one _, Nat.le_refl _, fun x hx => by
            rw [List.mem_singleton.mp hx]
            exact ⟨by show (sortT q2.2.2.1).length ≤ 3; rw [length_sortT]; exact z3', fun z hz => z1' z ((sortT_perm _).mem_iff.mp hz)⟩, fun x hx => by rw [List.mem_singleton.mp hx]; exact Bq.int (n := 1)⟩
          refine ⟨_, rfl, _, rfl, _, rfl, d, _, rfl, by rw [← (c2 q2 hq2m).2]; exact DGet.k (k := Sum.inr q2.2.1) (S58 _ _ hd5), q2.1, _, 0, _, rfl, rfl, SqT.of y1', rfl, ?_⟩
          refine mul_op f8 y2' B8 BB ⟨by decide, by decide, by omega, by decide, by omega, by decide⟩ fun H9 st9 S9 n9 f9 => ?_
          refine ⟨st9, _, _, rfl, S8.trans S9, f9, (B8.mul BB (c := 1) (by decide)).mono (by decide) (by omega) (by omega), ?_⟩
          rw [pol_mulF, P8, take_snoc hq2, List.flatMap_append, List.flatMap_cons, List.flatMap_nil, List.append_nil, pm_app]
          show _ * pm q2.2.2.1 = _
          grind
        rintro σ' H8 ⟨st8, fs8, v10, rfl, S8, f8, B8, P8⟩
        dsimp only
        have S58 := S57.trans S8
        have hf8 := S58 _ _ hf5
        have hw8 := S58 _ _ hw5
        have hbk8 := hbk.same S58
        have w3'' := w3'.same S58
        have B3 : Bw 1 0 (oneM q.2.2.2) := one_bw z2 (by omega)
        refine ⟨_, rfl, .inl ⟨rfl, _, SqL.of hf8⟩, _, rfl, _, rfl, r, _, _, _, rfl, rfl, SqL.of hw8, aw, _, rfl, _, rfl, ?_⟩
        refine sub_op w3'' hbk8 B3 bwb ⟨by decide, by omega, by decide, by omega⟩ (fun H9 bw_ S9 nbw fw => ?_)
        refine ⟨_, rfl, by show 3 ≤ sizeLine; decide, fun rw_ H10 S10 n10 h10 => ?_⟩
        have S510 := S58.trans (S9.trans S10)
        have hf10 := S510 _ _ hf5
        have lus : us.length = i := by rw [hj.length]; exact lj
        refine ⟨fo, _, _, rfl, rfl, hf10, by rw [List.length_map, lus, sizeLine_eq]; omega, ?_⟩
        have nwr : rw_ ≠ fo := ne_of h10 hf10 (by intro z; cases z)
        have S1011 : SameB fo H10 (upd H10 fo (.lst (us.map V.ref ++ [V.ref rw_]))) := fun c o n e => by rw [upd_ne n]; exact e
        have fo11 : (upd H10 fo (.lst (us.map V.ref ++ [V.ref rw_]))) fo = some (.lst ((us ++ [rw_]).map V.ref)) := by rw [upd_same, List.map_append]; rfl
        generalize upd H10 fo (.lst (us.map V.ref ++ [V.ref rw_])) = H11 at S1011 fo11 ⊢
        have fw11 := fm_sameL (fw.same S10) S1011 hf10
        have fst11 := fm_sameL (f8.same (S9.trans S10)) S1011 hf10
        have hbk11 := fm_sameL (hbk.same S510) S1011 hf10
        have hsp11 := fm_sameL (w2'.same S510) S1011 hf10
        have hst11 := fm_sameL (w3'.same S510) S1011 hf10
        have hj11 : Paired (JpAt P w K CF H11) (us ++ [rw_]) (js ++ [(q.2.1, addF (oneM q.2.2.2) (E2.negF fb), fs8)]) := by
          refine paired_snoc ?_ ⟨bw_, st8, S1011 _ _ nwr h10, fw11, fst11⟩
          refine paired_imp hj fun t ht j ⟨x1, x2, g1, g2, g3⟩ => ⟨x1, x2, S1011 _ _ (hus t ht) (S510 _ _ g1), fm_sameL (g2.same S510) S1011 hf10, fm_sameL (g3.same S510) S1011 hf10⟩
        have epm : pm (aroundL ys i) = pm ((C.take at_).flatMap (·.2.2.1)) := by
          refine pm_perm ?_
          have e1 : ys.drop (i + 1) = ((C.take at_).reverse).map (·.2) := by
            show (C.reverse.map (·.2)).drop (i + 1) = _
            rw [← List.map_drop, List.drop_reverse]
            have : C.length - (i + 1) = at_ := by show _ = wk.length - 1 - i; omega
            rw [this]
          unfold aroundL
          rw [e1, List.flatMap_map]
          exact (List.reverse_perm _).flatMap_right _
        have jok11 : ∀ (i' : Nat) x j, ys[i']? = some x → (js ++ [(q.2.1, addF (oneM q.2.2.2) (E2.negF fb), fs8)])[i']? = some j → JOk ys i' x j := by
          intro i' x j hx hj'
          by_cases c : i' < js.length
          · rw [List.getElem?_append_left c] at hj'
            exact jok i' x j hx hj'
          · have e1 : i' = i := by
              have := (List.getElem?_eq_some_iff.mp hj').1
              rw [List.length_append, List.length_singleton] at this
              omega
            subst e1
            rw [List.getElem?_append_right (by omega), lj, Nat.sub_self] at hj'
            obtain rfl := Option.some.inj hj'
            rw [hyi] at hx
            obtain rfl := Option.some.inj hx
            have lwt : (wk.take at_).length = at_ := by rw [List.length_take]; omega
            have P9 : pol fs8 = (pm q.2.2.1 + -1) * pm ((C.take at_).flatMap (·.2.2.1)) := by rw [P8, List.length_map, lwt]
            refine ⟨rfl, canon_addF B3.can bwb.neg.can, B8.can, ?_, ?_⟩
            · rw [← epb]
              exact pol_sub B3.can bwb.can
            · show pol fs8 = _
              rw [P9, pm_app, epm]
              grind
        refine ⟨_, rfl, _, rfl, ?_⟩
        refine subI_op hsp11 B1 ⟨by decide, by decide, by decide⟩ fun H12 m1 S12 n12 f12 => ?_
        have B3b : Bd L8 (oneM q.2.2.2) 1 8 1 0 := ⟨canon_one _, Nat.le_refl _, fun x hx => by
          rw [List.mem_singleton.mp hx]
          exact ⟨by show (sortT q.2.2.2).length ≤ 8; rw [length_sortT]; exact z4, fun z hz => z2 z ((sortT_perm _).mem_iff.mp hz)⟩, fun x hx => by rw [List.mem_singleton.mp hx]; exact Bq.int (n := 1)⟩
        refine ⟨_, rfl, ?_⟩
        refine mul_op f12 (hst11.same S12) B2 B3b ⟨by decide, by decide, by decide, by decide, by decide, by decide⟩ fun H13 m2 S13 n13 f13 => ?_
        have B4_ : Bd L8 (mulF (addF (oneM q.2.2.1) (E2.negF (oneM []))) (oneM q.2.2.2)) 2 11 1 2 := B2.mul B3b (c := 1) (by decide)
        have B5 : Bw 2 (4 * i + 2) (mulF (addF (oneM q.2.2.1) (E2.negF (oneM []))) (oneM q.2.2.2)) := B4_.mono (Nat.le_refl _) (by decide) (by omega)
        have B6 : Bw (2 * i) (4 * i + 2) fb := bwb.mono (Nat.le_refl _) (Nat.le_refl _) (by omega)
        refine add_op ((hbk11.same S12).same S13) f13 B6 B5 ⟨by omega, by decide, by omega, by omega⟩ (fun H14 m3 S14 n14 f14 => ?_)
        have S1114 := S12.trans (S13.trans S14)
        refine ⟨m3, _, us ++ [rw_], js ++ [(q.2.1, addF (oneM q.2.2.2) (E2.negF fb), fs8)], _, _, _, _, _, _, rfl, fun c o n e => S1114 _ _ (S1011 _ _ n (S510 _ _ (S5 _ _ n e))), S1114 _ _ fo11, paired_imp hj11 fun t ht j h => h.same S1114, fun t ht => (List.mem_append.mp ht).elim (hus t) fun q => by rw [List.mem_singleton.mp q]; exact nwr, by rw [List.length_append, lj]; rfl, jok11, f14, ?_, ?_⟩
        · have := B6.add B5 (c := 2) (by decide)
          exact this
        · rw [pol_addF B6.can.nd, pol_mulF, P2, epb, take_snoc hyi, backP_snoc, pm_app]
          show _ + (pm q.2.2.1 + -1) * pm q.2.2.2 = _
          grind
      · rintro σ' H5 ⟨bk, fb, us, js, u5, u6, u7, u8, u9, u10, rfl, S5, hf5, hj, hus, lj, jok, hbk, bwb, epb⟩
        refine ⟨_, rfl, k H5 fo us js ys (fun c o e => S5 _ _ (ne_of_none e nfo0) (S04 _ _ e (ne_of_none e nd0))) nfo0 hf5 hj yn yx ⟨by rw [lj, ly], jok⟩⟩
end
end E4

set_option Elab.async false
set_option linter.all false
set_option maxRecDepth 100000
set_option maxHeartbeats 4000000
set_option exponentiation.threshold 5000
/-! law_k61's law -/
namespace E4
open PySem PySem.Spec PyProof.Rows L2
open C8 (Cal Mak Met InsC pe_c pe_mt pe_mt0 call_isC clsBody)
open E3 (PurseAt spPurse spMixed spDraw)
open LamX (Tabs ExtN TabB CodeO)
theorem jp_frP {P : Program} {w : World} {K : PySem.W.Frag} {CF p t : Addr} {n : Nat} {H H' : Hp} {j : Jp} (h : JpAt P w K CF H t j) (hp : PurseAt H p n) (F : FrP p H H') : JpAt P w K CF H' t j :=
  let ⟨a, b, h1, h2, h3⟩ := h; ⟨a, b, F _ _ (purse_tup hp h1) h1 (fun _ z => nomatch z), fm_frP h2 hp F, fm_frP h3 hp F⟩
theorem frsh_none {p D : Addr} {n : Nat} {H H' : Hp} (F : FrP p H H') (hp : PurseAt H' p n) (nD : H' D = none) : Frsh p H D := by
  refine ⟨purse_none hp nD, fun o e => ?_⟩
  by_cases c : ∃ ps, o = .tbl ps
  · exact c
  · have := F D o (purse_none hp nD) e fun ps z => c ⟨ps, z⟩
    rw [nD] at this
    cases this
theorem ix0 (n : Nat) : seqIndex? 0 (n + 1) = some 0 := by unfold seqIndex?; simp
section
variable {P : Program} {w : World} {K : PySem.W.Frag} {mg : Str → Option Value} {base : Heap} {C CF : Addr}
abbrev NL : List Str := ["_law_script", "_law_cell", "_law_purse_here", "_law_rows", "_law_table", "_law_turn", "_law_route", "_law_told", "_law_most", "_law_sizes_here", "_law_again", "_law_word", "_law_span", "_law_step", "_law_row", "_law_one"]
theorem scLaw : FnScope NL ["_law_script"] (defScope sLaw) := ⟨rfl, rfl, rfl, by decide +kernel, rfl, by decide +kernel, by decide +kernel⟩
theorem ok_law {T : List (Addr × Str)} {f : Addr} {fd : FuncData} (F : Fun K "law" "law" sLaw f fd) (B4 : E3.Bt4 mg) (B : Bl mg) (Pu : Cal P w K mg base 1 "_law_purse" (spPurse K) []) (D : Cal P w K mg base 2 "_law_draw" spDraw []) (Ch : Cal P w K mg base 5 "_law_chain" spChain []) (Le : Cal P w K mg base 4 "_law_letters" spLetters []) (Sh : Cal P w K mg base 3 "_law_shuffled" spShufV [])
    (M1 : Mak P w K mg base 5 "Plain" C (spInit C) []) (O : EqP P w K mg base 1 C) (EqF : EqM P w K mg base 1 CF) (Ju : Cal P w K mg base 7 "jumps" (spJumps P w K C CF) []) (Du : Cal P w K mg base 7 "_law_due" (spDue P w K CF) []) (Sz : Cal P w K mg base 4 "_law_sizes" (spSizesL K) []) (Mn : Cal P w K mg base 2 "_law_many_cells" (spMany K) [])
    (Sr : Cal P w K mg base 5 "_law_small_right" (spSmall P w K CF) []) (Gr : Cal P w K mg base 5 "_law_great_right" (spGreat P w K CF) []) :
    FnOk P w K mg base CX0 8 f fd ["_law_script"] (spLaw T K) := by
  refine F.ok scLaw (fun vs H Q E h => ?_) (fun cdv A_ outer s H vs Q E hr h => ?_)
  · obtain ⟨sc, ns, rfl, _⟩ := h
    rfl
  · obtain ⟨sc, ns, rfl, hs, hl, tb, q⟩ := h
    refine ⟨_, (pss_cons (ps_for PassesOwn.never rfl (pi_range1 rfl B4.rng_ (pa_cons (pe_callB (call_max2 rfl) (by rfl) B4.max_ (by decide +kernel) (pa_cons pe_int (pa_cons (pe_callB call_len_seq (by rfl) B.len_ PySem.boot_len (pa_cons (pe_slice sl_listS (pv 0) po_none (po_some pe_int)) pa_nil)) pa_nil))) pa_nil)) (pg_name (i := 1) scLaw.nd rfl (Or.inl rfl))
      (pss_cons (ps_set (i := 2) scLaw.nd rfl (Or.inr rfl) (pe_c Pu hr (by decide) rfl (pa_cons (pv 0) (pa_cons (pv 1) pa_nil))))
      (pss_cons (ps_set (i := 3) scLaw.nd rfl (Or.inl rfl) (pe_c Ch hr (by decide) rfl (pa_cons (pv 2) (pa_cons (pe_op op_add pe_int (pe_c D hr (by decide) rfl (pa_cons (pv 2) (pa_cons pe_int pa_nil)))) (pa_cons pe_int pa_nil)))))
      (pss_cons (ps_if (pt_cmpR op_eq (pe_c D hr (by decide) rfl (pa_cons (pv 2) (pa_cons pe_int pa_nil))) pe_int (by rfl)) (pss_one (ps_setLc (i := 3) (own := [("_law_word", 11), ("_law_span", 12), ("_law_step", 13)]) (g := gTup K 3 (gCons (gName 11) (gCons (gName 12) (gCons (gName 13) gNil)))) (tt := tYes) (te := tTupS (tCons (tVar 11) (tCons (tCall spLetters [] C8.E0 (tCons (tVar 2) (tCons (tC (.int 2)) tNil))) (tCons (tCall spLetters [] C8.E0 (tCons (tVar 2) (tCons (tC (.int 3)) tNil))) tNil)))) (by rfl) scLaw.nd rfl rfl (by rfl) (pi_list (pv 3))
            (blkOk_by (own := [("_law_word", 11), ("_law_span", 12), ("_law_step", 13)]) (N := NL) (sc := defScope sLaw) (by decide +kernel))
            (fun _ _ _ _ _ => pg_tup rfl (pgs_cons (pg_name (i := 11) scLaw.nd rfl (Or.inl rfl)) (pgs_cons (pg_name (i := 12) scLaw.nd rfl (Or.inl rfl)) (pgs_cons (pg_name (i := 13) scLaw.nd rfl (Or.inl rfl)) pgs_nil)))) (fun _ _ _ _ _ => pts_nil)
            (fun _ _ _ _ _ => by exact pe_tupS (pa_cons (pv 11) (pa_cons (pe_c Le hr (by decide) rfl (pa_cons (pv 2) (pa_cons pe_int pa_nil))) (pa_cons (pe_c Le hr (by decide) rfl (pa_cons (pv 2) (pa_cons pe_int pa_nil))) pa_nil)))))) pss_nil)
      (pss_cons (ps_set (i := 4) scLaw.nd rfl (Or.inl rfl) (pe_mk1 M1 hr (by decide) rfl (pa_cons (pv 3) pa_nil)))
      (pss_one (ps_for PassesOwn.never rfl (pi_range1 rfl B4.rng_ (pa_cons pe_int pa_nil)) (pg_name (i := 5) scLaw.nd rfl (Or.inl rfl)) (pss_cons (ps_set (i := 6) scLaw.nd rfl (Or.inl rfl) (pe_c Sh hr (by decide) rfl (pa_cons (pv 2) (pa_cons (pe_lc (own := [("_law_row", 14)]) (g := gName 14) (tt := tYes) (te := tOp (rIxT K) (tVar 14) (tC (.int 0))) rfl scLaw.nd (pi_list (pv 3))
            (blkOk_by (own := [("_law_row", 14)]) (N := NL) (sc := defScope sLaw) (by decide +kernel))
            (fun _ _ _ _ _ => pg_name (i := 14) scLaw.nd rfl (Or.inl rfl)) (fun _ _ _ _ _ => pts_nil) (fun _ _ _ _ _ => by exact pe_ix ix_tup (pv 14) pe_int (fun _ _ => rfl))) pa_nil))))
      (pss_cons (ps_set (i := 7) scLaw.nd rfl (Or.inl rfl) (pe_c Ju hr (by decide) rfl (pa_cons (pv 4) (pa_cons (pv 6) pa_nil))))
      (pss_cons (ps_if (PW.pt (pw_or (pt_not (pt_val (pe_callB call_isi (by rfl) B.isi (by decide +kernel) (pa_cons (pv 7) (pa_cons (pe_bltn (v := .ty "list") (by rfl) B.lst_ (by decide +kernel) rfl) pa_nil))))) (pw_or1 (pt_cmpR (op_neG mon_jp (eqG_jp EqF) (hr.mono (by decide))) (pv 7) (pe_c Du hr (by decide) rfl (pa_cons (pv 3) (pa_cons (pv 6) pa_nil))) (by rfl))))) (pss_one (ps_ret pe_bl)) pss_nil)
      (pss_cons (ps_if (pt_cmpR (op_neD hr.units) (pe_lc (own := [("_law_one", 15)]) (g := gName 15) (tt := tNot (tB (tCB (rIsi K) (tCons (tVar 15) (tCons (tC (.ty "tuple")) tNil))))) (te := tVar 15) rfl scLaw.nd (pi_list (pv 7))
            (blkOk_by (own := [("_law_one", 15)]) (N := NL) (sc := defScope sLaw) (by decide +kernel))
            (fun _ _ _ _ _ => pg_name (i := 15) scLaw.nd rfl (Or.inl rfl)) (fun _ _ _ _ _ => by exact pts_one (pt_not (pt_val (pe_callB call_isi (by rfl) B.isi (by decide +kernel) (pa_cons (pv 15) (pa_cons (pe_bltn (v := .ty "tuple") (by rfl) B.tup_ (by decide +kernel) rfl) pa_nil)))))) (fun _ _ _ _ _ => pv 15)) (pe_lstS pa_nil) (by rfl)) (pss_one (ps_ret pe_bl)) pss_nil)
      (pss_cons (ps_for PassesOwn.never rfl (pi_tup (pe_tupS (pa_cons pe_int (pa_cons pe_int (pa_cons pe_int pa_nil))))) (pg_name (i := 8) scLaw.nd rfl (Or.inl rfl)) (pss_cons (ps_set (i := 9) scLaw.nd rfl (Or.inl rfl) (pe_c Sz hr (by decide) rfl (pa_cons (pv 2) (pa_cons (pv 3) (pa_cons (pv 8) pa_nil))))) (pss_one (ps_if (PW.pt (pw_and (pt_cmpR op_lt (pe_c Mn hr (by decide) rfl (pa_cons (pv 3) (pa_cons (pv 9) pa_nil))) pe_int (by rfl)) (pw_and1 (pt_not (pt_val (pe_c Sr hr (by decide) rfl (pa_cons (pv 3) (pa_cons (pv 7) (pa_cons (pv 6) (pa_cons (pv 9) pa_nil)))))))))) (pss_one (ps_ret pe_bl)) pss_nil))))
      (pss_cons (ps_if (pt_not (pt_val (pe_c Gr hr (by decide) rfl (pa_cons (pv 3) (pa_cons (pv 7) (pa_cons (pe_c Sz hr (by decide) rfl (pa_cons (pv 2) (pa_cons (pv 3) (pa_cons (pe_op op_pow pe_int pe_int) pa_nil)))) pa_nil)))))) (pss_one (ps_ret pe_bl)) pss_nil)
      (pss_cons (ps_expr (pe_bm PySem.F.plainAttrs_list PySem.F.slot_list_append PySem.F.type_list_append mt_append (pv 7) (pa_cons pe_str pa_nil)))
      (pss_cons (ps_if (PW.pt (pw_or (pt_cmpR op_ne (pe_callB call_len_seq (by rfl) B.len_ PySem.boot_len (pa_cons (pe_c Ju hr (by decide) rfl (pa_cons (pv 4) (pa_cons (pe_callTy call_list_of (by rfl) B.lst_ (by decide +kernel) (pa_cons (pv 6) pa_nil)) pa_nil))) pa_nil)) (pe_callB call_len_seq (by rfl) B.len_ PySem.boot_len (pa_cons (pv 3) pa_nil)) (by rfl)) (pw_or1 (pt_cmpR op_ne (pe_callB call_len_seq (by rfl) B.len_ PySem.boot_len (pa_cons (pv 6) pa_nil)) (pe_callB call_len_seq (by rfl) B.len_ PySem.boot_len (pa_cons (pv 3) pa_nil)) (by rfl))))) (pss_one (ps_ret pe_bl)) pss_nil)
      (pss_cons (ps_expr (pe_bm PySem.F.plainAttrs_list PySem.F.slot_list_append PySem.F.type_list_append mt_append (pv 6) (pa_cons (pe_bm PySem.F.plainAttrs_list PySem.F.slot_list_pop PySem.F.type_list_pop mt_popAt (pv 6) (pa_cons pe_int pa_nil)) pa_nil)))
      (pss_cons (ps_set (i := 10) scLaw.nd rfl (Or.inl rfl) (pe_c Ju hr (by decide) rfl (pa_cons (pv 4) (pa_cons (pv 6) pa_nil))))
      (pss_cons (ps_set (i := 9) scLaw.nd rfl (Or.inl rfl) (pe_c Sz hr (by decide) rfl (pa_cons (pv 2) (pa_cons (pv 3) (pa_cons pe_int pa_nil)))))
      (pss_cons (ps_if (PW.pt (pw_or (pt_cmpR (op_neG mon_jp (eqG_jp EqF) (hr.mono (by decide))) (pv 10) (pe_c Du hr (by decide) rfl (pa_cons (pv 3) (pa_cons (pv 6) pa_nil))) (by rfl)) (pw_or1 (pt_not (pt_val (pe_c Gr hr (by decide) rfl (pa_cons (pv 3) (pa_cons (pv 10) (pa_cons (pv 9) pa_nil))))))))) (pss_one (ps_ret pe_bl)) pss_nil)
      (pss_one (ps_if (pt_cmpR (op_neP O hr (by decide)) (pv 4) (pe_mk1 M1 hr (by decide) rfl (pa_cons (pv 3) pa_nil)) (by rfl)) (pss_one (ps_ret pe_bl)) pss_nil)))))))))))))))))))))
      (pss_one (ps_ret pe_bl))), ?_⟩
    have lcut : (cutV (ns.map V.int) none (some 12)).length ≤ 63 := by
      unfold cutV
      refine Nat.le_trans (List.length_take_le' _ _) ?_
      rw [List.length_drop, List.length_map]
      omega
    refine ⟨_, rfl, 12, rfl, sc, _, rfl, hs, fun pc H1 S1 n1 h1 => ?_⟩
    refine ⟨pc, _, rfl, .inl (SqL.of h1), 1, _, rfl, _, rfl, ?_⟩
    generalize hm : (if (((cutV (ns.map V.int) none (some 12)).length : Nat) : Int) > 1 then (((cutV (ns.map V.int) none (some 12)).length : Nat) : Int) else 1) = m
    have m0 : 0 ≤ m ∧ m ≤ 63 := by
      rw [← hm]
      split <;> omega
    refine ⟨by omega, by omega, for_it (walk_range (n := m.toNat)) (fun i σ' H' => (∃ u1 u2 u3 u4 u5 u6 u7 u8 u9 u10 u11 u12 u13 u14 u15, σ' = [some (.ref sc), u1, u2, u3, u4, u5, u6, u7, u8, u9, u10, u11, u12, u13, u14, u15]) ∧ ExtN H H' ∧ Tabs T H') ⟨⟨none, none, none, none, none, none, none, none, none, none, none, none, none, none, none, rfl⟩, ExtN.of S1, tb.ext S1⟩ (fun _ _ _ _ _ => trivial) ?_ ?_⟩
    · rintro i x σ' H2 H3 hi ⟨⟨u1, u2, u3, u4, u5, u6, u7, u8, u9, u10, u11, u12, u13, u14, u15, rfl⟩, X2, tb2⟩ ⟨rfl, rfl⟩
      refine seq_asg ⟨_, rfl, _, rfl, sc, _, ns, rfl, hs.extN X2, by omega, by omega, fun H4 p S4 np hp => ?_⟩
      have tb4 := tb2.ext S4
      have back : ∀ {H' : Hp}, FrP p H4 H' → ExtN H H' := fun Fr c o e nt => Fr c o (ne_of_none (X2 _ _ e nt) np) (S4 _ _ (X2 _ _ e nt)) nt
      clear X2 tb2 S4
      refine seq_asg ⟨_, rfl, _, rfl, p, 5, 2 ^ 50, rfl, hp.less (by decide), by decide, by decide, fun r H5 r0 r1 hp5 S5 => ⟨_, _, rfl, rfl, ?_⟩⟩
      refine ⟨p, (1 + r).toNat, 2, 2 ^ 48, by rw [Int.toNat_of_nonneg (by omega)]; rfl, by omega, by omega, by decide, by decide, hp5.less (by decide), fun l ts xs H8 hl hx ok ro len nm nl hp8 S8 => ?_⟩
      have F8 : FrP p H4 H8 := (FrP.ofB S5).trans (FrP.ofB S8)
      have tb8 := tabsP (tabsP tb4 hp S5) hp5 S8
      have l8 : xs.length ≤ 8 := by omega
      have nlp : l ≠ p := purse_ref hp8 hl
      clear S5 S8 tb4 len nl hp5
      dsimp only
      refine ts_mid (fun σ' H' => ∃ (l2 : Addr) (ts2 : List Addr) (xs2 : List Sd), σ' = [some (.ref sc), some (.int (0 + (i : Nat))), some (.ref p), some (.ref l2), u4, u5, u6, u7, u8, u9, u10, u11, u12, u13, u14, u15] ∧ H' l2 = some (.lst (ts2.map V.ref)) ∧ SdsAt H' ts2 xs2 ∧ SdsOk xs2 ∧ (∀ x ∈ xs2, RowOk x) ∧ xs2.length ≤ 8 ∧ PurseAt H' p (2 ^ 40) ∧ FrP p H4 H' ∧ Tabs T H') (fun N hN => ?_) ?_
      · refine ⟨_, rfl, p, 2, 2 ^ 47, rfl, hp8.less (by decide), by decide, by decide, fun r3 H9 r30 r31 hp9 S9 => ⟨rfl, _, rfl, iteD (fun c => ?_) (fun c => ?_)⟩⟩
        · have hl9 := S9 _ _ nlp hl
          have lx := hx.length
          have hx9 := hx.purse hp8 S9
          have tb9 := tabsP tb8 hp8 S9
          refine ⟨_, rfl, l, rfl, ⟨_, SqL.of hl9⟩, fun D nD => ?_⟩
          have nDp : D ≠ p := purse_none hp9 nD
          have frD : Frsh p H9 D := ⟨nDp, fun o e => by rw [nD] at e; cases e⟩
          refine lc_it (walk_list (xs := ts.map V.ref)) (fun i H' => FrP p H9 H' ∧ PurseAt H' p (2 ^ 40 + 40 * (8 - i)) ∧ Tabs T H' ∧ ∃ us ys, H' D = some (.lst (us.map V.ref)) ∧ (∀ u ∈ us, u ≠ D) ∧ SdsAt H' us ys ∧ ys.map (·.1) = (xs.take i).map (·.1) ∧ ∀ y ∈ ys, RowOk y)
            ⟨(FrP.refl p H9).upd frD, (purse_upd hp9 nDp).less (by decide), tb9.ext (Same.upd nD), [], [], upd_same, fun _ h => absurd h List.not_mem_nil, .nil, rfl, fun _ h => absurd h List.not_mem_nil⟩ (fun i H' _ q => SqL.of (q.1 _ _ nlp hl9 fun _ z => nomatch z)) ?_ ?_
          · rintro j v H10 H11 hj ⟨F10, hpu, tb10, us, ys, hD, hne, hys, hnm, hro⟩ ⟨rfl, hxj⟩
            rw [List.length_map] at hj
            rw [List.getElem?_map] at hxj
            obtain ⟨t, htt, rfl⟩ := Option.map_eq_some_iff.mp hxj
            obtain ⟨y, hy, c1, c2, w0, w1, w2⟩ := paired_at hx9 htt
            refine ⟨t, _, rfl, SqT.of (F10 _ _ (purse_tup hp9 w0) w0 fun _ z => nomatch z), rfl, _, _, rfl, _, _, rfl, _, _, rfl, rfl, ?_⟩
            refine ⟨rfl, iteT (B := False) ?_⟩
            refine ⟨_, rfl, _, rfl, p, 2, 2 ^ 40 + 40 * (8 - (j + 1)) + 20, rfl, by decide, hpu.less (by omega), fun z1 q1 H12 hz1 lz1 hq1 nq1 hp12 S12 => ?_⟩
            have hD12 := S12 _ _ nDp hD
            refine ⟨_, rfl, p, 3, 2 ^ 40 + 40 * (8 - (j + 1)), rfl, by decide, hp12, fun z2 q2 H13 hz2 lz2 hq2 nq2 hp13 S13 => ⟨by show 3 ≤ sizeLine; decide, fun t' H14 S14 n14 h14 => ?_⟩⟩
            have hD13 := S13 _ _ nDp hD12
            have hD14 := S14 _ _ hD13
            have q1D : q1 ≠ D := (ne_of_none hD nq1).symm
            have q2D : q2 ≠ D := (ne_of_none hD12 nq2).symm
            have tD : t' ≠ D := (ne_of_none hD13 n14).symm
            have hq1' := S14 _ _ (S13 _ _ (purse_none hpu nq1) hq1)
            have hq2' := S14 _ _ hq2
            have F14 : FrP p H9 H14 := F10.trans ((FrP.ofB S12).trans ((FrP.ofB S13).trans (FrP.ofS S14)))
            have tb14 : Tabs T H14 := (tabsP (tabsP tb10 hpu S12) hp12 S13).ext S14
            have hys14 : SdsAt H14 us ys := ((hys.purse hpu S12).purse hp12 S13).same S14
            have lus : us.length = j := by
              have h1 := hys.length
              have h2 := congrArg List.length hnm
              rw [List.length_map, List.length_map, List.length_take] at h2
              have := hx9.length
              omega
            refine ⟨_, hD14, by rw [List.length_map, lus, sizeLine_eq]; omega, F14.upd frD, purse_upd (hp13.same S14) nDp, tabs_lst tb14 hD14, us ++ [t'], ys ++ [(y.1, z1, z2)], by rw [upd_same, List.map_append]; rfl, ?_, ?_, ?_, ?_⟩
            · intro u hu
              rcases List.mem_append.mp hu with h | h
              · exact hne u h
              · rw [List.mem_singleton.mp h]; exact tD
            · refine paired_snoc (SdsAt.off (v := .lst []) hys14 hD14 hne fun c o n e => by rw [upd_ne n]; exact e) ⟨q1, q2, ?_, ?_, ?_⟩
              · rw [upd_ne tD]; exact h14
              · rw [upd_ne q1D]; exact hq1'
              · rw [upd_ne q2D]; exact hq2'
            · rw [List.map_append, hnm, take_snoc hy, List.map_append]
              rfl
            · intro u hu
              rcases List.mem_append.mp hu with h | h
              · exact hro u h
              · rw [List.mem_singleton.mp h]
                exact ⟨fun z hz => hz1 z hz, fun z hz => hz2 z hz, by show z1.length ≤ 3; omega, by show z2.length ≤ 8; omega⟩
          · rintro H10 ⟨F10, hpu, tb10, us, ys, hD, hne, hys, hnm, hro⟩
            rw [List.length_map, hx9.length, List.take_length] at hnm
            have ly : ys.length = xs.length := by have := congrArg List.length hnm; rwa [List.length_map, List.length_map] at this
            exact hN _ _ ⟨D, us, ys, rfl, hD, hys, ok.with_names nm hnm hro l8, hro, by omega, hpu.less (by omega), (F8.trans (FrP.ofB S9)).trans F10, tb10⟩
        · exact hN _ _ ⟨l, ts, xs, rfl, S9 _ _ nlp hl, hx.purse hp8 S9, ok, ro, l8, hp9.less (by decide), F8.trans (FrP.ofB S9), tabsP tb8 hp8 S9⟩
      clear hl hx ok ro l8 nm hp8 F8 tb8 nlp
      rintro σ' H6 ⟨l, ts, xs, rfl, hl, hx, ok, ro, l8, hp6, F6, tb6⟩
      -- the table
      refine seq_asg ⟨_, rfl, fun y dx ny nd ne => ?_⟩
      refine mk_plainR hl hx ok ny nd ne fun H7 S7 hy => ⟨rfl, ?_⟩
      have hl7 := S7 _ _ hl
      have hx7 := hx.same S7
      have hp7 := hp6.same S7
      have tb7 := tb6.ext S7
      have F7 := F6.trans (FrP.ofS S7)
      have back7 : ∀ {H' : Hp}, FrP p H7 H' → ExtN H H' := fun Fr => back (F7.trans Fr)
      have nlp : l ≠ p := purse_ref hp7 hl7
      clear hl hx tb6 F6 S7 hp6 F7 back
      have okn := ok.norm
      have ron := norm_rows ro
      have lnn : (xs.map norm).length ≤ 8 := by rw [List.length_map]; exact l8
      have enm : (xs.map norm).map (·.1) = xs.map (·.1) := by rw [List.map_map]; rfl
      have lt := hx7.length
      have go : ∀ {H' : Hp}, FrP p H7 H' → H' l = some (.lst (ts.map V.ref)) := fun Fr => Fr _ _ nlp hl7 fun _ z => nomatch z
      dsimp only
      refine ⟨2, rfl, by decide, by decide, for_it (walk_range (n := (2 : Int).toNat)) (fun tn σ' H' => (∃ u5 u6 u7 u8 u9 u10, σ' = [some (.ref sc), some (.int (0 + (i : Nat))), some (.ref p), some (.ref l), some (.ref y), u5, u6, u7, u8, u9, u10, u11, u12, u13, u14, u15]) ∧ FrP p H7 H' ∧ PurseAt H' p (2 ^ 20 + 20000 * (2 - tn)) ∧ Tabs T H') ⟨⟨u5, u6, u7, u8, u9, u10, rfl⟩, FrP.refl p H7, hp7.less (by decide), tb7⟩ (fun _ _ _ _ _ => trivial) ?_ ?_⟩
      · rintro tn xv σ' Hx Ha htn ⟨⟨u5, u6, u7, u8, u9, u10, rfl⟩, Fa, hpa, tba⟩ ⟨rfl, rfl⟩
        have htn : tn < 2 := htn
        -- the route
        refine ts_mid (fun σ' H' => ∃ (rq : Addr) (wk : List Str), σ' = [some (.ref sc), some (.int (0 + (i : Nat))), some (.ref p), some (.ref l), some (.ref y), some (.int (0 + (tn : Nat))), some (.ref rq), u7, u8, u9, u10, u11, u12, u13, u14, u15] ∧ FrP p H7 H' ∧ PurseAt H' p (2 ^ 20 + 20000 * (2 - (tn + 1)) + 19000) ∧ Tabs T H' ∧ wk.Perm (xs.map (·.1)) ∧ H' rq = some (.lst (wk.map V.str)) ∧ Frsh p H7 rq) (fun N hN => ?_) ?_
        · have hld := go Fa
          have hxd := hx7.frP hp7 Fa
          refine ⟨_, rfl, _, rfl, l, rfl, ⟨_, SqL.of hld⟩, fun D nD => lc_it (walk_list (xs := ts.map V.ref)) (fun j H' => Same Ha H' ∧ H' D = some (.lst (((xs.take j).map (·.1)).map V.str))) ⟨Same.upd nD, upd_same⟩ (fun j H' _ q => SqL.of (q.1 _ _ hld)) ?_ ?_⟩
          · rintro j x H4 H5 hj ⟨S4, hE⟩ ⟨rfl, hx2⟩
            rw [List.length_map] at hj
            rw [List.getElem?_map] at hx2
            obtain ⟨t', htt, rfl⟩ := Option.map_eq_some_iff.mp hx2
            obtain ⟨yy, hyj, d1, d2, g0, g1, g2⟩ := paired_at hxd htt
            refine ⟨rfl, iteT (B := False) ⟨_, rfl, t', _, 0, _, rfl, rfl, SqT.of (S4 _ _ g0), rfl, _, hE, ?_, ?_, ?_⟩⟩
            · rw [List.length_map, List.length_map, List.length_take, sizeLine_eq]
              omega
            · intro b o hb
              rw [upd_ne (ne_of_none hb nD)]
              exact S4 _ _ hb
            · rw [upd_same, take_snoc hyj, List.map_append, List.map_append]
              rfl
          rintro Hf ⟨Sf, hD⟩
          rw [List.length_map, lt, List.take_length] at hD
          have hpf := hpa.same Sf
          refine ⟨p, D, (xs.map (·.1)).map V.str, 2 ^ 20 + 20000 * (2 - (tn + 1)) + 19000, rfl, hpf.less (by rw [List.length_map, List.length_map]; omega), hD, purse_str hpf hD, by rw [List.length_map, List.length_map]; omega, fun zs rq Hg pm hrq nrq hpg Sg => ?_⟩
          obtain ⟨wk, pwk, rfl⟩ : ∃ wk : List Str, wk.Perm (xs.map (·.1)) ∧ zs = wk.map V.str := by
            obtain ⟨U, h1, h2⟩ := perm_lift V.str (T := xs.map (·.1)) pm
            exact ⟨U, h1, h2.symm⟩
          have Fg := (Fa.trans (FrP.ofS Sf)).trans (FrP.ofB Sg)
          exact hN _ _ ⟨rq, wk, rfl, Fg, hpg, tabsP (tba.ext Sf) hpf Sg, pwk, hrq, frsh_none (Fa.trans (FrP.ofS Sf)) hpf nrq⟩
        clear Fa hpa tba u5 u6
        rintro σ' Hg ⟨rq, wk, rfl, Fg, hpg, tbg, pwk, hrq, frq⟩
        have pw : wk.Perm ((xs.map norm).map (·.1)) := by rw [enm]; exact pwk
        obtain ⟨A, a1, roA, lA, pA, in1, in2⟩ := route_of ok.nd pwk
        have inP : (inW A).Perm xs := ((List.reverse_perm A).map _).trans pA
        have nrp := frq.1
        have ndn : ((xs.map norm).map (·.1)).Nodup := by rw [enm]; exact ok.nd
        have norm_in : ∀ (zs : List Sd) (B : List Sd), zs.map (·.1) = B.map (·.1) → (∀ z ∈ zs, z ∈ xs.map norm) → (∀ b ∈ B, b ∈ xs) → zs = B.map norm := fun zs B h1 h2 h3 => rows_one ndn (by rw [h1, List.map_map]; rfl) h2 fun z hz => by
          obtain ⟨b, hb, rfl⟩ := List.mem_map.mp hz
          exact List.mem_map.mpr ⟨b, h3 b hb, rfl⟩
        refine seq_asg ⟨_, rfl, _, rfl, y, rq, wk, xs.map norm, rfl, hrq, pw, hy.frP hp7 Fg, okn, ron, lnn, fun Hh pt us js xs' Sh npt hpt hjs e1 e2 jk => ?_⟩
        have exs : xs' = (inW A).map norm := norm_in xs' (inW A) (by rw [e1, in1]) e2 in2
        rw [exs] at jk
        have jok := jk.raw
        have Fh := Fg.trans (FrP.ofS Sh)
        have hph := hpg.same Sh
        have tbh := tbg.ext Sh
        have hrqh := Sh _ _ hrq
        have fpt : Frsh p H7 pt := frsh_none Fg hpg npt
        have npp := fpt.1
        have nrpt : rq ≠ pt := ne_of_none hrq npt
        clear Fg hpg tbg npt e1 e2 exs jk hrq
        -- told as due
        refine ts_mid (fun σ' H' => σ' = [some (.ref sc), some (.int (0 + (i : Nat))), some (.ref p), some (.ref l), some (.ref y), some (.int (0 + (tn : Nat))), some (.ref rq), some (.ref pt), u8, u9, u10, u11, u12, u13, u14, u15] ∧ Same Hh H') (fun N hN => ?_) ?_
        · refine ⟨_, rfl, _, _, _, _, true, rfl, .ty "list", .base (.lst hpt), kit_ll, true, rfl, iteF ?_⟩
          refine ⟨_, rfl, _, rfl, _, rfl, l, rq, ts, wk, xs, rfl, go Fh, hx7.frP hp7 Fh, ok, ro, l8, hrqh, pwk, fun Hi pd us2 js2 ys2 Si npd hpd hjs2 ey my jk2 => ?_⟩
          have ey2 : ys2 = inW A := rows_one ok.nd (by rw [ey, in1]) my in2
          subst ey2
          refine ne_jumps (Si _ _ hpt) hpd (paired_imp hjs fun _ _ _ z => z.same Si) hjs2 jok jk2 fun Hj Sj => ?_
          exact ⟨false, rfl, ifF rfl (hN _ _ ⟨rfl, Si.trans Sj⟩)⟩
        rintro σ' Hi ⟨rfl, Shi⟩
        refine ts_mid (fun σ' H' => σ' = [some (.ref sc), some (.int (0 + (i : Nat))), some (.ref p), some (.ref l), some (.ref y), some (.int (0 + (tn : Nat))), some (.ref rq), some (.ref pt), u8, u9, u10, u11, u12, u13, u14, u15] ∧ Same Hh H') (fun N hN => ?_) ?_
        · have hpti := Shi _ _ hpt
          refine ⟨_, rfl, pt, rfl, ⟨_, SqL.of hpti⟩, fun D nD => lc_it (walk_list (xs := us.map V.ref)) (fun j H' => Same Hi H' ∧ H' D = some (.lst [])) ⟨Same.upd nD, upd_same⟩ (fun j H' _ q => SqL.of (q.1 _ _ hpti)) ?_ ?_⟩
          · rintro j v H4 H5 hj ⟨S4, hE⟩ ⟨rfl, hx2⟩
            rw [List.length_map] at hj
            rw [List.getElem?_map] at hx2
            obtain ⟨u, hu, rfl⟩ := Option.map_eq_some_iff.mp hx2
            obtain ⟨jj, hjj, fa, fb, g0, _, _⟩ := paired_at hjs hu
            refine ⟨rfl, _, rfl, _, _, _, _, true, rfl, .ty "tuple", .base (.tup (S4 _ _ (Shi _ _ g0))), kit_tt, true, rfl, iteF ⟨S4, hE⟩⟩
          · rintro H4 ⟨S4, hE⟩
            refine ⟨by show 0 ≤ sizeLine; decide, fun e H5 S5 ne he => ?_⟩
            refine ⟨.list [], .list [], .lst (SqL.of (S5 _ _ hE)) .nil, .lst (SqL.of he) .nil, rfl, rfl, _, rfl, ifF rfl ?_⟩
            exact hN _ _ ⟨rfl, Shi.trans (S4.trans S5)⟩
        clear Shi
        rintro σ' Hj ⟨rfl, Shj⟩
        have Fj := Fh.trans (FrP.ofS Shj)
        have hpj := hph.same Shj
        have tbj := tbh.ext Shj
        have hptj := Shj _ _ hpt
        have hrqj := Shj _ _ hrqh
        have hjsj : Paired (JpAt P w K CF Hj) us js := paired_imp hjs fun _ _ _ z => z.same Shj
        clear Fh hph tbh hpt hrqh hjs Shj
        have vls : ∀ {vl : Vls} {most : Int}, most ≤ 10 ^ 12 → (∀ z, z ∈ vl.map (·.1) ↔ InLets xs z) → (∀ x ∈ vl, 1 ≤ x.2 ∧ x.2 ≤ most) → vl.length ≤ 100 → ValsOk vl xs ∧ VlOk vl := fun {vl most} hm hk hv lv => ⟨⟨fun x hx z hz => (hk z).mpr ⟨x, hx, hz⟩, fun u hu => ⟨(hv u hu).1, by
            have h1 := hv u hu
            have h3 : (10 : Int) ^ 12 < 2 ^ 40 := by decide
            have h2 : u.2.natAbs < 2 ^ 40 := by omega
            exact Nat.lt_of_lt_of_le h2 (Nat.pow_le_pow_right (by decide) (by decide))⟩⟩, ⟨by omega, fun u hu => by
            obtain ⟨x, hx1, h⟩ := (hk u).mp hu
            exact h.elim (fun q => let_L8 u ((ro x hx1).1 u q)) fun q => let_L8 u ((ro x hx1).2.1 u q)⟩⟩
        refine ts_mid (fun σ' H' => (∃ v8 v9, σ' = [some (.ref sc), some (.int (0 + (i : Nat))), some (.ref p), some (.ref l), some (.ref y), some (.int (0 + (tn : Nat))), some (.ref rq), some (.ref pt), v8, v9, u10, u11, u12, u13, u14, u15]) ∧ FrP p Hj H' ∧ PurseAt H' p (2 ^ 20 + 20000 * (2 - (tn + 1)) + 10000) ∧ Tabs T H') (fun N hN => ?_) ?_
        · refine ⟨by show 3 ≤ sizeLine; decide, fun tp H12 S12 n12 h12 => ⟨tp, rfl, ⟨_, SqT.of h12⟩, for_it (walk_tup (xs := [.int 1, .int 2, .int 3])) (fun e σ' H' => (∃ v8 v9, σ' = [some (.ref sc), some (.int (0 + (i : Nat))), some (.ref p), some (.ref l), some (.ref y), some (.int (0 + (tn : Nat))), some (.ref rq), some (.ref pt), v8, v9, u10, u11, u12, u13, u14, u15]) ∧ FrP p H12 H' ∧ PurseAt H' p (2 ^ 20 + 20000 * (2 - (tn + 1)) + 10000 + 2000 * (3 - e)) ∧ Tabs T H')
            ⟨⟨_, _, rfl⟩, FrP.refl _ _, (hpj.same S12).less (by omega), tbj.ext S12⟩ (fun e σ' H' _ q => SqT.of (q.2.1 _ _ (purse_tup (hpj.same S12) h12) h12 fun _ z => nomatch z)) ?_ ?_⟩⟩
          · rintro e v σ' He Hf he ⟨⟨v8, v9, rfl⟩, Fe, hpe, tbe⟩ ⟨rfl, hv⟩
            obtain ⟨m, rfl, m1, m2⟩ : ∃ m : Int, v = .int m ∧ 1 ≤ m ∧ m ≤ 1000 := by
              have he' : e < 3 := he
              match e, he', hv with
              | 0, _, hv => exact ⟨1, by cases hv; rfl, by decide, by decide⟩
              | 1, _, hv => exact ⟨2, by cases hv; rfl, by decide, by decide⟩
              | 2, _, hv => exact ⟨3, by cases hv; rfl, by decide, by decide⟩
            have he' : e < 3 := he
            have Fje := (FrP.ofS S12 (p := p)).trans Fe
            have F7e := Fj.trans Fje
            refine seq_asg ⟨_, rfl, _, rfl, _, rfl, p, l, ts, xs, m, 2 ^ 20 + 20000 * (2 - (tn + 1)) + 10000 + 2000 * (3 - (e + 1)), rfl, hpe.less (by omega), go F7e, hx7.frP hp7 F7e, ro, l8, m1, Int.lt_of_le_of_lt m2 (by decide), fun vl q Hk hk hv lv hq nq hpk Sk => ?_⟩
            obtain ⟨vok, vlo⟩ := vls (Int.le_trans m2 (by decide)) hk hv lv
            have Fjk := Fje.trans (FrP.ofB Sk)
            have F7k := Fj.trans Fjk
            have fin : ∀ {H' : Hp}, Same Hk H' → FrP p H12 H' ∧ PurseAt H' p (2 ^ 20 + 20000 * (2 - (tn + 1)) + 10000 + 2000 * (3 - (e + 1))) ∧ Tabs T H' := fun S => ⟨Fe.trans ((FrP.ofB Sk).trans (FrP.ofS S)), hpk.same S, (tabsP tbe hpe Sk).ext S⟩
            refine ⟨_, rfl, _, rfl, l, q, ts, xs, vl, rfl, SqL.of (go F7k), hx7.frP hp7 F7k, hq, vok, ro, l8, _, _, rfl, rfl, _, rfl, iteD (fun mc => ?_) (fun mc => iteF ⟨⟨_, _, rfl⟩, fin fun _ _ e => e⟩)⟩
            have hpt' := Fjk _ _ npp hptj fun _ z => nomatch z
            have hrq' := Fjk _ _ nrp hrqj fun _ z => nomatch z
            refine ⟨_, rfl, _, rfl, _, rfl, _, rfl, l, pt, rq, q, ts, us, xs, vl, A, js, rfl, SqL.of (go F7k), hx7.frP hp7 F7k, hq, vok, vlo, ro, l8, ok.nd, fun x hx => (ok.ok x hx).1, by rw [a1]; exact hrq', roA, lA, by rw [many_perm vl pA]; omega, hpt', paired_imp hjsj fun _ _ _ z => jp_frP z hpj Fjk, jok, fun Hl Sl => ⟨true, rfl, iteF ⟨⟨_, _, rfl⟩, fin Sl⟩⟩⟩
          · rintro σ' He ⟨⟨v8, v9, rfl⟩, Fe, hpe, tbe⟩
            exact hN _ _ ⟨⟨_, _, rfl⟩, (FrP.ofS S12).trans Fe, hpe.less (by omega), tbe⟩
        rintro σ' Hk ⟨⟨v8, v9, rfl⟩, Fjk, hpk, tbk⟩
        have F7k := Fj.trans Fjk
        have hptk := Fjk _ _ npp hptj fun _ z => nomatch z
        have hrqk := Fjk _ _ nrp hrqj fun _ z => nomatch z
        have hjsk : Paired (JpAt P w K CF Hk) us js := paired_imp hjsj fun _ _ _ z => jp_frP z hpj Fjk
        clear Fj Fjk hptj hrqj hjsj tbj hpj
        -- great
        refine ts_mid (fun σ' H' => σ' = [some (.ref sc), some (.int (0 + (i : Nat))), some (.ref p), some (.ref l), some (.ref y), some (.int (0 + (tn : Nat))), some (.ref rq), some (.ref pt), v8, v9, u10, u11, u12, u13, u14, u15] ∧ FrP p Hk H' ∧ PurseAt H' p (2 ^ 20 + 20000 * (2 - (tn + 1)) + 8000) ∧ Tabs T H') (fun N hN => ?_) ?_
        · refine ⟨_, rfl, _, rfl, _, rfl, _, rfl, 10, 12, rfl, rfl, ⟨by decide, by decide, by decide⟩, ?_⟩
          refine ⟨p, l, ts, xs, 10 ^ (12 : Int).toNat, 2 ^ 20 + 20000 * (2 - (tn + 1)) + 8000, rfl, hpk.less (by omega), go F7k, hx7.frP hp7 F7k, ro, l8, by decide, by decide, fun vl q Hm hk hv lv hq nq hpm Sm => ?_⟩
          obtain ⟨vok, vlo⟩ := vls (by decide) hk hv lv
          have Fkm : FrP p Hk Hm := FrP.ofB Sm
          have F7m := F7k.trans Fkm
          refine ⟨l, pt, q, ts, us, xs, inW A, vl, js, rfl, SqL.of (go F7m), hx7.frP hp7 F7m, hq, vok, vlo, ro, l8, inP, Fkm _ _ npp hptk (fun _ z => nomatch z), paired_imp hjsk (fun _ _ _ z => jp_frP z hpk Fkm), jok, fun Hn Sn => ⟨true, rfl, iteF ?_⟩⟩
          exact hN _ _ ⟨rfl, Fkm.trans (FrP.ofS Sn), hpm.same Sn, (tabsP tbk hpk Sm).ext Sn⟩
        rintro σ' Hl ⟨rfl, Fkl, hpl, tbl⟩
        have F7l := F7k.trans Fkl
        have hptl := Fkl _ _ npp hptk fun _ z => nomatch z
        have hrql := Fkl _ _ nrp hrqk fun _ z => nomatch z
        have lus : us.length = xs.length := by rw [hjsk.length, jok.1, inP.length_eq]
        have lwk : wk.length = xs.length := by rw [pwk.length_eq, List.length_map]
        clear F7k Fkl hptk hrqk hjsk hpk tbk jok
        -- spoilt
        refine ⟨_, rfl, .inl ⟨rfl, _, SqL.of hptl⟩, pt, _, _, rfl, rfl, hptl, by rw [List.length_map, sizeLine_eq]; omega, ?_⟩
        have F7m : FrP p H7 (upd Hl pt (.lst (us.map V.ref ++ [V.str "spoilt"]))) := F7l.upd fpt
        have hpm : PurseAt (upd Hl pt (.lst (us.map V.ref ++ [V.str "spoilt"]))) p (2 ^ 20 + 20000 * (2 - (tn + 1)) + 8000) := purse_upd hpl npp
        have tbm : Tabs T (upd Hl pt (.lst (us.map V.ref ++ [V.str "spoilt"]))) := tabs_lst tbl hptl
        have hrqm : (upd Hl pt (.lst (us.map V.ref ++ [V.str "spoilt"]))) rq = some (.lst (wk.map V.str)) := by rw [upd_ne nrpt]; exact hrql
        generalize upd Hl pt (.lst (us.map V.ref ++ [V.str "spoilt"])) = Hm at F7m hpm tbm hrqm ⊢
        clear F7l hptl hrql hpl tbl
        dsimp only
        refine ts_mid (fun σ' H' => σ' = [some (.ref sc), some (.int (0 + (i : Nat))), some (.ref p), some (.ref l), some (.ref y), some (.int (0 + (tn : Nat))), some (.ref rq), some (.ref pt), v8, v9, u10, u11, u12, u13, u14, u15] ∧ Same Hm H') (fun N hN => ?_) ?_
        · refine ⟨_, rfl, _, rfl, rq, _, rfl, .inl (SqL.of hrqm), fun rc nrc => ?_⟩
          have S1 : Same Hm (upd Hm rc (.lst (wk.map V.str))) := Same.upd nrc
          refine ⟨y, rc, wk, xs.map norm, rfl, upd_same, pw, (hy.frP hp7 F7m).same S1, okn, ron, lnn, fun H3 p3 us3 js3 xs3 S3 n3 h3 hj3 e31 e32 jk3 => ?_⟩
          have S13 := S1.trans S3
          have l3 : us3.length = xs.length := by
            have h1 := congrArg List.length e31
            rw [List.length_map, List.length_reverse] at h1
            rw [hj3.length, jk3.1, h1, lwk]
          refine ⟨p3, _, rfl, .inl (SqL.of h3), _, rfl, l, _, rfl, .inl (SqL.of (S13 _ _ (go F7m))), rfl, _, rfl, ifF (by rw [List.length_map, List.length_map, l3, lt]; simp) ?_⟩
          refine ⟨_, rfl, rq, _, rfl, .inl (SqL.of (S13 _ _ hrqm)), _, rfl, l, _, rfl, .inl (SqL.of (S13 _ _ (go F7m))), rfl, _, rfl, ifF (by rw [List.length_map, List.length_map, lwk, lt]; simp) ?_⟩
          exact hN _ _ ⟨rfl, S13⟩
        rintro σ' Hn ⟨rfl, Smn⟩
        have F7n := F7m.trans (FrP.ofS Smn)
        have hpn := hpm.same Smn
        have tbn := tbm.ext Smn
        have hrqn := Smn _ _ hrqm
        clear F7m hpm tbm hrqm Smn
        -- the first word goes behind
        obtain ⟨n0, wk2, ewk⟩ : ∃ n0 wk2, wk = n0 :: wk2 := by
          cases wk with
          | nil =>
            have : xs = [] := List.length_eq_zero_iff.mp lwk.symm
            exact absurd this ok.ne
          | cons a b => exact ⟨a, b, rfl⟩
        subst ewk
        refine ⟨_, rfl, .inl ⟨rfl, _, SqL.of hrqn⟩, _, rfl, .inl ⟨rfl, _, SqL.of hrqn⟩, rq, _, 0, 0, .str n0, rfl, rfl, hrqn, by decide, by decide, by rw [List.map_cons, List.length_cons]; exact ix0 _, rfl, ?_⟩
        have l9 : (wk2.map V.str).length < sizeLine := by rw [List.length_cons] at lwk; rw [List.length_map, sizeLine_eq]; omega
        refine ⟨rq, wk2.map V.str, _, rfl, rfl, upd_same, l9, ?_⟩
        have F7o : FrP p H7 (upd (upd Hn rq (.lst (((n0 :: wk2).map V.str).eraseIdx 0))) rq (.lst (wk2.map V.str ++ [V.str n0]))) := (F7n.upd frq).upd frq
        have hpo : PurseAt (upd (upd Hn rq (.lst (((n0 :: wk2).map V.str).eraseIdx 0))) rq (.lst (wk2.map V.str ++ [V.str n0]))) p (2 ^ 20 + 20000 * (2 - (tn + 1)) + 8000) := purse_upd (purse_upd hpn nrp) nrp
        have tbo : Tabs T (upd (upd Hn rq (.lst (((n0 :: wk2).map V.str).eraseIdx 0))) rq (.lst (wk2.map V.str ++ [V.str n0]))) := tabs_lst (tabs_lst tbn hrqn) (l := wk2.map V.str) upd_same
        have hrqo : (upd (upd Hn rq (.lst (((n0 :: wk2).map V.str).eraseIdx 0))) rq (.lst (wk2.map V.str ++ [V.str n0]))) rq = some (.lst ((wk2 ++ [n0]).map V.str)) := by rw [upd_same, List.map_append]; rfl
        generalize upd (upd Hn rq (.lst (((n0 :: wk2).map V.str).eraseIdx 0))) rq (.lst (wk2.map V.str ++ [V.str n0])) = Ho at F7o hpo tbo hrqo ⊢
        clear F7n hpn tbn hrqn
        have pwk2 : (wk2 ++ [n0]).Perm (xs.map (·.1)) := (List.perm_append_singleton n0 wk2).trans pwk
        clear pwk pw a1 roA lA pA in1 in2 inP
        have pw2 : (wk2 ++ [n0]).Perm ((xs.map norm).map (·.1)) := by rw [enm]; exact pwk2
        obtain ⟨A, a1, roA, lA, pA, in1, in2⟩ := route_of ok.nd pwk2
        have inP : (inW A).Perm xs := ((List.reverse_perm A).map _).trans pA
        dsimp only
        refine seq_asg ⟨_, rfl, _, rfl, y, rq, wk2 ++ [n0], xs.map norm, rfl, hrqo, pw2, hy.frP hp7 F7o, okn, ron, lnn, fun Hq pt2 us2 js2 xs2 Sq npt2 hpt2 hjs2 e21 e22 jk2 => ?_⟩
        have exs2 : xs2 = (inW A).map norm := norm_in xs2 (inW A) (by rw [e21, in1]) e22 in2
        rw [exs2] at jk2
        have jok2 := jk2.raw
        have F7q := F7o.trans (FrP.ofS Sq)
        have hpq := hpo.same Sq
        have tbq := tbo.ext Sq
        have hrqq := Sq _ _ hrqo
        have npp2 : pt2 ≠ p := purse_none hpo npt2
        clear F7o hpo tbo hrqo Sq npt2 e21 e22 exs2 jk2
        refine seq_asg ⟨_, rfl, _, rfl, p, l, ts, xs, 99, 2 ^ 20 + 20000 * (2 - (tn + 1)) + 6000, rfl, hpq.less (by omega), go F7q, hx7.frP hp7 F7q, ro, l8, by decide, by decide, fun vl q Hr hk hv lv hq nq hprr Sr_ => ?_⟩
        obtain ⟨vok, vlo⟩ := vls (by decide) hk hv lv
        have Fqr : FrP p Hq Hr := FrP.ofB Sr_
        have F7r := F7q.trans Fqr
        have tbr := tabsP tbq hpq Sr_
        have hpt2r := Fqr _ _ npp2 hpt2 fun _ z => nomatch z
        have hrqr := Fqr _ _ nrp hrqq fun _ z => nomatch z
        have hjs2r : Paired (JpAt P w K CF Hr) us2 js2 := paired_imp hjs2 fun _ _ _ z => jp_frP z hpq Fqr
        refine ts_mid (fun σ' H' => σ' = [some (.ref sc), some (.int (0 + (i : Nat))), some (.ref p), some (.ref l), some (.ref y), some (.int (0 + (tn : Nat))), some (.ref rq), some (.ref pt), v8, some (.ref q), some (.ref pt2), u11, u12, u13, u14, u15] ∧ Same Hr H') (fun N hN => ?_) ?_
        · refine ⟨_, rfl, _, rfl, _, rfl, l, rq, ts, wk2 ++ [n0], xs, rfl, go F7r, hx7.frP hp7 F7r, ok, ro, l8, hrqr, pwk2, fun Hs pd us3 js3 ys3 Ss npd hpd hjs3 ey my jk3 => ?_⟩
          have ey3 : ys3 = inW A := rows_one ok.nd (by rw [ey, in1]) my in2
          subst ey3
          refine ne_jumps (Ss _ _ hpt2r) hpd (paired_imp hjs2r fun _ _ _ z => z.same Ss) hjs3 jok2 jk3 fun Ht St => ?_
          have Srt := Ss.trans St
          refine ⟨false, rfl, iteF ?_⟩
          refine ⟨_, rfl, _, rfl, _, rfl, l, pt2, q, ts, us2, xs, inW A, vl, js2, rfl, SqL.of (Srt _ _ (go F7r)), (hx7.frP hp7 F7r).same Srt, Srt _ _ hq, vok, vlo, ro, l8, inP, Srt _ _ hpt2r, paired_imp hjs2r (fun _ _ _ z => z.same Srt), jok2, fun Hu Su => ⟨true, rfl, iteF ?_⟩⟩
          exact hN _ _ ⟨rfl, Srt.trans Su⟩
        rintro σ' Hv ⟨rfl, Srv⟩
        have F7v := F7r.trans (FrP.ofS Srv)
        refine ⟨_, rfl, _, rfl, fun y2 dx2 ny2 nd2 ne2 => ?_⟩
        refine mk_plainR (go F7v) (hx7.frP hp7 F7v) ok ny2 nd2 ne2 fun Hw Sw hy2 => ⟨rfl, ?_⟩
        exact ⟨y, y2, xs.map norm, rfl, rfl, (hy.frP hp7 F7v).same Sw, hy2, okn, _, rfl, ifF rfl ⟨⟨_, _, _, _, _, _, rfl⟩, F7v.trans (FrP.ofS Sw), ((hprr.same Srv).same Sw).less (by omega), (tbr.ext Srv).ext Sw⟩⟩
      · rintro σ' Ha ⟨⟨u5, u6, u7, u8, u9, u10, rfl⟩, Fa, hpa, tba⟩
        exact ⟨⟨_, _, _, _, _, _, _, _, _, _, _, _, _, _, _, rfl⟩, back7 Fa, tba⟩
    · rintro σ' H2 ⟨_, X2, tb2⟩
      exact q H2
end
end E4

set_option Elab.async false
set_option linter.all false
set_option maxRecDepth 100000
set_option maxHeartbeats 1000000
/-! how many texts a set holds -/
namespace L2
open PySem PySem.Spec PyProof.Rows
/-- all letters of the terms, one behind the other -/
def lets (fm : Fm) : List Str := fm.flatMap (·.1)
theorem lets_take {fm : Fm} {i : Nat} {x : MonR × Rat} (h : fm[i]? = some x) : lets (fm.take (i + 1)) = lets (fm.take i) ++ x.1 := by
  unfold lets
  rw [take_snoc h, List.flatMap_append, List.flatMap_cons, List.flatMap_nil, List.append_nil]
theorem len_take_lets (fm : Fm) (i : Nat) : (lets (fm.take i)).length ≤ (lets fm).length := by
  have h : lets fm = lets (fm.take i) ++ lets (fm.drop i) := by unfold lets; rw [← List.flatMap_append, List.take_append_drop]
  rw [h, List.length_append]
  exact Nat.le_add_right _ _
section
variable {P : Program} {w : World} {J J1 : It} {n : Nat} {G : Hp → Prop} {Y : Nat → Hp → V → Hp → Prop} {wi1 : TI} {g g1 : TG} {te : TE} {vs vs1 : List Nat} {σ : L2.St} {D : Addr} {H0 : Hp}
/-- the outer walk of such a comprehension -/
theorem sc2_it {Qd : Hp → Prop} (wk : Walk J n G Y) (Pv : Nat → Hp → Prop) (h0 : Pv 0 H0) (hG : ∀ i H, i ≤ n → Pv i H → G H)
    (hs : ∀ i x H H', i < n → Pv i H → Y i H x H' → g x (wipe σ vs) H' fun σ2 H2 => wipe σ2 vs = wipe σ vs ∧
      wi1 σ2 H2 fun J1 H4 => ∃ W1 : Nat → Nat → Hp → Prop, (∃ m, W1 0 m H4) ∧ ∀ j k H, W1 j k H →
        (J1.stop j H ∧ Pv (i + 1) H) ∨ (J1.go j H ∧ ∃ Nx1 : Hp → Prop, (∀ H', Nx1 H' → ∃ k', k' < k ∧ W1 (j + 1) k' H') ∧ ∀ x H', J1.yld j H x H' → g1 x (wipe σ2 vs1) H' fun σ3 H5 => wipe σ3 vs1 = wipe σ2 vs1 ∧
          te σ3 H5 fun y H7 => ∃ z ks, y = .str z ∧ H7 D = some (SetSO P w D ks) ∧ ks.length + 1 < scanBound ∧ Nx1 (upd H7 D (SetSO P w D (putS ks z)))))
    (hd : ∀ H, Pv n H → Qd H) :
    ∃ W : Nat → Nat → Hp → Prop, (∃ m, W 0 m H0) ∧ ∀ i m H, W i m H →
      (J.stop i H ∧ Qd H) ∨ (J.go i H ∧ ∃ Nx : Hp → Prop, (∀ H', Nx H' → ∃ m', m' < m ∧ W (i + 1) m' H') ∧ ∀ x H', J.yld i H x H' → g x (wipe σ vs) H' fun σ2 H2 => wipe σ2 vs = wipe σ vs ∧
        wi1 σ2 H2 fun J1 H4 => ∃ W1 : Nat → Nat → Hp → Prop, (∃ m, W1 0 m H4) ∧ ∀ j k H, W1 j k H →
          (J1.stop j H ∧ Nx H) ∨ (J1.go j H ∧ ∃ Nx1 : Hp → Prop, (∀ H', Nx1 H' → ∃ k', k' < k ∧ W1 (j + 1) k' H') ∧ ∀ x H', J1.yld j H x H' → g1 x (wipe σ2 vs1) H' fun σ3 H5 => wipe σ3 vs1 = wipe σ2 vs1 ∧
            te σ3 H5 fun y H7 => ∃ z ks, y = .str z ∧ H7 D = some (SetSO P w D ks) ∧ ks.length + 1 < scanBound ∧ Nx1 (upd H7 D (SetSO P w D (putS ks z))))) := by
  refine ⟨fun i m H => m = n - i ∧ i ≤ n ∧ Pv i H, ⟨n, by simp, Nat.zero_le _, h0⟩, ?_⟩
  rintro i m H ⟨rfl, hi, p⟩
  have q := hG i H hi p
  by_cases hlt : i < n
  · exact .inr ⟨wk.goes i H hlt q, Pv (i + 1), fun H' p' => ⟨n - (i + 1), by omega, rfl, hlt, p'⟩, fun x H' y => hs i x H H' hlt p (wk.yields i H x H' hlt q y)⟩
  · obtain rfl : i = n := by omega
    exact .inl ⟨wk.stops H q, hd H p⟩
/-- the inner one -/
theorem sc2_in {Nx : Hp → Prop} (wk : Walk J1 n G Y) (Pv : Nat → Hp → Prop) (h0 : Pv 0 H0) (hG : ∀ i H, i ≤ n → Pv i H → G H)
    (hs : ∀ j x H H', j < n → Pv j H → Y j H x H' → g1 x (wipe σ vs1) H' fun σ3 H5 => wipe σ3 vs1 = wipe σ vs1 ∧
      te σ3 H5 fun y H7 => ∃ z ks, y = .str z ∧ H7 D = some (SetSO P w D ks) ∧ ks.length + 1 < scanBound ∧ Pv (j + 1) (upd H7 D (SetSO P w D (putS ks z))))
    (hd : ∀ H, Pv n H → Nx H) :
    ∃ W1 : Nat → Nat → Hp → Prop, (∃ m, W1 0 m H0) ∧ ∀ j k H, W1 j k H →
      (J1.stop j H ∧ Nx H) ∨ (J1.go j H ∧ ∃ Nx1 : Hp → Prop, (∀ H', Nx1 H' → ∃ k', k' < k ∧ W1 (j + 1) k' H') ∧ ∀ x H', J1.yld j H x H' → g1 x (wipe σ vs1) H' fun σ3 H5 => wipe σ3 vs1 = wipe σ vs1 ∧
        te σ3 H5 fun y H7 => ∃ z ks, y = .str z ∧ H7 D = some (SetSO P w D ks) ∧ ks.length + 1 < scanBound ∧ Nx1 (upd H7 D (SetSO P w D (putS ks z)))) := by
  refine ⟨fun i m H => m = n - i ∧ i ≤ n ∧ Pv i H, ⟨n, by simp, Nat.zero_le _, h0⟩, ?_⟩
  rintro i m H ⟨rfl, hi, p⟩
  have q := hG i H hi p
  by_cases hlt : i < n
  · exact .inr ⟨wk.goes i H hlt q, Pv (i + 1), fun H' p' => ⟨n - (i + 1), by omega, rfl, hlt, p'⟩, fun x H' y => hs i x H H' hlt p (wk.yields i H x H' hlt q y)⟩
  · obtain rfl : i = n := by omega
    exact .inl ⟨wk.stops H q, hd H p⟩
end
theorem putAll_small {l m : List Str} (h : ∀ x ∈ l, x ∈ m) : (putAll [] l).length ≤ m.length :=
  E2.nodup_le (nodup_putAll List.nodup_nil) fun x hx => by
    rcases mem_putAll.mp hx with z | z
    · cases z
    · exact h x z
theorem lets_take_mem {fm : Fm} {i : Nat} {x : Str} (h : x ∈ lets (fm.take i)) : x ∈ lets fm := by
  obtain ⟨y, hy, hx⟩ := List.mem_flatMap.mp h
  exact List.mem_flatMap.mpr ⟨y, List.mem_of_mem_take hy, hx⟩
end L2

set_option Elab.async false
set_option linter.all false
set_option maxRecDepth 100000
set_option maxHeartbeats 1000000
/-! a.letters() -/
namespace E2
open PySem PySem.Spec PyProof.Rows L2
open C8 (Cal Mak Met InsC pe_c pe_mt pe_mt0 call_isC clsBody)
section
variable {P : Program} {w : World} {K : PySem.W.Frag} {mg : Str → Option Value} {base : Heap} {C : Addr}
theorem scLetters : FnScope ["self", "names", "name"] ["self"] (defScope sLetters) := ⟨rfl, rfl, rfl, by decide +kernel, rfl, by decide +kernel, by decide +kernel⟩
theorem ok_letters {f : Addr} {fd : FuncData} (F : Fun K "letters" "Form.letters" sLetters f fd) (T : Fx P w K mg base C) (B : Bt3 mg) : FnOk P w K mg base CX0 2 f fd ["self"] (spLetters P w K C) := by
  refine F.ok scLetters (fun vs H Q E h => ?_) (fun cdv A outer s H vs Q E hr h => ?_)
  · obtain ⟨a, fm, rfl, _⟩ := h
    rfl
  · obtain ⟨a, fm, rfl, ⟨dx, d, kvs, ha, hd, hf⟩, hli, k⟩ := h
    refine ⟨_, pss_one (ps_ret (pe_callB (cr_sortedSS rfl) (by rfl) B.srt_ (by decide +kernel) (pa_cons (pe_lock (pe_sc2 (own := [("names", 1), ("name", 2)]) (vs1 := [2]) (g := gName 1) (wi1 := iTup K (tVar 1)) (g1 := gName 2) (te := tVar 2) rfl scLetters.nd (pi_keysN (pe_fld (pv 0) rfl))
      (blkOk_by (own := [("names", 1), ("name", 2)]) (N := ["self", "names", "name"]) (sc := defScope sLetters) (by decide +kernel)) (by decide)
      (fun _ _ _ _ _ => pg_name (i := 1) scLetters.nd rfl (Or.inl rfl)) (fun _ _ _ _ _ => pi_tup (pv 1)) (fun _ _ _ _ _ => pg_name (i := 2) scLetters.nd rfl (Or.inl rfl)) (fun _ _ _ _ _ => pv 2))) pa_nil))), ?_⟩
    have nad : a ≠ d := ne_of ha hd (by intro z; cases z)
    refine ⟨d, DfO P w d kvs, hd, trivial, fun od => ?_⟩
    refine ⟨_, rfl, a, C, dx, _, _, rfl, by rw [upd_ne nad]; exact ha, T.cl, T.na, rfl, d, od, kvs, rfl, upd_same, fun D nD => ?_⟩
    have neD : D ≠ d := by
      rintro rfl
      rw [upd_same] at nD
      cases nD
    have nDH : H D = none := by rwa [upd_ne neD] at nD
    have h1 : (upd H d (.frz od (DfO P w d kvs))) d = some (.frz od (DfO P w d kvs)) := upd_same
    have hf1 : FmKv K (upd H d (.frz od (DfO P w d kvs))) kvs fm := hf.imp (.off hd noTup_df)
    have small : ∀ l : List Str, (∀ z ∈ l, z ∈ lets fm) → (putAll [] l).length ≤ 1000 := fun l hl2 => by
      obtain ⟨names, n1, n2⟩ := hli
      refine Nat.le_trans (putAll_small (m := names) fun z hz => ?_) n1
      obtain ⟨x, hx, hxz⟩ := List.mem_flatMap.mp (hl2 z hz)
      exact n2 x hx z hxz
    have S0 : ∀ z : HO, Same H (upd (upd (upd H d (.frz od (DfO P w d kvs))) D z) d (DfO P w d kvs)) := fun z b o e => by
      by_cases c : b = d
      · subst c
        rw [upd_same, ← hd, e]
      · rw [upd_ne c, upd_ne (ne_of_none e nDH), upd_ne c]
        exact e
    generalize hH1 : upd H d (.frz od (DfO P w d kvs)) = H1 at hf1 nD h1 S0 ⊢
    refine sc2_it walk_keysN (fun i H' => H' = upd H1 D (SetSO P w D (putAll [] (lets (fm.take i))))) rfl (fun i H' _ e => by rw [e, upd_ne (Ne.symm neD)]; exact h1) ?_ ?_
    · rintro i x H' H'' hi rfl ⟨rfl, kk, b, av, hkv, rfl⟩
      obtain ⟨m, q, b', a1, hm, e, tb, sa⟩ := hf1.get hkv
      obtain ⟨rfl, e2⟩ := Prod.mk.inj e
      obtain ⟨rfl, rfl⟩ := Prod.mk.inj e2
      rw [kS_kV] at tb
      have hb : ∀ z : HO, SqT K (upd H1 D z) b (m.map V.str) := fun z => (tb.same (Same.upd nD)).sq
      have ltk := lets_take hm
      have ln := len_take_lets fm (i + 1)
      rw [ltk, List.length_append] at ln
      have ln : (lets (fm.take i)).length + m.length ≤ (lets fm).length := ln
      refine ⟨rfl, _, rfl, b, rfl, ⟨_, hb _⟩, ?_⟩
      refine sc2_in (walk_tup (xs := m.map V.str)) (fun j H' => H' = upd H1 D (SetSO P w D (putAll [] (lets (fm.take i) ++ m.take j)))) ?_ ?_ ?_ ?_
      · rw [List.take_zero, List.append_nil]
      · rintro j H' _ rfl
        exact hb _
      · rintro j x H' H'' hj rfl ⟨rfl, hx⟩
        rw [List.getElem?_map] at hx
        cases hz : m[j]? with
        | none => rw [hz] at hx; cases hx
        | some z =>
          rw [hz] at hx
          cases hx
          refine ⟨rfl, _, rfl, z, _, rfl, upd_same, ?_, ?_⟩
          · have := small (lets (fm.take i) ++ m.take j) (fun y hy => by
              have h1 : y ∈ lets (fm.take (i + 1)) := by
                rw [ltk]
                rcases List.mem_append.mp hy with h | h
                · exact List.mem_append.mpr (.inl h)
                · exact List.mem_append.mpr (.inr (List.mem_of_mem_take h))
              exact lets_take_mem h1)
            exact Nat.lt_of_le_of_lt (Nat.succ_le_succ this) (by decide)
          · rw [upd_upd, putAllS_snoc, List.append_assoc, ← take_snoc hz]
            rfl
      · rintro H' rfl
        rw [List.length_map, List.take_length, ltk]
    · rintro H' rfl
      rw [hf.length, List.take_length]
      refine ⟨by rw [upd_ne (Ne.symm neD)]; exact h1, D, _, rfl, by rw [upd_ne neD]; exact upd_same, fun ys pm nd so p H2 S np hp => ?_⟩
      refine k H2 p ys ((S0 _).trans S) ((S0 _).free np) hp (by rw [pm.length_eq]; exact small _ fun _ h => h) so (pm.nodup_iff.mpr nd) fun x => ?_
      rw [pm.mem_iff, mem_putAll]
      unfold lets
      rw [List.mem_flatMap]
      constructor
      · rintro (h | ⟨y, hy, hx⟩)
        · cases h
        · exact ⟨y.1, List.mem_map.mpr ⟨y, hy, rfl⟩, hx⟩
      · rintro ⟨m, hm, hx⟩
        obtain ⟨y, hy, rfl⟩ := List.mem_map.mp hm
        exact .inr ⟨y, hy, hx⟩
end
end E2

set_option Elab.async false
set_option linter.all false
set_option maxRecDepth 100000
set_option maxHeartbeats 1000000
/-! what the top left: each def with its promise -/
namespace E4
open PySem PySem.Spec PyProof.Rows L2 He Hb
open C8 (Cal Mak Met InsC)
open LamX (Tabs ExtN TabB CodeO TabS)
theorem neB_ok {K : PySem.W.Frag} {C : Addr} (h : neB K C = true) : PySem.W.NoNe K C (ma K C "__eq__") := by
  obtain ⟨h1, h⟩ := ba h
  obtain ⟨h2, h⟩ := ba h
  obtain ⟨h3, h4⟩ := ba h
  exact ⟨eqO_ok h1, eqO_ok h2, h3, of_decide_eq_true h4⟩
section
variable {P : Program} {w : World} {K : PySem.W.Frag} {mg : Str → Option Value} {base : Heap}
theorem cal_of {x : Str} {f : Addr} {fd : FuncData} {ps : List Str} {k : Nat} {sp : Sp} (kp : PySem.W.keepIn K (.ref f) = true) (g : mg x = some (.ref f)) (b : Binds K fd ps []) (O : FnOk P w K mg base CX0 k f fd ps sp) : Cal P w K mg base k x sp [] := ⟨f, fd, ps, [], O, g, kp, b, .nil⟩
end
theorem code_of {K : PySem.W.Frag} {x qual : Str} {st : Stmt} {p : Defn} {fd : FuncData} (F : L2.Fun K x qual st (fAd K p) fd) : fd.code = .ref (cT K p).1 := by
  obtain ⟨oc, od, kV, doc, pm, an, cdv, ct, osl, rfl, lk, hcd⟩ := F.ex
  obtain ⟨c, rfl⟩ := codeIn_ref hcd
  show Value.ref c = Value.ref (codeOf K p)
  rw [codeOf_eq lk rfl]
theorem facts {P : Program} {w : World} {K : PySem.W.Frag} {h : Heap} {mg : Str → Option Value} {fl : Addr} (X : K.In h) (G : h.Ns mainGlobals mg) (hfa : mg "law" = some (.ref fl)) (c : SaysX faR fnR tsR [pT0] exR w h K) :
    ∃ fd : FuncData, (∀ (s : Shared) (u : Value), BindsTo s fd ⟨[u], []⟩ [("_law_script", u)]) ∧ ∀ base : Heap, K.In base → base.Ns mainGlobals mg → (∀ p ∈ [cT K pT0], TabB base mg p.1 p.2) → FnOk P w K mg base CX0 8 fl fd ["_law_script"] (spLaw [((cT K pT0).2, qT0)] K) := by
  have cd := c.t.d
  have cc : ((bsR K).all id) = true := c.more
  obtain ⟨d_is_whole, F_is_whole⟩ := funX cd 0 (at_ := ("is_whole", none)) (name := "is_whole") (qual := "is_whole") (st := E2.sIsWhole) rfl
  have g_is_whole : mg "is_whole" = some (.ref (ga K "is_whole")) := glo_ok X G (cd.fact 0 (f := .glo "is_whole") rfl)
  have b_is_whole := F_is_whole.binds (ps := ["value"]) fun _ _ _ _ _ _ us hl => match us, hl with | [_], _ => rfl
  obtain ⟨d_is_letter, F_is_letter⟩ := funX cd 1 (at_ := ("is_letter", none)) (name := "is_letter") (qual := "is_letter") (st := sIsLetter) rfl
  have g_is_letter : mg "is_letter" = some (.ref (ga K "is_letter")) := glo_ok X G (cd.fact 1 (f := .glo "is_letter") rfl)
  have b_is_letter := F_is_letter.binds (ps := ["name"]) fun _ _ _ _ _ _ us hl => match us, hl with | [_], _ => rfl
  obtain ⟨d_is_values, F_is_values⟩ := funX cd 2 (at_ := ("is_values", none)) (name := "is_values") (qual := "is_values") (st := E2.sIsValues) rfl
  have g_is_values : mg "is_values" = some (.ref (ga K "is_values")) := glo_ok X G (cd.fact 2 (f := .glo "is_values") rfl)
  have b_is_values := F_is_values.binds (ps := ["values", "names"]) fun _ _ _ _ _ _ us hl => match us, hl with | [_, _], _ => rfl
  obtain ⟨d_letter, F_letter⟩ := funX cd 3 (at_ := ("letter", none)) (name := "letter") (qual := "letter") (st := E2.sLetter) rfl
  have g_letter : mg "letter" = some (.ref (ga K "letter")) := glo_ok X G (cd.fact 3 (f := .glo "letter") rfl)
  have b_letter := F_letter.binds (ps := ["name"]) fun _ _ _ _ _ _ us hl => match us, hl with | [_], _ => rfl
  obtain ⟨d_number, F_number⟩ := funX cd 4 (at_ := ("number", none)) (name := "number") (qual := "number") (st := E2.sNumber) rfl
  have g_number : mg "number" = some (.ref (ga K "number")) := glo_ok X G (cd.fact 4 (f := .glo "number") rfl)
  have b_number := F_number.binds (ps := ["value"]) fun _ _ _ _ _ _ us hl => match us, hl with | [_], _ => rfl
  obtain ⟨d_product_form, F_product_form⟩ := funX cd 5 (at_ := ("product_form", none)) (name := "product_form") (qual := "product_form") (st := sProdF) rfl
  have g_product_form : mg "product_form" = some (.ref (ga K "product_form")) := glo_ok X G (cd.fact 5 (f := .glo "product_form") rfl)
  have b_product_form := F_product_form.binds (ps := ["names"]) fun _ _ _ _ _ _ us hl => match us, hl with | [_], _ => rfl
  obtain ⟨d_right_side, F_right_side⟩ := funX cd 6 (at_ := ("right_side", none)) (name := "right_side") (qual := "right_side") (st := E2.sRightSide) rfl
  have g_right_side : mg "right_side" = some (.ref (ga K "right_side")) := glo_ok X G (cd.fact 6 (f := .glo "right_side") rfl)
  have b_right_side := F_right_side.binds (ps := ["other"]) fun _ _ _ _ _ _ us hl => match us, hl with | [_], _ => rfl
  obtain ⟨d_without_noughts, F_without_noughts⟩ := funX cd 7 (at_ := ("without_noughts", none)) (name := "without_noughts") (qual := "without_noughts") (st := E2.sWithout) rfl
  have g_without_noughts : mg "without_noughts" = some (.ref (ga K "without_noughts")) := glo_ok X G (cd.fact 7 (f := .glo "without_noughts") rfl)
  have b_without_noughts := F_without_noughts.binds (ps := ["parts"]) fun _ _ _ _ _ _ us hl => match us, hl with | [_], _ => rfl
  obtain ⟨d_product_at, F_product_at⟩ := funX cd 8 (at_ := ("product_at", none)) (name := "product_at") (qual := "product_at") (st := E2.sProductAt) rfl
  have g_product_at : mg "product_at" = some (.ref (ga K "product_at")) := glo_ok X G (cd.fact 8 (f := .glo "product_at") rfl)
  have b_product_at := F_product_at.binds (ps := ["names", "values"]) fun _ _ _ _ _ _ us hl => match us, hl with | [_, _], _ => rfl
  obtain ⟨d_lowest, F_lowest⟩ := funX cd 9 (at_ := ("lowest", none)) (name := "lowest") (qual := "lowest") (st := E2.sLowest) rfl
  have g_lowest : mg "lowest" = some (.ref (ga K "lowest")) := glo_ok X G (cd.fact 9 (f := .glo "lowest") rfl)
  have b_lowest := F_lowest.binds (ps := ["top", "bottom"]) fun _ _ _ _ _ _ us hl => match us, hl with | [_, _], _ => rfl
  obtain ⟨d_fraction_sum, F_fraction_sum⟩ := funX cd 10 (at_ := ("fraction_sum", none)) (name := "fraction_sum") (qual := "fraction_sum") (st := E2.sFracSum) rfl
  have g_fraction_sum : mg "fraction_sum" = some (.ref (ga K "fraction_sum")) := glo_ok X G (cd.fact 10 (f := .glo "fraction_sum") rfl)
  have b_fraction_sum := F_fraction_sum.binds (ps := ["one", "other"]) fun _ _ _ _ _ _ us hl => match us, hl with | [_, _], _ => rfl
  obtain ⟨d_fraction_product, F_fraction_product⟩ := funX cd 11 (at_ := ("fraction_product", none)) (name := "fraction_product") (qual := "fraction_product") (st := E2.sFracProd) rfl
  have g_fraction_product : mg "fraction_product" = some (.ref (ga K "fraction_product")) := glo_ok X G (cd.fact 11 (f := .glo "fraction_product") rfl)
  have b_fraction_product := F_fraction_product.binds (ps := ["one", "other"]) fun _ _ _ _ _ _ us hl => match us, hl with | [_, _], _ => rfl
  obtain ⟨d_check_table, F_check_table⟩ := funX cd 12 (at_ := ("check_table", none)) (name := "check_table") (qual := "check_table") (st := sCheckTable) rfl
  have g_check_table : mg "check_table" = some (.ref (ga K "check_table")) := glo_ok X G (cd.fact 12 (f := .glo "check_table") rfl)
  have b_check_table := F_check_table.binds (ps := ["table"]) fun _ _ _ _ _ _ us hl => match us, hl with | [_], _ => rfl
  obtain ⟨d_is_sides, F_is_sides⟩ := funX cd 13 (at_ := ("is_sides", none)) (name := "is_sides") (qual := "is_sides") (st := sIsSides) rfl
  have g_is_sides : mg "is_sides" = some (.ref (ga K "is_sides")) := glo_ok X G (cd.fact 13 (f := .glo "is_sides") rfl)
  have b_is_sides := F_is_sides.binds (ps := ["sides", "many"]) fun _ _ _ _ _ _ us hl => match us, hl with | [_, _], _ => rfl
  obtain ⟨d_is_side, F_is_side⟩ := funX cd 14 (at_ := ("is_side", none)) (name := "is_side") (qual := "is_side") (st := sIsSide) rfl
  have g_is_side : mg "is_side" = some (.ref (ga K "is_side")) := glo_ok X G (cd.fact 14 (f := .glo "is_side") rfl)
  have b_is_side := F_is_side.binds (ps := ["side", "many"]) fun _ _ _ _ _ _ us hl => match us, hl with | [_, _], _ => rfl
  obtain ⟨d_is_product, F_is_product⟩ := funX cd 15 (at_ := ("is_product", none)) (name := "is_product") (qual := "is_product") (st := sIsProduct) rfl
  have g_is_product : mg "is_product" = some (.ref (ga K "is_product")) := glo_ok X G (cd.fact 15 (f := .glo "is_product") rfl)
  have b_is_product := F_is_product.binds (ps := ["product"]) fun _ _ _ _ _ _ us hl => match us, hl with | [_], _ => rfl
  obtain ⟨d_names_of, F_names_of⟩ := funX cd 16 (at_ := ("names_of", none)) (name := "names_of") (qual := "names_of") (st := sNamesOf) rfl
  have g_names_of : mg "names_of" = some (.ref (ga K "names_of")) := glo_ok X G (cd.fact 16 (f := .glo "names_of") rfl)
  have b_names_of := F_names_of.binds (ps := ["sides"]) fun _ _ _ _ _ _ us hl => match us, hl with | [_], _ => rfl
  obtain ⟨d_jumps, F_jumps⟩ := funX cd 17 (at_ := ("jumps", none)) (name := "jumps") (qual := "jumps") (st := sJumps) rfl
  have g_jumps : mg "jumps" = some (.ref (ga K "jumps")) := glo_ok X G (cd.fact 17 (f := .glo "jumps") rfl)
  have b_jumps := F_jumps.binds (ps := ["table", "walk"]) fun _ _ _ _ _ _ us hl => match us, hl with | [_, _], _ => rfl
  obtain ⟨d_check_walk, F_check_walk⟩ := funX cd 18 (at_ := ("check_walk", none)) (name := "check_walk") (qual := "check_walk") (st := sWalk) rfl
  have g_check_walk : mg "check_walk" = some (.ref (ga K "check_walk")) := glo_ok X G (cd.fact 18 (f := .glo "check_walk") rfl)
  have b_check_walk := F_check_walk.binds (ps := ["walk", "table"]) fun _ _ _ _ _ _ us hl => match us, hl with | [_, _], _ => rfl
  obtain ⟨d_inside_out, F_inside_out⟩ := funX cd 19 (at_ := ("inside_out", none)) (name := "inside_out") (qual := "inside_out") (st := sInside) rfl
  have g_inside_out : mg "inside_out" = some (.ref (ga K "inside_out")) := glo_ok X G (cd.fact 19 (f := .glo "inside_out") rfl)
  have b_inside_out := F_inside_out.binds (ps := ["table", "walk"]) fun _ _ _ _ _ _ us hl => match us, hl with | [_, _], _ => rfl
  obtain ⟨d__law_purse, F__law_purse⟩ := funX cd 20 (at_ := ("_law_purse", none)) (name := "_law_purse") (qual := "_law_purse") (st := E3.sPurse) rfl
  have g__law_purse : mg "_law_purse" = some (.ref (ga K "_law_purse")) := glo_ok X G (cd.fact 20 (f := .glo "_law_purse") rfl)
  have b__law_purse := F__law_purse.binds (ps := ["_law_script", "_law_at"]) fun _ _ _ _ _ _ us hl => match us, hl with | [_, _], _ => rfl
  obtain ⟨d__law_mixed, F__law_mixed⟩ := funX cd 21 (at_ := ("_law_mixed", none)) (name := "_law_mixed") (qual := "_law_mixed") (st := E3.sMixed) rfl
  have g__law_mixed : mg "_law_mixed" = some (.ref (ga K "_law_mixed")) := glo_ok X G (cd.fact 21 (f := .glo "_law_mixed") rfl)
  have b__law_mixed := F__law_mixed.binds (ps := ["_law_seed", "_law_step"]) fun _ _ _ _ _ _ us hl => match us, hl with | [_, _], _ => rfl
  obtain ⟨d__law_draw, F__law_draw⟩ := funX cd 22 (at_ := ("_law_draw", none)) (name := "_law_draw") (qual := "_law_draw") (st := E3.sDraw) rfl
  have g__law_draw : mg "_law_draw" = some (.ref (ga K "_law_draw")) := glo_ok X G (cd.fact 22 (f := .glo "_law_draw") rfl)
  have b__law_draw := F__law_draw.binds (ps := ["_law_purse_here", "_law_many"]) fun _ _ _ _ _ _ us hl => match us, hl with | [_, _], _ => rfl
  obtain ⟨d__law_one_of, F__law_one_of⟩ := funX cd 23 (at_ := ("_law_one_of", none)) (name := "_law_one_of") (qual := "_law_one_of") (st := sOneOf) rfl
  have g__law_one_of : mg "_law_one_of" = some (.ref (ga K "_law_one_of")) := glo_ok X G (cd.fact 23 (f := .glo "_law_one_of") rfl)
  have b__law_one_of := F__law_one_of.binds (ps := ["_law_purse_here", "_law_some"]) fun _ _ _ _ _ _ us hl => match us, hl with | [_, _], _ => rfl
  obtain ⟨d__law_shuffled, F__law_shuffled⟩ := funX cd 24 (at_ := ("_law_shuffled", none)) (name := "_law_shuffled") (qual := "_law_shuffled") (st := sShuffled) rfl
  have g__law_shuffled : mg "_law_shuffled" = some (.ref (ga K "_law_shuffled")) := glo_ok X G (cd.fact 24 (f := .glo "_law_shuffled") rfl)
  have b__law_shuffled := F__law_shuffled.binds (ps := ["_law_purse_here", "_law_some"]) fun _ _ _ _ _ _ us hl => match us, hl with | [_, _], _ => rfl
  obtain ⟨d__law_letters, F__law_letters⟩ := funX cd 25 (at_ := ("_law_letters", none)) (name := "_law_letters") (qual := "_law_letters") (st := sLetters) rfl
  have g__law_letters : mg "_law_letters" = some (.ref (ga K "_law_letters")) := glo_ok X G (cd.fact 25 (f := .glo "_law_letters") rfl)
  have b__law_letters := F__law_letters.binds (ps := ["_law_purse_here", "_law_most"]) fun _ _ _ _ _ _ us hl => match us, hl with | [_, _], _ => rfl
  obtain ⟨d__law_names, F__law_names⟩ := funX cd 26 (at_ := ("_law_names", none)) (name := "_law_names") (qual := "_law_names") (st := sNamesL) rfl
  have g__law_names : mg "_law_names" = some (.ref (ga K "_law_names")) := glo_ok X G (cd.fact 26 (f := .glo "_law_names") rfl)
  have b__law_names := F__law_names.binds (ps := ["_law_purse_here", "_law_many"]) fun _ _ _ _ _ _ us hl => match us, hl with | [_, _], _ => rfl
  obtain ⟨d__law_chain, F__law_chain⟩ := funX cd 27 (at_ := ("_law_chain", none)) (name := "_law_chain") (qual := "_law_chain") (st := sChain) rfl
  have g__law_chain : mg "_law_chain" = some (.ref (ga K "_law_chain")) := glo_ok X G (cd.fact 27 (f := .glo "_law_chain") rfl)
  have b__law_chain := F__law_chain.binds (ps := ["_law_purse_here", "_law_many", "_law_often"]) fun _ _ _ _ _ _ us hl => match us, hl with | [_, _, _], _ => rfl
  obtain ⟨d__law_times, F__law_times⟩ := funX cd 28 (at_ := ("_law_times", none)) (name := "_law_times") (qual := "_law_times") (st := sTimes) rfl
  have g__law_times : mg "_law_times" = some (.ref (ga K "_law_times")) := glo_ok X G (cd.fact 28 (f := .glo "_law_times") rfl)
  have b__law_times := F__law_times.binds (ps := ["_law_product", "_law_sizes_here"]) fun _ _ _ _ _ _ us hl => match us, hl with | [_, _], _ => rfl
  obtain ⟨d__law_used, F__law_used⟩ := funX cd 29 (at_ := ("_law_used", none)) (name := "_law_used") (qual := "_law_used") (st := sUsed) rfl
  have g__law_used : mg "_law_used" = some (.ref (ga K "_law_used")) := glo_ok X G (cd.fact 29 (f := .glo "_law_used") rfl)
  have b__law_used := F__law_used.binds (ps := ["_law_rows"]) fun _ _ _ _ _ _ us hl => match us, hl with | [_], _ => rfl
  obtain ⟨d__law_sizes, F__law_sizes⟩ := funX cd 30 (at_ := ("_law_sizes", none)) (name := "_law_sizes") (qual := "_law_sizes") (st := sSizesL) rfl
  have g__law_sizes : mg "_law_sizes" = some (.ref (ga K "_law_sizes")) := glo_ok X G (cd.fact 30 (f := .glo "_law_sizes") rfl)
  have b__law_sizes := F__law_sizes.binds (ps := ["_law_purse_here", "_law_rows", "_law_most"]) fun _ _ _ _ _ _ us hl => match us, hl with | [_, _, _], _ => rfl
  obtain ⟨d__law_spot, F__law_spot⟩ := funX cd 31 (at_ := ("_law_spot", none)) (name := "_law_spot") (qual := "_law_spot") (st := sSpot) rfl
  have g__law_spot : mg "_law_spot" = some (.ref (ga K "_law_spot")) := glo_ok X G (cd.fact 31 (f := .glo "_law_spot") rfl)
  have b__law_spot := F__law_spot.binds (ps := ["_law_rows", "_law_sizes_here", "_law_cell"]) fun _ _ _ _ _ _ us hl => match us, hl with | [_, _, _], _ => rfl
  obtain ⟨d__law_many_cells, F__law_many_cells⟩ := funX cd 32 (at_ := ("_law_many_cells", none)) (name := "_law_many_cells") (qual := "_law_many_cells") (st := sMany) rfl
  have g__law_many_cells : mg "_law_many_cells" = some (.ref (ga K "_law_many_cells")) := glo_ok X G (cd.fact 32 (f := .glo "_law_many_cells") rfl)
  have b__law_many_cells := F__law_many_cells.binds (ps := ["_law_rows", "_law_sizes_here"]) fun _ _ _ _ _ _ us hl => match us, hl with | [_, _], _ => rfl
  obtain ⟨d__law_product_form, F__law_product_form⟩ := funX cd 33 (at_ := ("_law_product_form", none)) (name := "_law_product_form") (qual := "_law_product_form") (st := sLPF) rfl
  have g__law_product_form : mg "_law_product_form" = some (.ref (ga K "_law_product_form")) := glo_ok X G (cd.fact 33 (f := .glo "_law_product_form") rfl)
  have b__law_product_form := F__law_product_form.binds (ps := ["_law_product"]) fun _ _ _ _ _ _ us hl => match us, hl with | [_], _ => rfl
  obtain ⟨d__law_walked, F__law_walked⟩ := funX cd 34 (at_ := ("_law_walked", none)) (name := "_law_walked") (qual := "_law_walked") (st := sWalked) rfl
  have g__law_walked : mg "_law_walked" = some (.ref (ga K "_law_walked")) := glo_ok X G (cd.fact 34 (f := .glo "_law_walked") rfl)
  have b__law_walked := F__law_walked.binds (ps := ["_law_rows", "_law_sizes_here", "_law_route"]) fun _ _ _ _ _ _ us hl => match us, hl with | [_, _, _], _ => rfl
  obtain ⟨d__law_steps, F__law_steps⟩ := funX cd 35 (at_ := ("_law_steps", none)) (name := "_law_steps") (qual := "_law_steps") (st := sSteps) rfl
  have g__law_steps : mg "_law_steps" = some (.ref (ga K "_law_steps")) := glo_ok X G (cd.fact 35 (f := .glo "_law_steps") rfl)
  have b__law_steps := F__law_steps.binds (ps := ["_law_rows", "_law_sizes_here", "_law_route"]) fun _ _ _ _ _ _ us hl => match us, hl with | [_, _, _], _ => rfl
  obtain ⟨d__law_small_right, F__law_small_right⟩ := funX cd 36 (at_ := ("_law_small_right", none)) (name := "_law_small_right") (qual := "_law_small_right") (st := sSmall) rfl
  have g__law_small_right : mg "_law_small_right" = some (.ref (ga K "_law_small_right")) := glo_ok X G (cd.fact 36 (f := .glo "_law_small_right") rfl)
  have b__law_small_right := F__law_small_right.binds (ps := ["_law_rows", "_law_told", "_law_route", "_law_sizes_here"]) fun _ _ _ _ _ _ us hl => match us, hl with | [_, _, _, _], _ => rfl
  obtain ⟨d__law_great_right, F__law_great_right⟩ := funX cd 37 (at_ := ("_law_great_right", none)) (name := "_law_great_right") (qual := "_law_great_right") (st := sGreat) rfl
  have g__law_great_right : mg "_law_great_right" = some (.ref (ga K "_law_great_right")) := glo_ok X G (cd.fact 37 (f := .glo "_law_great_right") rfl)
  have b__law_great_right := F__law_great_right.binds (ps := ["_law_rows", "_law_told", "_law_sizes_here"]) fun _ _ _ _ _ _ us hl => match us, hl with | [_, _, _], _ => rfl
  obtain ⟨d__law_due, F__law_due⟩ := funX cd 38 (at_ := ("_law_due", none)) (name := "_law_due") (qual := "_law_due") (st := sDue) rfl
  have g__law_due : mg "_law_due" = some (.ref (ga K "_law_due")) := glo_ok X G (cd.fact 38 (f := .glo "_law_due") rfl)
  have b__law_due := F__law_due.binds (ps := ["_law_rows", "_law_route"]) fun _ _ _ _ _ _ us hl => match us, hl with | [_, _], _ => rfl
  obtain ⟨d_law, F_law⟩ := funX cd 39 (at_ := ("law", none)) (name := "law") (qual := "law") (st := sLaw) rfl
  have g_law : mg "law" = some (.ref (ga K "law")) := glo_ok X G (cd.fact 39 (f := .glo "law") rfl)
  have b_law := F_law.binds (ps := ["_law_script"]) fun _ _ _ _ _ _ us hl => match us, hl with | [_], _ => rfl
  obtain ⟨d_Plain___init__, F_Plain___init__⟩ := funX cd 40 (at_ := ("Plain", some "__init__")) (name := "__init__") (qual := "Plain.__init__") (st := sInit) rfl
  have b_Plain___init__ := F_Plain___init__.binds (ps := ["self", "sides"]) fun _ _ _ _ _ _ us hl => match us, hl with | [_, _], _ => rfl
  obtain ⟨d_Plain___eq__, F_Plain___eq__⟩ := funX cd 41 (at_ := ("Plain", some "__eq__")) (name := "__eq__") (qual := "Plain.__eq__") (st := sEq) rfl
  have b_Plain___eq__ := F_Plain___eq__.binds (ps := ["self", "other"]) fun _ _ _ _ _ _ us hl => match us, hl with | [_, _], _ => rfl
  obtain ⟨d_Plain_sides, F_Plain_sides⟩ := funX cd 42 (at_ := ("Plain", some "sides")) (name := "sides") (qual := "Plain.sides") (st := sSides) rfl
  have b_Plain_sides := F_Plain_sides.binds (ps := ["self"]) fun _ _ _ _ _ _ us hl => match us, hl with | [_], _ => rfl
  obtain ⟨d_Form___init__, F_Form___init__⟩ := funX cd 43 (at_ := ("Form", some "__init__")) (name := "__init__") (qual := "Form.__init__") (st := E2.sInit) rfl
  have b_Form___init__ := F_Form___init__.binds (ps := ["self", "parts"]) fun _ _ _ _ _ _ us hl => match us, hl with | [_, _], _ => rfl
  obtain ⟨d_Form___add__, F_Form___add__⟩ := funX cd 44 (at_ := ("Form", some "__add__")) (name := "__add__") (qual := "Form.__add__") (st := E2.sAdd) rfl
  have b_Form___add__ := F_Form___add__.binds (ps := ["self", "other"]) fun _ _ _ _ _ _ us hl => match us, hl with | [_, _], _ => rfl
  obtain ⟨d_Form___sub__, F_Form___sub__⟩ := funX cd 45 (at_ := ("Form", some "__sub__")) (name := "__sub__") (qual := "Form.__sub__") (st := E2.sSub) rfl
  have b_Form___sub__ := F_Form___sub__.binds (ps := ["self", "other"]) fun _ _ _ _ _ _ us hl => match us, hl with | [_, _], _ => rfl
  obtain ⟨d_Form___mul__, F_Form___mul__⟩ := funX cd 46 (at_ := ("Form", some "__mul__")) (name := "__mul__") (qual := "Form.__mul__") (st := E2.sMul) rfl
  have b_Form___mul__ := F_Form___mul__.binds (ps := ["self", "other"]) fun _ _ _ _ _ _ us hl => match us, hl with | [_, _], _ => rfl
  obtain ⟨d_Form___neg__, F_Form___neg__⟩ := funX cd 47 (at_ := ("Form", some "__neg__")) (name := "__neg__") (qual := "Form.__neg__") (st := E2.sNeg) rfl
  have b_Form___neg__ := F_Form___neg__.binds (ps := ["self"]) fun _ _ _ _ _ _ us hl => match us, hl with | [_], _ => rfl
  obtain ⟨d_Form___eq__, F_Form___eq__⟩ := funX cd 48 (at_ := ("Form", some "__eq__")) (name := "__eq__") (qual := "Form.__eq__") (st := E2.sEq) rfl
  have b_Form___eq__ := F_Form___eq__.binds (ps := ["self", "other"]) fun _ _ _ _ _ _ us hl => match us, hl with | [_, _], _ => rfl
  obtain ⟨d_Form_letters, F_Form_letters⟩ := funX cd 49 (at_ := ("Form", some "letters")) (name := "letters") (qual := "Form.letters") (st := E2.sLetters) rfl
  have b_Form_letters := F_Form_letters.binds (ps := ["self"]) fun _ _ _ _ _ _ us hl => match us, hl with | [_], _ => rfl
  obtain ⟨d_Form_terms, F_Form_terms⟩ := funX cd 50 (at_ := ("Form", some "terms")) (name := "terms") (qual := "Form.terms") (st := (E2.meth 7)) rfl
  have b_Form_terms := F_Form_terms.binds (ps := ["self"]) fun _ _ _ _ _ _ us hl => match us, hl with | [_], _ => rfl
  obtain ⟨d_Form_at, F_Form_at⟩ := funX cd 51 (at_ := ("Form", some "at")) (name := "at") (qual := "Form.at") (st := E2.sAt) rfl
  have b_Form_at := F_Form_at.binds (ps := ["self", "values"]) fun _ _ _ _ _ _ us hl => match us, hl with | [_, _], _ => rfl
  have g_Plain : mg "Plain" = some (.ref (ga K "Plain")) := glo_ok X G (cd.fact 40 (f := .glo "Plain") rfl)
  have g_Form : mg "Form" = some (.ref (ga K "Form")) := glo_ok X G (cd.fact 41 (f := .glo "Form") rfl)
  have z_isinstance : mg "isinstance" = none := free_ok X G (cd.fact 42 (f := .free "isinstance") rfl)
  have z_int : mg "int" = none := free_ok X G (cd.fact 43 (f := .free "int") rfl)
  have z_bool : mg "bool" = none := free_ok X G (cd.fact 44 (f := .free "bool") rfl)
  have z_str : mg "str" = none := free_ok X G (cd.fact 45 (f := .free "str") rfl)
  have z_len : mg "len" = none := free_ok X G (cd.fact 46 (f := .free "len") rfl)
  have z_all : mg "all" = none := free_ok X G (cd.fact 47 (f := .free "all") rfl)
  have z_any : mg "any" = none := free_ok X G (cd.fact 48 (f := .free "any") rfl)
  have z_list : mg "list" = none := free_ok X G (cd.fact 49 (f := .free "list") rfl)
  have z_tuple : mg "tuple" = none := free_ok X G (cd.fact 50 (f := .free "tuple") rfl)
  have z_dict : mg "dict" = none := free_ok X G (cd.fact 51 (f := .free "dict") rfl)
  have z_set : mg "set" = none := free_ok X G (cd.fact 52 (f := .free "set") rfl)
  have z_sorted : mg "sorted" = none := free_ok X G (cd.fact 53 (f := .free "sorted") rfl)
  have z_zip : mg "zip" = none := free_ok X G (cd.fact 54 (f := .free "zip") rfl)
  have z_reversed : mg "reversed" = none := free_ok X G (cd.fact 55 (f := .free "reversed") rfl)
  have z_divmod : mg "divmod" = none := free_ok X G (cd.fact 56 (f := .free "divmod") rfl)
  have z_enumerate : mg "enumerate" = none := free_ok X G (cd.fact 57 (f := .free "enumerate") rfl)
  have z_sum : mg "sum" = none := free_ok X G (cd.fact 58 (f := .free "sum") rfl)
  have z_max : mg "max" = none := free_ok X G (cd.fact 59 (f := .free "max") rfl)
  have z_min : mg "min" = none := free_ok X G (cd.fact 60 (f := .free "min") rfl)
  have z_range : mg "range" = none := free_ok X G (cd.fact 61 (f := .free "range") rfl)
  have cl : Cls K (ga K "Plain") := cls_ok (cd.fact 62 (f := .cls "Plain") rfl)
  have na : NoAttr K (ga K "Plain") "_sides" := noat_ok (cd.fact 63 (f := .noat "Plain" "_sides") rfl)
  have mk : Mk K (ga K "Plain") (ma K (ga K "Plain") "__init__") := mkr_ok (cd.fact 64 (f := .mkr "Plain") rfl)
  have clF : Cls K (ga K "Form") := cls_ok (cd.fact 65 (f := .cls "Form") rfl)
  have naF : NoAttr K (ga K "Form") "_parts" := noat_ok (cd.fact 66 (f := .noat "Form" "_parts") rfl)
  have mkF : Mk K (ga K "Form") (ma K (ga K "Form") "__init__") := mkr_ok (cd.fact 67 (f := .mkr "Form") rfl)
  have m_sides := meth_ok (cd.fact 68 (f := .meth "Plain" "sides") rfl)
  have mF_letters := meth_ok (cd.fact 69 (f := .meth "Form" "letters") rfl)
  have mF_at := meth_ok (cd.fact 70 (f := .meth "Form" "at") rfl)
  have ins := insB_ok cl (bool_ok cc 0 (b := insB K (ga K "Plain")) rfl)
  have none_ := neB_ok (bool_ok cc 1 (b := neB K (ga K "Plain")) rfl)
  have insF := insB_ok clF (bool_ok cc 2 (b := insB K (ga K "Form")) rfl)
  have noneF := neB_ok (bool_ok cc 3 (b := neB K (ga K "Form")) rfl)
  have hgcd : mg "gcd" = some (.builtin "math.gcd") := bltB_ok X G (bool_ok cc 4 rfl)
  have hlcm : mg "lcm" = some (.builtin "math.lcm") := bltB_ok X G (bool_ok cc 5 rfl)
  have oadd := ownB_ok (bool_ok cc 6 (b := ownB K (ga K "Form") "__add__") rfl)
  have osub := ownB_ok (bool_ok cc 7 (b := ownB K (ga K "Form") "__sub__") rfl)
  have osubI := ownIB_ok (bool_ok cc 8 (b := ownIB K (ga K "Form") "sub") rfl)
  have oneg := ownB_ok (bool_ok cc 9 (b := ownB K (ga K "Form") "__neg__") rfl)
  have omul := ownB_ok (bool_ok cc 10 (b := ownB K (ga K "Form") "__mul__") rfl)
  have ki : PySem.W.kitOne K (.ref (ga K "Form")) (.type "int") = some false := of_decide_eq_true (bool_ok cc 11 rfl)
  have e := hfa.symm.trans g_law
  cases e
  have hcode0 := code_of (p := pT0) F_Form_terms
  refine ⟨d_law, fun s u => bindsA (ps := ["_law_script"]) F_law (fun _ _ _ _ _ _ us hl => match us, hl with | [_], _ => rfl) s [u] rfl, fun base _ _ TBs => ?_⟩
  have TB0 := TBs (cT K pT0) (by simp)
  have B : Bl mg := ⟨z_isinstance, z_int, z_bool, z_str, z_len, z_all, z_any, z_list, z_tuple, z_dict, z_set, z_sorted, z_zip, z_reversed, z_divmod⟩
  have B4 : E3.Bt4 mg := ⟨z_sum, z_max, z_range, z_len⟩
  have V : Cv K mg (ga K "Plain") := ⟨ins, g_Plain⟩
  have T : Px P w K mg base (ga K "Plain") := ⟨cl, na⟩
  have BF : E2.Bt K mg (ga K "Form") := ⟨z_isinstance, z_int, z_bool, insF, ki, g_Form⟩
  have B2 : E2.Bt2 mg := ⟨z_str, z_len, z_all⟩
  have B3 : E2.Bt3 mg := ⟨z_tuple, z_sorted⟩
  have TF : E2.Fx P w K mg base (ga K "Form") := ⟨clF, naF, ⟨_, d_Form___init__, _, [], mkF, E2.ok_init F_Form___init__ clF naF, g_Form, b_Form___init__, .nil⟩⟩
  have Il : Cal P w K mg base 1 "is_letter" spIsLet [] := cal_of F_is_letter.kp g_is_letter b_is_letter (ok_isLet F_is_letter B)
  have IlF : Cal P w K mg base 1 "is_letter" E2.spIsLet [] := cal_of F_is_letter.kp g_is_letter b_is_letter (E2.ok_isLet F_is_letter BF B2)
  have Ip : Cal P w K mg base 2 "is_product" spProdOk [] := cal_of F_is_product.kp g_is_product b_is_product (ok_prodOk F_is_product B Il)
  have Is : Cal P w K mg base 3 "is_side" spSideOk [] := cal_of F_is_side.kp g_is_side b_is_side (ok_sideOk F_is_side B Il Ip)
  have Nm : Cal P w K mg base 1 "names_of" (spNames K) [] := cal_of F_names_of.kp g_names_of b_names_of (ok_names F_names_of)
  have Ss : Cal P w K mg base 4 "is_sides" spSidesOk [] := cal_of F_is_sides.kp g_is_sides b_is_sides (ok_sidesOk F_is_sides B Is Nm)
  have fIn := ok_init (P := P) (w := w) (base := base) F_Plain___init__ B T Ss
  have M1 : Mak P w K mg base 5 "Plain" (ga K "Plain") (spInit (ga K "Plain")) [] := ⟨_, d_Plain___init__, _, [], mk, fIn, g_Plain, b_Plain___init__, .nil⟩
  have Sd_ : Met P w K mg base 1 (ga K "Plain") "sides" (spSides (ga K "Plain")) [] := ⟨_, d_Plain_sides, _, [], cl, m_sides, ok_sides F_Plain_sides B T, b_Plain_sides, .nil⟩
  have O : EqP P w K mg base 1 (ga K "Plain") := ⟨_, d_Plain___eq__, _, none_, ok_eq F_Plain___eq__ B V T, b_Plain___eq__⟩
  have Ct : Cal P w K mg base 1 "check_table" (spCheckT (ga K "Plain")) [] := cal_of F_check_table.kp g_check_table b_check_table (ok_checkT F_check_table B V)
  have Wh : Cal P w K mg base 1 "is_whole" (E2.spWhole (ga K "Form")) [] := cal_of F_is_whole.kp g_is_whole b_is_whole (E2.ok_whole F_is_whole BF)
  have Iv : Cal P w K mg base 2 "is_values" (E2.spIsVals P w K) [] := cal_of F_is_values.kp g_is_values b_is_values (E2.ok_isVals F_is_values BF B2 z_dict IlF Wh)
  have Wo : Cal P w K mg base 1 "without_noughts" (E2.spWithout P w K) [] := cal_of F_without_noughts.kp g_without_noughts b_without_noughts (E2.ok_without F_without_noughts)
  have LeF : Cal P w K mg base 3 "letter" (E2.spLetter P w K (ga K "Form")) [] := cal_of F_letter.kp g_letter b_letter (E2.ok_letter F_letter TF IlF)
  have Nu : Cal P w K mg base 3 "number" (E2.spNumber P w K (ga K "Form")) [] := cal_of F_number.kp g_number b_number (E2.ok_number F_number TF Wh Wo)
  have Ri : Cal P w K mg base 4 "right_side" (E2.spRight P w K (ga K "Form")) [] := cal_of F_right_side.kp g_right_side b_right_side (E2.ok_right F_right_side BF Wh Nu)
  have Pr : Cal P w K mg base 1 "product_at" (E2.spProd P w K) [] := cal_of F_product_at.kp g_product_at b_product_at (E2.ok_prod F_product_at)
  have Lo : Cal P w K mg base 1 "lowest" E2.spLowest [] := cal_of F_lowest.kp g_lowest b_lowest (E2.ok_lowest F_lowest hgcd)
  have Fs : Cal P w K mg base 2 "fraction_sum" (E2.spFrac K (· + ·)) [] := cal_of F_fraction_sum.kp g_fraction_sum b_fraction_sum (E2.ok_fracSum F_fraction_sum Lo)
  have Fp : Cal P w K mg base 2 "fraction_product" (E2.spFrac K (· * ·)) [] := cal_of F_fraction_product.kp g_fraction_product b_fraction_product (E2.ok_fracProd F_fraction_product Lo)
  have Ls : Met P w K mg base 2 (ga K "Form") "letters" (E2.spLetters P w K (ga K "Form")) [] := ⟨_, d_Form_letters, _, [], clF, mF_letters, E2.ok_letters F_Form_letters TF B3, b_Form_letters, .nil⟩
  have At : Met P w K mg base 3 (ga K "Form") "at" (E2.spAt P w K (ga K "Form")) [] := ⟨_, d_Form_at, _, [], clF, mF_at, E2.ok_at F_Form_at TF hlcm Iv Ls Pr, b_Form_at, .nil⟩
  have fOm : FnOk P w K mg base CX0 5 (ma K (ga K "Form") "__mul__") d_Form___mul__ _ (E2.spMul P w K (ga K "Form")) := E2.ok_mul F_Form___mul__ TF B3 Ri Fs Fp Wo
  have Mu : E2.OpM P w K mg base 5 (ga K "Form") "__mul__" (E2.spMul P w K (ga K "Form")) := ⟨_, d_Form___mul__, _, omul, fOm, b_Form___mul__⟩
  have EqF : EqM P w K mg base 1 (ga K "Form") := ⟨_, d_Form___eq__, _, noneF, E2.ok_eq F_Form___eq__ TF BF, b_Form___eq__⟩
  have Pf : Cal P w K mg base 3 "product_form" (spProdF P w K (ga K "Form")) [] := cal_of F_product_form.kp g_product_form b_product_form (ok_prodF F_product_form B TF)
  have fOa : FnOk P w K mg base CX0 5 (ma K (ga K "Form") "__add__") d_Form___add__ _ (E2.spAdd P w K (ga K "Form")) := E2.ok_add F_Form___add__ TF Ri Fs Wo
  have Ad : E2.OpM P w K mg base 5 (ga K "Form") "__add__" (E2.spAdd P w K (ga K "Form")) := ⟨_, d_Form___add__, _, oadd, fOa, b_Form___add__⟩
  have fOn : FnOk P w K mg base CX0 3 (ma K (ga K "Form") "__neg__") d_Form___neg__ _ (E2.spNeg P w K (ga K "Form") (fun q => -q)) := E2.ok_neg F_Form___neg__ TF
  have Ng : E2.OpM P w K mg base 3 (ga K "Form") "__neg__" (E2.spNeg P w K (ga K "Form") (fun q => -q)) := ⟨_, d_Form___neg__, _, oneg, fOn, b_Form___neg__⟩
  have fOs : FnOk P w K mg base CX0 6 (ma K (ga K "Form") "__sub__") d_Form___sub__ _ (E2.spSub P w K (ga K "Form")) := E2.ok_sub F_Form___sub__ Ri Ad Ng
  have Su : E2.OpM P w K mg base 6 (ga K "Form") "__sub__" (E2.spSub P w K (ga K "Form")) := ⟨_, d_Form___sub__, _, osub, fOs, b_Form___sub__⟩
  have SuI : OpI P w K mg base 6 (ga K "Form") "sub" (E2.spSub P w K (ga K "Form")) := ⟨_, d_Form___sub__, _, osubI, fOs, b_Form___sub__⟩
  have Cwk : Cal P w K mg base 2 "check_walk" (spWalk (ga K "Plain")) [] := cal_of F_check_walk.kp g_check_walk b_check_walk (ok_walk F_check_walk B Il Sd_ Nm)
  have Io : Cal P w K mg base 2 "inside_out" (spInside (ga K "Plain")) [] := cal_of F_inside_out.kp g_inside_out b_inside_out (ok_inside F_inside_out B Sd_)
  have Ju : Cal P w K mg base 7 "jumps" (spJumps P w K (ga K "Plain") (ga K "Form")) [] := cal_of F_jumps.kp g_jumps b_jumps (ok_jumps F_jumps z_enumerate Ct Cwk Io Nu Pf Ad Su)
  have Pu : Cal P w K mg base 1 "_law_purse" (E3.spPurse K) [] := cal_of F__law_purse.kp g__law_purse b__law_purse (E3.ok_purse F__law_purse B4)
  have Mi : Cal P w K mg base 1 "_law_mixed" E3.spMixed [] := cal_of F__law_mixed.kp g__law_mixed b__law_mixed (E3.ok_mixed F__law_mixed)
  have D : Cal P w K mg base 2 "_law_draw" E3.spDraw [] := cal_of F__law_draw.kp g__law_draw b__law_draw (E3.ok_draw F__law_draw B4 Mi)
  have Oo : Cal P w K mg base 3 "_law_one_of" (spOneOf K) [] := cal_of F__law_one_of.kp g__law_one_of b__law_one_of (ok_oneOf F__law_one_of B D)
  have Sh : Cal P w K mg base 3 "_law_shuffled" (spShuf K) [] := cal_of F__law_shuffled.kp g__law_shuffled b__law_shuffled (ok_shuf F__law_shuffled B D)
  have ShV : Cal P w K mg base 3 "_law_shuffled" spShufV [] := cal_of F__law_shuffled.kp g__law_shuffled b__law_shuffled (ok_shufV F__law_shuffled B D)
  have Le : Cal P w K mg base 4 "_law_letters" spLetters [] := cal_of F__law_letters.kp g__law_letters b__law_letters (ok_letters F__law_letters B4 D Oo)
  have Na : Cal P w K mg base 4 "_law_names" spNamesL [] := cal_of F__law_names.kp g__law_names b__law_names (ok_namesL F__law_names Sh)
  have Ch : Cal P w K mg base 5 "_law_chain" spChain [] := cal_of F__law_chain.kp g__law_chain b__law_chain (ok_chain F__law_chain B D Sh Le Na)
  have Us : Cal P w K mg base 1 "_law_used" (spUsed K) [] := cal_of F__law_used.kp g__law_used b__law_used (ok_used F__law_used B)
  have SzL : Cal P w K mg base 4 "_law_sizes" (spSizesL K) [] := cal_of F__law_sizes.kp g__law_sizes b__law_sizes (ok_sizesL F__law_sizes D Sh Us)
  have Tm : Cal P w K mg base 1 "_law_times" (spTimes K) [] := cal_of F__law_times.kp g__law_times b__law_times (ok_times F__law_times)
  have Spt : Cal P w K mg base 2 "_law_spot" (spSpot K) [] := cal_of F__law_spot.kp g__law_spot b__law_spot (ok_spot F__law_spot B4 Tm)
  have Mn : Cal P w K mg base 2 "_law_many_cells" (spMany K) [] := cal_of F__law_many_cells.kp g__law_many_cells b__law_many_cells (ok_many F__law_many_cells Tm)
  have Lp : Cal P w K mg base 6 "_law_product_form" (spLPF P w K (ga K "Form")) [] := cal_of F__law_product_form.kp g__law_product_form b__law_product_form (ok_lpf F__law_product_form Nu LeF Mu)
  have Wd : Cal P w K mg base 2 "_law_walked" (spWalked K) [] := cal_of F__law_walked.kp g__law_walked b__law_walked (ok_walked F__law_walked B4 Tm)
  have St : Cal P w K mg base 3 "_law_steps" (spSteps K) [] := cal_of F__law_steps.kp g__law_steps b__law_steps (ok_steps F__law_steps B4 B Wd Spt)
  have Sr : Cal P w K mg base 5 "_law_small_right" (spSmall P w K (ga K "Form")) [] := cal_of F__law_small_right.kp g__law_small_right b__law_small_right (ok_small F__law_small_right St At)
  have Gr : Cal P w K mg base 5 "_law_great_right" (spGreat P w K (ga K "Form")) [] := cal_of F__law_great_right.kp g__law_great_right b__law_great_right (ok_great F__law_great_right B4 Tm Spt At)
  have Du : Cal P w K mg base 7 "_law_due" (spDue P w K (ga K "Form")) [] := cal_of F__law_due.kp g__law_due b__law_due (ok_due F__law_due B4 B Nu Lp Ad Su SuI Mu)
  exact ok_law F_law B4 B Pu D Ch Le ShV M1 O EqF Ju Du SzL Mn Sr Gr
end E4

set_option Elab.async false
set_option linter.all false
set_option maxRecDepth 100000
set_option maxHeartbeats 0
/-! the head: the top's run, and the law -/
open PySem PySem.W PySem.Calls PyProof.Rows
set_option maxRecDepth 100000 in
set_option maxHeartbeats 0 in
theorem PySem.Challenge.cw_cellplaces_k61_whole_jumps_holds : PySem.Challenge.rw_cellplaces_k61_whole_jumps.Holds := by
  w_on; o_law
  refine HandSHeadRun.head_imp (r := OpenLaw.row PySem.Challenge.rw_cellplaces_k61_whole_jumps) (q := view (OpenLaw.row PySem.Challenge.rw_cellplaces_k61_whole_jumps).prog [0, 57]) (H := E4.hk) (ob := E4.ob) (M := 20000) (loose := E4.looseAll) (d := HandSHeadRun.topDef (OpenLaw.row PySem.Challenge.rw_cellplaces_k61_whole_jumps).prog 57) (kwd := []) E4.ob_eq
    E4.run (by kernel_rfl) (by kernel_rfl) (by kernel_rfl) (by rfl) (by first | assumption | decide +kernel) (by decide +kernel) ⟨rfl, rfl, rfl, rfl, rfl, by decide +kernel⟩ ?hw ?hc
  case hw => w_witness2
  case hc =>
    refine LamX.walk_ofTsE (l := PySem.Challenge.rw_cellplaces_k61_whole_jumps) (n := 63) (k := 8) (x := "_law_script") (CX := fun _ => L2.CX0) rfl (by decide) (by kernel_rfl) ⟨rfl, by decide, by decide⟩ ?F (fun _ _ _ _ _ z => z)
    intro w mg fa h Y G hmg0
    obtain ⟨K, KX, c⟩ := Y
    have hmg : mg ("law" : PySem.Str) = some (.ref fa) := by
      have e : (HandSHeadRun.topDef (OpenLaw.row PySem.Challenge.rw_cellplaces_k61_whole_jumps).prog 57).name = ("law" : PySem.Str) := by kernel_rfl
      rw [← e]
      exact hmg0
    obtain ⟨fd, hb, hF⟩ := E4.facts (P := (PySem.Challenge.rw_cellplaces_k61_whole_jumps).prog) (w := w) KX G hmg c
    have one : ∀ p ∈ [He.cT K E4.pT0], ∃ d ∈ ([E4.pT0] : List He.Defn), p = He.cT K d := fun p hp => by
      simp only [List.mem_cons, List.not_mem_nil, or_false] at hp ⊢
      first | exact ⟨_, rfl, hp⟩ | (rcases hp with h | h <;> exact ⟨_, by simp, h⟩)
    refine ⟨K, KX, fd, [He.cT K E4.pT0], E4.spLaw [((He.cT K E4.pT0).2, E4.qT0)] K, fun p hp => ?_, fun p hp => ?_, fun p hp => ?_, hb, fun H a ns hl _ hT hS => ⟨a, ns, rfl, hS, hl, fun p hp => ?_, fun _ => rfl⟩, hF⟩
    · obtain ⟨d, hd, rfl⟩ := one p hp; exact c.empty _ hd
    · obtain ⟨d, hd, rfl⟩ := one p hp; exact c.out _ hd
    · obtain ⟨d, hd, rfl⟩ := one p hp; exact PySem.W.codeHd_of_K KX (c.hd _ hd)
    · simp only [List.mem_cons, List.not_mem_nil, or_false] at hp
      first | (subst hp; exact ⟨#[], hT _ (by simp), trivial, fun pos cv e => by cases e⟩) | (rcases hp with h | h <;> subst h <;> exact ⟨#[], hT _ (by simp), trivial, fun pos cv e => by cases e⟩)
