import PyProof.Rows.All
import Wide.All
import OpenK.AllK
import Wide.FinOn
import HandS.ForExc
import HandS.ExcInit
import HandS.ExcIs
import HandS.ExcField
import HandS.Defaults
import HandS.IsInst
import HandS.ExcValue
import HandS.ForMost
import HandS.List
import HandS.Conv
import PyProof.TupleOfSeq
import PyProof.Rows.SortShellAny
import HandS.SetBool
import HandS.Walk
import KE.KOpsOwn
import HandS.Wide
import HandS.WideBits
import HandS.Codes
import HandS.Comp
import HandS.SetFor
import HandS.DictComp
import HandS.More
import HandS.Iter
import KE.KDictWalk
import KE.KDictDisplayH
import HandS.Gcd
import HandS.WordsDict
import HandS.Lambda
import KE.SortKeyHeap
import KE.KLam
import HandS.New
import HandS.Text
import HandS.Strs
import KE.DataFind
import HandS.Sort
import KE.KDictList
import PyProof.CompUse
import HandS.MakeKw
import HandS.Property
import KE.KWithOwn
import HandS.Zip
import KE.GoesZip
import KE.GoesMore
import HandS.TupLen
import HandS.DictTup
import HandS.Nested
import PyProof.InstNe
import HandS.Ends
import HandS.Words
import HandS.Head0
import HandS.Head1
import HandS.Head2
import HandS.HeadEnd
import HandS.HeadHook1
import HandS.HeadHook4
import KE.KStateDown
import HandS.Head3
import HandS.HeadWalk
import PySem.Challenge.RW_cellplaces_k87_stores_by_name
set_option Elab.async false
set_option linter.all false
set_option maxRecDepth 100000
set_option maxHeartbeats 4000000
/-! An own exception class called with one keyword: the maker takes it and lets it be, the own __init__ gets it. -/
namespace KwE
open PySem PySem.W PySem.Calls PyProof.Rows PySem.HandSPX
section
variable {prog : Program} {w : World} {A : Around} {E : Value → Shared → Prop} {R : Result → Shared → Prop} {hp : Heap} {gs : Array GenState} {dr : Drawn} {tk : Nat} {os : OsState}
variable {nm q : Str} {C N fI : Addr} {bs bm bmB : List Value} {hd : Bool} {sn : List Str} {sub : List Value} {ab : Bool} {col : Option Bool} {dd : Option Addr} {k0 k1 k2 k3 k5 : Option Value} {B new_ init_ : String} {us : List Value} {kn : Str} {kv : Value}
/-- what the class's line says of the base's names -/
structure Line (B : String) (C : Addr) (bm : List Value) : Prop where
  b : (Value.ref C :: bm).contains (.type B) = true
  a : (Value.ref C :: bm).contains (.type "AttributeError") = false
  n : (Value.ref C :: bm).contains (.type "NameError") = false
theorem Line.of (F : ExcBaseFacts B new_ init_ bmB) (same : ∀ X : String, bm.contains (.type X) = bmB.contains (.type X)) : Line B C bm := by
  constructor <;> rw [List.contains_cons, same]
  · rw [F.hasB, Bool.or_true]
  · rw [F.noAttr]; rfl
  · rw [F.noName]; rfl
end
end KwE

set_option Elab.async false
set_option linter.all false
set_option maxRecDepth 100000
set_option maxHeartbeats 4000000
namespace PySem.W
open PySem PySem.Spec PySem.Calls PyProof.Rows
section
variable {prog : Program} {w : World} {A : Around} {E : Value → Shared → Prop} {s : Shared} {K : Frag} {x D : Addr} {ox : Obj} {od : Option Obj}
end
end PySem.W
namespace L2
open PySem PySem.Spec PyProof.Rows
/-- an exception object of the own class at C: with its attributes, or bare -/
inductive ExT (H : Hp) (e C : Addr) : List (Str × V) → Prop where
  | own {d : Addr} {fs : List (Str × V)} (h1 : H e = some (exo e C (some d))) (h2 : H d = some (exd d fs)) : ExT H e C fs
  | bare (h : H e = some (ExO (.ref C) e)) : ExT H e C []
theorem ExT.same {H H' : Hp} {e C : Addr} {fs : List (Str × V)} (S : Same H H') : ExT H e C fs → ExT H' e C fs
  | .own h1 h2 => .own (S _ _ h1) (S _ _ h2)
  | .bare h => .bare (S _ _ h)
section
variable {X : Cx} {pins : List (Addr × Obj)} {σ : St} {H : Hp} {s : Shared} {e C : Addr} {fs : List (Str × V)}
end
/-- __init__(self, f): self.f = f -/
def spExI (K : PySem.W.Frag) (f : Str) : Sp := fun vs H Q _ => ∃ (a C : Addr) (y : V), vs = [.ref a, y] ∧ OexC K C ∧ PySem.W.findIn K (.ref C) f = some none ∧ H a = some (exo a C none) ∧
  ∀ dx, H dx = none → dx ≠ a → Q .non (upd (upd H dx (exd dx [(f, y)])) a (exo a C (some dx)))
end L2

set_option Elab.async false
set_option linter.all false
set_option maxRecDepth 100000
set_option maxHeartbeats 4000000
namespace L2
open PySem PySem.Spec PyProof.Rows
/-- an own exception class at C, called x, whose __init__ sets the one attribute f (None where it is not given) -/
structure ExM (P : Program) (w : World) (K : PySem.W.Frag) (mg : Str → Option Value) (base : Heap) (x : Str) (C : Addr) (f : Str) : Prop where
  mgC : mg x = some (.ref C)
  oex : OexC K C
  xc : ExcC K C
  noF : PySem.W.findIn K (.ref C) f = some none
  hmk : ∃ (fI : Addr) (fd : FuncData) (ps : List Str), PySem.W.findIn K (.ref C) "__init__" = some (some (.ref fI)) ∧ PySem.W.typeIn K (.ref fI) = some (.type "function") ∧ FnOk P w K mg base CX0 1 fI fd ps (spExI K f) ∧
    (∀ (self u : Value) (s' : Shared), K.In s'.heap → BindsTo s' fd ⟨[self, u], []⟩ (ps.zip [self, u])) ∧ (∀ (self u : Value) (s' : Shared), K.In s'.heap → BindsTo s' fd ⟨[self], [(f, u)]⟩ (ps.zip [self, u])) ∧
    (∀ (self : Value) (s' : Shared), K.In s'.heap → BindsTo s' fd ⟨[self], []⟩ (ps.zip [self, .none]))
/-- an own exception class at C, called x, without an __init__ of its own -/
structure ExB (K : PySem.W.Frag) (mg : Str → Option Value) (x : Str) (C : Addr) : Prop where
  mgC : mg x = some (.ref C)
  xc : ExcC K C
  kC : PySem.W.keepIn K (.ref C) = true
  is : ∃ bmB, ExcBaseFacts "ValueError" "ValueError.__new__" "ValueError.__init__" bmB ∧ PySem.W.excIn K C bmB "ValueError.__new__" = true
section
variable {X : Cx} {x f : Str} {C : Addr} {e : Expr} {te : TE} {p pos kpos : Pos}
end

end L2

set_option Elab.async false
set_option linter.all false
set_option maxRecDepth 100000
set_option maxHeartbeats 400000
namespace L2
open PySem PySem.Spec PyProof.Rows
section
variable {P : Program} {w : World} {K : PySem.W.Frag} {mg : Str → Option Value} {base : Heap} {x qual : Str} {C fI : Addr} {fd : FuncData} {p1 p2 p3 q1 q2 q3 q4 : Pos}
end
end L2

set_option Elab.async false
set_option linter.all false
set_option maxRecDepth 100000
set_option maxHeartbeats 1000000
namespace L2
open PySem PySem.Spec PyProof.Rows
/-- a def's promise where no repr is under way around it -/
structure FnG (P : Program) (w : World) (K : PySem.W.Frag) (mg : Str → Option Value) (base : Heap) (k : Nat) (f : Addr) (fd : FuncData) (ps : List Str) (sp : Sp) : Prop where
  len : ∀ vs H Q E, sp vs H Q E → vs.length = ps.length
  go : ∀ (A : Around) (outer : List Env) (s : Shared) (H : Hp) (args : Args) (us : List Value) (vs : List V) (Q : VK) (E : XK), A.guards = some [] → Room k A → Env0 P w K mg base A outer s H → BindsTo s fd args (ps.zip us) → Vals vs us →
    sp vs H Q E → codeAny (model P w) A (.call (.ref f) args) (CR CX0 outer P w H s Q E) s
section
variable {P : Program} {w : World} {K : PySem.W.Frag} {mg : Str → Option Value} {base : Heap}
end
end L2

set_option Elab.async false
set_option linter.all false
set_option maxRecDepth 100000
set_option maxHeartbeats 1000000
namespace L2
open PySem PySem.Spec PyProof.Rows
theorem Same.upd {H : Hp} {p : Addr} {o : HO} (h : H p = none) : Same H (L2.upd H p o) := fun b u q => by
  rw [upd_ne (ne_of_none q h)]
  exact q
section
variable {X : Cx} {x y : Str} {C : Addr} {p q r pos : Pos} {i : Nat}
end
end L2

set_option Elab.async false
set_option linter.all false
set_option maxRecDepth 100000
set_option maxHeartbeats 1000000
namespace L2
open PySem PySem.Spec PyProof.Rows
/-- v shows as the data d: data without dicts, or a flat dict -/
inductive Shw (K : PySem.W.Frag) (H : Hp) : V → PyData → Prop where
  | dp {v : V} {d : PyData} (h : Dp K H v d) (n : d.hasDict = false) : Shw K H v d
  | d0 {q : Addr} (h : H q = some (.dK [])) : Shw K H (.ref q) (.dict [])
  | d1 {q : Addr} {x : Str} {i : Int} (h : H q = some (.dK [(.inr x, .int i)])) : Shw K H (.ref q) (.dict [(.str x, .int i)])
section
variable {X : Cx} {pins : List (Addr × Obj)} {σ : St} {H : Hp} {s : Shared}
end
end L2

set_option Elab.async false
set_option linter.all false
set_option maxRecDepth 100000
set_option maxHeartbeats 1000000
namespace L2
open PySem PySem.Spec PyProof.Rows
/-- a new object at p, all else as it was: what is wanted of it -/
def NewQ (H : Hp) (o : HO) (Q : VK) : Prop := ∀ p H', Same H H' → H p = none → H' p = some o → Q (.ref p) H'
theorem NewQ.at {H : Hp} {o : HO} {Q : VK} (h : NewQ H o Q) {p : Addr} (n : H p = none) : Q (.ref p) (L2.upd H p o) := h p _ (Same.upd n) n upd_same
def tLstS (t : TA) : TE := fun σ H Q => t σ H fun xs H1 => xs.length ≤ sizeLine ∧ NewQ H1 (.lst xs) Q
def tTupS (t : TA) : TE := fun σ H Q => t σ H fun xs H1 => xs.length ≤ sizeLine ∧ NewQ H1 (.tup xs) Q
def rCatS : R2 := fun x y H Q => ∃ l b xs zs, x = .ref l ∧ y = .ref b ∧ H l = some (.lst xs) ∧ H b = some (.lst zs) ∧ xs.length + zs.length ≤ sizeLine ∧ NewQ H (.lst (xs ++ zs)) Q
def rSlW (K : PySem.W.Frag) : V → Option Int → Option Int → Hp → VK → Prop := fun x lo hi H Q => ∃ a xs, x = .ref a ∧ SqL K H a xs ∧ NewQ H (.lst (cutV xs lo hi)) Q
section
variable {X : Cx} {es : List Expr} {t : TA} {pos : Pos}
theorem pe_lstS (h : PA X es t) : PE X (.List es pos) (tLstS t) :=
  ⟨fun pins s σ H Q I hq => wpAny_List_spliced (thn (h.run pos pins s σ H _ I hq) fun us s1 ⟨xs, H1, I1, r, z, q⟩ => ⟨by rw [← r.length]; exact z,
    .ref s1.heap.objs.size, _, I1.laid (t' := s1.toks) (o := .lst xs) (fun _ _ e => Heap.get?_push_of_some _ e) (Nat.le_refl _) ⟨z, us, 0, r, Heap.get?_push_size _ rfl⟩, rfl, q.at I1.fresh⟩)⟩
theorem pe_tupS {x1} (h : PA X es t) : PE X (.Tuple es x1 pos) (tTupS t) :=
  ⟨fun pins s σ H Q I hq => wpAny_Tuple_spliced (thn (h.run pos pins s σ H _ I hq) fun us s1 ⟨xs, H1, I1, r, z, q⟩ => ⟨by rw [← r.length]; exact z,
    .ref s1.heap.objs.size, _, I1.laid (t' := s1.toks) (o := .tup xs) (fun _ _ e => Heap.get?_push_of_some _ e) (Nat.le_refl _) ⟨z, us, r, ⟨_, Heap.get?_push_size _ rfl, rfl, _, rfl⟩⟩, rfl, q.at I1.fresh⟩)⟩
theorem op_catS : OpR X (binaryOp .Add) rCatS := fun pins s σ H x y v u Q I rx ry ⟨l, b, xs, zs, e1, e2, h1, h2, hz, q⟩ => op_cat pins s σ H x y v u Q I rx ry ⟨l, b, xs, zs, e1, e2, h1, h2, hz, fun _ n => q.at n⟩
theorem sl_listS : SlR X (rSlW X.K) := fun pins s σ H x v vl vu lo hi sl Q I rx hs hl hh ⟨a, xs, e, h, q⟩ => sl_list pins s σ H x v vl vu lo hi sl Q I rx hs hl hh ⟨a, xs, e, h, fun _ n => q.at n⟩
end
theorem Same.lst {H H' : Hp} {a : Addr} {o : HO} (S : Same H H') (h : H a = some o) : H' a = some o := S _ _ h
end L2

set_option Elab.async false
set_option linter.all false
set_option maxRecDepth 100000
set_option maxHeartbeats 1000000
/-! sorted(t), t a tuple of texts -/
namespace L2
open PySem PySem.Spec PyProof.Rows
end L2

set_option Elab.async false
set_option linter.all false
set_option maxRecDepth 100000
set_option maxHeartbeats 2000000
/-! A set of texts, by the list of its members. -/
namespace L2
open PySem PySem.Spec PyProof.Rows
/-- an entry is a text under its hash -/
def GoodS (P : Program) (w : World) (e : Int × Value) : Prop := ∃ (x : Str) (t : Tok), e = ((PySem.strKind P w).hash x, .str x t)
def keyS (e : Int × Value) : Str := match e.2 with
  | .str x _ => x
  | _ => Str.empty
def SetS (P : Program) (w : World) (h : Heap) (a : Addr) (ks : List Str) : Prop := ∃ o es ep t, h.get? a = some o ∧ o.ExactSet ∧ o.data = .set es ep t ∧ (∀ e ∈ es.toList, GoodS P w e) ∧ (es.toList.map keyS).Perm ks ∧ ks.Nodup ∧
  es.size < scanBound ∧ t.fits es.size = true ∧ Ris t.place.toList ∧ (w.params.followText "set-order" = true ∨ t.led = true)
section
variable {P : Program} {w : World} {h h' : Heap} {a : Addr} {ks : List Str}
theorem SetS.at (R : SetS P w h a ks) (k : ∀ o, h.get? a = some o → h'.get? a = some o) : SetS P w h' a ks := let ⟨o, es, ep, t, ho, r⟩ := R; ⟨o, es, ep, t, k o ho, r⟩
theorem goodS_is {e : Int × Value} (g : GoodS P w e) (k : Str) : (PySem.strKind P w).is k e.2 = true ↔ keyS e = k := by
  obtain ⟨x, t, rfl⟩ := g
  unfold keyS
  show Value.isStrOf k (.str x t) = true ↔ x = k
  simp [Value.isStrOf]
theorem goodS_elems {l : List (Int × Value)} (g : ∀ e ∈ l, GoodS P w e) : ElemsOf (PySem.strKind P w) l := fun e he => by
  obtain ⟨x, t, rfl⟩ := g e he
  exact ⟨⟨x, strKind_is P w x t, rfl⟩, rfl⟩
theorem goodS_mem {l : List (Int × Value)} (g : ∀ e ∈ l, GoodS P w e) (k : Str) : k ∈ l.map keyS ↔ ∃ e ∈ l, (PySem.strKind P w).is k e.2 = true := by
  rw [List.mem_map]
  exact ⟨fun ⟨e, he, q⟩ => ⟨e, he, (goodS_is (g e he) k).mpr q⟩, fun ⟨e, he, q⟩ => ⟨e, he, (goodS_is (g e he) k).mp q⟩⟩
theorem setS_new (w : World) (P : Program) (h : Heap) : SetS P w (h.push { cls := .type "set", dict := none, data := .set #[] 0 (.fresh 0 0 (!w.params.followText "set-order")) }) h.objs.size [] := by
  refine ⟨_, #[], 0, _, Heap.get?_push_size _ rfl, ⟨rfl, rfl, rfl⟩, rfl, fun e he => absurd he (by simp), .nil, List.nodup_nil, by decide, rfl, List.Pairwise.nil, ?_⟩
  cases c : w.params.followText "set-order" with
  | true => exact .inl rfl
  | false => exact .inr rfl
end
section
variable {P : Program} {w : World} {A : Around} {E : Value → Shared → Prop} {s : Shared} {a : Addr} {ks : List Str}
/-- sorted of it -/
theorem setS_sorted {Q : Value → Shared → Prop} (R : SetS P w s.heap a ks) (hh : A.handled = none)
    (hQ : ∀ s' p (out : Array Value) (c : Nat) (ys : List Str), (∀ b o, s.heap.get? b = some o → s'.heap.get? b = some o) → s'.gens = s.gens → s'.os = s.os → s.heap.objs.size ≤ p → s'.heap.get? p = some (seqObj "list" out c) → StrsAre out.toList ys → ys.Perm ks → sortedS ys = true → Q (.ref p) s') :
    wpAny (model P w) A (call (.builtin "sorted") [.ref a]) Q E s := by
  obtain ⟨o, es, ep, t, ho, hex, hd, g, pm0, nd, hb, hf, hr, hl⟩ := R
  refine Calls.call_function_entry kind_sorted plain_sorted entry_sorted (args_sorted1 _) ?_
  unfold Builtin.«sorted»
  refine wpAny_bind (m := checkCount "sorted" 1 1 _) (wpAny_pure ?_)
  refine wpAny_bind (collect_set (A := A.in1) hh ⟨o, ho, hex.1, hd⟩ hf hb hr hl fun s1 vs k1 hz g1 o1 pm => ?_)
  have vl : vs.length < scanBound := by rw [pm.length_eq, List.length_map, Array.length_toList]; exact hb
  have texts : ∀ l : List Value, (∀ v ∈ l, ∃ x tk, v = Value.str x tk) → StrsAre l (l.map fun v => keyS (0, v)) := by
    intro l
    induction l with
    | nil => intro _; exact .nil
    | cons v l ih =>
      intro h
      obtain ⟨x, tk, rfl⟩ := h v (List.mem_cons.mpr (.inl rfl))
      exact .cons x tk (ih fun u hu => h u (List.mem_cons.mpr (.inr hu)))
  have hS := texts vs fun v hv => by
    obtain ⟨e, he, q⟩ := List.mem_map.mp (pm.mem_iff.mp hv)
    obtain ⟨x, tk, rfl⟩ := g e he
    exact ⟨x, tk, q.symm⟩
  have pk : (vs.map fun v => keyS (0, v)).Perm ks := by
    refine (pm.map fun v => keyS (0, v)).trans ?_
    rw [List.map_map]
    exact pm0
  have zl : vs.length ≤ sizeLine := fits_of_scanBound vl
  refine wpAny_bind (wpAny_newList ?_ zl)
  have hoL : (s1.heap.push (seqObj "list" vs.toArray 0)).get? s1.heap.objs.size = some (seqObj "list" vs.toArray 0) := Heap.get?_push_size _ rfl
  refine wpAny_bind (wpAny_holding (wpAny_call_entry slot_list_sort ⟨_, hoL, rfl⟩ entry_list_sort (list_sort_treeKAny strKind_oneLt hoL hS.keysOf (fun v₁ v₂ rest e => keyKind_strs (by rw [← e]; exact hS)) zl fun st' hp hs => ⟨_, rfl, ?_⟩) (args_list_sort _)))
  obtain ⟨ys, h1, h2, h3⟩ := sorted_out_str hS hp hs
  obtain ⟨c, hc⟩ := sortedHeap_at (vs := vs) (out := (arrOf st').map (·.2)) hoL
  refine wpAny_pure ⟨_, rfl, hQ _ s1.heap.objs.size _ c ys (fun b u e => ?_) g1 o1 hz hc h1 (h2.trans pk) h3⟩
  have q := k1 b u e
  have hlt := Heap.lt_size q
  show (sortedHeap (s1.heap.push (seqObj "list" vs.toArray 0)) s1.heap.objs.size vs _).get? b = some u
  rw [sortedHeap_old (Nat.ne_of_lt hlt) (by rw [size_push']; exact Nat.lt_succ_of_lt hlt)]
  exact Heap.get?_push_of_some _ q
end
end L2

set_option Elab.async false
set_option linter.all false
set_option maxRecDepth 100000
set_option maxHeartbeats 2000000
/-! A set of texts: one more. -/
namespace L2
open PySem PySem.Spec PyProof.Rows
section
variable {P : Program} {w : World} {A : Around} {E : Value → Shared → Prop} {s : Shared} {a : Addr} {ks : List Str}
/-- the entries laid down, and once more where the table is too full -/
theorem setS_tail {g : Bool → Sem Unit} (hg : ∀ (b : Bool) (s₁ : Shared) (Q' : Unit → Shared → Prop), Q' () s₁ → wpAny (model P w) A (g b) Q' E s₁) {o : Obj} {es es1 : Array (Int × Value)} {ep : Nat} {t t2 : SetTable} {ks1 : List Str}
    (ho : s.heap.get? a = some o) (hex : o.ExactSet) (hd : o.data = .set es ep t) (g1 : ∀ e ∈ es1.toList, GoodS P w e) (p1 : (es1.toList.map keyS).Perm ks1) (n1 : ks1.Nodup) (hb : es1.size < scanBound) (hf : t2.fits es1.size = true) (hr : Ris t2.place.toList)
    (hl : w.params.followText "set-order" = true ∨ t2.led = true) {wasDummy : Bool} {R : Option Bool → Shared → Prop} (hR : ∀ h', Heap.SameBut a s.heap h' → SetS P w h' a ks1 → R (some true) { s with heap := h' }) :
    wpAny (model P w) A (do
        storeSet a es1 t2
        if (!wasDummy && t2.tooFull) = true then do
            g (relayAll t2 es1 (SetTable.grown es1.size)).2.2
            storeSet a (relayAll t2 es1 (SetTable.grown es1.size)).1 (relayAll t2 es1 (SetTable.grown es1.size)).2.1
            pure (some true)
          else pure (some true)) R E s := by
  have at_ : ∀ {h : Heap} {o : Obj} {es es' : Array (Int × Value)} {ep : Nat} {t t' : SetTable}, h.get? a = some o → o.data = .set es ep t → (h.update a (Obj.putSet es' t')).get? a = some { o with data := .set es' (ep + 1) t' } := by
    intro h o es es' ep t t' ho hd
    have q := Heap.get?_update_self (Obj.putSet es' t') ho (by rw [putSet_of es' t' hd]; rfl)
    rwa [putSet_of es' t' hd] at q
  refine wpAny_bind (wpAny_storeSet_of ho hd ?_ (fits_of_scanBound hb))
  have h1 := at_ (es' := es1) (t' := t2) ho hd
  have b1 := Heap.SameBut.update s.heap a (Obj.putSet es1 t2)
  split
  · have pm := relayAll_perm t2 es1 (SetTable.grown es1.size)
    have z1 := relayAll_fits t2 es1 (SetTable.grown es1.size)
    have z2 := relayAll_ris t2 es1 (SetTable.grown es1.size)
    have z3 := relayAll_led t2 es1 (SetTable.grown es1.size)
    generalize relayAll t2 es1 (SetTable.grown es1.size) = Z at pm z1 z2 z3 ⊢
    obtain ⟨es2, t3, gave⟩ := Z
    dsimp only at pm z1 z2 z3 ⊢
    have es : es2.size = es1.size := by rw [← Array.length_toList, pm.length_eq, Array.length_toList]
    refine wpAny_bind (hg _ _ _ (wpAny_bind (wpAny_storeSet_of h1 rfl (wpAny_pure (hR _ (b1.trans (Heap.SameBut.update _ a _)) ?_)) (fits_of_scanBound (by rw [es]; exact hb)))))
    exact ⟨_, es2, _, t3, at_ h1 rfl, hex, rfl, fun e he => g1 e (pm.mem_iff.mp he), (pm.map keyS).trans p1, n1, by rw [es]; exact hb, z1, z2, hl.imp id fun z => by rw [z3]; exact z⟩
  · exact wpAny_pure (hR _ b1 ⟨_, es1, _, t2, h1, hex, rfl, g1, p1, n1, hb, hf, hr, hl⟩)
theorem setS_hashed {x : Str} {tk : Tok} {Q : Bool → Shared → Prop} (R : SetS P w s.heap a ks) (room : ks.length + 1 < scanBound)
    (hQ : ∀ b h', Heap.SameBut a s.heap h' → SetS P w h' a (if x ∈ ks then ks else x :: ks) → Q b { s with heap := h' }) : wpAny (model P w) A (setAddHashed a (.str x tk) ((PySem.strKind P w).hash x)) Q E s := by
  obtain ⟨o, es, ep, t, ho, hex, hd, g, pm0, nd, hb, hf, hr, hl⟩ := R
  have hkey : (PySem.strKind P w).is x (.str x tk) = true := strKind_is P w x tk
  have hsc : (Value.str x tk).scannable = true := rfl
  have hel := goodS_elems g
  unfold setAddHashed setAddHashedIn
  refine wpAny_holding (wpAny_bind (wpAny_setState_of ho hd hf ?_))
  dsimp only
  rw [byScan_of hsc hb hel]
  simp only [↓reduceIte]
  unfold setAddByScan
  refine wpAny_bind ?_
  refine wpAny_bind (wpAny_rule ?_)
  refine wpAny_bind (wpAny_setScan_of hkey ho hd hf hel ?_)
  cases hfi : List.findIdx? (fun e => (PySem.strKind P w).is x e.2) es.toList with
  | some j =>
    dsimp only
    obtain ⟨hj, pj, _⟩ := List.findIdx?_eq_some_iff_getElem.mp hfi
    have hin : x ∈ ks := pm0.mem_iff.mp ((goodS_mem g x).mpr ⟨es.toList[j], List.getElem_mem hj, pj⟩)
    refine wpAny_pure (wpAny_pure (hQ _ s.heap (Heap.SameBut.refl a s.heap) ?_))
    rw [if_pos hin]
    exact ⟨o, es, ep, t, ho, hex, hd, g, pm0, nd, hb, hf, hr, hl⟩
  | none =>
    dsimp only
    have hnot : x ∉ ks := fun z => by
      obtain ⟨e, he, q⟩ := (goodS_mem g x).mp (pm0.mem_iff.mpr z)
      have c := List.findIdx?_eq_none_iff.mp hfi e he
      rw [q] at c
      cases c
    rw [if_neg hnot] at hQ
    have gw : ∀ (b : Bool) {s₁ : Shared} {Q' : Unit → Shared → Prop}, Q' () s₁ → wpAny (model P w) A (match b with | true => rule "set.scan.the-table-gave-way" | false => pure ()) Q' E s₁ :=
      fun b s₁ Q' q => by cases b <;> first | exact wpAny_pure q | exact wpAny_rule q
    have pm := layNew_perm t es ((PySem.strKind P w).hash x) (.str x tk)
    have y1 := layNew_fits t es ((PySem.strKind P w).hash x) (.str x tk)
    have y2 := layNew_ris t es ((PySem.strKind P w).hash x) (.str x tk) hr
    have y3 := layNew_led t es ((PySem.strKind P w).hash x) (.str x tk)
    generalize layNew t es ((PySem.strKind P w).hash x) (.str x tk) = Z at pm y1 y2 y3 ⊢
    obtain ⟨es1, t1, wasDummy, gave⟩ := Z
    dsimp only at pm y1 y2 y3 ⊢
    rw [Array.toList_push] at pm
    have pc : es1.toList.Perm (((PySem.strKind P w).hash x, Value.str x tk) :: es.toList) := pm.trans (List.perm_append_singleton _ _)
    have g1 : ∀ e ∈ es1.toList, GoodS P w e := fun e he => by
      rcases List.mem_cons.mp (pc.mem_iff.mp he) with z | z
      · exact ⟨x, tk, z⟩
      · exact g e z
    have p1 : (es1.toList.map keyS).Perm (x :: ks) := (pc.map keyS).trans (List.Perm.cons x pm0)
    have n1 : (x :: ks).Nodup := List.nodup_cons.mpr ⟨hnot, nd⟩
    have size1 : es1.size = ks.length + 1 := by
      have := p1.length_eq
      rw [List.length_map, Array.length_toList, List.length_cons] at this
      exact this
    have b1 : es1.size < scanBound := by rw [size1]; exact room
    have l1 : w.params.followText "set-order" = true ∨ t1.led = true := hl.imp id fun z => by rw [y3]; exact z
    refine wpAny_bind (gw _ ?_)
    split
    · refine wpAny_bind ?_
      rw [hashByValue_scannable 8 hsc]
      refine wpAny_pure ?_
      refine setS_tail ?_ ho hex hd g1 p1 n1 b1 ?_ ?_ ?_ ?_
      · intro b s₁ Q' q; cases b <;> first | exact wpAny_pure q | exact wpAny_rule q
      · first | (split <;> first | exact y1 | exact SetTable.fits_plain_off y1) | exact y1
      · first | (split <;> exact y2) | exact y2
      · first | (split <;> exact l1) | exact l1
      · intro h' sb r; dsimp only; exact wpAny_pure (hQ _ h' sb r)
    · refine wpAny_bind (wpAny_pure ?_)
      simp only [↓reduceIte]
      refine setS_tail ?_ ho hex hd g1 p1 n1 b1 y1 y2 l1 ?_
      · intro b s₁ Q' q; cases b <;> first | exact wpAny_pure q | exact wpAny_rule q
      · intro h' sb r; dsimp only; exact wpAny_pure (hQ _ h' sb r)
theorem SetS.typeIs (R : SetS P w s.heap a ks) : s.TypeIs (.ref a) "set" := let ⟨o, _, _, _, ho, hex, _⟩ := R; ⟨o, ho, hex.1⟩
theorem setS_add {x : Str} {tk : Tok} {Q : Value → Shared → Prop} (R : SetS P w s.heap a ks) (room : ks.length + 1 < scanBound)
    (hQ : ∀ h' t, Heap.SameBut a s.heap h' → SetS P w h' a (if x ∈ ks then ks else x :: ks) → Q .none { s with heap := h', toks := t }) : wpAny (model P w) A (call (.builtin "set.add") [.ref a, .str x tk]) Q E s := by
  refine wpAny_call_entry F.slot_set_add R.typeIs F.entry_set_add ?_ (F.args_set_add_2 _ _)
  unfold Builtin.«set.add» Builtin.Frozenset.oneOther
  simp only [List.isEmpty_nil, bind_assoc]
  unfold Builtin.Frozenset.addrOf setAdd
  refine wpAny_bind (wpAny_pure ?_)
  try dsimp only
  refine wpAny_bind (wpAny_pure ?_)
  try dsimp only
  refine wpAny_bind ?_
  refine wpAny_holding ?_
  refine wpAny_bind ((PySem.strKind P w).pyHash (strKind_is P w x tk) ?_)
  refine setS_hashed (s := { s with toks := s.toks + 1 }) R room fun _ h' sb r => ?_
  show wpAny _ _ (ret Value.none) _ _ _
  exact wpAny_pure ⟨_, rfl, hQ h' _ sb r⟩
end
end L2

set_option Elab.async false
set_option linter.all false
set_option maxRecDepth 100000
set_option maxHeartbeats 2000000
/-! A set of texts made by a comprehension of two clauses without tests. -/
namespace L2
open PySem PySem.Spec PyProof.Rows
/-- the set of texts at a, as a thing that is followed -/
def SetSO (P : Program) (w : World) (a : Addr) (ks : List Str) : HO := .ext fun h => SetS P w h a ks
theorem setSO_new {P P' : Program} {w w' : World} {H : Hp} {h : Heap} {a : Addr} {ks : List Str} (R : SetS P w h a ks) : ObjOk P' w' H h a (SetSO P w a ks) := by
  have ⟨o, _, _, _, ho, _⟩ := R
  exact ⟨R, ⟨o, ho⟩, fun h1 h2 p k => SetS.at p k⟩
/-- one text more -/
def putS (ks : List Str) (x : Str) : List Str := if x ∈ ks then ks else x :: ks
section
variable {X : Cx}
theorem setSO_get {pins : List (Addr × Obj)} {σ : L2.St} {H : Hp} {s : Shared} {P : Program} {w : World} {a : Addr} {ks : List Str} (I : Inv X pins σ H s) (ha : H a = some (SetSO P w a ks)) : SetS P w s.heap a ks := (I.hok a _ ha).1
theorem addS_ok {pins : List (Addr × Obj)} {σ : L2.St} {H : Hp} {s : Shared} {E : Value → Shared → Prop} {D : Addr} {ks : List Str} {x : Str} {tk : Tok} {Q : Value → Shared → Prop} (I : Inv X pins σ H s) (hD : H D = some (SetSO X.prog X.w D ks)) (room : ks.length + 1 < scanBound)
    (h : ∀ s', Inv X pins σ (upd H D (SetSO X.prog X.w D (putS ks x))) s' → Q .none s') : wpAny (model X.prog X.w) X.A (call (.builtin "set.add") [.ref D, .str x tk]) Q E s := by
  refine setS_add (setSO_get I hD) room fun h' t sb new => ?_
  obtain ⟨o, _, _, _, ho, _⟩ := id new
  exact h _ (I.write (e := D) (t' := t) (by rw [hD]; trivial) (.inl rfl) (fun b u hb hu => (sb.2 b hb).trans hu) ⟨o, ho⟩ (setSO_new new))
end
section
variable {prog : Program} {w : World} {A : Around} {R : Result → Shared → Prop} {s : Shared} {elt t0 i0 t1 i1 : Expr} {scope : Scope} {pos : Pos} {it acc : Value} {env : Env}
end
end L2
namespace L2
open PySem PySem.Spec PyProof.Rows
section
variable {prog : Program} {w : World} {A : Around} {R : Result → Shared → Prop} {s : Shared} {elt t0 i0 t1 i1 : Expr} {scope : Scope} {pos : Pos} {it acc : Value} {env : Env}
/-- nothing is raised -/
abbrev NoE : Value → Shared → Prop := fun _ _ => False
end
section
variable {X : Cx}
/-- what a block's part is, wherever the block starts -/
abbrev InBlk (X : Cx) (scope : Scope) (p : Cx → Prop) : Prop := ∀ (s : Shared) (H : Hp) (C : Addr) (cl : List (Str × Addr)) (fp : List Addr), p (X.blk s H scope (compEnvC scope cl C X.env) fp)
end
end L2

set_option Elab.async false
set_option linter.all false
set_option maxRecDepth 100000
set_option maxHeartbeats 2000000
/-! comprehensions of any number of clauses, without tests: a clause at a time -/
namespace L2
open PySem PySem.Spec PyProof.Rows
/-- what a turn does behind the store of its item -/
abbrev PWt := Value → Env → (Shared → Prop) → Shared → Prop
section
variable (prog : Program) (w : World) (A : Around)
def LoopOk (E : Expr) (k : Nat) (t : Expr) (pw : PWt) : Prop := ∀ (R : Result → Shared → Prop) (it acc : Value) (env : Env) (J : Nat → Shared → Prop),
  (∀ n s, J n s → wpAny (model prog w) A (pyNext it) (fun r s1 => match r with
      | none => R (.ok .next) s1
      | some v => wpAny (model prog w) A (letOwnedTupleGo t it v) (fun _ s2 => wpAny (model prog w) A (assign t env v) (fun _ s3 => pw acc env (fun s' => ∃ m, m < n ∧ J m s') s3) NoE s2) NoE s1) NoE s) →
  ∀ n s, J n s → codeAny (model prog w) A (.compLoop E k it acc env) R s
def StartOk (E : Expr) (k : Nat) : Prop := ∀ (R : Result → Shared → Prop) (it acc : Value) (env : Env) (s : Shared), codeAny (model prog w) A (.compLoop E k it acc env) R s →
  wpAny (model prog w) A (pyIter it) (fun it' s' => codeAny (model prog w) A (.compLoop E k it' acc env) R s') (notedBy (model prog w) A env fun x s' => R (.error x) s') s → codeAny (model prog w) A (.compStart E k it acc env) R s
/-- the next clause starts -/
def pwMid (E : Expr) (k : Nat) (i : Expr) : PWt := fun acc env N s => wpAny (model prog w) A (eval i env) (fun x s4 => wpAny (model prog w) A (pyIter x) (fun it1 s5 =>
  codeAny (model prog w) A (.compStart E k it1 acc env) (fun r s' => match r with
    | .ok _ => N s'
    | .error _ => False) s5) NoE s4) NoE s
/-- an item is put in -/
def pwAdd (f : String) (elt : Expr) : PWt := fun acc env N s => wpAny (model prog w) A (eval elt env) (fun x s4 => wpAny (model prog w) A (call (.builtin f) [acc, x]) (fun _ s5 => N s5) NoE s4) NoE s
end
section
variable {prog : Program} {w : World} {A : Around} {elt t0 i0 t1 i1 t2 i2 : Expr} {scope : Scope} {pos : Pos}
abbrev sc3 (elt t0 i0 t1 i1 t2 i2 : Expr) (scope : Scope) (pos : Pos) : Expr := .SetComp elt [⟨t0, i0, [], 0⟩, ⟨t1, i1, [], 0⟩, ⟨t2, i2, [], 0⟩] scope pos
abbrev lc3 (elt t0 i0 t1 i1 t2 i2 : Expr) (scope : Scope) (pos : Pos) : Expr := .ListComp elt [⟨t0, i0, [], 0⟩, ⟨t1, i1, [], 0⟩, ⟨t2, i2, [], 0⟩] scope pos
theorem mid_loop {E : Expr} {k k' : Nat} {t i : Expr} {p1 p2 : Pos} (hT : ∀ it acc env, compTurn E k it acc env = (do
      standAt p1
      match ← pyNext it with
      | none => pure (.done .next)
      | some v =>
        letOwnedTupleGo t it v
        assign t env v
        let src ← eval i env
        standAt p2
        let src ← foldedSetIterable i env src
        let _ ← runOwn (.compStart E k' (← holding [src] (pyIter src)) acc env) env
        again (.compLoop E k it acc env)))
    (hs : ∀ env x, foldedSetIterable i env x = pure x)
    (hu : ∀ it acc env, A.under (.compLoop E k it acc env) = A) (hd : ∀ it acc env, (model prog w).den (.compLoop E k it acc env) = (compTurn E k it acc env).onRaise (fun x => do noteFrame x env; theTreesLotGoes x)) : LoopOk prog w A E k t (pwMid prog w A E k' i) := by
  intro R it acc env J turn n s h
  refine codeAny_loop rfl J (fun n s hJ => ?_) n h
  rw [hu, hd]
  refine wpAny_noted ?_
  rw [hT]
  refine wpAny_bind (wpAny_standAt (wpAny_bind (thnF (turn n s hJ) fun r s1 h1 => ?_)))
  cases r with
  | none => exact wpAny_pure h1
  | some v =>
    refine wpAny_bind (thnF h1 fun _ s2 h2 => wpAny_bind (thnF h2 fun _ s3 h3 => wpAny_bind (thnF h3 fun x s4 h4 => wpAny_bind (wpAny_standAt (wpAny_bind (wpAny_of_eq (hs env x) (wpAny_bind (wpAny_holding (thnF h4 fun it1 s5 h5 => ?_)))))))))
    refine wpAny_bind (wpAny_runOwn ?_)
    rw [Around.mark_none]
    refine codeAny_mono h5 fun r s' hr => ?_
    cases r with
    | ok f => first | exact wpAny_pure ⟨rfl, hr⟩ | exact wpAny_bind (wpAny_pure (wpAny_pure ⟨rfl, hr⟩))
    | error e => exact hr.elim
theorem add_loopS {E : Expr} {k : Nat} {t : Expr} {p1 : Pos} (hT : ∀ it acc env, compTurn E k it acc env = (do
      standAt p1
      match ← pyNext it with
      | none => pure (.done .next)
      | some v =>
        letOwnedTupleGo t it v
        assign t env v
        (do let u ← eval elt env; standAt elt.pos; let _ ← call (.builtin "set.add") [acc, u])
        again (.compLoop E k it acc env)))
    (hu : ∀ it acc env, A.under (.compLoop E k it acc env) = A) (hd : ∀ it acc env, (model prog w).den (.compLoop E k it acc env) = (compTurn E k it acc env).onRaise (fun x => do noteFrame x env; theTreesLotGoes x)) : LoopOk prog w A E k t (pwAdd prog w A "set.add" elt) := by
  intro R it acc env J turn n s h
  refine codeAny_loop rfl J (fun n s hJ => ?_) n h
  rw [hu, hd]
  refine wpAny_noted ?_
  rw [hT]
  refine wpAny_bind (wpAny_standAt (wpAny_bind (thnF (turn n s hJ) fun r s1 h1 => ?_)))
  cases r with
  | none => exact wpAny_pure h1
  | some v =>
    refine wpAny_bind (thnF h1 fun _ s2 h2 => wpAny_bind (thnF h2 fun _ s3 h3 => ?_))
    exact wpAny_bind (wpAny_bind (thnF h3 fun x s4 h4 => wpAny_bind (wpAny_standAt (wpAny_bind (thnF h4 fun _ s5 h5 => wpAny_pure (wpAny_pure ⟨rfl, h5⟩))))))
theorem add_loopL {E : Expr} {k : Nat} {t : Expr} {p1 : Pos} (hT : ∀ it acc env, compTurn E k it acc env = (do
      standAt p1
      match ← pyNext it with
      | none => pure (.done .next)
      | some v =>
        letOwnedTupleGo t it v
        assign t env v
        (do let _ ← call (.builtin "list.append") [acc, ← eval elt env])
        again (.compLoop E k it acc env)))
    (hu : ∀ it acc env, A.under (.compLoop E k it acc env) = A) (hd : ∀ it acc env, (model prog w).den (.compLoop E k it acc env) = (compTurn E k it acc env).onRaise (fun x => do noteFrame x env; theTreesLotGoes x)) : LoopOk prog w A E k t (pwAdd prog w A "list.append" elt) := by
  intro R it acc env J turn n s h
  refine codeAny_loop rfl J (fun n s hJ => ?_) n h
  rw [hu, hd]
  refine wpAny_noted ?_
  rw [hT]
  refine wpAny_bind (wpAny_standAt (wpAny_bind (thnF (turn n s hJ) fun r s1 h1 => ?_)))
  cases r with
  | none => exact wpAny_pure h1
  | some v =>
    refine wpAny_bind (thnF h1 fun _ s2 h2 => wpAny_bind (thnF h2 fun _ s3 h3 => ?_))
    exact wpAny_bind (wpAny_bind (thnF h3 fun x s4 h4 => wpAny_bind (thnF h4 fun _ s5 h5 => wpAny_pure (wpAny_pure ⟨rfl, h5⟩))))
theorem sc3_l0 (hs : ∀ env x, foldedSetIterable i1 env x = pure x) : LoopOk prog w A (sc3 elt t0 i0 t1 i1 t2 i2 scope pos) 0 t0 (pwMid prog w A (sc3 elt t0 i0 t1 i1 t2 i2 scope pos) 1 i1) := mid_loop (p1 := i0.pos) (p2 := i1.pos) (fun _ _ _ => by rfl) hs (fun _ _ _ => rfl) (fun _ _ _ => rfl)
theorem sc3_l1 (hs : ∀ env x, foldedSetIterable i2 env x = pure x) : LoopOk prog w A (sc3 elt t0 i0 t1 i1 t2 i2 scope pos) 1 t1 (pwMid prog w A (sc3 elt t0 i0 t1 i1 t2 i2 scope pos) 2 i2) := mid_loop (p1 := i1.pos) (p2 := i2.pos) (fun _ _ _ => by rfl) hs (fun _ _ _ => rfl) (fun _ _ _ => rfl)
theorem sc3_l2 : LoopOk prog w A (sc3 elt t0 i0 t1 i1 t2 i2 scope pos) 2 t2 (pwAdd prog w A "set.add" elt) := add_loopS (p1 := i2.pos) (fun _ _ _ => by rfl) (fun _ _ _ => rfl) (fun _ _ _ => rfl)
theorem lc3_l0 (hs : ∀ env x, foldedSetIterable i1 env x = pure x) : LoopOk prog w A (lc3 elt t0 i0 t1 i1 t2 i2 scope pos) 0 t0 (pwMid prog w A (lc3 elt t0 i0 t1 i1 t2 i2 scope pos) 1 i1) := mid_loop (p1 := i0.pos) (p2 := i1.pos) (fun _ _ _ => by rfl) hs (fun _ _ _ => rfl) (fun _ _ _ => rfl)
theorem lc3_l1 (hs : ∀ env x, foldedSetIterable i2 env x = pure x) : LoopOk prog w A (lc3 elt t0 i0 t1 i1 t2 i2 scope pos) 1 t1 (pwMid prog w A (lc3 elt t0 i0 t1 i1 t2 i2 scope pos) 2 i2) := mid_loop (p1 := i1.pos) (p2 := i2.pos) (fun _ _ _ => by rfl) hs (fun _ _ _ => rfl) (fun _ _ _ => rfl)
theorem lc3_l2 : LoopOk prog w A (lc3 elt t0 i0 t1 i1 t2 i2 scope pos) 2 t2 (pwAdd prog w A "list.append" elt) := add_loopL (p1 := i2.pos) (fun _ _ _ => by rfl) (fun _ _ _ => rfl) (fun _ _ _ => rfl)
theorem sc3_s1 : StartOk prog w A (sc3 elt t0 i0 t1 i1 t2 i2 scope pos) 1 := by
  intro R it acc env s h0 h
  refine codeAny_of_tree ?_
  show wpAny _ _ ((compStart (sc3 elt t0 i0 t1 i1 t2 i2 scope pos) 1 it acc env).onRaise (fun x => do noteFrame x env; standAt theWindowsPlace)) _ _ s
  refine wpAny_notedAt ?_
  unfold compStart
  show wpAny _ _ (ask >>= _) _ _ s
  refine wpAny_bind (wpAny_askSetting (wpAny_ite ?_))
  split
  · first
      | exact wpAny_bind (wpAny_pure (wpAny_pure (And.intro rfl h0)))
      | exact wpAny_pure (And.intro rfl h0)
  · first
      | exact wpAny_bind (wpAny_rule (wpAny_bind (wpAny_standAt (wpAny_bind (wpAny_mono h (fun it' s' h' => wpAny_pure (And.intro rfl h')) fun _ _ x => x)))))
      | (refine wpAny_bind (wpAny_rule ?_); show wpAny _ _ (standAt i1.pos >>= _) _ _ s; exact wpAny_bind (wpAny_standAt (wpAny_bind (wpAny_mono h (fun it' s' h' => wpAny_pure (And.intro rfl h')) fun _ _ x => x))))
theorem sc3_s2 : StartOk prog w A (sc3 elt t0 i0 t1 i1 t2 i2 scope pos) 2 := by
  intro R it acc env s h0 h
  refine codeAny_of_tree ?_
  show wpAny _ _ ((compStart (sc3 elt t0 i0 t1 i1 t2 i2 scope pos) 2 it acc env).onRaise (fun x => do noteFrame x env; standAt theWindowsPlace)) _ _ s
  refine wpAny_notedAt ?_
  unfold compStart
  show wpAny _ _ (ask >>= _) _ _ s
  refine wpAny_bind (wpAny_askSetting (wpAny_ite ?_))
  split
  · first
      | exact wpAny_bind (wpAny_pure (wpAny_pure (And.intro rfl h0)))
      | exact wpAny_pure (And.intro rfl h0)
  · first
      | exact wpAny_bind (wpAny_rule (wpAny_bind (wpAny_standAt (wpAny_bind (wpAny_mono h (fun it' s' h' => wpAny_pure (And.intro rfl h')) fun _ _ x => x)))))
      | (refine wpAny_bind (wpAny_rule ?_); show wpAny _ _ (standAt i2.pos >>= _) _ _ s; exact wpAny_bind (wpAny_standAt (wpAny_bind (wpAny_mono h (fun it' s' h' => wpAny_pure (And.intro rfl h')) fun _ _ x => x))))
theorem lc3_s1 : StartOk prog w A (lc3 elt t0 i0 t1 i1 t2 i2 scope pos) 1 := by
  intro R it acc env s h0 h
  refine codeAny_of_tree ?_
  show wpAny _ _ ((compStart (lc3 elt t0 i0 t1 i1 t2 i2 scope pos) 1 it acc env).onRaise (fun x => do noteFrame x env; standAt theWindowsPlace)) _ _ s
  refine wpAny_notedAt ?_
  unfold compStart
  show wpAny _ _ (ask >>= _) _ _ s
  refine wpAny_bind (wpAny_askSetting (wpAny_ite ?_))
  split
  · first
      | exact wpAny_bind (wpAny_pure (wpAny_pure (And.intro rfl h0)))
      | exact wpAny_pure (And.intro rfl h0)
  · first
      | exact wpAny_bind (wpAny_rule (wpAny_bind (wpAny_standAt (wpAny_bind (wpAny_mono h (fun it' s' h' => wpAny_pure (And.intro rfl h')) fun _ _ x => x)))))
      | (refine wpAny_bind (wpAny_rule ?_); show wpAny _ _ (standAt i1.pos >>= _) _ _ s; exact wpAny_bind (wpAny_standAt (wpAny_bind (wpAny_mono h (fun it' s' h' => wpAny_pure (And.intro rfl h')) fun _ _ x => x))))
theorem lc3_s2 : StartOk prog w A (lc3 elt t0 i0 t1 i1 t2 i2 scope pos) 2 := by
  intro R it acc env s h0 h
  refine codeAny_of_tree ?_
  show wpAny _ _ ((compStart (lc3 elt t0 i0 t1 i1 t2 i2 scope pos) 2 it acc env).onRaise (fun x => do noteFrame x env; standAt theWindowsPlace)) _ _ s
  refine wpAny_notedAt ?_
  unfold compStart
  show wpAny _ _ (ask >>= _) _ _ s
  refine wpAny_bind (wpAny_askSetting (wpAny_ite ?_))
  split
  · first
      | exact wpAny_bind (wpAny_pure (wpAny_pure (And.intro rfl h0)))
      | exact wpAny_pure (And.intro rfl h0)
  · first
      | exact wpAny_bind (wpAny_rule (wpAny_bind (wpAny_standAt (wpAny_bind (wpAny_mono h (fun it' s' h' => wpAny_pure (And.intro rfl h')) fun _ _ x => x)))))
      | (refine wpAny_bind (wpAny_rule ?_); show wpAny _ _ (standAt i2.pos >>= _) _ _ s; exact wpAny_bind (wpAny_standAt (wpAny_bind (wpAny_mono h (fun it' s' h' => wpAny_pure (And.intro rfl h')) fun _ _ x => x))))
end
/-- the part of a turn behind the store of its item, as it reads in a context; vs: the slots that it may change -/
structure PPart (Y : Cx) (pw : PWt) (acc : Value) (tp : L2.St → Hp → (Hp → Prop) → Prop) (vs : List Nat) : Prop where
  run : ∀ (pins : List (Addr × Obj)) (s : Shared) (σ : L2.St) (H : Hp) (N : Hp → Prop) (N' : Shared → Prop), Inv Y pins σ H s → tp σ H N → (∀ H' s', Inv Y pins (wipe σ vs) H' s' → N H' → N' s') → pw acc Y.env N' s
def tAddS (P : Program) (w : World) (D : Addr) (te : TE) : L2.St → Hp → (Hp → Prop) → Prop := fun σ H N => te σ H fun y H7 => ∃ z ks, y = .str z ∧ H7 D = some (SetSO P w D ks) ∧ ks.length + 1 < scanBound ∧ N (upd H7 D (SetSO P w D (putS ks z)))
def tAddL (D : Addr) (te : TE) : L2.St → Hp → (Hp → Prop) → Prop := fun σ H N => te σ H fun y H7 => ∃ acc, H7 D = some (.lst acc) ∧ acc.length < sizeLine ∧ N (upd H7 D (.lst (acc ++ [y])))
def tMid (wi : TI) (g : TG) (tp : L2.St → Hp → (Hp → Prop) → Prop) (vs : List Nat) : L2.St → Hp → (Hp → Prop) → Prop := fun σ H N => wi σ H fun J H4 => ∃ W : Nat → Nat → Hp → Prop, (∃ m, W 0 m H4) ∧ ∀ j k H, W j k H →
  (J.stop j H ∧ N H) ∨ (J.go j H ∧ ∃ Nx : Hp → Prop, (∀ H', Nx H' → ∃ k', k' < k ∧ W (j + 1) k' H') ∧ ∀ x H', J.yld j H x H' → g x (wipe σ vs) H' fun σ2 H2 => wipe σ2 vs = wipe σ vs ∧ tp σ2 H2 Nx)
section
variable {Y : Cx}
theorem part_addS {elt : Expr} {te : TE} {D : Addr} (hxe : Y.xe = NoE) (he : PE Y elt te) : PPart Y (pwAdd Y.prog Y.w Y.A "set.add" elt) (.ref D) (tAddS Y.prog Y.w D te) [] := by
  refine ⟨fun pins s σ H N N' I h k => ?_⟩
  unfold pwAdd
  have r := he.run pins s σ H _ I h
  rw [hxe] at r
  refine thnF r fun v s1 ⟨y, H1, I1, r1, z, ks, ey, hD, room, nx⟩ => ?_
  subst ey
  obtain ⟨tk, rfl⟩ : ∃ tk, v = Value.str z tk := r1
  exact addS_ok I1 hD room fun s2 I2 => k _ s2 I2 nx
theorem part_addL {elt : Expr} {te : TE} {D : Addr} (hxe : Y.xe = NoE) (he : PE Y elt te) : PPart Y (pwAdd Y.prog Y.w Y.A "list.append" elt) (.ref D) (tAddL D te) [] := by
  refine ⟨fun pins s σ H N N' I h k => ?_⟩
  unfold pwAdd
  have r := he.run pins s σ H _ I h
  rw [hxe] at r
  refine thnF r fun v s1 ⟨y, H1, I1, r1, acc, hD, room, nx⟩ => ?_
  exact app_ok I1 hD room r1 fun s2 I2 => k _ s2 I2 nx
theorem part_mid {E : Expr} {k : Nat} {t i : Expr} {pw : PWt} {acc : Value} {wi : TI} {g : TG} {tp : L2.St → Hp → (Hp → Prop) → Prop} {vs vs' : List Nat} (hxe : Y.xe = NoE) (hc : Y.calm = true) (hv : ∀ i ∈ vs', i ∈ vs) (hi : PI Y t i wi) (hg : PG Y t g)
    (hp : PPart Y pw acc tp vs') (hL : LoopOk Y.prog Y.w Y.A E k t pw) (hS : StartOk Y.prog Y.w Y.A E k) : PPart Y (pwMid Y.prog Y.w Y.A E k i) acc (tMid wi g tp vs) vs := by
  refine ⟨fun pins s σ H N N' I h kk => ?_⟩
  have r0 := hi.run pins s σ H _ I h
  rw [hxe] at r0
  refine thnF r0 fun xv s1 hx => ?_
  refine thnF hx fun itv s2 h2 => ?_
  obtain ⟨it1, fp1, tn1, J1, H2, rfl, I2, T1, st2, f2, W1, ⟨m1, w1⟩, turn1⟩ := h2
  have loop1 : codeAny (model Y.prog Y.w) Y.A (.compLoop E k (.ref it1) acc Y.env)
      (fun r s' => match r with
        | .ok _ => N' s'
        | .error _ => False) s2 := by
    refine hL _ _ _ _ (fun n s' => ∃ j H', Inv Y pins (wipe σ vs) H' s' ∧ tn1 j s'.heap ∧ (∀ b ∈ fp1, H' b = none) ∧ W1 j n H') ?_ m1 _ ⟨0, H2, I2.weak (wipe_length _ _) (fun j v e => (wipe_some e).1), st2, fun b hb => (f2 b hb).1, w1⟩
    rintro n s3 ⟨j, H3, I3, st3, n3, w3⟩
    rcases turn1 j n H3 w3 with ⟨stop1, nx1⟩ | ⟨go1, Nx1, hNx1, step1⟩
    · refine thnF (T1.done Y rfl rfl rfl hc j _ s3 _ H3 NoE I3 (fun b hb => ⟨n3 b hb, (f2 b hb).2⟩) st3 stop1) fun r s4 ⟨hr, I4⟩ => ?_
      subst hr
      exact kk _ _ I4 nx1
    · refine thnF (T1.item Y rfl rfl rfl hc j _ s3 _ H3 NoE I3 (fun b hb => ⟨n3 b hb, (f2 b hb).2⟩) st3 go1) fun r s4 ⟨u1, hr, h4⟩ => ?_
      subst hr
      refine thnF h4 fun _ s5 ⟨x1, H5, I5, r5, y5, st5, n5⟩ => ?_
      have I5p := I5.pinned (fun b hb => ⟨n5 b hb, (f2 b hb).2⟩) (T1.obj _ _ st5)
      have rg := hg.run _ s5 _ H5 x1 u1 _ I5p r5 (step1 x1 H5 y5)
      rw [hxe] at rg
      refine thnF rg fun _ s6 ⟨σ6, H6, I6, hw6, q6⟩ => ?_
      refine hp.run _ s6 σ6 H6 Nx1 _ I6 q6 fun H7 s7 I7 nx => ?_
      obtain ⟨m', hm, w'⟩ := hNx1 _ nx
      have pin' : ∀ b ∈ fp1, ∀ o, s5.heap.get? b = some o → s7.heap.get? b = some o ∧ H7 b = none := fun b hb o e =>
        let z := I7.pin (b, o) (List.mem_append_right _ (List.mem_append_right _ (mem_pinsAt hb e)))
        ⟨z.1, z.2.1⟩
      refine ⟨m', hm, j + 1, H7, I7.unpinned.weak ?_ (fun j v e => ?_), T1.keep _ _ _ st5 fun b hb o e => (pin' b hb o e).1, fun b hb => ?_, w'⟩
      · have z := congrArg List.length hw6
        rw [wipe_length, wipe_length] at z
        rw [wipe_length, wipe_length]
        exact z.symm
      · rw [← hw6] at e
        obtain ⟨e1, e2⟩ := wipe_some e
        rw [wipe_out fun z => e2 (hv j z)]
        exact e1
      · obtain ⟨o, e, _⟩ := T1.obj _ _ st5 b hb
        exact (pin' b hb o e).2
  exact hS _ _ _ _ _ loop1 (T1.self Y.A 0 _ _ _ st2 loop1)
end
end L2

set_option Elab.async false
set_option linter.all false
set_option maxRecDepth 100000
set_option maxHeartbeats 2000000
/-! comprehensions of any number of clauses: the first clause and the whole -/
namespace L2
open PySem PySem.Spec PyProof.Rows
def tScN (P : Program) (w : World) (wi : TI) (g : TG) (tp : Addr → L2.St → Hp → (Hp → Prop) → Prop) (vs : List Nat) : TE := fun σ H Q => wi σ H fun J H1 => ∀ D, H1 D = none → ∃ W : Nat → Nat → Hp → Prop, (∃ m, W 0 m (upd H1 D (SetSO P w D []))) ∧ ∀ i m H, W i m H →
  (J.stop i H ∧ Q (.ref D) H) ∨ (J.go i H ∧ ∃ Nx : Hp → Prop, (∀ H', Nx H' → ∃ m', m' < m ∧ W (i + 1) m' H') ∧ ∀ x H', J.yld i H x H' → g x (wipe σ vs) H' fun σ2 H2 => wipe σ2 vs = wipe σ vs ∧ tp D σ2 H2 Nx)
def tLcN (wi : TI) (g : TG) (tp : Addr → L2.St → Hp → (Hp → Prop) → Prop) (vs : List Nat) : TE := fun σ H Q => wi σ H fun J H1 => ∀ D, H1 D = none → ∃ W : Nat → Nat → Hp → Prop, (∃ m, W 0 m (upd H1 D (.lst []))) ∧ ∀ i m H, W i m H →
  (J.stop i H ∧ Q (.ref D) H) ∨ (J.go i H ∧ ∃ Nx : Hp → Prop, (∀ H', Nx H' → ∃ m', m' < m ∧ W (i + 1) m' H') ∧ ∀ x H', J.yld i H x H' → g x (wipe σ vs) H' fun σ2 H2 => wipe σ2 vs = wipe σ vs ∧ tp D σ2 H2 Nx)
/-- a clause's turns, Pv by the turn and the heap -/
theorem cl_it {J : It} {n : Nat} {G : Hp → Prop} {Y : Nat → Hp → V → Hp → Prop} (wk : Walk J n G Y) {g : TG} {tp : L2.St → Hp → (Hp → Prop) → Prop} {vs : List Nat} {σ : L2.St} {H0 : Hp} {Qd : Hp → Prop} (Pv : Nat → Hp → Prop) (h0 : Pv 0 H0) (hG : ∀ i H, i ≤ n → Pv i H → G H)
    (hs : ∀ i x H H', i < n → Pv i H → Y i H x H' → g x (wipe σ vs) H' fun σ2 H2 => wipe σ2 vs = wipe σ vs ∧ tp σ2 H2 (Pv (i + 1))) (hd : ∀ H, Pv n H → Qd H) :
    ∃ W : Nat → Nat → Hp → Prop, (∃ m, W 0 m H0) ∧ ∀ i m H, W i m H →
      (J.stop i H ∧ Qd H) ∨ (J.go i H ∧ ∃ Nx : Hp → Prop, (∀ H', Nx H' → ∃ m', m' < m ∧ W (i + 1) m' H') ∧ ∀ x H', J.yld i H x H' → g x (wipe σ vs) H' fun σ2 H2 => wipe σ2 vs = wipe σ vs ∧ tp σ2 H2 Nx) := by
  refine ⟨fun i m H => m = n - i ∧ i ≤ n ∧ Pv i H, ⟨n, by simp, Nat.zero_le _, h0⟩, ?_⟩
  rintro i m H ⟨rfl, hi, p⟩
  have q := hG i H hi p
  by_cases hlt : i < n
  · exact .inr ⟨wk.goes i H hlt q, Pv (i + 1), fun H' p' => ⟨n - (i + 1), by omega, rfl, hlt, p'⟩, fun x H' y => hs i x H H' hlt p (wk.yields i H x H' hlt q y)⟩
  · obtain rfl : i = n := by omega
    exact .inl ⟨wk.stops H q, hd H p⟩
section
variable {X : Cx}
theorem pe_scN {elt tg iter : Expr} {rest : List Comprehension} {scope : Scope} {own : List (Str × Nat)} {vs' : List Nat} {pos : Pos} {wi : TI} {g : TG} {pw : PWt} {tp : Addr → L2.St → Hp → (Hp → Prop) → Prop} (hc : X.calm = true) (hN : X.N.Nodup) (hi : PI X tg iter wi) (ok : BlkOk X.N X.env.scope scope own) (hv : ∀ i ∈ vs', i ∈ own.map (·.2))
    (hg : InBlk X scope fun Y => PG Y tg g) (hp : ∀ D, InBlk X scope fun Y => PPart Y pw (.ref D) (tp D) vs')
    (hL : LoopOk X.prog X.w X.A (.SetComp elt (⟨tg, iter, [], 0⟩ :: rest) scope pos) 0 tg pw)
    (hs : ∀ x, foldedSetIterable iter X.env x = pure x := by intro _; rfl) :
    PE X (.SetComp elt (⟨tg, iter, [], 0⟩ :: rest) scope pos) (tScN X.prog X.w wi g tp (own.map (·.2))) := by
  refine ⟨fun pins s σ H Q I h => ?_⟩
  rw [show eval (.SetComp elt (⟨tg, iter, [], 0⟩ :: rest) scope pos) X.env = comprehension (.SetComp elt (⟨tg, iter, [], 0⟩ :: rest) scope pos) scope X.env (firstIterPos (⟨tg, iter, [], 0⟩ :: rest) pos) (newSet (.type "set")) false (eval iter X.env) from rfl]
  have caught : ∀ y ∈ scope.names, y.2 = .free → ∃ c, X.env.cells.lookup y.1 = some c := fun y hy e => by
    rcases ok.free y hy e with k | k
    · exact I.ok.has _ (.inl k)
    · exact I.ok.has _ (.inr k)
  refine wpAny_comprehension_free (use := none) rfl hs (closure_ok caught) ok.kind (fun y hy e => by rw [ok.uniq y hy, e]) (thn (hi.run pins s σ H _ I h) fun xv s1 hx => thn hx fun itv s2 h2 => ?_)
  obtain ⟨it, fp, tn, J, H2, rfl, I2, T, st2, f2, q⟩ := h2
  refine PpSet.newSet_ok (newEnv_comp ?_)
  generalize hD : s2.heap.objs.size = D
  obtain ⟨W, ⟨m0, w0⟩, turn⟩ := q D (I2.hok.fresh (Nat.le_of_eq hD))
  have fb : ∀ b ∈ fp, b < s2.heap.objs.size := fun b hb => let ⟨o, e, _⟩ := T.obj _ _ st2 b hb; Heap.lt_size e
  have nw := setS_new X.w X.prog s2.heap
  generalize hnew : s2.heap.push { cls := .type "set", dict := none, data := .set #[] 0 (.fresh 0 0 (!X.w.params.followText "set-order")) } = h3 at nw
  have keep3 : ∀ b o, s2.heap.get? b = some o → h3.get? b = some o := fun b o e => by rw [← hnew]; exact Heap.get?_push_of_some _ e
  have size3 : h3.objs.size = s2.heap.objs.size + 1 := by rw [← hnew, Heap.size_push]
  rw [hD] at nw
  have I3 : Inv X pins σ (upd H2 D (SetSO X.prog X.w D [])) { s2 with heap := h3 } := I2.laid (t' := s2.toks) keep3 (Nat.le_of_eq hD) (setSO_new nw)
  have f3 : ∀ b ∈ fp, FpOk X pins (upd H2 D (SetSO X.prog X.w D [])) b ∧ b < h3.objs.size := fun b hb => by
    refine ⟨⟨?_, (f2 b hb).2⟩, by rw [size3]; exact Nat.lt_succ_of_lt (fb b hb)⟩
    rw [upd_ne (by rw [← hD]; exact Nat.ne_of_lt (fb b hb))]
    exact (f2 b hb).1
  have st3 : tn 0 h3 := T.keep _ _ _ st2 fun b _ o e => keep3 b o e
  generalize hs3 : ({ s2 with heap := h3 } : Shared) = s3 at I3
  have eh : s3.heap = h3 := by rw [← hs3]
  rw [← eh] at st3 f3 size3
  have I4 := block_start I3 ok hN f3
  generalize hH3 : upd H2 D (SetSO X.prog X.w D []) = H3 at I3 I4 w0 f3
  show codeAny _ _ (.compStart (.SetComp elt (⟨tg, iter, [], 0⟩ :: rest) scope pos) 0 (.ref it) (.ref D) (compEnvC scope (cellsFrom (s3.heap.objs.size + 1) scope.names (cloFrom X.env.cells scope.names [])) s3.heap.objs.size X.env))
    (compPost (model X.prog X.w) X.A X.xe none (EP X pins σ Q) (.ref D) s3.heap.objs.size) { s3 with heap := pushCells (s3.heap.push { cls := .type "dict", data := .dict #[] }) scope.names }
  have pg := hg s3 H3 s3.heap.objs.size (cellsFrom (s3.heap.objs.size + 1) scope.names (cloFrom X.env.cells scope.names [])) fp
  have pp := hp D s3 H3 s3.heap.objs.size (cellsFrom (s3.heap.objs.size + 1) scope.names (cloFrom X.env.cells scope.names [])) fp
  generalize hce : compEnvC scope (cellsFrom (s3.heap.objs.size + 1) scope.names (cloFrom X.env.cells scope.names [])) s3.heap.objs.size X.env = ce at I4 pg pp ⊢
  have cL : ce.locals = s3.heap.objs.size := by rw [← hce]; rfl
  generalize hs4 : ({ s3 with heap := pushCells (s3.heap.push { cls := .type "dict", data := .dict #[] }) scope.names } : Shared) = s4 at I4 ⊢
  have st4 : tn 0 s4.heap := by
    rw [← hs4]
    exact T.keep _ _ _ st3 fun b _ o e => pushCells_keeps _ _ _ _ (Heap.get?_push_of_some _ e)
  have pinned : ∀ {σ' : L2.St} {H' : Hp} {s' : Shared}, Inv (X.blk s3 H3 scope ce fp) [] σ' H' s' → (∀ b ∈ fp, H' b = none) → ∀ b ∈ fp, FpOk (X.blk s3 H3 scope ce fp) [] H' b := fun {σ' H' s'} I' hn b hb =>
    ⟨hn b hb, (I'.ok.exf b hb).1, I'.ok.exfs b hb, .inl hb, fun x c e => (I'.ok.exf b hb).2 x c e, fun p hp => absurd (show p ∈ ([] : List (Addr × Obj)) ++ [] from hp) (by simp)⟩
  have loop : codeAny (model X.prog X.w) X.A (.compLoop (.SetComp elt (⟨tg, iter, [], 0⟩ :: rest) scope pos) 0 (.ref it) (.ref D) ce) (compPost (model X.prog X.w) X.A X.xe none (EP X pins σ Q) (.ref D) s3.heap.objs.size) s4 := by
    refine hL _ _ _ _ (fun n s' => ∃ i H', Inv (X.blk s3 H3 scope ce fp) [] (wipe σ (own.map (·.2))) H' s' ∧ tn i s'.heap ∧ (∀ b ∈ fp, H' b = none) ∧ W i n H') ?_ m0 _ ⟨0, H3, I4, st4, fun b hb => (f3 b hb).1.1, w0⟩
    rintro n s5 ⟨i, H5, I5, st5, n5, w5⟩
    rcases turn i n H5 w5 with ⟨stop, qq⟩ | ⟨go, Nx, hNx, step⟩
    · refine thnF (T.done (X.blk s3 H3 scope ce fp) rfl rfl rfl hc i [] s5 _ H5 NoE I5 (pinned I5 n5) st5 stop) fun r s6 ⟨hr, I6⟩ => ?_
      subst hr
      have I7 : Inv X pins σ H5 s6 := I3.call' (ch := fp) I6.os I6.base I6.hok I6.bare fun b hb => ⟨(f3 b hb).1.2.2.2.1, (f3 b hb).1.2.1, (f3 b hb).1.2.2.2.2.1, (f3 b hb).1.2.2.2.2.2⟩
      have free5 : H5 ce.locals = none := I6.free
      obtain ⟨m, hn, _⟩ := I6.loc
      have hn : s6.heap.Ns ce.locals m := hn
      rw [cL] at hn free5
      obtain ⟨f0, f1, _, g3, f4, f5⟩ := I3.fpOk (Nat.le_refl _) free5
      exact ⟨m, hn, fun h'' sb => ⟨.ref D, H5, I7.turned (t' := s6.toks) (fun b o hb e => (sb.2 b hb).trans e) f0 f1 g3 f4 f5, rfl, qq⟩⟩
    · refine thnF (T.item (X.blk s3 H3 scope ce fp) rfl rfl rfl hc i [] s5 _ H5 NoE I5 (pinned I5 n5) st5 go) fun r s6 ⟨u, hr, h6⟩ => ?_
      subst hr
      refine thnF h6 fun _ s7 ⟨x, H7, I7, r7, y7, st7, n7⟩ => ?_
      have I7p := I7.pinned (pinned I7 n7) (T.obj _ _ st7)
      refine thnF (pg.run _ s7 _ H7 x u _ I7p r7 (step x H7 y7)) fun _ s8 ⟨σ8, H8, I8, hw8, q8⟩ => ?_
      refine pp.run _ s8 σ8 H8 Nx _ I8 q8 fun H13 s13 I13 nx => ?_
      obtain ⟨m', hm, w'⟩ := hNx H13 nx
      have pin' : ∀ b ∈ fp, ∀ o, s7.heap.get? b = some o → s13.heap.get? b = some o ∧ H13 b = none := fun b hb o e =>
        let z := I13.pin (b, o) (List.mem_append_right _ (List.mem_append_right _ (mem_pinsAt hb e)))
        ⟨z.1, z.2.1⟩
      refine ⟨m', hm, i + 1, H13, (I13.unpinned (pins := [])).weak ?_ (fun j v e => ?_), T.keep _ _ _ st7 fun b hb o e => (pin' b hb o e).1, fun b hb => ?_, w'⟩
      · have z := congrArg List.length hw8
        rw [wipe_length, wipe_length] at z
        rw [wipe_length, wipe_length]
        exact z.symm
      · rw [← hw8] at e
        obtain ⟨e1, e2⟩ := wipe_some e
        rw [wipe_out fun z => e2 (hv j z)]
        exact e1
      · obtain ⟨o, e, _⟩ := T.obj _ _ st7 b hb
        exact (pin' b hb o e).2
  exact PpSet.codeAny_compStart_set loop (T.self X.A 0 _ _ _ st4 loop)
theorem pe_lcN {elt tg iter : Expr} {rest : List Comprehension} {scope : Scope} {own : List (Str × Nat)} {vs' : List Nat} {pos : Pos} {wi : TI} {g : TG} {pw : PWt} {tp : Addr → L2.St → Hp → (Hp → Prop) → Prop} (hc : X.calm = true) (hN : X.N.Nodup) (hi : PI X tg iter wi) (ok : BlkOk X.N X.env.scope scope own) (hv : ∀ i ∈ vs', i ∈ own.map (·.2))
    (hg : InBlk X scope fun Y => PG Y tg g) (hp : ∀ D, InBlk X scope fun Y => PPart Y pw (.ref D) (tp D) vs')
    (hL : LoopOk X.prog X.w X.A (.ListComp elt (⟨tg, iter, [], 0⟩ :: rest) scope pos) 0 tg pw)
    (hs : ∀ x, foldedSetIterable iter X.env x = pure x := by intro _; rfl) :
    PE X (.ListComp elt (⟨tg, iter, [], 0⟩ :: rest) scope pos) (tLcN wi g tp (own.map (·.2))) := by
  refine ⟨fun pins s σ H Q I h => ?_⟩
  rw [show eval (.ListComp elt (⟨tg, iter, [], 0⟩ :: rest) scope pos) X.env = comprehension (.ListComp elt (⟨tg, iter, [], 0⟩ :: rest) scope pos) scope X.env (firstIterPos (⟨tg, iter, [], 0⟩ :: rest) pos) (newList []) false (eval iter X.env) from rfl]
  have caught : ∀ y ∈ scope.names, y.2 = .free → ∃ c, X.env.cells.lookup y.1 = some c := fun y hy e => by
    rcases ok.free y hy e with k | k
    · exact I.ok.has _ (.inl k)
    · exact I.ok.has _ (.inr k)
  refine wpAny_comprehension_free (use := none) rfl hs (closure_ok caught) ok.kind (fun y hy e => by rw [ok.uniq y hy, e]) (thn (hi.run pins s σ H _ I h) fun xv s1 hx => thn hx fun itv s2 h2 => ?_)
  obtain ⟨it, fp, tn, J, H2, rfl, I2, T, st2, f2, q⟩ := h2
  refine wpAny_newObj_type (newEnv_comp ?_) (by show 0 ≤ sizeLine; decide)
  generalize hD : s2.heap.objs.size = D
  obtain ⟨W, ⟨m0, w0⟩, turn⟩ := q D (I2.hok.fresh (Nat.le_of_eq hD))
  have fb : ∀ b ∈ fp, b < s2.heap.objs.size := fun b hb => let ⟨o, e, _⟩ := T.obj _ _ st2 b hb; Heap.lt_size e
  generalize hs3 : ({ s2 with heap := s2.heap.push { cls := .type "list", data := .seq ([] : List Value).toArray } } : Shared) = s3
  have I3 : Inv X pins σ (upd H2 D (.lst [])) s3 := by
    rw [← hs3]
    refine I2.laid (t' := s2.toks) (fun b o e => Heap.get?_push_of_some _ e) (Nat.le_of_eq hD) ⟨Nat.zero_le _, [], 0, .nil, ?_⟩
    rw [← hD]
    exact Heap.get?_push_size _ rfl
  have h3 : s3.heap = s2.heap.push { cls := .type "list", data := .seq ([] : List Value).toArray } := by rw [← hs3]
  have f3 : ∀ b ∈ fp, FpOk X pins (upd H2 D (.lst [])) b ∧ b < s3.heap.objs.size := fun b hb => by
    have hlt := fb b hb
    refine ⟨⟨?_, (f2 b hb).2⟩, by rw [h3, Heap.size_push]; exact Nat.lt_succ_of_lt hlt⟩
    rw [upd_ne (by rw [← hD]; exact Nat.ne_of_lt hlt)]
    exact (f2 b hb).1
  have st3 : tn 0 s3.heap := T.keep _ _ _ st2 fun b _ o e => by rw [h3]; exact Heap.get?_push_of_some _ e
  have I4 := block_start I3 ok hN f3
  generalize hH3 : upd H2 D (.lst []) = H3 at I3 I4 w0 f3
  show codeAny _ _ (.compStart (.ListComp elt (⟨tg, iter, [], 0⟩ :: rest) scope pos) 0 (.ref it) (.ref D) (compEnvC scope (cellsFrom (s3.heap.objs.size + 1) scope.names (cloFrom X.env.cells scope.names [])) s3.heap.objs.size X.env))
    (compPost (model X.prog X.w) X.A X.xe none (EP X pins σ Q) (.ref D) s3.heap.objs.size) { s3 with heap := pushCells (s3.heap.push { cls := .type "dict", data := .dict #[] }) scope.names }
  have pg := hg s3 H3 s3.heap.objs.size (cellsFrom (s3.heap.objs.size + 1) scope.names (cloFrom X.env.cells scope.names [])) fp
  have pp := hp D s3 H3 s3.heap.objs.size (cellsFrom (s3.heap.objs.size + 1) scope.names (cloFrom X.env.cells scope.names [])) fp
  generalize hce : compEnvC scope (cellsFrom (s3.heap.objs.size + 1) scope.names (cloFrom X.env.cells scope.names [])) s3.heap.objs.size X.env = ce at I4 pg pp ⊢
  have cL : ce.locals = s3.heap.objs.size := by rw [← hce]; rfl
  generalize hs4 : ({ s3 with heap := pushCells (s3.heap.push { cls := .type "dict", data := .dict #[] }) scope.names } : Shared) = s4 at I4 ⊢
  have st4 : tn 0 s4.heap := by
    rw [← hs4]
    exact T.keep _ _ _ st3 fun b _ o e => pushCells_keeps _ _ _ _ (Heap.get?_push_of_some _ e)
  have pinned : ∀ {σ' : L2.St} {H' : Hp} {s' : Shared}, Inv (X.blk s3 H3 scope ce fp) [] σ' H' s' → (∀ b ∈ fp, H' b = none) → ∀ b ∈ fp, FpOk (X.blk s3 H3 scope ce fp) [] H' b := fun {σ' H' s'} I' hn b hb =>
    ⟨hn b hb, (I'.ok.exf b hb).1, I'.ok.exfs b hb, .inl hb, fun x c e => (I'.ok.exf b hb).2 x c e, fun p hp => absurd (show p ∈ ([] : List (Addr × Obj)) ++ [] from hp) (by simp)⟩
  have loop : codeAny (model X.prog X.w) X.A (.compLoop (.ListComp elt (⟨tg, iter, [], 0⟩ :: rest) scope pos) 0 (.ref it) (.ref D) ce) (compPost (model X.prog X.w) X.A X.xe none (EP X pins σ Q) (.ref D) s3.heap.objs.size) s4 := by
    refine hL _ _ _ _ (fun n s' => ∃ i H', Inv (X.blk s3 H3 scope ce fp) [] (wipe σ (own.map (·.2))) H' s' ∧ tn i s'.heap ∧ (∀ b ∈ fp, H' b = none) ∧ W i n H') ?_ m0 _ ⟨0, H3, I4, st4, fun b hb => (f3 b hb).1.1, w0⟩
    rintro n s5 ⟨i, H5, I5, st5, n5, w5⟩
    rcases turn i n H5 w5 with ⟨stop, qq⟩ | ⟨go, Nx, hNx, step⟩
    · refine thnF (T.done (X.blk s3 H3 scope ce fp) rfl rfl rfl hc i [] s5 _ H5 NoE I5 (pinned I5 n5) st5 stop) fun r s6 ⟨hr, I6⟩ => ?_
      subst hr
      have I7 : Inv X pins σ H5 s6 := I3.call' (ch := fp) I6.os I6.base I6.hok I6.bare fun b hb => ⟨(f3 b hb).1.2.2.2.1, (f3 b hb).1.2.1, (f3 b hb).1.2.2.2.2.1, (f3 b hb).1.2.2.2.2.2⟩
      have free5 : H5 ce.locals = none := I6.free
      obtain ⟨m, hn, _⟩ := I6.loc
      have hn : s6.heap.Ns ce.locals m := hn
      rw [cL] at hn free5
      obtain ⟨f0, f1, _, g3, f4, f5⟩ := I3.fpOk (Nat.le_refl _) free5
      exact ⟨m, hn, fun h'' sb => ⟨.ref D, H5, I7.turned (t' := s6.toks) (fun b o hb e => (sb.2 b hb).trans e) f0 f1 g3 f4 f5, rfl, qq⟩⟩
    · refine thnF (T.item (X.blk s3 H3 scope ce fp) rfl rfl rfl hc i [] s5 _ H5 NoE I5 (pinned I5 n5) st5 go) fun r s6 ⟨u, hr, h6⟩ => ?_
      subst hr
      refine thnF h6 fun _ s7 ⟨x, H7, I7, r7, y7, st7, n7⟩ => ?_
      have I7p := I7.pinned (pinned I7 n7) (T.obj _ _ st7)
      refine thnF (pg.run _ s7 _ H7 x u _ I7p r7 (step x H7 y7)) fun _ s8 ⟨σ8, H8, I8, hw8, q8⟩ => ?_
      refine pp.run _ s8 σ8 H8 Nx _ I8 q8 fun H13 s13 I13 nx => ?_
      obtain ⟨m', hm, w'⟩ := hNx H13 nx
      have pin' : ∀ b ∈ fp, ∀ o, s7.heap.get? b = some o → s13.heap.get? b = some o ∧ H13 b = none := fun b hb o e =>
        let z := I13.pin (b, o) (List.mem_append_right _ (List.mem_append_right _ (mem_pinsAt hb e)))
        ⟨z.1, z.2.1⟩
      refine ⟨m', hm, i + 1, H13, (I13.unpinned (pins := [])).weak ?_ (fun j v e => ?_), T.keep _ _ _ st7 fun b hb o e => (pin' b hb o e).1, fun b hb => ?_, w'⟩
      · have z := congrArg List.length hw8
        rw [wipe_length, wipe_length] at z
        rw [wipe_length, wipe_length]
        exact z.symm
      · rw [← hw8] at e
        obtain ⟨e1, e2⟩ := wipe_some e
        rw [wipe_out fun z => e2 (hv j z)]
        exact e1
      · obtain ⟨o, e, _⟩ := T.obj _ _ st7 b hb
        exact (pin' b hb o e).2
  exact codeAny_compStart_list loop (T.self X.A 0 _ _ _ st4 loop)
/-- three clauses -/
theorem pe_sc3 {elt t0 i0 t1 i1 t2 i2 : Expr} {scope : Scope} {own : List (Str × Nat)} {v1 v2 : List Nat} {pos : Pos} {w0 w1 w2 : TI} {g0 g1 g2 : TG} {te : TE} (hc : X.calm = true) (hN : X.N.Nodup) (ok : BlkOk X.N X.env.scope scope own) (hv1 : ∀ i ∈ v1, i ∈ own.map (·.2)) (hv2 : ∀ i ∈ v2, i ∈ v1)
    (hi0 : PI X t0 i0 w0) (hg0 : InBlk X scope fun Y => PG Y t0 g0) (hi1 : InBlk X scope fun Y => PI Y t1 i1 w1) (hg1 : InBlk X scope fun Y => PG Y t1 g1) (hi2 : InBlk X scope fun Y => PI Y t2 i2 w2) (hg2 : InBlk X scope fun Y => PG Y t2 g2) (he : InBlk X scope fun Y => PE Y elt te)
    (hs : ∀ x, foldedSetIterable i0 X.env x = pure x := by intro _; rfl) (hs1 : ∀ env x, foldedSetIterable i1 env x = pure x := by intro _ _; rfl) (hs2 : ∀ env x, foldedSetIterable i2 env x = pure x := by intro _ _; rfl) :
    PE X (sc3 elt t0 i0 t1 i1 t2 i2 scope pos) (tScN X.prog X.w w0 g0 (fun D => tMid w1 g1 (tMid w2 g2 (tAddS X.prog X.w D te) v2) v1) (own.map (·.2))) := by
  refine pe_scN hc hN hi0 ok hv1 hg0 (fun D s H C cl fp => ?_) (sc3_l0 hs1) hs
  refine part_mid rfl hc hv2 (hi1 s H C cl fp) (hg1 s H C cl fp) ?_ (sc3_l1 hs2) sc3_s1
  exact part_mid rfl hc (fun _ h => absurd h List.not_mem_nil) (hi2 s H C cl fp) (hg2 s H C cl fp) (part_addS rfl (he s H C cl fp)) sc3_l2 sc3_s2
theorem pe_lc3 {elt t0 i0 t1 i1 t2 i2 : Expr} {scope : Scope} {own : List (Str × Nat)} {v1 v2 : List Nat} {pos : Pos} {w0 w1 w2 : TI} {g0 g1 g2 : TG} {te : TE} (hc : X.calm = true) (hN : X.N.Nodup) (ok : BlkOk X.N X.env.scope scope own) (hv1 : ∀ i ∈ v1, i ∈ own.map (·.2)) (hv2 : ∀ i ∈ v2, i ∈ v1)
    (hi0 : PI X t0 i0 w0) (hg0 : InBlk X scope fun Y => PG Y t0 g0) (hi1 : InBlk X scope fun Y => PI Y t1 i1 w1) (hg1 : InBlk X scope fun Y => PG Y t1 g1) (hi2 : InBlk X scope fun Y => PI Y t2 i2 w2) (hg2 : InBlk X scope fun Y => PG Y t2 g2) (he : InBlk X scope fun Y => PE Y elt te)
    (hs : ∀ x, foldedSetIterable i0 X.env x = pure x := by intro _; rfl) (hs1 : ∀ env x, foldedSetIterable i1 env x = pure x := by intro _ _; rfl) (hs2 : ∀ env x, foldedSetIterable i2 env x = pure x := by intro _ _; rfl) :
    PE X (lc3 elt t0 i0 t1 i1 t2 i2 scope pos) (tLcN w0 g0 (fun D => tMid w1 g1 (tMid w2 g2 (tAddL D te) v2) v1) (own.map (·.2))) := by
  refine pe_lcN hc hN hi0 ok hv1 hg0 (fun D s H C cl fp => ?_) (lc3_l0 hs1) hs
  refine part_mid rfl hc hv2 (hi1 s H C cl fp) (hg1 s H C cl fp) ?_ (lc3_l1 hs2) lc3_s1
  exact part_mid rfl hc (fun _ h => absurd h List.not_mem_nil) (hi2 s H C cl fp) (hg2 s H C cl fp) (part_addL rfl (he s H C cl fp)) lc3_l2 lc3_s2
end
end L2

set_option Elab.async false
set_option linter.all false
set_option maxRecDepth 100000
set_option maxHeartbeats 1000000
/-! a + b, a * b, -a where a is an instance of an own class that says what they are. -/
namespace L2
open PySem PySem.Spec PyProof.Rows
/-- what the class says of an operator's method -/
structure OwnOp (K : PySem.W.Frag) (C : Addr) (name : Str) (f : Addr) : Prop where
  first : PySem.W.selfFirst K C = true
  has : PySem.W.findIn K (.ref C) name = some (some (.ref f))
  fn : PySem.W.isFn K (.ref f) = true
/-- the same where the right side is a whole number: int's own slots, and no reflected method of the class's -/
structure OwnOpI (K : PySem.W.Frag) (C : Addr) (name : String) (f : Addr) : Prop where
  one : OwnOp K C (PySem.dunder name) f
  refl : ∃ rc, PySem.W.findIn K (.ref C) (dunderR name) = some rc ∧ (rc = none ∨ ∃ g : Addr, rc = some (.ref g))
  i1 : ∃ fo, PySem.W.findIn K (.type "int") (PySem.dunder name) = some fo
  i2 : ∃ ro, PySem.W.findIn K (.type "int") (dunderR name) = some ro
  sub : PySem.W.subIn K (.type "int") (.ref C) = some false
section
variable {X : Cx} {op : Operator} {C f : Addr} {fd : FuncData} {ps : List Str} {sp : Sp} {k : Nat}
theorem inst_of {pins : List (Addr × Obj)} {σ : St} {H : Hp} {s : Shared} {p dx : Addr} {fs : List (Str × V)} (I : Inv X pins σ H s) (e : H p = some (.ins C dx fs)) : ∃ ox od, PySem.W.InstAt s.heap p ox C od := by
  obtain ⟨mA, O, _⟩ := ins_get I.hok e
  obtain ⟨od, J, _⟩ := O.look
  exact ⟨_, _, J⟩
end
end L2

set_option Elab.async false
set_option linter.all false
set_option maxRecDepth 100000
set_option maxHeartbeats 1000000
/-! rows without forms: what is said of heaps, tests, powers -/
namespace L2
open PySem PySem.Spec PyProof.Rows
theorem iteD {p : Prop} [Decidable p] {A B : Prop} (h1 : p → A) (h2 : ¬ p → B) : if decide p = true then A else B := by
  by_cases h : p
  · rw [if_pos (decide_eq_true h)]; exact h1 h
  · rw [if_neg (by simpa using h)]; exact h2 h
theorem ifT {b : Bool} {A B : Prop} (h : b = true) (x : A) : if b = true then A else B := by rw [if_pos h]; exact x
theorem ifF {b : Bool} {A B : Prop} (h : b = false) (x : B) : if b = true then A else B := by rw [if_neg (by rw [h]; exact Bool.false_ne_true)]; exact x
/-- all but D as it was -/
def SameB (D : Addr) (H H' : Hp) : Prop := ∀ b o, b ≠ D → H b = some o → H' b = some o
theorem SameB.refl (D : Addr) (H : Hp) : SameB D H H := fun _ _ _ h => h
theorem SameB.to {D : Addr} {H H1 H2 : Hp} (S : SameB D H H1) (T : Same H1 H2) : SameB D H H2 := fun b o n h => T b o (S b o n h)
theorem SameB.trans {D : Addr} {H H1 H2 : Hp} (S : SameB D H H1) (T : SameB D H1 H2) : SameB D H H2 := fun b o n h => T b o n (S b o n h)
theorem SameB.upd {D : Addr} {H H1 : Hp} {o : HO} (S : SameB D H H1) : SameB D H (L2.upd H1 D o) := fun b u n h => by rw [upd_ne n]; exact S b u n h
theorem SqL.same {K : PySem.W.Frag} {H H' : Hp} {a : Addr} {xs : List V} (h : SqL K H a xs) (S : Same H H') : SqL K H' a xs := by
  rcases h with (h | ⟨o, h⟩) | h
  · exact .inl (.inl (S _ _ h))
  · exact .inl (.inr ⟨o, S _ _ h⟩)
  · exact .inr h
theorem seq_asg {te : TE} {i : Nat} {u : TS} {D : Ends} {σ : St} {H : Hp} (h : te σ H fun x H1 => u D (σ.set i (some x)) H1) : tSeq (tAsg te (gName i)) u D σ H := h
theorem ts_mid {t u : TS} {D : Ends} {σ : St} {H : Hp} (G : St → Hp → Prop) (h : ∀ N : St → Hp → Prop, (∀ σ' H', G σ' H' → N σ' H') → t { D with nx := N } σ H) (k : ∀ σ' H', G σ' H' → u D σ' H') : tSeq t u D σ H := h _ k
theorem cut_ints (ns : List Int) (lo hi : Option Int) : ∃ ms : List Int, cutV (ns.map V.int) lo hi = ms.map V.int :=
  ⟨(ns.drop (HT.sIx (ns.map V.int).length 0 lo)).take (HT.sIx (ns.map V.int).length (ns.map V.int).length hi - HT.sIx (ns.map V.int).length 0 lo), by unfold cutV; rw [← List.map_drop, ← List.map_take]⟩
end L2

set_option Elab.async false
set_option linter.all false
set_option maxRecDepth 100000
set_option maxHeartbeats 1000000
/-! tuples whose object is known to have no dict: made, and called by their methods -/
namespace L2
open PySem PySem.Spec PyProof.Rows
/-- a tuple that this program made: its object bears no dict -/
def TupN (H : Hp) (q : Addr) (xs : List V) : Prop := ∃ o : Obj, H q = some (.frz o (.tup xs)) ∧ o.dict = none
theorem TupN.sq {K : PySem.W.Frag} {H : Hp} {q : Addr} {xs : List V} (h : TupN H q xs) : SqT K H q xs := let ⟨o, h1, _⟩ := h; .inl (.inr ⟨o, h1⟩)
theorem TupN.same {H H' : Hp} {q : Addr} {xs : List V} (h : TupN H q xs) (S : Same H H') : TupN H' q xs := let ⟨o, h1, h2⟩ := h; ⟨o, S _ _ h1, h2⟩
section
variable {X : Cx} {o e : Expr} {es : List Expr} {to : TE} {t : TA} {name : Str} {apos cpos : Pos} {id : String} {r : V → List V → Hp → VK → Prop}
end
end L2

set_option Elab.async false
set_option linter.all false
set_option maxRecDepth 100000
set_option maxHeartbeats 1000000
/-! dicts whose keys are such tuples: found, stored, made -/
namespace L2
open PySem PySem.Spec PyProof.Rows
abbrev KAV := List (List Key × Addr × Value)
def DnR (P : Program) (w : World) (h : Heap) (d : Addr) (xs : KAV) : Prop := xs.length ≤ sizeLine ∧ (d == sysModules) = false ∧ (xs.map (·.1)).Nodup ∧
  ∃ o es ep, h.get? d = some o ∧ o.ExactDict ∧ o.data = .dict es ep ∧ es.toList = xs.map (entryOfKey (tupleKind (mixKind P w)))
theorem DnR.at {P : Program} {w : World} {h h' : Heap} {d : Addr} {xs : KAV} (R : DnR P w h d xs) (k : ∀ o, h.get? d = some o → h'.get? d = some o) : DnR P w h' d xs :=
  let ⟨a, b, c, o, es, ep, e1, e2⟩ := R
  ⟨a, b, c, o, es, ep, k _ e1, e2⟩
/-- the keys stand as tuples without a dict of their own -/
def KeysN (H : Hp) (xs : KAV) : Prop := ∀ x ∈ xs, TupN H x.2.1 (x.1.map kV)
theorem KeysN.same {H H' : Hp} {xs : KAV} (h : KeysN H xs) (S : Same H H') : KeysN H' xs := fun x hx => (h x hx).same S
section
variable {X : Cx} {pins : List (Addr × Obj)} {σ : St} {H : Hp} {s : Shared} {d b : Addr} {xs : KAV} {k : List Key}
end
section
variable {X : Cx}
end
end L2

set_option Elab.async false
set_option linter.all false
set_option maxRecDepth 100000
set_option maxHeartbeats 2000000
/-! for .. in d, d.values(), d.items(): d a dict whose keys are tuples without a dict of their own -/
namespace L2
open PySem PySem.Spec PyProof.Rows
/-- keys, their places, the places of the values -/
abbrev NAV := List (List Key × Addr × Addr)
def toV (x : List Key × Addr × Addr) : List Key × Addr × Value := (x.1, x.2.1, Value.ref x.2.2)
section
variable {X : Cx} {pins : List (Addr × Obj)} {σ : St} {H : Hp} {s : Shared} {d : Addr} {o : Obj} {l : NAV}
end
section
variable {P : Program} {w : World} {K : PySem.W.Frag} {tg : Expr} {d : Addr} {o : Obj} {es : Array DictEntry} {ep : Nat} {l : NAV}
end
section
variable {X : Cx} {tg e : Expr} {td : TE} {apos cpos : Pos}
theorem noDict_raw {s : Shared} {d : Addr} {es : Array DictEntry} {ep : Nat} (x : s.heap.DictRaw d es ep) : ∀ a : Addr, Value.ref d = Value.ref a → ∃ ob, s.heap.get? a = some ob ∧ ob.dict = none := by
  obtain ⟨o, h, c, _⟩ := x
  intro a e
  cases e
  exact ⟨o, h, c.2.1⟩
end
section
variable {P : Program} {w : World} {d : Addr} {o : Obj} {l : NAV}
end
end L2

set_option Elab.async false
set_option linter.all false
set_option maxRecDepth 100000
set_option maxHeartbeats 1000000
/-! such dicts: d[k], d.get(k, x), d[k] = v, {} -/
namespace L2
open PySem PySem.Spec PyProof.Rows
def findN (l : NAV) (k : List Key) : Option (Addr × Addr) := (l.find? fun x => decide (x.1 = k)).map (·.2)
/-- the keys stand -/
def KeysD (H : Hp) (l : NAV) : Prop := ∀ x ∈ l, TupN H x.2.1 (x.1.map kV)
theorem KeysD.same {H H' : Hp} {l : NAV} (h : KeysD H l) (S : Same H H') : KeysD H' l := fun x hx => (h x hx).same S
theorem KeysD.toN {H : Hp} {l : NAV} (h : KeysD H l) : KeysN H (l.map toV) := fun x hx => by
  obtain ⟨y, hy, rfl⟩ := List.mem_map.mp hx
  exact h y hy
section
variable {X : Cx} {o e f : Expr} {apos cpos pos : Pos} {td ty tx : TE}
end
end L2

set_option Elab.async false
set_option linter.all false
set_option maxRecDepth 100000
set_option maxHeartbeats 2000000
/-! {k: v for target in iter if ..} whose keys are tuples; items() of such a dict. -/
namespace L2
open PySem PySem.Spec PyProof.Rows
section
variable {X : Cx} {kx vx tg iter : Expr} {ifs : List Expr} {scope : Scope} {own : List (Str × Nat)} {pos : Pos} {wi : TI} {g : TG} {tt : TT} {tk tv : TE}
/-- a comprehension's block may be read in any state of the block's own context -/
structure BlkRN (X : Cx) (tg kx vx : Expr) (ifs : List Expr) (scope : Scope) (g : TG) (tt : TT) (tk tv : TE) : Prop where
  tg : ∀ (s : Shared) (H : Hp) (C : Addr) (cl : List (Str × Addr)) (fp : List Addr), PG (X.blk s H scope (compEnvC scope cl C X.env) fp) tg g
  ifs : ∀ (s : Shared) (H : Hp) (C : Addr) (cl : List (Str × Addr)) (fp : List Addr), PTs (X.blk s H scope (compEnvC scope cl C X.env) fp) ifs tt
  key : ∀ (s : Shared) (H : Hp) (C : Addr) (cl : List (Str × Addr)) (fp : List Addr), PE (X.blk s H scope (compEnvC scope cl C X.env) fp) kx tk
  val : ∀ (s : Shared) (H : Hp) (C : Addr) (cl : List (Str × Addr)) (fp : List Addr), PE (X.blk s H scope (compEnvC scope cl C X.env) fp) vx tv
end
end L2

set_option Elab.async false
set_option linter.all false
set_option maxRecDepth 100000
set_option maxHeartbeats 1000000
/-! {k: v}, k a tuple without a dict of its own; (a, b) as such a tuple -/
namespace L2
open PySem PySem.Spec PyProof.Rows
section
variable {X : Cx} {k v : Expr} {tk tv : TE} {pos : Pos}
end
end L2

set_option Elab.async false
set_option linter.all false
set_option maxRecDepth 100000
/-! Forms as lists of (letters, coefficient): the mathematics. -/
namespace L2
open PySem PySem.Spec PyProof.Rows
theorem rat_num (q : Rat) : (q.num : Rat) = q * (q.den : Rat) := by
  have h := Rat.num_divInt_den q
  rw [Rat.divInt_eq_div] at h
  have hd : ((q.den : Int) : Rat) ≠ 0 := by
    intro e
    have := Rat.intCast_inj.mp (e.trans (by rfl : (0 : Rat) = ((0 : Int) : Rat)))
    have := q.den_nz
    omega
  rw [Rat.intCast_natCast] at h hd
  grind
/-- a fraction's tuple -/
def frac (x : Rat) : List V := [.int x.num, .int x.den]
/-- q is z over D, z no more than M -/
def Bq (D M : Nat) (q : Rat) : Prop := ∃ z : Int, q * (D : Rat) = (z : Rat) ∧ z.natAbs ≤ M
theorem Bq.den {D M : Nat} {q : Rat} (h : Bq D M q) : q.den ∣ D := by
  obtain ⟨z, e, _⟩ := h
  have h1 : q.num * (D : Int) = z * (q.den : Int) := by
    have e1 : (q.num : Rat) = q * (q.den : Rat) := rat_num q
    have : ((q.num * (D : Int) : Int) : Rat) = ((z * (q.den : Int) : Int) : Rat) := by
      rw [Rat.intCast_mul, Rat.intCast_mul, e1, Rat.intCast_natCast, Rat.intCast_natCast, ← e]
      grind
    exact Rat.intCast_inj.mp this
  have h2 : q.den ∣ q.num.natAbs * D := by
    have h3 : (q.den : Int) ∣ q.num * (D : Int) := ⟨z, by rw [h1, Int.mul_comm]⟩
    have h4 := Int.natAbs_dvd_natAbs.mpr h3
    rwa [Int.natAbs_mul, Int.natAbs_natCast, Int.natAbs_natCast] at h4
  exact Nat.Coprime.dvd_of_dvd_mul_left (Nat.Coprime.symm q.reduced) h2
theorem Bq.mono {D M M' : Nat} {q : Rat} (h : Bq D M q) (hM : M ≤ M') : Bq D M' q := let ⟨z, e, l⟩ := h; ⟨z, e, Nat.le_trans l hM⟩
theorem Bq.add {D M N : Nat} {p q : Rat} (h : Bq D M p) (k : Bq D N q) : Bq D (M + N) (p + q) := by
  obtain ⟨z, e, l⟩ := h
  obtain ⟨y, f, m⟩ := k
  refine ⟨z + y, ?_, ?_⟩
  · rw [Rat.intCast_add, ← e, ← f]; grind
  · have := Int.natAbs_add_le z y; omega
theorem Bq.zero {D : Nat} : Bq D 0 0 := ⟨0, by rw [Rat.zero_mul]; rfl, Nat.le_refl _⟩
theorem Bq.int {n : Int} : Bq 1 n.natAbs (n : Rat) := ⟨n, by grind, Nat.le_refl _⟩
end L2

set_option Elab.async false
set_option linter.all false
set_option maxRecDepth 100000
set_option maxHeartbeats 1000000
/-! A form's dict: keys and fractions. -/
namespace L2
open PySem PySem.Spec PyProof.Rows
abbrev Mon := List Str
abbrev Fm := List (Mon × Rat)
def kS (m : Mon) : List Key := m.map Sum.inr
theorem kS_inj {m n : Mon} (h : kS m = kS n) : m = n := by
  unfold kS at h
  exact (List.map_inj_right (fun a b e => Sum.inr.inj e)).mp h
/-- what holds of tuples in H holds in H' -/
structure Mv (K : PySem.W.Frag) (H H' : Hp) : Prop where
  sq : ∀ a xs, SqT K H a xs → SqT K H' a xs
  tn : ∀ q xs, TupN H q xs → TupN H' q xs
/-- the dict's items are the form's terms -/
def FmKv (K : PySem.W.Frag) (H : Hp) (l : NAV) (fm : Fm) : Prop := Paired (fun e mq => e.1 = kS mq.1 ∧ TupN H e.2.1 (e.1.map kV) ∧ SqT K H e.2.2 (frac mq.2)) l fm
def valM (fm : Fm) (m : Mon) : Option Rat := (fm.find? fun x => decide (x.1 = m)).map (·.2)
theorem SqT.same {K : PySem.W.Frag} {H H' : Hp} {a : Addr} {xs : List V} (h : SqT K H a xs) (S : Same H H') : SqT K H' a xs := by
  rcases h with (h | ⟨o, h⟩) | h
  · exact .inl (.inl (S _ _ h))
  · exact .inl (.inr ⟨o, S _ _ h⟩)
  · exact .inr h
theorem SqT.off {K : PySem.W.Frag} {H : Hp} {a d : Addr} {xs : List V} {u v : HO} (h : SqT K H a xs) (hd : H d = some u) (n1 : u ≠ .tup xs) (n2 : ∀ o, u ≠ .frz o (.tup xs)) : SqT K (upd H d v) a xs := by
  rcases h with (h | ⟨o, h⟩) | h
  · refine .inl (.inl ?_)
    rw [upd_ne]
    · exact h
    · rintro rfl
      rw [hd] at h
      exact n1 (Option.some.inj h)
  · refine .inl (.inr ⟨o, ?_⟩)
    rw [upd_ne]
    · exact h
    · rintro rfl
      rw [hd] at h
      exact n2 o (Option.some.inj h)
  · exact .inr h
theorem TupN.off {H : Hp} {q d : Addr} {xs : List V} {u v : HO} (h : TupN H q xs) (hd : H d = some u) (n2 : ∀ o, u ≠ .frz o (.tup xs)) : TupN (upd H d v) q xs := by
  obtain ⟨o, h1, h2⟩ := h
  refine ⟨o, ?_, h2⟩
  rw [upd_ne]
  · exact h1
  · rintro rfl
    rw [hd] at h1
    exact n2 o (Option.some.inj h1)
/-- no tuple, locked or not -/
def NoTup (u : HO) : Prop := (∀ xs, u ≠ .tup xs) ∧ ∀ o xs, u ≠ .frz o (.tup xs)
theorem Mv.refl {K : PySem.W.Frag} (H : Hp) : Mv K H H := ⟨fun _ _ h => h, fun _ _ h => h⟩
theorem Mv.trans {K : PySem.W.Frag} {H H' H'' : Hp} (a : Mv K H H') (b : Mv K H' H'') : Mv K H H'' := ⟨fun x y h => b.sq x y (a.sq x y h), fun x y h => b.tn x y (a.tn x y h)⟩
theorem Mv.same {K : PySem.W.Frag} {H H' : Hp} (S : Same H H') : Mv K H H' := ⟨fun _ _ h => h.same S, fun _ _ h => h.same S⟩
theorem Mv.off {K : PySem.W.Frag} {H : Hp} {d : Addr} {u v : HO} (hd : H d = some u) (n : NoTup u) : Mv K H (upd H d v) := ⟨fun _ xs h => h.off hd (n.1 xs) fun o => n.2 o xs, fun _ xs h => h.off hd fun o => n.2 o xs⟩
section
variable {K : PySem.W.Frag} {H H' : Hp} {l : NAV} {fm : Fm}
theorem FmKv.imp (h : FmKv K H l fm) (f : Mv K H H') : FmKv K H' l fm := Paired.mapP h fun _ _ z => ⟨z.1, f.tn _ _ z.2.1, f.sq _ _ z.2.2⟩
theorem FmKv.same (h : FmKv K H l fm) (S : Same H H') : FmKv K H' l fm := h.imp (.same S)
theorem FmKv.length (h : FmKv K H l fm) : l.length = fm.length := Paired.length h
theorem FmKv.keys (h : FmKv K H l fm) : KeysD H l := by
  unfold FmKv at h
  induction h with
  | nil => intro x hx; exact absurd hx List.not_mem_nil
  | cons r t ih =>
    intro x hx
    rcases List.mem_cons.mp hx with rfl | hx
    · exact r.2.1
    · exact ih x hx
theorem findN_hit {x : List Key × Addr × Addr} {r : NAV} {k : List Key} (e : x.1 = k) : findN (x :: r) k = some x.2 := by simp [findN, List.find?_cons, e]
theorem findN_miss {x : List Key × Addr × Addr} {r : NAV} {k : List Key} (e : ¬ x.1 = k) : findN (x :: r) k = findN r k := by simp [findN, List.find?_cons, e]
theorem FmKv.val (h : FmKv K H l fm) (m : Mon) : (findN l (kS m) = none ∧ valM fm m = none) ∨ ∃ b a q, findN l (kS m) = some (b, a) ∧ valM fm m = some q ∧ SqT K H a (frac q) := by
  unfold FmKv at h
  induction h with
  | nil => exact .inl ⟨rfl, rfl⟩
  | @cons p x ps xs r t ih =>
    obtain ⟨e, _, sa⟩ := r
    by_cases c : x.1 = m
    · exact .inr ⟨p.2.1, p.2.2, x.2, findN_hit (by rw [e, c]), by simp [valM, List.find?_cons, c], sa⟩
    · rw [findN_miss fun z => c (kS_inj (e.symm.trans z)), show valM (x :: xs) m = valM xs m by simp [valM, List.find?_cons, c]]
      exact ih
theorem FmKv.any (h : FmKv K H l fm) (m : Mon) : (findN l (kS m)).isSome = (fm.any fun x => decide (x.1 = m)) := by
  unfold FmKv at h
  induction h with
  | nil => rfl
  | @cons p x ps xs r t ih =>
    rw [List.any_cons]
    by_cases c : x.1 = m
    · rw [findN_hit (by rw [r.1, c]), decide_eq_true c]
      rfl
    · rw [findN_miss fun z => c (kS_inj (r.1.symm.trans z)), ih, decide_eq_false c, Bool.false_or]
theorem FmKv.get (h : FmKv K H l fm) {i : Nat} {e : List Key × Addr × Addr} (g : l[i]? = some e) : ∃ m q b a, fm[i]? = some (m, q) ∧ e = (kS m, b, a) ∧ TupN H b ((kS m).map kV) ∧ SqT K H a (frac q) := by
  obtain ⟨b, hb, e1, e2, sa⟩ := paired_get h g
  exact ⟨b.1, b.2, e.2.1, e.2.2, hb, Prod.ext e1 rfl, by rw [← e1]; exact e2, sa⟩
end
theorem same_back {H H' : Hp} {d : Addr} {u z : HO} (hd : H d = some u) (S : Same (upd H d z) H') : Same H (upd H' d u) := by
  intro b o e
  by_cases c : b = d
  · subst c
    rw [upd_same]
    rw [hd] at e
    exact e
  · rw [upd_ne c]
    exact S b o (by rw [upd_ne c]; exact e)
end L2

set_option Elab.async false
set_option linter.all false
set_option maxRecDepth 100000
set_option maxHeartbeats 1000000
/-! lambda x: (len(x), x), called with a tuple of texts -/
namespace L2
open PySem PySem.Spec PySem.Calls PyProof.Rows PySem.W
section
variable {prog : Program} {w : World} {A : Around} {s : Shared}
end
end L2

set_option Elab.async false
set_option linter.all false
set_option maxRecDepth 100000
set_option maxHeartbeats 1000000
/-! lambda row: len(row[2]), called with a tuple whose third item is a list; sorted by it -/
namespace L2
open PySem PySem.Spec PySem.Calls PyProof.Rows PySem.W
abbrev lpPar (p : Pos) : Arguments := { posonlyargs := [], args := [{ arg := "row", annotation := none, pos := p }], vararg := none, kwonlyargs := [], kw_defaults := [], kwarg := none, defaults := [] }
abbrev lpBody (p1 p2 p3 p4 p5 : Pos) : Expr := .Call (.Name "len" p1) [.Subscript (.Name "row" p2) (.Constant (.int 2) 0 p3) p4] [] p5
abbrev lpScope : Scope := { kind := .function, names := [("row", .local), ("len", .globalImplicit)], isGenerator := false, isCoroutine := false, more := [] }
section
variable {prog : Program} {w : World} {A : Around} {s : Shared}
theorem lam_keyP {p p1 p2 p3 p4 p5 : Pos} {f c' t l : Addr} {qual : Str} {pm ctv : Value} {mg mb : Str → Option Value} {its : Array Value} {xs : Array Value}
    (hroom : A.depth < recursionLimit) (hf : s.heap.get? f = some (kla_obj "<lambda>" qual (lpPar p) (lpBody p1 p2 p3 p4 p5) lpScope [] pm c' ctv)) (hcd : s.heap.CodeRec (.ref c') qual) (hnl : s.heap.NoLimit)
    (hg : s.heap.Ns mainGlobals mg) (hlen : mg "len" = none) (hb : s.heap.Ns builtinsNs mb) (hmb : mb "len" = some (.builtin "len")) (ht : IsTup s.heap t its) (hx : its[2]? = some (.ref l)) (hsz : its.size = 3) (hl : s.heap.IsList l xs) (small : xs.size ≤ sizeLine) :
    wpAny (model prog w) A (call (.ref f) [.ref t]) (KeyPure (.int (xs.size : Int)) s) (fun _ _ => False) s := by
  refine wpAny_call (kla_callFunE hroom hf rfl rfl rfl rfl hcd ?_)
  rw [show bindArgs (kla_fn "<lambda>" qual (lpPar p) (lpBody p1 p2 p3 p4 p5) lpScope [] pm (.ref c') ctv) ⟨[Value.ref t], []⟩ = pure [(("row" : Str), Value.ref t)] from rfl]
  refine wpAny_pure (wpAny_newFunctionEnv (fun y hy => ?_) (fun y hy => ?_) (fun h₁ hns hsb => ⟨hnl.fresh _ hsb, ?_⟩) rfl)
  · intro z
    simp only [List.mem_cons, List.not_mem_nil, or_false] at hy
    rcases hy with rfl | rfl <;> cases z
  · rw [List.mem_singleton.mp hy]
    rfl
  have kp : ∀ b o, s.heap.get? b = some o → h₁.get? b = some o := fun b o e => (hsb.2 b (Nat.ne_of_lt (Heap.lt_size e))).trans (Heap.get?_push_of_some _ e)
  refine kla_codeExpr ?_
  generalize henv : newEnv (kla_fn "<lambda>" qual (lpPar p) (lpBody p1 p2 p3 p4 p5) lpScope [] pm (.ref c') ctv).scope s.heap.objs.size _ _ _ _ _ _ _ = env
  have name : ∀ {A' : Around} {pos : Pos} {s1 : Shared} {Q : Value → Shared → Prop} {E : Value → Shared → Prop}, s1.heap = h₁ → Q (.ref t) s1 → wpAny (model prog w) A' (eval (.Name "row" pos) env) Q E s1 := fun e q =>
    wpAny_Name (wpAny_loadName_local (by rw [← henv]; rfl) (by rw [← henv]; rfl) (by rw [e, ← henv]; exact hns) (by rfl) q) (by decide)
  have sl : xs.size < 2 ^ 63 := Nat.lt_of_le_of_lt small (by rw [sizeLine_eq]; decide)
  refine wpAny_Call_Name_kw (Name_function_global (by rw [← henv]; rfl) (by rw [← henv]; rfl) (loadGlobal_builtin (mg := mg) (mb := mb) (by rw [← henv]; exact hg.keeps kp) hlen (by rw [← henv]; exact hb.keeps kp) hmb ?_))
  refine callWith_builtin1 (wpAny_Subscript_Constant_late (name rfl (fun _ _ _ => ?_)))
  refine ⟨"tuple", _, slot_tuple_getitem.lookup, ?_, ?_⟩
  · obtain ⟨o, ho, hc, _⟩ := ht
    exact ⟨o, kp _ _ ho, hc⟩
  refine getItem_tuple (j := 2) (items := its) (let ⟨o, ho, r⟩ := ht; ⟨o, kp _ _ ho, r⟩) (by decide) (by decide) (by rw [hsz]; rfl) hx ?_
  refine Calls.call_len_list (items := xs) (let ⟨o, ho, r⟩ := hl; ⟨o, kp _ _ ho, r⟩) (by omega) ?_
  exact ⟨_, _, rfl, kp, .int _ _⟩
end
end L2

set_option Elab.async false
set_option linter.all false
set_option maxRecDepth 100000
set_option maxHeartbeats 1000000
/-! sorted(xs, key=lambda row: len(row[2])), xs a list of tuples of three -/
namespace L2
open PySem PySem.Spec PySem.Calls PyProof.Rows
open PySem.W (dataLe AllAlike Sortable EachIs)
open LamX (Tabs ExtN TabB CodeO)
def NewT (H : Hp) (p : Addr) : Prop := ∀ o, H p = some o → ∃ ps, o = .tbl ps
theorem SqL.extN {K : PySem.W.Frag} {H H' : Hp} {a : Addr} {xs : List V} (h : SqL K H a xs) (S : ExtN H H') : SqL K H' a xs := by
  rcases h with (h | ⟨o, h⟩) | h
  · exact .inl (.inl (S _ _ h fun _ z => nomatch z))
  · exact .inl (.inr ⟨o, S _ _ h fun _ z => nomatch z⟩)
  · exact .inr h
theorem SqT.extN {K : PySem.W.Frag} {H H' : Hp} {a : Addr} {xs : List V} (h : SqT K H a xs) (S : ExtN H H') : SqT K H' a xs := by
  rcases h with (h | ⟨o, h⟩) | h
  · exact .inl (.inl (S _ _ h fun _ z => nomatch z))
  · exact .inl (.inr ⟨o, S _ _ h fun _ z => nomatch z⟩)
  · exact .inr h
section
variable {β : Type} (ad : β → Addr) (ln : β → Nat)
/-- in the order of the lengths, those of one length in the order they had -/
def sortB (xs : List β) : List β := xs.mergeSort (dataLe false fun x => .int (ln x : Int))
end
section
variable {β : Type} {ad : β → Addr} {ln : β → Nat}
theorem each_of_vals {ams : List β} {its : List Value} (r : Vals (ams.map fun x => V.ref (ad x)) its) : EachIs (fun (v : Value) (x : β) => v = Value.ref (ad x)) its ams := by
  induction ams generalizing its with
  | nil => cases r; exact .nil
  | cons x xs ih =>
    cases r with
    | cons h t => exact .cons h (ih t)
theorem vals_of_each {ams : List β} {out : List Value} (e : EachIs (fun (v : Value) (x : β) => v = Value.ref (ad x)) out ams) : Vals (ams.map fun x => V.ref (ad x)) out := by
  induction e with
  | nil => exact .nil
  | cons h t ih => exact .cons h ih
end
def tSortP {β : Type} (ad : β → Addr) (ln : β → Nat) (T : List (Addr × Str)) (K : PySem.W.Frag) (te : TE) : TE := fun σ H Q => te σ H fun v H1 => ∃ (l : Addr) (ams : List β), v = .ref l ∧ SqL K H1 l (ams.map fun x => V.ref (ad x)) ∧ (∀ x ∈ ams, ∃ (a b : V) (c : Addr) (zs : List V), SqT K H1 (ad x) [a, b, .ref c] ∧ SqL K H1 c zs ∧ zs.length = ln x) ∧ ams.length ≤ sizeLine ∧ Tabs T H1 ∧
  ∀ (H2 : Hp) (p : Addr), ExtN H1 H2 → Tabs T H2 → NewT H1 p → H2 p = some (.lst ((sortB ln ams).map fun x => V.ref (ad x))) → Q (.ref p) H2
section
variable {X : Cx} {e : Expr} {te : TE} {T : List (Addr × Str)} {c P : Addr} {p p1 p2 p3 p4 p5 p6 q kpos pos : Pos} {β : Type} {ad : β → Addr} {ln : β → Nat}
theorem pe_sortedP (hr : Room 0 X.A) (hg : Gl X "sorted") (hm : X.mg "sorted" = none) (hlen : X.mg "len" = none) (TB : TabB X.base X.mg c P) (hcode : X.env.code = .ref c) (hmT : (P, X.env.qual ++ "<lambda>") ∈ T) (hu : ∀ p ∈ T, p.1 = P → p.2 = X.env.qual ++ "<lambda>") (he : PE X e te)
    (hes : backTo pos (starEach [e] X.env) = (false, eval e X.env) :: backTo pos (starEach [] X.env) := by rfl) (hpl : (backTo pos (starEach [e] X.env)).any (·.1) = false := by rfl) :
    PE X (.Call (.Name "sorted" q) [e] [⟨some "key", .Lambda (lpPar p) (lpBody p1 p2 p3 p4 p5) lpScope p6, kpos⟩] pos) (tSortP ad ln T X.K te) := by
  refine ⟨fun pins s σ H Q I h => ?_⟩
  refine wpAny_Call_Name_kw (ld_blt (u := .builtin "sorted") I hg hm (by decide +kernel) ?_)
  refine callWith_kw ?_ hes hpl rfl rfl
  rw [hes]
  refine spliced_cons (thn (he.run pins s σ H _ I h) fun u s1 ⟨v, H1, I1, rv, l, ams, ev, hl, ht, hz, tb, q⟩ => spliced_nil ?_)
  subst ev
  obtain rfl : u = Value.ref l := rv
  show wpAny _ _ (evalAll [do let v ← eval (.Lambda (lpPar p) (lpBody p1 p2 p3 p4 p5) lpScope p6) X.env; standAt pos; pure v]) _ _ s1
  refine wpAny_evalAll_cons (wpAny_bind (LamX.lam_make2 I1 TB hcode hmT hu tb rfl (fun y hy z => ?_) fun f c' pm ctv H2 s2 I2 ex tb2 hf nf _ hc => wpAny_bind (wpAny_standAt (wpAny_pure (wpAny_evalAll_nil ?_)))))
  · simp only [List.mem_cons, List.not_mem_nil, or_false] at hy
    rcases hy with rfl | rfl <;> cases z
  show wpAny _ _ (call (.builtin "sorted") [.ref l] [(Str.ofString "key", .ref f)]) _ _ s2
  obtain ⟨its, rl, pl, hz2⟩ := I2.list (hl.extN ex)
  have lits := rl.length
  rw [List.length_map] at lits
  obtain ⟨⟨oc, vs, tq, hoc, hd, hv⟩, _, _⟩ := I2.hok c' _ hc
  obtain ⟨mb, hb1, hb2⟩ := I2.mod.blt
  refine PySem.W.sorted_key_data (b := false) (fun x : β => PyData.int (ln x : Int)) pl.isList (each_of_vals rl) (fun d hd d' hd' => ?_) (.inr fun d hd => ?_) hz (fun x _ => ?_) (PyProof.Rows.ksk_s1 _ _) (fun x => PyProof.Rows.ksk_l1 _ _) (fun x => PyProof.Rows.ksk_t1 _ _) (fun v x hR hx h tk kp => ?_) fun out cc h' tk kp n0 hp lo eo => ?_
  · obtain ⟨x, _, rfl⟩ := List.mem_map.mp hd
    obtain ⟨y, _, rfl⟩ := List.mem_map.mp hd'
    rfl
  · obtain ⟨x, _, rfl⟩ := List.mem_map.mp hd
    exact ⟨nofun, fun _ => nofun⟩
  · have := hr.un
    show X.A.units + 2 + PyData.depth (.int _) < cLine
    simp [PyData.depth]
    omega
  · subst hR
    obtain ⟨a1, b1, c1, zs, hx1, hx2, hx3⟩ := ht x hx
    have I3 : Inv X pins σ H2 { s2 with heap := h, toks := tk } := I2.kept kp
    obtain ⟨its2, rv2, tp, hz3⟩ := I3.tuple (hx1.extN ex)
    obtain ⟨its3, rv3, lp, hz4⟩ := I3.list (hx2.extN ex)
    have l2 := rv2.length
    have l3 := rv3.length
    have i2 : its2.toArray[2]? = some (.ref c1) := by
      cases rv2 with
      | cons _ r => cases r with
        | cons _ r => cases r with
          | cons h r => cases h; rfl
    have e4 : (ln x : Int) = (its3.toArray.size : Int) := by rw [List.size_toArray, ← l3, hx3]
    rw [e4]
    exact lam_keyP (s := { s2 with heap := h, toks := tk }) hr.depth (kp _ _ hf) ⟨c', oc, vs, tq, rfl, kp _ _ hoc, hd, hv⟩ I3.nolimit (I3.mod.glob.keeps I3.bk) hlen (hb1.keeps I3.bk) ((hb2 _ (by decide)).trans (by decide +kernel)) (let ⟨o, ho, hc, n, hd⟩ := tp; ⟨o, ho, hc, n, hd⟩) i2 (by rw [List.size_toArray, ← l2]; rfl) lp.isList (by rw [List.size_toArray, ← l3]; exact hz4)
  · have lo2 : (sortB ln ams).length ≤ sizeLine := by unfold sortB; rw [List.length_mergeSort]; exact hz
    refine ⟨.ref (s2.heap.objs.size + 1), _, I2.laid (t' := tk) (o := .lst ((sortB ln ams).map fun x => V.ref (ad x))) kp (Nat.le_succ _) ⟨by rw [List.length_map]; exact lo2, _, cc, vals_of_each eo, hp⟩, rfl, ?_⟩
    have np : H2 (s2.heap.objs.size + 1) = none := I2.hok.fresh (Nat.le_succ _)
    have up : ExtN H2 (upd H2 (s2.heap.objs.size + 1) (.lst ((sortB ln ams).map fun x => V.ref (ad x)))) := ExtN.of fun b o e => by rw [upd_ne (ne_of_none e np)]; exact e
    refine q _ _ (ex.trans up) (tb2.ext fun b o e => by rw [upd_ne (ne_of_none e np)]; exact e) ?_ upd_same
    intro o e1
    apply Classical.byContradiction
    intro no
    have z := ex _ _ e1 fun ps e2 => no ⟨ps, e2⟩
    rw [np] at z
    cases z
end
end L2

set_option Elab.async false
set_option linter.all false
set_option maxRecDepth 100000
set_option maxHeartbeats 1000000
/-! {names: .. for .. in a form's dict} -/
namespace L2
open PySem PySem.Spec PyProof.Rows
theorem take_snoc {α : Type} {l : List α} {i : Nat} {x : α} (h : l[i]? = some x) : l.take (i + 1) = l.take i ++ [x] := by
  rw [List.take_succ, h]
  rfl
end L2

set_option Elab.async false
set_option linter.all false
set_option maxRecDepth 100000
set_option maxHeartbeats 2000000
/-! sorted of a set of texts; a set of texts from a form's terms -/
namespace L2
open PySem PySem.Spec PyProof.Rows
def rSortedSS (P : Program) (w : World) : List V → Hp → VK → Prop := fun vs H Q => ∃ (a : Addr) (ks : List Str), vs = [V.ref a] ∧ H a = some (SetSO P w a ks) ∧ ∀ ys : List Str, ys.Perm ks → ks.Nodup → sortedS ys = true → NewQ H (.lst (ys.map V.str)) Q
theorem cr_sortedSS {X : Cx} (hc : X.calm = true) : CallR X (.builtin "sorted") (rSortedSS X.prog X.w) := by
  intro pins s σ H vs us Q I r h
  obtain ⟨a, ks, rfl, ha, q⟩ := h
  have R := setSO_get I ha
  rw [Vals.ref1 r]
  refine setS_sorted R (I.ok.hd hc) fun s' p out c ys kp gn os pn ho ss pm so => ?_
  obtain ⟨_, es, _, _, _, _, _, _, pm0, nd, hb, _⟩ := R
  have lk : ks.length = es.size := by rw [← pm0.length_eq, List.length_map, Array.length_toList]
  have hlen : (ys.map V.str).length ≤ sizeLine := by
    rw [List.length_map, pm.length_eq, lk]
    exact fits_of_scanBound hb
  have I2 : Inv X pins σ (upd H p (.lst (ys.map V.str))) { s with heap := s'.heap, toks := s.toks } := I.laid (t' := s.toks) kp pn ⟨hlen, _, c, vals_of_strs ss, ho⟩
  have I3 : Inv X pins σ (upd H p (.lst (ys.map V.str))) s' := I2.call' (ch := []) os (Un.kept fun _ _ e => e) (I2.hok.kept fun _ _ e => e) (by rw [gn]; exact I2.bare) (fun _ z => nomatch z)
  exact ⟨.ref p, _, I3, rfl, (q ys pm nd so).at (I.hok.fresh pn)⟩
theorem len_putS (ks : List Str) (z : Str) : (putS ks z).length ≤ ks.length + 1 := by
  unfold putS
  split
  · exact Nat.le_succ _
  · exact Nat.le_refl _
/-- these texts, laid one by one -/
def putAll (ks xs : List Str) : List Str := xs.foldl putS ks
theorem len_putAll : ∀ (xs ks : List Str), (putAll ks xs).length ≤ ks.length + xs.length
  | [], ks => Nat.le_refl _
  | z :: xs, ks => by
    have h1 := len_putAll xs (putS ks z)
    have h2 := len_putS ks z
    show (putAll (putS ks z) xs).length ≤ _
    rw [List.length_cons]
    omega
theorem putAllS_snoc (ks xs : List Str) (z : Str) : putS (putAll ks xs) z = putAll ks (xs ++ [z]) := by unfold putAll; rw [List.foldl_append]; rfl
theorem putAll_nodup {xs : List Str} : ∀ {ks : List Str}, xs.Nodup → (∀ x ∈ xs, x ∉ ks) → (putAll ks xs).length = ks.length + xs.length := by
  induction xs with
  | nil => intro ks _ _; rfl
  | cons z xs ih =>
    intro ks nd h
    have hz := h z List.mem_cons_self
    obtain ⟨n1, n2⟩ := List.nodup_cons.mp nd
    have e : putS ks z = z :: ks := by unfold putS; rw [if_neg hz]
    show (putAll (putS ks z) xs).length = _
    rw [e, ih n2 fun x hx => ?_]
    · rw [List.length_cons, List.length_cons]; omega
    · intro q
      rcases List.mem_cons.mp q with rfl | q
      · exact n1 hx
      · exact h x (List.mem_cons_of_mem _ hx) q
/-- len of a set of texts -/
theorem cr_lenSS {X : Cx} : CallR X (.builtin "len") (fun vs H Q => ∃ (a : Addr) (ks : List Str), vs = [V.ref a] ∧ H a = some (SetSO X.prog X.w a ks) ∧ Q (.int (ks.length : Nat)) H) := by
  intro pins s σ H vs us Q I r h
  obtain ⟨a, ks, rfl, ha, q⟩ := h
  obtain ⟨o, es, ep, t, ho, hex, hd, _, pm, _, hb, hf, _⟩ := setSO_get I ha
  rw [Vals.ref1 r]
  have lk : es.size = ks.length := by rw [← pm.length_eq, List.length_map, Array.length_toList]
  have hb' := fits_of_scanBound hb
  have := line63
  refine call_len_set ho hex hd hf (by omega) ⟨.int ks.length, H, I.tok _, ⟨_, by rw [lk]⟩, q⟩
end L2

set_option Elab.async false
set_option linter.all false
set_option maxRecDepth 100000
/-! set(xs), xs a list of texts -/
namespace L2
open PySem PySem.Spec PyProof.Rows
abbrev nSetT (w : World) : Obj := { cls := .type "set", dict := none, data := .set #[] 0 (.fresh 0 0 (!w.params.followText "set-order")) }
section
variable {P : Program} {w : World} {A : Around} {E : Value → Shared → Prop} {s : Shared} {l : Addr} {items : Array Value} {xs : List Str}
theorem setS_new_at {h : Heap} {a : Addr} (ho : h.get? a = some (nSetT w)) : SetS P w h a [] := by
  refine ⟨_, #[], 0, _, ho, ⟨rfl, rfl, rfl⟩, rfl, fun e he => absurd he (by simp), .nil, List.nodup_nil, by decide, rfl, List.Pairwise.nil, ?_⟩
  cases c : w.params.followText "set-order" with
  | true => exact .inl rfl
  | false => exact .inr rfl
theorem set_update_strs {I : Addr} {fp wr : List Addr} {G : Array GenState → Array GenState → Prop} {n : Nat} {Pv : Nat → Value → Prop} {St : Nat → Shared → Prop} {R : Result → Shared → Prop}
    (W : WalksS P w A.in1 I fp wr G n Pv St) (S : Addr) (hSf : S ∉ fp) (xs : List Str) (hn : n = xs.length) (hb : ∀ i, (putAll [] (xs.take i)).length + 1 < scanBound) (hval : ∀ i v, Pv i v → ∃ z t, xs[i]? = some z ∧ v = .str z t) :
    ∀ (k i : Nat) (s : Shared), n - i = k → i ≤ n → St i s → SetS P w s.heap S (putAll [] (xs.take i)) →
      (∀ s', Moved (S :: wr) G s s' → SetS P w s'.heap S (putAll [] xs) → R (.ok (.ret .none)) s') →
      codeAny (model P w) A (.builtin "set.update.loop" ⟨[.ref S, .ref I], []⟩) R s := by
  have hSw : S ∉ wr := fun h => hSf (W.sub _ h)
  have hsub : ∀ b ∈ wr, b ∈ S :: wr := fun b hb => List.mem_cons_of_mem _ hb
  intro k
  induction k with
  | zero =>
    intro i s hk' hi hst hS hR
    have hin : i = n := by omega
    subst hin
    refine codeAny_builtin F.entry_set_update_loop ?_
    rw [Around.under_plainId F.plain_set_update_loop _]
    show wpAny _ A.in1 (pyNext (.ref I) >>= _) _ _ s
    refine wpAny_bind (W.done s _ _ hst fun s' hm => ?_)
    show wpAny _ A.in1 (ret Value.none) _ _ s'
    have e : xs.take i = xs := List.take_of_length_le (by omega)
    rw [e] at hS
    exact wpAny_pure (hR s' (hm.mono hsub) (hS.at fun o e => hm.heap S o hSw e))
  | succ k ih =>
    intro i s hk' hi hst hS hR
    have hlt : i < n := by omega
    refine codeAny_builtin F.entry_set_update_loop ?_
    rw [Around.under_plainId F.plain_set_update_loop _]
    show wpAny _ A.in1 (pyNext (.ref I) >>= _) _ _ s
    refine wpAny_bind (W.item i s _ _ hlt hst fun v s' hP hst' hm => ?_)
    obtain ⟨z, t, hz, rfl⟩ := hval i v hP
    have hS' : SetS P w s'.heap S (putAll [] (xs.take i)) := hS.at fun o e => hm.heap S o hSw e
    have room := hb i
    show wpAny _ A.in1 (holding [Value.str z t] (setAdd S (.str z t)) >>= _) _ _ s'
    refine wpAny_bind (wpAny_holding ?_)
    unfold setAdd
    refine wpAny_holding ?_
    refine wpAny_bind ((PySem.strKind P w).pyHash (strKind_is P w z t) ?_)
    refine setS_hashed (s := { s' with toks := s'.toks + 1 }) hS' room fun _ h' hsb hS2 => ?_
    have hS3 : SetS P w h' S (putAll [] (xs.take (i + 1))) := by
      rw [take_snoc hz, ← putAllS_snoc]
      exact hS2
    refine wpAny_pure ⟨plainId_quiet F.plain_set_update_loop _, ih (i + 1) _ (by omega) hlt (W.frame _ s' _ _ hst' (Nat.le_succ _) fun b hb o e => ?_) hS3 fun s'' hm'' hS'' => ?_⟩
    · rw [hsb.2 b (fun h : b = S => hSf (by rw [← h]; exact hb))]; exact e
    · refine hR s'' (Moved.trans W.gtrans ((hm.mono hsub).then_heap (Nat.le_succ _) fun b o hb e => ?_) hm'') hS''
      rw [hsb.2 b (fun h : b = S => hb (by rw [h]; exact List.mem_cons_self))]; exact e
abbrev SetTDone (P : Program) (w : World) (s : Shared) (xs : List Str) (s₂ : Shared) : Prop := ∃ h' tk, s₂ = { s with heap := h', toks := tk } ∧ SetS P w h' s.heap.objs.size (putAll [] xs) ∧ ∀ b o, s.heap.get? b = some o → h'.get? b = some o
theorem strsV_at (hit : StrsAre items.toList xs) (i : Nat) (v : Value) (hv : items[i]? = some v) : ∃ z t, xs[i]? = some z ∧ v = .str z t := by
  have e : items.toList[i]? = some v := by rw [Array.getElem?_toList]; exact hv
  generalize items.toList = us at hit e
  clear hv
  induction hit generalizing i with
  | nil => cases e
  | cons n t r ih =>
    cases i with
    | zero => cases e; exact ⟨_, _, rfl, rfl⟩
    | succ i => exact ih i e
theorem strs_len {us : List Value} {xs : List Str} (h : StrsAre us xs) : us.length = xs.length := by
  induction h with
  | nil => rfl
  | cons n t r ih => simp [ih]
set_option maxHeartbeats 3200000 in
theorem set_init_strs (hh : A.handled = none) (hl : s.heap.IsList l items) (hit : StrsAre items.toList xs) (hb : ∀ i, (putAll [] (xs.take i)).length + 1 < scanBound) (T : Shared.TypeIs { s with heap := s.heap.push (nSetT w) } (.ref s.heap.objs.size) "set") {R : Result → Shared → Prop} (hR : ∀ s₂, SetTDone P w s xs s₂ → R (.ok (.ret .none)) s₂) :
    wpAny (model P w) A.in1 (Builtin.«set.__init__» ⟨[.ref s.heap.objs.size, .ref l], []⟩) (fun fin s' => match fin with | .done f => R (.ok f) s' | .again c' => c'.quiet = true ∧ codeAny (model P w) A c' R s') (fun e s' => R (.error e) s') { s with heap := s.heap.push (nSetT w) } := by
  have hS : (s.heap.push (nSetT w)).get? s.heap.objs.size = some (nSetT w) := Heap.get?_push_size _ rfl
  obtain ⟨⟨oc, od, dt, osl⟩, hol, rfl, nl, rfl⟩ := hl
  have h1 : (s.heap.push (nSetT w)).get? l = some { cls := .type "list", dict := od, data := .seq items nl, slots := osl } := Heap.get?_push_of_some _ hol
  have L1 : (s.heap.push (nSetT w)).IsList l items := ⟨_, h1, rfl, nl, rfl⟩
  have lS : l < s.heap.objs.size := Heap.lt_size hol
  have n1 := F.sub_list_set
  have n2 := F.sub_list_frozenset
  have n3 : (Value.type "list" == Value.type "dict") = false := by decide
  have isz : items.size = xs.length := by rw [← Array.length_toList]; exact strs_len hit
  unfold Builtin.«set.__init__» noKeywords Builtin.Frozenset.updateFrom
  generalize hPI : pyIter = PI
  wp_walk
  subst hPI
  refine wpAny_pyIter_list L1 ?_
  refine wpAny_bind (wpAny_runValue ?_)
  have sz : (s.heap.push (nSetT w)).objs.size = s.heap.objs.size + 1 := Heap.size_push ..
  have ne1 : l ≠ (s.heap.push (nSetT w)).objs.size := by rw [sz]; exact Nat.ne_of_lt (Nat.lt_succ_of_lt lS)
  have nf : s.heap.objs.size ∉ [(s.heap.push (nSetT w)).objs.size, l] := by
    rw [sz]
    simp only [List.mem_cons, List.not_mem_nil, or_false, not_or]
    exact ⟨Nat.ne_of_lt (Nat.lt_succ_self _), Nat.ne_of_gt lS⟩
  refine set_update_strs ((Walks.list (by simp [hh]) _ l ne1 items).toS) s.heap.objs.size nf xs isz hb (strsV_at hit) (items.size - 0) 0 _ (by omega) (Nat.zero_le _) ⟨⟨_, Heap.get?_push_size _ rfl, rfl, rfl⟩, L1.push _⟩ (setS_new_at (Heap.get?_push_of_some _ hS)) ?_
  rintro ⟨h', g2, d', tk', os'⟩ hm hS'
  obtain rfl : g2 = s.gens := hm.gens
  obtain rfl : d' = s.drawn := hm.drawn
  obtain rfl : os' = s.os := hm.os
  refine wpAny_pure ?_
  refine wpAny_pure (hR _ ⟨h', tk', rfl, hS', fun b o e => ?_⟩)
  have b0 : b < s.heap.objs.size := Heap.lt_size e
  refine hm.heap b o ?_ (Heap.get?_push_of_some _ (Heap.get?_push_of_some _ e))
  simp only [List.mem_cons, List.not_mem_nil, or_false, not_or]
  exact ⟨Nat.ne_of_lt b0, by rw [sz]; exact Nat.ne_of_lt (Nat.lt_succ_of_lt b0)⟩
set_option maxHeartbeats 3200000 in
theorem call_set_strs {Q : Value → Shared → Prop} (hh : A.handled = none) (hl : s.heap.IsList l items) (hit : StrsAre items.toList xs) (hb : ∀ i, (putAll [] (xs.take i)).length + 1 < scanBound) (h : ∀ s₂, SetTDone P w s xs s₂ → Q (.ref s.heap.objs.size) s₂) : wpAny (model P w) A (call (.type "set") [.ref l]) Q E s := by
  obtain ⟨c, tl, m1⟩ := F.called_set.mro
  have m2 := F.called_set.made
  have m3 := F.called_set.sub
  have m4 := F.called_set.notType
  have m5 := F.called_set.canCreate
  have m6 := F.typeCall_set_1 (.ref l)
  have T : Shared.TypeIs { s with heap := s.heap.push (nSetT w) } (.ref s.heap.objs.size) "set" := ⟨_, Heap.get?_push_size _ rfl, rfl⟩
  have m7 := F.called_set.init.lookup
  have m8 := F.called_set.init.bind (.ref s.heap.objs.size)
  refine wpAny_call (codeAny_of_tree (show wpAny _ _ (callAny (.type "set") _) _ _ _ from wpAny_pure ⟨Code.quiet_builtin _ (by decide +kernel), codeAny_builtin F.entry_type_call ?_⟩))
  rw [Around.under_plain (weight_type_call_type "set" [.ref l] []) rfl]
  repeat (any_goals (first | assumption | wp_step))
  refine codeAny_mono (code_set_led1 (.ref l) (E := E) (Q₁ := fun obj s₁ => obj = .ref s.heap.objs.size ∧ s₁ = { s with heap := s.heap.push (nSetT w) }) ⟨rfl, rfl⟩) fun r s₁ hr => ?_
  match r, hr with
  | .error e, hr => exact hr
  | .ok (.ret obj), ⟨e1, e2⟩ =>
    subst e1 e2
    repeat (any_goals (first | assumption | wp_step))
    refine codeAny_mono (codeAny_call_builtin (R := wants (fun r s₂ => r = .none ∧ SetTDone P w s xs s₂) E) F.called_set.init.plain F.entry_set_init (check_set_init_1 T (set_init_strs (by simp [hh]) hl hit hb T fun s₂ d => ⟨rfl, d⟩))) fun r₂ s₂ hr₂ => ?_
    match r₂, hr₂ with
    | .error e, hr₂ => exact hr₂
    | .ok (.ret r), ⟨e1, d⟩ =>
      subst e1
      repeat (any_goals (first | assumption | wp_step))
      exact h _ d
end
/-- set(xs), texts -/
def rSetLS (K : PySem.W.Frag) (P : Program) (w : World) : List V → Hp → VK → Prop := fun vs H Q => ∃ (a : Addr) (xs : List Str), vs = [V.ref a] ∧ SqL K H a (xs.map V.str) ∧ (∀ i, (putAll [] (xs.take i)).length + 1 < scanBound) ∧ ∀ p, H p = none → Q (.ref p) (upd H p (SetSO P w p (putAll [] xs)))
theorem cr_setLS {X : Cx} (hc : X.calm = true) : CallR X (.type "set") (rSetLS X.K X.prog X.w) := by
  intro pins s σ H vs us Q I r h
  obtain ⟨a, xs, rfl, hs, hz, q⟩ := h
  obtain ⟨its, rv, hl, _⟩ := I.list hs
  rw [Vals.ref1 r]
  refine call_set_strs (P := X.prog) (w := X.w) (I.ok.hd hc) hl.isList (by simpa using rv.strs) hz fun s₂ d => ?_
  obtain ⟨h', tk, rfl, R, k⟩ := d
  exact ⟨.ref s.heap.objs.size, _, I.laid (t' := tk) k (Nat.le_refl _) (setSO_new R), rfl, q _ (I.hok.fresh (Nat.le_refl _))⟩
end L2

set_option Elab.async false
set_option linter.all false
set_option maxRecDepth 100000
set_option maxHeartbeats 1000000
/-! the one sorted list of a list's texts; sums and products of forms as functions -/
namespace L2
open PySem PySem.Spec PyProof.Rows
theorem ltCps_eq : ∀ a b : List Nat, ltCps a b = decide (a < b)
  | [], [] => rfl
  | [], _ :: _ => by rw [decide_eq_true (List.nil_lt_cons _ _)]; rfl
  | _ :: _, [] => by rw [decide_eq_false (List.not_lt_nil _)]; rfl
  | x :: a, y :: b => by
    have ih := ltCps_eq a b
    unfold ltCps
    rw [ih]
    by_cases c : x < y
    · rw [decide_eq_true (List.cons_lt_cons_iff.mpr (.inl c))]
      simp [c]
    · by_cases d : x = y
      · subst d
        have : decide (x :: a < x :: b) = decide (a < b) := by
          by_cases e : a < b
          · rw [decide_eq_true e, decide_eq_true (List.cons_lt_cons_iff.mpr (.inr ⟨rfl, e⟩))]
          · rw [decide_eq_false e, decide_eq_false fun z => (List.cons_lt_cons_iff.mp z).elim (fun h => Nat.lt_irrefl _ h) fun h => e h.2]
        rw [this]
        simp
      · rw [decide_eq_false fun z => (List.cons_lt_cons_iff.mp z).elim c fun h => d h.1]
        simp [c, d]
/-- a ≤ b -/
def leT (a b : Str) : Bool := !ltCps b.cps.toList a.cps.toList
theorem leT_iff {a b : Str} : leT a b = true ↔ a.cps.toList ≤ b.cps.toList := by
  unfold leT
  rw [ltCps_eq]
  simp [List.not_lt]
theorem leT_trans {a b c : Str} (h : leT a b = true) (k : leT b c = true) : leT a c = true := leT_iff.mpr (List.le_trans (leT_iff.mp h) (leT_iff.mp k))
theorem leT_total (a b : Str) : leT a b = true ∨ leT b a = true := by
  rw [leT_iff, leT_iff]
  exact List.le_total _ _
theorem str_ext {a b : Str} (h : a.cps.toList = b.cps.toList) : a = b := by
  cases a
  cases b
  congr 1
  exact Array.toList_inj.mp h
theorem leT_anti {a b : Str} (h : leT a b = true) (k : leT b a = true) : a = b := str_ext (List.le_antisymm (leT_iff.mp h) (leT_iff.mp k))
theorem rising_pw : ∀ (r : List Str) (x : Str), risingS x r = true → List.Pairwise (fun a b => leT a b = true) (x :: r)
  | [], x, _ => List.pairwise_cons.mpr ⟨fun _ h => absurd h List.not_mem_nil, .nil⟩
  | y :: r, x, h => by
    rw [risingS.eq_2, Bool.and_eq_true] at h
    have ih := rising_pw r y h.2
    refine List.pairwise_cons.mpr ⟨fun z hz => ?_, ih⟩
    rcases List.mem_cons.mp hz with rfl | hz
    · exact h.1
    · exact leT_trans h.1 ((List.pairwise_cons.mp ih).1 z hz)
theorem sorted_pw {l : List Str} (h : sortedS l = true) : List.Pairwise (fun a b => leT a b = true) l := by
  cases l with
  | nil => exact .nil
  | cons x r => exact rising_pw r x h
def insT (x : Str) : List Str → List Str
  | [] => [x]
  | y :: r => if leT x y then x :: y :: r else y :: insT x r
def sortT (l : List Str) : List Str := l.foldr insT []
theorem insT_perm (x : Str) : ∀ l, (insT x l).Perm (x :: l)
  | [] => List.Perm.refl _
  | y :: r => by
    unfold insT
    split
    · exact List.Perm.refl _
    · exact ((insT_perm x r).cons y).trans (List.Perm.swap x y r)
theorem sortT_perm : ∀ l, (sortT l).Perm l
  | [] => List.Perm.refl _
  | x :: r => (insT_perm x _).trans ((sortT_perm r).cons x)
theorem insT_pw (x : Str) : ∀ l, List.Pairwise (fun a b => leT a b = true) l → List.Pairwise (fun a b => leT a b = true) (insT x l)
  | [], _ => List.pairwise_cons.mpr ⟨fun _ h => absurd h List.not_mem_nil, .nil⟩
  | y :: r, h => by
    unfold insT
    split
    · rename_i c
      refine List.pairwise_cons.mpr ⟨fun z hz => ?_, h⟩
      rcases List.mem_cons.mp hz with rfl | hz
      · exact c
      · exact leT_trans c ((List.pairwise_cons.mp h).1 z hz)
    · rename_i c
      refine List.pairwise_cons.mpr ⟨fun z hz => ?_, insT_pw x r (List.pairwise_cons.mp h).2⟩
      rcases List.mem_cons.mp ((insT_perm x r).mem_iff.mp hz) with rfl | hz
      · exact (leT_total _ _).resolve_left c
      · exact (List.pairwise_cons.mp h).1 z hz
theorem sortT_pw : ∀ l, List.Pairwise (fun a b => leT a b = true) (sortT l)
  | [] => .nil
  | x :: r => insT_pw x _ (sortT_pw r)
/-- sorted lists of the same texts are the same -/
theorem sortT_one {l ys : List Str} (p : ys.Perm l) (s : sortedS ys = true) : ys = sortT l :=
  List.Perm.eq_of_pairwise (le := fun a b => leT a b = true) (fun _ _ _ _ => leT_anti) (sorted_pw s) (sortT_pw l) (p.trans (sortT_perm l).symm)
end L2

set_option Elab.async false
set_option linter.all false
set_option maxRecDepth 100000
set_option maxHeartbeats 1000000
/-! f(k=v, ..): a def called with keywords alone -/
namespace L2
open PySem PySem.Spec PyProof.Rows
section
variable {X : Cx} {k j : Nat} {x : Str} {sp : Sp} {ks : List Str} {gV : List V → List V → List V} {p pos : Pos} {kws : List Keyword} {tk : TA}
end
end L2

set_option Elab.async false
set_option linter.all false
set_option maxRecDepth 100000
set_option maxHeartbeats 1000000
/-! the row's statements -/
namespace E4
open PySem PySem.Spec PyProof.Rows L2
open C8 (Cal Mak Met InsC pe_c pe_mt pe_mt0 call_isC clsBody)
def top (i : Nat) : Stmt := PySem.Challenge.pw_cellplaces_k87_stores_by_name.main.body.getD i (.Pass ⟨0, 0, 0, 0⟩)
abbrev sIsWhole : Stmt := top 12
abbrev sIsCount : Stmt := top 13
abbrev sIsLetter : Stmt := top 14
abbrev sIsValues : Stmt := top 15
abbrev sCheckValues : Stmt := top 16
abbrev sProductAt : Stmt := top 18
abbrev sPlain : Stmt := top 20
abbrev sOwnOrder : Stmt := top 21
abbrev sCheckTable : Stmt := top 22
abbrev sCheckOwn : Stmt := top 23
abbrev sIsSides : Stmt := top 24
abbrev sIsSide : Stmt := top 25
abbrev sIsProduct : Stmt := top 26
abbrev sNamesOf : Stmt := top 27
abbrev sOrdered : Stmt := top 28
abbrev sMisfit : Stmt := top 29
abbrev sLeftOf : Stmt := top 30
def meth (i : Nat) : Stmt := (clsBody sPlain).getD i (.Pass ⟨0, 0, 0, 0⟩)
abbrev sInit : Stmt := meth 0
abbrev sLen : Stmt := meth 2
abbrev sSides : Stmt := meth 3
abbrev sSizes : Stmt := meth 4
end E4

set_option Elab.async false
set_option linter.all false
set_option maxRecDepth 100000
set_option maxHeartbeats 1000000
/-! is_whole, is_count, is_letter, is_product, is_side -/
namespace E4
open PySem PySem.Spec PyProof.Rows L2
open C8 (Cal Mak Met InsC pe_c pe_mt pe_mt0 call_isC clsBody)
theorem iteP {p : Prop} [Decidable p] {A B : Prop} (hp : p) (h : B) : if (!decide p) = true then A else B := by
  rw [decide_eq_true hp]
  exact h
theorem iteN {p : Prop} [Decidable p] {A B : Prop} (hp : ¬ p) (h : A) : if (!decide p) = true then A else B := by
  rw [decide_eq_false hp]
  exact h
/-- a letter -/
def LetOk (z : Str) : Prop := 1 ≤ z.length ∧ z.length ≤ 10 ∧ ∀ c ∈ z.cps.toList, 97 ≤ c ∧ c ≤ 122
/-- builtin names that the module leaves alone -/
structure Bl (mg : Str → Option Value) : Prop where
  isi : mg "isinstance" = none
  int_ : mg "int" = none
  bool_ : mg "bool" = none
  str_ : mg "str" = none
  len_ : mg "len" = none
  all_ : mg "all" = none
  any_ : mg "any" = none
  lst_ : mg "list" = none
  tup_ : mg "tuple" = none
  dict_ : mg "dict" = none
  set_ : mg "set" = none
  srt_ : mg "sorted" = none
  zip_ : mg "zip" = none
  rev_ : mg "reversed" = none
  dm_ : mg "divmod" = none
/-- a side: its name, its size, its step -/
abbrev Sd := Str × List Str × List Str
def SdOk (x : Sd) : Prop := LetOk x.1 ∧ (∀ z ∈ x.2.1, LetOk z) ∧ (∀ z ∈ x.2.2, LetOk z) ∧ x.2.1.length ≤ 60 ∧ x.2.2.length ≤ 60
def SdAt (H : Hp) (t : Addr) (x : Sd) : Prop := ∃ a b, H t = some (.tup [.str x.1, .ref a, .ref b]) ∧ H a = some (.lst (x.2.1.map V.str)) ∧ H b = some (.lst (x.2.2.map V.str))
theorem SdAt.same {H H' : Hp} {t : Addr} {x : Sd} (h : SdAt H t x) (S : Same H H') : SdAt H' t x := let ⟨a, b, h1, h2, h3⟩ := h; ⟨a, b, S _ _ h1, S _ _ h2, S _ _ h3⟩
def SdsAt (H : Hp) (ts : List Addr) (xs : List Sd) : Prop := Paired (SdAt H) ts xs
theorem SdsAt.imp {H H' : Hp} {ts : List Addr} {xs : List Sd} (h : SdsAt H ts xs) (k : ∀ t ∈ ts, ∀ x, SdAt H t x → SdAt H' t x) : SdsAt H' ts xs := by
  unfold SdsAt at h ⊢
  induction h with
  | nil => exact .nil
  | cons r t ih => exact .cons (k _ List.mem_cons_self _ r) (ih fun z hz => k z (List.mem_cons_of_mem _ hz))
theorem SdsAt.same {H H' : Hp} {ts : List Addr} {xs : List Sd} (h : SdsAt H ts xs) (S : Same H H') : SdsAt H' ts xs := h.imp fun _ _ _ q => q.same S
theorem paired_at {α β : Type} {R : α → β → Prop} {as : List α} {bs : List β} (h : Paired R as bs) {i : Nat} {a : α} (e : as[i]? = some a) : ∃ b, bs[i]? = some b ∧ R a b := by
  induction h generalizing i with
  | nil => cases e
  | cons r t ih =>
    cases i with
    | zero => cases e; exact ⟨_, rfl, r⟩
    | succ i => exact ih e
theorem paired_snoc {α β : Type} {R : α → β → Prop} {as : List α} {bs : List β} {a : α} {b : β} (h : Paired R as bs) (r : R a b) : Paired R (as ++ [a]) (bs ++ [b]) := by
  induction h with
  | nil => exact .cons r .nil
  | cons r' t ih => exact .cons r' ih
def spWhole : Sp := fun vs H Q _ => ∃ i : Int, vs = [.int i] ∧ Q (.bl true) H
def spCount : Sp := fun vs H Q _ => ∃ i : Int, vs = [.int i] ∧ 0 ≤ i ∧ Q (.bl true) H
def spIsLet : Sp := fun vs H Q _ => ∃ z : Str, vs = [.str z] ∧ LetOk z ∧ ∀ H', Same H H' → Q (.bl true) H'
def spProdOk : Sp := fun vs H Q _ => ∃ (a : Addr) (xs : List Str), vs = [.ref a] ∧ H a = some (.lst (xs.map V.str)) ∧ (∀ z ∈ xs, LetOk z) ∧ xs.length ≤ 60 ∧ ∀ H', Same H H' → Q (.bl true) H'
def spSideOk : Sp := fun vs H Q _ => ∃ (t : Addr) (x : Sd), vs = [.ref t, .int 2] ∧ SdAt H t x ∧ SdOk x ∧ ∀ H', Same H H' → Q (.bl true) H'
theorem all_true (n : Nat) : (List.replicate n true).all id = true := by simp
section
variable {P : Program} {w : World} {K : PySem.W.Frag} {mg : Str → Option Value} {base : Heap}
theorem kit_ss : PySem.W.kitOne K (.type "str") (.type "str") = some true := by kernel_rfl
theorem kit_ii : PySem.W.kitOne K (.type "int") (.type "int") = some true := by kernel_rfl
theorem kit_ib : PySem.W.kitOne K (.type "int") (.type "bool") = some false := by kernel_rfl
theorem kit_tt : PySem.W.kitOne K (.type "tuple") (.type "tuple") = some true := by kernel_rfl
theorem kit_ll : PySem.W.kitOne K (.type "list") (.type "list") = some true := by kernel_rfl
theorem kit_dd : PySem.W.kitOne K (.type "dict") (.type "dict") = some true := by kernel_rfl
theorem scWhole : FnScope ["value"] ["value"] (defScope sIsWhole) := ⟨rfl, rfl, rfl, by decide +kernel, rfl, by decide +kernel, by decide +kernel⟩
theorem ok_whole {f : Addr} {fd : FuncData} (F : Fun K "is_whole" "is_whole" sIsWhole f fd) (B : Bl mg) : FnOk P w K mg base CX0 1 f fd ["value"] spWhole := by
  refine F.ok scWhole (fun vs H Q E h => ?_) (fun cdv A outer s H vs Q E hr h => ?_)
  · obtain ⟨v, rfl, _⟩ := h
    rfl
  · obtain ⟨i, rfl, q⟩ := h
    refine ⟨_, pss_one (ps_ret (pe_and (pe_callB call_isi (by rfl) B.isi (by decide +kernel) (pa_cons (pv 0) (pa_cons (pe_bltn (v := .ty "int") (by rfl) B.int_ (by decide +kernel) rfl) pa_nil)))
      (pe_one (pe_not (pe_callB call_isi (by rfl) B.isi (by decide +kernel) (pa_cons (pv 0) (pa_cons (pe_bltn (v := .ty "bool") (by rfl) B.bool_ (by decide +kernel) rfl) pa_nil))))))), ?_⟩
    refine ⟨_, rfl, _, _, _, _, true, rfl, .ty "int", .base (.int i), kit_ii, true, rfl, iteT (B := False) ?_⟩
    exact ⟨_, rfl, _, _, _, _, false, rfl, .ty "bool", .base (.int i), kit_ib, false, rfl, q⟩
theorem scCount : FnScope ["value"] ["value"] (defScope sIsCount) := ⟨rfl, rfl, rfl, by decide +kernel, rfl, by decide +kernel, by decide +kernel⟩
theorem ok_count {f : Addr} {fd : FuncData} (F : Fun K "is_count" "is_count" sIsCount f fd) (Wh : Cal P w K mg base 1 "is_whole" spWhole []) : FnOk P w K mg base CX0 2 f fd ["value"] spCount := by
  refine F.ok scCount (fun vs H Q E h => ?_) (fun cdv A outer s H vs Q E hr h => ?_)
  · obtain ⟨v, rfl, _⟩ := h
    rfl
  · obtain ⟨i, rfl, i0, q⟩ := h
    refine ⟨_, pss_one (ps_ret (pe_and (pe_c Wh hr (by decide) rfl (pa_cons (pv 0) pa_nil)) (pe_one (pe_cmpR op_ge (pv 0) pe_int (by rfl))))), ?_⟩
    refine ⟨_, rfl, i, rfl, true, rfl, iteT (B := False) ?_⟩
    refine ⟨_, rfl, i, 0, rfl, rfl, ?_⟩
    show Q (.bl (decide (0 ≤ i))) H
    rw [decide_eq_true i0]
    exact q
theorem scIsLet : FnScope ["name", "sign"] ["name"] (defScope sIsLetter) := ⟨rfl, rfl, rfl, by decide +kernel, rfl, by decide +kernel, by decide +kernel⟩
abbrev rLeS : R2 := fun x y H Q => ∃ i j, x = .str i ∧ y = .str j ∧ Q (.bl (!decide (j.cps.toList < i.cps.toList))) H
theorem ok_isLet {f : Addr} {fd : FuncData} (F : Fun K "is_letter" "is_letter" sIsLetter f fd) (B : Bl mg) : FnOk P w K mg base CX0 1 f fd ["name"] spIsLet := by
  refine F.ok scIsLet (fun vs H Q E h => ?_) (fun cdv A outer s H vs Q E hr h => ?_)
  · obtain ⟨z, rfl, _⟩ := h
    rfl
  · obtain ⟨z, rfl, ⟨l1, l2, hc⟩, k⟩ := h
    refine ⟨_, pss_cons (ps_if (PW.pt (pw_or (pt_not (pt_val (pe_callB call_isi (by rfl) B.isi (by decide +kernel) (pa_cons (pv 0) (pa_cons (pe_bltn (v := .ty "str") (by rfl) B.str_ (by decide +kernel) rfl) pa_nil)))))
        (pw_or1 (pt_not (pt_chain op_le op_le pe_int (pe_callB call_len_str (by rfl) B.len_ PySem.boot_len (pa_cons (pv 0) pa_nil)) pe_int))))) (pss_one (ps_ret pe_bl)) pss_nil)
      (pss_one (ps_ret (pe_callB (cr_all rfl) (by rfl) B.all_ (by decide +kernel) (pa_cons (pe_lc (own := [("sign", 1)]) (g := gName 1) (tt := tYes) (te := tChain rLeS rLeS (tC (.str "a")) (tVar 1) (tC (.str "z"))) rfl scIsLet.nd (pi_str (pv 0))
        (blkOk_by (own := [("sign", 1)]) (N := ["name", "sign"]) (sc := defScope sIsLetter) (by decide +kernel))
        (fun _ _ _ _ _ => pg_name (i := 1) scIsLet.nd rfl (Or.inl rfl)) (fun _ _ _ _ _ => pts_nil) (fun _ _ _ _ _ => by exact pe_chain op_le_str op_le_str pe_str (pv 1) pe_str)) pa_nil)))), ?_⟩
    have hz : z.length ≤ sizeLine := by rw [sizeLine_eq]; omega
    refine ⟨_, rfl, _, _, _, _, true, rfl, .ty "str", .base (.str z), kit_ss, true, rfl, iteF ?_⟩
    refine ⟨_, rfl, z, rfl, hz, _, _, rfl, rfl, _, rfl, iteD (fun _ => ?_) (fun h => absurd (by omega) h)⟩
    refine ⟨_, _, rfl, rfl, _, rfl, iteP (by omega) ?_⟩
    refine ⟨_, rfl, z, rfl, fun D nD => lc_it walk_str (fun i H' => Same H H' ∧ H' D = some (.lst (List.replicate i (V.bl true)))) ⟨Same.upd nD, upd_same⟩ (fun _ _ _ _ => trivial) ?_ ?_⟩
    · rintro i x H1 H1' hi ⟨S, hD⟩ ⟨rfl, c, hcz, rfl⟩
      have hm : c ∈ z.cps.toList := by
        rw [← Array.getElem?_toList] at hcz
        exact List.mem_of_getElem? hcz
      obtain ⟨c1, c2⟩ := hc c hm
      have n1 : ¬ ((⟨#[c]⟩ : Str).cps.toList < ("a" : Str).cps.toList) := by
        show ¬ ([c] < [97])
        rw [List.cons_lt_cons_iff]
        rintro (h | ⟨_, h⟩)
        · omega
        · exact absurd h (by decide)
      have n2 : ¬ (("z" : Str).cps.toList < (⟨#[c]⟩ : Str).cps.toList) := by
        show ¬ ([122] < [c])
        rw [List.cons_lt_cons_iff]
        rintro (h | ⟨_, h⟩)
        · omega
        · exact absurd h (by decide)
      refine ⟨rfl, iteT (B := False) ⟨_, rfl, _, _, rfl, rfl, _, rfl, iteN n1 ⟨_, _, rfl, rfl, _, hD, ?_, ?_, ?_⟩⟩⟩
      · rw [List.length_replicate]
        have : i < z.length := hi
        omega
      · intro b o hb
        rw [upd_ne (ne_of_none hb nD)]
        exact S _ _ hb
      · rw [upd_same, decide_eq_false n2, List.replicate_succ']
        rfl
    · rintro H1 ⟨S, hD⟩
      refine ⟨D, List.replicate z.cps.size true, rfl, SqL.of ?_, ?_⟩
      · rw [List.map_replicate]
        exact hD
      · rw [show (List.replicate z.cps.size true).all id = true by simp]
        exact k H1 S
theorem scProdOk : FnScope ["product", "name"] ["product"] (defScope sIsProduct) := ⟨rfl, rfl, rfl, by decide +kernel, rfl, by decide +kernel, by decide +kernel⟩
theorem ok_prodOk {f : Addr} {fd : FuncData} (F : Fun K "is_product" "is_product" sIsProduct f fd) (B : Bl mg) (L : Cal P w K mg base 1 "is_letter" spIsLet []) : FnOk P w K mg base CX0 2 f fd ["product"] spProdOk := by
  refine F.ok scProdOk (fun vs H Q E h => ?_) (fun cdv A outer s H vs Q E hr h => ?_)
  · obtain ⟨a, xs, rfl, _⟩ := h
    rfl
  · obtain ⟨a, xs, rfl, ha, hx, hz, k⟩ := h
    refine ⟨_, pss_one (ps_ret (pe_and (pe_callB call_isi (by rfl) B.isi (by decide +kernel) (pa_cons (pv 0) (pa_cons (pe_bltn (v := .ty "list") (by rfl) B.lst_ (by decide +kernel) rfl) pa_nil)))
      (pe_one (pe_callB (cr_all rfl) (by rfl) B.all_ (by decide +kernel) (pa_cons (pe_lc (own := [("name", 1)]) (g := gName 1) (tt := tYes) (te := tCall spIsLet [] C8.E0 (tCons (tVar 1) tNil)) rfl scProdOk.nd (pi_list (pv 0))
        (blkOk_by (own := [("name", 1)]) (N := ["product", "name"]) (sc := defScope sIsProduct) (by decide +kernel))
        (fun _ _ _ _ _ => pg_name (i := 1) scProdOk.nd rfl (Or.inl rfl)) (fun _ _ _ _ _ => pts_nil) (fun _ _ _ _ _ => by exact pe_c L hr (by decide) rfl (pa_cons (pv 1) pa_nil))) pa_nil))))), ?_⟩
    refine ⟨_, rfl, _, _, _, _, true, rfl, .ty "list", .base (.lst ha), kit_ll, true, rfl, iteT (B := False) ?_⟩
    refine ⟨_, rfl, a, rfl, ⟨_, SqL.of ha⟩, fun D nD => lc_it (walk_list (xs := xs.map V.str)) (fun i H' => Same H H' ∧ H' D = some (.lst (List.replicate i (V.bl true)))) ⟨Same.upd nD, upd_same⟩ (fun i H' _ q => SqL.of (q.1 _ _ ha)) ?_ ?_⟩
    · rintro i x H2 H3 hi ⟨S, hD⟩ ⟨rfl, hx2⟩
      rw [List.length_map] at hi
      rw [List.getElem?_map] at hx2
      obtain ⟨z, hzz, rfl⟩ := Option.map_eq_some_iff.mp hx2
      refine ⟨rfl, iteT (B := False) ⟨_, rfl, z, rfl, hx z (List.mem_of_getElem? hzz), fun H4 S4 => ⟨_, S4 _ _ hD, ?_, ?_, ?_⟩⟩⟩
      · rw [List.length_replicate, sizeLine_eq]
        omega
      · intro b o hb
        rw [upd_ne (ne_of_none hb nD)]
        exact S4 _ _ (S _ _ hb)
      · rw [upd_same, List.replicate_succ']
    · rintro H2 ⟨S, hD⟩
      refine ⟨D, List.replicate xs.length true, rfl, SqL.of ?_, ?_⟩
      · rw [List.map_replicate]
        rw [List.length_map] at hD
        exact hD
      · rw [all_true]
        exact k H2 S
theorem scSideOk : FnScope ["side", "many", "product"] ["side", "many"] (defScope sIsSide) := ⟨rfl, rfl, rfl, by decide +kernel, rfl, by decide +kernel, by decide +kernel⟩
theorem cut12 (x y z : V) : cutV [x, y, z] (some 1) none = [y, z] := by rfl
theorem ok_sideOk {f : Addr} {fd : FuncData} (F : Fun K "is_side" "is_side" sIsSide f fd) (B : Bl mg) (L : Cal P w K mg base 1 "is_letter" spIsLet []) (Pr : Cal P w K mg base 2 "is_product" spProdOk []) : FnOk P w K mg base CX0 3 f fd ["side", "many"] spSideOk := by
  refine F.ok scSideOk (fun vs H Q E h => ?_) (fun cdv A outer s H vs Q E hr h => ?_)
  · obtain ⟨t, x, rfl, _⟩ := h
    rfl
  · obtain ⟨t, x, rfl, ⟨a, b, ht, ha, hb⟩, ⟨o1, o2, o3, o4, o5⟩, k⟩ := h
    refine ⟨_, pss_cons (ps_if (PW.pt (pw_or (pt_not (pt_val (pe_callB call_isi (by rfl) B.isi (by decide +kernel) (pa_cons (pv 0) (pa_cons (pe_bltn (v := .ty "tuple") (by rfl) B.tup_ (by decide +kernel) rfl) pa_nil)))))
        (pw_or1 (pt_cmpR op_ne (pe_callB call_len_seq (by rfl) B.len_ PySem.boot_len (pa_cons (pv 0) pa_nil)) (pe_op op_add pe_int (pv 1)) (by rfl))))) (pss_one (ps_ret pe_bl)) pss_nil)
      (pss_one (ps_ret (pe_and (pe_c L hr (by decide) rfl (pa_cons (pe_ix ix_tup (pv 0) pe_int (fun _ _ => rfl)) pa_nil))
        (pe_one (pe_callB (cr_all rfl) (by rfl) B.all_ (by decide +kernel) (pa_cons (pe_lc (own := [("product", 2)]) (g := gName 2) (tt := tYes) (te := tCall spProdOk [] C8.E0 (tCons (tVar 2) tNil)) rfl scSideOk.nd (pi_tup (pe_slice sl_tup (pv 0) (po_some pe_int) po_none))
          (blkOk_by (own := [("product", 2)]) (N := ["side", "many", "product"]) (sc := defScope sIsSide) (by decide +kernel))
          (fun _ _ _ _ _ => pg_name (i := 2) scSideOk.nd rfl (Or.inl rfl)) (fun _ _ _ _ _ => pts_nil) (fun _ _ _ _ _ => by exact pe_c Pr hr (by decide) rfl (pa_cons (pv 2) pa_nil))) pa_nil)))))), ?_⟩
    refine ⟨_, rfl, _, _, _, _, true, rfl, .ty "tuple", .base (.tup ht), kit_tt, true, rfl, iteF ?_⟩
    refine ⟨_, rfl, t, _, rfl, .inr (SqT.of ht), _, rfl, 1, 2, rfl, rfl, rfl, _, rfl, ifF rfl ?_⟩
    dsimp only [tNext]
    refine ⟨_, rfl, t, _, 0, _, rfl, rfl, SqT.of ht, rfl, x.1, rfl, o1, fun H1 S1 => ⟨true, rfl, iteT (B := False) ?_⟩⟩
    refine ⟨_, rfl, 1, rfl, t, _, rfl, SqT.of (S1 _ _ ht), (fun h => absurd (show HT.sIx 3 0 (some 1) = 0 from h.1) (by decide)), fun p np => ?_⟩
    rw [cut12]
    have S2 : Same H1 (upd H1 p (.tup [.ref a, .ref b])) := Same.upd np
    have hp : (upd H1 p (.tup [.ref a, .ref b])) p = some (.tup [.ref a, .ref b]) := upd_same
    generalize upd H1 p (.tup [.ref a, .ref b]) = H2 at S2 hp ⊢
    refine ⟨p, rfl, ⟨_, SqT.of hp⟩, fun D nD => lc_it (walk_tup (xs := [.ref a, .ref b])) (fun i H' => Same H2 H' ∧ H' D = some (.lst (List.replicate i (V.bl true)))) ⟨Same.upd nD, upd_same⟩ (fun i H' _ q => SqT.of (q.1 _ _ hp)) ?_ ?_⟩
    · rintro i x1 H3 H4 hi ⟨S, hD⟩ ⟨rfl, hx2⟩
      have key : ∃ (a : Addr) (xs : List Str), [x1] = [V.ref a] ∧ H4 a = some (HO.lst (xs.map V.str)) ∧ (∀ z ∈ xs, LetOk z) ∧ xs.length ≤ 60 := by
        match i, hi with
        | 0, _ => cases hx2; exact ⟨a, x.2.1, rfl, S _ _ (S2 _ _ (S1 _ _ ha)), o2, o4⟩
        | 1, _ => cases hx2; exact ⟨b, x.2.2, rfl, S _ _ (S2 _ _ (S1 _ _ hb)), o3, o5⟩
      obtain ⟨c, zs, e, hc, hl, hz⟩ := key
      refine ⟨rfl, iteT (B := False) ⟨_, rfl, c, zs, e, hc, hl, hz, fun H5 S4 => ⟨_, S4 _ _ hD, ?_, ?_, ?_⟩⟩⟩
      · rw [List.length_replicate, sizeLine_eq]
        have : i < 2 := hi
        omega
      · intro b o hb
        rw [upd_ne (ne_of_none hb nD)]
        exact S4 _ _ (S _ _ hb)
      · rw [upd_same, List.replicate_succ']
    · rintro H3 ⟨S, hD⟩
      refine ⟨D, List.replicate 2 true, rfl, SqL.of hD, ?_⟩
      exact k H3 (S1.trans (S2.trans S))
end
end E4

set_option Elab.async false
set_option linter.all false
set_option maxRecDepth 100000
set_option maxHeartbeats 1000000
/-! names_of, is_sides -/
namespace E4
open PySem PySem.Spec PyProof.Rows L2
open C8 (Cal Mak Met InsC pe_c pe_mt pe_mt0 call_isC clsBody)
/-- good sides -/
structure SdsOk (xs : List Sd) : Prop where
  ne : xs ≠ []
  ok : ∀ x ∈ xs, SdOk x
  nd : (xs.map (·.1)).Nodup
  free : ∀ x ∈ xs, ∀ y ∈ xs, ∀ z, z ∈ x.2.1 ∨ z ∈ x.2.2 → z ≠ y.1
  len : xs.length ≤ 16
def spNames (K : PySem.W.Frag) : Sp := fun vs H Q _ => ∃ (l : Addr) (ts : List Addr) (xs : List Sd), vs = [.ref l] ∧ SqL K H l (ts.map V.ref) ∧ SdsAt H ts xs ∧ xs.length ≤ 60 ∧ ∀ H' p, Same H H' → H p = none → H' p = some (.lst ((xs.map (·.1)).map V.str)) → Q (.ref p) H'
def spSidesOk : Sp := fun vs H Q _ => ∃ (l : Addr) (ts : List Addr) (xs : List Sd), vs = [.ref l, .int 2] ∧ H l = some (.lst (ts.map V.ref)) ∧ SdsAt H ts xs ∧ SdsOk xs ∧ ∀ H', Same H H' → Q (.bl true) H'
theorem any_false (l : List Bool) (h : ∀ b ∈ l, b = false) : l.any id = false := by
  rw [List.any_eq_false]
  intro b hb
  rw [h b hb]
  decide
section
variable {P : Program} {w : World} {K : PySem.W.Frag} {mg : Str → Option Value} {base : Heap}
theorem scNames : FnScope ["sides", "side"] ["sides"] (defScope sNamesOf) := ⟨rfl, rfl, rfl, by decide +kernel, rfl, by decide +kernel, by decide +kernel⟩
theorem ok_names {f : Addr} {fd : FuncData} (F : Fun K "names_of" "names_of" sNamesOf f fd) : FnOk P w K mg base CX0 1 f fd ["sides"] (spNames K) := by
  refine F.ok scNames (fun vs H Q E h => ?_) (fun cdv A outer s H vs Q E hr h => ?_)
  · obtain ⟨l, ts, xs, rfl, _⟩ := h
    rfl
  · obtain ⟨l, ts, xs, rfl, hl, hx, hz, k⟩ := h
    refine ⟨_, pss_one (ps_ret (pe_lc (own := [("side", 1)]) (g := gName 1) (tt := tYes) (te := tOp (rIxT K) (tVar 1) (tC (.int 0))) rfl scNames.nd (pi_list (pv 0))
        (blkOk_by (own := [("side", 1)]) (N := ["sides", "side"]) (sc := defScope sNamesOf) (by decide +kernel))
        (fun _ _ _ _ _ => pg_name (i := 1) scNames.nd rfl (Or.inl rfl)) (fun _ _ _ _ _ => pts_nil) (fun _ _ _ _ _ => by exact pe_ix ix_tup (pv 1) pe_int (fun _ _ => rfl)))), ?_⟩
    have lt := hx.length
    refine ⟨_, rfl, l, rfl, ⟨_, hl⟩, fun D nD => lc_it (walk_list (xs := ts.map V.ref)) (fun i H' => Same H H' ∧ H' D = some (.lst (((xs.take i).map (·.1)).map V.str))) ⟨Same.upd nD, upd_same⟩ (fun i H' _ q => hl.same q.1) ?_ ?_⟩
    · rintro i x H1 H2 hi ⟨S, hD⟩ ⟨rfl, hx2⟩
      rw [List.length_map] at hi
      rw [List.getElem?_map] at hx2
      obtain ⟨t, htt, rfl⟩ := Option.map_eq_some_iff.mp hx2
      obtain ⟨y, hy, a, b, h1, _⟩ := paired_at hx htt
      refine ⟨rfl, iteT (B := False) ⟨_, rfl, t, _, 0, _, rfl, rfl, SqT.of (S _ _ h1), rfl, _, hD, ?_, ?_, ?_⟩⟩
      · rw [List.length_map, List.length_map, List.length_take, sizeLine_eq]
        omega
      · intro c o e
        rw [upd_ne (ne_of_none e nD)]
        exact S _ _ e
      · rw [upd_same, take_snoc hy, List.map_append, List.map_append]
        rfl
    · rintro H1 ⟨S, hD⟩
      rw [List.length_map, lt, List.take_length] at hD
      exact k H1 D S nD hD
theorem scSidesOk : FnScope ["sides", "many", "side", "names", "product", "part"] ["sides", "many"] (defScope sIsSides) := ⟨rfl, rfl, rfl, by decide +kernel, rfl, by decide +kernel, by decide +kernel⟩
theorem ok_sidesOk {f : Addr} {fd : FuncData} (F : Fun K "is_sides" "is_sides" sIsSides f fd) (B : Bl mg) (Sd : Cal P w K mg base 3 "is_side" spSideOk []) (Nm : Cal P w K mg base 1 "names_of" (spNames K) []) : FnOk P w K mg base CX0 4 f fd ["sides", "many"] spSidesOk := by
  refine F.ok scSidesOk (fun vs H Q E h => ?_) (fun cdv A outer s H vs Q E hr h => ?_)
  · obtain ⟨l, ts, xs, rfl, _⟩ := h
    rfl
  · obtain ⟨l, ts, xs, rfl, hl, hx, ok, k⟩ := h
    refine ⟨_, pss_cons (ps_if (PW.pt (pw_or (pt_not (pt_val (pe_callB call_isi (by rfl) B.isi (by decide +kernel) (pa_cons (pv 0) (pa_cons (pe_bltn (v := .ty "list") (by rfl) B.lst_ (by decide +kernel) rfl) pa_nil)))))
        (pw_or1 (pt_cmpR op_eq (pe_callB call_len_seq (by rfl) B.len_ PySem.boot_len (pa_cons (pv 0) pa_nil)) pe_int (by rfl))))) (pss_one (ps_ret pe_bl)) pss_nil)
      (pss_cons (ps_if (pt_not (pt_val (pe_callB (cr_all rfl) (by rfl) B.all_ (by decide +kernel) (pa_cons (pe_lc (own := [("side", 2)]) (g := gName 2) (tt := tYes) (te := tCall spSideOk [] C8.E0 (tCons (tVar 2) (tCons (tVar 1) tNil))) rfl scSidesOk.nd (pi_list (pv 0))
          (blkOk_by (own := [("side", 2)]) (N := ["sides", "many", "side", "names", "product", "part"]) (sc := defScope sIsSides) (by decide +kernel))
          (fun _ _ _ _ _ => pg_name (i := 2) scSidesOk.nd rfl (Or.inl rfl)) (fun _ _ _ _ _ => pts_nil) (fun _ _ _ _ _ => by exact pe_c Sd hr (by decide) rfl (pa_cons (pv 2) (pa_cons (pv 1) pa_nil)))) pa_nil)))) (pss_one (ps_ret pe_bl)) pss_nil)
      (pss_cons (ps_set (i := 3) scSidesOk.nd rfl (Or.inr rfl) (pe_c Nm hr (by decide) rfl (pa_cons (pv 0) pa_nil)))
      (pss_cons (ps_if (pt_cmpR op_lt (pe_callB cr_lenSS (by rfl) B.len_ PySem.boot_len (pa_cons (pe_callTy (cr_setLS rfl) (by rfl) B.set_ (by decide +kernel) (pa_cons (pv 3) pa_nil)) pa_nil)) (pe_callB call_len_seq (by rfl) B.len_ PySem.boot_len (pa_cons (pv 3) pa_nil)) (by rfl)) (pss_one (ps_ret pe_bl)) pss_nil)
      (pss_one (ps_ret (pe_not (pe_callB (cr_any rfl) (by rfl) B.any_ (by decide +kernel) (pa_cons (pe_lc3 (own := [("side", 2), ("product", 4), ("part", 5)]) (v1 := [4, 5]) (v2 := [5]) (g0 := gName 2) (w1 := iTup K (tSl (rSlT K) (tVar 2) (tPart (tC (.int 1))) tNoPart)) (g1 := gName 4) (w2 := iList K (tVar 4)) (g2 := gName 5) (te := tOp (rIn K false) (tVar 5) (tVar 3)) rfl scSidesOk.nd
          (blkOk_by (own := [("side", 2), ("product", 4), ("part", 5)]) (N := ["sides", "many", "side", "names", "product", "part"]) (sc := defScope sIsSides) (by decide +kernel)) (by decide) (by decide) (pi_list (pv 0))
          (fun _ _ _ _ _ => pg_name (i := 2) scSidesOk.nd rfl (Or.inl rfl)) (fun _ _ _ _ _ => by exact pi_tup (pe_slice sl_tup (pv 2) (po_some pe_int) po_none)) (fun _ _ _ _ _ => pg_name (i := 4) scSidesOk.nd rfl (Or.inl rfl))
          (fun _ _ _ _ _ => by exact pi_list (pv 4)) (fun _ _ _ _ _ => pg_name (i := 5) scSidesOk.nd rfl (Or.inl rfl)) (fun _ _ _ _ _ => by exact pe_cmpR op_in_seq (pv 5) (pv 3) (by rfl))) pa_nil)))))))), ?_⟩
    have lt := hx.length
    have zl := ok.len
    refine ⟨_, rfl, _, _, _, _, true, rfl, .ty "list", .base (.lst hl), kit_ll, true, rfl, iteF ?_⟩
    refine ⟨_, rfl, l, _, rfl, .inl (SqL.of hl), ?_⟩
    have hne : (ts.map V.ref).length ≠ 0 := by
      have : xs.length ≠ 0 := fun e => ok.ne (List.length_eq_zero_iff.mp e)
      rw [List.length_map]
      omega
    refine ⟨rfl, _, rfl, ifF (decide_eq_false fun e => hne (Int.ofNat.inj (V.int.inj e))) ?_⟩
    dsimp only [tNext]
    -- the first comprehension
    refine ⟨_, rfl, l, rfl, ⟨_, SqL.of hl⟩, fun D nD => lc_it (walk_list (xs := ts.map V.ref)) (fun i H' => Same H H' ∧ H' D = some (.lst (List.replicate i (V.bl true)))) ⟨Same.upd nD, upd_same⟩ (fun i H' _ q => SqL.of (q.1 _ _ hl)) ?_ ?_⟩
    · rintro i x H2 H3 hi ⟨S, hD⟩ ⟨rfl, hx2⟩
      rw [List.length_map] at hi
      rw [List.getElem?_map] at hx2
      obtain ⟨t, htt, rfl⟩ := Option.map_eq_some_iff.mp hx2
      obtain ⟨y, hy, sy⟩ := paired_at hx htt
      refine ⟨rfl, iteT (B := False) ⟨_, rfl, _, rfl, t, y, rfl, sy.same S, ok.ok y (List.mem_of_getElem? hy), fun H4 S4 => ⟨_, S4 _ _ hD, ?_, ?_, ?_⟩⟩⟩
      · rw [List.length_replicate, sizeLine_eq]
        omega
      · intro b o hb
        rw [upd_ne (ne_of_none hb nD)]
        exact S4 _ _ (S _ _ hb)
      · rw [upd_same, List.replicate_succ']
    rintro H2 ⟨S2, hD⟩
    refine ⟨D, List.replicate ts.length true, rfl, SqL.of (by rw [List.map_replicate]; rw [List.length_map] at hD; exact hD), true, by rw [all_true], iteF ?_⟩
    dsimp only [tNext]
    refine seq_asg ⟨_, rfl, l, ts, xs, rfl, SqL.of (S2 _ _ hl), hx.same S2, by omega, fun H3 p S3 np hp => ?_⟩
    -- the names
    have S03 := S2.trans S3
    refine ⟨_, rfl, p, xs.map (·.1), rfl, SqL.of hp, fun i => ?_, fun sa nsa => ?_⟩
    · have h1 := len_putAll ((xs.map (·.1)).take i) []
      rw [List.length_take, List.length_map] at h1
      have : (0 : Nat) + 60 + 1 < scanBound := by decide
      simp only [List.length_nil] at h1
      omega
    have S34 : Same H3 (upd H3 sa (SetSO P w sa (putAll [] (xs.map (·.1))))) := Same.upd nsa
    refine ⟨sa, _, rfl, upd_same, ?_⟩
    refine ⟨_, rfl, p, _, rfl, .inl (SqL.of (S34 _ _ hp)), ?_⟩
    have e1 := putAll_nodup (ks := []) ok.nd fun _ _ h => absurd h List.not_mem_nil
    refine ⟨_, _, rfl, rfl, _, rfl, ifF (decide_eq_false ?_) ?_⟩
    · rw [e1, List.length_map]
      simp
    dsimp only [tNext]
    show tRet _ _ _ (upd H3 sa (SetSO P w sa (putAll [] (xs.map (·.1)))))
    generalize upd H3 sa (SetSO P w sa (putAll [] (xs.map (·.1)))) = H4 at S34 ⊢
    have S04 := S03.trans S34
    have hp4 := S34 _ _ hp
    -- the last comprehension
    have big : ∀ m : Nat, m ≤ 120 * 60 → m < sizeLine := fun m h => by rw [sizeLine_eq]; omega
    refine ⟨_, rfl, l, rfl, ⟨_, SqL.of (S04 _ _ hl)⟩, fun D2 nD2 => ?_⟩
    have up : ∀ {H' : Hp} {v : HO}, Same H4 H' → Same H4 (upd H' D2 v) := fun S c o e => by
      rw [upd_ne (ne_of_none e nD2)]
      exact S _ _ e
    refine cl_it (walk_list (xs := ts.map V.ref)) (fun i H' => Same H4 H' ∧ ∃ m, m ≤ 120 * i ∧ H' D2 = some (.lst (List.replicate m (V.bl false)))) ⟨Same.upd nD2, 0, Nat.le_refl _, upd_same⟩ (fun i H' _ q => SqL.of (q.1 _ _ (S04 _ _ hl))) ?_ ?_
    · rintro i x H5 H6 hi ⟨S5, m, hm, hD⟩ ⟨rfl, hx2⟩
      rw [List.length_map] at hi
      rw [List.getElem?_map] at hx2
      obtain ⟨t, htt, rfl⟩ := Option.map_eq_some_iff.mp hx2
      obtain ⟨y, hy, a, b, h1, h2, h3⟩ := paired_at hx htt
      have ym := List.mem_of_getElem? hy
      obtain ⟨o1, o2, o3, o4, o5⟩ := ok.ok y ym
      have S45 := S04.trans S5
      refine ⟨rfl, _, rfl, 1, rfl, t, _, rfl, SqT.of (S45 _ _ h1), (fun h => absurd (show HT.sIx 3 0 (some 1) = 0 from h.1) (by decide)), fun q nq => ?_⟩
      rw [cut12]
      have nqD : q ≠ D2 := (ne_of_none hD nq).symm
      refine ⟨q, rfl, ⟨_, SqT.of upd_same⟩, ?_⟩
      refine cl_it (walk_tup (xs := [.ref a, .ref b])) (fun j H' => Same H4 H' ∧ H' q = some (.tup [.ref a, .ref b]) ∧ ∃ m, m ≤ 120 * i + 60 * j ∧ H' D2 = some (.lst (List.replicate m (V.bl false)))) ⟨S5.trans (Same.upd nq), upd_same, m, hm, by rw [upd_ne nqD.symm]; exact hD⟩ (fun j H' _ q => SqT.of q.2.1) ?_ ?_
      · rintro j x2 H7 H8 hj ⟨S7, hq7, m7, hm7, hD7⟩ ⟨rfl, hx3⟩
        have S47 := S04.trans S7
        have key : ∃ (c : Addr) (zs : List Str), x2 = .ref c ∧ H8 c = some (.lst (zs.map V.str)) ∧ zs.length ≤ 60 ∧ c ≠ D2 ∧ ∀ z ∈ zs, z ∈ y.2.1 ∨ z ∈ y.2.2 := by
          match j, hj with
          | 0, _ => cases hx3; exact ⟨a, y.2.1, rfl, S47 _ _ h2, o4, ne_of_none (S04 _ _ h2) nD2, fun z hz => .inl hz⟩
          | 1, _ => cases hx3; exact ⟨b, y.2.2, rfl, S47 _ _ h3, o5, ne_of_none (S04 _ _ h3) nD2, fun z hz => .inr hz⟩
        obtain ⟨c, zs, rfl, hc, hz, ncD, hzs⟩ := key
        refine ⟨rfl, _, rfl, c, rfl, ⟨_, SqL.of hc⟩, ?_⟩
        refine cl_it (walk_list (xs := zs.map V.str)) (fun k H' => Same H4 H' ∧ H' q = some (.tup [.ref a, .ref b]) ∧ H' c = some (.lst (zs.map V.str)) ∧ H' D2 = some (.lst (List.replicate (m7 + k) (V.bl false)))) ⟨S7, hq7, hc, hD7⟩ (fun k H' _ q => SqL.of q.2.2.1) ?_ ?_
        · rintro k x3 H9 H10 hk ⟨S9, hq9, hc9, hD9⟩ ⟨rfl, hx4⟩
          rw [List.length_map] at hk
          rw [List.getElem?_map] at hx4
          obtain ⟨z, hzz, rfl⟩ := Option.map_eq_some_iff.mp hx4
          have nin : inV (.str z) ((xs.map (·.1)).map V.str) = false := by
            unfold inV
            rw [List.any_eq_false]
            intro v hv
            obtain ⟨n, hn, rfl⟩ := List.mem_map.mp hv
            obtain ⟨y2, hy2, rfl⟩ := List.mem_map.mp hn
            have := ok.free y ym y2 hy2 z (hzs z (List.mem_of_getElem? hzz))
            simp [eqV, Ne.symm this]
          have fl : ((xs.map (·.1)).map V.str).all flatV = true := by
            rw [List.all_eq_true]
            intro v hv
            obtain ⟨n, hn, rfl⟩ := List.mem_map.mp hv
            rfl
          refine ⟨rfl, _, rfl, _, rfl, p, _, rfl, .inl (SqL.of (S9 _ _ hp4)), rfl, fl, ?_⟩
          have hi2 : i < 60 := by omega
          have hj2 : j < 2 := hj
          refine ⟨_, hD9, by rw [List.length_replicate]; exact big _ (by omega), up S9, ?_, ?_, ?_⟩
          · rw [upd_ne nqD]; exact hq9
          · rw [upd_ne ncD]; exact hc9
          · rw [upd_same, ← Nat.add_assoc, List.replicate_succ']
            show some (HO.lst (_ ++ [V.bl (inV _ _)])) = _
            rw [nin]
        · rintro H9 ⟨S9, hq9, hc9, hD9⟩
          rw [List.length_map] at hD9
          exact ⟨S9, hq9, m7 + zs.length, by omega, hD9⟩
      · rintro H7 ⟨S7, hq7, m7, hm7, hD7⟩
        exact ⟨S7, m7, by simp only [List.length_cons, List.length_nil] at hm7; omega, hD7⟩
    · rintro H5 ⟨S5, m, hm, hD⟩
      refine ⟨D2, List.replicate m false, rfl, SqL.of (by rw [List.map_replicate]; exact hD), ?_⟩
      rw [any_false _ fun b hb => (List.mem_replicate.mp hb).2]
      exact ⟨false, rfl, k _ (S04.trans S5)⟩
end
end E4

set_option Elab.async false
set_option linter.all false
set_option maxRecDepth 100000
set_option maxHeartbeats 1000000
/-! Plain: the constructor, sides(), sizes() -/
namespace E4
open PySem PySem.Spec PyProof.Rows L2
open C8 (Cal Mak Met InsC pe_c pe_mt pe_mt0 call_isC clsBody)
/-- a side with sorted products -/
def norm (x : Sd) : Sd := (x.1, sortT x.2.1, sortT x.2.2)
/-- the table at a: its sides, their products in order -/
def PlAt (C : Addr) (H : Hp) (a : Addr) (ss : List Sd) : Prop := ∃ dx l ts, H a = some (.ins C dx [("_sides", .ref l)]) ∧ H l = some (.lst (ts.map V.ref)) ∧ SdsAt H ts ss
theorem PlAt.same {C : Addr} {H H' : Hp} {a : Addr} {ss : List Sd} (h : PlAt C H a ss) (S : Same H H') : PlAt C H' a ss := let ⟨dx, l, ts, h1, h2, h3⟩ := h; ⟨dx, l, ts, S _ _ h1, S _ _ h2, h3.same S⟩
theorem str_ref {xs : List Str} {ts : List Addr} (h : xs.map V.str = ts.map V.ref) : ts = [] := by
  cases ts with
  | nil => rfl
  | cons t r =>
    cases xs with
    | nil => cases h
    | cons x y => cases (List.cons.inj h).1
/-- sides stay when a list of refs grows -/
theorem SdsAt.off {H H' : Hp} {D : Addr} {ts : List Addr} {xs : List Sd} {v : HO} (h : SdsAt H ts xs) (hD : H D = some (.lst (ts.map V.ref))) (hn : ∀ t ∈ ts, t ≠ D) (S : ∀ c o, c ≠ D → H c = some o → H' c = some o) : SdsAt H' ts xs := by
  refine h.imp fun t ht x hx => ?_
  obtain ⟨a, b, h1, h2, h3⟩ := hx
  have no : ∀ (c : Addr) (zs : List Str), H c = some (.lst (zs.map V.str)) → c ≠ D := fun c zs e z => by
    rw [z, hD] at e
    have := str_ref (HO.lst.inj (Option.some.inj e)).symm
    rw [this] at ht
    cases ht
  exact ⟨a, b, S _ _ (hn t ht) h1, S _ _ (no _ _ h2) h2, S _ _ (no _ _ h3) h3⟩
theorem length_sortT (l : List Str) : (sortT l).length = l.length := (sortT_perm l).length_eq
theorem SdOk.norm {x : Sd} (h : SdOk x) : SdOk (norm x) := by
  obtain ⟨h1, h2, h3, h4, h5⟩ := h
  exact ⟨h1, fun z hz => h2 z ((sortT_perm _).mem_iff.mp hz), fun z hz => h3 z ((sortT_perm _).mem_iff.mp hz), by show (sortT _).length ≤ 60; rw [length_sortT]; exact h4, by show (sortT _).length ≤ 60; rw [length_sortT]; exact h5⟩
theorem SdsOk.norm {xs : List Sd} (h : SdsOk xs) : SdsOk (xs.map norm) := by
  refine ⟨fun e => h.ne (List.map_eq_nil_iff.mp e), fun y hy => ?_, ?_, fun y hy z hz u hu => ?_, by rw [List.length_map]; exact h.len⟩
  · obtain ⟨x, hx, rfl⟩ := List.mem_map.mp hy
    exact (h.ok x hx).norm
  · rw [List.map_map]
    exact h.nd
  · obtain ⟨x, hx, rfl⟩ := List.mem_map.mp hy
    obtain ⟨x2, hx2, rfl⟩ := List.mem_map.mp hz
    refine h.free x hx x2 hx2 u ?_
    rcases hu with hu | hu
    · exact .inl ((sortT_perm _).mem_iff.mp hu)
    · exact .inr ((sortT_perm _).mem_iff.mp hu)
structure Px (P : Program) (w : World) (K : PySem.W.Frag) (mg : Str → Option Value) (base : Heap) (C : Addr) : Prop where
  cl : Cls K C
  na : NoAttr K C "_sides"
def spInit (C : Addr) : Sp := fun vs H Q _ => ∃ (a dx l : Addr) (ts : List Addr) (xs : List Sd), vs = [.ref a, .ref l] ∧ H a = some (.ins C dx []) ∧ H l = some (.lst (ts.map V.ref)) ∧ SdsAt H ts xs ∧ SdsOk xs ∧
  ∀ H' l' ts', SameB a H H' → H' a = some (.ins C dx [("_sides", .ref l')]) → H' l' = some (.lst (ts'.map V.ref)) → SdsAt H' ts' (xs.map norm) → Q .non H'
def spSides (C : Addr) : Sp := fun vs H Q _ => ∃ (a : Addr) (ss : List Sd), vs = [.ref a] ∧ PlAt C H a ss ∧ SdsOk ss ∧
  ∀ H' p ts', Same H H' → H p = none → H' p = some (.lst (ts'.map V.ref)) → SdsAt H' ts' ss → Q (.ref p) H'
section
variable {P : Program} {w : World} {K : PySem.W.Frag} {mg : Str → Option Value} {base : Heap} {C : Addr}
theorem scInit : FnScope ["self", "sides", "name", "size", "step"] ["self", "sides"] (defScope sInit) := ⟨rfl, rfl, rfl, by decide +kernel, rfl, by decide +kernel, by decide +kernel⟩
theorem ok_init {f : Addr} {fd : FuncData} (F : Fun K "__init__" "Plain.__init__" sInit f fd) (B : Bl mg) (T : Px P w K mg base C) (Is : Cal P w K mg base 4 "is_sides" spSidesOk []) : FnOk P w K mg base CX0 5 f fd ["self", "sides"] (spInit C) := by
  refine F.ok scInit (fun vs H Q E h => ?_) (fun cdv A outer s H vs Q E hr h => ?_)
  · obtain ⟨a, dx, l, ts, xs, rfl, _⟩ := h
    rfl
  · obtain ⟨a, dx, l, ts, xs, rfl, ha, hl, hx, ok, k⟩ := h
    refine ⟨_, pss_cons (ps_if (pt_not (pt_val (pe_c Is hr (by decide) rfl (pa_cons (pv 1) (pa_cons pe_int pa_nil))))) (pss_one ps_never) pss_nil)
      (pss_one (ps_fld (pv 0) (pe_lc (own := [("name", 2), ("size", 3), ("step", 4)]) (g := gTup K 3 (gCons (gName 2) (gCons (gName 3) (gCons (gName 4) gNil)))) (tt := tYes) (te := tTupS (tCons (tVar 2) (tCons (tCB (rSortedS K) (tCons (tVar 3) tNil)) (tCons (tCB (rSortedS K) (tCons (tVar 4) tNil)) tNil)))) rfl scInit.nd (pi_list (pv 1))
        (blkOk_by (own := [("name", 2), ("size", 3), ("step", 4)]) (N := ["self", "sides", "name", "size", "step"]) (sc := defScope sInit) (by decide +kernel))
        (fun _ _ _ _ _ => pg_tup rfl (pgs_cons (pg_name (i := 2) scInit.nd rfl (Or.inl rfl)) (pgs_cons (pg_name (i := 3) scInit.nd rfl (Or.inl rfl)) (pgs_cons (pg_name (i := 4) scInit.nd rfl (Or.inl rfl)) pgs_nil)))) (fun _ _ _ _ _ => pts_nil)
        (fun _ _ _ _ _ => by exact pe_tupS (pa_cons (pv 2) (pa_cons (pe_callB cr_sortedS (by rfl) B.srt_ (by decide +kernel) (pa_cons (pv 3) pa_nil)) (pa_cons (pe_callB cr_sortedS (by rfl) B.srt_ (by decide +kernel) (pa_cons (pv 4) pa_nil)) pa_nil))))) rfl)), ?_⟩
    have lt := hx.length
    have zl := ok.len
    refine ⟨_, rfl, l, ts, xs, rfl, hl, hx, ok, fun H1 S1 => ⟨true, rfl, iteF ?_⟩⟩
    dsimp only [tNext]
    have ha1 := S1 _ _ ha
    have hl1 := S1 _ _ hl
    have hx1 := hx.same S1
    refine ⟨_, rfl, l, rfl, ⟨_, SqL.of hl1⟩, fun D nD => ?_⟩
    refine lc_it (walk_list (xs := ts.map V.ref)) (fun i H' => Same H1 H' ∧ ∃ ts' : List Addr, H' D = some (.lst (ts'.map V.ref)) ∧ ts'.length = i ∧ SdsAt H' ts' ((xs.take i).map norm) ∧ ∀ t ∈ ts', t ≠ D) ⟨Same.upd nD, [], upd_same, rfl, .nil, fun _ h => absurd h List.not_mem_nil⟩ (fun i H' _ q => SqL.of (q.1 _ _ hl1)) ?_ ?_
    · rintro i x H2 H3 hi ⟨S2, ts', hD, lt', hs, ht'⟩ ⟨rfl, hx2⟩
      rw [List.length_map] at hi
      rw [List.getElem?_map] at hx2
      obtain ⟨t, htt, rfl⟩ := Option.map_eq_some_iff.mp hx2
      obtain ⟨y, hy, u, v, h1, h2, h3⟩ := paired_at hx1 htt
      obtain ⟨o1, o2, o3, o4, o5⟩ := ok.ok y (List.mem_of_getElem? hy)
      refine ⟨t, _, rfl, SqT.of (S2 _ _ h1), rfl, _, _, rfl, _, _, rfl, _, _, rfl, rfl, rfl, iteT (B := False) ?_⟩
      refine ⟨_, rfl, _, rfl, u, y.2.1, rfl, SqL.of (S2 _ _ h2), by omega, fun ys p pm so np => ?_⟩
      have ep : ∀ v : HO, Same H3 (upd H3 p v) := fun v => Same.upd np
      have S4 := S2.trans (ep (.lst (ys.map V.str)))
      have hp4 : (upd H3 p (.lst (ys.map V.str))) p = some (.lst (ys.map V.str)) := upd_same
      have hD4 := ep (.lst (ys.map V.str)) _ _ hD
      have S34 := ep (.lst (ys.map V.str))
      generalize upd H3 p (.lst (ys.map V.str)) = H4 at S4 hp4 hD4 S34 ⊢
      refine ⟨_, rfl, v, y.2.2, rfl, SqL.of (S4 _ _ h3), by omega, fun zs q pm2 so2 nq => ?_⟩
      have eq : ∀ v : HO, Same H4 (upd H4 q v) := fun v => Same.upd nq
      refine ⟨by show 3 ≤ sizeLine; decide, fun t6 H6 S6 n6 h6 => ?_⟩
      have S46 := (eq (.lst (zs.map V.str))).trans S6
      have S16 := S4.trans S46
      have hD6 := S46 _ _ hD4
      have hp6 := S46 _ _ hp4
      have hq6 := S6 _ _ (upd_same (H := H4) (a := q) (o := .lst (zs.map V.str)))
      have off : ∀ {c : Addr} {o u : HO}, c ≠ D → H6 c = some o → (upd H6 D u) c = some o := fun n e => by rw [upd_ne n]; exact e
      have npD : p ≠ D := (ne_of_none hD np).symm
      have nqD : q ≠ D := (ne_of_none hD4 nq).symm
      have n6D : t6 ≠ D := ne_of h6 hD6 (by intro z; cases z)
      refine ⟨_, hD6, by rw [List.length_map, lt', sizeLine_eq]; omega, fun c o e => off (ne_of_none e nD) (S16 _ _ e), ts' ++ [t6], by rw [upd_same, List.map_append]; rfl, by rw [List.length_append, lt']; rfl, ?_, ?_⟩
      · rw [take_snoc hy, List.map_append]
        refine paired_snoc (SdsAt.off (v := .lst []) hs hD ht' fun c o n e => off n (S46 _ _ (S34 _ _ e))) ⟨p, q, off n6D (by rw [h6]; rfl), off npD (by rw [hp6, sortT_one pm so]; rfl), off nqD (by rw [hq6, sortT_one pm2 so2]; rfl)⟩
      · intro t3 h3
        rcases List.mem_append.mp h3 with h | h
        · exact ht' t3 h
        · rw [List.mem_singleton.mp h]
          exact n6D
    · rintro H2 ⟨S2, ts', hD, lt', hs, _⟩
      rw [List.length_map, lt, List.take_length] at hs
      refine ⟨_, rfl, a, C, dx, [], rfl, S2 _ _ ha1, T.cl, T.na, by decide, ?_⟩
      have nDa : D ≠ a := (ne_of_none ha1 nD).symm
      refine k _ D ts' (fun c o n e => by rw [upd_ne n]; exact S2 _ _ (S1 _ _ e)) upd_same (by rw [upd_ne nDa]; exact hD) (hs.imp fun t3 _ x3 ⟨a3, b3, r1, r2, r3⟩ => ?_)
      have h5 := S2 _ _ ha1
      exact ⟨a3, b3, by rw [upd_ne (ne_of r1 h5 (by intro z; cases z))]; exact r1, by rw [upd_ne (ne_of r2 h5 (by intro z; cases z))]; exact r2, by rw [upd_ne (ne_of r3 h5 (by intro z; cases z))]; exact r3⟩
end
end E4

set_option Elab.async false
set_option linter.all false
set_option maxRecDepth 100000
set_option maxHeartbeats 1000000
/-! Plain: sides(), sizes() -/
namespace E4
open PySem PySem.Spec PyProof.Rows L2
open C8 (Cal Mak Met InsC pe_c pe_mt pe_mt0 call_isC clsBody)
/-- all letters of the products, one behind the other -/
def letsOf (ss : List Sd) : List Str := ss.flatMap fun x => x.2.1 ++ x.2.2
/-- the size letters in order -/
def sizesOf (ss : List Sd) : List Str := sortT (putAll [] (letsOf ss))
theorem length_lets : ∀ {ss : List Sd}, (∀ x ∈ ss, SdOk x) → (letsOf ss).length ≤ 120 * ss.length
  | [], _ => Nat.zero_le _
  | x :: ss, h => by
    have ih := length_lets (ss := ss) fun y hy => h y (List.mem_cons_of_mem _ hy)
    obtain ⟨_, _, _, h4, h5⟩ := h x List.mem_cons_self
    unfold letsOf at ih ⊢
    rw [List.flatMap_cons, List.length_append, List.length_append, List.length_cons]
    omega
def spSizes (C : Addr) : Sp := fun vs H Q _ => ∃ (a : Addr) (ss : List Sd), vs = [.ref a] ∧ PlAt C H a ss ∧ SdsOk ss ∧
  ∀ H' p, Same H H' → H p = none → H' p = some (.lst ((sizesOf ss).map V.str)) → Q (.ref p) H'
section
variable {P : Program} {w : World} {K : PySem.W.Frag} {mg : Str → Option Value} {base : Heap} {C : Addr}
theorem scSides : FnScope ["self", "name", "size", "step"] ["self"] (defScope sSides) := ⟨rfl, rfl, rfl, by decide +kernel, rfl, by decide +kernel, by decide +kernel⟩
theorem ok_sides {f : Addr} {fd : FuncData} (F : Fun K "sides" "Plain.sides" sSides f fd) (B : Bl mg) (T : Px P w K mg base C) : FnOk P w K mg base CX0 1 f fd ["self"] (spSides C) := by
  refine F.ok scSides (fun vs H Q E h => ?_) (fun cdv A outer s H vs Q E hr h => ?_)
  · obtain ⟨a, ss, rfl, _⟩ := h
    rfl
  · obtain ⟨a, xs, rfl, ⟨dx, l, ts, ha, hl, hx⟩, ok, k⟩ := h
    refine ⟨_, pss_one (ps_ret (pe_lc (own := [("name", 1), ("size", 2), ("step", 3)]) (g := gTup K 3 (gCons (gName 1) (gCons (gName 2) (gCons (gName 3) gNil)))) (tt := tYes) (te := tTupS (tCons (tVar 1) (tCons (tCB (fun xs H Q => ∃ p ys, xs = [.ref p] ∧ (SqL K H p ys ∨ SqT K H p ys) ∧ ∀ l, H l = none → Q (.ref l) (upd H l (.lst ys))) (tCons (tVar 2) tNil)) (tCons (tCB (fun xs H Q => ∃ p ys, xs = [.ref p] ∧ (SqL K H p ys ∨ SqT K H p ys) ∧ ∀ l, H l = none → Q (.ref l) (upd H l (.lst ys))) (tCons (tVar 3) tNil)) tNil)))) rfl scSides.nd (pi_list (pe_fld (pv 0) rfl))
        (blkOk_by (own := [("name", 1), ("size", 2), ("step", 3)]) (N := ["self", "name", "size", "step"]) (sc := defScope sSides) (by decide +kernel))
        (fun _ _ _ _ _ => pg_tup rfl (pgs_cons (pg_name (i := 1) scSides.nd rfl (Or.inl rfl)) (pgs_cons (pg_name (i := 2) scSides.nd rfl (Or.inl rfl)) (pgs_cons (pg_name (i := 3) scSides.nd rfl (Or.inl rfl)) pgs_nil)))) (fun _ _ _ _ _ => pts_nil)
        (fun _ _ _ _ _ => by exact pe_tupS (pa_cons (pv 1) (pa_cons (pe_callTy call_list_of (by rfl) B.lst_ (by decide +kernel) (pa_cons (pv 2) pa_nil)) (pa_cons (pe_callTy call_list_of (by rfl) B.lst_ (by decide +kernel) (pa_cons (pv 3) pa_nil)) pa_nil)))))), ?_⟩
    have lt := hx.length
    have zl := ok.len
    refine ⟨_, rfl, a, C, dx, _, _, rfl, ha, T.cl, T.na, rfl, l, rfl, ⟨_, SqL.of hl⟩, fun D nD => ?_⟩
    refine lc_it (walk_list (xs := ts.map V.ref)) (fun i H' => Same H H' ∧ ∃ ts' : List Addr, H' D = some (.lst (ts'.map V.ref)) ∧ ts'.length = i ∧ SdsAt H' ts' (xs.take i) ∧ ∀ t ∈ ts', t ≠ D) ⟨Same.upd nD, [], upd_same, rfl, .nil, fun _ h => absurd h List.not_mem_nil⟩ (fun i H' _ q => SqL.of (q.1 _ _ hl)) ?_ ?_
    · rintro i x H2 H3 hi ⟨S2, ts', hD, lt', hs, ht'⟩ ⟨rfl, hx2⟩
      rw [List.length_map] at hi
      rw [List.getElem?_map] at hx2
      obtain ⟨t, htt, rfl⟩ := Option.map_eq_some_iff.mp hx2
      obtain ⟨y, hy, u, v, h1, h2, h3⟩ := paired_at hx htt
      refine ⟨t, _, rfl, SqT.of (S2 _ _ h1), rfl, _, _, rfl, _, _, rfl, _, _, rfl, rfl, rfl, iteT (B := False) ?_⟩
      refine ⟨_, rfl, _, rfl, u, _, rfl, .inl (SqL.of (S2 _ _ h2)), fun p np => ?_⟩
      have ep : ∀ v : HO, Same H3 (upd H3 p v) := fun v => Same.upd np
      have S4 := S2.trans (ep (.lst (y.2.1.map V.str)))
      have S34 := ep (.lst (y.2.1.map V.str))
      have hp4 : (upd H3 p (.lst (y.2.1.map V.str))) p = some (.lst (y.2.1.map V.str)) := upd_same
      have hD4 := ep (.lst (y.2.1.map V.str)) _ _ hD
      generalize upd H3 p (.lst (y.2.1.map V.str)) = H4 at S4 hp4 hD4 S34 ⊢
      refine ⟨_, rfl, v, _, rfl, .inl (SqL.of (S4 _ _ h3)), fun q nq => ?_⟩
      have eq : ∀ v : HO, Same H4 (upd H4 q v) := fun v => Same.upd nq
      refine ⟨by show 3 ≤ sizeLine; decide, fun t6 H6 S6 n6 h6 => ?_⟩
      have S46 := (eq (.lst (y.2.2.map V.str))).trans S6
      have S16 := S4.trans S46
      have hD6 := S46 _ _ hD4
      have hp6 := S46 _ _ hp4
      have hq6 := S6 _ _ (upd_same (H := H4) (a := q) (o := .lst (y.2.2.map V.str)))
      have off : ∀ {c : Addr} {o u : HO}, c ≠ D → H6 c = some o → (upd H6 D u) c = some o := fun n e => by rw [upd_ne n]; exact e
      have npD : p ≠ D := (ne_of_none hD np).symm
      have nqD : q ≠ D := (ne_of_none hD4 nq).symm
      have n6D : t6 ≠ D := ne_of h6 hD6 (by intro z; cases z)
      refine ⟨_, hD6, by rw [List.length_map, lt', sizeLine_eq]; omega, fun c o e => off (ne_of_none e nD) (S16 _ _ e), ts' ++ [t6], by rw [upd_same, List.map_append]; rfl, by rw [List.length_append, lt']; rfl, ?_, ?_⟩
      · rw [take_snoc hy]
        exact paired_snoc (SdsAt.off (v := .lst []) hs hD ht' fun c o n e => off n (S46 _ _ (S34 _ _ e))) ⟨p, q, off n6D h6, off npD hp6, off nqD hq6⟩
      · intro t3 h3
        rcases List.mem_append.mp h3 with h | h
        · exact ht' t3 h
        · rw [List.mem_singleton.mp h]
          exact n6D
    · rintro H2 ⟨S2, ts', hD, lt', hs, _⟩
      rw [List.length_map, lt, List.take_length] at hs
      exact k H2 D ts' S2 nD hD hs
theorem scSizes : FnScope ["self", "side", "product", "part"] ["self"] (defScope sSizes) := ⟨rfl, rfl, rfl, by decide +kernel, rfl, by decide +kernel, by decide +kernel⟩
theorem ok_sizes {f : Addr} {fd : FuncData} (F : Fun K "sizes" "Plain.sizes" sSizes f fd) (B : Bl mg) (T : Px P w K mg base C) : FnOk P w K mg base CX0 1 f fd ["self"] (spSizes C) := by
  refine F.ok scSizes (fun vs H Q E h => ?_) (fun cdv A outer s H vs Q E hr h => ?_)
  · obtain ⟨a, ss, rfl, _⟩ := h
    rfl
  · obtain ⟨a, xs, rfl, ⟨dx, l, ts, ha, hl, hx⟩, ok, k⟩ := h
    refine ⟨_, pss_one (ps_ret (pe_callB (cr_sortedSS rfl) (by rfl) B.srt_ (by decide +kernel) (pa_cons (pe_sc3 (own := [("side", 1), ("product", 2), ("part", 3)]) (v1 := [2, 3]) (v2 := [3]) (g0 := gName 1) (w1 := iTup K (tSl (rSlT K) (tVar 1) (tPart (tC (.int 1))) tNoPart)) (g1 := gName 2) (w2 := iList K (tVar 2)) (g2 := gName 3) (te := tVar 3) rfl scSizes.nd
          (blkOk_by (own := [("side", 1), ("product", 2), ("part", 3)]) (N := ["self", "side", "product", "part"]) (sc := defScope sSizes) (by decide +kernel)) (by decide) (by decide) (pi_list (pe_fld (pv 0) rfl))
          (fun _ _ _ _ _ => pg_name (i := 1) scSizes.nd rfl (Or.inl rfl)) (fun _ _ _ _ _ => by exact pi_tup (pe_slice sl_tup (pv 1) (po_some pe_int) po_none)) (fun _ _ _ _ _ => pg_name (i := 2) scSizes.nd rfl (Or.inl rfl))
          (fun _ _ _ _ _ => by exact pi_list (pv 2)) (fun _ _ _ _ _ => pg_name (i := 3) scSizes.nd rfl (Or.inl rfl)) (fun _ _ _ _ _ => pv 3)) pa_nil))), ?_⟩
    have lt := hx.length
    have zl := ok.len
    have all4 : ∀ l : List Str, l.length ≤ 1920 → (putAll [] l).length + 1 < scanBound := fun l h => by
      have h1 := len_putAll l []
      have : (1920 : Nat) + 1 < scanBound := by decide
      simp only [List.length_nil] at h1
      omega
    have lim : ∀ (i : Nat) (y : Sd) (n : List Str), xs[i]? = some y → n.length ≤ 120 → (letsOf (xs.take i) ++ n).length ≤ 1920 := fun i y n hy hn => by
      have h1 := length_lets (ss := xs.take i) fun x hx => ok.ok x (List.mem_of_mem_take hx)
      have h2 := (List.getElem?_eq_some_iff.mp hy).1
      rw [List.length_take] at h1
      rw [List.length_append]
      omega
    refine ⟨_, rfl, a, C, dx, _, _, rfl, ha, T.cl, T.na, rfl, l, rfl, ⟨_, SqL.of hl⟩, fun D nD => ?_⟩
    have up : ∀ {H' : Hp} {v : HO}, Same H H' → Same H (upd H' D v) := fun S c o e => by
      rw [upd_ne (ne_of_none e nD)]
      exact S _ _ e
    refine cl_it (walk_list (xs := ts.map V.ref)) (fun i H' => Same H H' ∧ H' D = some (SetSO P w D (putAll [] (letsOf (xs.take i))))) ⟨Same.upd nD, upd_same⟩ (fun i H' _ q => SqL.of (q.1 _ _ hl)) ?_ ?_
    · rintro i x H5 H6 hi ⟨S5, hD⟩ ⟨rfl, hx2⟩
      rw [List.length_map] at hi
      rw [List.getElem?_map] at hx2
      obtain ⟨t, htt, rfl⟩ := Option.map_eq_some_iff.mp hx2
      obtain ⟨y, hy, u, v, h1, h2, h3⟩ := paired_at hx htt
      obtain ⟨o1, o2, o3, o4, o5⟩ := ok.ok y (List.mem_of_getElem? hy)
      have lt2 : letsOf (xs.take (i + 1)) = letsOf (xs.take i) ++ (y.2.1 ++ y.2.2) := by
        unfold letsOf
        rw [take_snoc hy, List.flatMap_append, List.flatMap_cons, List.flatMap_nil, List.append_nil]
      refine ⟨rfl, _, rfl, 1, rfl, t, _, rfl, SqT.of (S5 _ _ h1), (fun h => absurd (show HT.sIx 3 0 (some 1) = 0 from h.1) (by decide)), fun q nq => ?_⟩
      rw [cut12]
      have nqD : q ≠ D := (ne_of_none hD nq).symm
      refine ⟨q, rfl, ⟨_, SqT.of upd_same⟩, ?_⟩
      have fa : u ≠ D := ne_of_none h2 nD
      have fb : v ≠ D := ne_of_none h3 nD
      refine cl_it (walk_tup (xs := [.ref u, .ref v])) (fun j H' => Same H H' ∧ H' q = some (.tup [.ref u, .ref v]) ∧ H' D = some (SetSO P w D (putAll [] (letsOf (xs.take i) ++ ([y.2.1, y.2.2].take j).flatten)))) ⟨S5.trans (Same.upd nq), upd_same, by rw [upd_ne nqD.symm, hD]; simp⟩ (fun j H' _ q => SqT.of q.2.1) ?_ ?_
      · rintro j x2 H7 H8 hj ⟨S7, hq7, hD7⟩ ⟨rfl, hx3⟩
        have key : ∃ (c : Addr) (zs ps : List Str), x2 = .ref c ∧ H8 c = some (.lst (zs.map V.str)) ∧ c ≠ D ∧ ps = ([y.2.1, y.2.2].take j).flatten ∧ ([y.2.1, y.2.2].take (j + 1)).flatten = ps ++ zs ∧ ps.length + zs.length ≤ 120 := by
          match j, hj with
          | 0, _ => cases hx3; exact ⟨u, y.2.1, [], rfl, S7 _ _ h2, fa, rfl, by simp, by simp; omega⟩
          | 1, _ => cases hx3; exact ⟨v, y.2.2, y.2.1, rfl, S7 _ _ h3, fb, by simp, by simp, by omega⟩
        obtain ⟨c, zs, ps, rfl, hc, ncD, e1, e2, hz⟩ := key
        rw [← e1] at hD7
        refine ⟨rfl, _, rfl, c, rfl, ⟨_, SqL.of hc⟩, ?_⟩
        refine cl_it (walk_list (xs := zs.map V.str)) (fun k H' => Same H H' ∧ H' q = some (.tup [.ref u, .ref v]) ∧ H' c = some (.lst (zs.map V.str)) ∧ H' D = some (SetSO P w D (putAll [] (letsOf (xs.take i) ++ (ps ++ zs.take k))))) ⟨S7, hq7, hc, by rw [List.take_zero, List.append_nil]; exact hD7⟩ (fun k H' _ q => SqL.of q.2.2.1) ?_ ?_
        · rintro k x3 H9 H10 hk ⟨S9, hq9, hc9, hD9⟩ ⟨rfl, hx4⟩
          rw [List.length_map] at hk
          rw [List.getElem?_map] at hx4
          obtain ⟨z, hzz, rfl⟩ := Option.map_eq_some_iff.mp hx4
          refine ⟨rfl, _, rfl, z, _, rfl, hD9, ?_, up S9, ?_, ?_, ?_⟩
          · refine all4 _ (lim i y _ hy ?_)
            rw [List.length_append, List.length_take]
            omega
          · rw [upd_ne nqD]; exact hq9
          · rw [upd_ne ncD]; exact hc9
          · rw [upd_same, putAllS_snoc, take_snoc hzz, List.append_assoc, List.append_assoc]
            rfl
        · rintro H9 ⟨S9, hq9, hc9, hD9⟩
          rw [List.length_map, List.take_length] at hD9
          exact ⟨S9, hq9, by rw [e2]; exact hD9⟩
      · rintro H7 ⟨S7, hq7, hD7⟩
        refine ⟨S7, ?_⟩
        rw [hD7, lt2]
        simp
    · rintro H5 ⟨S5, hD⟩
      rw [List.length_map, lt, List.take_length] at hD
      refine ⟨D, _, rfl, hD, fun ys pm nd so p H6 S6 np hp => ?_⟩
      rw [sortT_one pm so] at hp
      exact k H6 p (S5.trans S6) (S5.free np) hp
end
end E4

set_option Elab.async false
set_option linter.all false
set_option maxRecDepth 100000
set_option maxHeartbeats 1000000
/-! list.remove of a text -/
namespace L2
open PySem PySem.Spec PyProof.Rows
theorem erase_ix : ∀ {zs : List Str} {k : Str}, k ∈ zs → ∃ j, zs[j]? = some k ∧ (∀ m, m < j → zs[m]? ≠ some k) ∧ zs.eraseIdx j = zs.erase k
  | z :: zs, k, h => by
    by_cases e : z = k
    · subst e
      exact ⟨0, rfl, fun m hm => absurd hm (Nat.not_lt_zero _), by simp⟩
    · have hk : k ∈ zs := by
        rcases List.mem_cons.mp h with q | q
        · exact absurd q.symm e
        · exact q
      obtain ⟨j, h1, h2, h3⟩ := erase_ix hk
      refine ⟨j + 1, h1, fun m hm => ?_, ?_⟩
      · cases m with
        | zero => intro q; exact e (Option.some.inj q)
        | succ m => exact h2 m (by omega)
      · rw [List.eraseIdx_cons_succ, h3, List.erase_cons_tail (by simpa using e)]
theorem erase_mapS : ∀ (l : List Str) (j : Nat), (l.map V.str).eraseIdx j = (l.eraseIdx j).map V.str
  | [], j => by simp
  | a :: r, 0 => by simp
  | a :: r, j + 1 => by
    have ih := erase_mapS r j
    simp [ih]
def rRemS : V → List V → Hp → VK → Prop := fun x xs H Q => ∃ (l : Addr) (zs : List Str) (k : Str), x = .ref l ∧ xs = [.str k] ∧ H l = some (.lst (zs.map V.str)) ∧ k ∈ zs ∧ Q .non (upd H l (.lst ((zs.erase k).map V.str)))
theorem mt_removeS {X : Cx} : MtM X "list.remove" rRemS := by
  intro pins s σ H x xs v us Q I rx rxs h
  obtain ⟨l, zs, k, rfl, rfl, hH, hk, q⟩ := h
  obtain ⟨j, hj, hno, ej⟩ := erase_ix hk
  cases rx
  obtain ⟨u, rfl, ru⟩ := rxs.one
  obtain ⟨t, rfl⟩ := ru
  obtain ⟨z, its, n, r, hl, e⟩ := I.lstM hH
  rw [List.length_map] at hl z
  have hjn : j < zs.length := (List.getElem?_eq_some_iff.mp hj).1
  have hjl : j < its.toArray.size := by rw [List.size_toArray]; omega
  have hi := strsAre_of r
  refine call_meets PySem.F.slot_list_remove ⟨_, e, rfl⟩ PySem.F.entry_list_remove (PySem.F.args_list_remove_2 _ _)
    (SeqAt.list_removeAt l its.toArray n none #[] (.str k t) (eqU (.str k)) j hjl ?_ ?_ (by rw [List.size_toArray]; omega)) ⟨e, fun w hw => mem_eqAt (x := .str k) ⟨t, rfl⟩ rfl r (flat_strs zs) w (by simpa using hw), ?_⟩
  · obtain ⟨tj, hjt⟩ := hi.get j k hj
    obtain ⟨h1, h2⟩ := List.getElem?_eq_some_iff.mp hjt
    have e1 : its.toArray[j] = .str k tj := by simpa using h2
    rw [e1]
    show (k == k) = true
    exact beq_self_eq_true k
  · intro m hm hmj
    have hmn : m < zs.length := by omega
    obtain ⟨tm, hmt⟩ := hi.get m _ (List.getElem?_eq_getElem hmn)
    obtain ⟨h1, h2⟩ := List.getElem?_eq_some_iff.mp hmt
    have e1 : its.toArray[m] = .str zs[m] tm := by simpa using h2
    rw [e1]
    show (zs[m] == k) = false
    refine beq_eq_false_iff_ne.mpr fun e2 => hno m hmj ?_
    rw [List.getElem?_eq_getElem hmn, e2]
  · have rr := r.eraseIdx j
    rw [erase_mapS, ej] at rr
    refine ⟨.non, _, I.lset (its' := its.eraseIdx j) (t' := s.toks) hH e ?_ rr ?_, rfl, q⟩
    · show its.toArray.eraseIdxIfInBounds j = (its.eraseIdx j).toArray
      rw [List.eraseIdxIfInBounds_toArray]
    · rw [List.length_map]
      have := List.length_erase_le (a := k) (l := zs)
      omega
end L2

set_option Elab.async false
set_option linter.all false
set_option maxRecDepth 100000
set_option maxHeartbeats 1000000
/-! left_of, misfit -/
namespace E4
open PySem PySem.Spec PyProof.Rows L2
open C8 (Cal Mak Met InsC pe_c pe_mt pe_mt0 call_isC clsBody)
/-- what is left of p -/
def leftOf (p o : List Str) : List Str := o.foldl (fun l z => l.erase z) p
theorem leftOf_snoc (p o : List Str) (z : Str) : leftOf p (o ++ [z]) = (leftOf p o).erase z := by unfold leftOf; rw [List.foldl_append]; rfl
theorem erase_not {z : Str} {l : List Str} (h : z ∉ l) : l.erase z = l := List.erase_of_not_mem h
def spLeft (K : PySem.W.Frag) : Sp := fun vs H Q _ => ∃ (a b : Addr) (p o : List Str), vs = [.ref a, .ref b] ∧ SqL K H a (p.map V.str) ∧ SqL K H b (o.map V.str) ∧ p.length ≤ 1000 ∧ o.length ≤ 1000 ∧ ∀ H' q, Same H H' → H q = none → H' q = some (.lst ((leftOf p o).map V.str)) → Q (.ref q) H'
section
variable {P : Program} {w : World} {K : PySem.W.Frag} {mg : Str → Option Value} {base : Heap} {C : Addr}
theorem inV_str (z : Str) : ∀ xs : List Str, inV (.str z) (xs.map V.str) = decide (z ∈ xs)
  | [] => by simp [inV]
  | x :: xs => by
    have ih := inV_str z xs
    unfold inV at ih ⊢
    rw [List.map_cons, List.any_cons, ih]
    by_cases e : x = z
    · subst e; simp [eqV]
    · have e2 : ¬ z = x := fun q => e q.symm
      simp [eqV, e, e2]
theorem scLeft : FnScope ["product", "other", "left", "name"] ["product", "other"] (defScope sLeftOf) := ⟨rfl, rfl, rfl, by decide +kernel, rfl, by decide +kernel, by decide +kernel⟩
theorem ok_left {f : Addr} {fd : FuncData} (F : Fun K "left_of" "left_of" sLeftOf f fd) (B : Bl mg) : FnOk P w K mg base CX0 1 f fd ["product", "other"] (spLeft K) := by
  refine F.ok scLeft (fun vs H Q E h => ?_) (fun cdv A outer s H vs Q E hr h => ?_)
  · obtain ⟨a, b, p, o, rfl, _⟩ := h
    rfl
  · obtain ⟨a, b, p, o, rfl, ha, hb, zp, zo, k⟩ := h
    refine ⟨_, pss_cons (ps_set (i := 2) scLeft.nd rfl (Or.inl rfl) (pe_callTy call_list_of (by rfl) B.lst_ (by decide +kernel) (pa_cons (pv 0) pa_nil)))
      (pss_cons (ps_for PassesOwn.never rfl (pi_list (pv 1)) (pg_name (i := 3) scLeft.nd rfl (Or.inl rfl))
        (pss_one (ps_if (pt_cmpR op_in_seq (pv 3) (pv 2) (by rfl)) (pss_one (ps_expr (pe_bm PySem.F.plainAttrs_list PySem.F.slot_list_remove PySem.F.type_list_remove mt_removeS (pv 2) (pa_cons (pv 3) pa_nil)))) pss_nil)))
      (pss_one (ps_ret (pv 2)))), ?_⟩
    refine seq_asg ⟨_, rfl, a, _, rfl, .inl ha, fun q nq => ?_⟩
    have S1 : ∀ v : HO, Same H (upd H q v) := fun v => Same.upd nq
    refine ⟨_, rfl, b, rfl, ⟨_, hb.same (S1 _)⟩, for_it (walk_list (xs := o.map V.str)) (fun i σ' H' => ∃ u, σ' = [some (.ref a), some (.ref b), some (.ref q), u] ∧ Same H H' ∧ H' q = some (.lst ((leftOf p (o.take i)).map V.str))) ⟨none, rfl, S1 _, by rw [upd_same]; rfl⟩ (fun i σ' H' _ h => let ⟨_, _, S, _⟩ := h; hb.same S) ?_ ?_⟩
    · rintro i v σ' H1 H2 hi ⟨u, rfl, S, hq⟩ ⟨rfl, hx⟩
      rw [List.length_map] at hi
      rw [List.getElem?_map] at hx
      obtain ⟨z, hz, rfl⟩ := Option.map_eq_some_iff.mp hx
      have fl : ((leftOf p (o.take i)).map V.str).all flatV = true := flat_strs _
      refine ⟨_, rfl, _, rfl, q, _, rfl, .inl (SqL.of hq), rfl, fl, ?_⟩
      have e := leftOf_snoc p (o.take i) z
      rw [← take_snoc hz] at e
      show ∃ k, V.bl (inV (.str z) ((leftOf p (o.take i)).map V.str)) = V.bl k ∧ _
      rw [inV_str]
      refine ⟨_, rfl, ?_⟩
      refine iteD (fun hm => ?_) (fun hm => ?_)
      · refine ⟨_, rfl, .inl ⟨rfl, _, SqL.of hq⟩, _, rfl, q, _, z, rfl, rfl, hq, hm, ?_⟩
        refine ⟨_, rfl, fun c x ec => by rw [upd_ne (ne_of_none ec nq)]; exact S _ _ ec, ?_⟩
        rw [e, upd_same]
      · refine ⟨_, rfl, S, ?_⟩
        rw [e, erase_not hm]
        exact hq
    · rintro σ' H1 ⟨u, rfl, S, hq⟩
      rw [List.length_map, List.take_length] at hq
      exact ⟨_, rfl, k H1 q S nq hq⟩
end
end E4

set_option Elab.async false
set_option linter.all false
set_option maxRecDepth 100000
set_option maxHeartbeats 1000000
/-! misfit, check_table, ordered, own_order -/
namespace E4
open PySem PySem.Spec PyProof.Rows L2
open C8 (Cal Mak Met InsC pe_c pe_mt pe_mt0 call_isC clsBody)
theorem cut_tail (xs : List V) : cutV xs (some 1) none = xs.drop 1 := by
  unfold cutV
  cases xs with
  | nil => rfl
  | cons x r =>
    have e1 : HT.sIx (x :: r).length 0 (some 1) = 1 := by
      simp [HT.sIx, List.length_cons]
      try omega
    have e2 : HT.sIx (x :: r).length (x :: r).length none = (x :: r).length := by rfl
    rw [e1, e2]
    simp
def Fit (x y : Sd) : Prop := leftOf (x.2.2 ++ x.2.1) y.2.2 = []
instance (x y : Sd) : Decidable (Fit x y) := inferInstanceAs (Decidable (_ = _))
def spMisfit (K : PySem.W.Frag) : Sp := fun vs H Q _ => ∃ (l : Addr) (ts : List Addr) (ss : List Sd), vs = [.ref l] ∧ SqL K H l (ts.map V.ref) ∧ SdsAt H ts ss ∧ (∀ x ∈ ss, SdOk x) ∧ ss.length ≤ 60 ∧
  (∀ i x y a b, ss[i]? = some x → ss[i + 1]? = some y → ts[i]? = some a → ts[i + 1]? = some b → ¬ Fit x y → (∀ j, j < i → ∀ x y, ss[j]? = some x → ss[j + 1]? = some y → Fit x y) → ∀ H' p, Same H H' → H p = none → H' p = some (.tup [.ref a, .ref b]) → Q (.ref p) H') ∧
  ((∀ j x y, ss[j]? = some x → ss[j + 1]? = some y → Fit x y) → ∀ H', Same H H' → Q .non H')
section
variable {P : Program} {w : World} {K : PySem.W.Frag} {mg : Str → Option Value} {base : Heap} {C : Addr}
theorem scMisfit : FnScope ["sides", "inner", "outer"] ["sides"] (defScope sMisfit) := ⟨rfl, rfl, rfl, by decide +kernel, rfl, by decide +kernel, by decide +kernel⟩
theorem ok_misfit {f : Addr} {fd : FuncData} (F : Fun K "misfit" "misfit" sMisfit f fd) (B : Bl mg) (L : Cal P w K mg base 1 "left_of" (spLeft K) []) : FnOk P w K mg base CX0 2 f fd ["sides"] (spMisfit K) := by
  refine F.ok scMisfit (fun vs H Q E h => ?_) (fun cdv A outer s H vs Q E hr h => ?_)
  · obtain ⟨l, ts, ss, rfl, _⟩ := h
    rfl
  · obtain ⟨l, ts, ss, rfl, hl, hx, ok, hz, k1, k2⟩ := h
    refine ⟨_, pss_cons (ps_for PassesOwn.never rfl (pi_zip (by rfl) B.zip_ (pa_cons (pv 0) (pa_cons (pe_slice sl_listS (pv 0) (po_some pe_int) po_none) pa_nil))) (pg_tup rfl (pgs_cons (pg_name (i := 1) scMisfit.nd rfl (Or.inl rfl)) (pgs_cons (pg_name (i := 2) scMisfit.nd rfl (Or.inl rfl)) pgs_nil)))
        (pss_one (ps_if (pt_cmpR op_gt (pe_callB call_len_seq (by rfl) B.len_ PySem.boot_len (pa_cons (pe_c L hr (by decide) rfl (pa_cons (pe_op op_catS (pe_ix ix_tup (pv 1) pe_int (fun _ _ => rfl)) (pe_ix ix_tup (pv 1) pe_int (fun _ _ => rfl))) (pa_cons (pe_ix ix_tup (pv 2) pe_int (fun _ _ => rfl)) pa_nil))) pa_nil)) pe_int (by rfl))
          (pss_one (ps_ret (pe_tupS (pa_cons (pv 1) (pa_cons (pv 2) pa_nil))))) pss_nil)))
      (pss_one (ps_ret pe_non)), ?_⟩
    have lt := hx.length
    refine ⟨_, rfl, _, rfl, 1, rfl, l, _, rfl, hl, fun p H1 S1 np hp => ?_⟩
    rw [cut_tail] at hp
    refine ⟨l, p, _, _, rfl, hl.same S1, SqL.of hp, ?_⟩
    refine for_it (walk_zip (xs := ts.map V.ref) (ys := (ts.map V.ref).drop 1) (n := ss.length - 1) ?_) (fun i σ' H' => Same H1 H' ∧ (∃ u v, σ' = [some (.ref l), u, v]) ∧ ∀ j, j < i → ∀ x y, ss[j]? = some x → ss[j + 1]? = some y → Fit x y) ⟨fun _ _ e => e, ⟨none, none, rfl⟩, fun j hj => absurd hj (Nat.not_lt_zero _)⟩ (fun i σ' H' _ q => ⟨(hl.same S1).same q.1, SqL.of (q.1 _ _ hp)⟩) ?_ ?_
    · rw [List.length_drop, List.length_map, lt]
      omega
    · rintro i v σ' H2 H3 hi ⟨S2, ⟨u1, u2, rfl⟩, hf⟩ ⟨T, xv, yv, rfl, nT, rfl, e1, e2⟩
      replace e1 : (ts.map V.ref)[i]? = some xv := e1
      replace e2 : ((ts.map V.ref).drop 1)[i]? = some yv := e2
      rw [List.getElem?_drop] at e2
      rw [List.getElem?_map] at e1 e2
      obtain ⟨a, ha, rfl⟩ := Option.map_eq_some_iff.mp e1
      obtain ⟨b, hb, rfl⟩ := Option.map_eq_some_iff.mp e2
      rw [Nat.add_comm 1 i] at hb
      obtain ⟨x, hxi, a1, a2, r1, r2, r3⟩ := paired_at hx ha
      obtain ⟨y, hyi, b1, b2, q1, q2, q3⟩ := paired_at hx hb
      have S3 : Same H2 (upd H2 T (.tup [.ref a, .ref b])) := Same.upd nT
      have S03 := S1.trans (S2.trans S3)
      obtain ⟨_, _, _, x4, x5⟩ := ok x (List.mem_of_getElem? hxi)
      obtain ⟨_, _, _, y4, y5⟩ := ok y (List.mem_of_getElem? hyi)
      refine ⟨T, _, rfl, SqT.of upd_same, rfl, _, _, rfl, _, _, rfl, rfl, ?_⟩
      refine ⟨_, rfl, a, _, 2, _, rfl, rfl, SqT.of (S03 _ _ r1), rfl, _, rfl, a, _, 1, _, rfl, rfl, SqT.of (S03 _ _ r1), rfl, a2, a1, _, _, rfl, rfl, S03 _ _ r3, S03 _ _ r2, by rw [List.length_map, List.length_map, sizeLine_eq]; omega, fun c H4 S4 nc hc => ?_⟩
      have S04 := S03.trans S4
      refine ⟨_, rfl, b, _, 2, _, rfl, rfl, SqT.of (S04 _ _ q1), rfl, ?_⟩
      refine ⟨c, b2, x.2.2 ++ x.2.1, y.2.2, rfl, SqL.of (by rw [hc, List.map_append]), SqL.of (S04 _ _ q3), by rw [List.length_append]; omega, by omega, fun H5 q S5 nq hq => ?_⟩
      refine ⟨q, _, rfl, .inl (SqL.of hq), ?_⟩
      have S25 := S3.trans (S4.trans S5)
      have S05 := S04.trans S5
      rw [List.length_map]
      refine ⟨_, _, rfl, rfl, _, rfl, iteD (fun h0 => ?_) (fun h0 => ?_)⟩
      · have nf : ¬ Fit x y := fun e => by
          unfold Fit at e
          rw [e] at h0
          exact absurd h0 (by decide)
        refine ⟨_, rfl, _, rfl, by show 2 ≤ sizeLine; decide, fun t6 H6 S6 n6 h6 => ?_⟩
        exact k1 i x y a b hxi hyi ha hb nf hf H6 t6 (S05.trans S6) (S05.free n6) h6
      · have f : Fit x y := by
          unfold Fit
          rw [← List.length_eq_zero_iff]
          omega
        refine ⟨S2.trans S25, ⟨_, _, rfl⟩, fun j hj x2 y2 hx2 hy2 => ?_⟩
        by_cases e : j = i
        · subst e
          rw [hxi] at hx2
          rw [hyi] at hy2
          cases hx2
          cases hy2
          exact f
        · exact hf j (by omega) x2 y2 hx2 hy2
    · rintro σ' H2 ⟨S2, ⟨u, v, rfl⟩, hf⟩
      refine k2 (fun j x y hj hj1 => hf j ?_ x y hj hj1) H2 (S1.trans S2)
      have := (List.getElem?_eq_some_iff.mp hj1).1
      omega
end
end E4

set_option Elab.async false
set_option linter.all false
set_option maxRecDepth 100000
set_option maxHeartbeats 1000000
/-! check_table, ordered, own_order -/
namespace L2
open PySem PySem.Spec PyProof.Rows
open LamX (Tabs ExtN TabB CodeO)
theorem sortB_map {β γ : Type} {f : β → γ} {ln : γ → Nat} (xs : List β) : (sortB (fun x => ln (f x)) xs).map f = sortB ln (xs.map f) := List.map_mergeSort fun _ _ _ _ => rfl
theorem ret_of {te : TE} {D : Ends} {σ : St} {H : Hp} (h : te σ H D.rt) : tRet te D σ H := h
theorem newT_of {H H2 : Hp} {p : Addr} (ex : ExtN H H2) (n : H2 p = none) : NewT H p := fun o e => Classical.byContradiction fun no => by
  have z := ex _ _ e fun ps e2 => no ⟨ps, e2⟩
  rw [n] at z
  cases z
theorem NewT.none {H : Hp} {p : Addr} (h : NewT H p) {o : HO} (e : H p = some o) (t : ∀ ps, o ≠ .tbl ps) : False := let ⟨ps, q⟩ := h o e; t ps q
/-- a def whose code object is known: its body as a term -/
theorem Fun.okC {P : Program} {w : World} {K : PySem.W.Frag} {mg : Str → Option Value} {base : Heap} {x qual : Str} {st : Stmt} {f c : Addr} {fd : FuncData} {N ps : List Str} {k : Nat} {sp : Sp} (F : Fun K x qual st f fd) (hc : fd.code = .ref c) (S : FnScope N ps (defScope st)) (len : ∀ vs H Q E, sp vs H Q E → vs.length = ps.length)
    (hbody : ∀ (A : Around) (outer : List Env) (s : Shared) (H : Hp) (vs : List V) (Q : VK) (E : XK), Room k (A.deeper (envOfC qual (defScope st) s.heap.objs.size f (.ref c))) → sp vs H Q E →
      ∃ t, PSs (cxOf CX0 P w K mg base N qual (defScope st) f (.ref c) A outer s H E).nox (defBody st) t ∧ t { nx := fun _ H' => Q .non H', rt := Q } (start N vs) H) : FnOk P w K mg base CX0 (k + 1) f fd ps sp := by
  obtain ⟨oc, od, kV, doc, pm, an, cdv, ct, osl, rfl, lk, hcd⟩ := F.ex
  obtain rfl : cdv = .ref c := hc
  refine fn_of lk hcd S len fun A outer s H vs Q E hr hsp => ?_
  obtain ⟨t, h, q⟩ := hbody A outer s H vs Q E hr hsp
  exact ⟨t, h.nox, q⟩
end L2
namespace E4
open PySem PySem.Spec PyProof.Rows L2
open C8 (Cal Mak Met InsC pe_c pe_mt pe_mt0 call_isC clsBody)
open LamX (Tabs ExtN TabB CodeO)
theorem SdAt.ext {H H' : Hp} {t : Addr} {x : Sd} (h : SdAt H t x) (S : ExtN H H') : SdAt H' t x :=
  let ⟨a, b, h1, h2, h3⟩ := h; ⟨a, b, S _ _ h1 (fun _ z => nomatch z), S _ _ h2 (fun _ z => nomatch z), S _ _ h3 (fun _ z => nomatch z)⟩
theorem SdsAt.ext {H H' : Hp} {ts : List Addr} {xs : List Sd} (h : SdsAt H ts xs) (S : ExtN H H') : SdsAt H' ts xs := h.imp fun _ _ _ q => q.ext S
theorem PlAt.ext {C : Addr} {H H' : Hp} {a : Addr} {ss : List Sd} (h : PlAt C H a ss) (S : ExtN H H') : PlAt C H' a ss :=
  let ⟨dx, l, ts, h1, h2, h3⟩ := h; ⟨dx, l, ts, S _ _ h1 (fun _ z => nomatch z), S _ _ h2 (fun _ z => nomatch z), h3.ext S⟩
/-- the sides with two cells or more, those with fewer letters in their step first -/
def ordL (ss : List Sd) : List Sd := sortB (fun x : Sd => x.2.2.length) (ss.filter fun x => decide (0 < x.2.1.length))
theorem mem_ordL {ss : List Sd} {x : Sd} : x ∈ ordL ss ↔ x ∈ ss ∧ 0 < x.2.1.length := by
  unfold ordL sortB
  rw [List.mem_mergeSort, List.mem_filter, decide_eq_true_iff]
theorem length_ordL (ss : List Sd) : (ordL ss).length ≤ ss.length := by
  unfold ordL sortB
  rw [List.length_mergeSort]
  exact List.length_filter_le ..
/-- the class as a value -/
structure Cv (K : PySem.W.Frag) (mg : Str → Option Value) (C : Addr) : Prop where
  ins : InsC K C
  mgP : mg "Plain" = some (.ref C)
def spCheckT (C : Addr) : Sp := fun vs H Q _ => ∃ (a : Addr) (dx : Addr) (fs : List (Str × V)), vs = [.ref a] ∧ H a = some (.ins C dx fs) ∧ Q .non H
def spOrdered (T : List (Addr × Str)) (C : Addr) : Sp := fun vs H Q _ => ∃ (a : Addr) (ss : List Sd), vs = [.ref a] ∧ PlAt C H a ss ∧ SdsOk ss ∧ Tabs T H ∧
  ∀ H' p ts, ExtN H H' → Tabs T H' → NewT H p → H' p = some (.lst (ts.map V.ref)) → SdsAt H' ts (ordL ss) → Q (.ref p) H'
section
variable {P : Program} {w : World} {K : PySem.W.Frag} {mg : Str → Option Value} {base : Heap} {C : Addr}
theorem scCheckT : FnScope ["table"] ["table"] (defScope sCheckTable) := ⟨rfl, rfl, rfl, by decide +kernel, rfl, by decide +kernel, by decide +kernel⟩
theorem ok_checkT {f : Addr} {fd : FuncData} (F : Fun K "check_table" "check_table" sCheckTable f fd) (B : Bl mg) (V : Cv K mg C) : FnOk P w K mg base CX0 1 f fd ["table"] (spCheckT C) := by
  refine F.ok scCheckT (fun vs H Q E h => ?_) (fun cdv A outer s H vs Q E hr h => ?_)
  · obtain ⟨a, dx, fs, rfl, _⟩ := h
    rfl
  · obtain ⟨a, dx, fs, rfl, ha, k⟩ := h
    refine ⟨_, pss_one (ps_if (pt_not (pt_val (pe_callB (call_isC V.ins) (by rfl) B.isi (by decide +kernel) (pa_cons (pv 0) (pa_cons (pe_glob (v := .ref C) (by rfl) V.mgP rfl) pa_nil))))) (pss_one ps_never) pss_nil), ?_⟩
    exact ⟨_, rfl, a, dx, fs, rfl, ha, true, rfl, iteF k⟩
theorem scOrdered : FnScope ["table", "side"] ["table"] (defScope sOrdered) := ⟨rfl, rfl, rfl, by decide +kernel, rfl, by decide +kernel, by decide +kernel⟩
theorem ok_ordered {T : List (Addr × Str)} {f c Pt : Addr} {fd : FuncData} (F : Fun K "ordered" "ordered" sOrdered f fd) (hc : fd.code = .ref c) (B : Bl mg) (TB : TabB base mg c Pt) (hm : (Pt, ("ordered.<locals>.<lambda>" : Str)) ∈ T) (hu : ∀ p ∈ T, p.1 = Pt → p.2 = "ordered.<locals>.<lambda>")
    (Sd_ : Met P w K mg base 1 C "sides" (spSides C) []) : FnOk P w K mg base CX0 2 f fd ["table"] (spOrdered T C) := by
  refine F.okC hc scOrdered (fun vs H Q E h => ?_) (fun A outer s H vs Q E hr h => ?_)
  · obtain ⟨a, ss, rfl, _⟩ := h
    rfl
  · obtain ⟨a, ss, rfl, hp, ok, tb, k⟩ := h
    refine ⟨_, pss_one (ps_ret (pe_sortedP (ad := fun x : Addr × Sd => x.1) (ln := fun x => x.2.2.2.length) (T := T) (c := c) (P := Pt) (hr.mono (by decide)) (by rfl) B.srt_ B.len_ TB rfl hm hu
      (pe_lc (own := [("side", 1)]) (g := gName 1) (tt := tTest (tOp (rI0 fun i j => .bl (decide (j < i))) (tCB (fun xs H Q => ∃ p ys, xs = [.ref p] ∧ (SqL K H p ys ∨ SqT K H p ys) ∧ Q (.int (ys.length : Nat)) H) (tCons (tOp (rIxT K) (tVar 1) (tC (.int 1))) tNil)) (tC (.int 0)))) (te := tVar 1) rfl scOrdered.nd (pi_list (pe_mt0 Sd_ hr (by decide) (pv 0)))
        (blkOk_by (own := [("side", 1)]) (N := ["table", "side"]) (sc := defScope sOrdered) (by decide +kernel))
        (fun _ _ _ _ _ => pg_name (i := 1) scOrdered.nd rfl (Or.inl rfl))
        (fun _ _ _ _ _ => by exact pts_one (pt_cmpR op_gt (pe_callB call_len_seq (by rfl) B.len_ PySem.boot_len (pa_cons (pe_ix ix_tup (pv 1) pe_int (fun _ _ => rfl)) pa_nil)) pe_int (by rfl))) (fun _ _ _ _ _ => pv 1)))), ?_⟩
    have zl := ok.len
    obtain ⟨dx, l0, ts0, ha, hl0, hx0⟩ := id hp
    refine ret_of ?_
    refine ⟨_, rfl, a, dx, _, rfl, ha, rfl, a, ss, rfl, hp, ok, fun H1 p ts S1 np hpp hx => ?_⟩
    have lt := hx.length
    refine ⟨p, rfl, ⟨_, SqL.of hpp⟩, fun D nD => ?_⟩
    have hz : ∀ (i : Nat) (t : Addr) (y : Sd), ts[i]? = some t → ss[i]? = some y → (ts.zip ss)[i]? = some (t, y) := fun i t y h1 h2 => by rw [List.getElem?_zip_eq_some]; exact ⟨h1, h2⟩
    refine lc_it (walk_list (xs := ts.map V.ref)) (fun i H' => Same H1 H' ∧ H' D = some (.lst ((((ts.zip ss).take i).filter fun x => decide (0 < x.2.2.1.length)).map fun x => V.ref x.1))) ⟨Same.upd nD, upd_same⟩ (fun i H' _ q => SqL.of (q.1 _ _ hpp)) ?_ ?_
    · rintro i v H2 H3 hi ⟨S2, hD⟩ ⟨rfl, hx2⟩
      rw [List.length_map] at hi
      rw [List.getElem?_map] at hx2
      obtain ⟨t, htt, rfl⟩ := Option.map_eq_some_iff.mp hx2
      obtain ⟨y, hy, u, v, h1, h2, h3⟩ := paired_at hx htt
      refine ⟨rfl, _, rfl, t, _, 1, _, rfl, rfl, SqT.of (S2 _ _ h1), rfl, u, _, rfl, .inl (SqL.of (S2 _ _ h2)), ?_⟩
      rw [List.length_map]
      refine ⟨_, _, rfl, rfl, _, rfl, ?_⟩
      have e := take_snoc (hz i t y htt hy)
      refine iteD (fun h0 => ?_) (fun h0 => ?_)
      · refine ⟨_, rfl, _, hD, ?_, ?_, ?_⟩
        · rw [List.length_map, sizeLine_eq]
          have := List.length_filter_le (fun x : Addr × Sd => decide (0 < x.2.2.1.length)) ((ts.zip ss).take i)
          rw [List.length_take] at this
          omega
        · intro c o ec
          rw [upd_ne (ne_of_none ec nD)]
          exact S2 _ _ ec
        · rw [upd_same, e, List.filter_append, List.map_append]
          rw [List.filter_cons_of_pos (p := fun x : Addr × Sd => decide (0 < x.2.2.1.length)) (decide_eq_true (by show 0 < y.2.1.length; omega))]
          rfl
      · refine ⟨S2, ?_⟩
        rw [e, List.filter_append]
        rw [List.filter_cons_of_neg (p := fun x : Addr × Sd => decide (0 < x.2.2.1.length)) (by
          rw [decide_eq_true_iff]
          show ¬ 0 < y.2.1.length
          omega), List.filter_nil, List.append_nil]
        exact hD
    · rintro H2 ⟨S2, hD⟩
      rw [List.length_map] at hD
      have e0 : (ts.zip ss).take ts.length = ts.zip ss := List.take_of_length_le (by rw [List.length_zip]; omega)
      rw [e0] at hD
      have e1 : (ts.zip ss).map (·.2) = ss := List.map_snd_zip (by omega)
      have hin : ∀ x ∈ ts.zip ss, SdAt H2 x.1 x.2 := fun x hx1 => by
        obtain ⟨i, hi⟩ := List.mem_iff_getElem?.mp hx1
        rw [List.getElem?_zip_eq_some] at hi
        obtain ⟨y, hy, r⟩ := paired_at hx hi.1
        rw [hi.2] at hy
        cases hy
        exact r.same S2
      generalize hams : (ts.zip ss).filter (fun x => decide (0 < x.2.2.1.length)) = ams at hD
      have lam : ams.length ≤ 60 := by
        have := List.length_filter_le (fun x : Addr × Sd => decide (0 < x.2.2.1.length)) (ts.zip ss)
        rw [hams, List.length_zip] at this
        omega
      have hin2 : ∀ x ∈ ams, SdAt H2 x.1 x.2 := fun x hx1 => hin x (by rw [← hams] at hx1; exact (List.mem_filter.mp hx1).1)
      have em : ams.map (·.2) = ss.filter fun x => decide (0 < x.2.1.length) := by
        rw [← hams]
        have := List.filter_map (f := fun x : Addr × Sd => x.2) (p := fun x : Sd => decide (0 < x.2.1.length)) (l := ts.zip ss)
        rw [e1] at this
        rw [this]
        rfl
      have ex2 : ExtN H H2 := ExtN.of fun b o e => S2 _ _ (S1 _ _ e)
      refine ⟨D, ams, rfl, SqL.of hD, fun x hx1 => ?_, by rw [sizeLine_eq]; omega, tb.ext fun b o e => S2 _ _ (S1 _ _ e), fun H3 q ex tb3 nq hq => ?_⟩
      · obtain ⟨u, v, r1, r2, r3⟩ := hin2 x hx1
        exact ⟨_, _, v, _, SqT.of r1, SqL.of r3, by rw [List.length_map]⟩
      · refine k H3 q ((sortB (fun x : Addr × Sd => x.2.2.2.length) ams).map (·.1)) (ex2.trans ex) tb3 (fun o e => ?_) (by rw [hq, List.map_map]; rfl) ?_
        · exact nq o (S2 _ _ (S1 _ _ e))
        · have e3 : ordL ss = (sortB (fun x : Addr × Sd => x.2.2.2.length) ams).map (·.2) := by
            unfold ordL
            rw [← em]
            exact (sortB_map (f := fun x : Addr × Sd => x.2) (ln := fun x : Sd => x.2.2.length) ams).symm
          rw [e3]
          have all : ∀ x ∈ sortB (fun x : Addr × Sd => x.2.2.2.length) ams, SdAt H3 x.1 x.2 := fun x hx1 => (hin2 x (List.mem_mergeSort.mp hx1)).ext ex
          generalize sortB (fun x : Addr × Sd => x.2.2.2.length) ams = l at all
          clear hq e3
          induction l with
          | nil => exact .nil
          | cons y l ih => exact .cons (all y List.mem_cons_self) (ih fun z hz => all z (List.mem_cons_of_mem _ hz))
end
end E4

set_option Elab.async false
set_option linter.all false
set_option maxRecDepth 100000
set_option maxHeartbeats 1000000
/-! own_order, check_own_places, product_at -/
namespace E4
open PySem PySem.Spec PyProof.Rows L2
open C8 (Cal Mak Met InsC pe_c pe_mt pe_mt0 call_isC clsBody)
open LamX (Tabs ExtN TabB CodeO)
/-- each fits into the step of the next -/
def ChnL (ss : List Sd) : Prop := ∀ (j : Nat) x y, ss[j]? = some x → ss[j + 1]? = some y → Fit x y
/-- the cells have places of their own -/
def Chn (ss : List Sd) : Prop := ChnL (ordL ss)
def spOwn (T : List (Addr × Str)) (C : Addr) : Sp := fun vs H Q _ => ∃ (a : Addr) (ss : List Sd), vs = [.ref a] ∧ PlAt C H a ss ∧ SdsOk ss ∧ Tabs T H ∧
  (Chn ss → ∀ H' p, ExtN H H' → Tabs T H' → NewT H p → H' p = some (.lst (((ordL ss).map (·.1)).map V.str)) → Q (.ref p) H') ∧ (¬ Chn ss → ∀ H', ExtN H H' → Tabs T H' → Q .non H')
def spCheckO (T : List (Addr × Str)) (C : Addr) : Sp := fun vs H Q _ => ∃ (a : Addr) (ss : List Sd), vs = [.ref a] ∧ PlAt C H a ss ∧ SdsOk ss ∧ Tabs T H ∧ Chn ss ∧ ∀ H', ExtN H H' → Tabs T H' → Q .non H'
def prodI (l : List Int) : Int := l.foldr (· * ·) 1
theorem prodI_append (a b : List Int) : prodI (a ++ b) = prodI a * prodI b := by
  unfold prodI
  induction a with
  | nil => simp
  | cons x a ih => rw [List.cons_append, List.foldr_cons, List.foldr_cons, ih, Int.mul_assoc]
def spProd (K : PySem.W.Frag) : Sp := fun vs H Q _ => ∃ (t d : Addr) (m : List Str) (kvs : List (Key × V)) (g : Str → Int), vs = [.ref t, .ref d] ∧ SqL K H t (m.map V.str) ∧ H d = some (.dK kvs) ∧ (∀ x ∈ m, valV kvs (Sum.inr x) = some (.int (g x))) ∧ m.length ≤ 1000 ∧ (∀ x ∈ m, (g x).natAbs < 2 ^ 400) ∧ Q (.int (prodI (m.map g))) H
theorem cmw {i j : Int} {a b : Nat} (ha : i.natAbs < 2 ^ a) (hb : j.natAbs < 2 ^ b) (h0 : 0 < a) (h1 : 0 < b) (h : a + b ≤ 1000000) : CMulW i j := wide_mul ha hb h0 h1 h
theorem prod_lt (g : Str → Int) : ∀ l : List Str, (∀ x ∈ l, (g x).natAbs < 2 ^ 400) → (prodI (l.map g)).natAbs < 2 ^ (1 + l.length * 400)
  | [], _ => by show (1 : Int).natAbs < 2 ^ (1 + 0 * 400); decide
  | x :: l, h => by
    have ih := prod_lt g l fun y hy => h y (List.mem_cons.mpr (.inr hy))
    have hx := h x (List.mem_cons.mpr (.inl rfl))
    have e := wide_lt (a := 400) (b := 1 + l.length * 400) hx ih
    have e2 : 400 + (1 + l.length * 400) = 1 + (x :: l).length * 400 := by rw [List.length_cons, Nat.add_mul]; omega
    rw [e2] at e
    exact e
section
variable {P : Program} {w : World} {K : PySem.W.Frag} {mg : Str → Option Value} {base : Heap} {C : Addr}
theorem scOwn : FnScope ["table", "sides"] ["table"] (defScope sOwnOrder) := ⟨rfl, rfl, rfl, by decide +kernel, rfl, by decide +kernel, by decide +kernel⟩
theorem ok_own {T : List (Addr × Str)} {f : Addr} {fd : FuncData} (F : Fun K "own_order" "own_order" sOwnOrder f fd) (Ct : Cal P w K mg base 1 "check_table" (spCheckT C) []) (Or_ : Cal P w K mg base 2 "ordered" (spOrdered T C) []) (Mf : Cal P w K mg base 2 "misfit" (spMisfit K) []) (Nm : Cal P w K mg base 1 "names_of" (spNames K) []) :
    FnOk P w K mg base CX0 3 f fd ["table"] (spOwn T C) := by
  refine F.ok scOwn (fun vs H Q E h => ?_) (fun cdv A outer s H vs Q E hr h => ?_)
  · obtain ⟨a, ss, rfl, _⟩ := h
    rfl
  · obtain ⟨a, ss, rfl, hp, ok, tb, k1, k2⟩ := h
    refine ⟨_, pss_cons (ps_expr (pe_c Ct hr (by decide) rfl (pa_cons (pv 0) pa_nil)))
      (pss_cons (ps_set (i := 1) scOwn.nd rfl (Or.inl rfl) (pe_c Or_ hr (by decide) rfl (pa_cons (pv 0) pa_nil)))
      (pss_one (ps_ret (pe_ifExp (pt_cmp (pc_isN (pe_c Mf hr (by decide) rfl (pa_cons (pv 1) pa_nil)))) (pe_c Nm hr (by decide) rfl (pa_cons (pv 1) pa_nil)) pe_non)))), ?_⟩
    obtain ⟨dx, l0, ts0, ha, hl0, hx0⟩ := id hp
    refine ⟨_, rfl, a, dx, _, rfl, ha, ?_⟩
    dsimp only
    refine seq_asg ⟨_, rfl, a, ss, rfl, hp, ok, tb, fun H1 p ts ex tb1 np hpp hx => ?_⟩
    have lo : (ordL ss).length ≤ 60 := Nat.le_trans (length_ordL ss) (by have := ok.len; omega)
    have oko : ∀ x ∈ ordL ss, SdOk x := fun x hx1 => ok.ok x (mem_ordL.mp hx1).1
    refine ret_of ?_
    refine ⟨_, rfl, p, ts, ordL ss, rfl, SqL.of hpp, hx, oko, lo, fun i x y ta tb' h1 h2 h3 h4 nf hf H2 q S2 nq hq => ?_, fun hall H2 S2 => ?_⟩
    · refine ⟨_, rfl, ifF rfl ?_⟩
      exact k2 (fun c => nf (c i x y h1 h2)) H2 (ex.trans (ExtN.of S2)) (tb1.ext S2)
    · refine ⟨_, rfl, ifT rfl ?_⟩
      refine ⟨_, rfl, p, ts, ordL ss, rfl, SqL.of (S2 _ _ hpp), hx.same S2, lo, fun H3 q S3 nq hq => ?_⟩
      have ex3 := ex.trans (ExtN.of (S2.trans S3))
      refine k1 hall H3 q ex3 ((tb1.ext S2).ext S3) (fun o e => ?_) hq
      exact newT_of (ex.trans (ExtN.of S2)) nq o e
theorem scCheckO : FnScope ["table"] ["table"] (defScope sCheckOwn) := ⟨rfl, rfl, rfl, by decide +kernel, rfl, by decide +kernel, by decide +kernel⟩
theorem ok_checkO {T : List (Addr × Str)} {f : Addr} {fd : FuncData} (F : Fun K "check_own_places" "check_own_places" sCheckOwn f fd) (Ow : Cal P w K mg base 3 "own_order" (spOwn T C) []) : FnOk P w K mg base CX0 4 f fd ["table"] (spCheckO T C) := by
  refine F.ok scCheckO (fun vs H Q E h => ?_) (fun cdv A outer s H vs Q E hr h => ?_)
  · obtain ⟨a, ss, rfl, _⟩ := h
    rfl
  · obtain ⟨a, ss, rfl, hp, ok, tb, hc, k⟩ := h
    refine ⟨_, pss_one (ps_if (pt_cmp (pc_isN (pe_c Ow hr (by decide) rfl (pa_cons (pv 0) pa_nil)))) (pss_one ps_never) pss_nil), ?_⟩
    refine ⟨_, rfl, a, ss, rfl, hp, ok, tb, fun _ H1 p ex tb1 np hpp => ?_, fun no => absurd hc no⟩
    exact ⟨_, rfl, ifF rfl (k H1 ex tb1)⟩
theorem scProd : FnScope ["names", "values", "found", "name"] ["names", "values"] (defScope sProductAt) := ⟨rfl, rfl, rfl, by decide +kernel, rfl, by decide +kernel, by decide +kernel⟩
theorem ok_prod {f : Addr} {fd : FuncData} (F : Fun K "product_at" "product_at" sProductAt f fd) : FnOk P w K mg base CX0 1 f fd ["names", "values"] (spProd K) := by
  refine F.ok scProd (fun vs H Q E h => ?_) (fun cdv A outer s H vs Q E hr h => ?_)
  · obtain ⟨t, d, m, kvs, g, rfl, _⟩ := h
    rfl
  · obtain ⟨t, d, m, kvs, g, rfl, ht, hd, hg, hl, hb, k⟩ := h
    have u1 := Nat.lt_of_le_of_lt (Nat.add_le_add_left (by decide : 1 ≤ 64) _) hr.units
    refine ⟨_, pss_cons (ps_set (i := 2) scProd.nd rfl (Or.inl rfl) pe_int)
      (pss_cons (ps_for PassesOwn.never rfl (pi_list (pv 0)) (pg_name (i := 3) scProd.nd rfl (Or.inl rfl)) (pss_one (ps_set (i := 2) scProd.nd rfl (Or.inl rfl) (pe_op op_mulW (pv 2) (pe_dget u1 (pv 1) (pv 3) (fun _ _ => rfl))))))
      (pss_one (ps_ret (pv 2)))), ?_⟩
    refine seq_asg ⟨_, rfl, t, rfl, ⟨_, ht⟩, for_it (walk_list (xs := m.map V.str)) (fun i σ H' => H' = H ∧ ∃ u, σ = [some (.ref t), some (.ref d), some (.int (prodI ((m.take i).map g))), u]) ⟨rfl, none, rfl⟩ ?_ ?_ ?_⟩
    · rintro i σ H' _ ⟨rfl, _⟩
      exact ht
    · rintro i x σ H1 H2 hi ⟨rfl, u, rfl⟩ ⟨rfl, hx⟩
      rw [List.length_map] at hi
      rw [List.getElem?_map] at hx
      obtain ⟨z, hz, rfl⟩ := Option.map_eq_some_iff.mp hx
      have hm := List.mem_of_getElem? hz
      have p1 := prod_lt g (m.take i) fun y hy => hb y (List.mem_of_mem_take hy)
      have tl : (m.take i).length ≤ 1000 := by rw [List.length_take]; omega
      refine ⟨_, rfl, _, rfl, _, rfl, d, _, rfl, by rw [← hg z hm]; exact DGet.k (k := Sum.inr z) hd, _, _, rfl, rfl, cmw p1 (hb z hm) (by omega) (by decide) (by omega), rfl, some (V.str z), ?_⟩
      rw [take_snoc hz, List.map_append, prodI_append]
      show _ = [_, _, some (V.int (_ * (g z * 1))), _]
      rw [Int.mul_one]
      rfl
    · rintro σ H1 ⟨rfl, u, rfl⟩
      rw [List.length_map, List.take_length]
      exact ⟨_, rfl, k⟩
end
end E4

set_option Elab.async false
set_option linter.all false
set_option maxRecDepth 100000
set_option maxHeartbeats 1000000
/-! is_values, check_values, twos, cell_on -/
namespace E4
open PySem PySem.Spec PyProof.Rows L2
open C8 (Cal Mak Met InsC pe_c pe_mt pe_mt0 call_isC clsBody)
/-- a dict of whole numbers by texts -/
abbrev Vls := List (Str × Int)
def dI (l : Vls) : List (Key × V) := l.map fun x => (Sum.inr x.1, V.int x.2)
def getI (l : Vls) (z : Str) : Option Int := (l.find? fun x => decide (x.1 = z)).map (·.2)
def setI (l : Vls) (z : Str) (n : Int) : Vls := if (l.any fun x => decide (x.1 = z)) = true then l.map (fun x => if x.1 = z then (x.1, n) else x) else l ++ [(z, n)]
theorem valV_dI (z : Str) : ∀ l : Vls, valV (dI l) (Sum.inr z) = (getI l z).map V.int
  | [] => rfl
  | x :: l => by
    have ih := valV_dI z l
    unfold dI getI at ih ⊢
    rw [List.map_cons]
    by_cases e : x.1 = z
    · rw [valV_pos (by rw [e])]
      simp [e]
    · rw [valV_neg (by intro q; exact e (Sum.inr.inj q)), ih]
      simp [e]
theorem any_dI (z : Str) (l : Vls) : ((dI l).any fun kv => decide (kv.1 = Sum.inr z)) = l.any fun x => decide (x.1 = z) := by
  unfold dI
  rw [List.any_map]
  congr 1
  funext x
  simp
theorem putK_dI (l : Vls) (z : Str) (n : Int) : putK (dI l) (Sum.inr z) (V.int n) = dI (setI l z n) := by
  unfold putK setI
  rw [any_dI]
  split
  · unfold dI
    rw [List.map_map, List.map_map]
    refine List.map_congr_left fun x _ => ?_
    by_cases e : x.1 = z
    · simp [e]
    · simp [e]
  · unfold dI
    rw [List.map_append]
    rfl
theorem getI_isSome {l : Vls} {z : Str} (h : z ∈ l.map (·.1)) : ∃ n, getI l z = some n ∧ (z, n) ∈ l := by
  obtain ⟨x, hx, e⟩ := List.mem_map.mp h
  unfold getI
  cases c : l.find? fun x => decide (x.1 = z) with
  | none => exact absurd (decide_eq_true e) (by simpa using List.find?_eq_none.mp c x hx)
  | some y =>
    have h1 := List.find?_some c
    have h2 := List.mem_of_find?_eq_some c
    have h3 : y.1 = z := of_decide_eq_true h1
    exact ⟨y.2, rfl, by rw [← h3]; exact h2⟩
/-- good values -/
def VlsOk (l : Vls) : Prop := (∀ x ∈ l, LetOk x.1 ∧ x.2.natAbs < 2 ^ 400) ∧ l.length ≤ 2000
def spIsVals (K : PySem.W.Frag) : Sp := fun vs H Q _ => ∃ (d l : Addr) (vl : Vls) (xs : List Str), vs = [.ref d, .ref l] ∧ H d = some (.dK (dI vl)) ∧ VlsOk vl ∧ SqL K H l (xs.map V.str) ∧ xs.length ≤ 2000 ∧ (∀ x ∈ xs, x ∈ vl.map (·.1)) ∧ ∀ H', Same H H' → Q (.bl true) H'
def spCheckV (K : PySem.W.Frag) : Sp := fun vs H Q _ => ∃ (d l : Addr) (vl : Vls) (xs : List Str), vs = [.ref d, .ref l] ∧ H d = some (.dK (dI vl)) ∧ VlsOk vl ∧ SqL K H l (xs.map V.str) ∧ xs.length ≤ 2000 ∧ (∀ x ∈ xs, x ∈ vl.map (·.1)) ∧ (∀ x ∈ vl, 1 ≤ x.2) ∧ ∀ H', Same H H' → Q .non H'
section
variable {P : Program} {w : World} {K : PySem.W.Frag} {mg : Str → Option Value} {base : Heap} {C : Addr}
theorem len_dI (l : Vls) : (dI l).length = l.length := List.length_map ..
theorem scIsVals : FnScope ["values", "names", "name", "value"] ["values", "names"] (defScope sIsValues) := ⟨rfl, rfl, rfl, by decide +kernel, rfl, by decide +kernel, by decide +kernel⟩
theorem ok_isVals {f : Addr} {fd : FuncData} (F : Fun K "is_values" "is_values" sIsValues f fd) (B : Bl mg) (L : Cal P w K mg base 1 "is_letter" spIsLet []) (Wh : Cal P w K mg base 1 "is_whole" spWhole []) : FnOk P w K mg base CX0 2 f fd ["values", "names"] (spIsVals K) := by
  refine F.ok scIsVals (fun vs H Q E h => ?_) (fun cdv A outer s H vs Q E hr h => ?_)
  · obtain ⟨d, l, kvs, xs, rfl, _⟩ := h
    rfl
  · obtain ⟨d, l, vl, xs, rfl, hd, ⟨hv, hk⟩, hl, hx, hin, k⟩ := h
    have u1 := Nat.lt_of_le_of_lt (Nat.add_le_add_left (by decide : 1 ≤ 64) _) hr.units
    refine ⟨_, pss_cons (ps_if (pt_not (pt_val (pe_callB call_isi (by rfl) B.isi (by decide +kernel) (pa_cons (pv 0) (pa_cons (pe_bltn (v := .ty "dict") (by rfl) B.dict_ (by decide +kernel) rfl) pa_nil))))) (pss_one (ps_ret pe_bl)) pss_nil)
      (pss_cons (ps_if (pt_not (pt_val (pe_callB (cr_all rfl) (by rfl) B.all_ (by decide +kernel) (pa_cons (pe_lock (pe_lc (own := [("name", 2), ("value", 3)]) (g := gTup K 2 (gCons (gName 2) (gCons (gName 3) gNil))) (tt := tYes) (te := tAndV (tCall spIsLet [] C8.E0 (tCons (tVar 2) tNil)) (tCall spWhole [] C8.E0 (tCons (tVar 3) tNil))) rfl scIsVals.nd (pi_items (pv 0))
          (blkOk_by (own := [("name", 2), ("value", 3)]) (N := ["values", "names", "name", "value"]) (sc := defScope sIsValues) (by decide +kernel))
          (fun _ _ _ _ _ => pg_tup rfl (pgs_cons (pg_name (i := 2) scIsVals.nd rfl (Or.inl rfl)) (pgs_cons (pg_name (i := 3) scIsVals.nd rfl (Or.inl rfl)) pgs_nil))) (fun _ _ _ _ _ => pts_nil)
          (fun _ _ _ _ _ => by exact pe_and (pe_c L hr (by decide) rfl (pa_cons (pv 2) pa_nil)) (pe_one (pe_c Wh hr (by decide) rfl (pa_cons (pv 3) pa_nil)))))) pa_nil)))) (pss_one (ps_ret pe_bl)) pss_nil)
      (pss_one (ps_ret (pe_callB (cr_all rfl) (by rfl) B.all_ (by decide +kernel) (pa_cons (pe_lc (own := [("name", 2)]) (g := gName 2) (tt := tYes) (te := tDIn (tVar 2) (tVar 0)) rfl scIsVals.nd (pi_list (pv 1))
          (blkOk_by (own := [("name", 2)]) (N := ["values", "names", "name", "value"]) (sc := defScope sIsValues) (by decide +kernel))
          (fun _ _ _ _ _ => pg_name (i := 2) scIsVals.nd rfl (Or.inl rfl)) (fun _ _ _ _ _ => pts_nil) (fun _ _ _ _ _ => by exact pe_cmp (pc_din u1 (pv 2) (pv 0)))) pa_nil))))), ?_⟩
    refine ⟨_, rfl, _, _, _, _, true, rfl, .ty "dict", .base (.dK hd), kit_dd, true, rfl, iteF ?_⟩
    have sz : ∀ n : Nat, n ≤ 2000 → n < sizeLine := fun n h => by rw [sizeLine_eq]; omega
    refine ⟨d, .dK (dI vl), hd, trivial, fun od => ⟨_, rfl, d, od, dI vl, rfl, upd_same, fun D nD => ?_⟩⟩
    have h1 : (upd H d (.frz od (.dK (dI vl)))) d = some (.frz od (.dK (dI vl))) := upd_same
    have neD : D ≠ d := by rintro rfl; rw [upd_same] at nD; cases nD
    have back : ∀ H2, Same (upd H d (.frz od (.dK (dI vl)))) H2 → Same H (upd H2 d (.dK (dI vl))) := fun H2 S => same_back hd S
    generalize upd H d (.frz od (.dK (dI vl))) = H1 at h1 nD back ⊢
    refine lc_it walk_items (fun i H' => Same H1 H' ∧ H' D = some (.lst (List.replicate i (V.bl true)))) ⟨Same.upd nD, upd_same⟩ (fun i H' _ q => q.1 _ _ h1) ?_ ?_
    · rintro i x H2 H3 hi ⟨S, hD⟩ ⟨T, x1, y1, rfl, nT, rfl, e1, e2⟩
      rw [len_dI] at hi
      obtain ⟨kv, hkv⟩ : ∃ kv, vl[i]? = some kv := ⟨vl[i], List.getElem?_eq_getElem hi⟩
      obtain ⟨hz, _⟩ := hv kv (List.mem_of_getElem? hkv)
      have hkv2 : (dI vl)[i]? = some (Sum.inr kv.1, V.int kv.2) := by unfold dI; rw [List.getElem?_map, hkv]; rfl
      replace e1 : ((dI vl)[i]?.map fun kv => kV kv.1) = some x1 := e1
      replace e2 : (dI vl)[i]?.map Prod.snd = some y1 := e2
      rw [hkv2] at e1 e2
      obtain rfl : V.str kv.1 = x1 := Option.some.inj e1
      obtain rfl : V.int kv.2 = y1 := Option.some.inj e2
      have S2 : Same H2 (upd H2 T (.tup [.str kv.1, .int kv.2])) := Same.upd nT
      refine ⟨T, _, rfl, SqT.of upd_same, rfl, _, _, rfl, _, _, rfl, rfl, rfl, iteT (B := False) ?_⟩
      refine ⟨_, rfl, kv.1, rfl, hz, fun H4 S4 => ⟨true, rfl, iteT (B := False) ⟨_, rfl, kv.2, rfl, _, S4 _ _ (S2 _ _ hD), ?_, ?_, ?_⟩⟩⟩
      · rw [List.length_replicate]
        exact sz _ (by omega)
      · intro b o hb
        rw [upd_ne (ne_of_none hb nD)]
        exact S4 _ _ (S2 _ _ (S _ _ hb))
      · rw [upd_same, List.replicate_succ']
    · rintro H2 ⟨S, hD⟩
      refine ⟨S _ _ h1, D, List.replicate (dI vl).length true, rfl, SqL.of ?_, true, by rw [all_true], iteF ?_⟩
      · rw [upd_ne neD, List.map_replicate]
        exact hD
      · have S0 := back H2 S
        generalize upd H2 d (.dK (dI vl)) = H3 at S0 ⊢
        have hl3 := hl.same S0
        refine ⟨_, rfl, l, rfl, ⟨_, hl3⟩, fun D2 nD2 => ?_⟩
        refine lc_it (walk_list (xs := xs.map V.str)) (fun i H' => Same H3 H' ∧ H' D2 = some (.lst (List.replicate i (V.bl true)))) ⟨Same.upd nD2, upd_same⟩ (fun i H' _ q => hl3.same q.1) ?_ ?_
        · rintro i x H4 H5 hi ⟨S4, hD4⟩ ⟨rfl, hx2⟩
          rw [List.length_map] at hi
          rw [List.getElem?_map] at hx2
          obtain ⟨z, hz, rfl⟩ := Option.map_eq_some_iff.mp hx2
          obtain ⟨n, hn, _⟩ := getI_isSome (hin z (List.mem_of_getElem? hz))
          refine ⟨rfl, iteT (B := False) ⟨_, rfl, _, rfl, d, valV (dI vl) (Sum.inr z), rfl, DGet.k (k := Sum.inr z) (S4 _ _ (S0 _ _ hd)), _, hD4, ?_, ?_, ?_⟩⟩
          · rw [List.length_replicate]
            exact sz _ (by omega)
          · intro b o hb
            rw [upd_ne (ne_of_none hb nD2)]
            exact S4 _ _ hb
          · rw [upd_same, valV_dI, hn, List.replicate_succ']
            rfl
        · rintro H4 ⟨S4, hD4⟩
          refine ⟨D2, List.replicate xs.length true, rfl, SqL.of ?_, ?_⟩
          · rw [List.map_replicate]
            rw [List.length_map] at hD4
            exact hD4
          · rw [all_true]
            exact k H4 (S0.trans S4)
theorem scCheckV : FnScope ["values", "sizes", "name"] ["values", "sizes"] (defScope sCheckValues) := ⟨rfl, rfl, rfl, by decide +kernel, rfl, by decide +kernel, by decide +kernel⟩
theorem ok_checkV {f : Addr} {fd : FuncData} (F : Fun K "check_values" "check_values" sCheckValues f fd) (B : Bl mg) (Iv : Cal P w K mg base 2 "is_values" (spIsVals K) []) : FnOk P w K mg base CX0 3 f fd ["values", "sizes"] (spCheckV K) := by
  refine F.ok scCheckV (fun vs H Q E h => ?_) (fun cdv A outer s H vs Q E hr h => ?_)
  · obtain ⟨d, l, kvs, xs, rfl, _⟩ := h
    rfl
  · obtain ⟨d, l, vl, xs, rfl, hd, hv, hl, hx, hin, h1, k⟩ := h
    have u1 := Nat.lt_of_le_of_lt (Nat.add_le_add_left (by decide : 1 ≤ 64) _) hr.units
    refine ⟨_, pss_one (ps_if (PW.pt (pw_or (pt_not (pt_val (pe_c Iv hr (by decide) rfl (pa_cons (pv 0) (pa_cons (pv 1) pa_nil)))))
        (pw_or1 (pt_not (pt_val (pe_callB (cr_all rfl) (by rfl) B.all_ (by decide +kernel) (pa_cons (pe_lc (own := [("name", 2)]) (g := gName 2) (tt := tYes) (te := tOp (rI0 fun i j => .bl (decide (j ≤ i))) (tDGet (tVar 0) (tVar 2)) (tC (.int 1))) rfl scCheckV.nd (pi_list (pv 1))
          (blkOk_by (own := [("name", 2)]) (N := ["values", "sizes", "name"]) (sc := defScope sCheckValues) (by decide +kernel))
          (fun _ _ _ _ _ => pg_name (i := 2) scCheckV.nd rfl (Or.inl rfl)) (fun _ _ _ _ _ => pts_nil) (fun _ _ _ _ _ => by exact pe_cmpR op_ge (pe_dget u1 (pv 0) (pv 2) (fun _ _ => rfl)) pe_int (by rfl))) pa_nil))))))) (pss_one ps_never) pss_nil), ?_⟩
    refine ⟨_, rfl, _, rfl, d, l, vl, xs, rfl, hd, hv, hl, hx, hin, fun H1 S1 => ⟨true, rfl, iteF ?_⟩⟩
    have hl1 := hl.same S1
    refine ⟨_, rfl, l, rfl, ⟨_, hl1⟩, fun D nD => ?_⟩
    refine lc_it (walk_list (xs := xs.map V.str)) (fun i H' => Same H1 H' ∧ H' D = some (.lst (List.replicate i (V.bl true)))) ⟨Same.upd nD, upd_same⟩ (fun i H' _ q => hl1.same q.1) ?_ ?_
    · rintro i x H4 H5 hi ⟨S4, hD4⟩ ⟨rfl, hx2⟩
      rw [List.length_map] at hi
      rw [List.getElem?_map] at hx2
      obtain ⟨z, hz, rfl⟩ := Option.map_eq_some_iff.mp hx2
      obtain ⟨n, hn, hm⟩ := getI_isSome (hin z (List.mem_of_getElem? hz))
      have n1 := h1 _ hm
      have hg : valV (dI vl) (Sum.inr z) = some (.int n) := by rw [valV_dI, hn]; rfl
      refine ⟨rfl, iteT (B := False) ⟨_, rfl, _, rfl, d, _, rfl, by rw [← hg]; exact DGet.k (k := Sum.inr z) (S4 _ _ (S1 _ _ hd)), _, _, rfl, rfl, _, hD4, ?_, ?_, ?_⟩⟩
      · rw [List.length_replicate, sizeLine_eq]
        omega
      · intro b o hb
        rw [upd_ne (ne_of_none hb nD)]
        exact S4 _ _ hb
      · rw [upd_same, List.replicate_succ']
        show some (HO.lst (_ ++ [V.bl (decide (1 ≤ n))])) = _
        rw [decide_eq_true n1]
    · rintro H4 ⟨S4, hD4⟩
      refine ⟨D, List.replicate xs.length true, rfl, SqL.of ?_, ?_⟩
      · rw [List.map_replicate]
        rw [List.length_map] at hD4
        exact hD4
      · rw [all_true]
        exact ⟨true, rfl, iteF (k H4 (S1.trans S4))⟩
end
end E4

set_option Elab.async false
set_option linter.all false
set_option maxRecDepth 100000
set_option maxHeartbeats 1000000
/-! twos, cell_on -/
namespace E4
open PySem PySem.Spec PyProof.Rows L2
open C8 (Cal Mak Met InsC pe_c pe_mt pe_mt0 call_isC clsBody)
section
variable {P : Program} {w : World} {K : PySem.W.Frag} {mg : Str → Option Value} {base : Heap} {C : Addr}
end
end E4

set_option Elab.async false
set_option linter.all false
set_option maxRecDepth 100000
set_option maxHeartbeats 1000000
set_option exponentiation.threshold 500
/-! values_of_clash -/
namespace E4
open PySem PySem.Spec PyProof.Rows L2
open C8 (Cal Mak Met InsC pe_c pe_mt pe_mt0 call_isC clsBody)
section
variable {P : Program} {w : World} {K : PySem.W.Frag} {mg : Str → Option Value} {base : Heap} {C : Addr}
end
end E4

set_option Elab.async false
set_option linter.all false
set_option maxRecDepth 100000
set_option maxHeartbeats 1000000
set_option exponentiation.threshold 500
/-! clash -/
namespace L2
open PySem PySem.Spec PyProof.Rows
section
variable {X : Cx}
end
end L2
namespace E4
open PySem PySem.Spec PyProof.Rows L2
open C8 (Cal Mak Met InsC pe_c pe_mt pe_mt0 call_isC clsBody)
open LamX (Tabs ExtN TabB CodeO)
def AllV (p : Int → Prop) (l : Vls) : Prop := ∀ x ∈ l, p x.2
theorem AllV.set {p : Int → Prop} {l : Vls} {z : Str} {n : Int} (h : AllV p l) (hn : p n) : AllV p (setI l z n) := by
  unfold setI
  split
  · intro x hx
    obtain ⟨y, hy, rfl⟩ := List.mem_map.mp hx
    split
    · exact hn
    · exact h y hy
  · intro x hx
    rcases List.mem_append.mp hx with q | q
    · exact h x q
    · rw [List.mem_singleton.mp q]
      exact hn
section
variable {P : Program} {w : World} {K : PySem.W.Frag} {mg : Str → Option Value} {base : Heap} {C : Addr}
end
end E4

set_option Elab.async false
set_option linter.all false
set_option maxRecDepth 100000
set_option maxHeartbeats 1000000
set_option exponentiation.threshold 500
/-! hole -/
namespace E4
open PySem PySem.Spec PyProof.Rows L2
open C8 (Cal Mak Met InsC pe_c pe_mt pe_mt0 call_isC clsBody)
open LamX (Tabs ExtN TabB CodeO)
section
variable {P : Program} {w : World} {K : PySem.W.Frag} {mg : Str → Option Value} {base : Heap} {C : Addr}
end
end E4

set_option Elab.async false
set_option linter.all false
set_option maxRecDepth 100000
set_option maxHeartbeats 1000000
/-! list(d.values()) -/
namespace L2
open PySem PySem.Spec PyProof.Rows
section
variable {X : Cx}
variable {o : Expr} {p pos apos mpos : Pos} {td : TE}
end
end L2

set_option Elab.async false
set_option linter.all false
set_option maxRecDepth 100000
set_option maxHeartbeats 1000000
/-! name = {k: v for ..} on one line, the name a local -/
namespace L2
open PySem PySem.Spec PyProof.Rows
section
variable {X : Cx}
theorem ps_setDc {i : Nat} {y : Str} {py : Pos} {kx vx tg iter : Expr} {ifs : List Expr} {scope : Scope} {own : List (Str × Nat)} {pos spos : Pos} {wi : TI} {g : TG} {tt : TT} {tk tv : TE} (hc : X.calm = true) (hN : X.N.Nodup) (hy : X.N[i]? = some y) (hyl : X.env.scope.names.lookup y = some .local)
    (hsw : swapsWith (.DictComp kx vx [⟨tg, iter, ifs, 0⟩] scope pos) (some (.Name y py)) spos.line X.env = pure true) (hi : PI X tg iter wi) (ok : BlkOk X.N X.env.scope scope own)
    (hg : ∀ (s : Shared) (H : Hp) (C : Addr) (cl : List (Str × Addr)) (fp : List Addr), PG (X.blk s H scope (compEnvC scope cl C X.env) fp) tg g) (ht : ∀ (s : Shared) (H : Hp) (C : Addr) (cl : List (Str × Addr)) (fp : List Addr), PTs (X.blk s H scope (compEnvC scope cl C X.env) fp) ifs tt)
    (hk : ∀ (s : Shared) (H : Hp) (C : Addr) (cl : List (Str × Addr)) (fp : List Addr), PE (X.blk s H scope (compEnvC scope cl C X.env) fp) kx tk)
    (he : ∀ (s : Shared) (H : Hp) (C : Addr) (cl : List (Str × Addr)) (fp : List Addr), PE (X.blk s H scope (compEnvC scope cl C X.env) fp) vx tv) (hs : ∀ x, foldedSetIterable iter X.env x = pure x := by intro _; rfl) :
    PS X (.Assign [.Name y py] (.DictComp kx vx [⟨tg, iter, ifs, 0⟩] scope pos) spos) (tAsg (tDc wi g tt tk tv (own.map (·.2))) (gName i)) := by
  refine ⟨fun pins s σ H D I h => ?_⟩
  rw [exec_Assign_Name_used _ _ _ _ hsw]
  refine wpAny_bind (wpAny_standAt (wpAny_bind ?_))
  show wpAny _ X.A (do let _ ← comprehension (.DictComp kx vx [⟨tg, iter, ifs, 0⟩] scope pos) scope X.env (firstIterPos [⟨tg, iter, ifs, 0⟩] pos) newDict false (eval iter X.env) (some (assign (.Name y py) X.env))) _ _ s
  have h : tDc wi g tt tk tv (own.map (·.2)) σ H (fun x H1 => gName i x σ H1 D.nx) := h
  refine wpAny_bind (thn (dc_core (Qf := fun _ s' => SP X pins D .next s') hc hN I hi ok hg ht hk he hs h fun L C s' m H' I' q hn f => ?_) fun _ s' hq => wpAny_pure (wpAny_pure hq))
  show wpAny _ _ (assign (.Name y py) X.env (.ref L)) _ _ _
  refine wpAny_assign_Name (store_ok2 (v := V.ref L) I' hN hy (.inl hyl) rfl (fun s2 I2 ⟨a, sb, ha⟩ => ?_) (.inr hyl))
  obtain ⟨f0, f1, f2, f3, f4, f5⟩ := f
  have haC : C ≠ a := by
    rcases ha with z | z
    · rw [z]; exact f1
    · exact fun e => f4 y a z e.symm
  refine ⟨m, hn.sameBut sb haC, fun h3 sb3 => ?_⟩
  exact ⟨_, H', I2.turned (t' := s2.toks) (fun b o hb e => (sb3.2 b hb).trans e) f0 f1 f3 f4 f5, q⟩
end
end L2

set_option Elab.async false
set_option linter.all false
set_option maxRecDepth 100000
set_option maxHeartbeats 1000000
set_option exponentiation.threshold 5000
/-! cell_of -/
namespace E4
open PySem PySem.Spec PyProof.Rows L2
open C8 (Cal Mak Met InsC pe_c pe_mt pe_mt0 call_isC clsBody)
open LamX (Tabs ExtN TabB CodeO)
section
variable {P : Program} {w : World} {K : PySem.W.Frag} {mg : Str → Option Value} {base : Heap} {C : Addr}
end
end E4

set_option Elab.async false
set_option linter.all false
set_option maxRecDepth 100000
set_option maxHeartbeats 1000000
/-! Plain(rows), Plain(sides=rows); __eq__ -/
namespace L2
open PySem PySem.Spec PyProof.Rows
open C8 (Cal Mak Met InsC)
/-- C(k=v, ..): keywords alone -/
structure MakK (P : Program) (w : World) (K : PySem.W.Frag) (mg : Str → Option Value) (base : Heap) (k : Nat) (x : Str) (C : Addr) (sp : Sp) (ks : List Str) (gV : List V → List V → List V) : Prop where
  ex : ∃ (f : Addr) (fd : FuncData) (ps : List Str) (g : List Value → List Value → List Value), Mk K C f ∧ FnOk P w K mg base CX0 k f fd ps sp ∧ mg x = some (.ref C) ∧ KBn K fd ps 1 ks g gV
def tMakeK (C : Addr) (m : Nat) (sp : Sp) (gV : List V → List V → List V) (E : XK) (tk : TA) : TE := fun σ H Q => tk σ H fun zs H2 => zs.length = m ∧
  ∀ x dx, H2 x = none → H2 dx = none → dx ≠ x → sp (gV [.ref x] zs) (upd (upd H2 dx (.own x)) x (.ins C dx [])) (fun v H3 => v = .non ∧ Q (.ref x) H3) E
section
variable {X : Cx} {C : Addr} {x : Str} {p pos : Pos} {j k : Nat} {e : Expr} {es : List Expr} {t : TA}
theorem pe_mkK {sp : Sp} {ks : List Str} {gV : List V → List V → List V} {kws : List Keyword} {tk : TA} (c : MakK X.prog X.w X.K X.mg X.base k x C sp ks gV) (hr : Room j X.A) (hk : k + 1 ≤ j) (hg : Gl X x) (hkw : PK X kws tk)
    (hall : (backToKw pos (keywordEach kws X.env)).all (·.1.isSome) = true := by rfl) (hks : (backToKw pos (keywordEach kws X.env)).filterMap (·.1) = ks := by rfl)
    (hdb : (x == ("__debug__" : Str)) = false := by decide)
    (hpl : ((backTo pos (starEach [] X.env)).any (·.1) || (backToKw pos (keywordEach kws X.env)).any (·.1.isNone)) = false := by rfl) :
    PE X (.Call (.Name x p) [] kws pos) (tMakeK C ks.length sp gV C8.E0 tk) := by
  obtain ⟨f, fd, ps, g, M, F, hm, hb⟩ := c.ex
  refine ⟨fun pins s σ H Q I h => ?_⟩
  refine wpAny_Call_Name_kw (ld_glob I hg hm ?_ hdb)
  refine PySem.W.callWith_KW0 (h₀ := X.base) I.ok.mod.kin M.kp hall (thn (hkw.run pos pins s σ H _ I h) fun ws s2 ⟨zs, H2, I2, rz, l2, q2⟩ => ⟨I2.kIn, ?_⟩) hpl
  rw [hks]
  exact run_makeN (n := 0) M F (hr.mono hk) hb pass0 I2 .nil rz rfl l2 q2
/-- C(e): as it is told of __init__ -/
theorem pe_mk1 {sp : Sp} (c : Mak X.prog X.w X.K X.mg X.base k x C sp []) (hr : Room j X.A) (hk : k + 1 ≤ j) (hg : Gl X x) (ha : PA X (e :: es) t)
    (hdb : (x == ("__debug__" : Str)) = false := by decide) (hs : starEach (e :: es) X.env = (false, eval e X.env) :: starEach es X.env := by rfl) (hpl : (backTo pos (starEach es X.env)).any (·.1) = false := by rfl) :
    PE X (.Call (.Name x p) (e :: es) [] pos) (tMake C sp [] C8.E0 t) := by
  obtain ⟨f, fd, ps, ds, M, F, hm, b, d⟩ := c.ex
  refine ⟨fun pins s σ H Q I h => ?_⟩
  refine wpAny_Call_Name_kw (ld_glob I hg hm ?_ hdb)
  refine PySem.W.callWith_K (h₀ := X.base) I.ok.mod.kin M.kp (thn (ha.run pos pins s σ H _ I h) fun us s1 ⟨vs, H1, I1, r, q⟩ => ⟨I1.kIn, ?_⟩) hs hpl
  exact run_make (E := C8.E0) M F (hr.mono hk) b d pass0 I1 r fun y dx hy hdx ne => q y dx hy hdx ne
end
end L2
namespace E4
open PySem PySem.Spec PyProof.Rows L2
open C8 (Cal Mak Met InsC pe_c pe_mt pe_mt0 call_isC clsBody)
section
variable {P : Program} {w : World} {K : PySem.W.Frag} {mg : Str → Option Value} {base : Heap} {C : Addr}
end
end E4

set_option Elab.async false
set_option linter.all false
set_option maxRecDepth 100000
set_option maxHeartbeats 2000000
/-! with C(..): an own class that raises nothing -/
namespace L2
open PySem PySem.Spec PyProof.Rows
open C8 (CX0 E0 pass0)
/-- what is known of __enter__ and __exit__ -/
structure WithC (P : Program) (w : World) (K : PySem.W.Frag) (mg : Str → Option Value) (base : Heap) (k : Nat) (C : Addr) (spE spX : Sp) : Prop where
  ent : ∃ (fe : Addr) (fd : FuncData) (ps : List Str), PySem.W.findIn K (.ref C) "__enter__" = some (some (.ref fe)) ∧ PySem.W.isFn K (.ref fe) = true ∧ FnOk P w K mg base CX0 k fe fd ps spE ∧ Binds K fd ps []
  exi : ∃ (fx : Addr) (fd : FuncData) (ps : List Str), PySem.W.findIn K (.ref C) "__exit__" = some (some (.ref fx)) ∧ PySem.W.isFn K (.ref fx) = true ∧ FnOk P w K mg base CX0 k fx fd ps spX ∧ Binds K fd ps []
def tWith (C : Addr) (spE spX : Sp) (tc : TE) (tb : TS) : TS := fun D σ H => tc σ H fun x H1 => ∃ a dx fs, x = .ref a ∧ H1 a = some (.ins C dx fs) ∧ spE [.ref a] H1 (fun _ H2 => tb
  { nx := fun σ' H' => spX [.ref a, .non, .non, .non] H' (fun _ H'' => D.nx σ' H'') E0, rt := fun v H' => spX [.ref a, .non, .non, .non] H' (fun _ H'' => D.rt v H'') E0,
    bk := fun σ' H' => spX [.ref a, .non, .non, .non] H' (fun _ H'' => D.bk σ' H'') E0, ct := fun σ' H' => spX [.ref a, .non, .non, .non] H' (fun _ H'' => D.ct σ' H'') E0 } σ H2) E0
section
variable {X : Cx} {j k : Nat} {C : Addr} {spE spX : Sp} {ctx : Expr} {body : List Stmt} {tc : TE} {tb : TS} {pos : Pos}
theorem ps_with (hxe : X.xe = fun _ _ => False) (W : WithC X.prog X.w X.K X.mg X.base k C spE spX) (hr : Room j X.A) (hk : k ≤ j) (hc : PE X ctx tc) (hb : PSs X body tb) : PS X (.With [⟨ctx, none⟩] body pos) (tWith C spE spX tc tb) := by
  obtain ⟨fe, fdE, psE, he, hfe, Fe, be⟩ := W.ent
  obtain ⟨fx, fdX, psX, hx, hfx, Fx, bx⟩ := W.exi
  refine ⟨fun pins s σ H D I h => ?_⟩
  refine PySem.W.kw_exec0 (thn (hc.run pins s σ H _ I h) fun v s1 ⟨x, H1, I1, rx, a, dx, fs, ex, ea, q⟩ => ?_)
  subst ex
  obtain rfl : v = Value.ref a := rx
  obtain ⟨mA, O, _, _, _, _⟩ := ins_get I1.hok ea
  obtain ⟨od, J, _⟩ := O.look
  unfold PySem.W.KwIn
  have l1 : ([Value.ref a] ++ ([] : List Value)).length = psE.length := by rw [← Fe.len _ _ _ _ q]; rfl
  -- what leaves
  have out : ∀ {s4 : Shared} {σ4 : St} {H4 : Hp} {R : Hp → Prop} {Q : Shared → Prop}, Inv X pins σ4 H4 s4 → spX [.ref a, .non, .non, .non] H4 (fun _ H'' => R H'') E0 → (∀ s5 H5, Inv X pins σ4 H5 s5 → R H5 → Q s5) →
      wpAny (model X.prog X.w) X.A (call (.ref fx) [.ref a, .none, .none, .none]) (fun _ s5 => Q s5) X.xe s4 := fun {s4 σ4 H4 R Q} I4 q4 k4 => by
    have l2 : ([Value.ref a, .none, .none, .none] ++ ([] : List Value)).length = psX.length := by rw [← Fx.len _ _ _ _ q4]; rfl
    refine wpAny_call (codeAny_mono (Fx.run X.A X.stack s4 H4 ⟨[.ref a, .none, .none, .none], []⟩ [.ref a, .none, .none, .none] [.ref a, .non, .non, .non] _ E0 (hr.mono hk) I4.env0 (bx s4 [.ref a, .none, .none, .none] I4.kIn l2) (.cons rfl (.cons rfl (.cons rfl (.cons rfl .nil)))) q4) fun r s' hq => ?_)
    cases r with
    | error er => exact hq.elim
    | ok fl =>
      cases fl with
      | ret u =>
        obtain ⟨v, H', I3, rv, q3⟩ := I4.after hq
        exact k4 _ _ I3 q3
      | next => exact False.elim hq
      | brk => exact False.elim hq
      | cont => exact False.elim hq
  refine PySem.W.kw_core0 I1.kIn J he hfe hx hfx ?_
  refine wpAny_call (codeAny_mono (Fe.run X.A X.stack s1 H1 ⟨[.ref a], []⟩ [.ref a] [.ref a] _ E0 (hr.mono hk) I1.env0 (be s1 [.ref a] I1.kIn l1) (.cons rfl .nil) q) fun r s' hq => ?_)
  cases r with
  | error er => exact hq.elim
  | ok fl =>
    cases fl with
    | next => exact False.elim hq
    | brk => exact False.elim hq
    | cont => exact False.elim hq
    | ret u =>
      obtain ⟨v, H2, I2, rv, q2⟩ := I1.after hq
      have hb2 := hb.run pins s' σ H2 _ I2 q2
      rw [hxe] at hb2
      refine wpAny_mono hb2 (fun f s4 h4 => ?_) (fun _ _ z => z)
      cases f with
      | next =>
        obtain ⟨σ', H', I4, q4⟩ := h4
        exact out I4 q4 fun s5 H5 I5 r5 => ⟨σ', H5, I5, r5⟩
      | brk =>
        obtain ⟨σ', H', I4, q4⟩ := h4
        exact out I4 q4 fun s5 H5 I5 r5 => ⟨σ', H5, I5, r5⟩
      | cont =>
        obtain ⟨σ', H', I4, q4⟩ := h4
        exact out I4 q4 fun s5 H5 I5 r5 => ⟨σ', H5, I5, r5⟩
      | ret u4 =>
        obtain ⟨v4, σ', H', I4, rv4, q4⟩ := h4
        exact out I4 q4 fun s5 H5 I5 r5 => ⟨v4, σ', H5, I5, rv4, r5⟩
end
end L2

set_option Elab.async false
set_option linter.all false
set_option maxRecDepth 100000
set_option maxHeartbeats 1000000
/-! for (x, y) in zip(t, l): a tuple and a list -/
namespace L2
open PySem PySem.Spec PyProof.Rows
def ItzM (K : PySem.W.Frag) (a b : Addr) : It :=
  ⟨fun i H => ∃ (xs ys : List V) (x y : V), SqT K H a xs ∧ SqL K H b ys ∧ xs[i]? = some x ∧ ys[i]? = some y,
    fun i H v H' => ∃ T x y, v = .ref T ∧ H T = none ∧ H' = upd H T (.tup [x, y]) ∧ (∀ xs, SqT K H a xs → xs[i]? = some x) ∧ ∀ ys, SqL K H b ys → ys[i]? = some y,
    fun i H => ∃ xs ys : List V, SqT K H a xs ∧ SqL K H b ys ∧ i = min xs.length ys.length⟩
/-- five cells, and what they look at, lie apart -/
structure Apart (z TI TO i1 i2 a b : Addr) : Prop where
  s : ZipSep2 z TI TO i1 i2 [i1, a] [i2, b]
  e1 : a ≠ i1
  e2 : b ≠ i2
theorem apart_new {n a b : Addr} (ha : a < n) (hb : b < n) : Apart (n + 4) (n + 2) (n + 3) n (n + 1) a b := by
  have ha : @LT.lt Nat _ a n := ha
  have hb : @LT.lt Nat _ b n := hb
  have ne : ∀ {x y : Nat}, ¬ x = y → (x : Addr) ≠ (y : Addr) := fun h => h
  have no : ∀ {x y z : Nat}, ¬ x = y → ¬ x = z → (x : Addr) ∉ ([y, z] : List Addr) := fun {x y z} h1 h2 h => by
    rcases List.mem_cons.mp h with e | h
    · exact h1 e
    · rcases List.mem_cons.mp h with e | h
      · exact h2 e
      · cases h
  exact ⟨⟨ne (by omega), ne (by omega), ne (by omega), ne (by omega), List.mem_cons_self .., no (by omega) (by omega), no (by omega) (by omega), ne (by omega), List.mem_cons_self .., no (by omega) (by omega), no (by omega) (by omega), no (by omega) (by omega), no (by omega) (by omega)⟩, ne (by omega), ne (by omega)⟩
section
variable {P : Program} {w : World} {K : PySem.W.Frag} {elts : List Expr} {kk : Nat} {tpos : Pos} {a b z TI TO i1 i2 : Addr}
theorem turn_zipM (D : Apart z TI TO i1 i2 a b) :
    Turn P w K (.Tuple elts kk tpos) (ItzM K a b) [z, TI, TO, i1, i2] z (fun i h => IsZip h z TI TO .none ∧ IsTupOf2 h TI (.ref i1) (.ref i2) ∧ (∃ x y, IsTupOf2 h TO x y) ∧ h.IsTupleIter i1 a i ∧ h.IsListIter i2 b i) where
  mem := by simp
  obj := fun i h st c hc => by
    obtain ⟨hz, hTI, ⟨x, y, hTO⟩, ⟨o1, e1, _, d1⟩, ⟨o2, e2, _, d2⟩⟩ := st
    have e' : c = z ∨ c = TI ∨ c = TO ∨ c = i1 ∨ c = i2 := by simpa using hc
    rcases e' with rfl | rfl | rfl | rfl | rfl
    · exact ⟨_, hz, fun v q => nomatch q⟩
    · exact ⟨_, hTI, fun v q => nomatch q⟩
    · exact ⟨_, hTO, fun v q => nomatch q⟩
    · exact ⟨o1, e1, fun v q => by rw [d1] at q; cases q⟩
    · exact ⟨o2, e2, fun v q => by rw [d2] at q; cases q⟩
  keep := fun i h h' st k => by
    obtain ⟨hz, hTI, ⟨x, y, hTO⟩, h1, h2⟩ := st
    exact ⟨k z (by simp) _ hz, k TI (by simp) _ hTI, ⟨x, y, k TO (by simp) _ hTO⟩, h1.at fun o q => k i1 (by simp) o q, h2.at fun o q => k i2 (by simp) o q⟩
  item := by
    intro X hP hw hK hc i pins s σ H E I hf st hg
    subst hP hw hK
    obtain ⟨hz, hTI, ⟨x0, y0, hTO⟩, h1, h2⟩ := st
    obtain ⟨xs, ys, x, y, hqx, hqy, hx, hy⟩ := hg
    obtain ⟨its, rv, p, _⟩ := I.tuple hqx
    obtain ⟨its2, rv2, p2, _⟩ := I.list hqy
    obtain ⟨u, hu, ru⟩ := rv.get hx
    obtain ⟨u2, hu2, ru2⟩ := rv2.get hy
    have hh := I.ok.hd hc
    have hzl : z < s.heap.objs.size := Heap.lt_size hz
    have l1 : i < its.toArray.size := by have := (List.getElem?_eq_some_iff.mp hu).1; simpa using this
    have l2 : i < its2.toArray.size := by have := (List.getElem?_eq_some_iff.mp hu2).1; simpa using this
    have D1 := Draws.tuple (prog := X.prog) (w := X.w) (A := X.A.in1) hh i1 a D.e1 its.toArray
    have D2 := Draws.list (prog := X.prog) (w := X.w) (A := X.A.in1) hh i2 b D.e2 its2.toArray
    refine wpAny_pyNext_zipD2_item D.s D1 D2 hz hTI hTO ⟨h1, p⟩ ⟨h2, p2.isList⟩ l1 l2 fun v1 v2 h' tk y1 y2 z' TO' h1' h2' hT hsz hk => ?_
    have e1 : v1 = u := by
      have q : its.toArray[i]? = some v1 := y1
      have q2 : its.toArray[i]? = some u := by simpa using hu
      exact Option.some.inj (q.symm.trans q2)
    have e2 : v2 = u2 := by
      have q : its2.toArray[i]? = some v2 := y2
      have q2 : its2.toArray[i]? = some u2 := by simpa using hu2
      exact Option.some.inj (q.symm.trans q2)
    subst e1 e2
    refine ⟨_, rfl, wpAny_letOwnedTupleGo_zip (s := { s with heap := h', toks := tk }) z' fun h'' z'' sb => ?_⟩
    have hT2 : h''.get? s.heap.objs.size = some { cls := .type "tuple", data := .seq #[v1, v2] } := (sb.2 _ (Nat.ne_of_gt hzl)).trans hT
    have new : ObjOk X.prog X.w (upd H s.heap.objs.size (.tup [x, y])) h'' s.heap.objs.size (.tup [x, y]) :=
      ⟨by show 2 ≤ sizeLine; decide, [v1, v2], .cons ru (.cons ru2 .nil), ⟨_, hT2, rfl, _, rfl⟩⟩
    have I1 : Inv X pins σ (upd H s.heap.objs.size (.tup [x, y])) { s with heap := h'', toks := tk } :=
      I.turnedNew (t' := tk) (ch := [z, TI, TO, i1, i2]) (fun c o hb q => (sb.2 c (fun q' => hb (by simp [q']))).trans (hk c o (fun q' => hb (by simp [q'])) (fun q' => hb (by simp [q'])) (fun q' => hb (by simp [q'])) (fun q' => hb (by simp [q'])) q)) hf (Nat.le_refl _) new
    refine ⟨.ref s.heap.objs.size, _, I1, rfl, ⟨_, x, y, rfl, I.hok.fresh (Nat.le_refl _), rfl, fun l hl => by rw [I.tuple_inj hl hqx]; exact hx, fun l hl => by rw [I.list_inj hl hqy]; exact hy⟩, ⟨z'', ?_, ⟨v1, v2, ?_⟩, ?_, ?_⟩, fun c hcm => ?_⟩
    · exact (sb.2 _ D.s.TIz).trans (hk _ _ D.s.TIz D.s.TITO D.s.TIi1 D.s.TIi2 hTI)
    · exact (sb.2 _ D.s.TOz).trans TO'
    · exact h1'.1.at fun o q => (sb.2 _ D.s.zi1.symm).trans q
    · exact h2'.1.at fun o q => (sb.2 _ D.s.zi2.symm).trans q
    · have hlt : c < s.heap.objs.size := by
        have e' : c = z ∨ c = TI ∨ c = TO ∨ c = i1 ∨ c = i2 := by simpa using hcm
        rcases e' with rfl | rfl | rfl | rfl | rfl
        · exact hzl
        · exact Heap.lt_size hTI
        · exact Heap.lt_size hTO
        · obtain ⟨_, e1, _⟩ := h1; exact Heap.lt_size e1
        · obtain ⟨_, e2, _⟩ := h2; exact Heap.lt_size e2
      rw [upd_ne (Nat.ne_of_lt hlt)]
      exact (hf c hcm).1
  done := by
    intro X hP hw hK hc i pins s σ H E I hf st hg
    subst hP hw hK
    obtain ⟨hz, hTI, ⟨x0, y0, hTO⟩, h1, h2⟩ := st
    obtain ⟨xs, ys, hqx, hqy, hi⟩ := hg
    obtain ⟨its, rv, p, _⟩ := I.tuple hqx
    obtain ⟨its2, rv2, p2, _⟩ := I.list hqy
    have l1 := rv.length
    have l2 := rv2.length
    have hh := I.ok.hd hc
    have D1 := Draws.tuple (prog := X.prog) (w := X.w) (A := X.A.in1) hh i1 a D.e1 its.toArray
    have D2 := Draws.list (prog := X.prog) (w := X.w) (A := X.A.in1) hh i2 b D.e2 its2.toArray
    refine wpAny_pyNext_zipD2_end D.s D1 D2 hz hTI hTO ⟨h1, p⟩ ⟨h2, p2.isList⟩ (by simp only [List.size_toArray]; omega) (by simp only [List.size_toArray]; omega) (by simp only [List.size_toArray]; omega) fun h' tk hk => ?_
    exact ⟨rfl, I.turnedL (t' := tk) (ch := [z, TI, TO, i1, i2]) (fun c o hb q =>
      hk c o (fun q' => hb (by simp [q'])) (fun q' => hb (by simp [q'])) (fun q' => hb (by simp [q'])) (fun q' => hb (by simp [q'])) q) hf⟩
  self := fun A i s Q E st h => wpAny_pyIter_zip st.1 h
end
def iZipM (K : PySem.W.Frag) (ta : TA) : TI := fun σ H R => ta σ H fun vs H1 => ∃ a b xs ys, vs = [.ref a, .ref b] ∧ ((SqL K H1 a xs ∧ SqL K H1 b ys ∧ R (Itz K a b) H1) ∨ (SqT K H1 a xs ∧ SqL K H1 b ys ∧ R (ItzM K a b) H1))
theorem pi_zipM {X : Cx} {e e2 : Expr} {ta : TA} {p pos tpos : Pos} {elts : List Expr} {kk : Nat} (hg : Gl X "zip") (hm : X.mg "zip" = none) (ha : PA X [e, e2] ta)
    (hs : starEach [e, e2] X.env = (false, eval e X.env) :: starEach [e2] X.env := by rfl) (hpl : (backTo pos (starEach [e2] X.env)).any (·.1) = false := by rfl) :
    PI X (.Tuple elts kk tpos) (.Call (.Name "zip" p) [e, e2] [] pos) (iZipM X.K ta) := by
  refine ⟨fun pins s σ H R I h => ?_⟩
  refine Call_ (ld_blt I hg hm PyProof.Rows.boot_zip (PyProof.Rows.callWith_type1 (thn (ha.run pos pins s σ H _ I h) fun us s1 ⟨vs, H1, I1, r1, q1⟩ => ?_) hs hpl))
  obtain ⟨a, b, xs, ys, rfl, q1⟩ := q1
  obtain ⟨u1, u2, rfl, r, r'⟩ := vals2 r1
  cases r
  cases r'
  have fresh5 : ∀ c, c ∈ [s1.heap.objs.size + 4, s1.heap.objs.size + 2, s1.heap.objs.size + 3, s1.heap.objs.size, s1.heap.objs.size + 1] → FpOk X pins H1 c := fun c hcm => by
    simp only [List.mem_cons, List.not_mem_nil, or_false] at hcm
    have hle : s1.heap.objs.size ≤ c := by omega
    exact I1.fpOk hle (I1.hok.fresh hle)
  rcases q1 with ⟨hqx, hqy, q⟩ | ⟨hqx, hqy, q⟩
  · obtain ⟨its, rv, p1, _⟩ := I1.list hqx
    obtain ⟨its2, rv2, p2, _⟩ := I1.list hqy
    refine call_zip_2 p1.isList p2.isList fun h' hz hTI hTO h1 h2 hsz hk => wpAny_pyIter_zip hz ?_
    have I2 : Inv X pins σ H1 { s1 with heap := h' } := I1.kept (t' := s1.toks) hk
    exact ⟨s1.heap.objs.size + 4, [s1.heap.objs.size + 4, s1.heap.objs.size + 2, s1.heap.objs.size + 3, s1.heap.objs.size, s1.heap.objs.size + 1], _, _, H1, rfl, I2, turn_zip (PySem.W.ktu_apart s1.heap.objs.size a b p1.lt p2.lt), ⟨hz, hTI, ⟨_, _, hTO⟩, h1, h2⟩, fresh5, q⟩
  · obtain ⟨its, rv, p1, _⟩ := I1.tuple hqx
    obtain ⟨its2, rv2, p2, _⟩ := I1.list hqy
    have p1' : s1.heap.IsTuple a its.toArray := p1
    obtain ⟨o1, ho1, _⟩ := id p1'
    refine zip_begins2 (begins_tuple a its.toArray) (begins_list b its2.toArray) p1' p2.isList fun h' hz hTI hTO h1 h2 hsz hk => wpAny_pyIter_zip hz ?_
    have I2 : Inv X pins σ H1 { s1 with heap := h' } := I1.kept (t' := s1.toks) hk
    exact ⟨s1.heap.objs.size + 4, [s1.heap.objs.size + 4, s1.heap.objs.size + 2, s1.heap.objs.size + 3, s1.heap.objs.size, s1.heap.objs.size + 1], _, _, H1, rfl, I2, turn_zipM (apart_new (Heap.lt_size ho1) p2.lt), ⟨hz, hTI, ⟨_, _, hTO⟩, ⟨_, h1, rfl, rfl⟩, ⟨_, h2, rfl, rfl⟩⟩, fresh5, q⟩
theorem walk_zipM {K : PySem.W.Frag} {a b : Addr} {xs ys : List V} : Walk (ItzM K a b) (min xs.length ys.length) (fun H => SqT K H a xs ∧ SqL K H b ys) (YPair (fun i => xs[i]?) (fun i => ys[i]?)) := by
  refine ⟨fun i _ hi q => ⟨xs, ys, xs[i]'(by omega), ys[i]'(by omega), q.1, q.2, by simp, by simp⟩, fun _ q => ⟨xs, ys, q.1, q.2, rfl⟩, fun i H v H' _ q y => ?_⟩
  obtain ⟨T, x, y, h1, h2, h3, h4, h5⟩ := y
  exact ⟨T, x, y, h1, h2, h3, h4 _ q.1, h5 _ q.2⟩
end L2

set_option Elab.async false
set_option linter.all false
set_option maxRecDepth 100000
set_option maxHeartbeats 2000000
/-! for (k, v) in d.items(): d a dict whose keys are tuples of ints and texts -/
namespace L2
open PySem PySem.Spec PyProof.Rows
section
variable {X : Cx} {pins : List (Addr × Obj)} {σ : St} {H : Hp} {s : Shared} {d : Addr} {o : Obj}
theorem Inv.frzTV {kvs : List (List Key × V)} (I : Inv X pins σ H s) (h : H d = some (.frz o (.dT kvs))) :
    (d == sysModules) = false ∧ s.heap.get? d = some o ∧ o.ExactDict ∧ ∃ (es : Array DictEntry) (ep : Nat), o.data = .dict es ep ∧ s.heap.DictRaw d es ep ∧ es.size = kvs.length ∧
      ∀ (i : Nat) (k : List Key) (v : V) (hi : i < es.size), kvs[i]? = some (k, v) → ∃ q : Addr, es[i].key = .ref q ∧ H q = some (.tup (k.map kV)) ∧ RelV v es[i].val := by
  obtain ⟨hd, z, hs, xs, pr, o', es, ep, ho, hx, hdt, he, _⟩ := I.hok d _ h
  rw [hd] at ho
  cases ho
  refine ⟨hs, hd, hx, es, ep, hdt, ⟨o, hd, hx, hdt⟩, ?_, fun i k v hi e => ?_⟩
  · have l1 : es.size = xs.length := size_of_entries he
    have l2 : kvs.length = xs.length := Paired.length pr
    omega
  · obtain ⟨b, hb, e1, e2, e3⟩ := paired_get pr e
    have q := entry_at he i
    rw [hb, Array.getElem?_eq_getElem hi] at q
    have z2 := Option.some.inj q
    exact ⟨b.2.1, by rw [z2]; rfl, e2, by rw [z2]; exact e3⟩
end
def Itit (d : Addr) (o : Obj) (kvs : List (List Key × V)) : It :=
  ⟨fun i H => H d = some (.frz o (.dT kvs)) ∧ i < kvs.length, fun i H x H' => ∃ T k v q, kvs[i]? = some (k, v) ∧ x = .ref T ∧ H q = some (.tup (k.map kV)) ∧ H T = none ∧ H' = upd H T (.tup [.ref q, v]), fun i H => H d = some (.frz o (.dT kvs)) ∧ kvs.length ≤ i⟩
section
variable {P : Program} {w : World} {K : PySem.W.Frag} {tg : Expr} {d : Addr} {o : Obj} {es : Array DictEntry} {ep : Nat} {kvs : List (List Key × V)}
theorem turn_itemsT {elts : List Expr} {kk : Nat} {tpos : Pos} (it : Addr) (hod : o.data = .dict es ep) :
    Turn P w K (.Tuple elts kk tpos) (Itit d o kvs) [it] it (fun i h => ∃ ok ov, IsItemIter h it d i kvs.length ep ok ov) where
  mem := by simp
  obj := fun i h st b hb => by
    obtain rfl : b = it := by simpa using hb
    obtain ⟨ok, ov, e⟩ := st
    exact ⟨_, e, fun v z => nomatch z⟩
  keep := fun i h h' st k => let ⟨ok, ov, e⟩ := st; ⟨ok, ov, k it (by simp) _ e⟩
  item := by
    intro X hP hw hK hc i pins s σ H E I hf st hg
    subst hP hw hK
    obtain ⟨hd, hi⟩ := hg
    obtain ⟨hs, hgd, hx, es', ep', hdt, raw, hsz, ent⟩ := I.frzTV hd
    obtain ⟨rfl, rfl⟩ := dict_ep hod hdt
    obtain ⟨⟨k, v⟩, hkv⟩ : ∃ p, kvs[i]? = some p := ⟨kvs[i], List.getElem?_eq_getElem hi⟩
    have hi' : i < es'.size := by omega
    obtain ⟨q, ek, hq, ev⟩ := ent i k v hi' hkv
    obtain ⟨ok, ov, he⟩ := st
    rw [← hsz] at he
    have hlt : it < s.heap.objs.size := Heap.lt_size he
    refine wpAny_pyNext_items_item_raw he raw hi' fun h' ho hT hz hk => ?_
    refine ⟨_, rfl, wpAny_letOwnedTupleGo_items (s := { s with heap := h' }) ho fun h'' he' sb => ?_⟩
    have hT2 : h''.get? s.heap.objs.size = some { cls := .type "tuple", data := .seq #[es'[i].key, es'[i].val] } := (sb.2 _ (Nat.ne_of_gt hlt)).trans hT
    have new : ObjOk X.prog X.w (upd H s.heap.objs.size (.tup [.ref q, v])) h'' s.heap.objs.size (.tup [.ref q, v]) :=
      ⟨by show 2 ≤ sizeLine; decide, [es'[i].key, es'[i].val], .cons ek (.cons ev .nil), ⟨_, hT2, rfl, _, rfl⟩⟩
    have I1 : Inv X pins σ (upd H s.heap.objs.size (.tup [.ref q, v])) { s with heap := h'' } :=
      I.turnedNew (t' := s.toks) (ch := [it]) (fun b ob hb e => (sb.2 b (by simpa using hb)).trans (hk b ob (by simpa using hb) e)) hf (Nat.le_refl _) new
    refine ⟨.ref s.heap.objs.size, _, I1, rfl, ⟨_, k, v, q, hkv, rfl, hq, I.hok.fresh (Nat.le_refl _), rfl⟩, ⟨es'[i].key, es'[i].val, ?_⟩, fun b hb => ?_⟩
    · rw [← hsz]; exact he'
    · have e : b = it := by simpa using hb
      rw [e, upd_ne (Nat.ne_of_lt hlt)]
      exact (hf it (by simp)).1
  done := by
    intro X hP hw hK hc i pins s σ H E I hf st hg
    subst hP hw hK
    obtain ⟨hd, hi⟩ := hg
    obtain ⟨f0, f1, f2, f3, f4, f5⟩ := hf it (by simp)
    obtain ⟨hs, hgd, hx, es', ep', hdt, raw, hsz, ent⟩ := I.frzTV hd
    obtain ⟨rfl, rfl⟩ := dict_ep hod hdt
    obtain ⟨ok, ov, he⟩ := st
    rw [← hsz] at he hi
    exact wpAny_pyNext_items_end_raw (I.ok.hd hc) he raw hi fun h' eb => ⟨rfl, I.turned (t' := s.toks) (fun b ob hb e => eb b ob hb e) f0 f1 f3 f4 f5⟩
  self := fun A i s Q E st h => let ⟨_, _, e⟩ := st; PySem.W.kcp_self e h
end
def iItemsT (td : TE) : TI := fun σ H R => td σ H fun x H1 => ∃ d o kvs, x = .ref d ∧ H1 d = some (.frz o (.dT kvs)) ∧ R (Itit d o kvs) H1
section
variable {X : Cx} {tg e : Expr} {td : TE} {apos cpos : Pos}
theorem pi_itemsT {elts : List Expr} {kk : Nat} {tpos : Pos} (he : PE X e td) (hbase : attributeBase e "items" X.env (eval e X.env) = eval e X.env := by rfl) (hline : (apos.endLine == cpos.line) = true := by rfl) :
    PI X (.Tuple elts kk tpos) (.Call (.Attribute e "items" apos) [] [] cpos) (iItemsT td) := by
  refine ⟨fun pins s σ H R I h => wpAny_Call_method (T := "dict") (id := "dict.items") hbase rfl hline F.plainAttrs_dict F.slot_dict_items F.type_dict_items (thn (he.run pins s σ H _ I h) fun u s1 hh => ?_)⟩
  obtain ⟨x, H1, I1, rx, d, o, kvs, rfl, hd, q⟩ := hh
  obtain rfl : u = Value.ref d := rx
  obtain ⟨hs, hgd, hx, es, ep, hdt, raw, hsz, ent⟩ := I1.frzTV hd
  refine ⟨raw.typeIs, noDict_raw raw, ?_⟩
  have I2 : Inv X pins σ H1 { s1 with heap := s1.heap.push { cls := .type "dict_items", data := .fields #[.ref d] } } := I1.kept (t' := s1.toks) fun b ob q => Heap.get?_push_of_some _ q
  have fin : wpAny (model X.prog X.w) X.A (pyIter (.ref s1.heap.objs.size)) (PIE X pins σ (.Tuple elts kk tpos) R) X.xe { s1 with heap := s1.heap.push { cls := .type "dict_items", data := .fields #[.ref d] } } := by
    refine wpAny_pyIter_items_raw (d := d) ⟨_, Heap.get?_push_size _ rfl, rfl, rfl⟩ (raw.at fun _ e => Heap.get?_push_of_some _ e) (pi_one (tk := s1.toks) I2 _ (turn_itemsT _ hdt) ⟨.none, .none, ?_⟩ q)
    rw [← hsz]
    exact Heap.get?_push_size _ rfl
  show wpAny _ _ (callWith cpos (.builtin "dict.items") [.ref d] [] []) _ X.xe s1
  exact method_meetsIn F.slot_dict_items F.entry_dict_items rfl (PySem.evalArgs_none ⟨rfl, raw.typeIs, F.args_dict_items_1 _, _, meets_dict_items_raw d hs, ⟨es, ep, raw⟩, fin⟩)
end
theorem walk_itemsT {d : Addr} {o : Obj} {kvs : List (List Key × V)} : Walk (Itit d o kvs) kvs.length (fun H => H d = some (.frz o (.dT kvs))) (fun i H x H' => ∃ T k v q, kvs[i]? = some (k, v) ∧ x = .ref T ∧ H q = some (.tup (k.map kV)) ∧ H T = none ∧ H' = upd H T (.tup [.ref q, v])) :=
  ⟨fun _ _ hi q => ⟨q, hi⟩, fun _ q => ⟨q, Nat.le_refl _⟩, fun _ _ _ _ _ _ y => y⟩
end L2

set_option Elab.async false
set_option linter.all false
set_option maxRecDepth 100000
set_option maxHeartbeats 1000000
/-! len of an own object -/
namespace L2
open PySem PySem.Spec PyProof.Rows
open C8 (CX0 E0)
structure LenC (P : Program) (w : World) (K : PySem.W.Frag) (mg : Str → Option Value) (base : Heap) (k : Nat) (C : Addr) (sp : Sp) : Prop where
  it : ∃ (f : Addr) (fd : FuncData) (ps : List Str), PySem.W.findIn K (.ref C) "__len__" = some (some (.ref f)) ∧ PySem.W.isFn K (.ref f) = true ∧ FnOk P w K mg base CX0 k f fd ps sp ∧ Binds K fd ps []
def rLenO (C : Addr) (sp : Sp) : List V → Hp → VK → Prop := fun xs H Q => ∃ p dx fs, xs = [.ref p] ∧ H p = some (.ins C dx fs) ∧ sp [.ref p] H (fun v H' => ∃ n : Int, v = .int n ∧ 0 ≤ n ∧ n < 2 ^ 63 ∧ Q v H') E0
theorem call_lenO {X : Cx} {j k : Nat} {C : Addr} {sp : Sp} (L : LenC X.prog X.w X.K X.mg X.base k C sp) (hr : Room j X.A) (hk : k + 1 ≤ j) : CallR X (.builtin "len") (rLenO C sp) := by
  intro pins s σ H xs us Q I r h
  obtain ⟨p, dx, fs, rfl, ep, hq⟩ := h
  obtain ⟨u, rfl, rx⟩ := vals1 r
  cases rx
  obtain ⟨f, fd, ps, he, hf, F, b⟩ := L.it
  obtain ⟨ox, od, J⟩ := inst_of I ep
  obtain ⟨m, fr⟩ := I.fr
  have l1 : ([Value.ref p] ++ ([] : List Value)).length = ps.length := by rw [← F.len _ _ _ _ hq]; rfl
  have hr1 : Room k X.A.in1 := (hr.mono hk).in1
  refine PySem.W.len_K fr I.ok.mod.kin J he hf (wpAny_call (codeAny_mono (F.run X.A.in1 X.stack s H ⟨[.ref p], []⟩ [.ref p] [.ref p] _ E0 hr1 I.env0.in1 (b s [.ref p] I.kIn l1) (.cons rfl .nil) hq) fun r s' hq => ?_))
  cases r with
  | error e => exact hq.elim
  | ok fl =>
    cases fl with
    | ret u =>
      obtain ⟨v, H', I2, rv, n, rfl, h0, h1, q⟩ := I.after hq
      obtain ⟨t, rfl⟩ := (show ∃ t, u = Value.int n t from rv)
      exact ⟨⟨h0, h1⟩, ⟨.int n, H', I2.tok _, ⟨_, rfl⟩, q⟩⟩
    | next => exact False.elim hq
    | brk => exact False.elim hq
    | cont => exact False.elim hq
end L2

set_option Elab.async false
set_option linter.all false
set_option maxRecDepth 100000
set_option maxHeartbeats 1000000
/-! stores: place_in, is_cell at the table of two sides -/
namespace E4
open PySem PySem.Spec PyProof.Rows L2
open C8 (Cal Mak Met InsC pe_c pe_mt pe_mt0 call_isC clsBody)
abbrev sState : Stmt := top 32
abbrev sTrial : Stmt := top 33
abbrev sStore : Stmt := top 34
abbrev sIsCell : Stmt := top 35
abbrev sPlaceIn : Stmt := top 36
def mS (i : Nat) : Stmt := (clsBody sState).getD i (.Pass ⟨0, 0, 0, 0⟩)
def mT (i : Nat) : Stmt := (clsBody sTrial).getD i (.Pass ⟨0, 0, 0, 0⟩)
def mW (i : Nat) : Stmt := (clsBody sStore).getD i (.Pass ⟨0, 0, 0, 0⟩)
/-- the board -/
def bd : List Sd := [("r", ["m"], ["n"]), ("c", ["n"], [])]
def vls (m n : Int) : Vls := [("m", m), ("n", n)]
def gv (m n : Int) : Str → Int := fun z => if z = "m" then m else n
def CellAt (K : PySem.W.Frag) (H : Hp) (c : Addr) : Prop := SqL K H c [.int 1, .int 2] ∨ SqT K H c [.int 1, .int 2]
theorem _root_.L2.SqT.sameX {K : PySem.W.Frag} {H H' : Hp} {a : Addr} {xs : List V} (h : SqT K H a xs) (S : Same H H') : SqT K H' a xs := by
  rcases h with (h | ⟨o, h⟩) | h
  · exact .inl (.inl (S _ _ h))
  · exact .inl (.inr ⟨o, S _ _ h⟩)
  · exact .inr h
theorem valm (m n : Int) : valV (dI (vls m n)) (Sum.inr "m") = some (.int (gv m n "m")) := by
  rw [valV_dI]; rfl
theorem valn (m n : Int) : valV (dI (vls m n)) (Sum.inr "n") = some (.int (gv m n "n")) := by
  rw [valV_dI]; rfl
def spPlace (K : PySem.W.Frag) (C : Addr) : Sp := fun vs H Q _ => ∃ (tb d c : Addr) (m n : Int), vs = [.ref tb, .ref d, .ref c] ∧ PlAt C H tb bd ∧ H d = some (.dK (dI (vls m n))) ∧ CellAt K H c ∧ m.natAbs < 2 ^ 400 ∧ n.natAbs < 2 ^ 400 ∧ ∀ H', Same H H' → Q (.int (n + 2)) H'
def spIsCell (K : PySem.W.Frag) (C : Addr) : Sp := fun vs H Q _ => ∃ (tb d c : Addr) (m n : Int), vs = [.ref c, .ref tb, .ref d] ∧ PlAt C H tb bd ∧ H d = some (.dK (dI (vls m n))) ∧ H c = some (.lst [.int 1, .int 2]) ∧ m.natAbs < 2 ^ 400 ∧ n.natAbs < 2 ^ 400 ∧ 2 ≤ m ∧ 3 ≤ n ∧ ∀ H', Same H H' → Q (.bl true) H'
def spLenP (C : Addr) : Sp := fun vs H Q _ => ∃ (tb : Addr), vs = [.ref tb] ∧ PlAt C H tb bd ∧ Q (.int 2) H
def wsP (m n : Int) : List Int := [1 * prodI ((["n"] : List Str).map (gv m n)), 2 * prodI (([] : List Str).map (gv m n))]
theorem gv_n {m n : Int} : gv m n "n" = n := if_neg (by decide +kernel)
theorem gv_m {m n : Int} : gv m n "m" = m := if_pos rfl
theorem wsP_sum {m n : Int} : (wsP m n).sum = n + 2 := by
  show 1 * (gv m n "n" * 1) + (2 * 1 + 0) = n + 2
  rw [gv_n]
  omega
theorem let_r : LetOk "r" := by unfold LetOk; decide +kernel
theorem let_c : LetOk "c" := by unfold LetOk; decide +kernel
theorem let_m : LetOk "m" := by unfold LetOk; decide +kernel
theorem let_n : LetOk "n" := by unfold LetOk; decide +kernel
theorem bd_ok : SdsOk bd := by
  refine ⟨by simp [bd], fun x hx => ?_, by decide +kernel, ?_, by decide⟩
  · simp only [bd, List.mem_cons, List.not_mem_nil, or_false] at hx
    rcases hx with rfl | rfl
    · exact ⟨let_r, fun z hz => by obtain rfl := List.mem_singleton.mp hz; exact let_m, fun z hz => by obtain rfl := List.mem_singleton.mp hz; exact let_n, by decide, by decide⟩
    · exact ⟨let_c, fun z hz => by obtain rfl := List.mem_singleton.mp hz; exact let_n, fun z hz => (nomatch hz), by decide, by decide⟩
  · intro x hx y hy z hz
    simp only [bd, List.mem_cons, List.not_mem_nil, or_false] at hx hy
    rcases hx with rfl | rfl <;> rcases hy with rfl | rfl <;> (simp only [List.mem_cons, List.not_mem_nil, or_false] at hz; first | (rcases hz with rfl | rfl <;> decide +kernel) | (subst hz; decide +kernel))
section
variable {P : Program} {w : World} {K : PySem.W.Frag} {mg : Str → Option Value} {base : Heap} {C : Addr}
theorem scPlaceIn : FnScope ["table", "values", "cell", "index", "side"] ["table", "values", "cell"] (defScope sPlaceIn) := ⟨rfl, rfl, rfl, by decide +kernel, rfl, by decide +kernel, by decide +kernel⟩
theorem ok_place {f : Addr} {fd : FuncData} (F : Fun K "place_in" "place_in" sPlaceIn f fd) (B : Bl mg) (hsum : mg "sum" = none) (Sd_ : Met P w K mg base 1 C "sides" (spSides C) []) (Pr : Cal P w K mg base 1 "product_at" (spProd K) []) : FnOk P w K mg base CX0 2 f fd ["table", "values", "cell"] (spPlace K C) := by
  refine F.ok scPlaceIn (fun vs H Q E h => ?_) (fun cdv A outer s H vs Q E hr h => ?_)
  · obtain ⟨tb, d, c, m, n, rfl, _⟩ := h
    rfl
  · obtain ⟨tb, d, c, m, n, rfl, hp, hd, hc, bm, bn, k⟩ := h
    refine ⟨_, ((pss_one (ps_ret (pe_callB (cr_sum rfl) (by rfl) hsum (by decide +kernel) (pa_cons (pe_lc (own := [("index", 3), ("side", 4)]) (g := (gTup K 2 (gCons (gName 3) (gCons (gName 4) gNil)))) (tt := tYes) (te := tOp (rI CMul fun i j => .int (i * j)) (tVar 3) (tCall (spProd K) [] C8.E0 (tCons (tOp (rIxT K) (tVar 4) (tC (.int 2))) (tCons (tVar 1) tNil)))) rfl scPlaceIn.nd (pi_zipM (by rfl) B.zip_ (pa_cons (pv 2) (pa_cons (pe_mt0 Sd_ hr (by decide) (pv 0)) pa_nil)))
            (blkOk_by (own := [("index", 3), ("side", 4)]) (N := ["table", "values", "cell", "index", "side"]) (sc := defScope sPlaceIn) (by decide +kernel))
            (fun _ _ _ _ _ => (pg_tup rfl (pgs_cons (pg_name (i := 3) scPlaceIn.nd rfl (Or.inl rfl)) (pgs_cons (pg_name (i := 4) scPlaceIn.nd rfl (Or.inl rfl)) pgs_nil)))) (fun _ _ _ _ _ => pts_nil) (fun _ _ _ _ _ => by exact (pe_op op_mul (pv 3) (pe_c Pr hr (by decide) rfl (pa_cons (pe_ix ix_tup (pv 4) pe_int (fun _ _ => rfl)) (pa_cons (pv 1) pa_nil)))))) pa_nil))))), ?_⟩
    obtain ⟨dx, l0, ts0, ha, hl0, hx0⟩ := id hp
    refine ret_of ?_
    refine ⟨_, rfl, _, rfl, tb, dx, _, rfl, ha, rfl, tb, bd, rfl, hp, bd_ok, fun H1 p ts S1 np hpp hx => ?_⟩
    obtain ⟨t0, t1, rfl, r0, r1⟩ : ∃ t0 t1, ts = [t0, t1] ∧ SdAt H1 t0 ("r", ["m"], ["n"]) ∧ SdAt H1 t1 ("c", ["n"], []) := by
      cases hx with
      | cons r0 hx => cases hx with
        | cons r1 hx => cases hx; exact ⟨_, _, rfl, r0, r1⟩
    obtain ⟨a0, b0, g1, g2, g3⟩ := r0
    obtain ⟨a1, b1, q1, q2, q3⟩ := r1
    refine ⟨c, p, [.int 1, .int 2], [V.ref t0, V.ref t1], rfl, ?_⟩
    rcases hc with hc | hc
    · refine .inl ⟨hc.same S1, SqL.of hpp, fun D nD => ?_⟩
      refine lc_it (walk_zip (xs := [.int 1, .int 2]) (ys := [V.ref t0, V.ref t1]) (n := 2) rfl) (fun i H' => Same H1 H' ∧ H' D = some (.lst (((wsP m n).take i).map V.int))) ⟨Same.upd nD, upd_same⟩ (fun i H' _ q => ⟨hc.same (S1.trans q.1), SqL.of (q.1 _ _ hpp)⟩) ?_ ?_
      · rintro i v H2 H3 hi ⟨S2, hD⟩ ⟨T, xv, yv, rfl, nT, rfl, e1, e2⟩
        have S3 : Same H2 (upd H2 T (.tup [xv, yv])) := Same.upd nT
        have hD3 := S3 _ _ hD
        have hd3 := S3 _ _ (S2 _ _ (S1 _ _ hd))
        have S13 := S2.trans S3
        match i, hi with
        | 0, _ =>
          obtain rfl := Option.some.inj e1
          obtain rfl := Option.some.inj e2
          refine ⟨T, _, rfl, SqT.of upd_same, rfl, _, _, rfl, _, _, rfl, rfl, rfl, iteT (B := False) ?_⟩
          refine ⟨_, rfl, _, rfl, t0, _, 2, _, rfl, rfl, SqT.of (S13 _ _ g1), rfl, _, rfl, b0, d, ["n"], _, gv m n, rfl, SqL.of (S13 _ _ g3), hd3, fun x hx => ?_, by decide, fun x hx => ?_, _, _, rfl, rfl, .inl ⟨by decide, by decide⟩, _, hD3, by show 0 < sizeLine; decide, fun c o e => ?_, ?_⟩
          · obtain rfl := List.mem_singleton.mp hx
            exact valn m n
          · obtain rfl := List.mem_singleton.mp hx
            exact bn
          · rw [upd_ne (ne_of_none e nD)]
            exact S13 _ _ e
          · rw [upd_same]
            rfl
        | 1, _ =>
          obtain rfl := Option.some.inj e1
          obtain rfl := Option.some.inj e2
          refine ⟨T, _, rfl, SqT.of upd_same, rfl, _, _, rfl, _, _, rfl, rfl, rfl, iteT (B := False) ?_⟩
          refine ⟨_, rfl, _, rfl, t1, _, 2, _, rfl, rfl, SqT.of (S13 _ _ q1), rfl, _, rfl, b1, d, [], _, gv m n, rfl, SqL.of (S13 _ _ q3), hd3, fun x hx => (nomatch hx), by decide, fun x hx => (nomatch hx), _, _, rfl, rfl, .inl ⟨by decide, by decide⟩, _, hD3, by show 1 < sizeLine; decide, fun c o e => ?_, ?_⟩
          · rw [upd_ne (ne_of_none e nD)]
            exact S13 _ _ e
          · rw [upd_same]
            rfl
      · rintro H2 ⟨S2, hD⟩
        refine ⟨D, wsP m n, rfl, SqL.of hD, ?_⟩
        rw [wsP_sum]
        exact k H2 (S1.trans S2)
    · refine .inr ⟨SqT.sameX hc S1, SqL.of hpp, fun D nD => ?_⟩
      refine lc_it (walk_zipM (xs := [.int 1, .int 2]) (ys := [V.ref t0, V.ref t1])) (fun i H' => Same H1 H' ∧ H' D = some (.lst (((wsP m n).take i).map V.int))) ⟨Same.upd nD, upd_same⟩ (fun i H' _ q => ⟨SqT.sameX hc (S1.trans q.1), SqL.of (q.1 _ _ hpp)⟩) ?_ ?_
      · rintro i v H2 H3 hi ⟨S2, hD⟩ ⟨T, xv, yv, rfl, nT, rfl, e1, e2⟩
        have S3 : Same H2 (upd H2 T (.tup [xv, yv])) := Same.upd nT
        have hD3 := S3 _ _ hD
        have hd3 := S3 _ _ (S2 _ _ (S1 _ _ hd))
        have S13 := S2.trans S3
        match i, hi with
        | 0, _ =>
          obtain rfl := Option.some.inj e1
          obtain rfl := Option.some.inj e2
          refine ⟨T, _, rfl, SqT.of upd_same, rfl, _, _, rfl, _, _, rfl, rfl, rfl, iteT (B := False) ?_⟩
          refine ⟨_, rfl, _, rfl, t0, _, 2, _, rfl, rfl, SqT.of (S13 _ _ g1), rfl, _, rfl, b0, d, ["n"], _, gv m n, rfl, SqL.of (S13 _ _ g3), hd3, fun x hx => ?_, by decide, fun x hx => ?_, _, _, rfl, rfl, .inl ⟨by decide, by decide⟩, _, hD3, by show 0 < sizeLine; decide, fun c o e => ?_, ?_⟩
          · obtain rfl := List.mem_singleton.mp hx
            exact valn m n
          · obtain rfl := List.mem_singleton.mp hx
            exact bn
          · rw [upd_ne (ne_of_none e nD)]
            exact S13 _ _ e
          · rw [upd_same]
            rfl
        | 1, _ =>
          obtain rfl := Option.some.inj e1
          obtain rfl := Option.some.inj e2
          refine ⟨T, _, rfl, SqT.of upd_same, rfl, _, _, rfl, _, _, rfl, rfl, rfl, iteT (B := False) ?_⟩
          refine ⟨_, rfl, _, rfl, t1, _, 2, _, rfl, rfl, SqT.of (S13 _ _ q1), rfl, _, rfl, b1, d, [], _, gv m n, rfl, SqL.of (S13 _ _ q3), hd3, fun x hx => (nomatch hx), by decide, fun x hx => (nomatch hx), _, _, rfl, rfl, .inl ⟨by decide, by decide⟩, _, hD3, by show 1 < sizeLine; decide, fun c o e => ?_, ?_⟩
          · rw [upd_ne (ne_of_none e nD)]
            exact S13 _ _ e
          · rw [upd_same]
            rfl
      · rintro H2 ⟨S2, hD⟩
        refine ⟨D, wsP m n, rfl, SqL.of hD, ?_⟩
        rw [wsP_sum]
        exact k H2 (S1.trans S2)
theorem scIsCell : FnScope ["cell", "table", "values", "index", "side"] ["cell", "table", "values"] (defScope sIsCell) := ⟨rfl, rfl, rfl, by decide +kernel, rfl, by decide +kernel, by decide +kernel⟩
theorem ok_isCell {f : Addr} {fd : FuncData} (F : Fun K "is_cell" "is_cell" sIsCell f fd) (B : Bl mg) (LP : LenC P w K mg base 1 C (spLenP C)) (Cn : Cal P w K mg base 2 "is_count" spCount []) (Sd_ : Met P w K mg base 1 C "sides" (spSides C) []) (Pr : Cal P w K mg base 1 "product_at" (spProd K) []) : FnOk P w K mg base CX0 3 f fd ["cell", "table", "values"] (spIsCell K C) := by
  refine F.ok scIsCell (fun vs H Q E h => ?_) (fun cdv A outer s H vs Q E hr h => ?_)
  · obtain ⟨tb, d, c, m, n, rfl, _⟩ := h
    rfl
  · obtain ⟨tb, d, c, m, n, rfl, hp, hd, hc, bm, bn, m2, n3, k⟩ := h
    refine ⟨_, ((pss_cons (ps_if (PW.pt (pw_or (pt_not (pt_val (pe_callB call_isi (by rfl) B.isi (by decide +kernel) (pa_cons (pv 0) (pa_cons (pe_bltn (v := .ty "list") (by rfl) B.lst_ (by decide +kernel) rfl) pa_nil))))) (pw_or1 (pt_cmpR op_ne (pe_callB call_len_seq (by rfl) B.len_ PySem.boot_len (pa_cons (pv 0) pa_nil)) (pe_callB (call_lenO LP hr (by decide)) (by rfl) B.len_ PySem.boot_len (pa_cons (pv 1) pa_nil)) (by rfl))))) (pss_one (ps_ret pe_bl)) pss_nil)
      (pss_cons (ps_if (pt_not (pt_val (pe_callB (cr_all rfl) (by rfl) B.all_ (by decide +kernel) (pa_cons (pe_lc (own := [("index", 3)]) (g := gName 3) (tt := tYes) (te := tCall spCount [] C8.E0 (tCons (tVar 3) tNil)) rfl scIsCell.nd (pi_list (pv 0))
            (blkOk_by (own := [("index", 3)]) (N := ["cell", "table", "values", "index", "side"]) (sc := defScope sIsCell) (by decide +kernel))
            (fun _ _ _ _ _ => (pg_name (i := 3) scIsCell.nd rfl (Or.inl rfl))) (fun _ _ _ _ _ => pts_nil) (fun _ _ _ _ _ => by exact (pe_c Cn hr (by decide) rfl (pa_cons (pv 3) pa_nil)))) pa_nil)))) (pss_one (ps_ret pe_bl)) pss_nil)
      (pss_one (ps_ret (pe_callB (cr_all rfl) (by rfl) B.all_ (by decide +kernel) (pa_cons (pe_lc (own := [("index", 3), ("side", 4)]) (g := (gTup K 2 (gCons (gName 3) (gCons (gName 4) gNil)))) (tt := tYes) (te := tOp (rI0 fun i j => .bl (decide (i < j))) (tVar 3) (tCall (spProd K) [] C8.E0 (tCons (tOp (rIxT K) (tVar 4) (tC (.int 1))) (tCons (tVar 2) tNil)))) rfl scIsCell.nd (pi_zipM (by rfl) B.zip_ (pa_cons (pv 0) (pa_cons (pe_mt0 Sd_ hr (by decide) (pv 1)) pa_nil)))
            (blkOk_by (own := [("index", 3), ("side", 4)]) (N := ["cell", "table", "values", "index", "side"]) (sc := defScope sIsCell) (by decide +kernel))
            (fun _ _ _ _ _ => (pg_tup rfl (pgs_cons (pg_name (i := 3) scIsCell.nd rfl (Or.inl rfl)) (pgs_cons (pg_name (i := 4) scIsCell.nd rfl (Or.inl rfl)) pgs_nil)))) (fun _ _ _ _ _ => pts_nil) (fun _ _ _ _ _ => by exact (pe_cmpR op_lt (pv 3) (pe_c Pr hr (by decide) rfl (pa_cons (pe_ix ix_tup (pv 4) pe_int (fun _ _ => rfl)) (pa_cons (pv 2) pa_nil))) (by rfl)))) pa_nil))))))), ?_⟩
    obtain ⟨dx, l0, ts0, ha, hl0, hx0⟩ := id hp
    refine ⟨_, rfl, _, _, _, _, true, rfl, .ty "list", .base (.lst hc), kit_ll, true, rfl, iteF ?_⟩
    refine ⟨_, rfl, c, _, rfl, .inl (SqL.of hc), _, rfl, tb, dx, _, rfl, ha, tb, rfl, hp, 2, rfl, by decide, by decide, rfl, _, rfl, ifF rfl ?_⟩
    refine ⟨_, rfl, c, rfl, ⟨_, SqL.of hc⟩, fun D nD => ?_⟩
    refine lc_it (walk_list (xs := [.int 1, .int 2])) (fun i H' => Same H H' ∧ H' D = some (.lst (List.replicate i (V.bl true)))) ⟨Same.upd nD, upd_same⟩ (fun i H' _ q => SqL.of (q.1 _ _ hc)) ?_ ?_
    · rintro i x H4 H5 hi ⟨S4, hD4⟩ ⟨rfl, hx2⟩
      obtain ⟨z, rfl, z0⟩ : ∃ z : Int, x = .int z ∧ 0 ≤ z := by
        have := List.mem_of_getElem? hx2
        simp only [List.mem_cons, List.not_mem_nil, or_false] at this
        rcases this with rfl | rfl <;> exact ⟨_, rfl, by decide⟩
      have i2 : i < 2 := hi
      refine ⟨rfl, iteT (B := False) ⟨_, rfl, z, rfl, z0, _, hD4, ?_, ?_, ?_⟩⟩
      · rw [List.length_replicate, sizeLine_eq]
        omega
      · intro b o hb
        rw [upd_ne (ne_of_none hb nD)]
        exact S4 _ _ hb
      · rw [upd_same, List.replicate_succ']
    rintro H4 ⟨S4, hD4⟩
    refine ⟨D, List.replicate 2 true, rfl, SqL.of hD4, true, rfl, ifF rfl ?_⟩
    clear hD4 nD
    have hc4 := S4 _ _ hc
    have hp4 := hp.same S4
    dsimp only [tNext]
    refine ret_of ?_
    refine ⟨_, rfl, _, rfl, tb, dx, _, rfl, S4 _ _ ha, rfl, tb, bd, rfl, hp4, bd_ok, fun H1 p ts S41 np hpp hx => ?_⟩
    have S1 := S4.trans S41
    obtain ⟨t0, t1, rfl, r0, r1⟩ : ∃ t0 t1, ts = [t0, t1] ∧ SdAt H1 t0 ("r", ["m"], ["n"]) ∧ SdAt H1 t1 ("c", ["n"], []) := by
      cases hx with
      | cons r0 hx => cases hx with
        | cons r1 hx => cases hx; exact ⟨_, _, rfl, r0, r1⟩
    obtain ⟨a0, b0, g1, g2, g3⟩ := r0
    obtain ⟨a1, b1, q1, q2, q3⟩ := r1
    refine ⟨c, p, [.int 1, .int 2], [V.ref t0, V.ref t1], rfl, ?_⟩
    refine .inl ⟨SqL.of (S1 _ _ hc), SqL.of hpp, fun D nD => ?_⟩
    refine lc_it (walk_zip (xs := [.int 1, .int 2]) (ys := [V.ref t0, V.ref t1]) (n := 2) rfl) (fun i H' => Same H1 H' ∧ H' D = some (.lst (List.replicate i (V.bl true)))) ⟨Same.upd nD, upd_same⟩ (fun i H' _ q => ⟨SqL.of (q.1 _ _ (S1 _ _ hc)), SqL.of (q.1 _ _ hpp)⟩) ?_ ?_
    · rintro i v H2 H3 hi ⟨S2, hD⟩ ⟨T, xv, yv, rfl, nT, rfl, e1, e2⟩
      have S3 : Same H2 (upd H2 T (.tup [xv, yv])) := Same.upd nT
      have hD3 := S3 _ _ hD
      have hd3 := S3 _ _ (S2 _ _ (S1 _ _ hd))
      have S13 := S2.trans S3
      match i, hi with
      | 0, _ =>
        obtain rfl := Option.some.inj e1
        obtain rfl := Option.some.inj e2
        refine ⟨T, _, rfl, SqT.of upd_same, rfl, _, _, rfl, _, _, rfl, rfl, rfl, iteT (B := False) ?_⟩
        refine ⟨_, rfl, _, rfl, t0, _, 1, _, rfl, rfl, SqT.of (S13 _ _ g1), rfl, _, rfl, a0, d, ["m"], _, gv m n, rfl, SqL.of (S13 _ _ g2), hd3, fun x hx => ?_, by decide, fun x hx => ?_, _, _, rfl, rfl, _, hD3, by rw [List.length_replicate]; show 0 < sizeLine; decide, fun c o e => ?_, ?_⟩
        · obtain rfl := List.mem_singleton.mp hx
          exact valm m n
        · obtain rfl := List.mem_singleton.mp hx
          exact (by rw [gv_m]; exact bm)
        · rw [upd_ne (ne_of_none e nD)]
          exact S13 _ _ e
        · rw [upd_same]
          have e : decide ((1 : Int) < gv m n "m" * 1) = true := decide_eq_true (by rw [gv_m]; omega)
          show some (HO.lst (_ ++ [V.bl (decide ((1 : Int) < gv m n "m" * 1))])) = _
          rw [e]
          rfl
      | 1, _ =>
        obtain rfl := Option.some.inj e1
        obtain rfl := Option.some.inj e2
        refine ⟨T, _, rfl, SqT.of upd_same, rfl, _, _, rfl, _, _, rfl, rfl, rfl, iteT (B := False) ?_⟩
        refine ⟨_, rfl, _, rfl, t1, _, 1, _, rfl, rfl, SqT.of (S13 _ _ q1), rfl, _, rfl, a1, d, ["n"], _, gv m n, rfl, SqL.of (S13 _ _ q2), hd3, fun x hx => ?_, by decide, fun x hx => ?_, _, _, rfl, rfl, _, hD3, by rw [List.length_replicate]; show 1 < sizeLine; decide, fun c o e => ?_, ?_⟩
        · obtain rfl := List.mem_singleton.mp hx
          exact valn m n
        · obtain rfl := List.mem_singleton.mp hx
          exact (by rw [gv_n]; exact bn)
        · rw [upd_ne (ne_of_none e nD)]
          exact S13 _ _ e
        · rw [upd_same]
          have e : decide ((2 : Int) < gv m n "n" * 1) = true := decide_eq_true (by rw [gv_n]; omega)
          show some (HO.lst (_ ++ [V.bl (decide ((2 : Int) < gv m n "n" * 1))])) = _
          rw [e]
          rfl
    · rintro H2 ⟨S2, hD⟩
      exact ⟨D, List.replicate 2 true, rfl, SqL.of hD, k H2 (S1.trans S2)⟩
end
end E4

set_option Elab.async false
set_option linter.all false
set_option maxRecDepth 100000
set_option maxHeartbeats 1000000
/-! stores: the small methods -/
namespace E4
open PySem PySem.Spec PyProof.Rows L2
open C8 (Cal Mak Met InsC pe_c pe_mt pe_mt0 call_isC clsBody)
abbrev sStInit : Stmt := mS 0
abbrev sCopied : Stmt := mS 1
abbrev sNote : Stmt := mS 2
abbrev sTrInit : Stmt := mT 0
abbrev sEnter : Stmt := mT 1
abbrev sExit : Stmt := mT 2
abbrev sSoInit : Stmt := mW 0
abbrev sSoLen : Stmt := mW 1
abbrev sRoom : Stmt := mW 2
abbrev sLimit : Stmt := mW 4
abbrev sLay : Stmt := mW 6
abbrev sLook : Stmt := mW 7
abbrev sTake : Stmt := mW 8
abbrev sHeld : Stmt := mW 9
abbrev sGrow : Stmt := mW 10
abbrev sAttempt : Stmt := mW 13
abbrev sChkCell : Stmt := mW 15
abbrev sChkRoom : Stmt := mW 16
/-- what is known of the three classes -/
structure Ks (K : PySem.W.Frag) (CT CR CW : Addr) : Prop where
  t : Cls K CT
  tp : NoAttr K CT "present"
  tc : NoAttr K CT "cells"
  tg : NoAttr K CT "changes"
  tb : NoAttr K CT "bound"
  r : Cls K CR
  rs : NoAttr K CR "_store"
  rk : NoAttr K CR "_kept"
  w : Cls K CW
  wt : NoAttr K CW "_table"
  ws : NoAttr K CW "_state"
abbrev stF (p c l b : V) : List (Str × V) := [("present", p), ("cells", c), ("changes", l), ("bound", b)]
abbrev soF (tb st : V) : List (Str × V) := [("_table", tb), ("_state", st)]
abbrev trF (sh kept : V) : List (Str × V) := [("_store", sh), ("_kept", kept)]
/-- a state: its attributes, the dict of sizes, the cells, as many changes as k -/
def StA (CT : Addr) (H : Hp) (st d c l : Addr) (m n : Int) (kv : List (List Key × V)) (k : Nat) (b : V) : Prop :=
  (∃ dx, H st = some (.ins CT dx (stF (.ref d) (.ref c) (.ref l) b))) ∧ H d = some (.dK (dI (vls m n))) ∧ H c = some (.dT kv) ∧ ∃ ch, H l = some (.lst ch) ∧ ch.length = k
def SoO (CW : Addr) (H : Hp) (sh tb st : Addr) : Prop := ∃ dx, H sh = some (.ins CW dx (soF (.ref tb) (.ref st)))
abbrev kx : List Key := [Sum.inl 1, Sum.inl 2]
theorem StA.same {CT : Addr} {H H' : Hp} {st d c l : Addr} {m n : Int} {kv : List (List Key × V)} {k : Nat} {b : V} (h : StA CT H st d c l m n kv k b) (S : Same H H') : StA CT H' st d c l m n kv k b :=
  let ⟨⟨dx, h1⟩, h2, h3, ch, h4, h5⟩ := h
  ⟨⟨dx, S _ _ h1⟩, S _ _ h2, S _ _ h3, ch, S _ _ h4, h5⟩
theorem SoO.same {CW : Addr} {H H' : Hp} {sh tb st : Addr} (h : SoO CW H sh tb st) (S : Same H H') : SoO CW H' sh tb st := let ⟨dx, h1⟩ := h; ⟨dx, S _ _ h1⟩
def spStInit (CT : Addr) : Sp := fun vs H Q _ => ∃ (a dx : Addr) (p c l b : V), vs = [.ref a, p, c, l, b] ∧ H a = some (.ins CT dx []) ∧ ∀ H', SameB a H H' → H' a = some (.ins CT dx (stF p c l b)) → Q .non H'
def spNote (CT : Addr) : Sp := fun vs H Q _ => ∃ (st d c l t : Addr) (m n : Int) (kv : List (List Key × V)) (k : Nat) (b : V), vs = [.ref st, .ref t] ∧ StA CT H st d c l m n kv k b ∧ H t = some (.tup [.int 1, .int 2]) ∧ k < 100 ∧ ∀ H' o, SameB l H H' → H' l = some (.lst o) → o.length = k + 1 → Q .non H'
def spTrInit (CR : Addr) : Sp := fun vs H Q _ => ∃ (a dx : Addr) (sh : V), vs = [.ref a, sh] ∧ H a = some (.ins CR dx []) ∧ ∀ H', SameB a H H' → H' a = some (.ins CR dx (trF sh .non)) → Q .non H'
def spExit (CR CW : Addr) : Sp := fun vs H Q _ => ∃ (a dx sh ds : Addr) (tb x y : V), vs = [.ref a, .non, .non, .non] ∧ H a = some (.ins CR dx (trF (.ref sh) x)) ∧ H sh = some (.ins CW ds (soF tb y)) ∧ ∀ H', SameB sh H H' → H' sh = some (.ins CW ds (soF tb x)) → Q .non H'
def spSoLen (CT CW : Addr) : Sp := fun vs H Q _ => ∃ (sh tb st d c l : Addr) (m n : Int) (kv : List (List Key × V)) (k : Nat) (b : V), vs = [.ref sh] ∧ SoO CW H sh tb st ∧ StA CT H st d c l m n kv k b ∧ Q (.int kv.length) H
/-- a state's limit, whatever else it holds -/
def StB (CT : Addr) (H : Hp) (st : Addr) (b : V) : Prop := ∃ dx p c l, H st = some (.ins CT dx (stF p c l b))
theorem StA.b {CT : Addr} {H : Hp} {st d c l : Addr} {m n : Int} {kv : List (List Key × V)} {k : Nat} {b : V} (h : StA CT H st d c l m n kv k b) : StB CT H st b := let ⟨⟨dx, h1⟩, _⟩ := h; ⟨dx, _, _, _, h1⟩
def spRoom (CT CW : Addr) : Sp := fun vs H Q _ => ∃ (sh tb st : Addr) (b : V), vs = [.ref sh] ∧ SoO CW H sh tb st ∧ StB CT H st b ∧ Q b H
/-- no limit, or one beyond the place -/
def spChkRoom (CT CW : Addr) : Sp := fun vs H Q _ => ∃ (sh tb st d c l : Addr) (m n : Int) (kv : List (List Key × V)) (k : Nat) (p : Int), vs = [.ref sh, .int p] ∧ SoO CW H sh tb st ∧ StA CT H st d c l m n kv k .non ∧ Q .non H
def spChkCell (C CT CW : Addr) : Sp := fun vs H Q _ => ∃ (sh tb st d c l cl : Addr) (m n : Int) (kv : List (List Key × V)) (k : Nat) (b : V), vs = [.ref sh, .ref cl] ∧ SoO CW H sh tb st ∧ StA CT H st d c l m n kv k b ∧ PlAt C H tb bd ∧ H cl = some (.lst [.int 1, .int 2]) ∧ m.natAbs < 2 ^ 400 ∧ n.natAbs < 2 ^ 400 ∧ 2 ≤ m ∧ 3 ≤ n ∧ ∀ H', Same H H' → Q .non H'
def spLimit (CT CW : Addr) : Sp := fun vs H Q _ => ∃ (sh tb st d c l : Addr) (m n : Int) (kv : List (List Key × V)) (k : Nat) (b : V) (r : Int), vs = [.ref sh, .int r] ∧ SoO CW H sh tb st ∧ StA CT H st d c l m n kv k b ∧ 0 ≤ r ∧ ∀ H', SameB st H H' → (∃ dx, H' st = some (.ins CT dx (stF (.ref d) (.ref c) (.ref l) (.int r)))) → Q .non H'
section
variable {P : Program} {w : World} {K : PySem.W.Frag} {mg : Str → Option Value} {base : Heap} {C CT CR CW : Addr}
theorem scStInit : FnScope ["self", "present", "cells", "changes", "bound"] ["self", "present", "cells", "changes", "bound"] (defScope sStInit) := ⟨rfl, rfl, rfl, by decide +kernel, rfl, by decide +kernel, by decide +kernel⟩
theorem ok_stInit {f : Addr} {fd : FuncData} (F : Fun K "__init__" "State.__init__" sStInit f fd) (Z : Ks K CT CR CW) : FnOk P w K mg base CX0 1 f fd ["self", "present", "cells", "changes", "bound"] (spStInit CT) := by
  refine F.ok scStInit (fun vs H Q E h => ?_) (fun cdv A outer s H vs Q E hr h => ?_)
  · obtain ⟨a, dx, p, c, l, b, rfl, _⟩ := h
    rfl
  · obtain ⟨a, dx, p, c, l, b, rfl, ha, k⟩ := h
    refine ⟨_, ((pss_cons (ps_fld (pv 0) (pv 1) rfl)
      (pss_cons (ps_fld (pv 0) (pv 2) rfl)
      (pss_cons (ps_fld (pv 0) (pv 3) rfl)
      (pss_one (ps_fld (pv 0) (pv 4) rfl)))))), ?_⟩
    refine ⟨_, rfl, _, rfl, a, CT, dx, _, rfl, ha, Z.t, Z.tp, by decide, ?_⟩
    refine ⟨_, rfl, _, rfl, a, CT, dx, _, rfl, upd_same, Z.t, Z.tc, by show 1 < 1000; decide, ?_⟩
    refine ⟨_, rfl, _, rfl, a, CT, dx, _, rfl, upd_same, Z.t, Z.tg, by show 2 < 1000; decide, ?_⟩
    refine ⟨_, rfl, _, rfl, a, CT, dx, _, rfl, upd_same, Z.t, Z.tb, by show 3 < 1000; decide, ?_⟩
    exact k _ (fun x o n e => by rw [upd_ne n, upd_ne n, upd_ne n, upd_ne n]; exact e) upd_same
theorem scNote : FnScope ["self", "cell"] ["self", "cell"] (defScope sNote) := ⟨rfl, rfl, rfl, by decide +kernel, rfl, by decide +kernel, by decide +kernel⟩
theorem ok_note {f : Addr} {fd : FuncData} (F : Fun K "note_cell" "State.note_cell" sNote f fd) (Z : Ks K CT CR CW) : FnOk P w K mg base CX0 1 f fd ["self", "cell"] (spNote CT) := by
  refine F.ok scNote (fun vs H Q E h => ?_) (fun cdv A outer s H vs Q E hr h => ?_)
  · obtain ⟨st, d, c, l, t, m, n, kv, k, b, rfl, _⟩ := h
    rfl
  · obtain ⟨st, d, c, l, t, m, n, kv, k, b, rfl, ⟨⟨dx, h1⟩, h2, h3, ch, h4, h5⟩, ht, hk, q⟩ := h
    have u1 := Nat.lt_of_le_of_lt (Nat.add_le_add_left (by decide : 1 ≤ 64) _) hr.units
    refine ⟨_, ((pss_one (ps_if (pt_cmp (pc_din u1 (pv 1) (pe_fld (pv 0) rfl))) (pss_one (ps_expr (pe_bm PySem.F.plainAttrs_list PySem.F.slot_list_append PySem.F.type_list_append mt_append (pe_fld (pv 0) rfl) (pa_cons (pe_tupS (pa_cons pe_str (pa_cons (pv 1) (pa_cons (pe_dget u1 (pe_fld (pv 0) rfl) (pv 1) (fun _ _ => rfl)) pa_nil)))) pa_nil)))) (pss_one (ps_expr (pe_bm PySem.F.plainAttrs_list PySem.F.slot_list_append PySem.F.type_list_append mt_append (pe_fld (pv 0) rfl) (pa_cons (pe_tupS (pa_cons pe_str (pa_cons (pv 1) (pa_cons pe_non pa_nil)))) pa_nil))))))), ?_⟩
    have zk : ch.length < sizeLine := by rw [h5, sizeLine_eq]; omega
    refine ⟨_, rfl, _, rfl, st, CT, dx, _, _, rfl, h1, Z.t, Z.tc, rfl, c, _, rfl, DGet.t (k := kx) h3 ht, _, rfl, ?_⟩
    have fin : ∀ H' r, Same H H' → H' r ≠ none → Q .non (upd H' l (.lst (ch ++ [.ref r]))) := fun H' r S _ => q _ _ (fun x o n e => by rw [upd_ne n]; exact S _ _ e) upd_same (by rw [List.length_append, h5]; rfl)
    cases hv : valV kv kx with
    | some y =>
      refine ifT rfl ?_
      refine ⟨_, rfl, st, CT, dx, _, _, rfl, h1, Z.t, Z.tg, rfl, .inl ⟨rfl, _, SqL.of h4⟩, _, rfl, _, rfl, st, CT, dx, _, _, rfl, h1, Z.t, Z.tc, rfl, _, rfl, c, _, rfl, by rw [← hv]; exact DGet.t (k := kx) h3 ht, by show 3 ≤ sizeLine; decide, fun r H1 S1 nr hr1 => ?_⟩
      exact ⟨l, _, _, rfl, rfl, S1 _ _ h4, zk, fin H1 r S1 (by rw [hr1]; exact nofun)⟩
    | none =>
      refine ifF rfl ?_
      refine ⟨_, rfl, st, CT, dx, _, _, rfl, h1, Z.t, Z.tg, rfl, .inl ⟨rfl, _, SqL.of h4⟩, _, rfl, by show 3 ≤ sizeLine; decide, fun r H1 S1 nr hr1 => ?_⟩
      exact ⟨l, _, _, rfl, rfl, S1 _ _ h4, zk, fin H1 r S1 (by rw [hr1]; exact nofun)⟩
theorem scTrInit : FnScope ["self", "store"] ["self", "store"] (defScope sTrInit) := ⟨rfl, rfl, rfl, by decide +kernel, rfl, by decide +kernel, by decide +kernel⟩
theorem ok_trInit {f : Addr} {fd : FuncData} (F : Fun K "__init__" "Trial.__init__" sTrInit f fd) (Z : Ks K CT CR CW) : FnOk P w K mg base CX0 1 f fd ["self", "store"] (spTrInit CR) := by
  refine F.ok scTrInit (fun vs H Q E h => ?_) (fun cdv A outer s H vs Q E hr h => ?_)
  · obtain ⟨a, dx, sh, rfl, _⟩ := h
    rfl
  · obtain ⟨a, dx, sh, rfl, ha, k⟩ := h
    refine ⟨_, ((pss_cons (ps_fld (pv 0) (pv 1) rfl)
      (pss_one (ps_fld (pv 0) pe_non rfl)))), ?_⟩
    refine ⟨_, rfl, _, rfl, a, CR, dx, _, rfl, ha, Z.r, Z.rs, by decide, ?_⟩
    refine ⟨_, rfl, a, CR, dx, _, rfl, upd_same, Z.r, Z.rk, by show 1 < 1000; decide, ?_⟩
    exact k _ (fun x o n e => by rw [upd_ne n, upd_ne n]; exact e) upd_same
theorem scExit : FnScope ["self", "kind", "value", "trace", "store"] ["self", "kind", "value", "trace"] (defScope sExit) := ⟨rfl, rfl, rfl, by decide +kernel, rfl, by decide +kernel, by decide +kernel⟩
theorem ok_exit {f : Addr} {fd : FuncData} (F : Fun K "__exit__" "Trial.__exit__" sExit f fd) (Z : Ks K CT CR CW) : FnOk P w K mg base CX0 1 f fd ["self", "kind", "value", "trace"] (spExit CR CW) := by
  refine F.ok scExit (fun vs H Q E h => ?_) (fun cdv A outer s H vs Q E hr h => ?_)
  · obtain ⟨a, dx, sh, ds, tb, x, y, rfl, _⟩ := h
    rfl
  · obtain ⟨a, dx, sh, ds, tb, x, y, rfl, ha, hs, k⟩ := h
    refine ⟨_, ((pss_cons (ps_set (i := 4) scExit.nd rfl (Or.inl rfl) (pe_fld (pv 0) rfl))
      (pss_one (ps_fld (pv 4) (pe_fld (pv 0) rfl) rfl)))), ?_⟩
    refine seq_asg ⟨_, rfl, a, CR, dx, _, _, rfl, ha, Z.r, Z.rs, rfl, ?_⟩
    refine ⟨_, rfl, a, CR, dx, _, _, rfl, ha, Z.r, Z.rk, rfl, _, rfl, sh, CW, ds, _, rfl, hs, Z.w, Z.ws, by show 2 < 1000; decide, ?_⟩
    exact k _ (fun x o n e => by rw [upd_ne n]; exact e) upd_same
theorem scSoLen : FnScope ["self"] ["self"] (defScope sSoLen) := ⟨rfl, rfl, rfl, by decide +kernel, rfl, by decide +kernel, by decide +kernel⟩
theorem ok_soLen {f : Addr} {fd : FuncData} (F : Fun K "__len__" "Store.__len__" sSoLen f fd) (B : Bl mg) (Z : Ks K CT CR CW) : FnOk P w K mg base CX0 1 f fd ["self"] (spSoLen CT CW) := by
  refine F.ok scSoLen (fun vs H Q E h => ?_) (fun cdv A outer s H vs Q E hr h => ?_)
  · obtain ⟨sh, tb, st, d, c, l, m, n, kv, k, b, rfl, _⟩ := h
    rfl
  · obtain ⟨sh, tb, st, d, c, l, m, n, kv, k, b, rfl, ⟨ds, hs⟩, ⟨⟨dx, h1⟩, h2, h3, h4⟩, q⟩ := h
    refine ⟨_, ((pss_one (ps_ret (pe_callB call_len_dT (by rfl) B.len_ PySem.boot_len (pa_cons (pe_fld (pe_fld (pv 0) rfl) rfl) pa_nil))))), ?_⟩
    exact ⟨_, rfl, sh, CW, ds, _, _, rfl, hs, Z.w, Z.ws, rfl, st, CT, dx, _, _, rfl, h1, Z.t, Z.tc, rfl, c, _, rfl, h3, q⟩
theorem scRoom : FnScope ["self"] ["self"] (defScope sRoom) := ⟨rfl, rfl, rfl, by decide +kernel, rfl, by decide +kernel, by decide +kernel⟩
theorem ok_room {f : Addr} {fd : FuncData} (F : Fun K "room" "Store.room" sRoom f fd) (Z : Ks K CT CR CW) : FnOk P w K mg base CX0 1 f fd ["self"] (spRoom CT CW) := by
  refine F.ok scRoom (fun vs H Q E h => ?_) (fun cdv A outer s H vs Q E hr h => ?_)
  · obtain ⟨sh, tb, st, b, rfl, _⟩ := h
    rfl
  · obtain ⟨sh, tb, st, b, rfl, ⟨ds, hs⟩, ⟨dx, _, _, _, h1⟩, q⟩ := h
    refine ⟨_, ((pss_one (ps_ret (pe_fld (pe_fld (pv 0) rfl) rfl)))), ?_⟩
    exact ⟨_, rfl, sh, CW, ds, _, _, rfl, hs, Z.w, Z.ws, rfl, st, CT, dx, _, _, rfl, h1, Z.t, Z.tb, rfl, q⟩
theorem scChkRoom : FnScope ["self", "place", "room"] ["self", "place"] (defScope sChkRoom) := ⟨rfl, rfl, rfl, by decide +kernel, rfl, by decide +kernel, by decide +kernel⟩
theorem ok_chkRoom {f : Addr} {fd : FuncData} (F : Fun K "_check_room" "Store._check_room" sChkRoom f fd) (Z : Ks K CT CR CW) : FnOk P w K mg base CX0 1 f fd ["self", "place"] (spChkRoom CT CW) := by
  refine F.ok scChkRoom (fun vs H Q E h => ?_) (fun cdv A outer s H vs Q E hr h => ?_)
  · obtain ⟨sh, tb, st, d, c, l, m, n, kv, k, p, rfl, _⟩ := h
    rfl
  · obtain ⟨sh, tb, st, d, c, l, m, n, kv, k, p, rfl, ⟨ds, hs⟩, ⟨⟨dx, h1⟩, h2, h3, h4⟩, q⟩ := h
    refine ⟨_, ((pss_cons (ps_set (i := 2) scChkRoom.nd rfl (Or.inl rfl) (pe_fld (pe_fld (pv 0) rfl) rfl))
      (pss_one (ps_if (PW.pt (pw_and (pt_cmp (pc_notN (pv 2))) (pw_and1 (pt_cmpR op_ge (pv 1) (pv 2) (by rfl))))) (pss_one ps_never) pss_nil)))), ?_⟩
    refine seq_asg ⟨_, rfl, sh, CW, ds, _, _, rfl, hs, Z.w, Z.ws, rfl, st, CT, dx, _, _, rfl, h1, Z.t, Z.tb, rfl, ?_⟩
    exact ⟨_, rfl, _, rfl, ifF rfl (ifF rfl q)⟩
theorem scChkCell : FnScope ["self", "cell"] ["self", "cell"] (defScope sChkCell) := ⟨rfl, rfl, rfl, by decide +kernel, rfl, by decide +kernel, by decide +kernel⟩
theorem ok_chkCell {f : Addr} {fd : FuncData} (F : Fun K "_check_cell" "Store._check_cell" sChkCell f fd) (Z : Ks K CT CR CW) (Ic : Cal P w K mg base 3 "is_cell" (spIsCell K C) []) : FnOk P w K mg base CX0 4 f fd ["self", "cell"] (spChkCell C CT CW) := by
  refine F.ok scChkCell (fun vs H Q E h => ?_) (fun cdv A outer s H vs Q E hr h => ?_)
  · obtain ⟨sh, tb, st, d, c, l, cl, m, n, kv, k, b, rfl, _⟩ := h
    rfl
  · obtain ⟨sh, tb, st, d, c, l, cl, m, n, kv, k, b, rfl, ⟨ds, hs⟩, ⟨⟨dx, h1⟩, h2, h3, h4⟩, hp, hc, bm, bn, m2, n3, q⟩ := h
    refine ⟨_, ((pss_one (ps_if (pt_not (pt_val (pe_c Ic hr (by decide) rfl (pa_cons (pv 1) (pa_cons (pe_fld (pv 0) rfl) (pa_cons (pe_fld (pe_fld (pv 0) rfl) rfl) pa_nil)))))) (pss_one ps_never) pss_nil))), ?_⟩
    refine ⟨_, rfl, _, rfl, sh, CW, ds, _, _, rfl, hs, Z.w, Z.wt, rfl, _, rfl, sh, CW, ds, _, _, rfl, hs, Z.w, Z.ws, rfl, st, CT, dx, _, _, rfl, h1, Z.t, Z.tp, rfl, ?_⟩
    exact ⟨tb, d, cl, m, n, rfl, hp, h2, hc, bm, bn, m2, n3, fun H' S => ⟨true, rfl, ifF rfl (q H' S)⟩⟩
theorem scLimit : FnScope ["self", "room", "state"] ["self", "room"] (defScope sLimit) := ⟨rfl, rfl, rfl, by decide +kernel, rfl, by decide +kernel, by decide +kernel⟩
theorem ok_limit {f : Addr} {fd : FuncData} (F : Fun K "limit" "Store.limit" sLimit f fd) (Z : Ks K CT CR CW) (Cn : Cal P w K mg base 2 "is_count" spCount []) : FnOk P w K mg base CX0 3 f fd ["self", "room"] (spLimit CT CW) := by
  refine F.ok scLimit (fun vs H Q E h => ?_) (fun cdv A outer s H vs Q E hr h => ?_)
  · obtain ⟨sh, tb, st, d, c, l, m, n, kv, k, b, r, rfl, _⟩ := h
    rfl
  · obtain ⟨sh, tb, st, d, c, l, m, n, kv, k, b, r, rfl, ⟨ds, hs⟩, ⟨⟨dx, h1⟩, h2, h3, h4⟩, r0, q⟩ := h
    refine ⟨_, ((pss_cons (ps_if (PW.pt (pw_and (pt_cmp (pc_notN (pv 1))) (pw_and1 (pt_not (pt_val (pe_c Cn hr (by decide) rfl (pa_cons (pv 1) pa_nil))))))) (pss_one ps_never) pss_nil)
      (pss_cons (ps_set (i := 2) scLimit.nd rfl (Or.inl rfl) (pe_fld (pv 0) rfl))
      (pss_one (ps_fld (pv 2) (pv 1) rfl))))), ?_⟩
    refine ⟨_, rfl, _, rfl, ifT rfl ⟨_, rfl, r, rfl, r0, true, rfl, ifF rfl ?_⟩⟩
    dsimp only [tNext]
    refine seq_asg ⟨_, rfl, sh, CW, ds, _, _, rfl, hs, Z.w, Z.ws, rfl, ?_⟩
    refine ⟨_, rfl, _, rfl, st, CT, dx, _, rfl, h1, Z.t, Z.tb, by show 4 < 1000; decide, ?_⟩
    exact q (upd H st (.ins CT dx (putF "bound" (.int r) (stF (.ref d) (.ref c) (.ref l) b)))) (fun x o n e => by rw [upd_ne n]; exact e) ⟨dx, upd_same⟩
theorem scLenP : FnScope ["self"] ["self"] (defScope sLen) := ⟨rfl, rfl, rfl, by decide +kernel, rfl, by decide +kernel, by decide +kernel⟩
theorem ok_lenP {f : Addr} {fd : FuncData} (F : Fun K "__len__" "Plain.__len__" sLen f fd) (B : Bl mg) (T : Px P w K mg base C) : FnOk P w K mg base CX0 1 f fd ["self"] (spLenP C) := by
  refine F.ok scLenP (fun vs H Q E h => ?_) (fun cdv A outer s H vs Q E hr h => ?_)
  · obtain ⟨tb, rfl, _⟩ := h
    rfl
  · obtain ⟨tb, rfl, ⟨dx, l, ts, ha, hl, hx⟩, q⟩ := h
    refine ⟨_, ((pss_one (ps_ret (pe_callB call_len_seq (by rfl) B.len_ PySem.boot_len (pa_cons (pe_fld (pv 0) rfl) pa_nil))))), ?_⟩
    refine ⟨_, rfl, tb, C, dx, _, _, rfl, ha, T.cl, T.na, rfl, l, _, rfl, .inl (SqL.of hl), ?_⟩
    have e : ts.length = 2 := hx.length
    rw [List.length_map, e]
    exact q
end
end E4

set_option Elab.async false
set_option linter.all false
set_option maxRecDepth 100000
set_option maxHeartbeats 1000000
/-! stores: copied, __enter__, lay, look, take -/
namespace E4
open PySem PySem.Spec PyProof.Rows L2
open C8 (Cal Mak Met InsC pe_c pe_mt pe_mt0 call_isC clsBody)
def Off (L : List Addr) (H H' : Hp) : Prop := ∀ b o, b ∉ L → H b = some o → H' b = some o
def spCopied (CT : Addr) : Sp := fun vs H Q _ => ∃ (st d c l : Addr) (m n : Int) (k : Nat) (b : V), vs = [.ref st] ∧ StA CT H st d c l m n [] k b ∧ k < 100 ∧ ∀ H' st', Same H H' → H st' = none → StB CT H' st' b → Q (.ref st') H'
def spEnter (CT CR CW : Addr) : Sp := fun vs H Q _ => ∃ (a dx sh ds tb st d c l : Addr) (m n : Int) (k : Nat) (b : V), vs = [.ref a] ∧ H a = some (.ins CR dx (trF (.ref sh) .non)) ∧ H sh = some (.ins CW ds (soF (.ref tb) (.ref st))) ∧ a ≠ sh ∧ StA CT H st d c l m n [] k b ∧ k < 100 ∧
  ∀ H' st', Off [a, sh] H H' → H st' = none → H' a = some (.ins CR dx (trF (.ref sh) (.ref st))) → H' sh = some (.ins CW ds (soF (.ref tb) (.ref st'))) → StB CT H' st' b → Q (.ref sh) H'
def spLay (C CT CW : Addr) : Sp := fun vs H Q _ => ∃ (sh tb st d c l cl : Addr) (m n : Int) (y : V), vs = [.ref sh, .ref cl, y] ∧ SoO CW H sh tb st ∧ StA CT H st d c l m n [] 0 .non ∧ PlAt C H tb bd ∧ H cl = some (.lst [.int 1, .int 2]) ∧ cl ≠ l ∧ m.natAbs < 2 ^ 400 ∧ n.natAbs < 2 ^ 400 ∧ 2 ≤ m ∧ 3 ≤ n ∧
  ∀ H', Off [l, c] H H' → SoO CW H' sh tb st → StA CT H' st d c l m n [(kx, y)] 1 .non → Q (.int (n + 2)) H'
def spLook (C CT CW : Addr) : Sp := fun vs H Q _ => ∃ (sh tb st d c l cl : Addr) (m n : Int) (y : V) (k : Nat) (b : V), vs = [.ref sh, .ref cl] ∧ SoO CW H sh tb st ∧ StA CT H st d c l m n [(kx, y)] k b ∧ PlAt C H tb bd ∧ H cl = some (.lst [.int 1, .int 2]) ∧ m.natAbs < 2 ^ 400 ∧ n.natAbs < 2 ^ 400 ∧ 2 ≤ m ∧ 3 ≤ n ∧
  ∀ H', Same H H' → Q y H'
def spTake (C CT CW : Addr) : Sp := fun vs H Q _ => ∃ (sh tb st d c l cl : Addr) (m n : Int) (y : V) (k : Nat) (b : V), vs = [.ref sh, .ref cl] ∧ SoO CW H sh tb st ∧ StA CT H st d c l m n [(kx, y)] k b ∧ k < 50 ∧ PlAt C H tb bd ∧ H cl = some (.lst [.int 1, .int 2]) ∧ cl ≠ l ∧ m.natAbs < 2 ^ 400 ∧ n.natAbs < 2 ^ 400 ∧ 2 ≤ m ∧ 3 ≤ n ∧
  ∀ H', Off [l, c] H H' → SoO CW H' sh tb st → StA CT H' st d c l m n [] (k + 1) b → Q y H'
section
variable {P : Program} {w : World} {K : PySem.W.Frag} {mg : Str → Option Value} {base : Heap} {C CT CR CW : Addr}
theorem valV_kx {y : V} : valV [(kx, y)] kx = some y := valV_pos rfl
theorem dropK_kx {y : V} : dropK [(kx, y)] kx = [] := by unfold dropK; rw [List.filter_cons_of_neg (by simp), List.filter_nil]
theorem scCopied : FnScope ["self", "cells", "cell"] ["self"] (defScope sCopied) := ⟨rfl, rfl, rfl, by decide +kernel, rfl, by decide +kernel, by decide +kernel⟩
theorem ok_copied {f : Addr} {fd : FuncData} (F : Fun K "copied" "State.copied" sCopied f fd) (B : Bl mg) (Z : Ks K CT CR CW) (M1 : Mak P w K mg base 1 "State" CT (spStInit CT) []) : FnOk P w K mg base CX0 3 f fd ["self"] (spCopied CT) := by
  refine F.ok scCopied (fun vs H Q E h => ?_) (fun cdv A outer s H vs Q E hr h => ?_)
  · obtain ⟨st, d, c, l, m, n, k, b, rfl, _⟩ := h
    rfl
  · obtain ⟨st, d, c, l, m, n, k, b, rfl, ⟨⟨dx, h1⟩, h2, h3, ch, h4, h5⟩, hk, q⟩ := h
    have u1 := Nat.lt_of_le_of_lt (Nat.add_le_add_left (by decide : 1 ≤ 64) _) hr.units
    refine ⟨_, ((pss_cons (ps_lock (ps_setDc (i := 1) (own := [("cell", 2)]) (g := gName 2) (tt := tYes) (tk := tVar 2) (tv := tDGet (tFld K (tVar 0) "cells") (tVar 2)) (by rfl) scCopied.nd rfl rfl (by rfl) (pi_keys (pe_fld (pv 0) rfl))
            (blkOk_by (own := [("cell", 2)]) (N := ["self", "cells", "cell"]) (sc := defScope sCopied) (by decide +kernel))
            (fun _ _ _ _ _ => (pg_name (i := 2) scCopied.nd rfl (Or.inl rfl))) (fun _ _ _ _ _ => pts_nil) (fun _ _ _ _ _ => pv 2) (fun _ _ _ _ _ => by exact pe_dget u1 (pe_fld (pv 0) rfl) (pv 2) (fun _ _ => rfl))))
      (pss_one (ps_ret (pe_mk1 M1 hr (by decide) rfl (pa_cons (pe_callTy call_dictD (by rfl) B.dict_ (by decide +kernel) (pa_cons (pe_fld (pv 0) rfl) pa_nil)) (pa_cons (pv 1) (pa_cons (pe_callTy call_list_of (by rfl) B.lst_ (by decide +kernel) (pa_cons (pe_fld (pv 0) rfl) pa_nil)) (pa_cons (pe_fld (pv 0) rfl) pa_nil))))))))), ?_⟩
    refine ⟨c, .dT [], h3, trivial, fun od => ?_⟩
    have ncst : st ≠ c := ne_of h1 h3 (by intro z; cases z)
    have hf1 : (upd H c (.frz od (.dT []))) st = some (HO.ins CT dx (stF (V.ref d) (V.ref c) (V.ref l) b)) := by rw [upd_ne ncst]; exact h1
    refine ⟨_, rfl, st, CT, dx, _, _, rfl, hf1, Z.t, Z.tc, rfl, c, od, rfl, .inr ⟨[], upd_same, fun D nD => ?_⟩⟩
    have nDc : D ≠ c := by rintro rfl; rw [upd_same] at nD; cases nD
    have nDH : H D = none := by rw [upd_ne nDc] at nD; exact nD
    refine ⟨fun i mm H' => i = 0 ∧ H' = upd (upd H c (.frz od (.dT []))) D (.dK []), ⟨0, rfl, rfl⟩, fun i mm H' hw => .inl ?_⟩
    obtain ⟨rfl, rfl⟩ := hw
    have hc9 : (upd (upd H c (.frz od (.dT []))) D (.dK [])) c = some (.frz od (.dT [])) := by rw [upd_ne nDc.symm]; exact upd_same
    refine ⟨⟨hc9, Nat.le_refl _⟩, hc9, ?_⟩
    have S2 : Same H (upd (upd (upd H c (.frz od (.dT []))) D (.dK [])) c (.dT [])) := fun x o e => by
      by_cases hx : x = c
      · subst hx
        rw [upd_same, ← e, h3]
      · rw [upd_ne hx, upd_ne (ne_of_none e nDH), upd_ne hx]
        exact e
    generalize upd (upd (upd H c (.frz od (.dT []))) D (.dK [])) c (.dT []) = H2 at S2
    clear hc9 hf1 nD
    refine ⟨_, rfl, st, CT, dx, _, _, rfl, S2 _ _ h1, Z.t, Z.tp, rfl, d, _, rfl, .inl (S2 _ _ h2), fun p np => ?_⟩
    have S3 := S2.trans (Same.upd np : Same H2 (upd H2 p (.dK (dI (vls m n)))))
    refine ⟨_, rfl, _, rfl, st, CT, dx, _, _, rfl, S3 _ _ h1, Z.t, Z.tg, rfl, l, _, rfl, .inl (SqL.of (S3 _ _ h4)), fun l2 nl2 => ?_⟩
    have S4 := S3.trans (Same.upd nl2 : Same _ (upd _ l2 (.lst ch)))
    refine ⟨_, rfl, st, CT, dx, _, _, rfl, S4 _ _ h1, Z.t, Z.tb, rfl, fun x dx2 nx ndx ne => ?_⟩
    refine ⟨x, dx2, _, _, _, _, rfl, upd_same, fun H' SB hx => ⟨rfl, q H' x (fun y o e => ?_) (S4.free nx) ⟨dx2, _, _, _, hx⟩⟩⟩
    have e4 := S4 _ _ e
    refine SB _ _ (ne_of_none e4 nx) ?_
    rw [upd_ne (ne_of_none e4 nx), upd_ne (ne_of_none e4 ndx)]
    exact e4
theorem scEnter : FnScope ["self", "store"] ["self"] (defScope sEnter) := ⟨rfl, rfl, rfl, by decide +kernel, rfl, by decide +kernel, by decide +kernel⟩
theorem ok_enter {f : Addr} {fd : FuncData} (F : Fun K "__enter__" "Trial.__enter__" sEnter f fd) (Z : Ks K CT CR CW) (Cp : Met P w K mg base 3 CT "copied" (spCopied CT) []) : FnOk P w K mg base CX0 4 f fd ["self"] (spEnter CT CR CW) := by
  refine F.ok scEnter (fun vs H Q E h => ?_) (fun cdv A outer s H vs Q E hr h => ?_)
  · obtain ⟨a, dx, sh, ds, tb, st, d, c, l, m, n, k, b, rfl, _⟩ := h
    rfl
  · obtain ⟨a, dx, sh, ds, tb, st, d, c, l, m, n, k, b, rfl, ha, hs, ne, hst, hk, q⟩ := h
    refine ⟨_, ((pss_cons (ps_set (i := 1) scEnter.nd rfl (Or.inl rfl) (pe_fld (pv 0) rfl))
      (pss_cons (ps_fld (pv 0) (pe_fld (pv 1) rfl) rfl)
      (pss_cons (ps_fld (pv 1) (pe_mt0 Cp hr (by decide) (pe_fld (pv 0) rfl)) rfl)
      (pss_one (ps_ret (pv 1))))))), ?_⟩
    refine seq_asg ⟨_, rfl, a, CR, dx, _, _, rfl, ha, Z.r, Z.rs, rfl, ?_⟩
    refine ⟨_, rfl, sh, CW, ds, _, _, rfl, hs, Z.w, Z.ws, rfl, _, rfl, a, CR, dx, _, rfl, ha, Z.r, Z.rk, by show 2 < 1000; decide, ?_⟩
    obtain ⟨⟨dxs, h1⟩, h2, h3, ch, h4, h5⟩ := hst
    have F1 : ∀ {x : Addr} {o : HO} (w : HO), H x = some o → o ≠ .ins CR dx (trF (.ref sh) .non) → (upd H a w) x = some o := fun {x o} w e n => by rw [upd_ne (ne_of e ha n)]; exact e
    refine ⟨_, rfl, a, CR, dx, _, _, rfl, upd_same, Z.r, Z.rk, rfl, st, dxs, _, rfl, F1 _ h1 (by intro z; cases z), rfl, st, d, c, l, m, n, k, b, rfl, ⟨⟨dxs, F1 _ h1 (by intro z; cases z)⟩, F1 _ h2 (by intro z; cases z), F1 _ h3 (by intro z; cases z), ch, F1 _ h4 (by intro z; cases z), h5⟩, hk, fun H2 st' S2 nst hb => ?_⟩
    have hs2 := S2 _ _ (F1 (.ins CR dx (putF "_kept" (.ref st) (trF (.ref sh) .non))) hs (by intro z; cases z))
    have nsa : st' ≠ a := by rintro rfl; rw [upd_same] at nst; cases nst
    have nss : st' ≠ sh := fun z => by rw [z, F1 _ hs (by intro z; cases z)] at nst; cases nst
    refine ⟨_, rfl, sh, CW, ds, _, rfl, hs2, Z.w, Z.ws, by show 2 < 1000; decide, ?_⟩
    obtain ⟨dxb, pb, cb, lb, hb⟩ := hb
    refine ⟨_, rfl, q _ st' (fun x o nx e => ?_) ?_ ?_ upd_same ⟨dxb, pb, cb, lb, ?_⟩⟩
    · rw [upd_ne (fun z => nx (by rw [z]; simp))]
      refine S2 _ _ ?_
      rw [upd_ne (fun z => nx (by rw [z]; simp))]
      exact e
    · rw [upd_ne nsa] at nst
      exact nst
    · rw [upd_ne ne]
      exact S2 _ _ upd_same
    · rw [upd_ne nss]
      exact hb
theorem scLay : FnScope ["self", "cell", "item", "state", "place"] ["self", "cell", "item"] (defScope sLay) := ⟨rfl, rfl, rfl, by decide +kernel, rfl, by decide +kernel, by decide +kernel⟩
theorem ok_lay {f : Addr} {fd : FuncData} (F : Fun K "lay" "Store.lay" sLay f fd) (B : Bl mg) (Z : Ks K CT CR CW) (Cc : Met P w K mg base 4 CW "_check_cell" (spChkCell C CT CW) []) (Pl : Cal P w K mg base 2 "place_in" (spPlace K C) []) (Cr : Met P w K mg base 1 CW "_check_room" (spChkRoom CT CW) []) (No : Met P w K mg base 1 CT "note_cell" (spNote CT) []) : FnOk P w K mg base CX0 5 f fd ["self", "cell", "item"] (spLay C CT CW) := by
  refine F.ok scLay (fun vs H Q E h => ?_) (fun cdv A outer s H vs Q E hr h => ?_)
  · obtain ⟨sh, tb, st, d, c, l, cl, m, n, y, rfl, _⟩ := h
    rfl
  · obtain ⟨sh, tb, st, d, c, l, cl, m, n, y, rfl, hs, hst, hp, hc, ncl, bm, bn, m2, n3, q⟩ := h
    have u1 := Nat.lt_of_le_of_lt (Nat.add_le_add_left (by decide : 1 ≤ 64) _) hr.units
    refine ⟨_, ((pss_cons (ps_expr (pe_mt Cc hr (by decide) (pv 0) (pa_cons (pv 1) pa_nil)))
      (pss_cons (ps_set (i := 3) scLay.nd rfl (Or.inl rfl) (pe_fld (pv 0) rfl))
      (pss_cons (ps_set (i := 4) scLay.nd rfl (Or.inl rfl) (pe_c Pl hr (by decide) rfl (pa_cons (pe_fld (pv 0) rfl) (pa_cons (pe_fld (pv 3) rfl) (pa_cons (pv 1) pa_nil)))))
      (pss_cons (ps_expr (pe_mt Cr hr (by decide) (pv 0) (pa_cons (pv 4) pa_nil)))
      (pss_cons (ps_expr (pe_mt No hr (by decide) (pv 3) (pa_cons (pe_callTy call_tuple_of (by rfl) B.tup_ (by decide +kernel) (pa_cons (pv 1) pa_nil)) pa_nil)))
      (pss_cons (ps_dput u1 (pe_fld (pv 3) rfl) (pe_callTy call_tuple_of (by rfl) B.tup_ (by decide +kernel) (pa_cons (pv 1) pa_nil)) (pv 2) rfl)
      (pss_one (ps_ret (pv 4)))))))))), ?_⟩
    obtain ⟨ds, hs⟩ := hs
    obtain ⟨⟨dx, h1⟩, h2, h3, ch, h4, h5⟩ := id hst
    refine ⟨_, rfl, sh, ds, _, rfl, hs, rfl, _, rfl, sh, tb, st, d, c, l, cl, m, n, [], 0, .non, rfl, ⟨ds, hs⟩, hst, hp, hc, bm, bn, m2, n3, fun H1 S1 => ?_⟩
    dsimp only
    refine seq_asg ⟨_, rfl, sh, CW, ds, _, _, rfl, S1 _ _ hs, Z.w, Z.ws, rfl, ?_⟩
    refine seq_asg ⟨_, rfl, sh, CW, ds, _, _, rfl, S1 _ _ hs, Z.w, Z.wt, rfl, _, rfl, st, CT, dx, _, _, rfl, S1 _ _ h1, Z.t, Z.tp, rfl, _, rfl, tb, d, cl, m, n, rfl, hp.same S1, S1 _ _ h2, .inl (SqL.of (S1 _ _ hc)), bm, bn, fun H2 S2 => ?_⟩
    have T2 := S1.trans S2
    refine ⟨_, rfl, sh, ds, _, rfl, T2 _ _ hs, rfl, _, rfl, sh, tb, st, d, c, l, m, n, [], 0, n + 2, rfl, ⟨ds, T2 _ _ hs⟩, hst.same T2, ?_⟩
    refine ⟨_, rfl, st, dx, _, rfl, T2 _ _ h1, rfl, _, rfl, cl, _, rfl, .inl ⟨SqL.of (T2 _ _ hc), fun t nt => ?_⟩⟩
    have T3 := T2.trans (Same.upd nt : Same H2 (upd H2 t (.tup [.int 1, .int 2])))
    refine ⟨st, d, c, l, t, m, n, [], 0, .non, rfl, hst.same T3, upd_same, by decide, fun H4 o SB ho lo => ?_⟩
    have G : ∀ {x : Addr} {o : HO}, H x = some o → (∀ xs, o ≠ .lst xs) → H4 x = some o := fun {x o} e n => SB _ _ (ne_of e h4 (n _)) (T3 _ _ e)
    refine ⟨_, rfl, _, rfl, st, CT, dx, _, _, rfl, G h1 (by intro xs z; cases z), Z.t, Z.tc, rfl, _, rfl, cl, _, rfl, .inl ⟨SqL.of (SB _ _ ncl (T3 _ _ hc)), fun t2 nt2 => ?_⟩⟩
    have S5 : Same H4 (upd H4 t2 (.tup [.int 1, .int 2])) := Same.upd nt2
    have hc5 := S5 _ _ (G h3 (by intro xs z; cases z))
    refine ⟨c, _, rfl, DPut.t (k := kx) hc5 upd_same (by decide), ?_⟩
    have nlc : l ≠ c := ne_of h4 h3 (by intro z; cases z)
    have R : ∀ {x : Addr} {o : HO} (w : HO), x ≠ c → (upd H4 t2 (.tup [.int 1, .int 2])) x = some o → (upd (upd H4 t2 (.tup [.int 1, .int 2])) c w) x = some o := fun {x o} w nx e => by rw [upd_ne nx]; exact e
    refine ⟨_, rfl, q _ (fun x o nx e => ?_) ⟨ds, R _ (ne_of hs h3 (by intro z; cases z)) (S5 _ _ (G hs (by intro xs z; cases z)))⟩ ⟨⟨dx, R _ (ne_of h1 h3 (by intro z; cases z)) (S5 _ _ (G h1 (by intro xs z; cases z)))⟩, R _ (ne_of h2 h3 (by intro z; cases z)) (S5 _ _ (G h2 (by intro xs z; cases z))), upd_same, o, R _ nlc (S5 _ _ ho), lo⟩⟩
    exact R _ (fun z => nx (by rw [z]; simp)) (S5 _ _ (SB _ _ (fun z => nx (by rw [z]; simp)) (T3 _ _ e)))
theorem scLook : FnScope ["self", "cell"] ["self", "cell"] (defScope sLook) := ⟨rfl, rfl, rfl, by decide +kernel, rfl, by decide +kernel, by decide +kernel⟩
theorem ok_look {f : Addr} {fd : FuncData} (F : Fun K "look" "Store.look" sLook f fd) (B : Bl mg) (Z : Ks K CT CR CW) (Cc : Met P w K mg base 4 CW "_check_cell" (spChkCell C CT CW) []) : FnOk P w K mg base CX0 5 f fd ["self", "cell"] (spLook C CT CW) := by
  refine F.ok scLook (fun vs H Q E h => ?_) (fun cdv A outer s H vs Q E hr h => ?_)
  · obtain ⟨sh, tb, st, d, c, l, cl, m, n, y, k, b, rfl, _⟩ := h
    rfl
  · obtain ⟨sh, tb, st, d, c, l, cl, m, n, y, k, b, rfl, hs, hst, hp, hc, bm, bn, m2, n3, q⟩ := h
    have u1 := Nat.lt_of_le_of_lt (Nat.add_le_add_left (by decide : 1 ≤ 64) _) hr.units
    refine ⟨_, ((pss_cons (ps_expr (pe_mt Cc hr (by decide) (pv 0) (pa_cons (pv 1) pa_nil)))
      (pss_one (ps_ret (pe_dget2 u1 (pe_fld (pe_fld (pv 0) rfl) rfl) (pe_callTy call_tuple_of (by rfl) B.tup_ (by decide +kernel) (pa_cons (pv 1) pa_nil)) pe_non ⟨rfl, rfl, rfl, rfl⟩))))), ?_⟩
    obtain ⟨ds, hs⟩ := hs
    obtain ⟨⟨dx, h1⟩, h2, h3, ch, h4, h5⟩ := id hst
    refine ⟨_, rfl, sh, ds, _, rfl, hs, rfl, _, rfl, sh, tb, st, d, c, l, cl, m, n, _, k, b, rfl, ⟨ds, hs⟩, hst, hp, hc, bm, bn, m2, n3, fun H1 S1 => ?_⟩
    refine ⟨_, rfl, sh, CW, ds, _, _, rfl, S1 _ _ hs, Z.w, Z.ws, rfl, st, CT, dx, _, _, rfl, S1 _ _ h1, Z.t, Z.tc, rfl, c, rfl, .inr ⟨_, .inl (S1 _ _ h3)⟩, _, rfl, cl, _, rfl, .inl ⟨SqL.of (S1 _ _ hc), fun t nt => ?_⟩⟩
    have S2 := S1.trans (Same.upd nt : Same H1 (upd H1 t (.tup [.int 1, .int 2])))
    refine ⟨some y, by rw [← valV_kx (y := y)]; exact DGet.t (k := kx) (S2 _ _ h3) upd_same, q _ S2⟩
theorem scTake : FnScope ["self", "cell", "state"] ["self", "cell"] (defScope sTake) := ⟨rfl, rfl, rfl, by decide +kernel, rfl, by decide +kernel, by decide +kernel⟩
theorem ok_take {f : Addr} {fd : FuncData} (F : Fun K "take" "Store.take" sTake f fd) (B : Bl mg) (Z : Ks K CT CR CW) (Cc : Met P w K mg base 4 CW "_check_cell" (spChkCell C CT CW) []) (No : Met P w K mg base 1 CT "note_cell" (spNote CT) []) : FnOk P w K mg base CX0 5 f fd ["self", "cell"] (spTake C CT CW) := by
  refine F.ok scTake (fun vs H Q E h => ?_) (fun cdv A outer s H vs Q E hr h => ?_)
  · obtain ⟨sh, tb, st, d, c, l, cl, m, n, y, k, b, rfl, _⟩ := h
    rfl
  · obtain ⟨sh, tb, st, d, c, l, cl, m, n, y, k, b, rfl, hs, hst, hk, hp, hc, ncl, bm, bn, m2, n3, q⟩ := h
    have u1 := Nat.lt_of_le_of_lt (Nat.add_le_add_left (by decide : 1 ≤ 64) _) hr.units
    refine ⟨_, ((pss_cons (ps_expr (pe_mt Cc hr (by decide) (pv 0) (pa_cons (pv 1) pa_nil)))
      (pss_cons (ps_set (i := 2) scTake.nd rfl (Or.inl rfl) (pe_fld (pv 0) rfl))
      (pss_cons (ps_expr (pe_mt No hr (by decide) (pv 2) (pa_cons (pe_callTy call_tuple_of (by rfl) B.tup_ (by decide +kernel) (pa_cons (pv 1) pa_nil)) pa_nil)))
      (pss_one (ps_ret (pe_bm PySem.F.plainAttrs_dict PySem.F.slot_dict_pop PySem.F.type_dict_pop (DX.mt_popT u1) (pe_fld (pv 2) rfl) (pa_cons (pe_callTy call_tuple_of (by rfl) B.tup_ (by decide +kernel) (pa_cons (pv 1) pa_nil)) (pa_cons pe_non pa_nil))))))))), ?_⟩
    obtain ⟨ds, hs⟩ := hs
    obtain ⟨⟨dx, h1⟩, h2, h3, ch, h4, h5⟩ := id hst
    refine ⟨_, rfl, sh, ds, _, rfl, hs, rfl, _, rfl, sh, tb, st, d, c, l, cl, m, n, _, k, b, rfl, ⟨ds, hs⟩, hst, hp, hc, bm, bn, m2, n3, fun H1 S1 => ?_⟩
    dsimp only
    refine seq_asg ⟨_, rfl, sh, CW, ds, _, _, rfl, S1 _ _ hs, Z.w, Z.ws, rfl, ?_⟩
    refine ⟨_, rfl, st, dx, _, rfl, S1 _ _ h1, rfl, _, rfl, cl, _, rfl, .inl ⟨SqL.of (S1 _ _ hc), fun t nt => ?_⟩⟩
    have T3 := S1.trans (Same.upd nt : Same H1 (upd H1 t (.tup [.int 1, .int 2])))
    refine ⟨st, d, c, l, t, m, n, _, k, b, rfl, hst.same T3, upd_same, by omega, fun H4 o SB ho lo => ?_⟩
    have G : ∀ {x : Addr} {o : HO}, H x = some o → (∀ xs, o ≠ .lst xs) → H4 x = some o := fun {x o} e n => SB _ _ (ne_of e h4 (n _)) (T3 _ _ e)
    have hc4 := G h3 (by intro xs z; cases z)
    refine ⟨_, rfl, st, CT, dx, _, _, rfl, G h1 (by intro xs z; cases z), Z.t, Z.tc, rfl, .inr (.inr (.inl ⟨rfl, .inr ⟨_, hc4⟩⟩)), _, rfl, cl, _, rfl, .inl ⟨SqL.of (SB _ _ ncl (T3 _ _ hc)), fun t2 nt2 => ?_⟩⟩
    have S5 : Same H4 (upd H4 t2 (.tup [.int 1, .int 2])) := Same.upd nt2
    have nlc : l ≠ c := ne_of h4 h3 (by intro z; cases z)
    have R : ∀ {x : Addr} {o : HO} (w : HO), x ≠ c → (upd H4 t2 (.tup [.int 1, .int 2])) x = some o → (upd (upd H4 t2 (.tup [.int 1, .int 2])) c w) x = some o := fun {x o} w nx e => by rw [upd_ne nx]; exact e
    refine ⟨c, _, kx, t2, .non, rfl, rfl, S5 _ _ hc4, upd_same, fun v hv => ?_, fun hv => ?_⟩
    · rw [valV_kx] at hv
      obtain rfl := Option.some.inj hv
      rw [dropK_kx]
      refine q _ (fun x o nx e => ?_) ⟨ds, R _ (ne_of hs h3 (by intro z; cases z)) (S5 _ _ (G hs (by intro xs z; cases z)))⟩ ⟨⟨dx, R _ (ne_of h1 h3 (by intro z; cases z)) (S5 _ _ (G h1 (by intro xs z; cases z)))⟩, R _ (ne_of h2 h3 (by intro z; cases z)) (S5 _ _ (G h2 (by intro xs z; cases z))), upd_same, o, R _ nlc (S5 _ _ ho), lo⟩
      exact R _ (fun z => nx (by rw [z]; simp)) (S5 _ _ (SB _ _ (fun z => nx (by rw [z]; simp)) (T3 _ _ e)))
    · rw [valV_kx] at hv
      cases hv
end
end E4

set_option Elab.async false
set_option linter.all false
set_option maxRecDepth 100000
set_option maxHeartbeats 1000000
/-! stores: grow, Store's __init__ -/
namespace E4
open PySem PySem.Spec PyProof.Rows L2
open C8 (Cal Mak Met InsC pe_c pe_mt pe_mt0 call_isC clsBody)
open LamX (Tabs ExtN TabB CodeO)
def spGrow (C CT CW : Addr) : Sp := fun vs H Q _ => ∃ (sh tb st d c l : Addr) (m n : Int) (y : V) (k : Nat), vs = [.ref sh, .str "n"] ∧ SoO CW H sh tb st ∧ StA CT H st d c l m n [(kx, y)] k .non ∧ k < 50 ∧ PlAt C H tb bd ∧ m.natAbs < 2 ^ 300 ∧ n.natAbs < 2 ^ 300 ∧ 2 ≤ m ∧ 3 ≤ n ∧
  ∀ H' d', Off [l, st] H H' → H d' = none → SoO CW H' sh tb st → StA CT H' st d' c l m (n + 1) [(kx, y)] (k + 1) .non → Q (.int 1) H'
def spSoInit (T : List (Addr × Str)) (C CT CW : Addr) : Sp := fun vs H Q _ => ∃ (a dx tb dv : Addr) (m n : Int), vs = [.ref a, .ref tb, .ref dv] ∧ H a = some (.ins CW dx []) ∧ PlAt C H tb bd ∧ H dv = some (.dK (dI (vls m n))) ∧ m.natAbs < 2 ^ 300 ∧ n.natAbs < 2 ^ 300 ∧ 2 ≤ m ∧ 3 ≤ n ∧ Tabs T H ∧
  ∀ H' st d c l, (∀ b o, b ≠ a → H b = some o → (∀ ps, o ≠ .tbl ps) → H' b = some o) → Tabs T H' → NewT H st → NewT H d → NewT H c → NewT H l → SoO CW H' a tb st → StA CT H' st d c l m n [] 0 .non → Q .non H'
theorem sizes_bd : sizesOf bd = (["m", "n"] : List Str) := by decide +kernel
theorem putn (m n : Int) : putK (dI (vls m n)) (Sum.inr "n") (.int (gv m n "n" + 1)) = dI (vls m (n + 1)) := by
  rw [putK_dI, gv_n]
  rfl
theorem PlAt.frame {C : Addr} {H H' : Hp} {a c : Addr} {ss : List Sd} {kv : List (List Key × V)} (h : PlAt C H a ss) (hc : H c = some (.dT kv)) (F : ∀ x o, x ≠ c → H x = some o → H' x = some o) : PlAt C H' a ss := by
  obtain ⟨dx, l, ts, a1, a2, a3⟩ := h
  have G : ∀ {x : Addr} {o : HO}, H x = some o → o ≠ .dT kv → H' x = some o := fun {x o} e n => F _ _ (ne_of e hc n) e
  exact ⟨dx, l, ts, G a1 (by intro z; cases z), G a2 (by intro z; cases z), a3.imp fun t _ x ⟨u, v, r1, r2, r3⟩ => ⟨u, v, G r1 (by intro z; cases z), G r2 (by intro z; cases z), G r3 (by intro z; cases z)⟩⟩
theorem b400' {i : Int} (h : i.natAbs < 2 ^ 300) : (i + 1).natAbs < 2 ^ 400 := by
  have h1 : (i + 1).natAbs ≤ i.natAbs + 1 := by omega
  exact Nat.lt_of_le_of_lt h1 (Nat.lt_of_le_of_lt (Nat.succ_le_of_lt h) (Nat.pow_lt_pow_right (by decide) (by decide)))
def bo : List Sd := [("c", ["n"], []), ("r", ["m"], ["n"])]
theorem ord_bd : ordL bd = bo := by
  unfold ordL sortB bd bo
  simp [List.mergeSort, List.merge, PySem.W.dataLe]
  first | rfl | decide +kernel | kernel_rfl
theorem chn_bd : Chn bd := by
  unfold Chn
  rw [ord_bd]
  intro j x y hx hy
  match j with
  | 0 =>
    obtain rfl := Option.some.inj hx
    obtain rfl := Option.some.inj hy
    unfold Fit
    decide +kernel
  | j + 1 => cases hy
theorem vls_ok {m n : Int} (bm : m.natAbs < 2 ^ 400) (bn : n.natAbs < 2 ^ 400) : VlsOk (vls m n) := by
  refine ⟨fun x hx => ?_, by show 2 ≤ 2000; decide⟩
  simp only [vls, List.mem_cons, List.not_mem_nil, or_false] at hx
  rcases hx with rfl | rfl
  · exact ⟨let_m, bm⟩
  · exact ⟨let_n, bn⟩
theorem PlAt.extX {C : Addr} {H H' : Hp} {a : Addr} {ss : List Sd} (h : PlAt C H a ss) (S : ExtN H H') : PlAt C H' a ss :=
  let ⟨dx, l, ts, a1, a2, a3⟩ := h
  ⟨dx, l, ts, S _ _ a1 (by intro _ z; cases z), S _ _ a2 (by intro _ z; cases z), a3.imp fun t _ x ⟨u, v, r1, r2, r3⟩ => ⟨u, v, S _ _ r1 (by intro _ z; cases z), S _ _ r2 (by intro _ z; cases z), S _ _ r3 (by intro _ z; cases z)⟩⟩
theorem _root_.L2.dc_it {J : It} {nn : Nat} {G : Hp → Prop} {Y : Nat → Hp → V → Hp → Prop} (w : Walk J nn G Y) {g : TG} {tt : TT} {tk tv : TE} {vs : List Nat} {σ : L2.St} {H1 : Hp} {D : Addr} {Qd : Hp → Prop} (Pv : Nat → Hp → Prop) (h0 : Pv 0 (upd H1 D (.dK []))) (hG : ∀ i H, i ≤ nn → Pv i H → G H)
    (hs : ∀ i x H H', i < nn → Pv i H → Y i H x H' → g x (wipe σ vs) H' fun σ2 H2 => wipe σ2 vs = wipe σ vs ∧ tt σ2 H2 fun b H3 =>
      if b = true then tk σ2 H3 fun y H4 => tv σ2 H4 fun z H5 => ∃ kvs k, y = kV k ∧ H5 D = some (.dK kvs) ∧ kvs.length < sizeLine ∧ Pv (i + 1) (upd H5 D (.dK (putK kvs k z))) else Pv (i + 1) H3) (hd : ∀ H, Pv nn H → Qd H) :
    ∃ W : Nat → Nat → Hp → Prop, (∃ m, W 0 m (upd H1 D (.dK []))) ∧ ∀ i m H, W i m H →
      (J.stop i H ∧ Qd H) ∨ (J.go i H ∧ ∃ Nx : Hp → Prop, (∀ H', Nx H' → ∃ m', m' < m ∧ W (i + 1) m' H') ∧ ∀ x H', J.yld i H x H' → g x (wipe σ vs) H' fun σ2 H2 => wipe σ2 vs = wipe σ vs ∧ tt σ2 H2 fun b H3 =>
        if b = true then tk σ2 H3 fun y H4 => tv σ2 H4 fun z H5 => ∃ kvs k, y = kV k ∧ H5 D = some (.dK kvs) ∧ kvs.length < sizeLine ∧ Nx (upd H5 D (.dK (putK kvs k z))) else Nx H3) := by
  refine ⟨fun i m H => m = nn - i ∧ i ≤ nn ∧ Pv i H, ⟨nn, by simp, Nat.zero_le _, h0⟩, ?_⟩
  rintro i m H ⟨rfl, hi, p⟩
  have q := hG i H hi p
  by_cases hlt : i < nn
  · exact .inr ⟨w.goes i H hlt q, Pv (i + 1), fun H' p' => ⟨nn - (i + 1), by omega, rfl, hlt, p'⟩, fun x H' y => hs i x H H' hlt p (w.yields i H x H' hlt q y)⟩
  · have e : i = nn := by omega
    subst e
    exact .inl ⟨w.stops H q, hd H p⟩
theorem Tabs.off {T : List (Addr × Str)} {H H' : Hp} {a : Addr} {o : HO} (h : Tabs T H) (ha : H a = some o) (n1 : ∀ ps, o ≠ .tbl ps) (n2 : ∀ c q, o ≠ CodeO c q) (F : ∀ x ox, x ≠ a → H x = some ox → H' x = some ox) : Tabs T H' := fun p hp => by
  obtain ⟨ps, e1, e2, e3⟩ := h p hp
  refine ⟨ps, F _ _ (ne_of e1 ha (n1 _).symm) e1, e2, fun pos cv hc => ?_⟩
  obtain ⟨c, e4, e5⟩ := e3 pos cv hc
  exact ⟨c, e4, F _ _ (ne_of e5 ha (n2 _ _).symm) e5⟩
theorem ins_code {CW dx c : Addr} {fs : List (Str × V)} {q : Str} : HO.ins CW dx fs ≠ CodeO c q := fun z => by
  unfold CodeO at z
  cases z
theorem b400 {i : Int} (h : i.natAbs < 2 ^ 300) : i.natAbs < 2 ^ 400 := Nat.lt_of_lt_of_le h (Nat.pow_le_pow_right (by decide) (by decide))
section
variable {P : Program} {w : World} {K : PySem.W.Frag} {mg : Str → Option Value} {base : Heap} {C CT CR CW : Addr} {T : List (Addr × Str)}
theorem scGrow : FnScope ["self", "size", "state", "grown", "before", "behind", "cell", "place", "old"] ["self", "size"] (defScope sGrow) := ⟨rfl, rfl, rfl, by decide +kernel, rfl, by decide +kernel, by decide +kernel⟩
theorem ok_grow {f : Addr} {fd : FuncData} (F : Fun K "grow" "Store.grow" sGrow f fd) (B : Bl mg) (hmax : mg "max" = none) (Z : Ks K CT CR CW) (Sz : Met P w K mg base 1 C "sizes" (spSizes C) []) (Pl : Cal P w K mg base 2 "place_in" (spPlace K C) []) (Cr : Met P w K mg base 1 CW "_check_room" (spChkRoom CT CW) []) : FnOk P w K mg base CX0 3 f fd ["self", "size"] (spGrow C CT CW) := by
  refine F.ok scGrow (fun vs H Q E h => ?_) (fun cdv A outer s H vs Q E hr h => ?_)
  · obtain ⟨sh, tb, st, d, c, l, m, n, y, k, rfl, _⟩ := h
    rfl
  · obtain ⟨sh, tb, st, d, c, l, m, n, y, k, rfl, ⟨ds, hs⟩, hst, hk, hp, bm, bn, m2, n3, q⟩ := h
    obtain ⟨⟨dx, h1⟩, h2, h3, ch, h4, h5⟩ := id hst
    have u1 := Nat.lt_of_le_of_lt (Nat.add_le_add_left (by decide : 1 ≤ 64) _) hr.units
    refine ⟨_, ((pss_cons (ps_if (pt_cmpR op_notIn_seq (pv 1) (pe_mt0 Sz hr (by decide) (pe_fld (pv 0) rfl)) (by rfl)) (pss_one ps_never) pss_nil)
      (pss_cons (ps_set (i := 2) scGrow.nd rfl (Or.inr rfl) (pe_fld (pv 0) rfl))
      (pss_cons (ps_set (i := 3) scGrow.nd rfl (Or.inr rfl) (pe_callTy call_dictD (by rfl) B.dict_ (by decide +kernel) (pa_cons (pe_fld (pv 2) rfl) pa_nil)))
      (pss_cons (ps_dput u1 (pv 3) (pv 1) (pe_op op_add (pe_dget u1 (pv 3) (pv 1) (fun _ _ => rfl)) pe_int) rfl)
      (pss_cons (ps_lock (ps_setLc (i := 4) (own := [("cell", 6)]) (g := gName 6) (tt := tYes) (te := tCall (spPlace K C) [] C8.E0 (tCons (tFld K (tVar 0) "_table") (tCons (tFld K (tVar 2) "present") (tCons (tVar 6) tNil)))) (by rfl) scGrow.nd rfl rfl (by rfl) (pi_keys (pe_fld (pv 2) rfl))
            (blkOk_by (own := [("cell", 6)]) (N := ["self", "size", "state", "grown", "before", "behind", "cell", "place", "old"]) (sc := defScope sGrow) (by decide +kernel))
            (fun _ _ _ _ _ => (pg_name (i := 6) scGrow.nd rfl (Or.inl rfl))) (fun _ _ _ _ _ => pts_nil) (fun _ _ _ _ _ => by exact (pe_c Pl hr (by decide) rfl (pa_cons (pe_fld (pv 0) rfl) (pa_cons (pe_fld (pv 2) rfl) (pa_cons (pv 6) pa_nil)))))))
      (pss_cons (ps_lock (ps_setLc (i := 5) (own := [("cell", 6)]) (g := gName 6) (tt := tYes) (te := tCall (spPlace K C) [] C8.E0 (tCons (tFld K (tVar 0) "_table") (tCons (tVar 3) (tCons (tVar 6) tNil)))) (by rfl) scGrow.nd rfl rfl (by rfl) (pi_keys (pe_fld (pv 2) rfl))
            (blkOk_by (own := [("cell", 6)]) (N := ["self", "size", "state", "grown", "before", "behind", "cell", "place", "old"]) (sc := defScope sGrow) (by decide +kernel))
            (fun _ _ _ _ _ => (pg_name (i := 6) scGrow.nd rfl (Or.inl rfl))) (fun _ _ _ _ _ => pts_nil) (fun _ _ _ _ _ => by exact (pe_c Pl hr (by decide) rfl (pa_cons (pe_fld (pv 0) rfl) (pa_cons (pv 3) (pa_cons (pv 6) pa_nil)))))))
      (pss_cons (ps_if (pt_cmpR op_gt (pe_callB call_len_seq (by rfl) B.len_ PySem.boot_len (pa_cons (pv 5) pa_nil)) pe_int (by rfl)) (pss_one (ps_expr (pe_mt Cr hr (by decide) (pv 0) (pa_cons (pe_callB (cr_max rfl) (by rfl) hmax (by decide +kernel) (pa_cons (pv 5) pa_nil)) pa_nil)))) pss_nil)
      (pss_cons (ps_expr (pe_bm PySem.F.plainAttrs_list PySem.F.slot_list_append PySem.F.type_list_append mt_append (pe_fld (pv 2) rfl) (pa_cons (pe_tupS (pa_cons pe_str (pa_cons (pv 1) (pa_cons (pe_dget u1 (pe_fld (pv 2) rfl) (pv 1) (fun _ _ => rfl)) pa_nil)))) pa_nil)))
      (pss_cons (ps_fld (pv 2) (pv 3) rfl)
      (pss_one (ps_ret (pe_callB call_len_seq (by rfl) B.len_ PySem.boot_len (pa_cons (pe_lc (own := [("place", 7), ("old", 8)]) (g := gTup K 2 (gCons (gName 7) (gCons (gName 8) gNil))) (tt := tTest (tOp rNe (tVar 7) (tVar 8))) (te := tVar 7) rfl scGrow.nd (pi_zip (by rfl) B.zip_ (pa_cons (pv 5) (pa_cons (pv 4) pa_nil)))
            (blkOk_by (own := [("place", 7), ("old", 8)]) (N := ["self", "size", "state", "grown", "before", "behind", "cell", "place", "old"]) (sc := defScope sGrow) (by decide +kernel))
            (fun _ _ _ _ _ => (pg_tup rfl (pgs_cons (pg_name (i := 7) scGrow.nd rfl (Or.inl rfl)) (pgs_cons (pg_name (i := 8) scGrow.nd rfl (Or.inl rfl)) pgs_nil)))) (fun _ _ _ _ _ => by exact pts_one (pt_cmpR op_ne (pv 7) (pv 8) (by rfl))) (fun _ _ _ _ _ => pv 7)) pa_nil)))))))))))))), ?_⟩
    obtain ⟨dxp, l0, ts0, ha, hl0, hx0⟩ := id hp
    refine ⟨_, rfl, _, rfl, sh, CW, ds, _, _, rfl, hs, Z.w, Z.wt, rfl, tb, dxp, _, rfl, ha, rfl, tb, bd, rfl, hp, bd_ok, fun H1 p S1 np hpp => ?_⟩
    rw [sizes_bd] at hpp
    refine ⟨p, _, rfl, .inl (SqL.of hpp), rfl, rfl, _, rfl, ifF (by decide +kernel) ?_⟩
    dsimp only [tNext]
    refine seq_asg ⟨_, rfl, sh, CW, ds, _, _, rfl, S1 _ _ hs, Z.w, Z.ws, rfl, ?_⟩
    refine seq_asg ⟨_, rfl, st, CT, dx, _, _, rfl, S1 _ _ h1, Z.t, Z.tp, rfl, d, _, rfl, .inl (S1 _ _ h2), fun g ng => ?_⟩
    refine ⟨_, rfl, _, rfl, g, _, rfl, by rw [← valn m n]; exact DGet.k (k := Sum.inr "n") upd_same, _, _, rfl, rfl, _, rfl, _, rfl, g, _, rfl, DPut.k (k := Sum.inr "n") upd_same (by rw [len_dI]; show 2 < sizeLine; decide), ?_⟩
    have S3 : Same H (upd (upd H1 g (.dK (dI (vls m n)))) g (.dK (putK (dI (vls m n)) (Sum.inr "n") (.int (gv m n "n" + 1))))) := fun x o e => by
      have e1 := S1 _ _ e
      rw [upd_ne (ne_of_none e1 ng), upd_ne (ne_of_none e1 ng)]
      exact e1
    have hg3 : (upd (upd H1 g (.dK (dI (vls m n)))) g (.dK (putK (dI (vls m n)) (Sum.inr "n") (.int (gv m n "n" + 1))))) g = some (.dK (dI (vls m (n + 1)))) := by rw [upd_same, putn]
    have ngH := S1.free ng
    generalize upd (upd H1 g (.dK (dI (vls m n)))) g (.dK (putK (dI (vls m n)) (Sum.inr "n") (.int (gv m n "n" + 1)))) = H3 at S3 hg3
    clear ng hpp np S1
    have bnx := b400 bn
    refine ⟨c, .dT [(kx, y)], S3 _ _ h3, trivial, fun od => ?_⟩
    have FF : ∀ {x : Addr} {o : HO}, H3 x = some o → (∀ kv, o ≠ .dT kv) → (upd H3 c (.frz od (.dT [(kx, y)]))) x = some o := fun {x o} e ne => by rw [upd_ne (ne_of e (S3 _ _ h3) (ne _))]; exact e
    have hpF : PlAt C (upd H3 c (.frz od (.dT [(kx, y)]))) tb bd := (hp.same S3).frame (S3 _ _ h3) fun x o nx e => by rw [upd_ne nx]; exact e
    refine ⟨_, rfl, st, CT, dx, _, _, rfl, FF (S3 _ _ h1) (by intro kv z; cases z), Z.t, Z.tc, rfl, c, od, rfl, .inr ⟨_, upd_same, fun D1 nD1 => ?_⟩⟩
    have D1c : D1 ≠ c := by rintro rfl; rw [upd_same] at nD1; cases nD1
    have D1l : D1 ≠ l := fun z => by rw [z, FF (S3 _ _ h4) (by intro kv z; cases z)] at nD1; cases nD1
    have D1s : D1 ≠ st := fun z => by rw [z, FF (S3 _ _ h1) (by intro kv z; cases z)] at nD1; cases nD1
    refine lc_it (walk_keysT (kvs := [(kx, y)])) (fun i H' => Same (upd H3 c (.frz od (.dT [(kx, y)]))) H' ∧ H' D1 = some (.lst (List.replicate i (V.int (n + 2))))) ⟨Same.upd nD1, upd_same⟩ (fun i H' _ q => q.1 _ _ upd_same) ?_ ?_
    · rintro i x H4 H5 hi ⟨S4, hD4⟩ ⟨rfl, k', v', q', hkv, rfl, hq⟩
      obtain rfl : i = 0 := by have : i < 1 := hi; omega
      obtain ⟨rfl, rfl⟩ := Prod.mk.inj (Option.some.inj hkv)
      refine ⟨rfl, iteT (B := False) ⟨_, rfl, sh, CW, ds, _, _, rfl, S4 _ _ (FF (S3 _ _ hs) (by intro kv z; cases z)), Z.w, Z.wt, rfl, _, rfl, st, CT, dx, _, _, rfl, S4 _ _ (FF (S3 _ _ h1) (by intro kv z; cases z)), Z.t, Z.tp, rfl, _, rfl, tb, d, q', m, n, rfl, hpF.same S4, S4 _ _ (FF (S3 _ _ h2) (by intro kv z; cases z)), .inr (SqT.of hq), b400 bm, bnx, fun H6 S6 => ⟨_, S6 _ _ hD4, by show 0 < sizeLine; decide, fun c2 o e => ?_, ?_⟩⟩⟩
      · rw [upd_ne (ne_of_none e nD1)]
        exact S6 _ _ (S4 _ _ e)
      · rw [upd_same]
        rfl
    rintro H4 ⟨S4, hD4⟩
    refine ⟨S4 _ _ upd_same, ?_⟩
    have S9' : Same H3 (upd H4 c (.dT [(kx, y)])) := same_back (S3 _ _ h3) S4
    have D1h : (upd H4 c (.dT [(kx, y)])) D1 = some (.lst [V.int (n + 2)]) := by rw [upd_ne D1c]; exact hD4
    have S9 := S3.trans S9'
    generalize upd H4 c (.dT [(kx, y)]) = H9 at S9' S9 D1h
    clear FF hpF S4 hD4 nD1
    have hg9 := S9' _ _ hg3
    have bnx := b400' bn
    refine ⟨c, .dT [(kx, y)], S9 _ _ h3, trivial, fun od => ?_⟩
    have FF : ∀ {x : Addr} {o : HO}, H9 x = some o → (∀ kv, o ≠ .dT kv) → (upd H9 c (.frz od (.dT [(kx, y)]))) x = some o := fun {x o} e ne => by rw [upd_ne (ne_of e (S9 _ _ h3) (ne _))]; exact e
    have hpF : PlAt C (upd H9 c (.frz od (.dT [(kx, y)]))) tb bd := (hp.same S9).frame (S9 _ _ h3) fun x o nx e => by rw [upd_ne nx]; exact e
    refine ⟨_, rfl, st, CT, dx, _, _, rfl, FF (S9 _ _ h1) (by intro kv z; cases z), Z.t, Z.tc, rfl, c, od, rfl, .inr ⟨_, upd_same, fun D2 nD2 => ?_⟩⟩
    have D2c : D2 ≠ c := by rintro rfl; rw [upd_same] at nD2; cases nD2
    have D2l : D2 ≠ l := fun z => by rw [z, FF (S9 _ _ h4) (by intro kv z; cases z)] at nD2; cases nD2
    have D2s : D2 ≠ st := fun z => by rw [z, FF (S9 _ _ h1) (by intro kv z; cases z)] at nD2; cases nD2
    refine lc_it (walk_keysT (kvs := [(kx, y)])) (fun i H' => Same (upd H9 c (.frz od (.dT [(kx, y)]))) H' ∧ H' D2 = some (.lst (List.replicate i (V.int ((n + 1) + 2))))) ⟨Same.upd nD2, upd_same⟩ (fun i H' _ q => q.1 _ _ upd_same) ?_ ?_
    · rintro i x H4 H5 hi ⟨S4, hD4⟩ ⟨rfl, k', v', q', hkv, rfl, hq⟩
      obtain rfl : i = 0 := by have : i < 1 := hi; omega
      obtain ⟨rfl, rfl⟩ := Prod.mk.inj (Option.some.inj hkv)
      refine ⟨rfl, iteT (B := False) ⟨_, rfl, sh, CW, ds, _, _, rfl, S4 _ _ (FF (S9 _ _ hs) (by intro kv z; cases z)), Z.w, Z.wt, rfl, _, rfl, _, rfl, tb, g, q', m, (n + 1), rfl, hpF.same S4, S4 _ _ (FF hg9 (by intro kv z; cases z)), .inr (SqT.of hq), b400 bm, bnx, fun H6 S6 => ⟨_, S6 _ _ hD4, by show 0 < sizeLine; decide, fun c2 o e => ?_, ?_⟩⟩⟩
      · rw [upd_ne (ne_of_none e nD2)]
        exact S6 _ _ (S4 _ _ e)
      · rw [upd_same]
        rfl
    rintro H4 ⟨S4, hD4⟩
    refine ⟨S4 _ _ upd_same, ?_⟩
    have S8' : Same H9 (upd H4 c (.dT [(kx, y)])) := same_back (S9 _ _ h3) S4
    have D2h : (upd H4 c (.dT [(kx, y)])) D2 = some (.lst [V.int ((n + 1) + 2)]) := by rw [upd_ne D2c]; exact hD4
    have S8 := S9.trans S8'
    generalize upd H4 c (.dT [(kx, y)]) = H8 at S8' S8 D2h
    clear FF hpF S4 hD4 nD2
    have hg8 := S8' _ _ hg9
    have D1h := S8' _ _ D1h
    have h18 := S8 _ _ h1
    have h48 := S8 _ _ h4
    have zk : ch.length < sizeLine := by rw [h5, sizeLine_eq]; omega
    dsimp only
    refine ts_mid (fun σ' H' => σ' = [some (.ref sh), some (.str "n"), some (.ref st), some (.ref g), some (.ref D1), some (.ref D2), none, none, none] ∧ H8 = H') (fun N hN => ?_) ?_
    · refine ⟨_, rfl, D2, _, rfl, .inl (SqL.of D2h), _, _, rfl, rfl, _, rfl, ifT rfl ?_⟩
      refine ⟨_, rfl, sh, ds, _, rfl, S8 _ _ hs, rfl, _, rfl, D2, [n + 1 + 2], rfl, SqL.of D2h, by show 0 < 1; decide, fun mx hm _ => ?_⟩
      exact ⟨sh, tb, st, d, c, l, m, n, _, k, mx, rfl, ⟨ds, S8 _ _ hs⟩, hst.same S8, hN _ _ ⟨rfl, rfl⟩⟩
    rintro σ' H' ⟨rfl, rfl⟩
    refine ⟨_, rfl, st, CT, dx, _, _, rfl, h18, Z.t, Z.tg, rfl, .inl ⟨rfl, _, SqL.of h48⟩, _, rfl, _, rfl, st, CT, dx, _, _, rfl, h18, Z.t, Z.tp, rfl, _, rfl, d, _, rfl, by rw [← valn m n]; exact DGet.k (k := Sum.inr "n") (S8 _ _ h2), by show 3 ≤ sizeLine; decide, fun r H6 S6 nr hr6 => ⟨l, _, _, rfl, rfl, S6 _ _ h48, zk, ?_⟩⟩
    have nls : l ≠ st := ne_of h4 h1 (by intro z; cases z)
    have U7 : ∀ {x : Addr} {o : HO}, x ≠ l → H8 x = some o → (upd H6 l (.lst (ch ++ [.ref r]))) x = some o := fun {x o} nx e => by rw [upd_ne nx]; exact S6 _ _ e
    refine ⟨_, rfl, _, rfl, st, CT, dx, _, rfl, U7 nls.symm h18, Z.t, Z.tp, by show 4 < 1000; decide, ?_⟩
    have U : ∀ {x : Addr} {o : HO}, x ≠ l → x ≠ st → H8 x = some o → (upd (upd H6 l (.lst (ch ++ [.ref r]))) st (.ins CT dx (stF (.ref g) (.ref c) (.ref l) .non))) x = some o := fun {x o} nx ny e => by rw [upd_ne ny]; exact U7 nx e
    have Ul : (upd (upd H6 l (.lst (ch ++ [.ref r]))) st (.ins CT dx (stF (.ref g) (.ref c) (.ref l) .non))) l = some (.lst (ch ++ [.ref r])) := by rw [upd_ne nls]; exact upd_same
    have Us : (upd (upd H6 l (.lst (ch ++ [.ref r]))) st (.ins CT dx (stF (.ref g) (.ref c) (.ref l) .non))) st = some (.ins CT dx (stF (.ref g) (.ref c) (.ref l) .non)) := upd_same
    dsimp only
    show tRet _ _ _ (upd (upd H6 l (.lst (ch ++ [.ref r]))) st (.ins CT dx (stF (.ref g) (.ref c) (.ref l) .non)))
    generalize upd (upd H6 l (.lst (ch ++ [.ref r]))) st (.ins CT dx (stF (.ref g) (.ref c) (.ref l) .non)) = H5 at U Ul Us
    refine ret_of ?_
    have d2 := U D2l D2s D2h
    have d1 := U D1l D1s D1h
    refine ⟨_, rfl, _, rfl, D2, D1, [V.int (n + 1 + 2)], [V.int (n + 2)], rfl, SqL.of d2, SqL.of d1, fun D3 n3' => ?_⟩
    refine lc_it (walk_zip (xs := [V.int (n + 1 + 2)]) (ys := [V.int (n + 2)]) (n := 1) rfl) (fun i H' => Same H5 H' ∧ H' D3 = some (.lst (List.replicate i (V.int (n + 1 + 2))))) ⟨Same.upd n3', upd_same⟩ (fun i H' _ q => ⟨SqL.of (q.1 _ _ d2), SqL.of (q.1 _ _ d1)⟩) ?_ ?_
    · rintro i v H2 H4 hi ⟨S2, hD⟩ ⟨TT, xv, yv, rfl, nT, rfl, e1, e2⟩
      obtain rfl : i = 0 := by omega
      obtain rfl := Option.some.inj e1
      obtain rfl := Option.some.inj e2
      have SS : Same H2 (upd H2 TT (.tup [V.int (n + 1 + 2), V.int (n + 2)])) := Same.upd nT
      refine ⟨TT, _, rfl, SqT.of upd_same, rfl, _, _, rfl, _, _, rfl, rfl, rfl, _, rfl, _, rfl, rfl, _, rfl, ifT (by rw [decide_eq_false (fun z => by have := V.int.inj z; omega)]; rfl) ⟨_, rfl, _, SS _ _ hD, by show 0 < sizeLine; decide, fun c2 o e => ?_, ?_⟩⟩
      · rw [upd_ne (ne_of_none e n3')]
        exact SS _ _ (S2 _ _ e)
      · rw [upd_same]
        rfl
    rintro H2 ⟨S2, hD⟩
    refine ⟨D3, _, rfl, .inl (SqL.of hD), q H2 g (fun x o nx e => S2 _ _ (U (fun z => nx (by rw [z]; simp)) (fun z => nx (by rw [z]; simp)) (S8 _ _ e))) ngH ⟨ds, S2 _ _ (U (ne_of hs h4 (by intro z; cases z)) (ne_of hs h1 (by intro z; cases z)) (S8 _ _ hs))⟩ ⟨⟨dx, S2 _ _ Us⟩, S2 _ _ (U (ne_of hg8 h48 (by intro z; cases z)) (ne_of hg8 h18 (by intro z; cases z)) hg8), S2 _ _ (U (ne_of h3 h4 (by intro z; cases z)) (ne_of h3 h1 (by intro z; cases z)) (S8 _ _ h3)), _, S2 _ _ Ul, by rw [List.length_append, h5]; rfl⟩⟩
theorem scSoInit : FnScope ["self", "table", "values", "name"] ["self", "table", "values"] (defScope sSoInit) := ⟨rfl, rfl, rfl, by decide +kernel, rfl, by decide +kernel, by decide +kernel⟩
theorem ok_soInit {f : Addr} {fd : FuncData} (F : Fun K "__init__" "Store.__init__" sSoInit f fd) (B : Bl mg) (Z : Ks K CT CR CW) (Ct : Cal P w K mg base 1 "check_table" (spCheckT C) []) (Cv_ : Cal P w K mg base 3 "check_values" (spCheckV K) []) (Co : Cal P w K mg base 4 "check_own_places" (spCheckO T C) []) (Sz : Met P w K mg base 1 C "sizes" (spSizes C) []) (M1 : Mak P w K mg base 1 "State" CT (spStInit CT) []) : FnOk P w K mg base CX0 5 f fd ["self", "table", "values"] (spSoInit T C CT CW) := by
  refine F.ok scSoInit (fun vs H Q E h => ?_) (fun cdv A outer s H vs Q E hr h => ?_)
  · obtain ⟨a, dx, tb, dv, m, n, rfl, _⟩ := h
    rfl
  · obtain ⟨a, dx, tb, dv, m, n, rfl, ha, hp, hv, bm, bn, m2, n3, tabs, q⟩ := h
    have u1 := Nat.lt_of_le_of_lt (Nat.add_le_add_left (by decide : 1 ≤ 64) _) hr.units
    refine ⟨_, ((pss_cons (ps_expr (pe_c Ct hr (by decide) rfl (pa_cons (pv 1) pa_nil)))
      (pss_cons (ps_expr (pe_c Cv_ hr (by decide) rfl (pa_cons (pv 2) (pa_cons (pe_mt0 Sz hr (by decide) (pv 1)) pa_nil))))
      (pss_cons (ps_expr (pe_c Co hr (by decide) rfl (pa_cons (pv 1) pa_nil)))
      (pss_cons (ps_fld (pv 0) (pv 1) rfl)
      (pss_one (ps_fld (pv 0) (pe_mk1 M1 hr (by decide) rfl (pa_cons (pe_dc (own := [("name", 3)]) (g := gName 3) (tt := tYes) (tk := tVar 3) (tv := tDGet (tVar 2) (tVar 3)) rfl scSoInit.nd (pi_list (pe_mt0 Sz hr (by decide) (pv 1)))
            (blkOk_by (own := [("name", 3)]) (N := ["self", "table", "values", "name"]) (sc := defScope sSoInit) (by decide +kernel))
            (fun _ _ _ _ _ => (pg_name (i := 3) scSoInit.nd rfl (Or.inl rfl))) (fun _ _ _ _ _ => pts_nil) (fun _ _ _ _ _ => pv 3) (fun _ _ _ _ _ => by exact pe_dget u1 (pv 2) (pv 3) (fun _ _ => rfl))) (pa_cons pe_dnewT (pa_cons (pe_lstS pa_nil) (pa_cons pe_non pa_nil))))) rfl))))))), ?_⟩
    obtain ⟨dxp, l0, ts0, hta, hl0, hx0⟩ := id hp
    refine ⟨_, rfl, tb, dxp, _, rfl, hta, ?_⟩
    refine ⟨_, rfl, _, rfl, tb, dxp, _, rfl, hta, rfl, tb, bd, rfl, hp, bd_ok, fun H1 p S1 np hpp => ?_⟩
    rw [sizes_bd] at hpp
    refine ⟨dv, p, vls m n, ["m", "n"], rfl, S1 _ _ hv, vls_ok (b400 bm) (b400 bn), SqL.of hpp, by decide, fun x hx => hx, fun x hx => ?_, fun H2 S2 => ?_⟩
    · simp only [vls, List.mem_cons, List.not_mem_nil, or_false] at hx
      rcases hx with rfl | rfl
      · show (1 : Int) ≤ m
        omega
      · show (1 : Int) ≤ n
        omega
    have T2 := S1.trans S2
    refine ⟨_, rfl, tb, bd, rfl, hp.same T2, bd_ok, tabs.ext T2, chn_bd, fun H3 ex tb3 => ?_⟩
    have X3 : ExtN H H3 := (ExtN.of T2).trans ex
    have ha3 := X3 _ _ ha (by intro _ z; cases z)
    have hp3 := hp.extX X3
    have hv3 := X3 _ _ hv (by intro _ z; cases z)
    refine ⟨_, rfl, _, rfl, a, CW, dx, _, rfl, ha3, Z.w, Z.wt, by decide, ?_⟩
    have U4 : ∀ {x : Addr} {o : HO}, x ≠ a → H3 x = some o → (upd H3 a (.ins CW dx (putF "_table" (.ref tb) []))) x = some o := fun {x o} nx e => by rw [upd_ne nx]; exact e
    have ntb : tb ≠ a := by
      obtain ⟨dq, lq, tq, q1, _⟩ := hp3
      exact ne_of q1 ha3 (by intro z; cases z)
    have hp4 : PlAt C (upd H3 a (.ins CW dx (putF "_table" (.ref tb) []))) tb bd := by
      obtain ⟨dq, lq, tq, q1, q2, q3⟩ := hp3
      have G : ∀ {x : Addr} {o : HO}, H3 x = some o → o ≠ .ins CW dx [] → (upd H3 a (.ins CW dx (putF "_table" (.ref tb) []))) x = some o := fun {x o} e ne => U4 (ne_of e ha3 ne) e
      exact ⟨dq, lq, tq, G q1 (by intro z; cases z), G q2 (by intro z; cases z), q3.imp fun t _ x ⟨u, v, r1, r2, r3⟩ => ⟨u, v, G r1 (by intro z; cases z), G r2 (by intro z; cases z), G r3 (by intro z; cases z)⟩⟩
    have ha4 : (upd H3 a (.ins CW dx (putF "_table" (.ref tb) []))) a = some (.ins CW dx [("_table", .ref tb)]) := upd_same
    have hv4 := U4 (ne_of hv3 ha3 (by intro z; cases z)) hv3
    have tb4 : Tabs T (upd H3 a (.ins CW dx (putF "_table" (.ref tb) []))) := Tabs.off tb3 ha3 (by intro ps z; cases z) (fun _ _ => ins_code) fun x ox nx e => U4 nx e
    have X4 : ∀ b o, b ≠ a → H b = some o → (∀ ps, o ≠ .tbl ps) → (upd H3 a (.ins CW dx (putF "_table" (.ref tb) []))) b = some o := fun b o nb e nt => U4 nb (X3 _ _ e nt)
    dsimp only
    generalize upd H3 a (.ins CW dx (putF "_table" (.ref tb) [])) = H4 at hp4 ha4 hv4 tb4 X4
    clear U4 hp3 ha3 hv3 tb3 ex S1 S2 T2 X3 hpp np
    obtain ⟨dxq, l1, ts1, hta4, _⟩ := id hp4
    refine ⟨_, rfl, tb, dxq, _, rfl, hta4, rfl, tb, bd, rfl, hp4, bd_ok, fun H5 p5 S5 np5 hp5 => ?_⟩
    rw [sizes_bd] at hp5
    refine ⟨p5, rfl, ⟨_, SqL.of hp5⟩, fun D nD => ?_⟩
    refine dc_it (walk_list (xs := [V.str "m", V.str "n"])) (fun i H' => Same H5 H' ∧ H' D = some (.dK (dI ((vls m n).take i)))) ⟨Same.upd nD, upd_same⟩ (fun i H' _ q => SqL.of (q.1 _ _ hp5)) ?_ ?_
    · rintro i x H6 H7 hi ⟨S6, hD⟩ ⟨rfl, hx⟩
      have hv7 := S6 _ _ (S5 _ _ hv4)
      match i, hi with
      | 0, _ =>
        obtain rfl := Option.some.inj hx
        refine ⟨rfl, iteT (B := False) ⟨_, rfl, _, rfl, _, rfl, dv, _, rfl, by rw [← valm m n]; exact DGet.k (k := Sum.inr "m") hv7, _, Sum.inr "m", rfl, hD, by show 0 < sizeLine; decide, fun c o e => ?_, ?_⟩⟩
        · rw [upd_ne (ne_of_none e nD)]
          exact S6 _ _ e
        · rw [upd_same, putK_dI, gv_m]
          rfl
      | 1, _ =>
        obtain rfl := Option.some.inj hx
        refine ⟨rfl, iteT (B := False) ⟨_, rfl, _, rfl, _, rfl, dv, _, rfl, by rw [← valn m n]; exact DGet.k (k := Sum.inr "n") hv7, _, Sum.inr "n", rfl, hD, by show 1 < sizeLine; decide, fun c o e => ?_, ?_⟩⟩
        · rw [upd_ne (ne_of_none e nD)]
          exact S6 _ _ e
        · rw [upd_same, putK_dI, gv_n]
          rfl
    rintro H6 ⟨S6, hD⟩
    refine fun c nc => ?_
    have S7 : Same H6 (upd H6 c (.dT [])) := Same.upd nc
    have hc7 : (upd H6 c (.dT [])) c = some (.dT []) := upd_same
    refine ⟨by show 0 ≤ sizeLine; decide, fun l H8 S8 nl hl8 => ?_⟩
    have T8 := S5.trans (S6.trans (S7.trans S8))
    have hD8 := S8 _ _ (S7 _ _ hD)
    have hc8 := S8 _ _ hc7
    refine fun x dx2 nx ndx ne => ?_
    refine ⟨x, dx2, _, _, _, _, rfl, upd_same, fun H9 SB hx9 => ⟨rfl, ?_⟩⟩
    have T9 : ∀ {y : Addr} {o : HO}, H8 y = some o → H9 y = some o := fun {y o} e => by
      refine SB _ _ (ne_of_none e nx) ?_
      rw [upd_ne (ne_of_none e nx), upd_ne (ne_of_none e ndx)]
      exact e
    have ha9 := T9 (T8 _ _ ha4)
    refine ⟨_, rfl, a, CW, dx, _, rfl, ha9, Z.w, Z.ws, by show 1 < 1000; decide, ?_⟩
    have nw : ∀ {y : Addr}, H4 y = none → NewT H y := fun {y} hy o e => by
      apply Classical.byContradiction
      intro no
      by_cases hya : y = a
      · rw [hya, ha4] at hy
        cases hy
      · have := X4 _ _ hya e fun ps e2 => no ⟨ps, e2⟩
        rw [hy] at this
        cases this
    have R : ∀ {y : Addr} {o : HO} (w : HO), y ≠ a → H9 y = some o → (upd H9 a w) y = some o := fun {y o} w ny e => by rw [upd_ne ny]; exact e
    exact q (upd H9 a (.ins CW dx (putF "_state" (.ref x) [("_table", .ref tb)]))) x D c l (fun b o nb e nt => R _ nb (T9 (T8 _ _ (X4 _ _ nb e nt)))) (Tabs.off (tb4.ext fun b o e => T9 (T8 _ _ e)) ha9 (by intro ps z; cases z) (fun _ _ => ins_code) fun y ox ny e => R _ ny e) (nw (T8.free nx)) (nw (S5.free nD)) (nw ((S5.trans S6).free nc)) (nw ((S5.trans (S6.trans S7)).free nl))
      ⟨dx, upd_same⟩ ⟨⟨dx2, R _ (fun z => by rw [z, T8 _ _ ha4] at nx; cases nx) hx9⟩, R _ (fun z => by rw [z, S5 _ _ ha4] at nD; cases nD) (T9 hD8), R _ (fun z => by rw [z, (S5.trans S6) _ _ ha4] at nc; cases nc) (T9 hc8), [], R _ (fun z => by rw [z, (S5.trans (S6.trans S7)) _ _ ha4] at nl; cases nl) (T9 hl8), rfl⟩
end
end E4

set_option Elab.async false
set_option linter.all false
set_option maxRecDepth 100000
set_option maxHeartbeats 1000000
/-! sorted(xs, key=lambda row: row[0]), xs a list of tuples whose first item is a whole number -/
namespace L2
open PySem PySem.Spec PySem.Calls PyProof.Rows PySem.W
open LamX (Tabs ExtN TabB CodeO)
abbrev lrPar (p : Pos) : Arguments := { posonlyargs := [], args := [{ arg := "row", annotation := none, pos := p }], vararg := none, kwonlyargs := [], kw_defaults := [], kwarg := none, defaults := [] }
abbrev lrBody (p2 p3 p4 : Pos) : Expr := .Subscript (.Name "row" p2) (.Constant (.int 0) 0 p3) p4
abbrev lrScope : Scope := { kind := .function, names := [("row", .local)], isGenerator := false, isCoroutine := false, more := [] }
section
variable {prog : Program} {w : World} {A : Around} {s : Shared}
theorem lam_keyR {p p2 p3 p4 : Pos} {f c' t : Addr} {qual : Str} {pm ctv : Value} {its : Array Value} {i : Int} {tk : Tok}
    (hroom : A.depth < recursionLimit) (hf : s.heap.get? f = some (kla_obj "<lambda>" qual (lrPar p) (lrBody p2 p3 p4) lrScope [] pm c' ctv)) (hcd : s.heap.CodeRec (.ref c') qual) (hnl : s.heap.NoLimit)
    (ht : IsTup s.heap t its) (hx : its[0]? = some (.int i tk)) (hsz : its.size = 3) :
    wpAny (model prog w) A (call (.ref f) [.ref t]) (KeyPure (.int i) s) (fun _ _ => False) s := by
  refine wpAny_call (kla_callFunE hroom hf rfl rfl rfl rfl hcd ?_)
  rw [show bindArgs (kla_fn "<lambda>" qual (lrPar p) (lrBody p2 p3 p4) lrScope [] pm (.ref c') ctv) ⟨[Value.ref t], []⟩ = pure [(("row" : Str), Value.ref t)] from rfl]
  refine wpAny_pure (wpAny_newFunctionEnv (fun y hy => ?_) (fun y hy => ?_) (fun h₁ hns hsb => ⟨hnl.fresh _ hsb, ?_⟩) rfl)
  · intro z
    simp only [List.mem_cons, List.not_mem_nil, or_false] at hy
    rcases hy with rfl
    cases z
  · rw [List.mem_singleton.mp hy]
    rfl
  have kp : ∀ b o, s.heap.get? b = some o → h₁.get? b = some o := fun b o e => (hsb.2 b (Nat.ne_of_lt (Heap.lt_size e))).trans (Heap.get?_push_of_some _ e)
  refine kla_codeExpr ?_
  generalize henv : newEnv (kla_fn "<lambda>" qual (lrPar p) (lrBody p2 p3 p4) lrScope [] pm (.ref c') ctv).scope s.heap.objs.size _ _ _ _ _ _ _ = env
  have name : ∀ {A' : Around} {pos : Pos} {s1 : Shared} {Q : Value → Shared → Prop} {E : Value → Shared → Prop}, s1.heap = h₁ → Q (.ref t) s1 → wpAny (model prog w) A' (eval (.Name "row" pos) env) Q E s1 := fun e q =>
    wpAny_Name (wpAny_loadName_local (by rw [← henv]; rfl) (by rw [← henv]; rfl) (by rw [e, ← henv]; exact hns) (by rfl) q) (by decide)
  refine wpAny_Subscript_Constant_late (name rfl (fun _ _ _ => ?_))
  refine ⟨"tuple", _, slot_tuple_getitem.lookup, ?_, ?_⟩
  · obtain ⟨o, ho, hc, _⟩ := ht
    exact ⟨o, kp _ _ ho, hc⟩
  refine getItem_tuple (j := 0) (items := its) (let ⟨o, ho, r⟩ := ht; ⟨o, kp _ _ ho, r⟩) (by decide) (by decide) (by rw [hsz]; rfl) hx ?_
  exact ⟨_, _, rfl, kp, .int _ _⟩
end
section
variable {X : Cx} {e : Expr} {te : TE} {T : List (Addr × Str)} {c P : Addr} {p p2 p3 p4 p6 q kpos pos : Pos} {β : Type} {ad : β → Addr} {ln : β → Int}
/-- in the order of the first items -/
def sortI1 {β : Type} (ln : β → Int) (xs : List β) : List β := xs.mergeSort (PySem.W.dataLe false fun x => .int (ln x))
def tSortR {β : Type} (ad : β → Addr) (ln : β → Int) (T : List (Addr × Str)) (K : PySem.W.Frag) (te : TE) : TE := fun σ H Q => te σ H fun v H1 => ∃ (l : Addr) (ams : List β), v = .ref l ∧ SqL K H1 l (ams.map fun x => V.ref (ad x)) ∧ (∀ x ∈ ams, ∃ (a b : V), SqT K H1 (ad x) [.int (ln x), a, b]) ∧ ams.length ≤ sizeLine ∧ Tabs T H1 ∧
  ∀ (H2 : Hp) (p : Addr), ExtN H1 H2 → Tabs T H2 → NewT H1 p → H2 p = some (.lst ((sortI1 ln ams).map fun x => V.ref (ad x))) → Q (.ref p) H2
theorem pe_sortedR (hr : Room 0 X.A) (hg : Gl X "sorted") (hm : X.mg "sorted" = none) (TB : TabB X.base X.mg c P) (hcode : X.env.code = .ref c) (hmT : (P, X.env.qual ++ "<lambda>") ∈ T) (hu : ∀ p ∈ T, p.1 = P → p.2 = X.env.qual ++ "<lambda>") (he : PE X e te)
    (hes : backTo pos (starEach [e] X.env) = (false, eval e X.env) :: backTo pos (starEach [] X.env) := by rfl) (hpl : (backTo pos (starEach [e] X.env)).any (·.1) = false := by rfl) :
    PE X (.Call (.Name "sorted" q) [e] [⟨some "key", .Lambda (lrPar p) (lrBody p2 p3 p4) lrScope p6, kpos⟩] pos) (tSortR ad ln T X.K te) := by
  refine ⟨fun pins s σ H Q I h => ?_⟩
  refine wpAny_Call_Name_kw (ld_blt (u := .builtin "sorted") I hg hm (by decide +kernel) ?_)
  refine callWith_kw ?_ hes hpl rfl rfl
  rw [hes]
  refine spliced_cons (thn (he.run pins s σ H _ I h) fun u s1 ⟨v, H1, I1, rv, l, ams, ev, hl, ht, hz, tb, q⟩ => spliced_nil ?_)
  subst ev
  obtain rfl : u = Value.ref l := rv
  show wpAny _ _ (evalAll [do let v ← eval (.Lambda (lrPar p) (lrBody p2 p3 p4) lrScope p6) X.env; standAt pos; pure v]) _ _ s1
  refine wpAny_evalAll_cons (wpAny_bind (LamX.lam_make2 I1 TB hcode hmT hu tb rfl (fun y hy z => ?_) fun f c' pm ctv H2 s2 I2 ex tb2 hf nf _ hc => wpAny_bind (wpAny_standAt (wpAny_pure (wpAny_evalAll_nil ?_)))))
  · simp only [List.mem_cons, List.not_mem_nil, or_false] at hy
    rcases hy with rfl
    cases z
  show wpAny _ _ (call (.builtin "sorted") [.ref l] [(Str.ofString "key", .ref f)]) _ _ s2
  obtain ⟨its, rl, pl, hz2⟩ := I2.list (hl.extN ex)
  have lits := rl.length
  rw [List.length_map] at lits
  obtain ⟨⟨oc, vs, tq, hoc, hd, hv⟩, _, _⟩ := I2.hok c' _ hc
  refine PySem.W.sorted_key_data (b := false) (fun x : β => PyData.int (ln x)) pl.isList (each_of_vals rl) (fun d hd d' hd' => ?_) (.inr fun d hd => ?_) hz (fun x _ => ?_) (PyProof.Rows.ksk_s1 _ _) (fun x => PyProof.Rows.ksk_l1 _ _) (fun x => PyProof.Rows.ksk_t1 _ _) (fun v x hR hx h tk kp => ?_) fun out cc h' tk kp n0 hp lo eo => ?_
  · obtain ⟨x, _, rfl⟩ := List.mem_map.mp hd
    obtain ⟨y, _, rfl⟩ := List.mem_map.mp hd'
    rfl
  · obtain ⟨x, _, rfl⟩ := List.mem_map.mp hd
    exact ⟨nofun, fun _ => nofun⟩
  · have := hr.un
    show X.A.units + 2 + PyData.depth (.int _) < cLine
    simp [PyData.depth]
    omega
  · subst hR
    obtain ⟨a1, b1, hx1⟩ := ht x hx
    have I3 : Inv X pins σ H2 { s2 with heap := h, toks := tk } := I2.kept kp
    obtain ⟨its2, rv2, tp, hz3⟩ := I3.tuple (hx1.extN ex)
    have l2 := rv2.length
    obtain ⟨tkk, i0⟩ : ∃ tkk, its2.toArray[0]? = some (.int (ln x) tkk) := by
      cases rv2 with
      | cons h r => obtain ⟨tkk, rfl⟩ := h; exact ⟨tkk, rfl⟩
    exact lam_keyR (s := { s2 with heap := h, toks := tk }) hr.depth (kp _ _ hf) ⟨c', oc, vs, tq, rfl, kp _ _ hoc, hd, hv⟩ I3.nolimit (let ⟨o, ho, hc, n, hd⟩ := tp; ⟨o, ho, hc, n, hd⟩) i0 (by rw [List.size_toArray, ← l2]; rfl)
  · have lo2 : (sortI1 ln ams).length ≤ sizeLine := by unfold sortI1; rw [List.length_mergeSort]; exact hz
    refine ⟨.ref (s2.heap.objs.size + 1), _, I2.laid (t' := tk) (o := .lst ((sortI1 ln ams).map fun x => V.ref (ad x))) kp (Nat.le_succ _) ⟨by rw [List.length_map]; exact lo2, _, cc, vals_of_each eo, hp⟩, rfl, ?_⟩
    have np : H2 (s2.heap.objs.size + 1) = none := I2.hok.fresh (Nat.le_succ _)
    have up : ExtN H2 (upd H2 (s2.heap.objs.size + 1) (.lst ((sortI1 ln ams).map fun x => V.ref (ad x)))) := ExtN.of fun b o e => by rw [upd_ne (ne_of_none e np)]; exact e
    refine q _ _ (ex.trans up) (tb2.ext fun b o e => by rw [upd_ne (ne_of_none e np)]; exact e) ?_ upd_same
    intro o e1
    apply Classical.byContradiction
    intro no
    have z := ex _ _ e1 fun ps e2 => no ⟨ps, e2⟩
    rw [np] at z
    cases z
end
end L2

set_option Elab.async false
set_option linter.all false
set_option maxRecDepth 100000
set_option maxHeartbeats 1000000
/-! stores: held, attempt -/
namespace E4
open PySem PySem.Spec PyProof.Rows L2
open C8 (Cal Mak Met InsC pe_c pe_mt pe_mt0 call_isC clsBody)
open LamX (Tabs ExtN TabB CodeO)
def spHeld (T : List (Addr × Str)) (C CT CW : Addr) : Sp := fun vs H Q _ => ∃ (sh tb st d c l : Addr) (m n : Int) (y : V) (k : Nat) (b : V), vs = [.ref sh] ∧ SoO CW H sh tb st ∧ StA CT H st d c l m n [(kx, y)] k b ∧ PlAt C H tb bd ∧ m.natAbs < 2 ^ 400 ∧ n.natAbs < 2 ^ 400 ∧ Tabs T H ∧
  ∀ H' r t cl, ExtN H H' → Tabs T H' → H' r = some (.lst [.ref t]) → H' t = some (.tup [.int (n + 2), .ref cl, y]) → H' cl = some (.lst [.int 1, .int 2]) → Q (.ref r) H'
theorem caps_nil {X : Cx} : NdefX.Caps X [] [] [] := ⟨fun y c e => (by cases e), fun y hy => (by cases hy), fun y hy => (by cases hy), rfl⟩
/-- attempt with an action that tells the limit -/
def spAttempt (mk : Addr → NdefX.NF) (CT CW : Addr) : Sp := fun vs H Q _ => ∃ (sh tb st d c l f c' : Addr) (m n : Int) (k : Nat) (b : V), vs = [.ref sh, .ref f] ∧ SoO CW H sh tb st ∧ StA CT H st d c l m n [] k b ∧ k < 100 ∧ H f = some (NdefX.FnO f (mk c')) ∧ H (mk c').c = some (CodeO (mk c').c (mk c').qual) ∧ (∀ v, b ≠ .ref v) ∧
  ∀ H', Same H H' → Q b H'
section
variable {P : Program} {w : World} {K : PySem.W.Frag} {mg : Str → Option Value} {base : Heap} {C CT CR CW : Addr} {T : List (Addr × Str)}
theorem scHeld : FnScope ["self", "state", "rows", "cell", "item"] ["self"] (defScope sHeld) := ⟨rfl, rfl, rfl, by decide +kernel, rfl, by decide +kernel, by decide +kernel⟩
theorem ok_held {f cc Pt : Addr} {fd : FuncData} (F : Fun K "held" "Store.held" sHeld f fd) (hc : fd.code = .ref cc) (B : Bl mg) (Z : Ks K CT CR CW) (TB : TabB base mg cc Pt) (hm : (Pt, ("Store.held.<locals>.<lambda>" : Str)) ∈ T) (hu : ∀ p ∈ T, p.1 = Pt → p.2 = "Store.held.<locals>.<lambda>")
    (Pl : Cal P w K mg base 2 "place_in" (spPlace K C) []) : FnOk P w K mg base CX0 3 f fd ["self"] (spHeld T C CT CW) := by
  refine F.okC hc scHeld (fun vs H Q E h => ?_) (fun A outer s H vs Q E hr h => ?_)
  · obtain ⟨sh, tb, st, d, c, l, m, n, y, k, b, rfl, _⟩ := h
    rfl
  · obtain ⟨sh, tb, st, d, c, l, m, n, y, k, b, rfl, ⟨ds, hs⟩, hst, hp, bm, bn, tabs, q⟩ := h
    obtain ⟨⟨dx, h1⟩, h2, h3, ch, h4, h5⟩ := id hst
    refine ⟨_, ((pss_cons (ps_set (i := 1) scHeld.nd rfl (Or.inr rfl) (pe_fld (pv 0) rfl))
      (pss_cons (ps_lock (ps_setLc (i := 2) (own := [("cell", 3), ("item", 4)]) (g := gTup K 2 (gCons (gName 3) (gCons (gName 4) gNil))) (tt := tYes) (te := tTupS (tCons (tCall (spPlace K C) [] C8.E0 (tCons (tFld K (tVar 0) "_table") (tCons (tFld K (tVar 1) "present") (tCons (tVar 3) tNil)))) (tCons (tCB (fun xs H Q => ∃ p ys, xs = [.ref p] ∧ (SqL K H p ys ∨ SqT K H p ys) ∧ ∀ l, H l = none → Q (.ref l) (upd H l (.lst ys))) (tCons (tVar 3) tNil)) (tCons (tVar 4) tNil)))) (by rfl) scHeld.nd rfl rfl (by rfl) (pi_itemsT (pe_fld (pv 1) rfl))
            (blkOk_by (own := [("cell", 3), ("item", 4)]) (N := ["self", "state", "rows", "cell", "item"]) (sc := defScope sHeld) (by decide +kernel))
            (fun _ _ _ _ _ => (pg_tup rfl (pgs_cons (pg_name (i := 3) scHeld.nd rfl (Or.inl rfl)) (pgs_cons (pg_name (i := 4) scHeld.nd rfl (Or.inl rfl)) pgs_nil)))) (fun _ _ _ _ _ => pts_nil) (fun _ _ _ _ _ => by exact (pe_tupS (pa_cons (pe_c Pl hr (by decide) rfl (pa_cons (pe_fld (pv 0) rfl) (pa_cons (pe_fld (pv 1) rfl) (pa_cons (pv 3) pa_nil)))) (pa_cons (pe_callTy call_list_of (by rfl) B.lst_ (by decide +kernel) (pa_cons (pv 3) pa_nil)) (pa_cons (pv 4) pa_nil)))))))
      (pss_one (ps_ret (pe_sortedR (β := Addr × Int) (ad := fun x => x.1) (ln := fun x => x.2) (T := T) (c := cc) (P := Pt) (hr.mono (by decide)) (by rfl) B.srt_ TB rfl hm hu (pv 2))))))), ?_⟩
    refine seq_asg ⟨_, rfl, sh, CW, ds, _, _, rfl, hs, Z.w, Z.ws, rfl, ?_⟩
    refine ⟨c, .dT [(kx, y)], h3, trivial, fun od => ?_⟩
    have FF : ∀ {x : Addr} {o : HO}, H x = some o → (∀ kv, o ≠ .dT kv) → (upd H c (.frz od (.dT [(kx, y)]))) x = some o := fun {x o} e ne => by rw [upd_ne (ne_of e h3 (ne _))]; exact e
    have hpF : PlAt C (upd H c (.frz od (.dT [(kx, y)]))) tb bd := hp.frame h3 fun x o nx e => by rw [upd_ne nx]; exact e
    refine ⟨_, rfl, st, CT, dx, _, _, rfl, FF h1 (by intro kv z; cases z), Z.t, Z.tc, rfl, c, od, _, rfl, upd_same, fun D nD => ?_⟩
    have Dc : D ≠ c := by rintro rfl; rw [upd_same] at nD; cases nD
    refine lc_it (walk_itemsT (kvs := [(kx, y)])) (fun i H' => Same (upd H c (.frz od (.dT [(kx, y)]))) H' ∧ ((i = 0 ∧ H' D = some (.lst [])) ∨ (i = 1 ∧ ∃ t cl, H' D = some (.lst [.ref t]) ∧ H' t = some (.tup [.int (n + 2), .ref cl, y]) ∧ H' cl = some (.lst [.int 1, .int 2])))) ⟨Same.upd nD, .inl ⟨rfl, upd_same⟩⟩ (fun i H' _ q => q.1 _ _ upd_same) ?_ ?_
    · rintro i x H4 H5 hi ⟨S4, hh⟩ ⟨TT, k', v', q', hkv, rfl, hq, nT, rfl⟩
      obtain rfl : i = 0 := by have : i < 1 := hi; omega
      obtain ⟨rfl, rfl⟩ := Prod.mk.inj (Option.some.inj hkv)
      have hD4 : H4 D = some (.lst []) := by
        rcases hh with ⟨_, h⟩ | ⟨h, _⟩
        · exact h
        · cases h
      have S5 : Same H4 (upd H4 TT (.tup [.ref q', y])) := Same.upd nT
      have S45 := S4.trans S5
      refine ⟨TT, _, rfl, SqT.of upd_same, rfl, _, _, rfl, _, _, rfl, rfl, rfl, iteT (B := False) ?_⟩
      refine ⟨_, rfl, sh, CW, ds, _, _, rfl, S45 _ _ (FF hs (by intro kv z; cases z)), Z.w, Z.wt, rfl, _, rfl, st, CT, dx, _, _, rfl, S45 _ _ (FF h1 (by intro kv z; cases z)), Z.t, Z.tp, rfl, _, rfl, tb, d, q', m, n, rfl, hpF.same S45, S45 _ _ (FF h2 (by intro kv z; cases z)), .inr (SqT.of (S5 _ _ hq)), bm, bn, fun H6 S6 => ?_⟩
      refine ⟨_, rfl, q', _, rfl, .inr (SqT.of (S6 _ _ (S5 _ _ hq))), fun cl ncl => ?_⟩
      have S7 : Same H6 (upd H6 cl (.lst (kx.map kV))) := Same.upd ncl
      refine ⟨_, rfl, by show 3 ≤ sizeLine; decide, fun t H8 S8 nt ht => ?_⟩
      have hD8 := S8 _ _ (S7 _ _ (S6 _ _ (S5 _ _ hD4)))
      have hcl8 : H8 cl = some (.lst [.int 1, .int 2]) := S8 _ _ upd_same
      refine ⟨_, hD8, by show 0 < sizeLine; decide, fun c2 o e => ?_, .inr ⟨rfl, t, cl, ?_, ?_, ?_⟩⟩
      · rw [upd_ne (ne_of_none e nD)]
        exact S8 _ _ (S7 _ _ (S6 _ _ (S45 _ _ e)))
      · rw [upd_same]
        rfl
      · rw [upd_ne (ne_of ht hD8 (by intro z; cases z))]
        exact ht
      · rw [upd_ne (ne_of hcl8 hD8 (by intro z; cases z))]
        exact hcl8
    rintro H4 ⟨S4, hh⟩
    rcases hh with ⟨h, _⟩ | ⟨_, t, cl, hD, ht, hcl⟩
    · cases h
    refine ⟨S4 _ _ upd_same, ?_⟩
    have hcF : H4 c = some (.frz od (.dT [(kx, y)])) := S4 _ _ upd_same
    have S5 : Same H (upd H4 c (.dT [(kx, y)])) := same_back h3 S4
    have hD5 : (upd H4 c (.dT [(kx, y)])) D = some (.lst [.ref t]) := by rw [upd_ne Dc]; exact hD
    have ht5 : (upd H4 c (.dT [(kx, y)])) t = some (.tup [.int (n + 2), .ref cl, y]) := by rw [upd_ne (ne_of ht hcF (by intro z; cases z))]; exact ht
    have hcl5 : (upd H4 c (.dT [(kx, y)])) cl = some (.lst [.int 1, .int 2]) := by rw [upd_ne (ne_of hcl hcF (by intro z; cases z))]; exact hcl
    dsimp only
    generalize upd H4 c (.dT [(kx, y)]) = H5 at S5 hD5 ht5 hcl5
    refine ret_of ?_
    refine ⟨_, rfl, D, [(t, n + 2)], rfl, SqL.of hD5, fun x hx => ?_, by show 1 ≤ sizeLine; decide, tabs.ext S5, fun H6 r ex tb6 nr hr6 => ?_⟩
    · obtain rfl := List.mem_singleton.mp hx
      exact ⟨_, _, SqT.of ht5⟩
    · have e1 : sortI1 (fun x : Addr × Int => x.2) [(t, n + 2)] = [(t, n + 2)] := by unfold sortI1; simp
      rw [e1] at hr6
      exact q H6 r t cl ((ExtN.of S5).trans ex) tb6 hr6 (ex _ _ ht5 (by intro _ z; cases z)) (ex _ _ hcl5 (by intro _ z; cases z))
theorem scAttempt : FnScope ["self", "action"] ["self", "action"] (defScope sAttempt) := ⟨rfl, rfl, rfl, by decide +kernel, rfl, by decide +kernel, by decide +kernel⟩
theorem ok_attempt {mk : Addr → NdefX.NF} {f : Addr} {fd : FuncData} (F : Fun K "attempt" "Store.attempt" sAttempt f fd) (Z : Ks K CT CR CW) (M3 : Mak P w K mg base 1 "Trial" CR (spTrInit CR) []) (Wi : WithC P w K mg base 4 CR (spEnter CT CR CW) (spExit CR CW)) (Fn : ∀ f c', NdefX.NOk P w K mg base C8.CX0 3 f (mk c') ["_law_same"] [] (fun _ => spRoom CT CW)) (hcl : ∀ c', (mk c').cl = []) : FnOk P w K mg base CX0 5 f fd ["self", "action"] (spAttempt mk CT CW) := by
  refine F.ok scAttempt (fun vs H Q E h => ?_) (fun cdv A outer s H vs Q E hr h => ?_)
  · obtain ⟨sh, tb, st, d, c, l, f, c', m, n, k, b, rfl, _⟩ := h
    rfl
  · obtain ⟨sh, tb, st, d, c, l, f, c', m, n, k, b, rfl, ⟨ds, hs⟩, hst, hk, hf, hco, hb, q⟩ := h
    obtain ⟨⟨dx, h1⟩, h2, h3, ch, h4, h5⟩ := id hst
    refine ⟨_, ((pss_one (ps_with rfl Wi hr (by decide) (pe_mk1 M3 hr (by decide) rfl (pa_cons (pv 0) pa_nil)) (pss_one (ps_ret (NdefX.pe_calln (i := 1) (CX := C8.CX0) (E := C8.E0) (cl := []) (fr := []) (js := []) Fn hcl (fun _ => caps_nil) hr (by decide) C8.pass0 rfl (Or.inl rfl) (pa_cons (pv 0) pa_nil))))))), ?_⟩
    refine ⟨_, rfl, fun x dx2 nx ndx ne => ?_⟩
    refine ⟨x, dx2, _, rfl, upd_same, fun H1 SB hx1 => ⟨rfl, x, dx2, _, rfl, hx1, ?_⟩⟩
    have T1 : Same H H1 := fun y o e => by
      refine SB _ _ (ne_of_none e nx) ?_
      rw [upd_ne (ne_of_none e nx), upd_ne (ne_of_none e ndx)]
      exact e
    have xsh : x ≠ sh := (ne_of_none hs nx).symm
    have fin : ∀ {y : Addr} {o : HO}, H y = some o → y ≠ sh → y ∉ [x, sh] := fun {y o} e n h => by
      rcases List.mem_cons.mp h with h | h
      · exact ne_of_none e nx h
      · exact n (List.mem_singleton.mp h)
    refine ⟨x, dx2, sh, ds, tb, st, d, c, l, m, n, k, b, rfl, hx1, T1 _ _ hs, xsh, hst.same T1, hk, fun H2 st' OF nst hx2 hs2 hb2 => ?_⟩
    have G : ∀ {y : Addr} {o : HO}, H y = some o → y ≠ sh → H2 y = some o := fun {y o} e n => OF _ _ (fin e n) (T1 _ _ e)
    have hf2 := G hf (ne_of hf hs (by intro z; unfold NdefX.FnO at z; cases z))
    have hc2 := G hco (ne_of hco hs (fun z => ins_code z.symm))
    refine ⟨f, c', rfl, hf2, _, rfl, hf2, hc2, sh, tb, st', b, rfl, ⟨ds, hs2⟩, hb2, ?_⟩
    refine ⟨x, dx2, sh, ds, .ref tb, .ref st, .ref st', rfl, hx2, hs2, fun H3 SB3 hs3 => q H3 fun y o e => ?_⟩
    by_cases hy : y = sh
    · subst hy
      rw [hs3, ← e, hs]
    · exact SB3 _ _ hy (G e hy)
end
end E4

set_option Elab.async false
set_option linter.all false
set_option maxRecDepth 100000
set_option maxHeartbeats 1000000
/-! the draws of stage 3's laws: _law_purse, _law_mixed, _law_draw -/
namespace E3
open PySem PySem.Spec PyProof.Rows L2
open C8 (Cal Mak Met InsC pe_c pe_mt pe_mt0 call_isC clsBody)
def top (i : Nat) : Stmt := PySem.Challenge.pw_cellplaces_k87_stores_by_name.main.body.getD i (.Pass ⟨0, 0, 0, 0⟩)
abbrev sLaw : Stmt := top 38
structure Bt4 (mg : Str → Option Value) : Prop where
  sum_ : mg "sum" = none
  max_ : mg "max" = none
  rng_ : mg "range" = none
  len_ : mg "len" = none
/-- a purse, with so many draws left -/
def PurseAt (H : Hp) (a : Addr) (n : Nat) : Prop := ∃ p0 p1 p2 : Int, H a = some (.lst [.int p0, .int p1, .int p2]) ∧ 0 ≤ p0 ∧ p0 < 10 ^ 480 ∧ 0 ≤ p1 ∧ p1 < 2 ^ 31 ∧ 0 ≤ p2 ∧ p2 + n ≤ 2 ^ 60
theorem PurseAt.same {H H' : Hp} {a : Addr} {n : Nat} (h : PurseAt H a n) (S : Same H H') : PurseAt H' a n :=
  let ⟨p0, p1, p2, h1, h2⟩ := h
  ⟨p0, p1, p2, S _ _ h1, h2⟩
section
variable {P : Program} {w : World} {K : PySem.W.Frag} {mg : Str → Option Value} {base : Heap}
end
end E3

set_option Elab.async false
set_option linter.all false
set_option maxRecDepth 100000
set_option maxHeartbeats 1000000
/-! a != b, both of one own class that has __eq__ alone. -/
namespace PySem.W
open PySem PySem.Calls PyProof.Rows
section
variable {prog : Program} {w : World} {A : Around} {E : Value → Shared → Prop} {s : Shared} {K : Frag} {x y C L f : Addr} {h₀ : Heap} {m : Str → Option Value} {ox : Obj} {od : Option Obj}
/-- what the class says of != -/
structure NoNe (K : Frag) (C f : Addr) : Prop where
  ne : findIn K (.ref C) "__ne__" = some (some (.builtin "object.__ne__"))
  eq : findIn K (.ref C) "__eq__" = some (some (.ref f))
  fn : isFn K (.ref f) = true
  sub : subIn K (.ref C) (.type "object") = some true
end
end PySem.W

set_option Elab.async false
set_option linter.all false
set_option maxRecDepth 100000
set_option maxHeartbeats 1000000
/-! o.m(k=v, ..): a method called with keywords alone -/
namespace L2
open PySem PySem.Spec PyProof.Rows
def MetK (P : Program) (w : World) (K : PySem.W.Frag) (mg : Str → Option Value) (base : Heap) (k : Nat) (C : Addr) (m : Str) (sp : Sp) (ks : List Str) (gV : List V → List V → List V) : Prop :=
  ∃ (f : Addr) (fd : FuncData) (ps : List Str) (g : List Value → List Value → List Value), Cls K C ∧ Meth K C m f ∧ FnOk P w K mg base CX0 k f fd ps sp ∧ KBinds K fd ps ks g gV
def tMethK (C : Addr) (m : Str) (sp : Sp) (gV : List V → List V → List V) (E : XK) (ta : TE) (tk : TA) : TE := fun σ H Q => ta σ H fun x H1 => ∃ a dx fs, x = .ref a ∧ H1 a = some (.ins C dx fs) ∧ fs.lookup m = none ∧
  tk σ H1 fun zs H2 => sp (gV [x] zs) H2 Q E
section
variable {X : Cx} {k j : Nat} {C : Addr} {m : Str} {sp : Sp} {ks : List Str} {gV : List V → List V → List V} {apos pos : Pos} {o : Expr} {kws : List Keyword} {ta : TE} {tk : TA}
theorem pe_mtK {pl : Sem Bool} (c : MetK X.prog X.w X.K X.mg X.base k C m sp ks gV) (hr : Room j X.A) (hk : k ≤ j) (he : PE X o ta) (hkw : PK X kws tk)
    (hall : (backToKw pos (keywordEach kws X.env)).all (·.1.isSome) = true := by rfl) (hks : (backToKw pos (keywordEach kws X.env)).filterMap (·.1) = ks := by rfl)
    (hpl : ((backTo pos (starEach [] X.env)).any (·.1) || (backToKw pos (keywordEach kws X.env)).any (·.1.isNone)) = false := by rfl)
    (ht : eval (.Call (.Attribute o m apos) [] kws pos) X.env = (do
      let ov ← eval o X.env
      standAt apos.atName
      let (f, first) ← holding [ov] (getMethod ov m pl)
      callWith pos f first (backTo pos (starEach [] X.env)) (backToKw pos (keywordEach kws X.env))) := by rfl) :
    PE X (.Call (.Attribute o m apos) [] kws pos) (tMethK C m sp gV C8.E0 ta tk) := by
  obtain ⟨f, fd, ps, g, hc, hm, F, hb⟩ := c
  refine ⟨fun pins s σ H Q I h => ?_⟩
  refine PySem.W.methodCall_KW (pl := pl) (thn (he.run pins s σ H _ I h) fun u s1 ⟨x, H1, I1, rx, a, dx, fs, ex, ea, l, q⟩ => ?_) ht
  subst ex
  obtain rfl : u = Value.ref a := rx
  refine getmeth_ok I1 ea hc hm l ?_
  refine PySem.W.callWith_KW0 (first := [.ref a]) (h₀ := X.base) I.ok.mod.kin hm.kp hall (thn (hkw.run pos pins _ σ H1 _ I1 q) fun ws s2 ⟨zs, H2, I2, rz, q2⟩ => ⟨I2.kIn, ?_⟩) hpl
  rw [hks]
  exact run_fnk (us := [.ref a]) (vs := [.ref a]) F (hr.mono hk) hb pass0 I2 (.cons rfl .nil) rz q2
end
end L2

set_option Elab.async false
set_option linter.all false
set_option maxRecDepth 100000
set_option maxHeartbeats 2000000
/-! law_k87's law -/
namespace E4
open PySem PySem.Spec PyProof.Rows L2
open C8 (Cal Mak Met InsC pe_c pe_mt pe_mt0 call_isC clsBody)
open LamX (Tabs ExtN TabB CodeO)
abbrev sLaw : Stmt := top 38
def forBody : Stmt → List Stmt
  | .For (body := b) .. => b
  | _ => []
def sAct : Stmt := (forBody ((defBody sLaw).getD 0 (.Pass ⟨0, 0, 0, 0⟩))).getD 7 (.Pass ⟨0, 0, 0, 0⟩)
abbrev mkA : Addr → NdefX.NF := NdefX.NF.of sAct "_law_action" "law.<locals>._law_action" []
theorem nsAct : NdefX.NScope ["_law_same"] ["_law_same"] [] (C8.fnScope sAct) := NdefX.nscope_by (by decide +kernel)
theorem ndAct : NdefX.ndefB (defScope sLaw) (C8.fnScope sAct) [] = true := by decide +kernel
theorem norm_bd : bd.map norm = bd := by decide +kernel
theorem StA.extX {CT : Addr} {H H' : Hp} {st d c l : Addr} {m n : Int} {kv : List (List Key × V)} {k : Nat} {b : V} (h : StA CT H st d c l m n kv k b) (S : ExtN H H') : StA CT H' st d c l m n kv k b :=
  let ⟨⟨dx, h1⟩, h2, h3, ch, h4, h5⟩ := h
  ⟨⟨dx, S _ _ h1 (by intro _ z; cases z)⟩, S _ _ h2 (by intro _ z; cases z), S _ _ h3 (by intro _ z; cases z), ch, S _ _ h4 (by intro _ z; cases z), h5⟩
theorem SoO.extX {CW : Addr} {H H' : Hp} {sh tb st : Addr} (h : SoO CW H sh tb st) (S : ExtN H H') : SoO CW H' sh tb st := let ⟨dx, h1⟩ := h; ⟨dx, S _ _ h1 (by intro _ z; cases z)⟩
theorem Off.ext {L : List Addr} {H0 Ha Hb : Hp} (h : Off L Ha Hb) (X : ExtN H0 Ha) (n : ∀ u ∈ L, NewT H0 u) : ExtN H0 Hb := fun b o e nt => h b o (fun hb => by
  obtain ⟨ps, rfl⟩ := n b hb o e
  exact nt ps rfl) (X b o e nt)
/-- nothing of the code tables stands at a -/
def Clr (H : Hp) (a : Addr) : Prop := ∃ o, H a = some o ∧ (∀ ps, o ≠ .tbl ps) ∧ ∀ c q, o ≠ CodeO c q
theorem clr_ins {H : Hp} {a C dx : Addr} {fs : List (Str × V)} (h : H a = some (.ins C dx fs)) : Clr H a := ⟨_, h, (by intro _ z; cases z), fun _ _ => ins_code⟩
theorem clr_lst {H : Hp} {a : Addr} {xs : List V} (h : H a = some (.lst xs)) : Clr H a := ⟨_, h, (by intro _ z; cases z), fun c q z => by unfold CodeO at z; cases z⟩
theorem clr_dT {H : Hp} {a : Addr} {kv : List (List Key × V)} (h : H a = some (.dT kv)) : Clr H a := ⟨_, h, (by intro _ z; cases z), fun c q z => by unfold CodeO at z; cases z⟩
theorem Off.tabs {T : List (Addr × Str)} {L : List Addr} {Ha Hb : Hp} (h : Off L Ha Hb) (t : Tabs T Ha) (n : ∀ u ∈ L, Clr Ha u) : Tabs T Hb := fun p hp => by
  obtain ⟨ps, e1, e2, e3⟩ := t p hp
  refine ⟨ps, h _ _ (fun hb => ?_) e1, e2, fun pos cv hc => ?_⟩
  · obtain ⟨o, a1, a2, _⟩ := n _ hb
    rw [e1] at a1
    exact a2 _ (Option.some.inj a1).symm
  · obtain ⟨c, e4, e5⟩ := e3 pos cv hc
    refine ⟨c, e4, h _ _ (fun hb => ?_) e5⟩
    obtain ⟨o, a1, _, a3⟩ := n _ hb
    rw [e5] at a1
    exact a3 _ _ (Option.some.inj a1).symm
theorem two_in {p : Addr → Prop} {a b : Addr} (h1 : p a) (h2 : p b) : ∀ u ∈ [a, b], p u := fun u hu => by
  simp only [List.mem_cons, List.not_mem_nil, or_false] at hu
  rcases hu with rfl | rfl
  · exact h1
  · exact h2
theorem one_in {p : Addr → Prop} {a : Addr} (h1 : p a) : ∀ u ∈ [a], p u := fun u hu => by
  obtain rfl := List.mem_singleton.mp hu
  exact h1
def heldD (b : Int) : PyData := .list [.tuple [.int (b + 3), .list [.int 1, .int 2], .str "x"]]
theorem shaped_held (b : Int) : SeqAt.shaped (heldD b) = true := by
  unfold heldD
  simp [SeqAt.shaped, PyData.canLay0, PyData.canLayAll0, PyData.depth, PyData.depthAll]
  decide +kernel
theorem dp_held {K : PySem.W.Frag} {H : Hp} {r t cl : Addr} {b : Int} (h1 : H r = some (.lst [.ref t])) (h2 : H t = some (.tup [.int (b + 3), .ref cl, .str "x"])) (h3 : H cl = some (.lst [.int 1, .int 2])) : Dp K H (.ref r) (heldD b) :=
  .lst (SqL.of h1) (.cons (.tup (SqT.of h2) (.cons (.int _) (.cons (.lst (SqL.of h3) (.cons (.int _) (.cons (.int _) .nil))) (.cons (.str _) .nil)))) .nil)
def TN (T : List (Addr × Str)) : List NdefX.NTab := T.map fun p => (p.1, fun _ _ => p.2)
theorem toN {T : List (Addr × Str)} {H : Hp} (h : Tabs T H) : NdefX.TabsN (TN T) H := fun p hp => by
  obtain ⟨q, hq, rfl⟩ := List.mem_map.mp hp
  exact h q hq
theorem ofN {T : List (Addr × Str)} {H : Hp} (h : NdefX.TabsN (TN T) H) : Tabs T H := fun q hq => h _ (List.mem_map.mpr ⟨q, hq, rfl⟩)
def spLaw (T : List (Addr × Str)) (K : PySem.W.Frag) : Sp := fun vs H Q _ => ∃ (sc : Addr) (ns : List Int), vs = [.ref sc] ∧ SqL K H sc (ns.map V.int) ∧ ns.length ≤ 63 ∧ Tabs T H ∧ ∀ H', Q (.bl true) H'
def kvS : List V → List V → List V
  | [a], [v, t] => [a, t, v]
  | _, _ => []
def kvL : List V → List V → List V
  | [a], [i, c] => [a, c, i]
  | _, _ => []
def kv1 : List V → List V → List V
  | [a], [x] => [a, x]
  | _, _ => []
theorem mk_plainR {C : Addr} {H : Hp} {l : Addr} {ts : List Addr} {xs : List Sd} {R : VK} {E : XK} {x dx : Addr} (hl : H l = some (.lst (ts.map V.ref))) (hx : SdsAt H ts xs) (ok : SdsOk xs) (nx : H x = none) (nd : H dx = none) (ne : dx ≠ x)
    (k : ∀ H', Same H H' → PlAt C H' x (xs.map norm) → R .non H') : spInit C [.ref x, .ref l] (upd (upd H dx (.own x)) x (.ins C dx [])) R E := by
  have S : Same H (upd (upd H dx (.own x)) x (.ins C dx [])) := fun c o e => by
    rw [upd_ne (ne_of_none e nx), upd_ne (ne_of_none e nd)]
    exact e
  exact ⟨x, dx, l, ts, xs, rfl, upd_same, S _ _ hl, hx.same S, ok, fun H' l' ts' S' h1 h2 h3 => k H' (fun c o e => S' c o (ne_of_none e nx) (S _ _ e)) ⟨dx, l', ts', h1, h2, h3⟩⟩
section
variable {P : Program} {w : World} {K : PySem.W.Frag} {mg : Str → Option Value} {base : Heap} {C CT CR CW : Addr} {T : List (Addr × Str)}
theorem ok_act {pr g : Addr} {fdR : FuncData} (Z : Ks K CT CR CW) (PR : PropOf K CW "room" pr g) (FR : FnOk P w K mg base C8.CX0 1 g fdR ["self"] (spRoom CT CW)) (bR : Binds K fdR ["self"] []) (f c' : Addr) : NdefX.NOk P w K mg base C8.CX0 3 f (mkA c') ["_law_same"] [] (fun _ => spRoom CT CW) := by
  refine NdefX.nok_of (k := 2) (N := ["_law_same"]) nsAct (fun doc pm ctv us hl => match us, hl with | [_], _ => rfl) (fun ws vs H Q E h => ?_) (fun A outer s H vs ws Q E hr hf hc hl h => ?_)
  · obtain ⟨sh, tb, st, b, rfl, _⟩ := h
    rfl
  · obtain ⟨sh, tb, st, b, rfl, ⟨ds, hs⟩, hb, q⟩ := h
    match ws, hl with
    | [], _ => exact ⟨_, pss_one (ps_ret (pe_prop (ds := []) (dvs := []) (E := C8.E0) (pv 0) Z.w PR FR hr bR .nil C8.pass0 rfl)), ⟨_, rfl, sh, ds, _, rfl, hs, sh, tb, st, b, rfl, ⟨ds, hs⟩, hb, q⟩⟩
theorem scLaw : FnScope ["_law_script", "_law_at", "_law_number_here", "_law_high", "_law_wide", "_law_board", "_law_shelf", "_law_action"] ["_law_script"] (defScope sLaw) := ⟨rfl, rfl, rfl, by decide +kernel, rfl, by decide +kernel, by decide +kernel⟩
theorem ok_law {f cc Pt pr g : Addr} {fd fdR : FuncData} (F : Fun K "law" "law" sLaw f fd) (hc : fd.code = .ref cc) (B4 : E3.Bt4 mg) (Z : Ks K CT CR CW) (TB : TabB base mg cc Pt) (hm : (Pt, fun _ _ => ("law.<locals>._law_action" : Str)) ∈ TN T) (hu : ∀ p ∈ TN T, p.1 = Pt → p.2 = fun _ _ => ("law.<locals>._law_action" : Str))
    (M1 : Mak P w K mg base 5 "Plain" C (spInit C) []) (MS : MakK P w K mg base 5 "Store" CW (spSoInit T C CT CW) ["values", "table"] kvS) (LayK : MetK P w K mg base 5 CW "lay" (spLay C CT CW) ["item", "cell"] kvL) (LookK : MetK P w K mg base 5 CW "look" (spLook C CT CW) ["cell"] kv1) (GrowK : MetK P w K mg base 3 CW "grow" (spGrow C CT CW) ["size"] kv1)
    (He : Met P w K mg base 3 CW "held" (spHeld T C CT CW) []) (LimK : MetK P w K mg base 3 CW "limit" (spLimit CT CW) ["room"] kv1) (TakeK : MetK P w K mg base 5 CW "take" (spTake C CT CW) ["cell"] kv1) (AttK : MetK P w K mg base 5 CW "attempt" (spAttempt mkA CT CW) ["action"] kv1)
    (PR : PropOf K CW "room" pr g) (FR : FnOk P w K mg base C8.CX0 1 g fdR ["self"] (spRoom CT CW)) (bR : Binds K fdR ["self"] []) (LW : LenC P w K mg base 1 CW (spSoLen CT CW)) : FnOk P w K mg base CX0 7 f fd ["_law_script"] (spLaw T K) := by
  refine F.okC hc scLaw (fun vs H Q E h => ?_) (fun A outer s H vs Q E hr h => ?_)
  · obtain ⟨sc, ns, rfl, _⟩ := h
    rfl
  · obtain ⟨sc, ns, rfl, hs, hl, tb, q⟩ := h
    refine ⟨_, ((pss_cons (ps_for PassesOwn.never rfl (pi_range1 rfl B4.rng_ (pa_cons (pe_callB (call_max2 rfl) (by rfl) B4.max_ (by decide +kernel) (pa_cons pe_int (pa_cons (pe_callB call_len_seq (by rfl) B4.len_ PySem.boot_len (pa_cons (pe_slice sl_listS (pv 0) po_none (po_some pe_int)) pa_nil)) pa_nil))) pa_nil)) (pg_name (i := 1) scLaw.nd rfl (Or.inl rfl))
        (pss_cons (ps_set (i := 2) scLaw.nd rfl (Or.inl rfl) (pe_op op_mod (pe_callB (cr_sum rfl) (by rfl) B4.sum_ (by decide +kernel) (pa_cons (pe_slice sl_listS (pv 0) (po_some (pv 1)) (po_some (pe_op op_add (pv 1) pe_int))) pa_nil)) (pe_op op_pow pe_int pe_int)))
      (pss_cons (ps_par (i := 3) (j := 4) (by rfl) scLaw.nd rfl rfl (by decide) rfl rfl (pa_cons (pe_op op_add pe_int (pe_op op_mod (pv 2) (pe_op op_pow pe_int pe_int))) (pa_cons (pe_op op_add pe_int (pe_op op_fdiv (pv 2) (pe_op op_pow pe_int pe_int))) pa_nil)) (by rfl))
      (pss_cons (ps_set (i := 5) scLaw.nd rfl (Or.inl rfl) (pe_mk1 M1 hr (by decide) rfl (pa_cons (pe_lstS (pa_cons (pe_tupS (pa_cons pe_str (pa_cons (pe_lstS (pa_cons pe_str pa_nil)) (pa_cons (pe_lstS (pa_cons pe_str pa_nil)) pa_nil)))) (pa_cons (pe_tupS (pa_cons pe_str (pa_cons (pe_lstS (pa_cons pe_str pa_nil)) (pa_cons (pe_lstS pa_nil) pa_nil)))) pa_nil))) pa_nil)))
      (pss_cons (ps_set (i := 6) scLaw.nd rfl (Or.inl rfl) (pe_mkK MS hr (by decide) rfl (pk_cons (pe_disp (pps_cons pe_str (pv 3) (pps_cons pe_str (pv 4) pps_nil)) rfl rfl (by simp) (by decide)) (pk_cons (pv 5) pk_nil))))
      (pss_cons (ps_if (PW.pt (pw_or (pt_cmpR op_ne (pe_mtK LayK hr (by decide) (pv 6) (pk_cons pe_str (pk_cons (pe_lstS (pa_cons pe_int (pa_cons pe_int pa_nil))) pk_nil))) (pe_op op_add (pv 4) pe_int) (by rfl)) (pw_or1 (pt_cmpR op_ne (pe_mtK LookK hr (by decide) (pv 6) (pk_cons (pe_lstS (pa_cons pe_int (pa_cons pe_int pa_nil))) pk_nil)) pe_str (by rfl))))) (pss_one (ps_ret pe_bl)) pss_nil)
      (pss_cons (ps_if (PW.pt (pw_or (pt_cmpR op_ne (pe_mtK GrowK hr (by decide) (pv 6) (pk_cons pe_str pk_nil)) pe_int (by rfl)) (pw_or1 (pt_cmpR (op_neD hr.units) (pe_mt0 He hr (by decide) (pv 6)) (pe_lstS (pa_cons (pe_tupS (pa_cons (pe_op op_add (pv 4) pe_int) (pa_cons (pe_lstS (pa_cons pe_int (pa_cons pe_int pa_nil))) (pa_cons pe_str pa_nil)))) pa_nil)) (by rfl))))) (pss_one (ps_ret pe_bl)) pss_nil)
      (pss_cons (ps_if (PW.pt (pw_or (pt_cmp (pc_notN (pe_mtK LimK hr (by decide) (pv 6) (pk_cons (pe_op op_add (pv 4) pe_int) pk_nil)))) (pw_or (pt_cmpR op_ne (pe_prop (ds := []) (dvs := []) (E := C8.E0) (pv 6) Z.w PR FR (hr.mono (by decide)) bR .nil C8.pass0 rfl) (pe_op op_add (pv 4) pe_int) (by rfl)) (pw_or1 (pt_cmpR op_ne (pe_mtK TakeK hr (by decide) (pv 6) (pk_cons (pe_lstS (pa_cons pe_int (pa_cons pe_int pa_nil))) pk_nil)) pe_str (by rfl)))))) (pss_one (ps_ret pe_bl)) pss_nil)
      (pss_cons (NdefX.ps_ndefS (st := sAct) (T := TN T) (nm := fun _ _ => "law.<locals>._law_action") (c := cc) (P := Pt) (name := "_law_action") (i := 7) (by rfl) TB rfl hm rfl hu (NdefX.ndef_free (fr := []) ndAct) rfl rfl rfl scLaw.nd rfl (Or.inl rfl) (Or.inr rfl))
      (pss_one (ps_if (PW.pt (pw_or (pt_cmpR op_ne (pe_mtK AttK hr (by decide) (pv 6) (pk_cons (pv 7) pk_nil)) (pe_op op_add (pv 4) pe_int) (by rfl)) (pw_or1 (pt_cmpR op_ne (pe_callB (call_lenO LW hr (by decide)) (by rfl) B4.len_ PySem.boot_len (pa_cons (pv 6) pa_nil)) pe_int (by rfl))))) (pss_one (ps_ret pe_bl)) pss_nil)))))))))))
      (pss_one (ps_ret pe_bl)))), ?_⟩
    have lcut : (cutV (ns.map V.int) none (some 10)).length ≤ 63 := by
      unfold cutV
      refine Nat.le_trans (List.length_take_le' _ _) ?_
      rw [List.length_drop, List.length_map]
      omega
    refine ⟨_, rfl, 10, rfl, sc, _, rfl, hs, fun pc H1 S1 n1 h1 => ?_⟩
    refine ⟨pc, _, rfl, .inl (SqL.of h1), 1, _, rfl, _, rfl, ?_⟩
    generalize hm0 : (if (((cutV (ns.map V.int) none (some 10)).length : Nat) : Int) > 1 then (((cutV (ns.map V.int) none (some 10)).length : Nat) : Int) else 1) = m
    have m0 : 0 ≤ m ∧ m ≤ 63 := by
      rw [← hm0]
      split <;> omega
    refine ⟨by omega, by omega, for_it (walk_range (n := m.toNat)) (fun i σ' H' => (∃ u1 u2 u3 u4 u5 u6 u7, σ' = [some (.ref sc), u1, u2, u3, u4, u5, u6, u7]) ∧ ExtN H H' ∧ Tabs T H') ⟨⟨none, none, none, none, none, none, none, rfl⟩, ExtN.of S1, tb.ext S1⟩ (fun _ _ _ _ _ => trivial) ?_ ?_⟩
    · rintro i x σ' H9 H2 hi ⟨⟨u1, u2, u3, u4, u5, u6, u7, rfl⟩, X2, tb2⟩ ⟨rfl, hx⟩
      subst hx
      obtain ⟨ms, hms⟩ := cut_ints ns (some (0 + ((i : Nat) : Int))) (some (0 + ((i : Nat) : Int) + 1))
      refine seq_asg ⟨_, rfl, _, rfl, _, rfl, _, rfl, _, 1, rfl, rfl, _, rfl, sc, _, rfl, hs.extN X2, fun pc2 H3 S3 n3 h3 => ?_⟩
      rw [hms] at h3
      refine ⟨pc2, ms, rfl, SqL.of h3, 10, 20, rfl, rfl, ⟨by decide, by decide, by decide⟩, _, _, rfl, rfl, (show (0 : Int) < (10 : Int) ^ (20 : Int).toNat by decide +kernel), ?_⟩
      have z0 : 0 ≤ ms.sum % (10 : Int) ^ (20 : Int).toNat := Int.emod_nonneg _ (by decide +kernel)
      have z1 : ms.sum % (10 : Int) ^ (20 : Int).toNat < 10 ^ 20 := Int.emod_lt_of_pos _ (by decide +kernel)
      obtain ⟨z, hz⟩ : ∃ z, ms.sum % (10 : Int) ^ (20 : Int).toNat = z := ⟨_, rfl⟩
      rw [hz] at z0 z1
      have X3 := X2.trans (ExtN.of S3)
      have tb3 := tb2.ext S3
      clear S3 n3 h3 hms
      refine ts_mid (fun σ' H' => ∃ a b : Int, σ' = [some (.ref sc), some (V.int (0 + (i : Nat))), some (.int z), some (.int a), some (.int b), u5, u6, u7] ∧ 2 ≤ a ∧ 3 ≤ b ∧ a.natAbs < 2 ^ 300 ∧ b.natAbs < 2 ^ 300 ∧ H3 = H') (fun N hN => ?_) ?_
      · refine ⟨_, rfl, 10, 9, rfl, rfl, ⟨by decide, by decide, by decide⟩, _, _, rfl, rfl, (show (0 : Int) < (10 : Int) ^ (9 : Int).toNat by decide +kernel), _, _, rfl, rfl, _, rfl, 10, 9, rfl, rfl, ⟨by decide, by decide, by decide⟩, _, _, rfl, rfl, ⟨by decide +kernel, by decide +kernel⟩, _, _, rfl, rfl, _, _, rfl, ?_⟩
        have e9 : (10 : Int) ^ (9 : Int).toNat = 1000000000 := by decide +kernel
        refine hN _ _ ⟨2 + z % 10 ^ (9 : Int).toNat, 3 + z / 10 ^ (9 : Int).toNat, by rw [← hz]; rfl, ?_, ?_, ?_, ?_, rfl⟩
        · rw [e9]; omega
        · rw [e9]; omega
        · rw [e9]
          refine Nat.lt_of_lt_of_le (m := 2 ^ 64) ?_ (Nat.pow_le_pow_right (by decide) (by decide))
          omega
        · rw [e9]
          refine Nat.lt_of_lt_of_le (m := 2 ^ 70) ?_ (Nat.pow_le_pow_right (by decide) (by decide))
          omega
      rintro σ' H4 ⟨a, b, rfl, a2, b3, ba, bb, rfl⟩
      refine seq_asg ⟨by show 1 ≤ sizeLine; decide, fun p0 H4 S4 n4 g1 => ⟨by show 1 ≤ sizeLine; decide, fun p1 H5 S5 n5 g2 => ⟨by show 3 ≤ sizeLine; decide, fun t0 H6 S6 n6 g3 => ?_⟩⟩⟩
      refine ⟨by show 1 ≤ sizeLine; decide, fun p2 H7 S7 n7 g4 => ⟨by show 0 ≤ sizeLine; decide, fun p3 H8 S8 n8 g5 => ⟨by show 3 ≤ sizeLine; decide, fun t1 Ha Sa na g6 => ⟨by show 2 ≤ sizeLine; decide, fun lb Hb Sb nb g7 => ?_⟩⟩⟩⟩
      have T6 := S7.trans (S8.trans (Sa.trans Sb))
      have hxb : SdsAt Hb [t0, t1] bd := .cons ⟨p0, p1, T6 _ _ g3, T6 _ _ (S6 _ _ (S5 _ _ g1)), T6 _ _ (S6 _ _ g2)⟩ (.cons ⟨p2, p3, Sb _ _ g6, Sb _ _ (Sa _ _ (S8 _ _ g4)), Sb _ _ (Sa _ _ g5)⟩ .nil)
      have T3b := S4.trans (S5.trans (S6.trans T6))
      refine fun y dx ny nd ne => ?_
      refine mk_plainR (ts := [t0, t1]) g7 hxb bd_ok ny nd ne fun Hc Sc hy => ⟨rfl, ?_⟩
      rw [norm_bd] at hy
      have X4 := X3.trans (ExtN.of (T3b.trans Sc))
      have tb4 := tb3.ext (T3b.trans Sc)
      clear S4 S5 S6 S7 S8 Sa Sb n4 n5 n6 n7 n8 na nb g1 g2 g3 g4 g5 g6 g7 T6 hxb T3b Sc ny nd ne
      refine seq_asg ?_
      refine fun dv ndv => ⟨_, rfl, _, rfl, upd_same, [(Sum.inr "m", .int a), (Sum.inr "n", .int b)], rfl, by show 2 ≤ 15; decide, _, rfl, rfl, ?_⟩
      have hdv : (upd (upd Hc dv (.dK [])) dv (.dK (mergeK [] [(Sum.inr "m", .int a), (Sum.inr "n", .int b)]))) dv = some (.dK (dI (vls a b))) := upd_same
      have Sd : Same Hc (upd (upd Hc dv (.dK [])) dv (.dK (mergeK [] [(Sum.inr "m", .int a), (Sum.inr "n", .int b)]))) := fun q o e => by rw [upd_ne (ne_of_none e ndv), upd_ne (ne_of_none e ndv)]; exact e
      generalize upd (upd Hc dv (.dK [])) dv (.dK (mergeK [] [(Sum.inr "m", .int a), (Sum.inr "n", .int b)])) = Hd at hdv Sd
      refine fun x dx2 nx ndx ne => ?_
      have Se : Same Hd (upd (upd Hd dx2 (.own x)) x (.ins CW dx2 [])) := fun q o e => by rw [upd_ne (ne_of_none e nx), upd_ne (ne_of_none e ndx)]; exact e
      have Te := Sd.trans Se
      refine ⟨x, dx2, y, dv, a, b, rfl, upd_same, hy.same Te, Se _ _ hdv, ba, bb, a2, b3, tb4.ext Te, fun H1 st d c l FX tb1 w1 w2 w3 w4 so sa => ⟨rfl, ?_⟩⟩
      have nxc := Sd.free nx
      have XB : ExtN Hc H1 := fun q o e nt => FX q o (ne_of_none e nxc) (Te _ _ e) nt
      have nw : ∀ {u : Addr}, NewT (upd (upd Hd dx2 (.own x)) x (.ins CW dx2 [])) u → NewT Hc u := fun h o e => h o (Te _ _ e)
      have w1 := nw w1
      have w2 := nw w2
      have w3 := nw w3
      have w4 := nw w4
      clear nw FX Te Se hdv Sd nx ndx ne
      -- lay
      obtain ⟨dxs, hso⟩ := id so
      refine ⟨_, rfl, x, dxs, _, rfl, hso, rfl, by show 2 ≤ sizeLine; decide, fun cl H2 S2 n2 hcl => ?_⟩
      have ncl : cl ≠ l := fun z => by
        obtain ⟨_, _, _, ch, e, _⟩ := sa
        rw [z, e] at n2
        cases n2
      refine ⟨x, y, st, d, c, l, cl, a, b, .str "x", rfl, so.same S2, sa.same S2, (hy.extX XB).same S2, hcl, ncl, b400 ba, b400 bb, a2, b3, fun H3 OF3 so3 sa3 => ?_⟩
      have XB3 := OF3.ext (XB.trans (ExtN.of S2)) (two_in w4 w3)
      have tb3 : Tabs T H3 := by
        obtain ⟨_, _, e3, ch, e4, _⟩ := sa.same S2
        exact OF3.tabs (tb1.ext S2) (two_in (clr_lst e4) (clr_dT e3))
      clear OF3 S2 n2 hcl ncl hso so sa tb1 XB
      refine ⟨_, rfl, _, _, rfl, rfl, rfl, _, rfl, ifF (by rw [decide_eq_true rfl]; rfl) ?_⟩
      -- look
      obtain ⟨dxs, hso⟩ := id so3
      refine ⟨_, rfl, x, dxs, _, rfl, hso, rfl, by show 2 ≤ sizeLine; decide, fun cl H4 S4 n4 hcl => ?_⟩
      refine ⟨x, y, st, d, c, l, cl, a, b, .str "x", 1, .non, rfl, so3.same S4, sa3.same S4, (hy.extX XB3).same S4, hcl, b400 ba, b400 bb, a2, b3, fun H5 S5 => ?_⟩
      refine ⟨rfl, _, rfl, ifF (by rw [decide_eq_true rfl]; rfl) ?_⟩
      dsimp only [tNext]
      have T5 := S4.trans S5
      have XB5 := XB3.trans (ExtN.of T5)
      have tb5 := tb3.ext T5
      have so5 := so3.same T5
      have sa5 := sa3.same T5
      clear T5 S4 S5 n4 hcl hso so3 sa3 tb3 XB3
      -- grow
      obtain ⟨dxs, hso⟩ := id so5
      refine ⟨_, rfl, x, dxs, _, rfl, hso, rfl, x, y, st, d, c, l, a, b, .str "x", 1, rfl, so5, sa5, by decide, hy.extX XB5, ba, bb, a2, b3, fun H6 d' OF6 nd6 so6 sa6 => ?_⟩
      have XB6 := OF6.ext XB5 (two_in w4 w1)
      have tb6 : Tabs T H6 := by
        obtain ⟨⟨dz, e1⟩, _, _, ch, e4, _⟩ := sa5
        exact OF6.tabs tb5 (two_in (clr_lst e4) (clr_ins e1))
      refine ⟨rfl, _, rfl, ifF (by rw [decide_eq_true rfl]; rfl) ?_⟩
      clear OF6 nd6 so5 sa5 tb5 XB5 hso
      -- held
      obtain ⟨dxs, hso⟩ := id so6
      refine ⟨_, rfl, x, dxs, _, rfl, hso, rfl, x, y, st, d', c, l, a, b + 1, .str "x", 2, .non, rfl, so6, sa6, hy.extX XB6, b400 ba, b400' bb, tb6, fun H7 r t cl3 X7 tb7 hr7 ht hcl3 => ?_⟩
      have eb : b + 1 + 2 = b + 3 := by omega
      rw [eb] at ht
      refine ⟨_, rfl, _, _, rfl, rfl, by show 2 ≤ sizeLine; decide, fun q1 H8 S8 n8 g8 => ⟨by show 3 ≤ sizeLine; decide, fun q2 H9 S9 n9 g9 => ⟨by show 1 ≤ sizeLine; decide, fun q3 Ha Sa na ga => ?_⟩⟩⟩
      have T9 := S8.trans (S9.trans Sa)
      refine ⟨heldD b, heldD b, dp_held (T9 _ _ hr7) (T9 _ _ ht) (T9 _ _ hcl3), dp_held ga (Sa _ _ g9) (Sa _ _ (S9 _ _ g8)), shaped_held b, shaped_held b, ?_⟩
      rw [SeqAt.eqv_refl _ (SeqAt.canLay_of_shaped (shaped_held b))]
      refine ⟨_, rfl, ifF rfl ?_⟩
      dsimp only [tNext]
      have Xa := X7.trans (ExtN.of T9)
      have XBa := XB6.trans Xa
      have tba := tb7.ext T9
      have soa := so6.extX Xa
      have saa := sa6.extX Xa
      clear Xa T9 S8 S9 Sa n8 n9 na g8 g9 ga hr7 ht hcl3 X7 tb7 so6 sa6 tb6 XB6 hso
      -- limit
      obtain ⟨dxs, hso⟩ := id soa
      refine ⟨_, rfl, x, dxs, _, rfl, hso, rfl, _, rfl, _, _, rfl, rfl, x, y, st, d', c, l, a, b + 1, _, 2, .non, b + 4, rfl, soa, saa, by omega, fun Hb SBb hstb => ⟨_, rfl, ifF rfl ?_⟩⟩
      have OFb : Off [st] Ha Hb := fun q o nq e => SBb _ _ (fun z => nq (by rw [z]; simp)) e
      have XBb := OFb.ext XBa (one_in w1)
      have tbb : Tabs T Hb := by
        obtain ⟨⟨dz, e1⟩, _⟩ := saa
        exact OFb.tabs tba (one_in (clr_ins e1))
      have sob : SoO CW Hb x y st := by
        obtain ⟨⟨dz, e1⟩, _⟩ := saa
        exact ⟨dxs, SBb _ _ (ne_of hso e1 (by intro z; cases z)) hso⟩
      have sab : StA CT Hb st d' c l a (b + 1) [(kx, .str "x")] 2 (.int (b + 4)) := by
        obtain ⟨⟨dz, e1⟩, e2, e3, ch, e4, e5⟩ := saa
        exact ⟨hstb, SBb _ _ (ne_of e2 e1 (by intro z; cases z)) e2, SBb _ _ (ne_of e3 e1 (by intro z; cases z)) e3, ch, SBb _ _ (ne_of e4 e1 (by intro z; cases z)) e4, e5⟩
      clear OFb SBb hstb soa saa tba XBa hso
      -- room
      obtain ⟨dxs, hso⟩ := id sob
      refine ⟨_, rfl, x, dxs, _, rfl, hso, x, y, st, .int (b + 4), rfl, sob, sab.b, _, rfl, _, _, rfl, rfl, rfl, _, rfl, ifF (by rw [decide_eq_true rfl]; rfl) ?_⟩
      -- take
      refine ⟨_, rfl, x, dxs, _, rfl, hso, rfl, by show 2 ≤ sizeLine; decide, fun cl H2 S2 n2 hcl => ?_⟩
      have ncl : cl ≠ l := fun z => by
        obtain ⟨_, _, _, ch, e, _⟩ := sab
        rw [z, e] at n2
        cases n2
      refine ⟨x, y, st, d', c, l, cl, a, b + 1, .str "x", 2, .int (b + 4), rfl, sob.same S2, sab.same S2, by decide, (hy.extX XBb).same S2, hcl, ncl, b400 ba, b400' bb, a2, by omega, fun H3 OF3 so3 sa3 => ?_⟩
      have XB3 := OF3.ext (XBb.trans (ExtN.of S2)) (two_in w4 w3)
      have tb3 : Tabs T H3 := by
        obtain ⟨_, _, e3, ch, e4, _⟩ := sab.same S2
        exact OF3.tabs (tbb.ext S2) (two_in (clr_lst e4) (clr_dT e3))
      refine ⟨rfl, _, rfl, ifF (by rw [decide_eq_true rfl]; rfl) ?_⟩
      dsimp only [tNext]
      clear OF3 S2 n2 hcl ncl hso sob sab tbb XBb
      -- the action
      refine ⟨toN tb3, fun fa ca H4 X4' tn4 nf4 hf4 hc4 => ?_⟩
      have tb4' := ofN tn4
      have XB4 := XB3.trans X4'
      have so4 := so3.extX X4'
      have sa4 := sa3.extX X4'
      obtain ⟨dxs, hso⟩ := id so4
      refine ⟨_, rfl, x, dxs, _, rfl, hso, rfl, _, rfl, x, y, st, d', c, l, fa, ca, a, b + 1, 3, .int (b + 4), rfl, so4, sa4, by decide, hf4, hc4, (by intro v z; cases z), fun H5 S5 => ?_⟩
      refine ⟨_, rfl, _, _, rfl, rfl, rfl, _, rfl, ifF (by rw [decide_eq_true rfl]; rfl) ?_⟩
      refine ⟨_, rfl, x, dxs, _, rfl, S5 _ _ hso, x, y, st, d', c, l, a, b + 1, [], 3, .int (b + 4), rfl, so4.same S5, sa4.same S5, 0, rfl, by decide, by decide, rfl, _, rfl, ifF rfl ?_⟩
      exact ⟨⟨_, _, _, _, _, _, _, rfl⟩, X4.trans (XB4.trans (ExtN.of S5)), tb4'.ext S5⟩
    · rintro σ' H2 ⟨⟨u1, u2, u3, u4, u5, u6, u7, rfl⟩, X2, tb2⟩
      exact q H2
end
end E4

set_option Elab.async false
set_option linter.all false
set_option maxRecDepth 100000
set_option maxHeartbeats 1000000
/-! A head by facts: one Bool of the law's own, and the defs. -/
namespace Hb
open PySem PySem.Spec PyProof.Rows L2 He
abbrev AlB : Type := Bool × List FnV
def obsB (ex : PySem.W.Frag → Bool) (fn : List FnD) (K : PySem.W.Frag) : AlB := (ex K && fn.all fun d => (Fa.code d.at_ d.qual).ok K && PySem.W.keepIn K (.ref (fAd K d.at_)), fn.map fun d => fnObs K d.at_)
def valB (fn : List FnD) : AlB := (true, fn.map FnD.val)
def SaysB (ex : PySem.W.Frag → Bool) (fn : List FnD) (K : PySem.W.Frag) : Prop := obsB ex fn K = valB fn
section
variable {ex : PySem.W.Frag → Bool} {fn : List FnD} {K : PySem.W.Frag}
theorem SaysB.bool (c : SaysB ex fn K) : ex K = true := (ba (show (ex K && fn.all fun d => (Fa.code d.at_ d.qual).ok K && PySem.W.keepIn K (.ref (fAd K d.at_))) = true from congrArg (fun z : AlB => z.1) c)).1
end
theorem bindsA {K : PySem.W.Frag} {x qual : Str} {st : Stmt} {f : Addr} {fd : FuncData} {ps : List Str} (F : L2.Fun K x qual st f fd)
    (h : ∀ (kV doc pm : Value) (an : Option Addr) (cdv ct : Value) (us : List Value), us.length = ps.length → bindArgs (PySem.W.fnOf x qual (defArgs st) (defBody st) (defScope st) .none kV doc pm an cdv ct) ⟨us, []⟩ = pure (ps.zip us)) (s : Shared) (us : List Value) (hl : us.length = ps.length) : BindsTo s fd ⟨us, []⟩ (ps.zip us) := by
  obtain ⟨oc, od, kV, doc, pm, an, cdv, ct, osl, rfl, lk, hcd⟩ := F.ex
  exact .of_eq (h kV doc pm an cdv ct us hl)
/-! own operators, isinstance, as Bools -/
section
variable {K : PySem.W.Frag} {C : Addr}
def insB (K : PySem.W.Frag) (C : Addr) : Bool := eqO (PySem.W.findIn K (.ref C) "__class__") (some (some (.builtin "object.__class__"))) && (eqO (PySem.W.specialIn K (.builtin "object.__class__") "__get__") (some (some (.builtin "getset_descriptor.__get__"))) &&
  (decide (PySem.W.takesIn K (.builtin "object.__class__") = some true) && (decide (PySem.W.mroIn K C (.type "object") = some true) && decide (PySem.W.kitOne K (.ref C) (.ref C) = some true))))
theorem insB_ok (c : Cls K C) (h : insB K C = true) : C8.InsC K C := by
  obtain ⟨h1, h⟩ := ba h
  obtain ⟨h2, h⟩ := ba h
  obtain ⟨h3, h⟩ := ba h
  obtain ⟨h4, h5⟩ := ba h
  exact ⟨c, eqO_ok h1, eqO_ok h2, of_decide_eq_true h3, of_decide_eq_true h4, of_decide_eq_true h5⟩
theorem bool_ok {l : List Bool} (h : (l.all id) = true) (i : Nat) {b : Bool} (hi : l[i]? = some b := by rfl) : b = true := List.all_eq_true.mp h b (List.mem_of_getElem? hi)
end
end Hb

set_option Elab.async false
set_option linter.all false
set_option maxRecDepth 100000
set_option maxHeartbeats 1000000
/-! law_k87: what the head wants: keywords, the property's getter -/
namespace E4
open PySem PySem.Spec PyProof.Rows L2 He Hb
open C8 (Cal Mak Met InsC)
open LamX (Tabs ExtN TabB CodeO TabS)
def gv1 : List Value → List Value → List Value := fun us zs => match us, zs with
  | [s], [x] => [s, x]
  | _, _ => []
def gvL : List Value → List Value → List Value := fun us zs => match us, zs with
  | [s], [i, c] => [s, c, i]
  | _, _ => []
def gvS : List Value → List Value → List Value := fun us zs => match us, zs with
  | [s], [v, t] => [s, t, v]
  | _, _ => []
section
variable {K : PySem.W.Frag} {x qual p p2 : Str} {st : Stmt} {f : Addr} {fd : FuncData}
theorem kbO (F : L2.Fun K x qual st f fd) (h : ∀ (kV doc pm : Value) (an : Option Addr) (cdv ct s a : Value), bindArgs (PySem.W.fnOf x qual (defArgs st) (defBody st) (defScope st) .none kV doc pm an cdv ct) ⟨[s], [(p, a)]⟩ = pure [(("self" : Str), s), (p, a)]) : KBinds K fd ["self", p] [p] gv1 kv1 := by
  obtain ⟨oc, od, kV, doc, pm, an, cdv, ct, osl, rfl, lk, hcd⟩ := F.ex
  refine ⟨fun s us ws X hl => ?_, fun {vs us zs ws} r1 r2 => ?_⟩
  · match us, ws, hl with
    | [s], [a], _ => exact .of_eq (h kV doc pm an cdv ct s a)
  · cases r1 with
    | nil => exact .nil
    | cons b1 r1 =>
      cases r1 with
      | cons b3 r1 => exact .nil
      | nil =>
        cases r2 with
        | nil => exact .nil
        | cons a0 r2 =>
          cases r2 with
          | cons b2 r2 => exact .nil
          | nil => exact .cons b1 (.cons a0 .nil)
theorem kbT (F : L2.Fun K x qual st f fd) (h : ∀ (kV doc pm : Value) (an : Option Addr) (cdv ct s i c : Value), bindArgs (PySem.W.fnOf x qual (defArgs st) (defBody st) (defScope st) .none kV doc pm an cdv ct) ⟨[s], [(p2, i), (p, c)]⟩ = pure [(("self" : Str), s), (p, c), (p2, i)]) : KBinds K fd ["self", p, p2] [p2, p] gvL kvL := by
  obtain ⟨oc, od, kV, doc, pm, an, cdv, ct, osl, rfl, lk, hcd⟩ := F.ex
  refine ⟨fun s us ws X hl => ?_, fun {vs us zs ws} r1 r2 => ?_⟩
  · match us, ws, hl with
    | [s], [i, c], _ => exact .of_eq (h kV doc pm an cdv ct s i c)
  · cases r1 with
    | nil => exact .nil
    | cons b1 r1 =>
      cases r1 with
      | cons b3 r1 => exact .nil
      | nil =>
        cases r2 with
        | nil => exact .nil
        | cons a0 r2 =>
          cases r2 with
          | nil => exact .nil
          | cons a1 r2 =>
            cases r2 with
            | cons b2 r2 => exact .nil
            | nil => exact .cons b1 (.cons a1 (.cons a0 .nil))
theorem kbI (F : L2.Fun K x qual st f fd) (h : ∀ (kV doc pm : Value) (an : Option Addr) (cdv ct s v t : Value), bindArgs (PySem.W.fnOf x qual (defArgs st) (defBody st) (defScope st) .none kV doc pm an cdv ct) ⟨[s], [(p2, v), (p, t)]⟩ = pure [(("self" : Str), s), (p, t), (p2, v)]) : KBn K fd ["self", p, p2] 1 [p2, p] gvS kvS := by
  obtain ⟨oc, od, kV, doc, pm, an, cdv, ct, osl, rfl, lk, hcd⟩ := F.ex
  refine ⟨fun s us ws X l1 l2 => ?_, fun {vs us zs ws} r1 r2 => ?_⟩
  · match us, ws, l1, l2 with
    | [s], [v, t], _, _ => exact .of_eq (h kV doc pm an cdv ct s v t)
  · cases r1 with
    | nil => exact .nil
    | cons b1 r1 =>
      cases r1 with
      | cons b3 r1 => exact .nil
      | nil =>
        cases r2 with
        | nil => exact .nil
        | cons a0 r2 =>
          cases r2 with
          | nil => exact .nil
          | cons a1 r2 =>
            cases r2 with
            | cons b2 r2 => exact .nil
            | nil => exact .cons b1 (.cons a1 (.cons a0 .nil))
end
/-! the getter -/
def prA (K : PySem.W.Frag) : Addr := ma K (ga K "Store") "room"
def gtA (K : PySem.W.Frag) : Addr := match PySem.W.recIn K (prA K) "property" with
  | some (.ref g :: _) => g
  | _ => 0
def fnG (K : PySem.W.Frag) : FnW := match K.lookup (gtA K) with
  | some ⟨_, _, .func fd, _⟩ => some (fd.name, fd.qualname, fd.params, fd.body, fd.scope, fd.globals, fd.closure, fd.builtins)
  | _ => none
def valG : FnW := some ("room", "Store.room", defArgs sRoom, .stmts (defBody sRoom), defScope sRoom, mainGlobals, [], builtinsNs)
def gtB (K : PySem.W.Frag) : Bool := PySem.W.keepIn K (.ref (gtA K)) && (match K.lookup (gtA K) with
  | some ⟨_, _, .func fd, _⟩ => PySem.W.codeIn K fd.code "Store.room" && decide (fd.defaults = .none)
  | _ => false)
theorem getter_fun {K : PySem.W.Frag} (e : fnG K = valG) (c : gtB K = true) : ∃ fd, L2.Fun K "room" "Store.room" sRoom (gtA K) fd := by
  obtain ⟨kp, c2⟩ := ba c
  unfold fnG at e
  cases q : K.lookup (gtA K) with
  | none =>
    rw [q] at c2
    cases c2
  | some o =>
    obtain ⟨oc, od, dt, osl⟩ := o
    rw [q] at c2 e
    cases dt with
    | func fd =>
      obtain ⟨n1, n2, n3, n4, n5, n6, n7, n8, n9, n10, n11, n12, n13, n14, n15⟩ := fd
      have e2 : (some (n1, n2, n3, n4, n5, n6, n7, n15) : FnW) = some (("room" : Str), ("Store.room" : Str), defArgs sRoom, FuncBody.stmts (defBody sRoom), defScope sRoom, mainGlobals, [], builtinsNs) := e
      simp only [Option.some.injEq, Prod.mk.injEq] at e2
      obtain ⟨h1, h2, h3, h4, h5, h6, h7, h8⟩ := e2
      subst h1 h2 h3 h4 h5 h6 h7 h8
      have c3 : (PySem.W.codeIn K n13 "Store.room" && decide (n8 = .none)) = true := c2
      obtain ⟨k1, k2⟩ := ba c3
      obtain rfl := of_decide_eq_true k2
      exact ⟨_, ⟨oc, od, n9, n10, n11, n12, n13, n14, osl, rfl, q, k1⟩, kp⟩
    | _ => cases c2
def prB (K : PySem.W.Frag) : Bool := eqO (PySem.W.findIn K (.ref (ga K "Store")) "room") (some (some (.ref (prA K)))) && (eqO (PySem.W.specialIn K (.ref (prA K)) "__get__") (some (some (.builtin "property.__get__"))) && (decide (PySem.W.takesIn K (.ref (prA K)) = some true) && (match PySem.W.recIn K (prA K) "property" with
  | some (.ref _ :: _) => true
  | _ => false)))
theorem prop_of {K : PySem.W.Frag} (h : prB K = true) : PropOf K (ga K "Store") "room" (prA K) (gtA K) := by
  obtain ⟨h1, h⟩ := ba h
  obtain ⟨h2, h⟩ := ba h
  obtain ⟨h3, h4⟩ := ba h
  refine ⟨eqO_ok h1, eqO_ok h2, of_decide_eq_true h3, ?_⟩
  unfold gtA
  split at h4
  · rename_i g rest e
    rw [e]
    exact ⟨rest, rfl⟩
  · cases h4
/-! the hook: the getter too -/
abbrev AlZ : Type := AlX × FnW
def obsZ (n : Nat) (fa : List Fa) (fn : List DefD) (ts : List Tab) (tf : List Defn) (ex : PySem.W.Frag → Bool) (g : Addr → Option Obj) : AlZ := (obsX n fa fn ts tf ex g, fnG (frT g (asD g n)))
def hookZ (n : Nat) (fa : List Fa) (fn : List DefD) (ts : List Tab) (tf : List Defn) (ex : PySem.W.Frag → Bool) : PySem.W.Hook where
  α := AlZ
  obs := fun s => obsZ n fa fn ts tf ex s.heap.get?
  val := fun w => (valX fn ts w, valG)
  says := fun w h => ∃ K : PySem.W.Frag, K.In h ∧ SaysX fa fn ts tf ex w h K ∧ fnG K = valG
  of := fun _ _ e => ⟨_, frT_in, saysX_of (congrArg (fun z : AlZ => z.1) e), congrArg (fun z : AlZ => z.2) e⟩
  keeps := fun _ _ _ ⟨K, hK, c, e⟩ k => ⟨K, PySem.W.Frag.In.keeps hK k, ⟨c.t, c.more, c.hd, c.out, fun p hp => k _ _ (c.empty p hp)⟩, e⟩
theorem obsZ_eq {n : Nat} {fa : List Fa} {fn : List DefD} {ts : List Tab} {tf : List Defn} {ex : PySem.W.Frag → Bool} {g : Addr → Option Obj} {s : Shared} (h : ∀ a, g a = s.heap.get? a) : obsZ n fa fn ts tf ex g = (hookZ n fa fn ts tf ex).obs s := by
  have e : g = s.heap.get? := funext h
  rw [e] <;> rfl
/-- a function found in a class -/
def fndB (K : PySem.W.Frag) (C : Addr) (m : Str) : Bool := eqO (PySem.W.findIn K (.ref C) m) (some (some (.ref (ma K C m)))) && PySem.W.isFn K (.ref (ma K C m))
theorem fnd_of {K : PySem.W.Frag} {C : Addr} {m : Str} (h : fndB K C m = true) : PySem.W.findIn K (.ref C) m = some (some (.ref (ma K C m))) ∧ PySem.W.isFn K (.ref (ma K C m)) = true := ⟨eqO_ok (ba h).1, (ba h).2⟩
end E4

set_option Elab.async false
set_option linter.all false
set_option maxRecDepth 100000
set_option maxHeartbeats 1000000
/-! what the top left: each def with its promise -/
namespace E4
open PySem PySem.Spec PyProof.Rows L2 He Hb
open C8 (Cal Mak Met InsC)
open LamX (Tabs ExtN TabB CodeO TabS)
/-- a def of the text, by its statement -/
def dX (at_ : Str × Option Str) (name qual : Str) (st : Stmt) : DefD := { at_ := at_, name := name, qual := qual, params := defArgs st, body := defBody st, scope := defScope st, dfl := [] }
theorem plainD {K : PySem.W.Frag} {x qual : Str} {st : Stmt} {f : Addr} {fd : FuncData} (F : FunD K x qual (defArgs st) (defBody st) (defScope st) [] [] f fd) : L2.Fun K x qual st f fd := by
  obtain ⟨oc, od, dV, kV, doc, pm, an, cdv, ct, osl, rfl, lk, hcd, hD, hK⟩ := F.ex
  rcases hD with ⟨_, rfl⟩ | ⟨e, _⟩
  · exact ⟨⟨oc, od, kV, doc, pm, an, cdv, ct, osl, rfl, lk, hcd⟩, F.kp⟩
  · exact absurd rfl e
theorem funX {fa : List Fa} {fn : List DefD} {K : PySem.W.Frag} (c : SaysD fa fn K) (i : Nat) {at_ : Str × Option Str} {name qual : Str} {st : Stmt} (h : fn[i]? = some (dX at_ name qual st) := by rfl) : ∃ fd, L2.Fun K name qual st (fAd K at_) fd :=
  let ⟨fd, F⟩ := c.def_ i h
  ⟨fd, plainD F⟩
def fnR : List DefD := [dX ("is_whole", none) "is_whole" "is_whole" sIsWhole,
  dX ("is_count", none) "is_count" "is_count" sIsCount,
  dX ("is_letter", none) "is_letter" "is_letter" sIsLetter,
  dX ("is_values", none) "is_values" "is_values" sIsValues,
  dX ("check_values", none) "check_values" "check_values" sCheckValues,
  dX ("product_at", none) "product_at" "product_at" sProductAt,
  dX ("own_order", none) "own_order" "own_order" sOwnOrder,
  dX ("check_table", none) "check_table" "check_table" sCheckTable,
  dX ("check_own_places", none) "check_own_places" "check_own_places" sCheckOwn,
  dX ("is_sides", none) "is_sides" "is_sides" sIsSides,
  dX ("is_side", none) "is_side" "is_side" sIsSide,
  dX ("is_product", none) "is_product" "is_product" sIsProduct,
  dX ("names_of", none) "names_of" "names_of" sNamesOf,
  dX ("ordered", none) "ordered" "ordered" sOrdered,
  dX ("misfit", none) "misfit" "misfit" sMisfit,
  dX ("left_of", none) "left_of" "left_of" sLeftOf,
  dX ("is_cell", none) "is_cell" "is_cell" sIsCell,
  dX ("place_in", none) "place_in" "place_in" sPlaceIn,
  dX ("law", none) "law" "law" sLaw,
  dX ("Plain", some "__init__") "__init__" "Plain.__init__" sInit,
  dX ("Plain", some "__len__") "__len__" "Plain.__len__" sLen,
  dX ("Plain", some "sides") "sides" "Plain.sides" sSides,
  dX ("Plain", some "sizes") "sizes" "Plain.sizes" sSizes,
  dX ("State", some "__init__") "__init__" "State.__init__" sStInit,
  dX ("State", some "copied") "copied" "State.copied" sCopied,
  dX ("State", some "note_cell") "note_cell" "State.note_cell" sNote,
  dX ("Trial", some "__init__") "__init__" "Trial.__init__" sTrInit,
  dX ("Trial", some "__enter__") "__enter__" "Trial.__enter__" sEnter,
  dX ("Trial", some "__exit__") "__exit__" "Trial.__exit__" sExit,
  dX ("Store", some "__init__") "__init__" "Store.__init__" sSoInit,
  dX ("Store", some "__len__") "__len__" "Store.__len__" sSoLen,
  dX ("Store", some "limit") "limit" "Store.limit" sLimit,
  dX ("Store", some "lay") "lay" "Store.lay" sLay,
  dX ("Store", some "look") "look" "Store.look" sLook,
  dX ("Store", some "take") "take" "Store.take" sTake,
  dX ("Store", some "held") "held" "Store.held" sHeld,
  dX ("Store", some "grow") "grow" "Store.grow" sGrow,
  dX ("Store", some "attempt") "attempt" "Store.attempt" sAttempt,
  dX ("Store", some "_check_cell") "_check_cell" "Store._check_cell" sChkCell,
  dX ("Store", some "_check_room") "_check_room" "Store._check_room" sChkRoom]
def faR : List Fa := [.glo "is_whole", .glo "is_count", .glo "is_letter", .glo "is_values", .glo "check_values", .glo "product_at", .glo "own_order", .glo "check_table", .glo "check_own_places", .glo "is_sides", .glo "is_side", .glo "is_product", .glo "names_of", .glo "ordered", .glo "misfit", .glo "left_of", .glo "is_cell", .glo "place_in", .glo "law", .glo "Plain", .glo "State", .glo "Trial", .glo "Store", .free "isinstance", .free "int", .free "bool", .free "str", .free "len", .free "all", .free "any", .free "list", .free "tuple", .free "dict", .free "set", .free "sorted", .free "zip", .free "reversed", .free "divmod", .free "sum", .free "max", .free "range", .cls "Plain", .noat "Plain" "_sides", .mkr "Plain", .cls "State", .noat "State" "present", .mkr "State", .cls "Trial", .noat "Trial" "_store", .mkr "Trial", .cls "Store", .noat "Store" "_table", .mkr "Store", .meth "Plain" "sides", .meth "Plain" "sizes", .meth "State" "copied", .meth "State" "note_cell", .meth "Store" "limit", .meth "Store" "lay", .meth "Store" "look", .meth "Store" "take", .meth "Store" "held", .meth "Store" "grow", .meth "Store" "attempt", .meth "Store" "_check_cell", .meth "Store" "_check_room"]
def bsR (K : PySem.W.Frag) : List Bool := [insB K (ga K "Plain"), decide ((cT K (("ordered", none) : Defn)).2 ≠ (cT K (("Store", some "held") : Defn)).2), decide ((cT K (("ordered", none) : Defn)).2 ≠ (cT K (("law", none) : Defn)).2), decide ((cT K (("Store", some "held") : Defn)).2 ≠ (cT K (("law", none) : Defn)).2), eqO (PySem.W.findIn K (.ref (ga K "State")) "cells") (some none), eqO (PySem.W.findIn K (.ref (ga K "State")) "changes") (some none), eqO (PySem.W.findIn K (.ref (ga K "State")) "bound") (some none), eqO (PySem.W.findIn K (.ref (ga K "Trial")) "_kept") (some none), eqO (PySem.W.findIn K (.ref (ga K "Store")) "_state") (some none), fndB K (ga K "Plain") "__len__", fndB K (ga K "Store") "__len__", fndB K (ga K "Trial") "__enter__", fndB K (ga K "Trial") "__exit__", gtB K, prB K]
def exR (K : PySem.W.Frag) : Bool := (bsR K).all id
def tsR : List Tab := []
def pT0 : Defn := ("ordered", none)
def qT0 : Str := "ordered.<locals>.<lambda>"
def pT1 : Defn := ("Store", some "held")
def qT1 : Str := "Store.held.<locals>.<lambda>"
def pT2 : Defn := ("law", none)
def qT2 : Str := "law.<locals>._law_action"
section
variable {P : Program} {w : World} {K : PySem.W.Frag} {mg : Str → Option Value} {base : Heap}
theorem cal_of {x : Str} {f : Addr} {fd : FuncData} {ps : List Str} {k : Nat} {sp : Sp} (kp : PySem.W.keepIn K (.ref f) = true) (g : mg x = some (.ref f)) (b : Binds K fd ps []) (O : FnOk P w K mg base CX0 k f fd ps sp) : Cal P w K mg base k x sp [] := ⟨f, fd, ps, [], O, g, kp, b, .nil⟩
end
theorem code_of {K : PySem.W.Frag} {x qual : Str} {st : Stmt} {p : Defn} {fd : FuncData} (F : L2.Fun K x qual st (fAd K p) fd) : fd.code = .ref (cT K p).1 := by
  obtain ⟨oc, od, kV, doc, pm, an, cdv, ct, osl, rfl, lk, hcd⟩ := F.ex
  obtain ⟨c, rfl⟩ := codeIn_ref hcd
  show Value.ref c = Value.ref (codeOf K p)
  rw [codeOf_eq lk rfl]
theorem facts {P : Program} {w : World} {K : PySem.W.Frag} {h : Heap} {mg : Str → Option Value} {fl : Addr} (X : K.In h) (G : h.Ns mainGlobals mg) (hfa : mg "law" = some (.ref fl)) (c : SaysX faR fnR tsR [pT0, pT1, pT2] exR w h K) (cz : fnG K = valG) :
    ∃ fd : FuncData, (∀ (s : Shared) (u : Value), BindsTo s fd ⟨[u], []⟩ [("_law_script", u)]) ∧ ∀ base : Heap, K.In base → base.Ns mainGlobals mg → (∀ p ∈ ([cT K pT0, cT K pT1, cT K pT2] : List (Addr × Addr)), TabB base mg p.1 p.2) → FnOk P w K mg base CX0 7 fl fd ["_law_script"] (spLaw [((cT K pT0).2, qT0), ((cT K pT1).2, qT1), ((cT K pT2).2, qT2)] K) := by
  have cd := c.t.d
  have cc : ((bsR K).all id) = true := c.more
  obtain ⟨d_is_whole, F_is_whole⟩ := funX cd 0 (at_ := ("is_whole", none)) (name := "is_whole") (qual := "is_whole") (st := sIsWhole) rfl
  have g_is_whole : mg "is_whole" = some (.ref (ga K "is_whole")) := glo_ok X G (cd.fact 0 (f := .glo "is_whole") rfl)
  have b_is_whole := F_is_whole.binds (ps := ["value"]) fun _ _ _ _ _ _ us hl => match us, hl with | [_], _ => rfl
  obtain ⟨d_is_count, F_is_count⟩ := funX cd 1 (at_ := ("is_count", none)) (name := "is_count") (qual := "is_count") (st := sIsCount) rfl
  have g_is_count : mg "is_count" = some (.ref (ga K "is_count")) := glo_ok X G (cd.fact 1 (f := .glo "is_count") rfl)
  have b_is_count := F_is_count.binds (ps := ["value"]) fun _ _ _ _ _ _ us hl => match us, hl with | [_], _ => rfl
  obtain ⟨d_is_letter, F_is_letter⟩ := funX cd 2 (at_ := ("is_letter", none)) (name := "is_letter") (qual := "is_letter") (st := sIsLetter) rfl
  have g_is_letter : mg "is_letter" = some (.ref (ga K "is_letter")) := glo_ok X G (cd.fact 2 (f := .glo "is_letter") rfl)
  have b_is_letter := F_is_letter.binds (ps := ["name"]) fun _ _ _ _ _ _ us hl => match us, hl with | [_], _ => rfl
  obtain ⟨d_is_values, F_is_values⟩ := funX cd 3 (at_ := ("is_values", none)) (name := "is_values") (qual := "is_values") (st := sIsValues) rfl
  have g_is_values : mg "is_values" = some (.ref (ga K "is_values")) := glo_ok X G (cd.fact 3 (f := .glo "is_values") rfl)
  have b_is_values := F_is_values.binds (ps := ["values", "names"]) fun _ _ _ _ _ _ us hl => match us, hl with | [_, _], _ => rfl
  obtain ⟨d_check_values, F_check_values⟩ := funX cd 4 (at_ := ("check_values", none)) (name := "check_values") (qual := "check_values") (st := sCheckValues) rfl
  have g_check_values : mg "check_values" = some (.ref (ga K "check_values")) := glo_ok X G (cd.fact 4 (f := .glo "check_values") rfl)
  have b_check_values := F_check_values.binds (ps := ["values", "sizes"]) fun _ _ _ _ _ _ us hl => match us, hl with | [_, _], _ => rfl
  obtain ⟨d_product_at, F_product_at⟩ := funX cd 5 (at_ := ("product_at", none)) (name := "product_at") (qual := "product_at") (st := sProductAt) rfl
  have g_product_at : mg "product_at" = some (.ref (ga K "product_at")) := glo_ok X G (cd.fact 5 (f := .glo "product_at") rfl)
  have b_product_at := F_product_at.binds (ps := ["names", "values"]) fun _ _ _ _ _ _ us hl => match us, hl with | [_, _], _ => rfl
  obtain ⟨d_own_order, F_own_order⟩ := funX cd 6 (at_ := ("own_order", none)) (name := "own_order") (qual := "own_order") (st := sOwnOrder) rfl
  have g_own_order : mg "own_order" = some (.ref (ga K "own_order")) := glo_ok X G (cd.fact 6 (f := .glo "own_order") rfl)
  have b_own_order := F_own_order.binds (ps := ["table"]) fun _ _ _ _ _ _ us hl => match us, hl with | [_], _ => rfl
  obtain ⟨d_check_table, F_check_table⟩ := funX cd 7 (at_ := ("check_table", none)) (name := "check_table") (qual := "check_table") (st := sCheckTable) rfl
  have g_check_table : mg "check_table" = some (.ref (ga K "check_table")) := glo_ok X G (cd.fact 7 (f := .glo "check_table") rfl)
  have b_check_table := F_check_table.binds (ps := ["table"]) fun _ _ _ _ _ _ us hl => match us, hl with | [_], _ => rfl
  obtain ⟨d_check_own_places, F_check_own_places⟩ := funX cd 8 (at_ := ("check_own_places", none)) (name := "check_own_places") (qual := "check_own_places") (st := sCheckOwn) rfl
  have g_check_own_places : mg "check_own_places" = some (.ref (ga K "check_own_places")) := glo_ok X G (cd.fact 8 (f := .glo "check_own_places") rfl)
  have b_check_own_places := F_check_own_places.binds (ps := ["table"]) fun _ _ _ _ _ _ us hl => match us, hl with | [_], _ => rfl
  obtain ⟨d_is_sides, F_is_sides⟩ := funX cd 9 (at_ := ("is_sides", none)) (name := "is_sides") (qual := "is_sides") (st := sIsSides) rfl
  have g_is_sides : mg "is_sides" = some (.ref (ga K "is_sides")) := glo_ok X G (cd.fact 9 (f := .glo "is_sides") rfl)
  have b_is_sides := F_is_sides.binds (ps := ["sides", "many"]) fun _ _ _ _ _ _ us hl => match us, hl with | [_, _], _ => rfl
  obtain ⟨d_is_side, F_is_side⟩ := funX cd 10 (at_ := ("is_side", none)) (name := "is_side") (qual := "is_side") (st := sIsSide) rfl
  have g_is_side : mg "is_side" = some (.ref (ga K "is_side")) := glo_ok X G (cd.fact 10 (f := .glo "is_side") rfl)
  have b_is_side := F_is_side.binds (ps := ["side", "many"]) fun _ _ _ _ _ _ us hl => match us, hl with | [_, _], _ => rfl
  obtain ⟨d_is_product, F_is_product⟩ := funX cd 11 (at_ := ("is_product", none)) (name := "is_product") (qual := "is_product") (st := sIsProduct) rfl
  have g_is_product : mg "is_product" = some (.ref (ga K "is_product")) := glo_ok X G (cd.fact 11 (f := .glo "is_product") rfl)
  have b_is_product := F_is_product.binds (ps := ["product"]) fun _ _ _ _ _ _ us hl => match us, hl with | [_], _ => rfl
  obtain ⟨d_names_of, F_names_of⟩ := funX cd 12 (at_ := ("names_of", none)) (name := "names_of") (qual := "names_of") (st := sNamesOf) rfl
  have g_names_of : mg "names_of" = some (.ref (ga K "names_of")) := glo_ok X G (cd.fact 12 (f := .glo "names_of") rfl)
  have b_names_of := F_names_of.binds (ps := ["sides"]) fun _ _ _ _ _ _ us hl => match us, hl with | [_], _ => rfl
  obtain ⟨d_ordered, F_ordered⟩ := funX cd 13 (at_ := ("ordered", none)) (name := "ordered") (qual := "ordered") (st := sOrdered) rfl
  have g_ordered : mg "ordered" = some (.ref (ga K "ordered")) := glo_ok X G (cd.fact 13 (f := .glo "ordered") rfl)
  have b_ordered := F_ordered.binds (ps := ["table"]) fun _ _ _ _ _ _ us hl => match us, hl with | [_], _ => rfl
  obtain ⟨d_misfit, F_misfit⟩ := funX cd 14 (at_ := ("misfit", none)) (name := "misfit") (qual := "misfit") (st := sMisfit) rfl
  have g_misfit : mg "misfit" = some (.ref (ga K "misfit")) := glo_ok X G (cd.fact 14 (f := .glo "misfit") rfl)
  have b_misfit := F_misfit.binds (ps := ["sides"]) fun _ _ _ _ _ _ us hl => match us, hl with | [_], _ => rfl
  obtain ⟨d_left_of, F_left_of⟩ := funX cd 15 (at_ := ("left_of", none)) (name := "left_of") (qual := "left_of") (st := sLeftOf) rfl
  have g_left_of : mg "left_of" = some (.ref (ga K "left_of")) := glo_ok X G (cd.fact 15 (f := .glo "left_of") rfl)
  have b_left_of := F_left_of.binds (ps := ["product", "other"]) fun _ _ _ _ _ _ us hl => match us, hl with | [_, _], _ => rfl
  obtain ⟨d_is_cell, F_is_cell⟩ := funX cd 16 (at_ := ("is_cell", none)) (name := "is_cell") (qual := "is_cell") (st := sIsCell) rfl
  have g_is_cell : mg "is_cell" = some (.ref (ga K "is_cell")) := glo_ok X G (cd.fact 16 (f := .glo "is_cell") rfl)
  have b_is_cell := F_is_cell.binds (ps := ["cell", "table", "values"]) fun _ _ _ _ _ _ us hl => match us, hl with | [_, _, _], _ => rfl
  obtain ⟨d_place_in, F_place_in⟩ := funX cd 17 (at_ := ("place_in", none)) (name := "place_in") (qual := "place_in") (st := sPlaceIn) rfl
  have g_place_in : mg "place_in" = some (.ref (ga K "place_in")) := glo_ok X G (cd.fact 17 (f := .glo "place_in") rfl)
  have b_place_in := F_place_in.binds (ps := ["table", "values", "cell"]) fun _ _ _ _ _ _ us hl => match us, hl with | [_, _, _], _ => rfl
  obtain ⟨d_law, F_law⟩ := funX cd 18 (at_ := ("law", none)) (name := "law") (qual := "law") (st := sLaw) rfl
  have g_law : mg "law" = some (.ref (ga K "law")) := glo_ok X G (cd.fact 18 (f := .glo "law") rfl)
  have b_law := F_law.binds (ps := ["_law_script"]) fun _ _ _ _ _ _ us hl => match us, hl with | [_], _ => rfl
  obtain ⟨d_Plain___init__, F_Plain___init__⟩ := funX cd 19 (at_ := ("Plain", some "__init__")) (name := "__init__") (qual := "Plain.__init__") (st := sInit) rfl
  have b_Plain___init__ := F_Plain___init__.binds (ps := ["self", "sides"]) fun _ _ _ _ _ _ us hl => match us, hl with | [_, _], _ => rfl
  obtain ⟨d_Plain___len__, F_Plain___len__⟩ := funX cd 20 (at_ := ("Plain", some "__len__")) (name := "__len__") (qual := "Plain.__len__") (st := sLen) rfl
  have b_Plain___len__ := F_Plain___len__.binds (ps := ["self"]) fun _ _ _ _ _ _ us hl => match us, hl with | [_], _ => rfl
  obtain ⟨d_Plain_sides, F_Plain_sides⟩ := funX cd 21 (at_ := ("Plain", some "sides")) (name := "sides") (qual := "Plain.sides") (st := sSides) rfl
  have b_Plain_sides := F_Plain_sides.binds (ps := ["self"]) fun _ _ _ _ _ _ us hl => match us, hl with | [_], _ => rfl
  obtain ⟨d_Plain_sizes, F_Plain_sizes⟩ := funX cd 22 (at_ := ("Plain", some "sizes")) (name := "sizes") (qual := "Plain.sizes") (st := sSizes) rfl
  have b_Plain_sizes := F_Plain_sizes.binds (ps := ["self"]) fun _ _ _ _ _ _ us hl => match us, hl with | [_], _ => rfl
  obtain ⟨d_State___init__, F_State___init__⟩ := funX cd 23 (at_ := ("State", some "__init__")) (name := "__init__") (qual := "State.__init__") (st := sStInit) rfl
  have b_State___init__ := F_State___init__.binds (ps := ["self", "present", "cells", "changes", "bound"]) fun _ _ _ _ _ _ us hl => match us, hl with | [_, _, _, _, _], _ => rfl
  obtain ⟨d_State_copied, F_State_copied⟩ := funX cd 24 (at_ := ("State", some "copied")) (name := "copied") (qual := "State.copied") (st := sCopied) rfl
  have b_State_copied := F_State_copied.binds (ps := ["self"]) fun _ _ _ _ _ _ us hl => match us, hl with | [_], _ => rfl
  obtain ⟨d_State_note_cell, F_State_note_cell⟩ := funX cd 25 (at_ := ("State", some "note_cell")) (name := "note_cell") (qual := "State.note_cell") (st := sNote) rfl
  have b_State_note_cell := F_State_note_cell.binds (ps := ["self", "cell"]) fun _ _ _ _ _ _ us hl => match us, hl with | [_, _], _ => rfl
  obtain ⟨d_Trial___init__, F_Trial___init__⟩ := funX cd 26 (at_ := ("Trial", some "__init__")) (name := "__init__") (qual := "Trial.__init__") (st := sTrInit) rfl
  have b_Trial___init__ := F_Trial___init__.binds (ps := ["self", "store"]) fun _ _ _ _ _ _ us hl => match us, hl with | [_, _], _ => rfl
  obtain ⟨d_Trial___enter__, F_Trial___enter__⟩ := funX cd 27 (at_ := ("Trial", some "__enter__")) (name := "__enter__") (qual := "Trial.__enter__") (st := sEnter) rfl
  have b_Trial___enter__ := F_Trial___enter__.binds (ps := ["self"]) fun _ _ _ _ _ _ us hl => match us, hl with | [_], _ => rfl
  obtain ⟨d_Trial___exit__, F_Trial___exit__⟩ := funX cd 28 (at_ := ("Trial", some "__exit__")) (name := "__exit__") (qual := "Trial.__exit__") (st := sExit) rfl
  have b_Trial___exit__ := F_Trial___exit__.binds (ps := ["self", "kind", "value", "trace"]) fun _ _ _ _ _ _ us hl => match us, hl with | [_, _, _, _], _ => rfl
  obtain ⟨d_Store___init__, F_Store___init__⟩ := funX cd 29 (at_ := ("Store", some "__init__")) (name := "__init__") (qual := "Store.__init__") (st := sSoInit) rfl
  have b_Store___init__ := F_Store___init__.binds (ps := ["self", "table", "values"]) fun _ _ _ _ _ _ us hl => match us, hl with | [_, _, _], _ => rfl
  obtain ⟨d_Store___len__, F_Store___len__⟩ := funX cd 30 (at_ := ("Store", some "__len__")) (name := "__len__") (qual := "Store.__len__") (st := sSoLen) rfl
  have b_Store___len__ := F_Store___len__.binds (ps := ["self"]) fun _ _ _ _ _ _ us hl => match us, hl with | [_], _ => rfl
  obtain ⟨d_Store_limit, F_Store_limit⟩ := funX cd 31 (at_ := ("Store", some "limit")) (name := "limit") (qual := "Store.limit") (st := sLimit) rfl
  have b_Store_limit := F_Store_limit.binds (ps := ["self", "room"]) fun _ _ _ _ _ _ us hl => match us, hl with | [_, _], _ => rfl
  obtain ⟨d_Store_lay, F_Store_lay⟩ := funX cd 32 (at_ := ("Store", some "lay")) (name := "lay") (qual := "Store.lay") (st := sLay) rfl
  have b_Store_lay := F_Store_lay.binds (ps := ["self", "cell", "item"]) fun _ _ _ _ _ _ us hl => match us, hl with | [_, _, _], _ => rfl
  obtain ⟨d_Store_look, F_Store_look⟩ := funX cd 33 (at_ := ("Store", some "look")) (name := "look") (qual := "Store.look") (st := sLook) rfl
  have b_Store_look := F_Store_look.binds (ps := ["self", "cell"]) fun _ _ _ _ _ _ us hl => match us, hl with | [_, _], _ => rfl
  obtain ⟨d_Store_take, F_Store_take⟩ := funX cd 34 (at_ := ("Store", some "take")) (name := "take") (qual := "Store.take") (st := sTake) rfl
  have b_Store_take := F_Store_take.binds (ps := ["self", "cell"]) fun _ _ _ _ _ _ us hl => match us, hl with | [_, _], _ => rfl
  obtain ⟨d_Store_held, F_Store_held⟩ := funX cd 35 (at_ := ("Store", some "held")) (name := "held") (qual := "Store.held") (st := sHeld) rfl
  have b_Store_held := F_Store_held.binds (ps := ["self"]) fun _ _ _ _ _ _ us hl => match us, hl with | [_], _ => rfl
  obtain ⟨d_Store_grow, F_Store_grow⟩ := funX cd 36 (at_ := ("Store", some "grow")) (name := "grow") (qual := "Store.grow") (st := sGrow) rfl
  have b_Store_grow := F_Store_grow.binds (ps := ["self", "size"]) fun _ _ _ _ _ _ us hl => match us, hl with | [_, _], _ => rfl
  obtain ⟨d_Store_attempt, F_Store_attempt⟩ := funX cd 37 (at_ := ("Store", some "attempt")) (name := "attempt") (qual := "Store.attempt") (st := sAttempt) rfl
  have b_Store_attempt := F_Store_attempt.binds (ps := ["self", "action"]) fun _ _ _ _ _ _ us hl => match us, hl with | [_, _], _ => rfl
  obtain ⟨d_Store__check_cell, F_Store__check_cell⟩ := funX cd 38 (at_ := ("Store", some "_check_cell")) (name := "_check_cell") (qual := "Store._check_cell") (st := sChkCell) rfl
  have b_Store__check_cell := F_Store__check_cell.binds (ps := ["self", "cell"]) fun _ _ _ _ _ _ us hl => match us, hl with | [_, _], _ => rfl
  obtain ⟨d_Store__check_room, F_Store__check_room⟩ := funX cd 39 (at_ := ("Store", some "_check_room")) (name := "_check_room") (qual := "Store._check_room") (st := sChkRoom) rfl
  have b_Store__check_room := F_Store__check_room.binds (ps := ["self", "place"]) fun _ _ _ _ _ _ us hl => match us, hl with | [_, _], _ => rfl
  have g_Plain : mg "Plain" = some (.ref (ga K "Plain")) := glo_ok X G (cd.fact 19 (f := .glo "Plain") rfl)
  have g_State : mg "State" = some (.ref (ga K "State")) := glo_ok X G (cd.fact 20 (f := .glo "State") rfl)
  have g_Trial : mg "Trial" = some (.ref (ga K "Trial")) := glo_ok X G (cd.fact 21 (f := .glo "Trial") rfl)
  have g_Store : mg "Store" = some (.ref (ga K "Store")) := glo_ok X G (cd.fact 22 (f := .glo "Store") rfl)
  have z_isinstance : mg "isinstance" = none := free_ok X G (cd.fact 23 (f := .free "isinstance") rfl)
  have z_int : mg "int" = none := free_ok X G (cd.fact 24 (f := .free "int") rfl)
  have z_bool : mg "bool" = none := free_ok X G (cd.fact 25 (f := .free "bool") rfl)
  have z_str : mg "str" = none := free_ok X G (cd.fact 26 (f := .free "str") rfl)
  have z_len : mg "len" = none := free_ok X G (cd.fact 27 (f := .free "len") rfl)
  have z_all : mg "all" = none := free_ok X G (cd.fact 28 (f := .free "all") rfl)
  have z_any : mg "any" = none := free_ok X G (cd.fact 29 (f := .free "any") rfl)
  have z_list : mg "list" = none := free_ok X G (cd.fact 30 (f := .free "list") rfl)
  have z_tuple : mg "tuple" = none := free_ok X G (cd.fact 31 (f := .free "tuple") rfl)
  have z_dict : mg "dict" = none := free_ok X G (cd.fact 32 (f := .free "dict") rfl)
  have z_set : mg "set" = none := free_ok X G (cd.fact 33 (f := .free "set") rfl)
  have z_sorted : mg "sorted" = none := free_ok X G (cd.fact 34 (f := .free "sorted") rfl)
  have z_zip : mg "zip" = none := free_ok X G (cd.fact 35 (f := .free "zip") rfl)
  have z_reversed : mg "reversed" = none := free_ok X G (cd.fact 36 (f := .free "reversed") rfl)
  have z_divmod : mg "divmod" = none := free_ok X G (cd.fact 37 (f := .free "divmod") rfl)
  have z_sum : mg "sum" = none := free_ok X G (cd.fact 38 (f := .free "sum") rfl)
  have z_max : mg "max" = none := free_ok X G (cd.fact 39 (f := .free "max") rfl)
  have z_range : mg "range" = none := free_ok X G (cd.fact 40 (f := .free "range") rfl)
  have cl : Cls K (ga K "Plain") := cls_ok (cd.fact 41 (f := .cls "Plain") rfl)
  have na : NoAttr K (ga K "Plain") "_sides" := noat_ok (cd.fact 42 (f := .noat "Plain" "_sides") rfl)
  have mk : Mk K (ga K "Plain") (ma K (ga K "Plain") "__init__") := mkr_ok (cd.fact 43 (f := .mkr "Plain") rfl)
  have cl_s : Cls K (ga K "State") := cls_ok (cd.fact 44 (f := .cls "State") rfl)
  have na_s : NoAttr K (ga K "State") "present" := noat_ok (cd.fact 45 (f := .noat "State" "present") rfl)
  have mk_s : Mk K (ga K "State") (ma K (ga K "State") "__init__") := mkr_ok (cd.fact 46 (f := .mkr "State") rfl)
  have cl_t : Cls K (ga K "Trial") := cls_ok (cd.fact 47 (f := .cls "Trial") rfl)
  have na_t : NoAttr K (ga K "Trial") "_store" := noat_ok (cd.fact 48 (f := .noat "Trial" "_store") rfl)
  have mk_t : Mk K (ga K "Trial") (ma K (ga K "Trial") "__init__") := mkr_ok (cd.fact 49 (f := .mkr "Trial") rfl)
  have cl_w : Cls K (ga K "Store") := cls_ok (cd.fact 50 (f := .cls "Store") rfl)
  have na_w : NoAttr K (ga K "Store") "_table" := noat_ok (cd.fact 51 (f := .noat "Store" "_table") rfl)
  have mk_w : Mk K (ga K "Store") (ma K (ga K "Store") "__init__") := mkr_ok (cd.fact 52 (f := .mkr "Store") rfl)
  have m_sides := meth_ok (cd.fact 53 (f := .meth "Plain" "sides") rfl)
  have m_sizes := meth_ok (cd.fact 54 (f := .meth "Plain" "sizes") rfl)
  have m_s_copied := meth_ok (cd.fact 55 (f := .meth "State" "copied") rfl)
  have m_s_note_cell := meth_ok (cd.fact 56 (f := .meth "State" "note_cell") rfl)
  have m_w_limit := meth_ok (cd.fact 57 (f := .meth "Store" "limit") rfl)
  have m_w_lay := meth_ok (cd.fact 58 (f := .meth "Store" "lay") rfl)
  have m_w_look := meth_ok (cd.fact 59 (f := .meth "Store" "look") rfl)
  have m_w_take := meth_ok (cd.fact 60 (f := .meth "Store" "take") rfl)
  have m_w_held := meth_ok (cd.fact 61 (f := .meth "Store" "held") rfl)
  have m_w_grow := meth_ok (cd.fact 62 (f := .meth "Store" "grow") rfl)
  have m_w_attempt := meth_ok (cd.fact 63 (f := .meth "Store" "attempt") rfl)
  have m_w__check_cell := meth_ok (cd.fact 64 (f := .meth "Store" "_check_cell") rfl)
  have m_w__check_room := meth_ok (cd.fact 65 (f := .meth "Store" "_check_room") rfl)
  have ins := insB_ok cl (bool_ok cc 0 (b := insB K (ga K "Plain")) rfl)
  have t01 : (cT K pT0).2 ≠ (cT K pT1).2 := of_decide_eq_true (bool_ok cc 1 (b := decide ((cT K (("ordered", none) : Defn)).2 ≠ (cT K (("Store", some "held") : Defn)).2)) rfl)
  have t02 : (cT K pT0).2 ≠ (cT K pT2).2 := of_decide_eq_true (bool_ok cc 2 (b := decide ((cT K (("ordered", none) : Defn)).2 ≠ (cT K (("law", none) : Defn)).2)) rfl)
  have t12 : (cT K pT1).2 ≠ (cT K pT2).2 := of_decide_eq_true (bool_ok cc 3 (b := decide ((cT K (("Store", some "held") : Defn)).2 ≠ (cT K (("law", none) : Defn)).2)) rfl)
  have n_c : NoAttr K (ga K "State") "cells" := eqO_ok (bool_ok cc 4 (b := eqO (PySem.W.findIn K (.ref (ga K "State")) "cells") (some none)) rfl)
  have n_g : NoAttr K (ga K "State") "changes" := eqO_ok (bool_ok cc 5 (b := eqO (PySem.W.findIn K (.ref (ga K "State")) "changes") (some none)) rfl)
  have n_b : NoAttr K (ga K "State") "bound" := eqO_ok (bool_ok cc 6 (b := eqO (PySem.W.findIn K (.ref (ga K "State")) "bound") (some none)) rfl)
  have n_k : NoAttr K (ga K "Trial") "_kept" := eqO_ok (bool_ok cc 7 (b := eqO (PySem.W.findIn K (.ref (ga K "Trial")) "_kept") (some none)) rfl)
  have n_st : NoAttr K (ga K "Store") "_state" := eqO_ok (bool_ok cc 8 (b := eqO (PySem.W.findIn K (.ref (ga K "Store")) "_state") (some none)) rfl)
  have f_pl := fnd_of (bool_ok cc 9 (b := fndB K (ga K "Plain") "__len__") rfl)
  have f_sl := fnd_of (bool_ok cc 10 (b := fndB K (ga K "Store") "__len__") rfl)
  have f_en := fnd_of (bool_ok cc 11 (b := fndB K (ga K "Trial") "__enter__") rfl)
  have f_ex := fnd_of (bool_ok cc 12 (b := fndB K (ga K "Trial") "__exit__") rfl)
  have gt := bool_ok cc 13 (b := gtB K) rfl
  have pr := prop_of (bool_ok cc 14 (b := prB K) rfl)
  have e := hfa.symm.trans g_law
  cases e
  have hcode0 := code_of (p := pT0) F_ordered
  have hcode1 := code_of (p := pT1) F_Store_held
  have hcode2 := code_of (p := pT2) F_law
  refine ⟨d_law, fun s u => bindsA (ps := ["_law_script"]) F_law (fun _ _ _ _ _ _ us hl => match us, hl with | [_], _ => rfl) s [u] rfl, fun base _ _ TBs => ?_⟩
  have TB0 := TBs (cT K pT0) (by simp)
  have TB1 := TBs (cT K pT1) (by simp)
  have TB2 := TBs (cT K pT2) (by simp)
  have B : Bl mg := ⟨z_isinstance, z_int, z_bool, z_str, z_len, z_all, z_any, z_list, z_tuple, z_dict, z_set, z_sorted, z_zip, z_reversed, z_divmod⟩
  have B4 : E3.Bt4 mg := ⟨z_sum, z_max, z_range, z_len⟩
  have V : Cv K mg (ga K "Plain") := ⟨ins, g_Plain⟩
  have T : Px P w K mg base (ga K "Plain") := ⟨cl, na⟩
  have Z : Ks K (ga K "State") (ga K "Trial") (ga K "Store") := ⟨cl_s, na_s, n_c, n_g, n_b, cl_t, na_t, n_k, cl_w, na_w, n_st⟩
  obtain ⟨d_rm, F_rm⟩ := getter_fun cz gt
  have b_rm := F_rm.binds (ps := ["self"]) fun _ _ _ _ _ _ us hl => match us, hl with | [_], _ => rfl
  have hu0 : ∀ p ∈ ([((cT K pT0).2, qT0), ((cT K pT1).2, qT1), ((cT K pT2).2, qT2)] : List (Addr × Str)), p.1 = (cT K pT0).2 → p.2 = ("ordered.<locals>.<lambda>" : Str) := fun p hp e => by
    simp only [List.mem_cons, List.not_mem_nil, or_false] at hp
    rcases hp with rfl | rfl | rfl
    · rfl
    · exact absurd e.symm t01
    · exact absurd e.symm t02
  have hu1 : ∀ p ∈ ([((cT K pT0).2, qT0), ((cT K pT1).2, qT1), ((cT K pT2).2, qT2)] : List (Addr × Str)), p.1 = (cT K pT1).2 → p.2 = ("Store.held.<locals>.<lambda>" : Str) := fun p hp e => by
    simp only [List.mem_cons, List.not_mem_nil, or_false] at hp
    rcases hp with rfl | rfl | rfl
    · exact absurd e t01
    · rfl
    · exact absurd e.symm t12
  have hu2 : ∀ p ∈ TN ([((cT K pT0).2, qT0), ((cT K pT1).2, qT1), ((cT K pT2).2, qT2)] : List (Addr × Str)), p.1 = (cT K pT2).2 → p.2 = fun _ _ => ("law.<locals>._law_action" : Str) := fun p hp e => by
    obtain ⟨q, hq, rfl⟩ := List.mem_map.mp hp
    simp only [List.mem_cons, List.not_mem_nil, or_false] at hq
    rcases hq with rfl | rfl | rfl
    · exact absurd e t02
    · exact absurd e t12
    · rfl
  have Wh : Cal P w K mg base 1 "is_whole" spWhole [] := cal_of F_is_whole.kp g_is_whole b_is_whole (ok_whole F_is_whole B)
  have Cn : Cal P w K mg base 2 "is_count" spCount [] := cal_of F_is_count.kp g_is_count b_is_count (ok_count F_is_count Wh)
  have Il : Cal P w K mg base 1 "is_letter" spIsLet [] := cal_of F_is_letter.kp g_is_letter b_is_letter (ok_isLet F_is_letter B)
  have Ip : Cal P w K mg base 2 "is_product" spProdOk [] := cal_of F_is_product.kp g_is_product b_is_product (ok_prodOk F_is_product B Il)
  have Is : Cal P w K mg base 3 "is_side" spSideOk [] := cal_of F_is_side.kp g_is_side b_is_side (ok_sideOk F_is_side B Il Ip)
  have Nm : Cal P w K mg base 1 "names_of" (spNames K) [] := cal_of F_names_of.kp g_names_of b_names_of (ok_names F_names_of)
  have Ss : Cal P w K mg base 4 "is_sides" spSidesOk [] := cal_of F_is_sides.kp g_is_sides b_is_sides (ok_sidesOk F_is_sides B Is Nm)
  have Iv : Cal P w K mg base 2 "is_values" (spIsVals K) [] := cal_of F_is_values.kp g_is_values b_is_values (ok_isVals F_is_values B Il Wh)
  have Cv_ : Cal P w K mg base 3 "check_values" (spCheckV K) [] := cal_of F_check_values.kp g_check_values b_check_values (ok_checkV F_check_values B Iv)
  have Pr : Cal P w K mg base 1 "product_at" (spProd K) [] := cal_of F_product_at.kp g_product_at b_product_at (ok_prod F_product_at)
  have fIn := ok_init (P := P) (w := w) (base := base) F_Plain___init__ B T Ss
  have M1 : Mak P w K mg base 5 "Plain" (ga K "Plain") (spInit (ga K "Plain")) [] := ⟨_, d_Plain___init__, _, [], mk, fIn, g_Plain, b_Plain___init__, .nil⟩
  have Sd_ : Met P w K mg base 1 (ga K "Plain") "sides" (spSides (ga K "Plain")) [] := ⟨_, d_Plain_sides, _, [], cl, m_sides, ok_sides F_Plain_sides B T, b_Plain_sides, .nil⟩
  have Sz : Met P w K mg base 1 (ga K "Plain") "sizes" (spSizes (ga K "Plain")) [] := ⟨_, d_Plain_sizes, _, [], cl, m_sizes, ok_sizes F_Plain_sizes B T, b_Plain_sizes, .nil⟩
  have Ct : Cal P w K mg base 1 "check_table" (spCheckT (ga K "Plain")) [] := cal_of F_check_table.kp g_check_table b_check_table (ok_checkT F_check_table B V)
  have Lf : Cal P w K mg base 1 "left_of" (spLeft K) [] := cal_of F_left_of.kp g_left_of b_left_of (ok_left F_left_of B)
  have Mf : Cal P w K mg base 2 "misfit" (spMisfit K) [] := cal_of F_misfit.kp g_misfit b_misfit (ok_misfit F_misfit B Lf)
  have Or_ : Cal P w K mg base 2 "ordered" (spOrdered [((cT K pT0).2, qT0), ((cT K pT1).2, qT1), ((cT K pT2).2, qT2)] (ga K "Plain")) [] := cal_of F_ordered.kp g_ordered b_ordered (ok_ordered F_ordered hcode0 B TB0 List.mem_cons_self hu0 Sd_)
  have Ow : Cal P w K mg base 3 "own_order" (spOwn [((cT K pT0).2, qT0), ((cT K pT1).2, qT1), ((cT K pT2).2, qT2)] (ga K "Plain")) [] := cal_of F_own_order.kp g_own_order b_own_order (ok_own F_own_order Ct Or_ Mf Nm)
  have Co : Cal P w K mg base 4 "check_own_places" (spCheckO [((cT K pT0).2, qT0), ((cT K pT1).2, qT1), ((cT K pT2).2, qT2)] (ga K "Plain")) [] := cal_of F_check_own_places.kp g_check_own_places b_check_own_places (ok_checkO F_check_own_places Ow)
  have LP : LenC P w K mg base 1 (ga K "Plain") (spLenP (ga K "Plain")) := ⟨⟨_, d_Plain___len__, _, f_pl.1, f_pl.2, ok_lenP F_Plain___len__ B T, b_Plain___len__⟩⟩
  have Pl : Cal P w K mg base 2 "place_in" (spPlace K (ga K "Plain")) [] := cal_of F_place_in.kp g_place_in b_place_in (ok_place F_place_in B z_sum Sd_ Pr)
  have Ic : Cal P w K mg base 3 "is_cell" (spIsCell K (ga K "Plain")) [] := cal_of F_is_cell.kp g_is_cell b_is_cell (ok_isCell F_is_cell B LP Cn Sd_ Pr)
  have M1s : Mak P w K mg base 1 "State" (ga K "State") (spStInit (ga K "State")) [] := ⟨_, d_State___init__, _, [], mk_s, ok_stInit F_State___init__ Z, g_State, b_State___init__, .nil⟩
  have No : Met P w K mg base 1 (ga K "State") "note_cell" (spNote (ga K "State")) [] := ⟨_, d_State_note_cell, _, [], cl_s, m_s_note_cell, ok_note F_State_note_cell Z, b_State_note_cell, .nil⟩
  have Cp : Met P w K mg base 3 (ga K "State") "copied" (spCopied (ga K "State")) [] := ⟨_, d_State_copied, _, [], cl_s, m_s_copied, ok_copied F_State_copied B Z M1s, b_State_copied, .nil⟩
  have M3 : Mak P w K mg base 1 "Trial" (ga K "Trial") (spTrInit (ga K "Trial")) [] := ⟨_, d_Trial___init__, _, [], mk_t, ok_trInit F_Trial___init__ Z, g_Trial, b_Trial___init__, .nil⟩
  have Wi : WithC P w K mg base 4 (ga K "Trial") (spEnter (ga K "State") (ga K "Trial") (ga K "Store")) (spExit (ga K "Trial") (ga K "Store")) := ⟨⟨_, d_Trial___enter__, _, f_en.1, f_en.2, ok_enter F_Trial___enter__ Z Cp, b_Trial___enter__⟩, ⟨_, d_Trial___exit__, _, f_ex.1, f_ex.2, (ok_exit F_Trial___exit__ Z).mono (by decide), b_Trial___exit__⟩⟩
  have Cc : Met P w K mg base 4 (ga K "Store") "_check_cell" (spChkCell (ga K "Plain") (ga K "State") (ga K "Store")) [] := ⟨_, d_Store__check_cell, _, [], cl_w, m_w__check_cell, ok_chkCell F_Store__check_cell Z Ic, b_Store__check_cell, .nil⟩
  have Cr : Met P w K mg base 1 (ga K "Store") "_check_room" (spChkRoom (ga K "State") (ga K "Store")) [] := ⟨_, d_Store__check_room, _, [], cl_w, m_w__check_room, ok_chkRoom F_Store__check_room Z, b_Store__check_room, .nil⟩
  have LW : LenC P w K mg base 1 (ga K "Store") (spSoLen (ga K "State") (ga K "Store")) := ⟨⟨_, d_Store___len__, _, f_sl.1, f_sl.2, ok_soLen F_Store___len__ B Z, b_Store___len__⟩⟩
  have FR : FnOk P w K mg base C8.CX0 1 (gtA K) d_rm ["self"] (spRoom (ga K "State") (ga K "Store")) := ok_room F_rm Z
  have MS : MakK P w K mg base 5 "Store" (ga K "Store") (spSoInit [((cT K pT0).2, qT0), ((cT K pT1).2, qT1), ((cT K pT2).2, qT2)] (ga K "Plain") (ga K "State") (ga K "Store")) ["values", "table"] kvS := ⟨_, d_Store___init__, _, _, mk_w, ok_soInit F_Store___init__ B Z Ct Cv_ Co Sz M1s, g_Store, kbI F_Store___init__ fun _ _ _ _ _ _ _ _ _ => rfl⟩
  have LayK : MetK P w K mg base 5 (ga K "Store") "lay" (spLay (ga K "Plain") (ga K "State") (ga K "Store")) ["item", "cell"] kvL := ⟨_, d_Store_lay, _, _, cl_w, m_w_lay, ok_lay F_Store_lay B Z Cc Pl Cr No, kbT F_Store_lay fun _ _ _ _ _ _ _ _ _ => rfl⟩
  have LookK : MetK P w K mg base 5 (ga K "Store") "look" (spLook (ga K "Plain") (ga K "State") (ga K "Store")) ["cell"] kv1 := ⟨_, d_Store_look, _, _, cl_w, m_w_look, ok_look F_Store_look B Z Cc, kbO F_Store_look fun _ _ _ _ _ _ _ _ => rfl⟩
  have TakeK : MetK P w K mg base 5 (ga K "Store") "take" (spTake (ga K "Plain") (ga K "State") (ga K "Store")) ["cell"] kv1 := ⟨_, d_Store_take, _, _, cl_w, m_w_take, ok_take F_Store_take B Z Cc No, kbO F_Store_take fun _ _ _ _ _ _ _ _ => rfl⟩
  have GrowK : MetK P w K mg base 3 (ga K "Store") "grow" (spGrow (ga K "Plain") (ga K "State") (ga K "Store")) ["size"] kv1 := ⟨_, d_Store_grow, _, _, cl_w, m_w_grow, ok_grow F_Store_grow B z_max Z Sz Pl Cr, kbO F_Store_grow fun _ _ _ _ _ _ _ _ => rfl⟩
  have LimK : MetK P w K mg base 3 (ga K "Store") "limit" (spLimit (ga K "State") (ga K "Store")) ["room"] kv1 := ⟨_, d_Store_limit, _, _, cl_w, m_w_limit, ok_limit F_Store_limit Z Cn, kbO F_Store_limit fun _ _ _ _ _ _ _ _ => rfl⟩
  have He_ : Met P w K mg base 3 (ga K "Store") "held" (spHeld [((cT K pT0).2, qT0), ((cT K pT1).2, qT1), ((cT K pT2).2, qT2)] (ga K "Plain") (ga K "State") (ga K "Store")) [] := ⟨_, d_Store_held, _, [], cl_w, m_w_held, ok_held F_Store_held hcode1 B Z TB1 (List.mem_cons_of_mem _ List.mem_cons_self) hu1 Pl, b_Store_held, .nil⟩
  have AttK : MetK P w K mg base 5 (ga K "Store") "attempt" (spAttempt mkA (ga K "State") (ga K "Store")) ["action"] kv1 := ⟨_, d_Store_attempt, _, _, cl_w, m_w_attempt, ok_attempt F_Store_attempt Z M3 Wi (fun f c2 => ok_act Z pr FR b_rm f c2) (fun _ => rfl), kbO F_Store_attempt fun _ _ _ _ _ _ _ _ => rfl⟩
  exact ok_law F_law hcode2 B4 Z TB2 (List.mem_map.mpr ⟨_, List.mem_cons_of_mem _ (List.mem_cons_of_mem _ List.mem_cons_self), rfl⟩) hu2 M1 MS LayK LookK GrowK He_ LimK TakeK AttK pr FR b_rm LW
end E4

set_option Elab.async false
set_option linter.all false
set_option maxRecDepth 100000
set_option maxHeartbeats 0
/-! the head: the top's run, and the law -/
namespace E4
open PySem PySem.Spec PyProof.Rows L2 He
abbrev R : PySem.W.OpenRow := PySem.W.OpenLaw.row PySem.Challenge.rw_cellplaces_k87_stores_by_name
abbrev hk : PySem.W.Hook := E4.hookZ 6 faR fnR tsR [pT0, pT1, pT2] exR
def ob (s : PySem.W.SharedT) : E4.AlZ := E4.obsZ 6 faR fnR tsR [pT0, pT1, pT2] exR (HandSHeadRun.getT s)
theorem ob_eq (s : PySem.W.SharedT) : ob s = hk.obs s.abs := E4.obsZ_eq (HandSHeadRun.getT_eq s)
def loose0 : List PySem.Str := ["_wall", "CellError", "InvalidLetter", "InvalidNumber", "InvalidValues", "InvalidCell", "InvalidSides", "InvalidTable", "SharedPlaces", "NoRoom", "is_whole", "is_count"]
def loose1 : List PySem.Str := ["is_letter", "is_values", "check_values", "product_at", "Plain", "own_order", "check_table", "check_own_places", "is_sides", "is_side", "is_product", "names_of"]
def loose2 : List PySem.Str := ["ordered", "misfit", "left_of", "State", "Trial", "Store", "is_cell", "place_in"]
def looseAll : List PySem.Str := loose0 ++ loose1 ++ loose2
theorem run (w : World) : HandSHeadRun.RunEqI R (PySem.W.view R.prog [38]) hk ob 20000 looseAll w := by
  unfold HandSHeadRun.RunEqI; kernel_rfl
end E4
open PySem PySem.W PySem.Calls PyProof.Rows
set_option maxRecDepth 100000 in
set_option maxHeartbeats 0 in
theorem PySem.Challenge.cw_cellplaces_k87_stores_by_name_holds : PySem.Challenge.rw_cellplaces_k87_stores_by_name.Holds := by
  w_on; o_law
  refine HandSHeadRun.head_imp (r := OpenLaw.row PySem.Challenge.rw_cellplaces_k87_stores_by_name) (q := view (OpenLaw.row PySem.Challenge.rw_cellplaces_k87_stores_by_name).prog [38]) (H := E4.hk) (ob := E4.ob) (M := 20000) (loose := E4.looseAll) (d := HandSHeadRun.topDef (OpenLaw.row PySem.Challenge.rw_cellplaces_k87_stores_by_name).prog 38) (kwd := []) E4.ob_eq
    E4.run (by kernel_rfl) (by kernel_rfl) (by kernel_rfl) (by rfl) (by first | assumption | decide +kernel) (by decide +kernel) ⟨rfl, rfl, rfl, rfl, rfl, by decide +kernel⟩ ?hw ?hc
  case hw => w_witness2
  case hc =>
    refine LamX.walk_ofTsE (l := PySem.Challenge.rw_cellplaces_k87_stores_by_name) (n := 63) (k := 7) (x := "_law_script") (CX := fun _ => L2.CX0) rfl (by decide) (by kernel_rfl) ⟨rfl, by decide, by decide⟩ ?F (fun _ _ _ _ _ z => z)
    intro w mg fa h Y G hmg0
    obtain ⟨K, KX, c, cz⟩ := Y
    have hmg : mg ("law" : PySem.Str) = some (.ref fa) := by
      have e : (HandSHeadRun.topDef (OpenLaw.row PySem.Challenge.rw_cellplaces_k87_stores_by_name).prog 38).name = ("law" : PySem.Str) := by kernel_rfl
      rw [← e]
      exact hmg0
    obtain ⟨fd, hb, hF⟩ := E4.facts (P := (PySem.Challenge.rw_cellplaces_k87_stores_by_name).prog) (w := w) KX G hmg c cz
    have one : ∀ p ∈ [He.cT K E4.pT0, He.cT K E4.pT1, He.cT K E4.pT2], ∃ d ∈ ([E4.pT0, E4.pT1, E4.pT2] : List He.Defn), p = He.cT K d := fun p hp => by
      simp only [List.mem_cons, List.not_mem_nil, or_false] at hp ⊢
      first | exact ⟨_, rfl, hp⟩ | (rcases hp with h | h | h <;> exact ⟨_, by simp, h⟩)
    refine ⟨K, KX, fd, [He.cT K E4.pT0, He.cT K E4.pT1, He.cT K E4.pT2], E4.spLaw [((He.cT K E4.pT0).2, E4.qT0), ((He.cT K E4.pT1).2, E4.qT1), ((He.cT K E4.pT2).2, E4.qT2)] K, fun p hp => ?_, fun p hp => ?_, fun p hp => ?_, hb, fun H a ns hl _ hT hS => ⟨a, ns, rfl, hS, hl, fun p hp => ?_, fun _ => rfl⟩, hF⟩
    · obtain ⟨d, hd, rfl⟩ := one p hp; exact c.empty _ hd
    · obtain ⟨d, hd, rfl⟩ := one p hp; exact c.out _ hd
    · obtain ⟨d, hd, rfl⟩ := one p hp; exact PySem.W.codeHd_of_K KX (c.hd _ hd)
    · simp only [List.mem_cons, List.not_mem_nil, or_false] at hp
      first | (subst hp; exact ⟨#[], hT _ (by simp), trivial, fun pos cv e => by cases e⟩) | (rcases hp with h | h | h <;> subst h <;> exact ⟨#[], hT _ (by simp), trivial, fun pos cv e => by cases e⟩)
