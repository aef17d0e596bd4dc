import PyProof.Rows.All
import Wide.All
import OpenK.AllK
import Wide.FinOn
import HandS.ForExc
import HandS.ExcInit
import HandS.ExcIs
import HandS.ExcField
import HandS.Defaults
import HandS.IsInst
import HandS.ExcValue
import HandS.ForMost
import HandS.List
import HandS.Conv
import PyProof.TupleOfSeq
import PyProof.Rows.SortShellAny
import HandS.SetBool
import HandS.Walk
import KE.KOpsOwn
import HandS.Wide
import HandS.WideBits
import HandS.Codes
import HandS.Comp
import HandS.SetFor
import HandS.DictComp
import HandS.More
import HandS.Iter
import KE.KDictWalk
import KE.KDictDisplayH
import HandS.Gcd
import HandS.WordsDict
import HandS.Lambda
import KE.SortKeyHeap
import KE.KLam
import HandS.New
import HandS.Text
import HandS.Strs
import KE.DataFind
import HandS.Sort
import KE.KDictList
import PyProof.CompUse
import HandS.MakeKw
import PyProof.InstNe
import HandS.Flow
import PyProof.NeKinds
import PyProof.MeetsIn
import KE.KEqDict
import HandS.SortInts
import HandS.Dict
import HandS.Style
import HandS.Finally
import HandS.Deep
import PyProof.P3Eq
import PyProof.ReprRoads
import PyProof.FString2
import PyProof.StrLawsRepr
import PyProof.FitsInt
import HandS.Ends
import HandS.Words
import HandS.Head0
import HandS.Head1
import HandS.Head2
import HandS.HeadEnd
import HandS.HeadHook1
import HandS.EndTab
import HandS.HeadWalk
import HandS.HeadHook4
import KE.KStateDown
import HandS.Head3
import PySem.Challenge.RW_cellplaces_k66_whole_joined_walks
set_option Elab.async false
set_option linter.all false
set_option maxRecDepth 100000
set_option maxHeartbeats 4000000
/-! An own exception class called with one keyword: the maker takes it and lets it be, the own __init__ gets it. -/
namespace KwE
open PySem PySem.W PySem.Calls PyProof.Rows PySem.HandSPX
section
variable {prog : Program} {w : World} {A : Around} {E : Value → Shared → Prop} {R : Result → Shared → Prop} {hp : Heap} {gs : Array GenState} {dr : Drawn} {tk : Nat} {os : OsState}
variable {nm q : Str} {C N fI : Addr} {bs bm bmB : List Value} {hd : Bool} {sn : List Str} {sub : List Value} {ab : Bool} {col : Option Bool} {dd : Option Addr} {k0 k1 k2 k3 k5 : Option Value} {B new_ init_ : String} {us : List Value} {kn : Str} {kv : Value}
/-- what the class's line says of the base's names -/
structure Line (B : String) (C : Addr) (bm : List Value) : Prop where
  b : (Value.ref C :: bm).contains (.type B) = true
  a : (Value.ref C :: bm).contains (.type "AttributeError") = false
  n : (Value.ref C :: bm).contains (.type "NameError") = false
theorem Line.of (F : ExcBaseFacts B new_ init_ bmB) (same : ∀ X : String, bm.contains (.type X) = bmB.contains (.type X)) : Line B C bm := by
  constructor <;> rw [List.contains_cons, same]
  · rw [F.hasB, Bool.or_true]
  · rw [F.noAttr]; rfl
  · rw [F.noName]; rfl
end
end KwE

set_option Elab.async false
set_option linter.all false
set_option maxRecDepth 100000
set_option maxHeartbeats 4000000
namespace PySem.W
open PySem PySem.Spec PySem.Calls PyProof.Rows
section
variable {prog : Program} {w : World} {A : Around} {E : Value → Shared → Prop} {s : Shared} {K : Frag} {x D : Addr} {ox : Obj} {od : Option Obj}
end
end PySem.W
namespace L2
open PySem PySem.Spec PyProof.Rows
/-- an exception object of the own class at C: with its attributes, or bare -/
inductive ExT (H : Hp) (e C : Addr) : List (Str × V) → Prop where
  | own {d : Addr} {fs : List (Str × V)} (h1 : H e = some (exo e C (some d))) (h2 : H d = some (exd d fs)) : ExT H e C fs
  | bare (h : H e = some (ExO (.ref C) e)) : ExT H e C []
theorem ExT.same {H H' : Hp} {e C : Addr} {fs : List (Str × V)} (S : Same H H') : ExT H e C fs → ExT H' e C fs
  | .own h1 h2 => .own (S _ _ h1) (S _ _ h2)
  | .bare h => .bare (S _ _ h)
section
variable {X : Cx} {pins : List (Addr × Obj)} {σ : St} {H : Hp} {s : Shared} {e C : Addr} {fs : List (Str × V)}
end
/-- __init__(self, f): self.f = f -/
def spExI (K : PySem.W.Frag) (f : Str) : Sp := fun vs H Q _ => ∃ (a C : Addr) (y : V), vs = [.ref a, y] ∧ OexC K C ∧ PySem.W.findIn K (.ref C) f = some none ∧ H a = some (exo a C none) ∧
  ∀ dx, H dx = none → dx ≠ a → Q .non (upd (upd H dx (exd dx [(f, y)])) a (exo a C (some dx)))
end L2

set_option Elab.async false
set_option linter.all false
set_option maxRecDepth 100000
set_option maxHeartbeats 4000000
namespace L2
open PySem PySem.Spec PyProof.Rows
/-- an own exception class at C, called x, whose __init__ sets the one attribute f (None where it is not given) -/
structure ExM (P : Program) (w : World) (K : PySem.W.Frag) (mg : Str → Option Value) (base : Heap) (x : Str) (C : Addr) (f : Str) : Prop where
  mgC : mg x = some (.ref C)
  oex : OexC K C
  xc : ExcC K C
  noF : PySem.W.findIn K (.ref C) f = some none
  hmk : ∃ (fI : Addr) (fd : FuncData) (ps : List Str), PySem.W.findIn K (.ref C) "__init__" = some (some (.ref fI)) ∧ PySem.W.typeIn K (.ref fI) = some (.type "function") ∧ FnOk P w K mg base CX0 1 fI fd ps (spExI K f) ∧
    (∀ (self u : Value) (s' : Shared), K.In s'.heap → BindsTo s' fd ⟨[self, u], []⟩ (ps.zip [self, u])) ∧ (∀ (self u : Value) (s' : Shared), K.In s'.heap → BindsTo s' fd ⟨[self], [(f, u)]⟩ (ps.zip [self, u])) ∧
    (∀ (self : Value) (s' : Shared), K.In s'.heap → BindsTo s' fd ⟨[self], []⟩ (ps.zip [self, .none]))
/-- an own exception class at C, called x, without an __init__ of its own -/
structure ExB (K : PySem.W.Frag) (mg : Str → Option Value) (x : Str) (C : Addr) : Prop where
  mgC : mg x = some (.ref C)
  xc : ExcC K C
  kC : PySem.W.keepIn K (.ref C) = true
  is : ∃ bmB, ExcBaseFacts "ValueError" "ValueError.__new__" "ValueError.__init__" bmB ∧ PySem.W.excIn K C bmB "ValueError.__new__" = true
section
variable {X : Cx} {x f : Str} {C : Addr} {e : Expr} {te : TE} {p pos kpos : Pos}
end

end L2

set_option Elab.async false
set_option linter.all false
set_option maxRecDepth 100000
set_option maxHeartbeats 400000
namespace L2
open PySem PySem.Spec PyProof.Rows
section
variable {P : Program} {w : World} {K : PySem.W.Frag} {mg : Str → Option Value} {base : Heap} {x qual : Str} {C fI : Addr} {fd : FuncData} {p1 p2 p3 q1 q2 q3 q4 : Pos}
end
end L2

set_option Elab.async false
set_option linter.all false
set_option maxRecDepth 100000
set_option maxHeartbeats 1000000
namespace L2
open PySem PySem.Spec PyProof.Rows
/-- a def's promise where no repr is under way around it -/
structure FnG (P : Program) (w : World) (K : PySem.W.Frag) (mg : Str → Option Value) (base : Heap) (k : Nat) (f : Addr) (fd : FuncData) (ps : List Str) (sp : Sp) : Prop where
  len : ∀ vs H Q E, sp vs H Q E → vs.length = ps.length
  go : ∀ (A : Around) (outer : List Env) (s : Shared) (H : Hp) (args : Args) (us : List Value) (vs : List V) (Q : VK) (E : XK), A.guards = some [] → Room k A → Env0 P w K mg base A outer s H → BindsTo s fd args (ps.zip us) → Vals vs us →
    sp vs H Q E → codeAny (model P w) A (.call (.ref f) args) (CR CX0 outer P w H s Q E) s
section
variable {P : Program} {w : World} {K : PySem.W.Frag} {mg : Str → Option Value} {base : Heap}
theorem Fun.okG {x qual : Str} {st : Stmt} {f : Addr} {fd : FuncData} {N ps : List Str} {k : Nat} {sp : Sp} (F : Fun K x qual st f fd) (S : FnScope N ps (defScope st)) (len : ∀ vs H Q E, sp vs H Q E → vs.length = ps.length)
    (body : ∀ (cdv : Value) (A : Around) (outer : List Env) (s : Shared) (H : Hp) (vs : List V) (Q : VK) (E : XK), A.guards = some [] → Room k (A.deeper (envOfC qual (defScope st) s.heap.objs.size f cdv)) → sp vs H Q E →
      ∃ t, PSs (cxOf CX0 P w K mg base N qual (defScope st) f cdv A outer s H E).nox (defBody st) t ∧ t { nx := fun _ H' => Q .non H', rt := Q } (start N vs) H) : FnG P w K mg base (k + 1) f fd ps sp := by
  obtain ⟨oc, od, kV, doc, pm, an, cdv, ct, osl, rfl, lk, hcd⟩ := F.ex
  refine ⟨len, fun A outer s H args us vs Q E gA hr e0 hb r hsp => ?_⟩
  have kept : ∀ b o, base.get? b = some o → s.heap.get? b = some o := fun b o e => (e0.bs b o e).1
  have kinds : ∀ y ∈ ps.zip us, (defScope st).names.lookup y.1 = some .local ∨ ((defScope st).names.lookup y.1 = some .cell ∧ ((cellsFrom (s.heap.objs.size + 1) (defScope st).names []).lookup y.1).isSome = true) := by
    rintro ⟨n, v⟩ hy
    exact (S.par n (List.of_mem_zip hy).1).imp id fun q => ⟨q, PySem.W.cellsFrom_some _ _ _ (.inl q)⟩
  obtain ⟨t, ht, hq⟩ := body cdv A outer s H vs Q E gA (hr.deeper _) hsp
  refine codeAny_call_function hr.depth (e0.mod.kin.keeps kept _ _ lk) rfl S.co S.gen rfl (PySem.W.codeRec_of (e0.mod.kin.keeps kept) hcd) (hb _ _ _ _ (wpAny_newFunctionEnv_cells S.kind kinds ?_))
  intro env he s1 x
  subst he
  refine ⟨(e0.mod.nolimit.keeps kept).keeps x.toInCall.keep, codeAny_func (wpAny_mono (ht.nox.run [] s1 (start N vs) H _ (inv_start S hr.hd e0 (len _ _ _ _ hsp) r x) hq) (fun fl s' hs => ?_) fun _ _ z => z)⟩
  have done : ∀ {σ' : St} {H' : Hp} {v : V} {u : Value}, Inv (cxOf CX0 P w K mg base N qual (defScope st) f cdv A outer s H E) [] σ' H' s' → RelV v u → Q v H' → CE outer P w H s Q u s' :=
    fun {σ' H' v u} J rv q => ⟨v, H', J.os, J.bare, J.base, J.hok, rv, q⟩
  match fl, hs with
  | .ret _, ⟨_, _, _, J, rv, q⟩ => exact done J rv q
  | .next, ⟨_, _, J, q⟩ => exact done (v := V.non) (u := Value.none) J rfl q
  | .brk, ⟨_, _, _, q⟩ => exact q.elim
  | .cont, ⟨_, _, _, q⟩ => exact q.elim
end
end L2

set_option Elab.async false
set_option linter.all false
set_option maxRecDepth 100000
set_option maxHeartbeats 1000000
namespace L2
open PySem PySem.Spec PyProof.Rows
def allB (cs : List Addr) (f : Addr → Bool) : Bool := cs.all f
theorem Same.upd {H : Hp} {p : Addr} {o : HO} (h : H p = none) : Same H (L2.upd H p o) := fun b u q => by
  rw [upd_ne (ne_of_none q h)]
  exact q
section
variable {X : Cx} {x y : Str} {C : Addr} {p q r pos : Pos} {i : Nat}
end
end L2

set_option Elab.async false
set_option linter.all false
set_option maxRecDepth 100000
set_option maxHeartbeats 1000000
namespace L2
open PySem PySem.Spec PyProof.Rows
/-- v shows as the data d: data without dicts, or a flat dict -/
inductive Shw (K : PySem.W.Frag) (H : Hp) : V → PyData → Prop where
  | dp {v : V} {d : PyData} (h : Dp K H v d) (n : d.hasDict = false) : Shw K H v d
  | d0 {q : Addr} (h : H q = some (.dK [])) : Shw K H (.ref q) (.dict [])
  | d1 {q : Addr} {x : Str} {i : Int} (h : H q = some (.dK [(.inr x, .int i)])) : Shw K H (.ref q) (.dict [(.str x, .int i)])
section
variable {X : Cx} {pins : List (Addr × Obj)} {σ : St} {H : Hp} {s : Shared}
theorem Shw.reads (I : Inv X pins σ H s) {v : V} {d : PyData} {u : Value} (h : Shw X.K H v d) (r : RelV v u) : ∃ as, Reads s.heap u d as ∧ (d.hasDict = true → sysModules ∉ as) := by
  cases h with
  | dp h n =>
    obtain ⟨as, q⟩ := Dp.reads I d v u h r
    exact ⟨as, q, fun z => by rw [n] at z; cases z⟩
  | @d0 q h =>
    obtain rfl : u = Value.ref q := r
    obtain ⟨_, ne, vs, kv, o, es, ep, ho, ex, hd, _, ps, _⟩ := dk_of I.hok h
    cases kv
    have e0 : es.toList = [] := by
      cases hl : es.toList with
      | nil => rfl
      | cons a l => rw [hl] at ps; cases ps
    refine ⟨_, Reads.dict (kvs := []) ho ex.1 hd (by rw [e0]; exact .nil) (by rw [e0]; exact .nil), fun _ hm => ?_⟩
    have hm' : sysModules ∈ [q] := by simpa using hm
    have e : sysModules = q := by simpa using hm'
    rw [← e] at ne
    exact absurd ne (by decide)
  | @d1 q x i h =>
    obtain rfl : u = Value.ref q := r
    obtain ⟨_, ne, vs, kv, o, es, ep, ho, ex, hd, _, ps, _⟩ := dk_of I.hok h
    cases kv with
    | @cons _ kw _ vs' hk kt =>
      cases kt
      obtain ⟨k, w'⟩ := kw
      obtain ⟨ek, ri⟩ := hk
      dsimp only at ek ri
      subst ek
      obtain ⟨t', rfl⟩ := (show ∃ t, w' = Value.int i t from ri)
      generalize hl : es.toList = l at ps
      cases ps with
      | @cons a _ l' _ k1 k2 pl =>
        cases pl
        rcases keyIs_shape (show keyIs (.inr x) a.key = true from k1) with ⟨_, _, z, _⟩ | ⟨y, ty, z, e2⟩
        · cases z
        · cases z
          refine ⟨_, Reads.dict (kvs := [(.str x, .int i)]) ho ex.1 hd (by rw [hl]; exact .cons (by show Reads s.heap a.key (.str x) _; rw [e2]; exact .str x ty) .nil) (by rw [hl]; exact .cons (by show Reads s.heap a.val (.int i) _; rw [k2]; exact .int i t') .nil), fun _ hm => ?_⟩
          have e : sysModules = q := by simpa using hm
          rw [← e] at ne
          exact absurd ne (by decide)
theorem Shw.readsAll (I : Inv X pins σ H s) {v : V} {d : PyData} (h : Shw X.K H v d) : ∀ (n : Nat) {us : List Value}, Vals (List.replicate n v) us → ∃ as, ReadsAll s.heap us (List.replicate n d) as ∧ (d.hasDict = true → sysModules ∉ as)
  | 0, _, .nil => ⟨_, .nil, fun _ hm => by cases hm⟩
  | n + 1, _, .cons r rs => by
    obtain ⟨as, q1, n1⟩ := Shw.reads I h r
    obtain ⟨bs, q2, n2⟩ := Shw.readsAll I h n rs
    exact ⟨_, .cons q1 q2, fun z hm => (List.mem_append.mp hm).elim (n1 z) (n2 z)⟩
end
end L2

set_option Elab.async false
set_option linter.all false
set_option maxRecDepth 100000
set_option maxHeartbeats 1000000
namespace L2
open PySem PySem.Spec PyProof.Rows
/-- a new object at p, all else as it was: what is wanted of it -/
def NewQ (H : Hp) (o : HO) (Q : VK) : Prop := ∀ p H', Same H H' → H p = none → H' p = some o → Q (.ref p) H'
theorem NewQ.at {H : Hp} {o : HO} {Q : VK} (h : NewQ H o Q) {p : Addr} (n : H p = none) : Q (.ref p) (L2.upd H p o) := h p _ (Same.upd n) n upd_same
def tLstS (t : TA) : TE := fun σ H Q => t σ H fun xs H1 => xs.length ≤ sizeLine ∧ NewQ H1 (.lst xs) Q
def tTupS (t : TA) : TE := fun σ H Q => t σ H fun xs H1 => xs.length ≤ sizeLine ∧ NewQ H1 (.tup xs) Q
def rCatS : R2 := fun x y H Q => ∃ l b xs zs, x = .ref l ∧ y = .ref b ∧ H l = some (.lst xs) ∧ H b = some (.lst zs) ∧ xs.length + zs.length ≤ sizeLine ∧ NewQ H (.lst (xs ++ zs)) Q
def rSlW (K : PySem.W.Frag) : V → Option Int → Option Int → Hp → VK → Prop := fun x lo hi H Q => ∃ a xs, x = .ref a ∧ SqL K H a xs ∧ NewQ H (.lst (cutV xs lo hi)) Q
section
variable {X : Cx} {es : List Expr} {t : TA} {pos : Pos}
theorem pe_lstS (h : PA X es t) : PE X (.List es pos) (tLstS t) :=
  ⟨fun pins s σ H Q I hq => wpAny_List_spliced (thn (h.run pos pins s σ H _ I hq) fun us s1 ⟨xs, H1, I1, r, z, q⟩ => ⟨by rw [← r.length]; exact z,
    .ref s1.heap.objs.size, _, I1.laid (t' := s1.toks) (o := .lst xs) (fun _ _ e => Heap.get?_push_of_some _ e) (Nat.le_refl _) ⟨z, us, 0, r, Heap.get?_push_size _ rfl⟩, rfl, q.at I1.fresh⟩)⟩
theorem pe_tupS {x1} (h : PA X es t) : PE X (.Tuple es x1 pos) (tTupS t) :=
  ⟨fun pins s σ H Q I hq => wpAny_Tuple_spliced (thn (h.run pos pins s σ H _ I hq) fun us s1 ⟨xs, H1, I1, r, z, q⟩ => ⟨by rw [← r.length]; exact z,
    .ref s1.heap.objs.size, _, I1.laid (t' := s1.toks) (o := .tup xs) (fun _ _ e => Heap.get?_push_of_some _ e) (Nat.le_refl _) ⟨z, us, r, ⟨_, Heap.get?_push_size _ rfl, rfl, _, rfl⟩⟩, rfl, q.at I1.fresh⟩)⟩
theorem op_catS : OpR X (binaryOp .Add) rCatS := fun pins s σ H x y v u Q I rx ry ⟨l, b, xs, zs, e1, e2, h1, h2, hz, q⟩ => op_cat pins s σ H x y v u Q I rx ry ⟨l, b, xs, zs, e1, e2, h1, h2, hz, fun _ n => q.at n⟩
theorem sl_listS : SlR X (rSlW X.K) := fun pins s σ H x v vl vu lo hi sl Q I rx hs hl hh ⟨a, xs, e, h, q⟩ => sl_list pins s σ H x v vl vu lo hi sl Q I rx hs hl hh ⟨a, xs, e, h, fun _ n => q.at n⟩
/-- {} with text or int keys -/
theorem pe_dnewS : PE X (.Dict [] [] pos) (fun _ H Q => NewQ H (.dK []) Q) := ⟨fun pins s σ H Q I h => pe_dnewK.run pins s σ H Q I fun _ n => NewQ.at h n⟩
end
theorem Same.lst {H H' : Hp} {a : Addr} {o : HO} (S : Same H H') (h : H a = some o) : H' a = some o := S _ _ h
end L2

set_option Elab.async false
set_option linter.all false
set_option maxRecDepth 100000
set_option maxHeartbeats 1000000
/-! sorted(t), t a tuple of texts -/
namespace L2
open PySem PySem.Spec PyProof.Rows
end L2

set_option Elab.async false
set_option linter.all false
set_option maxRecDepth 100000
set_option maxHeartbeats 2000000
/-! A set of texts, by the list of its members. -/
namespace L2
open PySem PySem.Spec PyProof.Rows
/-- an entry is a text under its hash -/
def GoodS (P : Program) (w : World) (e : Int × Value) : Prop := ∃ (x : Str) (t : Tok), e = ((PySem.strKind P w).hash x, .str x t)
def keyS (e : Int × Value) : Str := match e.2 with
  | .str x _ => x
  | _ => Str.empty
def SetS (P : Program) (w : World) (h : Heap) (a : Addr) (ks : List Str) : Prop := ∃ o es ep t, h.get? a = some o ∧ o.ExactSet ∧ o.data = .set es ep t ∧ (∀ e ∈ es.toList, GoodS P w e) ∧ (es.toList.map keyS).Perm ks ∧ ks.Nodup ∧
  es.size < scanBound ∧ t.fits es.size = true ∧ Ris t.place.toList ∧ (w.params.followText "set-order" = true ∨ t.led = true)
section
variable {P : Program} {w : World} {h h' : Heap} {a : Addr} {ks : List Str}
theorem SetS.at (R : SetS P w h a ks) (k : ∀ o, h.get? a = some o → h'.get? a = some o) : SetS P w h' a ks := let ⟨o, es, ep, t, ho, r⟩ := R; ⟨o, es, ep, t, k o ho, r⟩
theorem goodS_is {e : Int × Value} (g : GoodS P w e) (k : Str) : (PySem.strKind P w).is k e.2 = true ↔ keyS e = k := by
  obtain ⟨x, t, rfl⟩ := g
  unfold keyS
  show Value.isStrOf k (.str x t) = true ↔ x = k
  simp [Value.isStrOf]
theorem goodS_elems {l : List (Int × Value)} (g : ∀ e ∈ l, GoodS P w e) : ElemsOf (PySem.strKind P w) l := fun e he => by
  obtain ⟨x, t, rfl⟩ := g e he
  exact ⟨⟨x, strKind_is P w x t, rfl⟩, rfl⟩
theorem goodS_mem {l : List (Int × Value)} (g : ∀ e ∈ l, GoodS P w e) (k : Str) : k ∈ l.map keyS ↔ ∃ e ∈ l, (PySem.strKind P w).is k e.2 = true := by
  rw [List.mem_map]
  exact ⟨fun ⟨e, he, q⟩ => ⟨e, he, (goodS_is (g e he) k).mpr q⟩, fun ⟨e, he, q⟩ => ⟨e, he, (goodS_is (g e he) k).mp q⟩⟩
theorem setS_new (w : World) (P : Program) (h : Heap) : SetS P w (h.push { cls := .type "set", dict := none, data := .set #[] 0 (.fresh 0 0 (!w.params.followText "set-order")) }) h.objs.size [] := by
  refine ⟨_, #[], 0, _, Heap.get?_push_size _ rfl, ⟨rfl, rfl, rfl⟩, rfl, fun e he => absurd he (by simp), .nil, List.nodup_nil, by decide, rfl, List.Pairwise.nil, ?_⟩
  cases c : w.params.followText "set-order" with
  | true => exact .inl rfl
  | false => exact .inr rfl
end
section
variable {P : Program} {w : World} {A : Around} {E : Value → Shared → Prop} {s : Shared} {a : Addr} {ks : List Str}
/-- sorted of it -/
theorem setS_sorted {Q : Value → Shared → Prop} (R : SetS P w s.heap a ks) (hh : A.handled = none)
    (hQ : ∀ s' p (out : Array Value) (c : Nat) (ys : List Str), (∀ b o, s.heap.get? b = some o → s'.heap.get? b = some o) → s'.gens = s.gens → s'.os = s.os → s.heap.objs.size ≤ p → s'.heap.get? p = some (seqObj "list" out c) → StrsAre out.toList ys → ys.Perm ks → sortedS ys = true → Q (.ref p) s') :
    wpAny (model P w) A (call (.builtin "sorted") [.ref a]) Q E s := by
  obtain ⟨o, es, ep, t, ho, hex, hd, g, pm0, nd, hb, hf, hr, hl⟩ := R
  refine Calls.call_function_entry kind_sorted plain_sorted entry_sorted (args_sorted1 _) ?_
  unfold Builtin.«sorted»
  refine wpAny_bind (m := checkCount "sorted" 1 1 _) (wpAny_pure ?_)
  refine wpAny_bind (collect_set (A := A.in1) hh ⟨o, ho, hex.1, hd⟩ hf hb hr hl fun s1 vs k1 hz g1 o1 pm => ?_)
  have vl : vs.length < scanBound := by rw [pm.length_eq, List.length_map, Array.length_toList]; exact hb
  have texts : ∀ l : List Value, (∀ v ∈ l, ∃ x tk, v = Value.str x tk) → StrsAre l (l.map fun v => keyS (0, v)) := by
    intro l
    induction l with
    | nil => intro _; exact .nil
    | cons v l ih =>
      intro h
      obtain ⟨x, tk, rfl⟩ := h v (List.mem_cons.mpr (.inl rfl))
      exact .cons x tk (ih fun u hu => h u (List.mem_cons.mpr (.inr hu)))
  have hS := texts vs fun v hv => by
    obtain ⟨e, he, q⟩ := List.mem_map.mp (pm.mem_iff.mp hv)
    obtain ⟨x, tk, rfl⟩ := g e he
    exact ⟨x, tk, q.symm⟩
  have pk : (vs.map fun v => keyS (0, v)).Perm ks := by
    refine (pm.map fun v => keyS (0, v)).trans ?_
    rw [List.map_map]
    exact pm0
  have zl : vs.length ≤ sizeLine := fits_of_scanBound vl
  refine wpAny_bind (wpAny_newList ?_ zl)
  have hoL : (s1.heap.push (seqObj "list" vs.toArray 0)).get? s1.heap.objs.size = some (seqObj "list" vs.toArray 0) := Heap.get?_push_size _ rfl
  refine wpAny_bind (wpAny_holding (wpAny_call_entry slot_list_sort ⟨_, hoL, rfl⟩ entry_list_sort (list_sort_treeKAny strKind_oneLt hoL hS.keysOf (fun v₁ v₂ rest e => keyKind_strs (by rw [← e]; exact hS)) zl fun st' hp hs => ⟨_, rfl, ?_⟩) (args_list_sort _)))
  obtain ⟨ys, h1, h2, h3⟩ := sorted_out_str hS hp hs
  obtain ⟨c, hc⟩ := sortedHeap_at (vs := vs) (out := (arrOf st').map (·.2)) hoL
  refine wpAny_pure ⟨_, rfl, hQ _ s1.heap.objs.size _ c ys (fun b u e => ?_) g1 o1 hz hc h1 (h2.trans pk) h3⟩
  have q := k1 b u e
  have hlt := Heap.lt_size q
  show (sortedHeap (s1.heap.push (seqObj "list" vs.toArray 0)) s1.heap.objs.size vs _).get? b = some u
  rw [sortedHeap_old (Nat.ne_of_lt hlt) (by rw [size_push']; exact Nat.lt_succ_of_lt hlt)]
  exact Heap.get?_push_of_some _ q
end
end L2

set_option Elab.async false
set_option linter.all false
set_option maxRecDepth 100000
set_option maxHeartbeats 2000000
/-! A set of texts: one more. -/
namespace L2
open PySem PySem.Spec PyProof.Rows
section
variable {P : Program} {w : World} {A : Around} {E : Value → Shared → Prop} {s : Shared} {a : Addr} {ks : List Str}
/-- the entries laid down, and once more where the table is too full -/
theorem setS_tail {g : Bool → Sem Unit} (hg : ∀ (b : Bool) (s₁ : Shared) (Q' : Unit → Shared → Prop), Q' () s₁ → wpAny (model P w) A (g b) Q' E s₁) {o : Obj} {es es1 : Array (Int × Value)} {ep : Nat} {t t2 : SetTable} {ks1 : List Str}
    (ho : s.heap.get? a = some o) (hex : o.ExactSet) (hd : o.data = .set es ep t) (g1 : ∀ e ∈ es1.toList, GoodS P w e) (p1 : (es1.toList.map keyS).Perm ks1) (n1 : ks1.Nodup) (hb : es1.size < scanBound) (hf : t2.fits es1.size = true) (hr : Ris t2.place.toList)
    (hl : w.params.followText "set-order" = true ∨ t2.led = true) {wasDummy : Bool} {R : Option Bool → Shared → Prop} (hR : ∀ h', Heap.SameBut a s.heap h' → SetS P w h' a ks1 → R (some true) { s with heap := h' }) :
    wpAny (model P w) A (do
        storeSet a es1 t2
        if (!wasDummy && t2.tooFull) = true then do
            g (relayAll t2 es1 (SetTable.grown es1.size)).2.2
            storeSet a (relayAll t2 es1 (SetTable.grown es1.size)).1 (relayAll t2 es1 (SetTable.grown es1.size)).2.1
            pure (some true)
          else pure (some true)) R E s := by
  have at_ : ∀ {h : Heap} {o : Obj} {es es' : Array (Int × Value)} {ep : Nat} {t t' : SetTable}, h.get? a = some o → o.data = .set es ep t → (h.update a (Obj.putSet es' t')).get? a = some { o with data := .set es' (ep + 1) t' } := by
    intro h o es es' ep t t' ho hd
    have q := Heap.get?_update_self (Obj.putSet es' t') ho (by rw [putSet_of es' t' hd]; rfl)
    rwa [putSet_of es' t' hd] at q
  refine wpAny_bind (wpAny_storeSet_of ho hd ?_ (fits_of_scanBound hb))
  have h1 := at_ (es' := es1) (t' := t2) ho hd
  have b1 := Heap.SameBut.update s.heap a (Obj.putSet es1 t2)
  split
  · have pm := relayAll_perm t2 es1 (SetTable.grown es1.size)
    have z1 := relayAll_fits t2 es1 (SetTable.grown es1.size)
    have z2 := relayAll_ris t2 es1 (SetTable.grown es1.size)
    have z3 := relayAll_led t2 es1 (SetTable.grown es1.size)
    generalize relayAll t2 es1 (SetTable.grown es1.size) = Z at pm z1 z2 z3 ⊢
    obtain ⟨es2, t3, gave⟩ := Z
    dsimp only at pm z1 z2 z3 ⊢
    have es : es2.size = es1.size := by rw [← Array.length_toList, pm.length_eq, Array.length_toList]
    refine wpAny_bind (hg _ _ _ (wpAny_bind (wpAny_storeSet_of h1 rfl (wpAny_pure (hR _ (b1.trans (Heap.SameBut.update _ a _)) ?_)) (fits_of_scanBound (by rw [es]; exact hb)))))
    exact ⟨_, es2, _, t3, at_ h1 rfl, hex, rfl, fun e he => g1 e (pm.mem_iff.mp he), (pm.map keyS).trans p1, n1, by rw [es]; exact hb, z1, z2, hl.imp id fun z => by rw [z3]; exact z⟩
  · exact wpAny_pure (hR _ b1 ⟨_, es1, _, t2, h1, hex, rfl, g1, p1, n1, hb, hf, hr, hl⟩)
theorem setS_hashed {x : Str} {tk : Tok} {Q : Bool → Shared → Prop} (R : SetS P w s.heap a ks) (room : ks.length + 1 < scanBound)
    (hQ : ∀ b h', Heap.SameBut a s.heap h' → SetS P w h' a (if x ∈ ks then ks else x :: ks) → Q b { s with heap := h' }) : wpAny (model P w) A (setAddHashed a (.str x tk) ((PySem.strKind P w).hash x)) Q E s := by
  obtain ⟨o, es, ep, t, ho, hex, hd, g, pm0, nd, hb, hf, hr, hl⟩ := R
  have hkey : (PySem.strKind P w).is x (.str x tk) = true := strKind_is P w x tk
  have hsc : (Value.str x tk).scannable = true := rfl
  have hel := goodS_elems g
  unfold setAddHashed setAddHashedIn
  refine wpAny_holding (wpAny_bind (wpAny_setState_of ho hd hf ?_))
  dsimp only
  rw [byScan_of hsc hb hel]
  simp only [↓reduceIte]
  unfold setAddByScan
  refine wpAny_bind ?_
  refine wpAny_bind (wpAny_rule ?_)
  refine wpAny_bind (wpAny_setScan_of hkey ho hd hf hel ?_)
  cases hfi : List.findIdx? (fun e => (PySem.strKind P w).is x e.2) es.toList with
  | some j =>
    dsimp only
    obtain ⟨hj, pj, _⟩ := List.findIdx?_eq_some_iff_getElem.mp hfi
    have hin : x ∈ ks := pm0.mem_iff.mp ((goodS_mem g x).mpr ⟨es.toList[j], List.getElem_mem hj, pj⟩)
    refine wpAny_pure (wpAny_pure (hQ _ s.heap (Heap.SameBut.refl a s.heap) ?_))
    rw [if_pos hin]
    exact ⟨o, es, ep, t, ho, hex, hd, g, pm0, nd, hb, hf, hr, hl⟩
  | none =>
    dsimp only
    have hnot : x ∉ ks := fun z => by
      obtain ⟨e, he, q⟩ := (goodS_mem g x).mp (pm0.mem_iff.mpr z)
      have c := List.findIdx?_eq_none_iff.mp hfi e he
      rw [q] at c
      cases c
    rw [if_neg hnot] at hQ
    have gw : ∀ (b : Bool) {s₁ : Shared} {Q' : Unit → Shared → Prop}, Q' () s₁ → wpAny (model P w) A (match b with | true => rule "set.scan.the-table-gave-way" | false => pure ()) Q' E s₁ :=
      fun b s₁ Q' q => by cases b <;> first | exact wpAny_pure q | exact wpAny_rule q
    have pm := layNew_perm t es ((PySem.strKind P w).hash x) (.str x tk)
    have y1 := layNew_fits t es ((PySem.strKind P w).hash x) (.str x tk)
    have y2 := layNew_ris t es ((PySem.strKind P w).hash x) (.str x tk) hr
    have y3 := layNew_led t es ((PySem.strKind P w).hash x) (.str x tk)
    generalize layNew t es ((PySem.strKind P w).hash x) (.str x tk) = Z at pm y1 y2 y3 ⊢
    obtain ⟨es1, t1, wasDummy, gave⟩ := Z
    dsimp only at pm y1 y2 y3 ⊢
    rw [Array.toList_push] at pm
    have pc : es1.toList.Perm (((PySem.strKind P w).hash x, Value.str x tk) :: es.toList) := pm.trans (List.perm_append_singleton _ _)
    have g1 : ∀ e ∈ es1.toList, GoodS P w e := fun e he => by
      rcases List.mem_cons.mp (pc.mem_iff.mp he) with z | z
      · exact ⟨x, tk, z⟩
      · exact g e z
    have p1 : (es1.toList.map keyS).Perm (x :: ks) := (pc.map keyS).trans (List.Perm.cons x pm0)
    have n1 : (x :: ks).Nodup := List.nodup_cons.mpr ⟨hnot, nd⟩
    have size1 : es1.size = ks.length + 1 := by
      have := p1.length_eq
      rw [List.length_map, Array.length_toList, List.length_cons] at this
      exact this
    have b1 : es1.size < scanBound := by rw [size1]; exact room
    have l1 : w.params.followText "set-order" = true ∨ t1.led = true := hl.imp id fun z => by rw [y3]; exact z
    refine wpAny_bind (gw _ ?_)
    split
    · refine wpAny_bind ?_
      rw [hashByValue_scannable 8 hsc]
      refine wpAny_pure ?_
      refine setS_tail ?_ ho hex hd g1 p1 n1 b1 ?_ ?_ ?_ ?_
      · intro b s₁ Q' q; cases b <;> first | exact wpAny_pure q | exact wpAny_rule q
      · first | (split <;> first | exact y1 | exact SetTable.fits_plain_off y1) | exact y1
      · first | (split <;> exact y2) | exact y2
      · first | (split <;> exact l1) | exact l1
      · intro h' sb r; dsimp only; exact wpAny_pure (hQ _ h' sb r)
    · refine wpAny_bind (wpAny_pure ?_)
      simp only [↓reduceIte]
      refine setS_tail ?_ ho hex hd g1 p1 n1 b1 y1 y2 l1 ?_
      · intro b s₁ Q' q; cases b <;> first | exact wpAny_pure q | exact wpAny_rule q
      · intro h' sb r; dsimp only; exact wpAny_pure (hQ _ h' sb r)
theorem SetS.typeIs (R : SetS P w s.heap a ks) : s.TypeIs (.ref a) "set" := let ⟨o, _, _, _, ho, hex, _⟩ := R; ⟨o, ho, hex.1⟩
theorem setS_add {x : Str} {tk : Tok} {Q : Value → Shared → Prop} (R : SetS P w s.heap a ks) (room : ks.length + 1 < scanBound)
    (hQ : ∀ h' t, Heap.SameBut a s.heap h' → SetS P w h' a (if x ∈ ks then ks else x :: ks) → Q .none { s with heap := h', toks := t }) : wpAny (model P w) A (call (.builtin "set.add") [.ref a, .str x tk]) Q E s := by
  refine wpAny_call_entry F.slot_set_add R.typeIs F.entry_set_add ?_ (F.args_set_add_2 _ _)
  unfold Builtin.«set.add» Builtin.Frozenset.oneOther
  simp only [List.isEmpty_nil, bind_assoc]
  unfold Builtin.Frozenset.addrOf setAdd
  refine wpAny_bind (wpAny_pure ?_)
  try dsimp only
  refine wpAny_bind (wpAny_pure ?_)
  try dsimp only
  refine wpAny_bind ?_
  refine wpAny_holding ?_
  refine wpAny_bind ((PySem.strKind P w).pyHash (strKind_is P w x tk) ?_)
  refine setS_hashed (s := { s with toks := s.toks + 1 }) R room fun _ h' sb r => ?_
  show wpAny _ _ (ret Value.none) _ _ _
  exact wpAny_pure ⟨_, rfl, hQ h' _ sb r⟩
end
end L2

set_option Elab.async false
set_option linter.all false
set_option maxRecDepth 100000
set_option maxHeartbeats 2000000
/-! A set of texts made by a comprehension of two clauses without tests. -/
namespace L2
open PySem PySem.Spec PyProof.Rows
/-- the set of texts at a, as a thing that is followed -/
def SetSO (P : Program) (w : World) (a : Addr) (ks : List Str) : HO := .ext fun h => SetS P w h a ks
theorem setSO_new {P P' : Program} {w w' : World} {H : Hp} {h : Heap} {a : Addr} {ks : List Str} (R : SetS P w h a ks) : ObjOk P' w' H h a (SetSO P w a ks) := by
  have ⟨o, _, _, _, ho, _⟩ := R
  exact ⟨R, ⟨o, ho⟩, fun h1 h2 p k => SetS.at p k⟩
/-- one text more -/
def putS (ks : List Str) (x : Str) : List Str := if x ∈ ks then ks else x :: ks
section
variable {X : Cx}
theorem setSO_get {pins : List (Addr × Obj)} {σ : L2.St} {H : Hp} {s : Shared} {P : Program} {w : World} {a : Addr} {ks : List Str} (I : Inv X pins σ H s) (ha : H a = some (SetSO P w a ks)) : SetS P w s.heap a ks := (I.hok a _ ha).1
theorem addS_ok {pins : List (Addr × Obj)} {σ : L2.St} {H : Hp} {s : Shared} {E : Value → Shared → Prop} {D : Addr} {ks : List Str} {x : Str} {tk : Tok} {Q : Value → Shared → Prop} (I : Inv X pins σ H s) (hD : H D = some (SetSO X.prog X.w D ks)) (room : ks.length + 1 < scanBound)
    (h : ∀ s', Inv X pins σ (upd H D (SetSO X.prog X.w D (putS ks x))) s' → Q .none s') : wpAny (model X.prog X.w) X.A (call (.builtin "set.add") [.ref D, .str x tk]) Q E s := by
  refine setS_add (setSO_get I hD) room fun h' t sb new => ?_
  obtain ⟨o, _, _, _, ho, _⟩ := id new
  exact h _ (I.write (e := D) (t' := t) (by rw [hD]; trivial) (.inl rfl) (fun b u hb hu => (sb.2 b hb).trans hu) ⟨o, ho⟩ (setSO_new new))
end
section
variable {prog : Program} {w : World} {A : Around} {R : Result → Shared → Prop} {s : Shared} {elt t0 i0 t1 i1 : Expr} {scope : Scope} {pos : Pos} {it acc : Value} {env : Env}
end
end L2
namespace L2
open PySem PySem.Spec PyProof.Rows
section
variable {prog : Program} {w : World} {A : Around} {R : Result → Shared → Prop} {s : Shared} {elt t0 i0 t1 i1 : Expr} {scope : Scope} {pos : Pos} {it acc : Value} {env : Env}
/-- nothing is raised -/
abbrev NoE : Value → Shared → Prop := fun _ _ => False
end
section
variable {X : Cx}
/-- what a block's part is, wherever the block starts -/
abbrev InBlk (X : Cx) (scope : Scope) (p : Cx → Prop) : Prop := ∀ (s : Shared) (H : Hp) (C : Addr) (cl : List (Str × Addr)) (fp : List Addr), p (X.blk s H scope (compEnvC scope cl C X.env) fp)
end
end L2

set_option Elab.async false
set_option linter.all false
set_option maxRecDepth 100000
set_option maxHeartbeats 2000000
/-! comprehensions of any number of clauses, without tests: a clause at a time -/
namespace L2
open PySem PySem.Spec PyProof.Rows
/-- what a turn does behind the store of its item -/
abbrev PWt := Value → Env → (Shared → Prop) → Shared → Prop
section
variable (prog : Program) (w : World) (A : Around)
def LoopOk (E : Expr) (k : Nat) (t : Expr) (pw : PWt) : Prop := ∀ (R : Result → Shared → Prop) (it acc : Value) (env : Env) (J : Nat → Shared → Prop),
  (∀ n s, J n s → wpAny (model prog w) A (pyNext it) (fun r s1 => match r with
      | none => R (.ok .next) s1
      | some v => wpAny (model prog w) A (letOwnedTupleGo t it v) (fun _ s2 => wpAny (model prog w) A (assign t env v) (fun _ s3 => pw acc env (fun s' => ∃ m, m < n ∧ J m s') s3) NoE s2) NoE s1) NoE s) →
  ∀ n s, J n s → codeAny (model prog w) A (.compLoop E k it acc env) R s
def StartOk (E : Expr) (k : Nat) : Prop := ∀ (R : Result → Shared → Prop) (it acc : Value) (env : Env) (s : Shared), codeAny (model prog w) A (.compLoop E k it acc env) R s →
  wpAny (model prog w) A (pyIter it) (fun it' s' => codeAny (model prog w) A (.compLoop E k it' acc env) R s') (notedBy (model prog w) A env fun x s' => R (.error x) s') s → codeAny (model prog w) A (.compStart E k it acc env) R s
/-- the next clause starts -/
def pwMid (E : Expr) (k : Nat) (i : Expr) : PWt := fun acc env N s => wpAny (model prog w) A (eval i env) (fun x s4 => wpAny (model prog w) A (pyIter x) (fun it1 s5 =>
  codeAny (model prog w) A (.compStart E k it1 acc env) (fun r s' => match r with
    | .ok _ => N s'
    | .error _ => False) s5) NoE s4) NoE s
/-- an item is put in -/
def pwAdd (f : String) (elt : Expr) : PWt := fun acc env N s => wpAny (model prog w) A (eval elt env) (fun x s4 => wpAny (model prog w) A (call (.builtin f) [acc, x]) (fun _ s5 => N s5) NoE s4) NoE s
end
section
variable {prog : Program} {w : World} {A : Around} {elt t0 i0 t1 i1 t2 i2 : Expr} {scope : Scope} {pos : Pos}
abbrev sc3 (elt t0 i0 t1 i1 t2 i2 : Expr) (scope : Scope) (pos : Pos) : Expr := .SetComp elt [⟨t0, i0, [], 0⟩, ⟨t1, i1, [], 0⟩, ⟨t2, i2, [], 0⟩] scope pos
abbrev lc3 (elt t0 i0 t1 i1 t2 i2 : Expr) (scope : Scope) (pos : Pos) : Expr := .ListComp elt [⟨t0, i0, [], 0⟩, ⟨t1, i1, [], 0⟩, ⟨t2, i2, [], 0⟩] scope pos
theorem mid_loop {E : Expr} {k k' : Nat} {t i : Expr} {p1 p2 : Pos} (hT : ∀ it acc env, compTurn E k it acc env = (do
      standAt p1
      match ← pyNext it with
      | none => pure (.done .next)
      | some v =>
        letOwnedTupleGo t it v
        assign t env v
        let src ← eval i env
        standAt p2
        let src ← foldedSetIterable i env src
        let _ ← runOwn (.compStart E k' (← holding [src] (pyIter src)) acc env) env
        again (.compLoop E k it acc env)))
    (hs : ∀ env x, foldedSetIterable i env x = pure x)
    (hu : ∀ it acc env, A.under (.compLoop E k it acc env) = A) (hd : ∀ it acc env, (model prog w).den (.compLoop E k it acc env) = (compTurn E k it acc env).onRaise (fun x => do noteFrame x env; theTreesLotGoes x)) : LoopOk prog w A E k t (pwMid prog w A E k' i) := by
  intro R it acc env J turn n s h
  refine codeAny_loop rfl J (fun n s hJ => ?_) n h
  rw [hu, hd]
  refine wpAny_noted ?_
  rw [hT]
  refine wpAny_bind (wpAny_standAt (wpAny_bind (thnF (turn n s hJ) fun r s1 h1 => ?_)))
  cases r with
  | none => exact wpAny_pure h1
  | some v =>
    refine wpAny_bind (thnF h1 fun _ s2 h2 => wpAny_bind (thnF h2 fun _ s3 h3 => wpAny_bind (thnF h3 fun x s4 h4 => wpAny_bind (wpAny_standAt (wpAny_bind (wpAny_of_eq (hs env x) (wpAny_bind (wpAny_holding (thnF h4 fun it1 s5 h5 => ?_)))))))))
    refine wpAny_bind (wpAny_runOwn ?_)
    rw [Around.mark_none]
    refine codeAny_mono h5 fun r s' hr => ?_
    cases r with
    | ok f => first | exact wpAny_pure ⟨rfl, hr⟩ | exact wpAny_bind (wpAny_pure (wpAny_pure ⟨rfl, hr⟩))
    | error e => exact hr.elim
theorem add_loopS {E : Expr} {k : Nat} {t : Expr} {p1 : Pos} (hT : ∀ it acc env, compTurn E k it acc env = (do
      standAt p1
      match ← pyNext it with
      | none => pure (.done .next)
      | some v =>
        letOwnedTupleGo t it v
        assign t env v
        (do let u ← eval elt env; standAt elt.pos; let _ ← call (.builtin "set.add") [acc, u])
        again (.compLoop E k it acc env)))
    (hu : ∀ it acc env, A.under (.compLoop E k it acc env) = A) (hd : ∀ it acc env, (model prog w).den (.compLoop E k it acc env) = (compTurn E k it acc env).onRaise (fun x => do noteFrame x env; theTreesLotGoes x)) : LoopOk prog w A E k t (pwAdd prog w A "set.add" elt) := by
  intro R it acc env J turn n s h
  refine codeAny_loop rfl J (fun n s hJ => ?_) n h
  rw [hu, hd]
  refine wpAny_noted ?_
  rw [hT]
  refine wpAny_bind (wpAny_standAt (wpAny_bind (thnF (turn n s hJ) fun r s1 h1 => ?_)))
  cases r with
  | none => exact wpAny_pure h1
  | some v =>
    refine wpAny_bind (thnF h1 fun _ s2 h2 => wpAny_bind (thnF h2 fun _ s3 h3 => ?_))
    exact wpAny_bind (wpAny_bind (thnF h3 fun x s4 h4 => wpAny_bind (wpAny_standAt (wpAny_bind (thnF h4 fun _ s5 h5 => wpAny_pure (wpAny_pure ⟨rfl, h5⟩))))))
theorem add_loopL {E : Expr} {k : Nat} {t : Expr} {p1 : Pos} (hT : ∀ it acc env, compTurn E k it acc env = (do
      standAt p1
      match ← pyNext it with
      | none => pure (.done .next)
      | some v =>
        letOwnedTupleGo t it v
        assign t env v
        (do let _ ← call (.builtin "list.append") [acc, ← eval elt env])
        again (.compLoop E k it acc env)))
    (hu : ∀ it acc env, A.under (.compLoop E k it acc env) = A) (hd : ∀ it acc env, (model prog w).den (.compLoop E k it acc env) = (compTurn E k it acc env).onRaise (fun x => do noteFrame x env; theTreesLotGoes x)) : LoopOk prog w A E k t (pwAdd prog w A "list.append" elt) := by
  intro R it acc env J turn n s h
  refine codeAny_loop rfl J (fun n s hJ => ?_) n h
  rw [hu, hd]
  refine wpAny_noted ?_
  rw [hT]
  refine wpAny_bind (wpAny_standAt (wpAny_bind (thnF (turn n s hJ) fun r s1 h1 => ?_)))
  cases r with
  | none => exact wpAny_pure h1
  | some v =>
    refine wpAny_bind (thnF h1 fun _ s2 h2 => wpAny_bind (thnF h2 fun _ s3 h3 => ?_))
    exact wpAny_bind (wpAny_bind (thnF h3 fun x s4 h4 => wpAny_bind (thnF h4 fun _ s5 h5 => wpAny_pure (wpAny_pure ⟨rfl, h5⟩))))
theorem sc3_l0 (hs : ∀ env x, foldedSetIterable i1 env x = pure x) : LoopOk prog w A (sc3 elt t0 i0 t1 i1 t2 i2 scope pos) 0 t0 (pwMid prog w A (sc3 elt t0 i0 t1 i1 t2 i2 scope pos) 1 i1) := mid_loop (p1 := i0.pos) (p2 := i1.pos) (fun _ _ _ => by rfl) hs (fun _ _ _ => rfl) (fun _ _ _ => rfl)
theorem sc3_l1 (hs : ∀ env x, foldedSetIterable i2 env x = pure x) : LoopOk prog w A (sc3 elt t0 i0 t1 i1 t2 i2 scope pos) 1 t1 (pwMid prog w A (sc3 elt t0 i0 t1 i1 t2 i2 scope pos) 2 i2) := mid_loop (p1 := i1.pos) (p2 := i2.pos) (fun _ _ _ => by rfl) hs (fun _ _ _ => rfl) (fun _ _ _ => rfl)
theorem sc3_l2 : LoopOk prog w A (sc3 elt t0 i0 t1 i1 t2 i2 scope pos) 2 t2 (pwAdd prog w A "set.add" elt) := add_loopS (p1 := i2.pos) (fun _ _ _ => by rfl) (fun _ _ _ => rfl) (fun _ _ _ => rfl)
theorem lc3_l0 (hs : ∀ env x, foldedSetIterable i1 env x = pure x) : LoopOk prog w A (lc3 elt t0 i0 t1 i1 t2 i2 scope pos) 0 t0 (pwMid prog w A (lc3 elt t0 i0 t1 i1 t2 i2 scope pos) 1 i1) := mid_loop (p1 := i0.pos) (p2 := i1.pos) (fun _ _ _ => by rfl) hs (fun _ _ _ => rfl) (fun _ _ _ => rfl)
theorem lc3_l1 (hs : ∀ env x, foldedSetIterable i2 env x = pure x) : LoopOk prog w A (lc3 elt t0 i0 t1 i1 t2 i2 scope pos) 1 t1 (pwMid prog w A (lc3 elt t0 i0 t1 i1 t2 i2 scope pos) 2 i2) := mid_loop (p1 := i1.pos) (p2 := i2.pos) (fun _ _ _ => by rfl) hs (fun _ _ _ => rfl) (fun _ _ _ => rfl)
theorem lc3_l2 : LoopOk prog w A (lc3 elt t0 i0 t1 i1 t2 i2 scope pos) 2 t2 (pwAdd prog w A "list.append" elt) := add_loopL (p1 := i2.pos) (fun _ _ _ => by rfl) (fun _ _ _ => rfl) (fun _ _ _ => rfl)
theorem sc3_s1 : StartOk prog w A (sc3 elt t0 i0 t1 i1 t2 i2 scope pos) 1 := by
  intro R it acc env s h0 h
  refine codeAny_of_tree ?_
  show wpAny _ _ ((compStart (sc3 elt t0 i0 t1 i1 t2 i2 scope pos) 1 it acc env).onRaise (fun x => do noteFrame x env; standAt theWindowsPlace)) _ _ s
  refine wpAny_notedAt ?_
  unfold compStart
  show wpAny _ _ (ask >>= _) _ _ s
  refine wpAny_bind (wpAny_askSetting (wpAny_ite ?_))
  split
  · first
      | exact wpAny_bind (wpAny_pure (wpAny_pure (And.intro rfl h0)))
      | exact wpAny_pure (And.intro rfl h0)
  · first
      | exact wpAny_bind (wpAny_rule (wpAny_bind (wpAny_standAt (wpAny_bind (wpAny_mono h (fun it' s' h' => wpAny_pure (And.intro rfl h')) fun _ _ x => x)))))
      | (refine wpAny_bind (wpAny_rule ?_); show wpAny _ _ (standAt i1.pos >>= _) _ _ s; exact wpAny_bind (wpAny_standAt (wpAny_bind (wpAny_mono h (fun it' s' h' => wpAny_pure (And.intro rfl h')) fun _ _ x => x))))
theorem sc3_s2 : StartOk prog w A (sc3 elt t0 i0 t1 i1 t2 i2 scope pos) 2 := by
  intro R it acc env s h0 h
  refine codeAny_of_tree ?_
  show wpAny _ _ ((compStart (sc3 elt t0 i0 t1 i1 t2 i2 scope pos) 2 it acc env).onRaise (fun x => do noteFrame x env; standAt theWindowsPlace)) _ _ s
  refine wpAny_notedAt ?_
  unfold compStart
  show wpAny _ _ (ask >>= _) _ _ s
  refine wpAny_bind (wpAny_askSetting (wpAny_ite ?_))
  split
  · first
      | exact wpAny_bind (wpAny_pure (wpAny_pure (And.intro rfl h0)))
      | exact wpAny_pure (And.intro rfl h0)
  · first
      | exact wpAny_bind (wpAny_rule (wpAny_bind (wpAny_standAt (wpAny_bind (wpAny_mono h (fun it' s' h' => wpAny_pure (And.intro rfl h')) fun _ _ x => x)))))
      | (refine wpAny_bind (wpAny_rule ?_); show wpAny _ _ (standAt i2.pos >>= _) _ _ s; exact wpAny_bind (wpAny_standAt (wpAny_bind (wpAny_mono h (fun it' s' h' => wpAny_pure (And.intro rfl h')) fun _ _ x => x))))
theorem lc3_s1 : StartOk prog w A (lc3 elt t0 i0 t1 i1 t2 i2 scope pos) 1 := by
  intro R it acc env s h0 h
  refine codeAny_of_tree ?_
  show wpAny _ _ ((compStart (lc3 elt t0 i0 t1 i1 t2 i2 scope pos) 1 it acc env).onRaise (fun x => do noteFrame x env; standAt theWindowsPlace)) _ _ s
  refine wpAny_notedAt ?_
  unfold compStart
  show wpAny _ _ (ask >>= _) _ _ s
  refine wpAny_bind (wpAny_askSetting (wpAny_ite ?_))
  split
  · first
      | exact wpAny_bind (wpAny_pure (wpAny_pure (And.intro rfl h0)))
      | exact wpAny_pure (And.intro rfl h0)
  · first
      | exact wpAny_bind (wpAny_rule (wpAny_bind (wpAny_standAt (wpAny_bind (wpAny_mono h (fun it' s' h' => wpAny_pure (And.intro rfl h')) fun _ _ x => x)))))
      | (refine wpAny_bind (wpAny_rule ?_); show wpAny _ _ (standAt i1.pos >>= _) _ _ s; exact wpAny_bind (wpAny_standAt (wpAny_bind (wpAny_mono h (fun it' s' h' => wpAny_pure (And.intro rfl h')) fun _ _ x => x))))
theorem lc3_s2 : StartOk prog w A (lc3 elt t0 i0 t1 i1 t2 i2 scope pos) 2 := by
  intro R it acc env s h0 h
  refine codeAny_of_tree ?_
  show wpAny _ _ ((compStart (lc3 elt t0 i0 t1 i1 t2 i2 scope pos) 2 it acc env).onRaise (fun x => do noteFrame x env; standAt theWindowsPlace)) _ _ s
  refine wpAny_notedAt ?_
  unfold compStart
  show wpAny _ _ (ask >>= _) _ _ s
  refine wpAny_bind (wpAny_askSetting (wpAny_ite ?_))
  split
  · first
      | exact wpAny_bind (wpAny_pure (wpAny_pure (And.intro rfl h0)))
      | exact wpAny_pure (And.intro rfl h0)
  · first
      | exact wpAny_bind (wpAny_rule (wpAny_bind (wpAny_standAt (wpAny_bind (wpAny_mono h (fun it' s' h' => wpAny_pure (And.intro rfl h')) fun _ _ x => x)))))
      | (refine wpAny_bind (wpAny_rule ?_); show wpAny _ _ (standAt i2.pos >>= _) _ _ s; exact wpAny_bind (wpAny_standAt (wpAny_bind (wpAny_mono h (fun it' s' h' => wpAny_pure (And.intro rfl h')) fun _ _ x => x))))
end
/-- the part of a turn behind the store of its item, as it reads in a context; vs: the slots that it may change -/
structure PPart (Y : Cx) (pw : PWt) (acc : Value) (tp : L2.St → Hp → (Hp → Prop) → Prop) (vs : List Nat) : Prop where
  run : ∀ (pins : List (Addr × Obj)) (s : Shared) (σ : L2.St) (H : Hp) (N : Hp → Prop) (N' : Shared → Prop), Inv Y pins σ H s → tp σ H N → (∀ H' s', Inv Y pins (wipe σ vs) H' s' → N H' → N' s') → pw acc Y.env N' s
def tAddS (P : Program) (w : World) (D : Addr) (te : TE) : L2.St → Hp → (Hp → Prop) → Prop := fun σ H N => te σ H fun y H7 => ∃ z ks, y = .str z ∧ H7 D = some (SetSO P w D ks) ∧ ks.length + 1 < scanBound ∧ N (upd H7 D (SetSO P w D (putS ks z)))
def tAddL (D : Addr) (te : TE) : L2.St → Hp → (Hp → Prop) → Prop := fun σ H N => te σ H fun y H7 => ∃ acc, H7 D = some (.lst acc) ∧ acc.length < sizeLine ∧ N (upd H7 D (.lst (acc ++ [y])))
def tMid (wi : TI) (g : TG) (tp : L2.St → Hp → (Hp → Prop) → Prop) (vs : List Nat) : L2.St → Hp → (Hp → Prop) → Prop := fun σ H N => wi σ H fun J H4 => ∃ W : Nat → Nat → Hp → Prop, (∃ m, W 0 m H4) ∧ ∀ j k H, W j k H →
  (J.stop j H ∧ N H) ∨ (J.go j H ∧ ∃ Nx : Hp → Prop, (∀ H', Nx H' → ∃ k', k' < k ∧ W (j + 1) k' H') ∧ ∀ x H', J.yld j H x H' → g x (wipe σ vs) H' fun σ2 H2 => wipe σ2 vs = wipe σ vs ∧ tp σ2 H2 Nx)
section
variable {Y : Cx}
theorem part_addS {elt : Expr} {te : TE} {D : Addr} (hxe : Y.xe = NoE) (he : PE Y elt te) : PPart Y (pwAdd Y.prog Y.w Y.A "set.add" elt) (.ref D) (tAddS Y.prog Y.w D te) [] := by
  refine ⟨fun pins s σ H N N' I h k => ?_⟩
  unfold pwAdd
  have r := he.run pins s σ H _ I h
  rw [hxe] at r
  refine thnF r fun v s1 ⟨y, H1, I1, r1, z, ks, ey, hD, room, nx⟩ => ?_
  subst ey
  obtain ⟨tk, rfl⟩ : ∃ tk, v = Value.str z tk := r1
  exact addS_ok I1 hD room fun s2 I2 => k _ s2 I2 nx
theorem part_addL {elt : Expr} {te : TE} {D : Addr} (hxe : Y.xe = NoE) (he : PE Y elt te) : PPart Y (pwAdd Y.prog Y.w Y.A "list.append" elt) (.ref D) (tAddL D te) [] := by
  refine ⟨fun pins s σ H N N' I h k => ?_⟩
  unfold pwAdd
  have r := he.run pins s σ H _ I h
  rw [hxe] at r
  refine thnF r fun v s1 ⟨y, H1, I1, r1, acc, hD, room, nx⟩ => ?_
  exact app_ok I1 hD room r1 fun s2 I2 => k _ s2 I2 nx
theorem part_mid {E : Expr} {k : Nat} {t i : Expr} {pw : PWt} {acc : Value} {wi : TI} {g : TG} {tp : L2.St → Hp → (Hp → Prop) → Prop} {vs vs' : List Nat} (hxe : Y.xe = NoE) (hc : Y.calm = true) (hv : ∀ i ∈ vs', i ∈ vs) (hi : PI Y t i wi) (hg : PG Y t g)
    (hp : PPart Y pw acc tp vs') (hL : LoopOk Y.prog Y.w Y.A E k t pw) (hS : StartOk Y.prog Y.w Y.A E k) : PPart Y (pwMid Y.prog Y.w Y.A E k i) acc (tMid wi g tp vs) vs := by
  refine ⟨fun pins s σ H N N' I h kk => ?_⟩
  have r0 := hi.run pins s σ H _ I h
  rw [hxe] at r0
  refine thnF r0 fun xv s1 hx => ?_
  refine thnF hx fun itv s2 h2 => ?_
  obtain ⟨it1, fp1, tn1, J1, H2, rfl, I2, T1, st2, f2, W1, ⟨m1, w1⟩, turn1⟩ := h2
  have loop1 : codeAny (model Y.prog Y.w) Y.A (.compLoop E k (.ref it1) acc Y.env)
      (fun r s' => match r with
        | .ok _ => N' s'
        | .error _ => False) s2 := by
    refine hL _ _ _ _ (fun n s' => ∃ j H', Inv Y pins (wipe σ vs) H' s' ∧ tn1 j s'.heap ∧ (∀ b ∈ fp1, H' b = none) ∧ W1 j n H') ?_ m1 _ ⟨0, H2, I2.weak (wipe_length _ _) (fun j v e => (wipe_some e).1), st2, fun b hb => (f2 b hb).1, w1⟩
    rintro n s3 ⟨j, H3, I3, st3, n3, w3⟩
    rcases turn1 j n H3 w3 with ⟨stop1, nx1⟩ | ⟨go1, Nx1, hNx1, step1⟩
    · refine thnF (T1.done Y rfl rfl rfl hc j _ s3 _ H3 NoE I3 (fun b hb => ⟨n3 b hb, (f2 b hb).2⟩) st3 stop1) fun r s4 ⟨hr, I4⟩ => ?_
      subst hr
      exact kk _ _ I4 nx1
    · refine thnF (T1.item Y rfl rfl rfl hc j _ s3 _ H3 NoE I3 (fun b hb => ⟨n3 b hb, (f2 b hb).2⟩) st3 go1) fun r s4 ⟨u1, hr, h4⟩ => ?_
      subst hr
      refine thnF h4 fun _ s5 ⟨x1, H5, I5, r5, y5, st5, n5⟩ => ?_
      have I5p := I5.pinned (fun b hb => ⟨n5 b hb, (f2 b hb).2⟩) (T1.obj _ _ st5)
      have rg := hg.run _ s5 _ H5 x1 u1 _ I5p r5 (step1 x1 H5 y5)
      rw [hxe] at rg
      refine thnF rg fun _ s6 ⟨σ6, H6, I6, hw6, q6⟩ => ?_
      refine hp.run _ s6 σ6 H6 Nx1 _ I6 q6 fun H7 s7 I7 nx => ?_
      obtain ⟨m', hm, w'⟩ := hNx1 _ nx
      have pin' : ∀ b ∈ fp1, ∀ o, s5.heap.get? b = some o → s7.heap.get? b = some o ∧ H7 b = none := fun b hb o e =>
        let z := I7.pin (b, o) (List.mem_append_right _ (List.mem_append_right _ (mem_pinsAt hb e)))
        ⟨z.1, z.2.1⟩
      refine ⟨m', hm, j + 1, H7, I7.unpinned.weak ?_ (fun j v e => ?_), T1.keep _ _ _ st5 fun b hb o e => (pin' b hb o e).1, fun b hb => ?_, w'⟩
      · have z := congrArg List.length hw6
        rw [wipe_length, wipe_length] at z
        rw [wipe_length, wipe_length]
        exact z.symm
      · rw [← hw6] at e
        obtain ⟨e1, e2⟩ := wipe_some e
        rw [wipe_out fun z => e2 (hv j z)]
        exact e1
      · obtain ⟨o, e, _⟩ := T1.obj _ _ st5 b hb
        exact (pin' b hb o e).2
  exact hS _ _ _ _ _ loop1 (T1.self Y.A 0 _ _ _ st2 loop1)
end
end L2

set_option Elab.async false
set_option linter.all false
set_option maxRecDepth 100000
set_option maxHeartbeats 2000000
/-! comprehensions of any number of clauses: the first clause and the whole -/
namespace L2
open PySem PySem.Spec PyProof.Rows
def tScN (P : Program) (w : World) (wi : TI) (g : TG) (tp : Addr → L2.St → Hp → (Hp → Prop) → Prop) (vs : List Nat) : TE := fun σ H Q => wi σ H fun J H1 => ∀ D, H1 D = none → ∃ W : Nat → Nat → Hp → Prop, (∃ m, W 0 m (upd H1 D (SetSO P w D []))) ∧ ∀ i m H, W i m H →
  (J.stop i H ∧ Q (.ref D) H) ∨ (J.go i H ∧ ∃ Nx : Hp → Prop, (∀ H', Nx H' → ∃ m', m' < m ∧ W (i + 1) m' H') ∧ ∀ x H', J.yld i H x H' → g x (wipe σ vs) H' fun σ2 H2 => wipe σ2 vs = wipe σ vs ∧ tp D σ2 H2 Nx)
def tLcN (wi : TI) (g : TG) (tp : Addr → L2.St → Hp → (Hp → Prop) → Prop) (vs : List Nat) : TE := fun σ H Q => wi σ H fun J H1 => ∀ D, H1 D = none → ∃ W : Nat → Nat → Hp → Prop, (∃ m, W 0 m (upd H1 D (.lst []))) ∧ ∀ i m H, W i m H →
  (J.stop i H ∧ Q (.ref D) H) ∨ (J.go i H ∧ ∃ Nx : Hp → Prop, (∀ H', Nx H' → ∃ m', m' < m ∧ W (i + 1) m' H') ∧ ∀ x H', J.yld i H x H' → g x (wipe σ vs) H' fun σ2 H2 => wipe σ2 vs = wipe σ vs ∧ tp D σ2 H2 Nx)
/-- a clause's turns, Pv by the turn and the heap -/
theorem cl_it {J : It} {n : Nat} {G : Hp → Prop} {Y : Nat → Hp → V → Hp → Prop} (wk : Walk J n G Y) {g : TG} {tp : L2.St → Hp → (Hp → Prop) → Prop} {vs : List Nat} {σ : L2.St} {H0 : Hp} {Qd : Hp → Prop} (Pv : Nat → Hp → Prop) (h0 : Pv 0 H0) (hG : ∀ i H, i ≤ n → Pv i H → G H)
    (hs : ∀ i x H H', i < n → Pv i H → Y i H x H' → g x (wipe σ vs) H' fun σ2 H2 => wipe σ2 vs = wipe σ vs ∧ tp σ2 H2 (Pv (i + 1))) (hd : ∀ H, Pv n H → Qd H) :
    ∃ W : Nat → Nat → Hp → Prop, (∃ m, W 0 m H0) ∧ ∀ i m H, W i m H →
      (J.stop i H ∧ Qd H) ∨ (J.go i H ∧ ∃ Nx : Hp → Prop, (∀ H', Nx H' → ∃ m', m' < m ∧ W (i + 1) m' H') ∧ ∀ x H', J.yld i H x H' → g x (wipe σ vs) H' fun σ2 H2 => wipe σ2 vs = wipe σ vs ∧ tp σ2 H2 Nx) := by
  refine ⟨fun i m H => m = n - i ∧ i ≤ n ∧ Pv i H, ⟨n, by simp, Nat.zero_le _, h0⟩, ?_⟩
  rintro i m H ⟨rfl, hi, p⟩
  have q := hG i H hi p
  by_cases hlt : i < n
  · exact .inr ⟨wk.goes i H hlt q, Pv (i + 1), fun H' p' => ⟨n - (i + 1), by omega, rfl, hlt, p'⟩, fun x H' y => hs i x H H' hlt p (wk.yields i H x H' hlt q y)⟩
  · obtain rfl : i = n := by omega
    exact .inl ⟨wk.stops H q, hd H p⟩
section
variable {X : Cx}
theorem pe_scN {elt tg iter : Expr} {rest : List Comprehension} {scope : Scope} {own : List (Str × Nat)} {vs' : List Nat} {pos : Pos} {wi : TI} {g : TG} {pw : PWt} {tp : Addr → L2.St → Hp → (Hp → Prop) → Prop} (hc : X.calm = true) (hN : X.N.Nodup) (hi : PI X tg iter wi) (ok : BlkOk X.N X.env.scope scope own) (hv : ∀ i ∈ vs', i ∈ own.map (·.2))
    (hg : InBlk X scope fun Y => PG Y tg g) (hp : ∀ D, InBlk X scope fun Y => PPart Y pw (.ref D) (tp D) vs')
    (hL : LoopOk X.prog X.w X.A (.SetComp elt (⟨tg, iter, [], 0⟩ :: rest) scope pos) 0 tg pw)
    (hs : ∀ x, foldedSetIterable iter X.env x = pure x := by intro _; rfl) :
    PE X (.SetComp elt (⟨tg, iter, [], 0⟩ :: rest) scope pos) (tScN X.prog X.w wi g tp (own.map (·.2))) := by
  refine ⟨fun pins s σ H Q I h => ?_⟩
  rw [show eval (.SetComp elt (⟨tg, iter, [], 0⟩ :: rest) scope pos) X.env = comprehension (.SetComp elt (⟨tg, iter, [], 0⟩ :: rest) scope pos) scope X.env (firstIterPos (⟨tg, iter, [], 0⟩ :: rest) pos) (newSet (.type "set")) false (eval iter X.env) from rfl]
  have caught : ∀ y ∈ scope.names, y.2 = .free → ∃ c, X.env.cells.lookup y.1 = some c := fun y hy e => by
    rcases ok.free y hy e with k | k
    · exact I.ok.has _ (.inl k)
    · exact I.ok.has _ (.inr k)
  refine wpAny_comprehension_free (use := none) rfl hs (closure_ok caught) ok.kind (fun y hy e => by rw [ok.uniq y hy, e]) (thn (hi.run pins s σ H _ I h) fun xv s1 hx => thn hx fun itv s2 h2 => ?_)
  obtain ⟨it, fp, tn, J, H2, rfl, I2, T, st2, f2, q⟩ := h2
  refine PpSet.newSet_ok (newEnv_comp ?_)
  generalize hD : s2.heap.objs.size = D
  obtain ⟨W, ⟨m0, w0⟩, turn⟩ := q D (I2.hok.fresh (Nat.le_of_eq hD))
  have fb : ∀ b ∈ fp, b < s2.heap.objs.size := fun b hb => let ⟨o, e, _⟩ := T.obj _ _ st2 b hb; Heap.lt_size e
  have nw := setS_new X.w X.prog s2.heap
  generalize hnew : s2.heap.push { cls := .type "set", dict := none, data := .set #[] 0 (.fresh 0 0 (!X.w.params.followText "set-order")) } = h3 at nw
  have keep3 : ∀ b o, s2.heap.get? b = some o → h3.get? b = some o := fun b o e => by rw [← hnew]; exact Heap.get?_push_of_some _ e
  have size3 : h3.objs.size = s2.heap.objs.size + 1 := by rw [← hnew, Heap.size_push]
  rw [hD] at nw
  have I3 : Inv X pins σ (upd H2 D (SetSO X.prog X.w D [])) { s2 with heap := h3 } := I2.laid (t' := s2.toks) keep3 (Nat.le_of_eq hD) (setSO_new nw)
  have f3 : ∀ b ∈ fp, FpOk X pins (upd H2 D (SetSO X.prog X.w D [])) b ∧ b < h3.objs.size := fun b hb => by
    refine ⟨⟨?_, (f2 b hb).2⟩, by rw [size3]; exact Nat.lt_succ_of_lt (fb b hb)⟩
    rw [upd_ne (by rw [← hD]; exact Nat.ne_of_lt (fb b hb))]
    exact (f2 b hb).1
  have st3 : tn 0 h3 := T.keep _ _ _ st2 fun b _ o e => keep3 b o e
  generalize hs3 : ({ s2 with heap := h3 } : Shared) = s3 at I3
  have eh : s3.heap = h3 := by rw [← hs3]
  rw [← eh] at st3 f3 size3
  have I4 := block_start I3 ok hN f3
  generalize hH3 : upd H2 D (SetSO X.prog X.w D []) = H3 at I3 I4 w0 f3
  show codeAny _ _ (.compStart (.SetComp elt (⟨tg, iter, [], 0⟩ :: rest) scope pos) 0 (.ref it) (.ref D) (compEnvC scope (cellsFrom (s3.heap.objs.size + 1) scope.names (cloFrom X.env.cells scope.names [])) s3.heap.objs.size X.env))
    (compPost (model X.prog X.w) X.A X.xe none (EP X pins σ Q) (.ref D) s3.heap.objs.size) { s3 with heap := pushCells (s3.heap.push { cls := .type "dict", data := .dict #[] }) scope.names }
  have pg := hg s3 H3 s3.heap.objs.size (cellsFrom (s3.heap.objs.size + 1) scope.names (cloFrom X.env.cells scope.names [])) fp
  have pp := hp D s3 H3 s3.heap.objs.size (cellsFrom (s3.heap.objs.size + 1) scope.names (cloFrom X.env.cells scope.names [])) fp
  generalize hce : compEnvC scope (cellsFrom (s3.heap.objs.size + 1) scope.names (cloFrom X.env.cells scope.names [])) s3.heap.objs.size X.env = ce at I4 pg pp ⊢
  have cL : ce.locals = s3.heap.objs.size := by rw [← hce]; rfl
  generalize hs4 : ({ s3 with heap := pushCells (s3.heap.push { cls := .type "dict", data := .dict #[] }) scope.names } : Shared) = s4 at I4 ⊢
  have st4 : tn 0 s4.heap := by
    rw [← hs4]
    exact T.keep _ _ _ st3 fun b _ o e => pushCells_keeps _ _ _ _ (Heap.get?_push_of_some _ e)
  have pinned : ∀ {σ' : L2.St} {H' : Hp} {s' : Shared}, Inv (X.blk s3 H3 scope ce fp) [] σ' H' s' → (∀ b ∈ fp, H' b = none) → ∀ b ∈ fp, FpOk (X.blk s3 H3 scope ce fp) [] H' b := fun {σ' H' s'} I' hn b hb =>
    ⟨hn b hb, (I'.ok.exf b hb).1, I'.ok.exfs b hb, .inl hb, fun x c e => (I'.ok.exf b hb).2 x c e, fun p hp => absurd (show p ∈ ([] : List (Addr × Obj)) ++ [] from hp) (by simp)⟩
  have loop : codeAny (model X.prog X.w) X.A (.compLoop (.SetComp elt (⟨tg, iter, [], 0⟩ :: rest) scope pos) 0 (.ref it) (.ref D) ce) (compPost (model X.prog X.w) X.A X.xe none (EP X pins σ Q) (.ref D) s3.heap.objs.size) s4 := by
    refine hL _ _ _ _ (fun n s' => ∃ i H', Inv (X.blk s3 H3 scope ce fp) [] (wipe σ (own.map (·.2))) H' s' ∧ tn i s'.heap ∧ (∀ b ∈ fp, H' b = none) ∧ W i n H') ?_ m0 _ ⟨0, H3, I4, st4, fun b hb => (f3 b hb).1.1, w0⟩
    rintro n s5 ⟨i, H5, I5, st5, n5, w5⟩
    rcases turn i n H5 w5 with ⟨stop, qq⟩ | ⟨go, Nx, hNx, step⟩
    · refine thnF (T.done (X.blk s3 H3 scope ce fp) rfl rfl rfl hc i [] s5 _ H5 NoE I5 (pinned I5 n5) st5 stop) fun r s6 ⟨hr, I6⟩ => ?_
      subst hr
      have I7 : Inv X pins σ H5 s6 := I3.call' (ch := fp) I6.os I6.base I6.hok I6.bare fun b hb => ⟨(f3 b hb).1.2.2.2.1, (f3 b hb).1.2.1, (f3 b hb).1.2.2.2.2.1, (f3 b hb).1.2.2.2.2.2⟩
      have free5 : H5 ce.locals = none := I6.free
      obtain ⟨m, hn, _⟩ := I6.loc
      have hn : s6.heap.Ns ce.locals m := hn
      rw [cL] at hn free5
      obtain ⟨f0, f1, _, g3, f4, f5⟩ := I3.fpOk (Nat.le_refl _) free5
      exact ⟨m, hn, fun h'' sb => ⟨.ref D, H5, I7.turned (t' := s6.toks) (fun b o hb e => (sb.2 b hb).trans e) f0 f1 g3 f4 f5, rfl, qq⟩⟩
    · refine thnF (T.item (X.blk s3 H3 scope ce fp) rfl rfl rfl hc i [] s5 _ H5 NoE I5 (pinned I5 n5) st5 go) fun r s6 ⟨u, hr, h6⟩ => ?_
      subst hr
      refine thnF h6 fun _ s7 ⟨x, H7, I7, r7, y7, st7, n7⟩ => ?_
      have I7p := I7.pinned (pinned I7 n7) (T.obj _ _ st7)
      refine thnF (pg.run _ s7 _ H7 x u _ I7p r7 (step x H7 y7)) fun _ s8 ⟨σ8, H8, I8, hw8, q8⟩ => ?_
      refine pp.run _ s8 σ8 H8 Nx _ I8 q8 fun H13 s13 I13 nx => ?_
      obtain ⟨m', hm, w'⟩ := hNx H13 nx
      have pin' : ∀ b ∈ fp, ∀ o, s7.heap.get? b = some o → s13.heap.get? b = some o ∧ H13 b = none := fun b hb o e =>
        let z := I13.pin (b, o) (List.mem_append_right _ (List.mem_append_right _ (mem_pinsAt hb e)))
        ⟨z.1, z.2.1⟩
      refine ⟨m', hm, i + 1, H13, (I13.unpinned (pins := [])).weak ?_ (fun j v e => ?_), T.keep _ _ _ st7 fun b hb o e => (pin' b hb o e).1, fun b hb => ?_, w'⟩
      · have z := congrArg List.length hw8
        rw [wipe_length, wipe_length] at z
        rw [wipe_length, wipe_length]
        exact z.symm
      · rw [← hw8] at e
        obtain ⟨e1, e2⟩ := wipe_some e
        rw [wipe_out fun z => e2 (hv j z)]
        exact e1
      · obtain ⟨o, e, _⟩ := T.obj _ _ st7 b hb
        exact (pin' b hb o e).2
  exact PpSet.codeAny_compStart_set loop (T.self X.A 0 _ _ _ st4 loop)
theorem pe_lcN {elt tg iter : Expr} {rest : List Comprehension} {scope : Scope} {own : List (Str × Nat)} {vs' : List Nat} {pos : Pos} {wi : TI} {g : TG} {pw : PWt} {tp : Addr → L2.St → Hp → (Hp → Prop) → Prop} (hc : X.calm = true) (hN : X.N.Nodup) (hi : PI X tg iter wi) (ok : BlkOk X.N X.env.scope scope own) (hv : ∀ i ∈ vs', i ∈ own.map (·.2))
    (hg : InBlk X scope fun Y => PG Y tg g) (hp : ∀ D, InBlk X scope fun Y => PPart Y pw (.ref D) (tp D) vs')
    (hL : LoopOk X.prog X.w X.A (.ListComp elt (⟨tg, iter, [], 0⟩ :: rest) scope pos) 0 tg pw)
    (hs : ∀ x, foldedSetIterable iter X.env x = pure x := by intro _; rfl) :
    PE X (.ListComp elt (⟨tg, iter, [], 0⟩ :: rest) scope pos) (tLcN wi g tp (own.map (·.2))) := by
  refine ⟨fun pins s σ H Q I h => ?_⟩
  rw [show eval (.ListComp elt (⟨tg, iter, [], 0⟩ :: rest) scope pos) X.env = comprehension (.ListComp elt (⟨tg, iter, [], 0⟩ :: rest) scope pos) scope X.env (firstIterPos (⟨tg, iter, [], 0⟩ :: rest) pos) (newList []) false (eval iter X.env) from rfl]
  have caught : ∀ y ∈ scope.names, y.2 = .free → ∃ c, X.env.cells.lookup y.1 = some c := fun y hy e => by
    rcases ok.free y hy e with k | k
    · exact I.ok.has _ (.inl k)
    · exact I.ok.has _ (.inr k)
  refine wpAny_comprehension_free (use := none) rfl hs (closure_ok caught) ok.kind (fun y hy e => by rw [ok.uniq y hy, e]) (thn (hi.run pins s σ H _ I h) fun xv s1 hx => thn hx fun itv s2 h2 => ?_)
  obtain ⟨it, fp, tn, J, H2, rfl, I2, T, st2, f2, q⟩ := h2
  refine wpAny_newObj_type (newEnv_comp ?_) (by show 0 ≤ sizeLine; decide)
  generalize hD : s2.heap.objs.size = D
  obtain ⟨W, ⟨m0, w0⟩, turn⟩ := q D (I2.hok.fresh (Nat.le_of_eq hD))
  have fb : ∀ b ∈ fp, b < s2.heap.objs.size := fun b hb => let ⟨o, e, _⟩ := T.obj _ _ st2 b hb; Heap.lt_size e
  generalize hs3 : ({ s2 with heap := s2.heap.push { cls := .type "list", data := .seq ([] : List Value).toArray } } : Shared) = s3
  have I3 : Inv X pins σ (upd H2 D (.lst [])) s3 := by
    rw [← hs3]
    refine I2.laid (t' := s2.toks) (fun b o e => Heap.get?_push_of_some _ e) (Nat.le_of_eq hD) ⟨Nat.zero_le _, [], 0, .nil, ?_⟩
    rw [← hD]
    exact Heap.get?_push_size _ rfl
  have h3 : s3.heap = s2.heap.push { cls := .type "list", data := .seq ([] : List Value).toArray } := by rw [← hs3]
  have f3 : ∀ b ∈ fp, FpOk X pins (upd H2 D (.lst [])) b ∧ b < s3.heap.objs.size := fun b hb => by
    have hlt := fb b hb
    refine ⟨⟨?_, (f2 b hb).2⟩, by rw [h3, Heap.size_push]; exact Nat.lt_succ_of_lt hlt⟩
    rw [upd_ne (by rw [← hD]; exact Nat.ne_of_lt hlt)]
    exact (f2 b hb).1
  have st3 : tn 0 s3.heap := T.keep _ _ _ st2 fun b _ o e => by rw [h3]; exact Heap.get?_push_of_some _ e
  have I4 := block_start I3 ok hN f3
  generalize hH3 : upd H2 D (.lst []) = H3 at I3 I4 w0 f3
  show codeAny _ _ (.compStart (.ListComp elt (⟨tg, iter, [], 0⟩ :: rest) scope pos) 0 (.ref it) (.ref D) (compEnvC scope (cellsFrom (s3.heap.objs.size + 1) scope.names (cloFrom X.env.cells scope.names [])) s3.heap.objs.size X.env))
    (compPost (model X.prog X.w) X.A X.xe none (EP X pins σ Q) (.ref D) s3.heap.objs.size) { s3 with heap := pushCells (s3.heap.push { cls := .type "dict", data := .dict #[] }) scope.names }
  have pg := hg s3 H3 s3.heap.objs.size (cellsFrom (s3.heap.objs.size + 1) scope.names (cloFrom X.env.cells scope.names [])) fp
  have pp := hp D s3 H3 s3.heap.objs.size (cellsFrom (s3.heap.objs.size + 1) scope.names (cloFrom X.env.cells scope.names [])) fp
  generalize hce : compEnvC scope (cellsFrom (s3.heap.objs.size + 1) scope.names (cloFrom X.env.cells scope.names [])) s3.heap.objs.size X.env = ce at I4 pg pp ⊢
  have cL : ce.locals = s3.heap.objs.size := by rw [← hce]; rfl
  generalize hs4 : ({ s3 with heap := pushCells (s3.heap.push { cls := .type "dict", data := .dict #[] }) scope.names } : Shared) = s4 at I4 ⊢
  have st4 : tn 0 s4.heap := by
    rw [← hs4]
    exact T.keep _ _ _ st3 fun b _ o e => pushCells_keeps _ _ _ _ (Heap.get?_push_of_some _ e)
  have pinned : ∀ {σ' : L2.St} {H' : Hp} {s' : Shared}, Inv (X.blk s3 H3 scope ce fp) [] σ' H' s' → (∀ b ∈ fp, H' b = none) → ∀ b ∈ fp, FpOk (X.blk s3 H3 scope ce fp) [] H' b := fun {σ' H' s'} I' hn b hb =>
    ⟨hn b hb, (I'.ok.exf b hb).1, I'.ok.exfs b hb, .inl hb, fun x c e => (I'.ok.exf b hb).2 x c e, fun p hp => absurd (show p ∈ ([] : List (Addr × Obj)) ++ [] from hp) (by simp)⟩
  have loop : codeAny (model X.prog X.w) X.A (.compLoop (.ListComp elt (⟨tg, iter, [], 0⟩ :: rest) scope pos) 0 (.ref it) (.ref D) ce) (compPost (model X.prog X.w) X.A X.xe none (EP X pins σ Q) (.ref D) s3.heap.objs.size) s4 := by
    refine hL _ _ _ _ (fun n s' => ∃ i H', Inv (X.blk s3 H3 scope ce fp) [] (wipe σ (own.map (·.2))) H' s' ∧ tn i s'.heap ∧ (∀ b ∈ fp, H' b = none) ∧ W i n H') ?_ m0 _ ⟨0, H3, I4, st4, fun b hb => (f3 b hb).1.1, w0⟩
    rintro n s5 ⟨i, H5, I5, st5, n5, w5⟩
    rcases turn i n H5 w5 with ⟨stop, qq⟩ | ⟨go, Nx, hNx, step⟩
    · refine thnF (T.done (X.blk s3 H3 scope ce fp) rfl rfl rfl hc i [] s5 _ H5 NoE I5 (pinned I5 n5) st5 stop) fun r s6 ⟨hr, I6⟩ => ?_
      subst hr
      have I7 : Inv X pins σ H5 s6 := I3.call' (ch := fp) I6.os I6.base I6.hok I6.bare fun b hb => ⟨(f3 b hb).1.2.2.2.1, (f3 b hb).1.2.1, (f3 b hb).1.2.2.2.2.1, (f3 b hb).1.2.2.2.2.2⟩
      have free5 : H5 ce.locals = none := I6.free
      obtain ⟨m, hn, _⟩ := I6.loc
      have hn : s6.heap.Ns ce.locals m := hn
      rw [cL] at hn free5
      obtain ⟨f0, f1, _, g3, f4, f5⟩ := I3.fpOk (Nat.le_refl _) free5
      exact ⟨m, hn, fun h'' sb => ⟨.ref D, H5, I7.turned (t' := s6.toks) (fun b o hb e => (sb.2 b hb).trans e) f0 f1 g3 f4 f5, rfl, qq⟩⟩
    · refine thnF (T.item (X.blk s3 H3 scope ce fp) rfl rfl rfl hc i [] s5 _ H5 NoE I5 (pinned I5 n5) st5 go) fun r s6 ⟨u, hr, h6⟩ => ?_
      subst hr
      refine thnF h6 fun _ s7 ⟨x, H7, I7, r7, y7, st7, n7⟩ => ?_
      have I7p := I7.pinned (pinned I7 n7) (T.obj _ _ st7)
      refine thnF (pg.run _ s7 _ H7 x u _ I7p r7 (step x H7 y7)) fun _ s8 ⟨σ8, H8, I8, hw8, q8⟩ => ?_
      refine pp.run _ s8 σ8 H8 Nx _ I8 q8 fun H13 s13 I13 nx => ?_
      obtain ⟨m', hm, w'⟩ := hNx H13 nx
      have pin' : ∀ b ∈ fp, ∀ o, s7.heap.get? b = some o → s13.heap.get? b = some o ∧ H13 b = none := fun b hb o e =>
        let z := I13.pin (b, o) (List.mem_append_right _ (List.mem_append_right _ (mem_pinsAt hb e)))
        ⟨z.1, z.2.1⟩
      refine ⟨m', hm, i + 1, H13, (I13.unpinned (pins := [])).weak ?_ (fun j v e => ?_), T.keep _ _ _ st7 fun b hb o e => (pin' b hb o e).1, fun b hb => ?_, w'⟩
      · have z := congrArg List.length hw8
        rw [wipe_length, wipe_length] at z
        rw [wipe_length, wipe_length]
        exact z.symm
      · rw [← hw8] at e
        obtain ⟨e1, e2⟩ := wipe_some e
        rw [wipe_out fun z => e2 (hv j z)]
        exact e1
      · obtain ⟨o, e, _⟩ := T.obj _ _ st7 b hb
        exact (pin' b hb o e).2
  exact codeAny_compStart_list loop (T.self X.A 0 _ _ _ st4 loop)
/-- three clauses -/
theorem pe_sc3 {elt t0 i0 t1 i1 t2 i2 : Expr} {scope : Scope} {own : List (Str × Nat)} {v1 v2 : List Nat} {pos : Pos} {w0 w1 w2 : TI} {g0 g1 g2 : TG} {te : TE} (hc : X.calm = true) (hN : X.N.Nodup) (ok : BlkOk X.N X.env.scope scope own) (hv1 : ∀ i ∈ v1, i ∈ own.map (·.2)) (hv2 : ∀ i ∈ v2, i ∈ v1)
    (hi0 : PI X t0 i0 w0) (hg0 : InBlk X scope fun Y => PG Y t0 g0) (hi1 : InBlk X scope fun Y => PI Y t1 i1 w1) (hg1 : InBlk X scope fun Y => PG Y t1 g1) (hi2 : InBlk X scope fun Y => PI Y t2 i2 w2) (hg2 : InBlk X scope fun Y => PG Y t2 g2) (he : InBlk X scope fun Y => PE Y elt te)
    (hs : ∀ x, foldedSetIterable i0 X.env x = pure x := by intro _; rfl) (hs1 : ∀ env x, foldedSetIterable i1 env x = pure x := by intro _ _; rfl) (hs2 : ∀ env x, foldedSetIterable i2 env x = pure x := by intro _ _; rfl) :
    PE X (sc3 elt t0 i0 t1 i1 t2 i2 scope pos) (tScN X.prog X.w w0 g0 (fun D => tMid w1 g1 (tMid w2 g2 (tAddS X.prog X.w D te) v2) v1) (own.map (·.2))) := by
  refine pe_scN hc hN hi0 ok hv1 hg0 (fun D s H C cl fp => ?_) (sc3_l0 hs1) hs
  refine part_mid rfl hc hv2 (hi1 s H C cl fp) (hg1 s H C cl fp) ?_ (sc3_l1 hs2) sc3_s1
  exact part_mid rfl hc (fun _ h => absurd h List.not_mem_nil) (hi2 s H C cl fp) (hg2 s H C cl fp) (part_addS rfl (he s H C cl fp)) sc3_l2 sc3_s2
theorem pe_lc3 {elt t0 i0 t1 i1 t2 i2 : Expr} {scope : Scope} {own : List (Str × Nat)} {v1 v2 : List Nat} {pos : Pos} {w0 w1 w2 : TI} {g0 g1 g2 : TG} {te : TE} (hc : X.calm = true) (hN : X.N.Nodup) (ok : BlkOk X.N X.env.scope scope own) (hv1 : ∀ i ∈ v1, i ∈ own.map (·.2)) (hv2 : ∀ i ∈ v2, i ∈ v1)
    (hi0 : PI X t0 i0 w0) (hg0 : InBlk X scope fun Y => PG Y t0 g0) (hi1 : InBlk X scope fun Y => PI Y t1 i1 w1) (hg1 : InBlk X scope fun Y => PG Y t1 g1) (hi2 : InBlk X scope fun Y => PI Y t2 i2 w2) (hg2 : InBlk X scope fun Y => PG Y t2 g2) (he : InBlk X scope fun Y => PE Y elt te)
    (hs : ∀ x, foldedSetIterable i0 X.env x = pure x := by intro _; rfl) (hs1 : ∀ env x, foldedSetIterable i1 env x = pure x := by intro _ _; rfl) (hs2 : ∀ env x, foldedSetIterable i2 env x = pure x := by intro _ _; rfl) :
    PE X (lc3 elt t0 i0 t1 i1 t2 i2 scope pos) (tLcN w0 g0 (fun D => tMid w1 g1 (tMid w2 g2 (tAddL D te) v2) v1) (own.map (·.2))) := by
  refine pe_lcN hc hN hi0 ok hv1 hg0 (fun D s H C cl fp => ?_) (lc3_l0 hs1) hs
  refine part_mid rfl hc hv2 (hi1 s H C cl fp) (hg1 s H C cl fp) ?_ (lc3_l1 hs2) lc3_s1
  exact part_mid rfl hc (fun _ h => absurd h List.not_mem_nil) (hi2 s H C cl fp) (hg2 s H C cl fp) (part_addL rfl (he s H C cl fp)) lc3_l2 lc3_s2
end
end L2

set_option Elab.async false
set_option linter.all false
set_option maxRecDepth 100000
set_option maxHeartbeats 1000000
/-! a + b, a * b, -a where a is an instance of an own class that says what they are. -/
namespace L2
open PySem PySem.Spec PyProof.Rows
theorem back_of {X : Cx} {pins : List (Addr × Obj)} {σ : St} {Q : VK} {u : Value} {s : Shared} (h : EP X pins σ Q u s) : PySem.W.CmpBack (EP X pins σ Q) u s := by
  obtain ⟨v, H, I, r, q⟩ := h
  have h : EP X pins σ Q u s := ⟨v, H, I, r, q⟩
  cases v with
  | non => obtain rfl := (show u = Value.none from r); exact h
  | bl b => obtain rfl := (show u = Value.bool b from r); exact h
  | int i => obtain ⟨t, rfl⟩ := (show ∃ t, u = Value.int i t from r); exact h
  | str i => obtain ⟨t, rfl⟩ := (show ∃ t, u = Value.str i t from r); exact h
  | byt i => obtain ⟨t, rfl⟩ := (show ∃ t, u = Value.bytes i t from r); exact h
  | flt i => obtain ⟨t, rfl⟩ := (show ∃ t, u = Value.float i t from r); exact h
  | ref a => obtain rfl := (show u = Value.ref a from r); exact h
  | ty n => obtain rfl := (show u = Value.type n from r); exact h
/-- what the class says of an operator's method -/
structure OwnOp (K : PySem.W.Frag) (C : Addr) (name : Str) (f : Addr) : Prop where
  first : PySem.W.selfFirst K C = true
  has : PySem.W.findIn K (.ref C) name = some (some (.ref f))
  fn : PySem.W.isFn K (.ref f) = true
/-- the same where the right side is a whole number: int's own slots, and no reflected method of the class's -/
structure OwnOpI (K : PySem.W.Frag) (C : Addr) (name : String) (f : Addr) : Prop where
  one : OwnOp K C (PySem.dunder name) f
  refl : ∃ rc, PySem.W.findIn K (.ref C) (dunderR name) = some rc ∧ (rc = none ∨ ∃ g : Addr, rc = some (.ref g))
  i1 : ∃ fo, PySem.W.findIn K (.type "int") (PySem.dunder name) = some fo
  i2 : ∃ ro, PySem.W.findIn K (.type "int") (dunderR name) = some ro
  sub : PySem.W.subIn K (.type "int") (.ref C) = some false
section
variable {X : Cx} {op : Operator} {C f : Addr} {fd : FuncData} {ps : List Str} {sp : Sp} {k : Nat}
theorem inst_of {pins : List (Addr × Obj)} {σ : St} {H : Hp} {s : Shared} {p dx : Addr} {fs : List (Str × V)} (I : Inv X pins σ H s) (e : H p = some (.ins C dx fs)) : ∃ ox od, PySem.W.InstAt s.heap p ox C od := by
  obtain ⟨mA, O, _⟩ := ins_get I.hok e
  obtain ⟨od, J, _⟩ := O.look
  exact ⟨_, _, J⟩
end
end L2

set_option Elab.async false
set_option linter.all false
set_option maxRecDepth 100000
set_option maxHeartbeats 1000000
/-! rows without forms: what is said of heaps, tests, powers -/
namespace L2
open PySem PySem.Spec PyProof.Rows
theorem iteD {p : Prop} [Decidable p] {A B : Prop} (h1 : p → A) (h2 : ¬ p → B) : if decide p = true then A else B := by
  by_cases h : p
  · rw [if_pos (decide_eq_true h)]; exact h1 h
  · rw [if_neg (by simpa using h)]; exact h2 h
theorem ifT {b : Bool} {A B : Prop} (h : b = true) (x : A) : if b = true then A else B := by rw [if_pos h]; exact x
theorem ifF {b : Bool} {A B : Prop} (h : b = false) (x : B) : if b = true then A else B := by rw [if_neg (by rw [h]; exact Bool.false_ne_true)]; exact x
def CPowX (i j : Int) : Prop := 0 ≤ j ∧ (Builtin.Int.intBits i : Int) * j ≤ 2 ^ 27
theorem op_powX {X : Cx} : OpR X (binaryOp .Pow) (rI CPowX fun i j => .int (i ^ j.toNat)) := opI fun _ _ _ _ _ _ _ hc q => pow_int hc.1 hc.2 q
/-- all but D as it was -/
def SameB (D : Addr) (H H' : Hp) : Prop := ∀ b o, b ≠ D → H b = some o → H' b = some o
theorem SameB.refl (D : Addr) (H : Hp) : SameB D H H := fun _ _ _ h => h
theorem SameB.to {D : Addr} {H H1 H2 : Hp} (S : SameB D H H1) (T : Same H1 H2) : SameB D H H2 := fun b o n h => T b o (S b o n h)
theorem SameB.trans {D : Addr} {H H1 H2 : Hp} (S : SameB D H H1) (T : SameB D H1 H2) : SameB D H H2 := fun b o n h => T b o n (S b o n h)
theorem SameB.upd {D : Addr} {H H1 : Hp} {o : HO} (S : SameB D H H1) : SameB D H (L2.upd H1 D o) := fun b u n h => by rw [upd_ne n]; exact S b u n h
theorem SqL.same {K : PySem.W.Frag} {H H' : Hp} {a : Addr} {xs : List V} (h : SqL K H a xs) (S : Same H H') : SqL K H' a xs := by
  rcases h with (h | ⟨o, h⟩) | h
  · exact .inl (.inl (S _ _ h))
  · exact .inl (.inr ⟨o, S _ _ h⟩)
  · exact .inr h
theorem SqL.sameB {K : PySem.W.Frag} {D : Addr} {H H' : Hp} {a : Addr} {xs : List V} (h : SqL K H a xs) (S : SameB D H H') (n : a ≠ D) : SqL K H' a xs := by
  rcases h with (h | ⟨o, h⟩) | h
  · exact .inl (.inl (S _ _ n h))
  · exact .inl (.inr ⟨o, S _ _ n h⟩)
  · exact .inr h
theorem seq_asg {te : TE} {i : Nat} {u : TS} {D : Ends} {σ : St} {H : Hp} (h : te σ H fun x H1 => u D (σ.set i (some x)) H1) : tSeq (tAsg te (gName i)) u D σ H := h
theorem te_mid {t : TE} {σ : St} {H : Hp} {Q : VK} (G : V → Hp → Prop) (h : ∀ R : VK, (∀ x H', G x H' → R x H') → t σ H R) (k : ∀ x H', G x H' → Q x H') : t σ H Q := h Q k
theorem ts_mid {t u : TS} {D : Ends} {σ : St} {H : Hp} (G : St → Hp → Prop) (h : ∀ N : St → Hp → Prop, (∀ σ' H', G σ' H' → N σ' H') → t { D with nx := N } σ H) (k : ∀ σ' H', G σ' H' → u D σ' H') : tSeq t u D σ H := h _ k
theorem cut_ints (ns : List Int) (lo hi : Option Int) : ∃ ms : List Int, cutV (ns.map V.int) lo hi = ms.map V.int :=
  ⟨(ns.drop (HT.sIx (ns.map V.int).length 0 lo)).take (HT.sIx (ns.map V.int).length (ns.map V.int).length hi - HT.sIx (ns.map V.int).length 0 lo), by unfold cutV; rw [← List.map_drop, ← List.map_take]⟩
end L2

set_option Elab.async false
set_option linter.all false
set_option maxRecDepth 100000
set_option maxHeartbeats 1000000
/-! tuples whose object is known to have no dict: made, and called by their methods -/
namespace L2
open PySem PySem.Spec PyProof.Rows
/-- a tuple that this program made: its object bears no dict -/
def TupN (H : Hp) (q : Addr) (xs : List V) : Prop := ∃ o : Obj, H q = some (.frz o (.tup xs)) ∧ o.dict = none
theorem TupN.sq {K : PySem.W.Frag} {H : Hp} {q : Addr} {xs : List V} (h : TupN H q xs) : SqT K H q xs := let ⟨o, h1, _⟩ := h; .inl (.inr ⟨o, h1⟩)
theorem TupN.same {H H' : Hp} {q : Addr} {xs : List V} (h : TupN H q xs) (S : Same H H') : TupN H' q xs := let ⟨o, h1, h2⟩ := h; ⟨o, S _ _ h1, h2⟩
theorem TupN.sameB {D : Addr} {H H' : Hp} {q : Addr} {xs : List V} (h : TupN H q xs) (S : SameB D H H') (n : q ≠ D) : TupN H' q xs := let ⟨o, h1, h2⟩ := h; ⟨o, S _ _ n h1, h2⟩
section
variable {X : Cx} {o e : Expr} {es : List Expr} {to : TE} {t : TA} {name : Str} {apos cpos : Pos} {id : String} {r : V → List V → Hp → VK → Prop}
end
end L2

set_option Elab.async false
set_option linter.all false
set_option maxRecDepth 100000
set_option maxHeartbeats 1000000
/-! dicts whose keys are such tuples: found, stored, made -/
namespace L2
open PySem PySem.Spec PyProof.Rows
abbrev KAV := List (List Key × Addr × Value)
def DnR (P : Program) (w : World) (h : Heap) (d : Addr) (xs : KAV) : Prop := xs.length ≤ sizeLine ∧ (d == sysModules) = false ∧ (xs.map (·.1)).Nodup ∧
  ∃ o es ep, h.get? d = some o ∧ o.ExactDict ∧ o.data = .dict es ep ∧ es.toList = xs.map (entryOfKey (tupleKind (mixKind P w)))
/-- such a dict at d -/
def DnO (P : Program) (w : World) (d : Addr) (xs : KAV) : HO := .ext fun h => DnR P w h d xs
theorem DnR.at {P : Program} {w : World} {h h' : Heap} {d : Addr} {xs : KAV} (R : DnR P w h d xs) (k : ∀ o, h.get? d = some o → h'.get? d = some o) : DnR P w h' d xs :=
  let ⟨a, b, c, o, es, ep, e1, e2⟩ := R
  ⟨a, b, c, o, es, ep, k _ e1, e2⟩
/-- the keys stand as tuples without a dict of their own -/
def KeysN (H : Hp) (xs : KAV) : Prop := ∀ x ∈ xs, TupN H x.2.1 (x.1.map kV)
theorem KeysN.same {H H' : Hp} {xs : KAV} (h : KeysN H xs) (S : Same H H') : KeysN H' xs := fun x hx => (h x hx).same S
section
variable {X : Cx} {pins : List (Addr × Obj)} {σ : St} {H : Hp} {s : Shared} {d b : Addr} {xs : KAV} {k : List Key}
end
section
variable {X : Cx}
end
end L2

set_option Elab.async false
set_option linter.all false
set_option maxRecDepth 100000
set_option maxHeartbeats 2000000
/-! for .. in d, d.values(), d.items(): d a dict whose keys are tuples without a dict of their own -/
namespace L2
open PySem PySem.Spec PyProof.Rows
/-- keys, their places, the places of the values -/
abbrev NAV := List (List Key × Addr × Addr)
section
variable {X : Cx} {pins : List (Addr × Obj)} {σ : St} {H : Hp} {s : Shared} {d : Addr} {o : Obj} {l : NAV}
end
section
variable {P : Program} {w : World} {K : PySem.W.Frag} {tg : Expr} {d : Addr} {o : Obj} {es : Array DictEntry} {ep : Nat} {l : NAV}
end
section
variable {X : Cx} {tg e : Expr} {td : TE} {apos cpos : Pos}
end
section
variable {P : Program} {w : World} {d : Addr} {o : Obj} {l : NAV}
end
end L2

set_option Elab.async false
set_option linter.all false
set_option maxRecDepth 100000
set_option maxHeartbeats 1000000
/-! such dicts: d[k], d.get(k, x), d[k] = v, {} -/
namespace L2
open PySem PySem.Spec PyProof.Rows
def findN (l : NAV) (k : List Key) : Option (Addr × Addr) := (l.find? fun x => decide (x.1 = k)).map (·.2)
def putN (l : NAV) (k : List Key) (b a : Addr) : NAV := if (findN l k).isSome = true then l.map (fun x => if x.1 = k then (x.1, x.2.1, a) else x) else l ++ [(k, b, a)]
/-- the keys stand -/
def KeysD (H : Hp) (l : NAV) : Prop := ∀ x ∈ l, TupN H x.2.1 (x.1.map kV)
theorem KeysD.same {H H' : Hp} {l : NAV} (h : KeysD H l) (S : Same H H') : KeysD H' l := fun x hx => (h x hx).same S
theorem KeysD.sameB {D : Addr} {H H' : Hp} {l : NAV} {P : Program} {w : World} {m : KAV} (h : KeysD H l) (S : SameB D H H') (hD : H D = some (DnO P w D m)) : KeysD H' l := fun x hx => (h x hx).sameB S fun e => by
  obtain ⟨o, h1, _⟩ := h x hx
  rw [e, hD] at h1
  cases h1
theorem KeysD.put {H : Hp} {l : NAV} {k : List Key} {b a : Addr} (h : KeysD H l) (hb : TupN H b (k.map kV)) : KeysD H (putN l k b a) := by
  unfold putN
  split
  · intro x hx
    obtain ⟨y, hy, rfl⟩ := List.mem_map.mp hx
    by_cases e : y.1 = k
    · rw [if_pos e]; exact h y hy
    · rw [if_neg e]; exact h y hy
  · intro x hx
    rcases List.mem_append.mp hx with hx | hx
    · exact h x hx
    · rw [List.mem_singleton.mp hx]; exact hb
section
variable {X : Cx} {o e f : Expr} {apos cpos pos : Pos} {td ty tx : TE}
end
end L2

set_option Elab.async false
set_option linter.all false
set_option maxRecDepth 100000
set_option maxHeartbeats 2000000
/-! {k: v for target in iter if ..} whose keys are tuples; items() of such a dict. -/
namespace L2
open PySem PySem.Spec PyProof.Rows
section
variable {X : Cx} {kx vx tg iter : Expr} {ifs : List Expr} {scope : Scope} {own : List (Str × Nat)} {pos : Pos} {wi : TI} {g : TG} {tt : TT} {tk tv : TE}
/-- a comprehension's block may be read in any state of the block's own context -/
structure BlkRN (X : Cx) (tg kx vx : Expr) (ifs : List Expr) (scope : Scope) (g : TG) (tt : TT) (tk tv : TE) : Prop where
  tg : ∀ (s : Shared) (H : Hp) (C : Addr) (cl : List (Str × Addr)) (fp : List Addr), PG (X.blk s H scope (compEnvC scope cl C X.env) fp) tg g
  ifs : ∀ (s : Shared) (H : Hp) (C : Addr) (cl : List (Str × Addr)) (fp : List Addr), PTs (X.blk s H scope (compEnvC scope cl C X.env) fp) ifs tt
  key : ∀ (s : Shared) (H : Hp) (C : Addr) (cl : List (Str × Addr)) (fp : List Addr), PE (X.blk s H scope (compEnvC scope cl C X.env) fp) kx tk
  val : ∀ (s : Shared) (H : Hp) (C : Addr) (cl : List (Str × Addr)) (fp : List Addr), PE (X.blk s H scope (compEnvC scope cl C X.env) fp) vx tv
end
end L2

set_option Elab.async false
set_option linter.all false
set_option maxRecDepth 100000
set_option maxHeartbeats 1000000
/-! {k: v}, k a tuple without a dict of its own; (a, b) as such a tuple -/
namespace L2
open PySem PySem.Spec PyProof.Rows
section
variable {X : Cx} {k v : Expr} {tk tv : TE} {pos : Pos}
end
end L2

set_option Elab.async false
set_option linter.all false
set_option maxRecDepth 100000
/-! Forms as lists of (letters, coefficient): the mathematics. -/
namespace L2
open PySem PySem.Spec PyProof.Rows
theorem rat_num (q : Rat) : (q.num : Rat) = q * (q.den : Rat) := by
  have h := Rat.num_divInt_den q
  rw [Rat.divInt_eq_div] at h
  have hd : ((q.den : Int) : Rat) ≠ 0 := by
    intro e
    have := Rat.intCast_inj.mp (e.trans (by rfl : (0 : Rat) = ((0 : Int) : Rat)))
    have := q.den_nz
    omega
  rw [Rat.intCast_natCast] at h hd
  grind
/-- a fraction's tuple -/
def frac (x : Rat) : List V := [.int x.num, .int x.den]
/-- q is z over D, z no more than M -/
def Bq (D M : Nat) (q : Rat) : Prop := ∃ z : Int, q * (D : Rat) = (z : Rat) ∧ z.natAbs ≤ M
theorem Bq.den {D M : Nat} {q : Rat} (h : Bq D M q) : q.den ∣ D := by
  obtain ⟨z, e, _⟩ := h
  have h1 : q.num * (D : Int) = z * (q.den : Int) := by
    have e1 : (q.num : Rat) = q * (q.den : Rat) := rat_num q
    have : ((q.num * (D : Int) : Int) : Rat) = ((z * (q.den : Int) : Int) : Rat) := by
      rw [Rat.intCast_mul, Rat.intCast_mul, e1, Rat.intCast_natCast, Rat.intCast_natCast, ← e]
      grind
    exact Rat.intCast_inj.mp this
  have h2 : q.den ∣ q.num.natAbs * D := by
    have h3 : (q.den : Int) ∣ q.num * (D : Int) := ⟨z, by rw [h1, Int.mul_comm]⟩
    have h4 := Int.natAbs_dvd_natAbs.mpr h3
    rwa [Int.natAbs_mul, Int.natAbs_natCast, Int.natAbs_natCast] at h4
  exact Nat.Coprime.dvd_of_dvd_mul_left (Nat.Coprime.symm q.reduced) h2
theorem Bq.mono {D M M' : Nat} {q : Rat} (h : Bq D M q) (hM : M ≤ M') : Bq D M' q := let ⟨z, e, l⟩ := h; ⟨z, e, Nat.le_trans l hM⟩
theorem Bq.add {D M N : Nat} {p q : Rat} (h : Bq D M p) (k : Bq D N q) : Bq D (M + N) (p + q) := by
  obtain ⟨z, e, l⟩ := h
  obtain ⟨y, f, m⟩ := k
  refine ⟨z + y, ?_, ?_⟩
  · rw [Rat.intCast_add, ← e, ← f]; grind
  · have := Int.natAbs_add_le z y; omega
theorem Bq.neg {D M : Nat} {q : Rat} (h : Bq D M q) : Bq D M (-q) := by
  obtain ⟨z, e, l⟩ := h
  refine ⟨-z, ?_, ?_⟩
  · rw [Rat.intCast_neg, ← e]; grind
  · omega
theorem Bq.zero {D : Nat} : Bq D 0 0 := ⟨0, by rw [Rat.zero_mul]; rfl, Nat.le_refl _⟩
theorem Bq.int {n : Int} : Bq 1 n.natAbs (n : Rat) := ⟨n, by grind, Nat.le_refl _⟩
end L2

set_option Elab.async false
set_option linter.all false
set_option maxRecDepth 100000
set_option maxHeartbeats 1000000
/-! A form's dict: keys and fractions. -/
namespace L2
open PySem PySem.Spec PyProof.Rows
abbrev Mon := List Str
abbrev Fm := List (Mon × Rat)
def kS (m : Mon) : List Key := m.map Sum.inr
theorem kS_inj {m n : Mon} (h : kS m = kS n) : m = n := by
  unfold kS at h
  exact (List.map_inj_right (fun a b e => Sum.inr.inj e)).mp h
/-- what holds of tuples in H holds in H' -/
structure Mv (K : PySem.W.Frag) (H H' : Hp) : Prop where
  sq : ∀ a xs, SqT K H a xs → SqT K H' a xs
  tn : ∀ q xs, TupN H q xs → TupN H' q xs
/-- the dict's items are the form's terms -/
def FmKv (K : PySem.W.Frag) (H : Hp) (l : NAV) (fm : Fm) : Prop := Paired (fun e mq => e.1 = kS mq.1 ∧ TupN H e.2.1 (e.1.map kV) ∧ SqT K H e.2.2 (frac mq.2)) l fm
def valM (fm : Fm) (m : Mon) : Option Rat := (fm.find? fun x => decide (x.1 = m)).map (·.2)
def putM (fm : Fm) (m : Mon) (q : Rat) : Fm := if (fm.any fun x => decide (x.1 = m)) = true then fm.map (fun x => if x.1 = m then (x.1, q) else x) else fm ++ [(m, q)]
theorem SqT.same {K : PySem.W.Frag} {H H' : Hp} {a : Addr} {xs : List V} (h : SqT K H a xs) (S : Same H H') : SqT K H' a xs := by
  rcases h with (h | ⟨o, h⟩) | h
  · exact .inl (.inl (S _ _ h))
  · exact .inl (.inr ⟨o, S _ _ h⟩)
  · exact .inr h
theorem SqT.off {K : PySem.W.Frag} {H : Hp} {a d : Addr} {xs : List V} {u v : HO} (h : SqT K H a xs) (hd : H d = some u) (n1 : u ≠ .tup xs) (n2 : ∀ o, u ≠ .frz o (.tup xs)) : SqT K (upd H d v) a xs := by
  rcases h with (h | ⟨o, h⟩) | h
  · refine .inl (.inl ?_)
    rw [upd_ne]
    · exact h
    · rintro rfl
      rw [hd] at h
      exact n1 (Option.some.inj h)
  · refine .inl (.inr ⟨o, ?_⟩)
    rw [upd_ne]
    · exact h
    · rintro rfl
      rw [hd] at h
      exact n2 o (Option.some.inj h)
  · exact .inr h
theorem TupN.off {H : Hp} {q d : Addr} {xs : List V} {u v : HO} (h : TupN H q xs) (hd : H d = some u) (n2 : ∀ o, u ≠ .frz o (.tup xs)) : TupN (upd H d v) q xs := by
  obtain ⟨o, h1, h2⟩ := h
  refine ⟨o, ?_, h2⟩
  rw [upd_ne]
  · exact h1
  · rintro rfl
    rw [hd] at h1
    exact n2 o (Option.some.inj h1)
/-- no tuple, locked or not -/
def NoTup (u : HO) : Prop := (∀ xs, u ≠ .tup xs) ∧ ∀ o xs, u ≠ .frz o (.tup xs)
theorem Mv.refl {K : PySem.W.Frag} (H : Hp) : Mv K H H := ⟨fun _ _ h => h, fun _ _ h => h⟩
theorem Mv.trans {K : PySem.W.Frag} {H H' H'' : Hp} (a : Mv K H H') (b : Mv K H' H'') : Mv K H H'' := ⟨fun x y h => b.sq x y (a.sq x y h), fun x y h => b.tn x y (a.tn x y h)⟩
theorem Mv.same {K : PySem.W.Frag} {H H' : Hp} (S : Same H H') : Mv K H H' := ⟨fun _ _ h => h.same S, fun _ _ h => h.same S⟩
theorem Mv.off {K : PySem.W.Frag} {H : Hp} {d : Addr} {u v : HO} (hd : H d = some u) (n : NoTup u) : Mv K H (upd H d v) := ⟨fun _ xs h => h.off hd (n.1 xs) fun o => n.2 o xs, fun _ xs h => h.off hd fun o => n.2 o xs⟩
theorem Mv.sameB {K : PySem.W.Frag} {D : Addr} {H H' : Hp} {u : HO} (S : SameB D H H') (hD : H D = some u) (n : NoTup u) : Mv K H H' := ⟨fun a xs h => by
  rcases h with (h | ⟨o, h⟩) | h
  · exact .inl (.inl (S _ _ (fun e => by rw [e, hD] at h; exact n.1 xs (Option.some.inj h)) h))
  · exact .inl (.inr ⟨o, S _ _ (fun e => by rw [e, hD] at h; exact n.2 o xs (Option.some.inj h)) h⟩)
  · exact .inr h, fun q xs h => by
  obtain ⟨o, h1, h2⟩ := h
  exact ⟨o, S _ _ (fun e => by rw [e, hD] at h1; exact n.2 o xs (Option.some.inj h1)) h1, h2⟩⟩
section
variable {K : PySem.W.Frag} {H H' : Hp} {l : NAV} {fm : Fm}
theorem FmKv.imp (h : FmKv K H l fm) (f : Mv K H H') : FmKv K H' l fm := Paired.mapP h fun _ _ z => ⟨z.1, f.tn _ _ z.2.1, f.sq _ _ z.2.2⟩
theorem FmKv.same (h : FmKv K H l fm) (S : Same H H') : FmKv K H' l fm := h.imp (.same S)
theorem FmKv.length (h : FmKv K H l fm) : l.length = fm.length := Paired.length h
theorem FmKv.keys (h : FmKv K H l fm) : KeysD H l := by
  unfold FmKv at h
  induction h with
  | nil => intro x hx; exact absurd hx List.not_mem_nil
  | cons r t ih =>
    intro x hx
    rcases List.mem_cons.mp hx with rfl | hx
    · exact r.2.1
    · exact ih x hx
theorem findN_hit {x : List Key × Addr × Addr} {r : NAV} {k : List Key} (e : x.1 = k) : findN (x :: r) k = some x.2 := by simp [findN, List.find?_cons, e]
theorem findN_miss {x : List Key × Addr × Addr} {r : NAV} {k : List Key} (e : ¬ x.1 = k) : findN (x :: r) k = findN r k := by simp [findN, List.find?_cons, e]
theorem FmKv.val (h : FmKv K H l fm) (m : Mon) : (findN l (kS m) = none ∧ valM fm m = none) ∨ ∃ b a q, findN l (kS m) = some (b, a) ∧ valM fm m = some q ∧ SqT K H a (frac q) := by
  unfold FmKv at h
  induction h with
  | nil => exact .inl ⟨rfl, rfl⟩
  | @cons p x ps xs r t ih =>
    obtain ⟨e, _, sa⟩ := r
    by_cases c : x.1 = m
    · exact .inr ⟨p.2.1, p.2.2, x.2, findN_hit (by rw [e, c]), by simp [valM, List.find?_cons, c], sa⟩
    · rw [findN_miss fun z => c (kS_inj (e.symm.trans z)), show valM (x :: xs) m = valM xs m by simp [valM, List.find?_cons, c]]
      exact ih
theorem FmKv.any (h : FmKv K H l fm) (m : Mon) : (findN l (kS m)).isSome = (fm.any fun x => decide (x.1 = m)) := by
  unfold FmKv at h
  induction h with
  | nil => rfl
  | @cons p x ps xs r t ih =>
    rw [List.any_cons]
    by_cases c : x.1 = m
    · rw [findN_hit (by rw [r.1, c]), decide_eq_true c]
      rfl
    · rw [findN_miss fun z => c (kS_inj (r.1.symm.trans z)), ih, decide_eq_false c, Bool.false_or]
theorem FmKv.put (h : FmKv K H l fm) (m : Mon) {q : Rat} {b a : Addr} (hb : TupN H b ((kS m).map kV)) (sa : SqT K H a (frac q)) : FmKv K H (putN l (kS m) b a) (putM fm m q) := by
  unfold putN putM
  rw [h.any m]
  split
  · have e : ∀ {l : NAV} {n : Fm}, FmKv K H l n → FmKv K H (l.map fun x => if x.1 = kS m then (x.1, x.2.1, a) else x) (n.map fun x => if x.1 = m then (x.1, q) else x) := by
      intro l n g
      unfold FmKv at g ⊢
      induction g with
      | nil => exact .nil
      | @cons p x ps xs r t ih =>
        rw [List.map_cons, List.map_cons]
        refine .cons ?_ ih
        by_cases c : x.1 = m
        · rw [if_pos c, if_pos (by rw [r.1, c])]
          exact ⟨r.1, r.2.1, sa⟩
        · rw [if_neg c, if_neg fun z => c (kS_inj (r.1.symm.trans z))]
          exact r
    exact e h
  · exact Paired.snoc h ⟨rfl, hb, sa⟩
theorem FmKv.get (h : FmKv K H l fm) {i : Nat} {e : List Key × Addr × Addr} (g : l[i]? = some e) : ∃ m q b a, fm[i]? = some (m, q) ∧ e = (kS m, b, a) ∧ TupN H b ((kS m).map kV) ∧ SqT K H a (frac q) := by
  obtain ⟨b, hb, e1, e2, sa⟩ := paired_get h g
  exact ⟨b.1, b.2, e.2.1, e.2.2, hb, Prod.ext e1 rfl, by rw [← e1]; exact e2, sa⟩
end
theorem same_back {H H' : Hp} {d : Addr} {u z : HO} (hd : H d = some u) (S : Same (upd H d z) H') : Same H (upd H' d u) := by
  intro b o e
  by_cases c : b = d
  · subst c
    rw [upd_same]
    rw [hd] at e
    exact e
  · rw [upd_ne c]
    exact S b o (by rw [upd_ne c]; exact e)
end L2

set_option Elab.async false
set_option linter.all false
set_option maxRecDepth 100000
set_option maxHeartbeats 1000000
/-! lambda x: (len(x), x), called with a tuple of texts -/
namespace L2
open PySem PySem.Spec PySem.Calls PyProof.Rows PySem.W
section
variable {prog : Program} {w : World} {A : Around} {s : Shared}
end
end L2

set_option Elab.async false
set_option linter.all false
set_option maxRecDepth 100000
set_option maxHeartbeats 1000000
/-! lambda row: len(row[2]), called with a tuple whose third item is a list; sorted by it -/
namespace L2
open PySem PySem.Spec PySem.Calls PyProof.Rows PySem.W
section
variable {prog : Program} {w : World} {A : Around} {s : Shared}
end
end L2

set_option Elab.async false
set_option linter.all false
set_option maxRecDepth 100000
set_option maxHeartbeats 1000000
/-! sorted(xs, key=lambda row: len(row[2])), xs a list of tuples of three -/
namespace L2
open PySem PySem.Spec PySem.Calls PyProof.Rows
open PySem.W (dataLe AllAlike Sortable EachIs)
open LamX (Tabs ExtN TabB CodeO)
def NewT (H : Hp) (p : Addr) : Prop := ∀ o, H p = some o → ∃ ps, o = .tbl ps
theorem SqL.extN {K : PySem.W.Frag} {H H' : Hp} {a : Addr} {xs : List V} (h : SqL K H a xs) (S : ExtN H H') : SqL K H' a xs := by
  rcases h with (h | ⟨o, h⟩) | h
  · exact .inl (.inl (S _ _ h fun _ z => nomatch z))
  · exact .inl (.inr ⟨o, S _ _ h fun _ z => nomatch z⟩)
  · exact .inr h
theorem SqT.extN {K : PySem.W.Frag} {H H' : Hp} {a : Addr} {xs : List V} (h : SqT K H a xs) (S : ExtN H H') : SqT K H' a xs := by
  rcases h with (h | ⟨o, h⟩) | h
  · exact .inl (.inl (S _ _ h fun _ z => nomatch z))
  · exact .inl (.inr ⟨o, S _ _ h fun _ z => nomatch z⟩)
  · exact .inr h
section
variable {β : Type} (ad : β → Addr) (ln : β → Nat)
end
section
variable {β : Type} {ad : β → Addr} {ln : β → Nat}
end
section
variable {X : Cx} {e : Expr} {te : TE} {T : List (Addr × Str)} {c P : Addr} {p p1 p2 p3 p4 p5 p6 q kpos pos : Pos} {β : Type} {ad : β → Addr} {ln : β → Nat}
end
end L2

set_option Elab.async false
set_option linter.all false
set_option maxRecDepth 100000
set_option maxHeartbeats 1000000
/-! {names: .. for .. in a form's dict} -/
namespace L2
open PySem PySem.Spec PyProof.Rows
theorem take_snoc {α : Type} {l : List α} {i : Nat} {x : α} (h : l[i]? = some x) : l.take (i + 1) = l.take i ++ [x] := by
  rw [List.take_succ, h]
  rfl
end L2

set_option Elab.async false
set_option linter.all false
set_option maxRecDepth 100000
set_option maxHeartbeats 2000000
/-! sorted of a set of texts; a set of texts from a form's terms -/
namespace L2
open PySem PySem.Spec PyProof.Rows
def rSortedSS (P : Program) (w : World) : List V → Hp → VK → Prop := fun vs H Q => ∃ (a : Addr) (ks : List Str), vs = [V.ref a] ∧ H a = some (SetSO P w a ks) ∧ ∀ ys : List Str, ys.Perm ks → ks.Nodup → sortedS ys = true → NewQ H (.lst (ys.map V.str)) Q
theorem cr_sortedSS {X : Cx} (hc : X.calm = true) : CallR X (.builtin "sorted") (rSortedSS X.prog X.w) := by
  intro pins s σ H vs us Q I r h
  obtain ⟨a, ks, rfl, ha, q⟩ := h
  have R := setSO_get I ha
  rw [Vals.ref1 r]
  refine setS_sorted R (I.ok.hd hc) fun s' p out c ys kp gn os pn ho ss pm so => ?_
  obtain ⟨_, es, _, _, _, _, _, _, pm0, nd, hb, _⟩ := R
  have lk : ks.length = es.size := by rw [← pm0.length_eq, List.length_map, Array.length_toList]
  have hlen : (ys.map V.str).length ≤ sizeLine := by
    rw [List.length_map, pm.length_eq, lk]
    exact fits_of_scanBound hb
  have I2 : Inv X pins σ (upd H p (.lst (ys.map V.str))) { s with heap := s'.heap, toks := s.toks } := I.laid (t' := s.toks) kp pn ⟨hlen, _, c, vals_of_strs ss, ho⟩
  have I3 : Inv X pins σ (upd H p (.lst (ys.map V.str))) s' := I2.call' (ch := []) os (Un.kept fun _ _ e => e) (I2.hok.kept fun _ _ e => e) (by rw [gn]; exact I2.bare) (fun _ z => nomatch z)
  exact ⟨.ref p, _, I3, rfl, (q ys pm nd so).at (I.hok.fresh pn)⟩
theorem mem_putS {ks : List Str} {x z : Str} : x ∈ putS ks z ↔ x ∈ ks ∨ x = z := by
  unfold putS
  split
  · rename_i h
    exact ⟨.inl, fun q => q.elim id fun e => e ▸ h⟩
  · rw [List.mem_cons]
    exact ⟨fun q => q.elim .inr .inl, fun q => q.elim .inr .inl⟩
theorem len_putS (ks : List Str) (z : Str) : (putS ks z).length ≤ ks.length + 1 := by
  unfold putS
  split
  · exact Nat.le_succ _
  · exact Nat.le_refl _
/-- these texts, laid one by one -/
def putAll (ks xs : List Str) : List Str := xs.foldl putS ks
theorem mem_putAll : ∀ {xs ks : List Str} {x : Str}, x ∈ putAll ks xs ↔ x ∈ ks ∨ x ∈ xs
  | [], ks, x => by simp [putAll]
  | z :: xs, ks, x => by
    show x ∈ putAll (putS ks z) xs ↔ _
    rw [mem_putAll, mem_putS, List.mem_cons, or_assoc]
theorem len_putAll : ∀ (xs ks : List Str), (putAll ks xs).length ≤ ks.length + xs.length
  | [], ks => Nat.le_refl _
  | z :: xs, ks => by
    have h1 := len_putAll xs (putS ks z)
    have h2 := len_putS ks z
    show (putAll (putS ks z) xs).length ≤ _
    rw [List.length_cons]
    omega
theorem putAllS_snoc (ks xs : List Str) (z : Str) : putS (putAll ks xs) z = putAll ks (xs ++ [z]) := by unfold putAll; rw [List.foldl_append]; rfl
theorem nodup_putS {ks : List Str} {x : Str} (h : ks.Nodup) : (putS ks x).Nodup := by
  unfold putS
  split
  · exact h
  · rename_i c
    exact List.nodup_cons.mpr ⟨c, h⟩
theorem nodup_putAll : ∀ {xs ks : List Str}, ks.Nodup → (putAll ks xs).Nodup
  | [], _, h => h
  | z :: xs, ks, h => nodup_putAll (xs := xs) (nodup_putS (x := z) h)
theorem putAll_nodup {xs : List Str} : ∀ {ks : List Str}, xs.Nodup → (∀ x ∈ xs, x ∉ ks) → (putAll ks xs).length = ks.length + xs.length := by
  induction xs with
  | nil => intro ks _ _; rfl
  | cons z xs ih =>
    intro ks nd h
    have hz := h z List.mem_cons_self
    obtain ⟨n1, n2⟩ := List.nodup_cons.mp nd
    have e : putS ks z = z :: ks := by unfold putS; rw [if_neg hz]
    show (putAll (putS ks z) xs).length = _
    rw [e, ih n2 fun x hx => ?_]
    · rw [List.length_cons, List.length_cons]; omega
    · intro q
      rcases List.mem_cons.mp q with rfl | q
      · exact n1 hx
      · exact h x (List.mem_cons_of_mem _ hx) q
/-- len of a set of texts -/
theorem cr_lenSS {X : Cx} : CallR X (.builtin "len") (fun vs H Q => ∃ (a : Addr) (ks : List Str), vs = [V.ref a] ∧ H a = some (SetSO X.prog X.w a ks) ∧ Q (.int (ks.length : Nat)) H) := by
  intro pins s σ H vs us Q I r h
  obtain ⟨a, ks, rfl, ha, q⟩ := h
  obtain ⟨o, es, ep, t, ho, hex, hd, _, pm, _, hb, hf, _⟩ := setSO_get I ha
  rw [Vals.ref1 r]
  have lk : es.size = ks.length := by rw [← pm.length_eq, List.length_map, Array.length_toList]
  have hb' := fits_of_scanBound hb
  have := line63
  refine call_len_set ho hex hd hf (by omega) ⟨.int ks.length, H, I.tok _, ⟨_, by rw [lk]⟩, q⟩
end L2

set_option Elab.async false
set_option linter.all false
set_option maxRecDepth 100000
/-! set(xs), xs a list of texts -/
namespace L2
open PySem PySem.Spec PyProof.Rows
abbrev nSetT (w : World) : Obj := { cls := .type "set", dict := none, data := .set #[] 0 (.fresh 0 0 (!w.params.followText "set-order")) }
section
variable {P : Program} {w : World} {A : Around} {E : Value → Shared → Prop} {s : Shared} {l : Addr} {items : Array Value} {xs : List Str}
theorem setS_new_at {h : Heap} {a : Addr} (ho : h.get? a = some (nSetT w)) : SetS P w h a [] := by
  refine ⟨_, #[], 0, _, ho, ⟨rfl, rfl, rfl⟩, rfl, fun e he => absurd he (by simp), .nil, List.nodup_nil, by decide, rfl, List.Pairwise.nil, ?_⟩
  cases c : w.params.followText "set-order" with
  | true => exact .inl rfl
  | false => exact .inr rfl
theorem set_update_strs {I : Addr} {fp wr : List Addr} {G : Array GenState → Array GenState → Prop} {n : Nat} {Pv : Nat → Value → Prop} {St : Nat → Shared → Prop} {R : Result → Shared → Prop}
    (W : WalksS P w A.in1 I fp wr G n Pv St) (S : Addr) (hSf : S ∉ fp) (xs : List Str) (hn : n = xs.length) (hb : ∀ i, (putAll [] (xs.take i)).length + 1 < scanBound) (hval : ∀ i v, Pv i v → ∃ z t, xs[i]? = some z ∧ v = .str z t) :
    ∀ (k i : Nat) (s : Shared), n - i = k → i ≤ n → St i s → SetS P w s.heap S (putAll [] (xs.take i)) →
      (∀ s', Moved (S :: wr) G s s' → SetS P w s'.heap S (putAll [] xs) → R (.ok (.ret .none)) s') →
      codeAny (model P w) A (.builtin "set.update.loop" ⟨[.ref S, .ref I], []⟩) R s := by
  have hSw : S ∉ wr := fun h => hSf (W.sub _ h)
  have hsub : ∀ b ∈ wr, b ∈ S :: wr := fun b hb => List.mem_cons_of_mem _ hb
  intro k
  induction k with
  | zero =>
    intro i s hk' hi hst hS hR
    have hin : i = n := by omega
    subst hin
    refine codeAny_builtin F.entry_set_update_loop ?_
    rw [Around.under_plainId F.plain_set_update_loop _]
    show wpAny _ A.in1 (pyNext (.ref I) >>= _) _ _ s
    refine wpAny_bind (W.done s _ _ hst fun s' hm => ?_)
    show wpAny _ A.in1 (ret Value.none) _ _ s'
    have e : xs.take i = xs := List.take_of_length_le (by omega)
    rw [e] at hS
    exact wpAny_pure (hR s' (hm.mono hsub) (hS.at fun o e => hm.heap S o hSw e))
  | succ k ih =>
    intro i s hk' hi hst hS hR
    have hlt : i < n := by omega
    refine codeAny_builtin F.entry_set_update_loop ?_
    rw [Around.under_plainId F.plain_set_update_loop _]
    show wpAny _ A.in1 (pyNext (.ref I) >>= _) _ _ s
    refine wpAny_bind (W.item i s _ _ hlt hst fun v s' hP hst' hm => ?_)
    obtain ⟨z, t, hz, rfl⟩ := hval i v hP
    have hS' : SetS P w s'.heap S (putAll [] (xs.take i)) := hS.at fun o e => hm.heap S o hSw e
    have room := hb i
    show wpAny _ A.in1 (holding [Value.str z t] (setAdd S (.str z t)) >>= _) _ _ s'
    refine wpAny_bind (wpAny_holding ?_)
    unfold setAdd
    refine wpAny_holding ?_
    refine wpAny_bind ((PySem.strKind P w).pyHash (strKind_is P w z t) ?_)
    refine setS_hashed (s := { s' with toks := s'.toks + 1 }) hS' room fun _ h' hsb hS2 => ?_
    have hS3 : SetS P w h' S (putAll [] (xs.take (i + 1))) := by
      rw [take_snoc hz, ← putAllS_snoc]
      exact hS2
    refine wpAny_pure ⟨plainId_quiet F.plain_set_update_loop _, ih (i + 1) _ (by omega) hlt (W.frame _ s' _ _ hst' (Nat.le_succ _) fun b hb o e => ?_) hS3 fun s'' hm'' hS'' => ?_⟩
    · rw [hsb.2 b (fun h : b = S => hSf (by rw [← h]; exact hb))]; exact e
    · refine hR s'' (Moved.trans W.gtrans ((hm.mono hsub).then_heap (Nat.le_succ _) fun b o hb e => ?_) hm'') hS''
      rw [hsb.2 b (fun h : b = S => hb (by rw [h]; exact List.mem_cons_self))]; exact e
abbrev SetTDone (P : Program) (w : World) (s : Shared) (xs : List Str) (s₂ : Shared) : Prop := ∃ h' tk, s₂ = { s with heap := h', toks := tk } ∧ SetS P w h' s.heap.objs.size (putAll [] xs) ∧ ∀ b o, s.heap.get? b = some o → h'.get? b = some o
theorem strsV_at (hit : StrsAre items.toList xs) (i : Nat) (v : Value) (hv : items[i]? = some v) : ∃ z t, xs[i]? = some z ∧ v = .str z t := by
  have e : items.toList[i]? = some v := by rw [Array.getElem?_toList]; exact hv
  generalize items.toList = us at hit e
  clear hv
  induction hit generalizing i with
  | nil => cases e
  | cons n t r ih =>
    cases i with
    | zero => cases e; exact ⟨_, _, rfl, rfl⟩
    | succ i => exact ih i e
theorem strs_len {us : List Value} {xs : List Str} (h : StrsAre us xs) : us.length = xs.length := by
  induction h with
  | nil => rfl
  | cons n t r ih => simp [ih]
set_option maxHeartbeats 3200000 in
theorem set_init_strs (hh : A.handled = none) (hl : s.heap.IsList l items) (hit : StrsAre items.toList xs) (hb : ∀ i, (putAll [] (xs.take i)).length + 1 < scanBound) (T : Shared.TypeIs { s with heap := s.heap.push (nSetT w) } (.ref s.heap.objs.size) "set") {R : Result → Shared → Prop} (hR : ∀ s₂, SetTDone P w s xs s₂ → R (.ok (.ret .none)) s₂) :
    wpAny (model P w) A.in1 (Builtin.«set.__init__» ⟨[.ref s.heap.objs.size, .ref l], []⟩) (fun fin s' => match fin with | .done f => R (.ok f) s' | .again c' => c'.quiet = true ∧ codeAny (model P w) A c' R s') (fun e s' => R (.error e) s') { s with heap := s.heap.push (nSetT w) } := by
  have hS : (s.heap.push (nSetT w)).get? s.heap.objs.size = some (nSetT w) := Heap.get?_push_size _ rfl
  obtain ⟨⟨oc, od, dt, osl⟩, hol, rfl, nl, rfl⟩ := hl
  have h1 : (s.heap.push (nSetT w)).get? l = some { cls := .type "list", dict := od, data := .seq items nl, slots := osl } := Heap.get?_push_of_some _ hol
  have L1 : (s.heap.push (nSetT w)).IsList l items := ⟨_, h1, rfl, nl, rfl⟩
  have lS : l < s.heap.objs.size := Heap.lt_size hol
  have n1 := F.sub_list_set
  have n2 := F.sub_list_frozenset
  have n3 : (Value.type "list" == Value.type "dict") = false := by decide
  have isz : items.size = xs.length := by rw [← Array.length_toList]; exact strs_len hit
  unfold Builtin.«set.__init__» noKeywords Builtin.Frozenset.updateFrom
  generalize hPI : pyIter = PI
  wp_walk
  subst hPI
  refine wpAny_pyIter_list L1 ?_
  refine wpAny_bind (wpAny_runValue ?_)
  have sz : (s.heap.push (nSetT w)).objs.size = s.heap.objs.size + 1 := Heap.size_push ..
  have ne1 : l ≠ (s.heap.push (nSetT w)).objs.size := by rw [sz]; exact Nat.ne_of_lt (Nat.lt_succ_of_lt lS)
  have nf : s.heap.objs.size ∉ [(s.heap.push (nSetT w)).objs.size, l] := by
    rw [sz]
    simp only [List.mem_cons, List.not_mem_nil, or_false, not_or]
    exact ⟨Nat.ne_of_lt (Nat.lt_succ_self _), Nat.ne_of_gt lS⟩
  refine set_update_strs ((Walks.list (by simp [hh]) _ l ne1 items).toS) s.heap.objs.size nf xs isz hb (strsV_at hit) (items.size - 0) 0 _ (by omega) (Nat.zero_le _) ⟨⟨_, Heap.get?_push_size _ rfl, rfl, rfl⟩, L1.push _⟩ (setS_new_at (Heap.get?_push_of_some _ hS)) ?_
  rintro ⟨h', g2, d', tk', os'⟩ hm hS'
  obtain rfl : g2 = s.gens := hm.gens
  obtain rfl : d' = s.drawn := hm.drawn
  obtain rfl : os' = s.os := hm.os
  refine wpAny_pure ?_
  refine wpAny_pure (hR _ ⟨h', tk', rfl, hS', fun b o e => ?_⟩)
  have b0 : b < s.heap.objs.size := Heap.lt_size e
  refine hm.heap b o ?_ (Heap.get?_push_of_some _ (Heap.get?_push_of_some _ e))
  simp only [List.mem_cons, List.not_mem_nil, or_false, not_or]
  exact ⟨Nat.ne_of_lt b0, by rw [sz]; exact Nat.ne_of_lt (Nat.lt_succ_of_lt b0)⟩
set_option maxHeartbeats 3200000 in
theorem call_set_strs {Q : Value → Shared → Prop} (hh : A.handled = none) (hl : s.heap.IsList l items) (hit : StrsAre items.toList xs) (hb : ∀ i, (putAll [] (xs.take i)).length + 1 < scanBound) (h : ∀ s₂, SetTDone P w s xs s₂ → Q (.ref s.heap.objs.size) s₂) : wpAny (model P w) A (call (.type "set") [.ref l]) Q E s := by
  obtain ⟨c, tl, m1⟩ := F.called_set.mro
  have m2 := F.called_set.made
  have m3 := F.called_set.sub
  have m4 := F.called_set.notType
  have m5 := F.called_set.canCreate
  have m6 := F.typeCall_set_1 (.ref l)
  have T : Shared.TypeIs { s with heap := s.heap.push (nSetT w) } (.ref s.heap.objs.size) "set" := ⟨_, Heap.get?_push_size _ rfl, rfl⟩
  have m7 := F.called_set.init.lookup
  have m8 := F.called_set.init.bind (.ref s.heap.objs.size)
  refine wpAny_call (codeAny_of_tree (show wpAny _ _ (callAny (.type "set") _) _ _ _ from wpAny_pure ⟨Code.quiet_builtin _ (by decide +kernel), codeAny_builtin F.entry_type_call ?_⟩))
  rw [Around.under_plain (weight_type_call_type "set" [.ref l] []) rfl]
  repeat (any_goals (first | assumption | wp_step))
  refine codeAny_mono (code_set_led1 (.ref l) (E := E) (Q₁ := fun obj s₁ => obj = .ref s.heap.objs.size ∧ s₁ = { s with heap := s.heap.push (nSetT w) }) ⟨rfl, rfl⟩) fun r s₁ hr => ?_
  match r, hr with
  | .error e, hr => exact hr
  | .ok (.ret obj), ⟨e1, e2⟩ =>
    subst e1 e2
    repeat (any_goals (first | assumption | wp_step))
    refine codeAny_mono (codeAny_call_builtin (R := wants (fun r s₂ => r = .none ∧ SetTDone P w s xs s₂) E) F.called_set.init.plain F.entry_set_init (check_set_init_1 T (set_init_strs (by simp [hh]) hl hit hb T fun s₂ d => ⟨rfl, d⟩))) fun r₂ s₂ hr₂ => ?_
    match r₂, hr₂ with
    | .error e, hr₂ => exact hr₂
    | .ok (.ret r), ⟨e1, d⟩ =>
      subst e1
      repeat (any_goals (first | assumption | wp_step))
      exact h _ d
end
/-- set(xs), texts -/
def rSetLS (K : PySem.W.Frag) (P : Program) (w : World) : List V → Hp → VK → Prop := fun vs H Q => ∃ (a : Addr) (xs : List Str), vs = [V.ref a] ∧ SqL K H a (xs.map V.str) ∧ (∀ i, (putAll [] (xs.take i)).length + 1 < scanBound) ∧ ∀ p, H p = none → Q (.ref p) (upd H p (SetSO P w p (putAll [] xs)))
theorem cr_setLS {X : Cx} (hc : X.calm = true) : CallR X (.type "set") (rSetLS X.K X.prog X.w) := by
  intro pins s σ H vs us Q I r h
  obtain ⟨a, xs, rfl, hs, hz, q⟩ := h
  obtain ⟨its, rv, hl, _⟩ := I.list hs
  rw [Vals.ref1 r]
  refine call_set_strs (P := X.prog) (w := X.w) (I.ok.hd hc) hl.isList (by simpa using rv.strs) hz fun s₂ d => ?_
  obtain ⟨h', tk, rfl, R, k⟩ := d
  exact ⟨.ref s.heap.objs.size, _, I.laid (t' := tk) k (Nat.le_refl _) (setSO_new R), rfl, q _ (I.hok.fresh (Nat.le_refl _))⟩
end L2

set_option Elab.async false
set_option linter.all false
set_option maxRecDepth 100000
set_option maxHeartbeats 1000000
/-! the one sorted list of a list's texts; sums and products of forms as functions -/
namespace L2
open PySem PySem.Spec PyProof.Rows
theorem ltCps_eq : ∀ a b : List Nat, ltCps a b = decide (a < b)
  | [], [] => rfl
  | [], _ :: _ => by rw [decide_eq_true (List.nil_lt_cons _ _)]; rfl
  | _ :: _, [] => by rw [decide_eq_false (List.not_lt_nil _)]; rfl
  | x :: a, y :: b => by
    have ih := ltCps_eq a b
    unfold ltCps
    rw [ih]
    by_cases c : x < y
    · rw [decide_eq_true (List.cons_lt_cons_iff.mpr (.inl c))]
      simp [c]
    · by_cases d : x = y
      · subst d
        have : decide (x :: a < x :: b) = decide (a < b) := by
          by_cases e : a < b
          · rw [decide_eq_true e, decide_eq_true (List.cons_lt_cons_iff.mpr (.inr ⟨rfl, e⟩))]
          · rw [decide_eq_false e, decide_eq_false fun z => (List.cons_lt_cons_iff.mp z).elim (fun h => Nat.lt_irrefl _ h) fun h => e h.2]
        rw [this]
        simp
      · rw [decide_eq_false fun z => (List.cons_lt_cons_iff.mp z).elim c fun h => d h.1]
        simp [c, d]
/-- a ≤ b -/
def leT (a b : Str) : Bool := !ltCps b.cps.toList a.cps.toList
theorem leT_iff {a b : Str} : leT a b = true ↔ a.cps.toList ≤ b.cps.toList := by
  unfold leT
  rw [ltCps_eq]
  simp [List.not_lt]
theorem leT_trans {a b c : Str} (h : leT a b = true) (k : leT b c = true) : leT a c = true := leT_iff.mpr (List.le_trans (leT_iff.mp h) (leT_iff.mp k))
theorem leT_total (a b : Str) : leT a b = true ∨ leT b a = true := by
  rw [leT_iff, leT_iff]
  exact List.le_total _ _
theorem str_ext {a b : Str} (h : a.cps.toList = b.cps.toList) : a = b := by
  cases a
  cases b
  congr 1
  exact Array.toList_inj.mp h
theorem leT_anti {a b : Str} (h : leT a b = true) (k : leT b a = true) : a = b := str_ext (List.le_antisymm (leT_iff.mp h) (leT_iff.mp k))
theorem rising_pw : ∀ (r : List Str) (x : Str), risingS x r = true → List.Pairwise (fun a b => leT a b = true) (x :: r)
  | [], x, _ => List.pairwise_cons.mpr ⟨fun _ h => absurd h List.not_mem_nil, .nil⟩
  | y :: r, x, h => by
    rw [risingS.eq_2, Bool.and_eq_true] at h
    have ih := rising_pw r y h.2
    refine List.pairwise_cons.mpr ⟨fun z hz => ?_, ih⟩
    rcases List.mem_cons.mp hz with rfl | hz
    · exact h.1
    · exact leT_trans h.1 ((List.pairwise_cons.mp ih).1 z hz)
theorem sorted_pw {l : List Str} (h : sortedS l = true) : List.Pairwise (fun a b => leT a b = true) l := by
  cases l with
  | nil => exact .nil
  | cons x r => exact rising_pw r x h
def insT (x : Str) : List Str → List Str
  | [] => [x]
  | y :: r => if leT x y then x :: y :: r else y :: insT x r
def sortT (l : List Str) : List Str := l.foldr insT []
theorem insT_perm (x : Str) : ∀ l, (insT x l).Perm (x :: l)
  | [] => List.Perm.refl _
  | y :: r => by
    unfold insT
    split
    · exact List.Perm.refl _
    · exact ((insT_perm x r).cons y).trans (List.Perm.swap x y r)
theorem sortT_perm : ∀ l, (sortT l).Perm l
  | [] => List.Perm.refl _
  | x :: r => (insT_perm x _).trans ((sortT_perm r).cons x)
theorem insT_pw (x : Str) : ∀ l, List.Pairwise (fun a b => leT a b = true) l → List.Pairwise (fun a b => leT a b = true) (insT x l)
  | [], _ => List.pairwise_cons.mpr ⟨fun _ h => absurd h List.not_mem_nil, .nil⟩
  | y :: r, h => by
    unfold insT
    split
    · rename_i c
      refine List.pairwise_cons.mpr ⟨fun z hz => ?_, h⟩
      rcases List.mem_cons.mp hz with rfl | hz
      · exact c
      · exact leT_trans c ((List.pairwise_cons.mp h).1 z hz)
    · rename_i c
      refine List.pairwise_cons.mpr ⟨fun z hz => ?_, insT_pw x r (List.pairwise_cons.mp h).2⟩
      rcases List.mem_cons.mp ((insT_perm x r).mem_iff.mp hz) with rfl | hz
      · exact (leT_total _ _).resolve_left c
      · exact (List.pairwise_cons.mp h).1 z hz
theorem sortT_pw : ∀ l, List.Pairwise (fun a b => leT a b = true) (sortT l)
  | [] => .nil
  | x :: r => insT_pw x _ (sortT_pw r)
/-- sorted lists of the same texts are the same -/
theorem sortT_one {l ys : List Str} (p : ys.Perm l) (s : sortedS ys = true) : ys = sortT l :=
  List.Perm.eq_of_pairwise (le := fun a b => leT a b = true) (fun _ _ _ _ => leT_anti) (sorted_pw s) (sortT_pw l) (p.trans (sortT_perm l).symm)
end L2

set_option Elab.async false
set_option linter.all false
set_option maxRecDepth 100000
set_option maxHeartbeats 1000000
/-! f(k=v, ..): a def called with keywords alone -/
namespace L2
open PySem PySem.Spec PyProof.Rows
section
variable {X : Cx} {k j : Nat} {x : Str} {sp : Sp} {ks : List Str} {gV : List V → List V → List V} {p pos : Pos} {kws : List Keyword} {tk : TA}
end
end L2

set_option Elab.async false
set_option linter.all false
set_option maxRecDepth 100000
set_option maxHeartbeats 1000000
/-! the row's statements -/
namespace E4
open PySem PySem.Spec PyProof.Rows L2
open C8 (Cal Mak Met InsC pe_c pe_mt pe_mt0 call_isC clsBody)
def top (i : Nat) : Stmt := PySem.Challenge.pw_cellplaces_k66_whole_joined_walks.main.body.getD i (.Pass ⟨0, 0, 0, 0⟩)
abbrev sIsLetter : Stmt := top 7
abbrev sProductAt : Stmt := top 9
abbrev sPlain : Stmt := top 11
abbrev sCheckTable : Stmt := top 12
abbrev sIsSides : Stmt := top 13
abbrev sIsSide : Stmt := top 14
abbrev sIsProduct : Stmt := top 15
abbrev sNamesOf : Stmt := top 16
def meth (i : Nat) : Stmt := (clsBody sPlain).getD i (.Pass ⟨0, 0, 0, 0⟩)
abbrev sInit : Stmt := meth 0
abbrev sEq : Stmt := meth 1
abbrev sSides : Stmt := meth 3
abbrev sSizes : Stmt := meth 4
end E4

set_option Elab.async false
set_option linter.all false
set_option maxRecDepth 100000
set_option maxHeartbeats 1000000
/-! is_whole, is_count, is_letter, is_product, is_side -/
namespace E4
open PySem PySem.Spec PyProof.Rows L2
open C8 (Cal Mak Met InsC pe_c pe_mt pe_mt0 call_isC clsBody)
theorem iteP {p : Prop} [Decidable p] {A B : Prop} (hp : p) (h : B) : if (!decide p) = true then A else B := by
  rw [decide_eq_true hp]
  exact h
theorem iteN {p : Prop} [Decidable p] {A B : Prop} (hp : ¬ p) (h : A) : if (!decide p) = true then A else B := by
  rw [decide_eq_false hp]
  exact h
/-- a letter -/
def LetOk (z : Str) : Prop := 1 ≤ z.length ∧ z.length ≤ 10 ∧ ∀ c ∈ z.cps.toList, 97 ≤ c ∧ c ≤ 122
/-- builtin names that the module leaves alone -/
structure Bl (mg : Str → Option Value) : Prop where
  isi : mg "isinstance" = none
  int_ : mg "int" = none
  bool_ : mg "bool" = none
  str_ : mg "str" = none
  len_ : mg "len" = none
  all_ : mg "all" = none
  any_ : mg "any" = none
  lst_ : mg "list" = none
  tup_ : mg "tuple" = none
  dict_ : mg "dict" = none
  set_ : mg "set" = none
  srt_ : mg "sorted" = none
  zip_ : mg "zip" = none
  rev_ : mg "reversed" = none
  dm_ : mg "divmod" = none
/-- a side: its name, its size, its step -/
abbrev Sd := Str × List Str × List Str
def SdOk (x : Sd) : Prop := LetOk x.1 ∧ (∀ z ∈ x.2.1, LetOk z) ∧ (∀ z ∈ x.2.2, LetOk z) ∧ x.2.1.length ≤ 60 ∧ x.2.2.length ≤ 60
def SdAt (H : Hp) (t : Addr) (x : Sd) : Prop := ∃ a b, H t = some (.tup [.str x.1, .ref a, .ref b]) ∧ H a = some (.lst (x.2.1.map V.str)) ∧ H b = some (.lst (x.2.2.map V.str))
theorem SdAt.same {H H' : Hp} {t : Addr} {x : Sd} (h : SdAt H t x) (S : Same H H') : SdAt H' t x := let ⟨a, b, h1, h2, h3⟩ := h; ⟨a, b, S _ _ h1, S _ _ h2, S _ _ h3⟩
def SdsAt (H : Hp) (ts : List Addr) (xs : List Sd) : Prop := Paired (SdAt H) ts xs
theorem SdsAt.imp {H H' : Hp} {ts : List Addr} {xs : List Sd} (h : SdsAt H ts xs) (k : ∀ t ∈ ts, ∀ x, SdAt H t x → SdAt H' t x) : SdsAt H' ts xs := by
  unfold SdsAt at h ⊢
  induction h with
  | nil => exact .nil
  | cons r t ih => exact .cons (k _ List.mem_cons_self _ r) (ih fun z hz => k z (List.mem_cons_of_mem _ hz))
theorem SdsAt.same {H H' : Hp} {ts : List Addr} {xs : List Sd} (h : SdsAt H ts xs) (S : Same H H') : SdsAt H' ts xs := h.imp fun _ _ _ q => q.same S
theorem paired_at {α β : Type} {R : α → β → Prop} {as : List α} {bs : List β} (h : Paired R as bs) {i : Nat} {a : α} (e : as[i]? = some a) : ∃ b, bs[i]? = some b ∧ R a b := by
  induction h generalizing i with
  | nil => cases e
  | cons r t ih =>
    cases i with
    | zero => cases e; exact ⟨_, rfl, r⟩
    | succ i => exact ih e
theorem paired_snoc {α β : Type} {R : α → β → Prop} {as : List α} {bs : List β} {a : α} {b : β} (h : Paired R as bs) (r : R a b) : Paired R (as ++ [a]) (bs ++ [b]) := by
  induction h with
  | nil => exact .cons r .nil
  | cons r' t ih => exact .cons r' ih
def spIsLet : Sp := fun vs H Q _ => ∃ z : Str, vs = [.str z] ∧ LetOk z ∧ ∀ H', Same H H' → Q (.bl true) H'
def spProdOk : Sp := fun vs H Q _ => ∃ (a : Addr) (xs : List Str), vs = [.ref a] ∧ H a = some (.lst (xs.map V.str)) ∧ (∀ z ∈ xs, LetOk z) ∧ xs.length ≤ 60 ∧ ∀ H', Same H H' → Q (.bl true) H'
def spSideOk : Sp := fun vs H Q _ => ∃ (t : Addr) (x : Sd), vs = [.ref t, .int 2] ∧ SdAt H t x ∧ SdOk x ∧ ∀ H', Same H H' → Q (.bl true) H'
theorem all_true (n : Nat) : (List.replicate n true).all id = true := by simp
section
variable {P : Program} {w : World} {K : PySem.W.Frag} {mg : Str → Option Value} {base : Heap}
theorem kit_ss : PySem.W.kitOne K (.type "str") (.type "str") = some true := by kernel_rfl
theorem kit_ii : PySem.W.kitOne K (.type "int") (.type "int") = some true := by kernel_rfl
theorem kit_tt : PySem.W.kitOne K (.type "tuple") (.type "tuple") = some true := by kernel_rfl
theorem kit_ll : PySem.W.kitOne K (.type "list") (.type "list") = some true := by kernel_rfl
theorem kit_dd : PySem.W.kitOne K (.type "dict") (.type "dict") = some true := by kernel_rfl
theorem scIsLet : FnScope ["name", "sign"] ["name"] (defScope sIsLetter) := ⟨rfl, rfl, rfl, by decide +kernel, rfl, by decide +kernel, by decide +kernel⟩
abbrev rLeS : R2 := fun x y H Q => ∃ i j, x = .str i ∧ y = .str j ∧ Q (.bl (!decide (j.cps.toList < i.cps.toList))) H
theorem ok_isLet {f : Addr} {fd : FuncData} (F : Fun K "is_letter" "is_letter" sIsLetter f fd) (B : Bl mg) : FnOk P w K mg base CX0 1 f fd ["name"] spIsLet := by
  refine F.ok scIsLet (fun vs H Q E h => ?_) (fun cdv A outer s H vs Q E hr h => ?_)
  · obtain ⟨z, rfl, _⟩ := h
    rfl
  · obtain ⟨z, rfl, ⟨l1, l2, hc⟩, k⟩ := h
    refine ⟨_, pss_cons (ps_if (PW.pt (pw_or (pt_not (pt_val (pe_callB call_isi (by rfl) B.isi (by decide +kernel) (pa_cons (pv 0) (pa_cons (pe_bltn (v := .ty "str") (by rfl) B.str_ (by decide +kernel) rfl) pa_nil)))))
        (pw_or1 (pt_not (pt_chain op_le op_le pe_int (pe_callB call_len_str (by rfl) B.len_ PySem.boot_len (pa_cons (pv 0) pa_nil)) pe_int))))) (pss_one (ps_ret pe_bl)) pss_nil)
      (pss_one (ps_ret (pe_callB (cr_all rfl) (by rfl) B.all_ (by decide +kernel) (pa_cons (pe_lc (own := [("sign", 1)]) (g := gName 1) (tt := tYes) (te := tChain rLeS rLeS (tC (.str "a")) (tVar 1) (tC (.str "z"))) rfl scIsLet.nd (pi_str (pv 0))
        (blkOk_by (own := [("sign", 1)]) (N := ["name", "sign"]) (sc := defScope sIsLetter) (by decide +kernel))
        (fun _ _ _ _ _ => pg_name (i := 1) scIsLet.nd rfl (Or.inl rfl)) (fun _ _ _ _ _ => pts_nil) (fun _ _ _ _ _ => by exact pe_chain op_le_str op_le_str pe_str (pv 1) pe_str)) pa_nil)))), ?_⟩
    have hz : z.length ≤ sizeLine := by rw [sizeLine_eq]; omega
    refine ⟨_, rfl, _, _, _, _, true, rfl, .ty "str", .base (.str z), kit_ss, true, rfl, iteF ?_⟩
    refine ⟨_, rfl, z, rfl, hz, _, _, rfl, rfl, _, rfl, iteD (fun _ => ?_) (fun h => absurd (by omega) h)⟩
    refine ⟨_, _, rfl, rfl, _, rfl, iteP (by omega) ?_⟩
    refine ⟨_, rfl, z, rfl, fun D nD => lc_it walk_str (fun i H' => Same H H' ∧ H' D = some (.lst (List.replicate i (V.bl true)))) ⟨Same.upd nD, upd_same⟩ (fun _ _ _ _ => trivial) ?_ ?_⟩
    · rintro i x H1 H1' hi ⟨S, hD⟩ ⟨rfl, c, hcz, rfl⟩
      have hm : c ∈ z.cps.toList := by
        rw [← Array.getElem?_toList] at hcz
        exact List.mem_of_getElem? hcz
      obtain ⟨c1, c2⟩ := hc c hm
      have n1 : ¬ ((⟨#[c]⟩ : Str).cps.toList < ("a" : Str).cps.toList) := by
        show ¬ ([c] < [97])
        rw [List.cons_lt_cons_iff]
        rintro (h | ⟨_, h⟩)
        · omega
        · exact absurd h (by decide)
      have n2 : ¬ (("z" : Str).cps.toList < (⟨#[c]⟩ : Str).cps.toList) := by
        show ¬ ([122] < [c])
        rw [List.cons_lt_cons_iff]
        rintro (h | ⟨_, h⟩)
        · omega
        · exact absurd h (by decide)
      refine ⟨rfl, iteT (B := False) ⟨_, rfl, _, _, rfl, rfl, _, rfl, iteN n1 ⟨_, _, rfl, rfl, _, hD, ?_, ?_, ?_⟩⟩⟩
      · rw [List.length_replicate]
        have : i < z.length := hi
        omega
      · intro b o hb
        rw [upd_ne (ne_of_none hb nD)]
        exact S _ _ hb
      · rw [upd_same, decide_eq_false n2, List.replicate_succ']
        rfl
    · rintro H1 ⟨S, hD⟩
      refine ⟨D, List.replicate z.cps.size true, rfl, SqL.of ?_, ?_⟩
      · rw [List.map_replicate]
        exact hD
      · rw [show (List.replicate z.cps.size true).all id = true by simp]
        exact k H1 S
theorem scProdOk : FnScope ["product", "name"] ["product"] (defScope sIsProduct) := ⟨rfl, rfl, rfl, by decide +kernel, rfl, by decide +kernel, by decide +kernel⟩
theorem ok_prodOk {f : Addr} {fd : FuncData} (F : Fun K "is_product" "is_product" sIsProduct f fd) (B : Bl mg) (L : Cal P w K mg base 1 "is_letter" spIsLet []) : FnOk P w K mg base CX0 2 f fd ["product"] spProdOk := by
  refine F.ok scProdOk (fun vs H Q E h => ?_) (fun cdv A outer s H vs Q E hr h => ?_)
  · obtain ⟨a, xs, rfl, _⟩ := h
    rfl
  · obtain ⟨a, xs, rfl, ha, hx, hz, k⟩ := h
    refine ⟨_, pss_one (ps_ret (pe_and (pe_callB call_isi (by rfl) B.isi (by decide +kernel) (pa_cons (pv 0) (pa_cons (pe_bltn (v := .ty "list") (by rfl) B.lst_ (by decide +kernel) rfl) pa_nil)))
      (pe_one (pe_callB (cr_all rfl) (by rfl) B.all_ (by decide +kernel) (pa_cons (pe_lc (own := [("name", 1)]) (g := gName 1) (tt := tYes) (te := tCall spIsLet [] C8.E0 (tCons (tVar 1) tNil)) rfl scProdOk.nd (pi_list (pv 0))
        (blkOk_by (own := [("name", 1)]) (N := ["product", "name"]) (sc := defScope sIsProduct) (by decide +kernel))
        (fun _ _ _ _ _ => pg_name (i := 1) scProdOk.nd rfl (Or.inl rfl)) (fun _ _ _ _ _ => pts_nil) (fun _ _ _ _ _ => by exact pe_c L hr (by decide) rfl (pa_cons (pv 1) pa_nil))) pa_nil))))), ?_⟩
    refine ⟨_, rfl, _, _, _, _, true, rfl, .ty "list", .base (.lst ha), kit_ll, true, rfl, iteT (B := False) ?_⟩
    refine ⟨_, rfl, a, rfl, ⟨_, SqL.of ha⟩, fun D nD => lc_it (walk_list (xs := xs.map V.str)) (fun i H' => Same H H' ∧ H' D = some (.lst (List.replicate i (V.bl true)))) ⟨Same.upd nD, upd_same⟩ (fun i H' _ q => SqL.of (q.1 _ _ ha)) ?_ ?_⟩
    · rintro i x H2 H3 hi ⟨S, hD⟩ ⟨rfl, hx2⟩
      rw [List.length_map] at hi
      rw [List.getElem?_map] at hx2
      obtain ⟨z, hzz, rfl⟩ := Option.map_eq_some_iff.mp hx2
      refine ⟨rfl, iteT (B := False) ⟨_, rfl, z, rfl, hx z (List.mem_of_getElem? hzz), fun H4 S4 => ⟨_, S4 _ _ hD, ?_, ?_, ?_⟩⟩⟩
      · rw [List.length_replicate, sizeLine_eq]
        omega
      · intro b o hb
        rw [upd_ne (ne_of_none hb nD)]
        exact S4 _ _ (S _ _ hb)
      · rw [upd_same, List.replicate_succ']
    · rintro H2 ⟨S, hD⟩
      refine ⟨D, List.replicate xs.length true, rfl, SqL.of ?_, ?_⟩
      · rw [List.map_replicate]
        rw [List.length_map] at hD
        exact hD
      · rw [all_true]
        exact k H2 S
theorem scSideOk : FnScope ["side", "many", "product"] ["side", "many"] (defScope sIsSide) := ⟨rfl, rfl, rfl, by decide +kernel, rfl, by decide +kernel, by decide +kernel⟩
theorem cut12 (x y z : V) : cutV [x, y, z] (some 1) none = [y, z] := by rfl
theorem ok_sideOk {f : Addr} {fd : FuncData} (F : Fun K "is_side" "is_side" sIsSide f fd) (B : Bl mg) (L : Cal P w K mg base 1 "is_letter" spIsLet []) (Pr : Cal P w K mg base 2 "is_product" spProdOk []) : FnOk P w K mg base CX0 3 f fd ["side", "many"] spSideOk := by
  refine F.ok scSideOk (fun vs H Q E h => ?_) (fun cdv A outer s H vs Q E hr h => ?_)
  · obtain ⟨t, x, rfl, _⟩ := h
    rfl
  · obtain ⟨t, x, rfl, ⟨a, b, ht, ha, hb⟩, ⟨o1, o2, o3, o4, o5⟩, k⟩ := h
    refine ⟨_, pss_cons (ps_if (PW.pt (pw_or (pt_not (pt_val (pe_callB call_isi (by rfl) B.isi (by decide +kernel) (pa_cons (pv 0) (pa_cons (pe_bltn (v := .ty "tuple") (by rfl) B.tup_ (by decide +kernel) rfl) pa_nil)))))
        (pw_or1 (pt_cmpR op_ne (pe_callB call_len_seq (by rfl) B.len_ PySem.boot_len (pa_cons (pv 0) pa_nil)) (pe_op op_add pe_int (pv 1)) (by rfl))))) (pss_one (ps_ret pe_bl)) pss_nil)
      (pss_one (ps_ret (pe_and (pe_c L hr (by decide) rfl (pa_cons (pe_ix ix_tup (pv 0) pe_int (fun _ _ => rfl)) pa_nil))
        (pe_one (pe_callB (cr_all rfl) (by rfl) B.all_ (by decide +kernel) (pa_cons (pe_lc (own := [("product", 2)]) (g := gName 2) (tt := tYes) (te := tCall spProdOk [] C8.E0 (tCons (tVar 2) tNil)) rfl scSideOk.nd (pi_tup (pe_slice sl_tup (pv 0) (po_some pe_int) po_none))
          (blkOk_by (own := [("product", 2)]) (N := ["side", "many", "product"]) (sc := defScope sIsSide) (by decide +kernel))
          (fun _ _ _ _ _ => pg_name (i := 2) scSideOk.nd rfl (Or.inl rfl)) (fun _ _ _ _ _ => pts_nil) (fun _ _ _ _ _ => by exact pe_c Pr hr (by decide) rfl (pa_cons (pv 2) pa_nil))) pa_nil)))))), ?_⟩
    refine ⟨_, rfl, _, _, _, _, true, rfl, .ty "tuple", .base (.tup ht), kit_tt, true, rfl, iteF ?_⟩
    refine ⟨_, rfl, t, _, rfl, .inr (SqT.of ht), _, rfl, 1, 2, rfl, rfl, rfl, _, rfl, ifF rfl ?_⟩
    dsimp only [tNext]
    refine ⟨_, rfl, t, _, 0, _, rfl, rfl, SqT.of ht, rfl, x.1, rfl, o1, fun H1 S1 => ⟨true, rfl, iteT (B := False) ?_⟩⟩
    refine ⟨_, rfl, 1, rfl, t, _, rfl, SqT.of (S1 _ _ ht), (fun h => absurd (show HT.sIx 3 0 (some 1) = 0 from h.1) (by decide)), fun p np => ?_⟩
    rw [cut12]
    have S2 : Same H1 (upd H1 p (.tup [.ref a, .ref b])) := Same.upd np
    have hp : (upd H1 p (.tup [.ref a, .ref b])) p = some (.tup [.ref a, .ref b]) := upd_same
    generalize upd H1 p (.tup [.ref a, .ref b]) = H2 at S2 hp ⊢
    refine ⟨p, rfl, ⟨_, SqT.of hp⟩, fun D nD => lc_it (walk_tup (xs := [.ref a, .ref b])) (fun i H' => Same H2 H' ∧ H' D = some (.lst (List.replicate i (V.bl true)))) ⟨Same.upd nD, upd_same⟩ (fun i H' _ q => SqT.of (q.1 _ _ hp)) ?_ ?_⟩
    · rintro i x1 H3 H4 hi ⟨S, hD⟩ ⟨rfl, hx2⟩
      have key : ∃ (a : Addr) (xs : List Str), [x1] = [V.ref a] ∧ H4 a = some (HO.lst (xs.map V.str)) ∧ (∀ z ∈ xs, LetOk z) ∧ xs.length ≤ 60 := by
        match i, hi with
        | 0, _ => cases hx2; exact ⟨a, x.2.1, rfl, S _ _ (S2 _ _ (S1 _ _ ha)), o2, o4⟩
        | 1, _ => cases hx2; exact ⟨b, x.2.2, rfl, S _ _ (S2 _ _ (S1 _ _ hb)), o3, o5⟩
      obtain ⟨c, zs, e, hc, hl, hz⟩ := key
      refine ⟨rfl, iteT (B := False) ⟨_, rfl, c, zs, e, hc, hl, hz, fun H5 S4 => ⟨_, S4 _ _ hD, ?_, ?_, ?_⟩⟩⟩
      · rw [List.length_replicate, sizeLine_eq]
        have : i < 2 := hi
        omega
      · intro b o hb
        rw [upd_ne (ne_of_none hb nD)]
        exact S4 _ _ (S _ _ hb)
      · rw [upd_same, List.replicate_succ']
    · rintro H3 ⟨S, hD⟩
      refine ⟨D, List.replicate 2 true, rfl, SqL.of hD, ?_⟩
      exact k H3 (S1.trans (S2.trans S))
end
end E4

set_option Elab.async false
set_option linter.all false
set_option maxRecDepth 100000
set_option maxHeartbeats 1000000
/-! names_of, is_sides -/
namespace E4
open PySem PySem.Spec PyProof.Rows L2
open C8 (Cal Mak Met InsC pe_c pe_mt pe_mt0 call_isC clsBody)
/-- good sides -/
structure SdsOk (xs : List Sd) : Prop where
  ne : xs ≠ []
  ok : ∀ x ∈ xs, SdOk x
  nd : (xs.map (·.1)).Nodup
  free : ∀ x ∈ xs, ∀ y ∈ xs, ∀ z, z ∈ x.2.1 ∨ z ∈ x.2.2 → z ≠ y.1
  len : xs.length ≤ 16
def spNames (K : PySem.W.Frag) : Sp := fun vs H Q _ => ∃ (l : Addr) (ts : List Addr) (xs : List Sd), vs = [.ref l] ∧ SqL K H l (ts.map V.ref) ∧ SdsAt H ts xs ∧ xs.length ≤ 60 ∧ ∀ H' p, Same H H' → H p = none → H' p = some (.lst ((xs.map (·.1)).map V.str)) → Q (.ref p) H'
def spSidesOk : Sp := fun vs H Q _ => ∃ (l : Addr) (ts : List Addr) (xs : List Sd), vs = [.ref l, .int 2] ∧ H l = some (.lst (ts.map V.ref)) ∧ SdsAt H ts xs ∧ SdsOk xs ∧ ∀ H', Same H H' → Q (.bl true) H'
theorem any_false (l : List Bool) (h : ∀ b ∈ l, b = false) : l.any id = false := by
  rw [List.any_eq_false]
  intro b hb
  rw [h b hb]
  decide
section
variable {P : Program} {w : World} {K : PySem.W.Frag} {mg : Str → Option Value} {base : Heap}
theorem scNames : FnScope ["sides", "side"] ["sides"] (defScope sNamesOf) := ⟨rfl, rfl, rfl, by decide +kernel, rfl, by decide +kernel, by decide +kernel⟩
theorem ok_names {f : Addr} {fd : FuncData} (F : Fun K "names_of" "names_of" sNamesOf f fd) : FnOk P w K mg base CX0 1 f fd ["sides"] (spNames K) := by
  refine F.ok scNames (fun vs H Q E h => ?_) (fun cdv A outer s H vs Q E hr h => ?_)
  · obtain ⟨l, ts, xs, rfl, _⟩ := h
    rfl
  · obtain ⟨l, ts, xs, rfl, hl, hx, hz, k⟩ := h
    refine ⟨_, pss_one (ps_ret (pe_lc (own := [("side", 1)]) (g := gName 1) (tt := tYes) (te := tOp (rIxT K) (tVar 1) (tC (.int 0))) rfl scNames.nd (pi_list (pv 0))
        (blkOk_by (own := [("side", 1)]) (N := ["sides", "side"]) (sc := defScope sNamesOf) (by decide +kernel))
        (fun _ _ _ _ _ => pg_name (i := 1) scNames.nd rfl (Or.inl rfl)) (fun _ _ _ _ _ => pts_nil) (fun _ _ _ _ _ => by exact pe_ix ix_tup (pv 1) pe_int (fun _ _ => rfl)))), ?_⟩
    have lt := hx.length
    refine ⟨_, rfl, l, rfl, ⟨_, hl⟩, fun D nD => lc_it (walk_list (xs := ts.map V.ref)) (fun i H' => Same H H' ∧ H' D = some (.lst (((xs.take i).map (·.1)).map V.str))) ⟨Same.upd nD, upd_same⟩ (fun i H' _ q => hl.same q.1) ?_ ?_⟩
    · rintro i x H1 H2 hi ⟨S, hD⟩ ⟨rfl, hx2⟩
      rw [List.length_map] at hi
      rw [List.getElem?_map] at hx2
      obtain ⟨t, htt, rfl⟩ := Option.map_eq_some_iff.mp hx2
      obtain ⟨y, hy, a, b, h1, _⟩ := paired_at hx htt
      refine ⟨rfl, iteT (B := False) ⟨_, rfl, t, _, 0, _, rfl, rfl, SqT.of (S _ _ h1), rfl, _, hD, ?_, ?_, ?_⟩⟩
      · rw [List.length_map, List.length_map, List.length_take, sizeLine_eq]
        omega
      · intro c o e
        rw [upd_ne (ne_of_none e nD)]
        exact S _ _ e
      · rw [upd_same, take_snoc hy, List.map_append, List.map_append]
        rfl
    · rintro H1 ⟨S, hD⟩
      rw [List.length_map, lt, List.take_length] at hD
      exact k H1 D S nD hD
theorem scSidesOk : FnScope ["sides", "many", "side", "names", "product", "part"] ["sides", "many"] (defScope sIsSides) := ⟨rfl, rfl, rfl, by decide +kernel, rfl, by decide +kernel, by decide +kernel⟩
theorem ok_sidesOk {f : Addr} {fd : FuncData} (F : Fun K "is_sides" "is_sides" sIsSides f fd) (B : Bl mg) (Sd : Cal P w K mg base 3 "is_side" spSideOk []) (Nm : Cal P w K mg base 1 "names_of" (spNames K) []) : FnOk P w K mg base CX0 4 f fd ["sides", "many"] spSidesOk := by
  refine F.ok scSidesOk (fun vs H Q E h => ?_) (fun cdv A outer s H vs Q E hr h => ?_)
  · obtain ⟨l, ts, xs, rfl, _⟩ := h
    rfl
  · obtain ⟨l, ts, xs, rfl, hl, hx, ok, k⟩ := h
    refine ⟨_, pss_cons (ps_if (PW.pt (pw_or (pt_not (pt_val (pe_callB call_isi (by rfl) B.isi (by decide +kernel) (pa_cons (pv 0) (pa_cons (pe_bltn (v := .ty "list") (by rfl) B.lst_ (by decide +kernel) rfl) pa_nil)))))
        (pw_or1 (pt_cmpR op_eq (pe_callB call_len_seq (by rfl) B.len_ PySem.boot_len (pa_cons (pv 0) pa_nil)) pe_int (by rfl))))) (pss_one (ps_ret pe_bl)) pss_nil)
      (pss_cons (ps_if (pt_not (pt_val (pe_callB (cr_all rfl) (by rfl) B.all_ (by decide +kernel) (pa_cons (pe_lc (own := [("side", 2)]) (g := gName 2) (tt := tYes) (te := tCall spSideOk [] C8.E0 (tCons (tVar 2) (tCons (tVar 1) tNil))) rfl scSidesOk.nd (pi_list (pv 0))
          (blkOk_by (own := [("side", 2)]) (N := ["sides", "many", "side", "names", "product", "part"]) (sc := defScope sIsSides) (by decide +kernel))
          (fun _ _ _ _ _ => pg_name (i := 2) scSidesOk.nd rfl (Or.inl rfl)) (fun _ _ _ _ _ => pts_nil) (fun _ _ _ _ _ => by exact pe_c Sd hr (by decide) rfl (pa_cons (pv 2) (pa_cons (pv 1) pa_nil)))) pa_nil)))) (pss_one (ps_ret pe_bl)) pss_nil)
      (pss_cons (ps_set (i := 3) scSidesOk.nd rfl (Or.inr rfl) (pe_c Nm hr (by decide) rfl (pa_cons (pv 0) pa_nil)))
      (pss_cons (ps_if (pt_cmpR op_lt (pe_callB cr_lenSS (by rfl) B.len_ PySem.boot_len (pa_cons (pe_callTy (cr_setLS rfl) (by rfl) B.set_ (by decide +kernel) (pa_cons (pv 3) pa_nil)) pa_nil)) (pe_callB call_len_seq (by rfl) B.len_ PySem.boot_len (pa_cons (pv 3) pa_nil)) (by rfl)) (pss_one (ps_ret pe_bl)) pss_nil)
      (pss_one (ps_ret (pe_not (pe_callB (cr_any rfl) (by rfl) B.any_ (by decide +kernel) (pa_cons (pe_lc3 (own := [("side", 2), ("product", 4), ("part", 5)]) (v1 := [4, 5]) (v2 := [5]) (g0 := gName 2) (w1 := iTup K (tSl (rSlT K) (tVar 2) (tPart (tC (.int 1))) tNoPart)) (g1 := gName 4) (w2 := iList K (tVar 4)) (g2 := gName 5) (te := tOp (rIn K false) (tVar 5) (tVar 3)) rfl scSidesOk.nd
          (blkOk_by (own := [("side", 2), ("product", 4), ("part", 5)]) (N := ["sides", "many", "side", "names", "product", "part"]) (sc := defScope sIsSides) (by decide +kernel)) (by decide) (by decide) (pi_list (pv 0))
          (fun _ _ _ _ _ => pg_name (i := 2) scSidesOk.nd rfl (Or.inl rfl)) (fun _ _ _ _ _ => by exact pi_tup (pe_slice sl_tup (pv 2) (po_some pe_int) po_none)) (fun _ _ _ _ _ => pg_name (i := 4) scSidesOk.nd rfl (Or.inl rfl))
          (fun _ _ _ _ _ => by exact pi_list (pv 4)) (fun _ _ _ _ _ => pg_name (i := 5) scSidesOk.nd rfl (Or.inl rfl)) (fun _ _ _ _ _ => by exact pe_cmpR op_in_seq (pv 5) (pv 3) (by rfl))) pa_nil)))))))), ?_⟩
    have lt := hx.length
    have zl := ok.len
    refine ⟨_, rfl, _, _, _, _, true, rfl, .ty "list", .base (.lst hl), kit_ll, true, rfl, iteF ?_⟩
    refine ⟨_, rfl, l, _, rfl, .inl (SqL.of hl), ?_⟩
    have hne : (ts.map V.ref).length ≠ 0 := by
      have : xs.length ≠ 0 := fun e => ok.ne (List.length_eq_zero_iff.mp e)
      rw [List.length_map]
      omega
    refine ⟨rfl, _, rfl, ifF (decide_eq_false fun e => hne (Int.ofNat.inj (V.int.inj e))) ?_⟩
    dsimp only [tNext]
    -- the first comprehension
    refine ⟨_, rfl, l, rfl, ⟨_, SqL.of hl⟩, fun D nD => lc_it (walk_list (xs := ts.map V.ref)) (fun i H' => Same H H' ∧ H' D = some (.lst (List.replicate i (V.bl true)))) ⟨Same.upd nD, upd_same⟩ (fun i H' _ q => SqL.of (q.1 _ _ hl)) ?_ ?_⟩
    · rintro i x H2 H3 hi ⟨S, hD⟩ ⟨rfl, hx2⟩
      rw [List.length_map] at hi
      rw [List.getElem?_map] at hx2
      obtain ⟨t, htt, rfl⟩ := Option.map_eq_some_iff.mp hx2
      obtain ⟨y, hy, sy⟩ := paired_at hx htt
      refine ⟨rfl, iteT (B := False) ⟨_, rfl, _, rfl, t, y, rfl, sy.same S, ok.ok y (List.mem_of_getElem? hy), fun H4 S4 => ⟨_, S4 _ _ hD, ?_, ?_, ?_⟩⟩⟩
      · rw [List.length_replicate, sizeLine_eq]
        omega
      · intro b o hb
        rw [upd_ne (ne_of_none hb nD)]
        exact S4 _ _ (S _ _ hb)
      · rw [upd_same, List.replicate_succ']
    rintro H2 ⟨S2, hD⟩
    refine ⟨D, List.replicate ts.length true, rfl, SqL.of (by rw [List.map_replicate]; rw [List.length_map] at hD; exact hD), true, by rw [all_true], iteF ?_⟩
    dsimp only [tNext]
    refine seq_asg ⟨_, rfl, l, ts, xs, rfl, SqL.of (S2 _ _ hl), hx.same S2, by omega, fun H3 p S3 np hp => ?_⟩
    -- the names
    have S03 := S2.trans S3
    refine ⟨_, rfl, p, xs.map (·.1), rfl, SqL.of hp, fun i => ?_, fun sa nsa => ?_⟩
    · have h1 := len_putAll ((xs.map (·.1)).take i) []
      rw [List.length_take, List.length_map] at h1
      have : (0 : Nat) + 60 + 1 < scanBound := by decide
      simp only [List.length_nil] at h1
      omega
    have S34 : Same H3 (upd H3 sa (SetSO P w sa (putAll [] (xs.map (·.1))))) := Same.upd nsa
    refine ⟨sa, _, rfl, upd_same, ?_⟩
    refine ⟨_, rfl, p, _, rfl, .inl (SqL.of (S34 _ _ hp)), ?_⟩
    have e1 := putAll_nodup (ks := []) ok.nd fun _ _ h => absurd h List.not_mem_nil
    refine ⟨_, _, rfl, rfl, _, rfl, ifF (decide_eq_false ?_) ?_⟩
    · rw [e1, List.length_map]
      simp
    dsimp only [tNext]
    show tRet _ _ _ (upd H3 sa (SetSO P w sa (putAll [] (xs.map (·.1)))))
    generalize upd H3 sa (SetSO P w sa (putAll [] (xs.map (·.1)))) = H4 at S34 ⊢
    have S04 := S03.trans S34
    have hp4 := S34 _ _ hp
    -- the last comprehension
    have big : ∀ m : Nat, m ≤ 120 * 60 → m < sizeLine := fun m h => by rw [sizeLine_eq]; omega
    refine ⟨_, rfl, l, rfl, ⟨_, SqL.of (S04 _ _ hl)⟩, fun D2 nD2 => ?_⟩
    have up : ∀ {H' : Hp} {v : HO}, Same H4 H' → Same H4 (upd H' D2 v) := fun S c o e => by
      rw [upd_ne (ne_of_none e nD2)]
      exact S _ _ e
    refine cl_it (walk_list (xs := ts.map V.ref)) (fun i H' => Same H4 H' ∧ ∃ m, m ≤ 120 * i ∧ H' D2 = some (.lst (List.replicate m (V.bl false)))) ⟨Same.upd nD2, 0, Nat.le_refl _, upd_same⟩ (fun i H' _ q => SqL.of (q.1 _ _ (S04 _ _ hl))) ?_ ?_
    · rintro i x H5 H6 hi ⟨S5, m, hm, hD⟩ ⟨rfl, hx2⟩
      rw [List.length_map] at hi
      rw [List.getElem?_map] at hx2
      obtain ⟨t, htt, rfl⟩ := Option.map_eq_some_iff.mp hx2
      obtain ⟨y, hy, a, b, h1, h2, h3⟩ := paired_at hx htt
      have ym := List.mem_of_getElem? hy
      obtain ⟨o1, o2, o3, o4, o5⟩ := ok.ok y ym
      have S45 := S04.trans S5
      refine ⟨rfl, _, rfl, 1, rfl, t, _, rfl, SqT.of (S45 _ _ h1), (fun h => absurd (show HT.sIx 3 0 (some 1) = 0 from h.1) (by decide)), fun q nq => ?_⟩
      rw [cut12]
      have nqD : q ≠ D2 := (ne_of_none hD nq).symm
      refine ⟨q, rfl, ⟨_, SqT.of upd_same⟩, ?_⟩
      refine cl_it (walk_tup (xs := [.ref a, .ref b])) (fun j H' => Same H4 H' ∧ H' q = some (.tup [.ref a, .ref b]) ∧ ∃ m, m ≤ 120 * i + 60 * j ∧ H' D2 = some (.lst (List.replicate m (V.bl false)))) ⟨S5.trans (Same.upd nq), upd_same, m, hm, by rw [upd_ne nqD.symm]; exact hD⟩ (fun j H' _ q => SqT.of q.2.1) ?_ ?_
      · rintro j x2 H7 H8 hj ⟨S7, hq7, m7, hm7, hD7⟩ ⟨rfl, hx3⟩
        have S47 := S04.trans S7
        have key : ∃ (c : Addr) (zs : List Str), x2 = .ref c ∧ H8 c = some (.lst (zs.map V.str)) ∧ zs.length ≤ 60 ∧ c ≠ D2 ∧ ∀ z ∈ zs, z ∈ y.2.1 ∨ z ∈ y.2.2 := by
          match j, hj with
          | 0, _ => cases hx3; exact ⟨a, y.2.1, rfl, S47 _ _ h2, o4, ne_of_none (S04 _ _ h2) nD2, fun z hz => .inl hz⟩
          | 1, _ => cases hx3; exact ⟨b, y.2.2, rfl, S47 _ _ h3, o5, ne_of_none (S04 _ _ h3) nD2, fun z hz => .inr hz⟩
        obtain ⟨c, zs, rfl, hc, hz, ncD, hzs⟩ := key
        refine ⟨rfl, _, rfl, c, rfl, ⟨_, SqL.of hc⟩, ?_⟩
        refine cl_it (walk_list (xs := zs.map V.str)) (fun k H' => Same H4 H' ∧ H' q = some (.tup [.ref a, .ref b]) ∧ H' c = some (.lst (zs.map V.str)) ∧ H' D2 = some (.lst (List.replicate (m7 + k) (V.bl false)))) ⟨S7, hq7, hc, hD7⟩ (fun k H' _ q => SqL.of q.2.2.1) ?_ ?_
        · rintro k x3 H9 H10 hk ⟨S9, hq9, hc9, hD9⟩ ⟨rfl, hx4⟩
          rw [List.length_map] at hk
          rw [List.getElem?_map] at hx4
          obtain ⟨z, hzz, rfl⟩ := Option.map_eq_some_iff.mp hx4
          have nin : inV (.str z) ((xs.map (·.1)).map V.str) = false := by
            unfold inV
            rw [List.any_eq_false]
            intro v hv
            obtain ⟨n, hn, rfl⟩ := List.mem_map.mp hv
            obtain ⟨y2, hy2, rfl⟩ := List.mem_map.mp hn
            have := ok.free y ym y2 hy2 z (hzs z (List.mem_of_getElem? hzz))
            simp [eqV, Ne.symm this]
          have fl : ((xs.map (·.1)).map V.str).all flatV = true := by
            rw [List.all_eq_true]
            intro v hv
            obtain ⟨n, hn, rfl⟩ := List.mem_map.mp hv
            rfl
          refine ⟨rfl, _, rfl, _, rfl, p, _, rfl, .inl (SqL.of (S9 _ _ hp4)), rfl, fl, ?_⟩
          have hi2 : i < 60 := by omega
          have hj2 : j < 2 := hj
          refine ⟨_, hD9, by rw [List.length_replicate]; exact big _ (by omega), up S9, ?_, ?_, ?_⟩
          · rw [upd_ne nqD]; exact hq9
          · rw [upd_ne ncD]; exact hc9
          · rw [upd_same, ← Nat.add_assoc, List.replicate_succ']
            show some (HO.lst (_ ++ [V.bl (inV _ _)])) = _
            rw [nin]
        · rintro H9 ⟨S9, hq9, hc9, hD9⟩
          rw [List.length_map] at hD9
          exact ⟨S9, hq9, m7 + zs.length, by omega, hD9⟩
      · rintro H7 ⟨S7, hq7, m7, hm7, hD7⟩
        exact ⟨S7, m7, by simp only [List.length_cons, List.length_nil] at hm7; omega, hD7⟩
    · rintro H5 ⟨S5, m, hm, hD⟩
      refine ⟨D2, List.replicate m false, rfl, SqL.of (by rw [List.map_replicate]; exact hD), ?_⟩
      rw [any_false _ fun b hb => (List.mem_replicate.mp hb).2]
      exact ⟨false, rfl, k _ (S04.trans S5)⟩
end
end E4

set_option Elab.async false
set_option linter.all false
set_option maxRecDepth 100000
set_option maxHeartbeats 1000000
/-! Plain: the constructor, sides(), sizes() -/
namespace E4
open PySem PySem.Spec PyProof.Rows L2
open C8 (Cal Mak Met InsC pe_c pe_mt pe_mt0 call_isC clsBody)
/-- a side with sorted products -/
def norm (x : Sd) : Sd := (x.1, sortT x.2.1, sortT x.2.2)
/-- the table at a: its sides, their products in order -/
def PlAt (C : Addr) (H : Hp) (a : Addr) (ss : List Sd) : Prop := ∃ dx l ts, H a = some (.ins C dx [("_sides", .ref l)]) ∧ H l = some (.lst (ts.map V.ref)) ∧ SdsAt H ts ss
theorem PlAt.same {C : Addr} {H H' : Hp} {a : Addr} {ss : List Sd} (h : PlAt C H a ss) (S : Same H H') : PlAt C H' a ss := let ⟨dx, l, ts, h1, h2, h3⟩ := h; ⟨dx, l, ts, S _ _ h1, S _ _ h2, h3.same S⟩
theorem str_ref {xs : List Str} {ts : List Addr} (h : xs.map V.str = ts.map V.ref) : ts = [] := by
  cases ts with
  | nil => rfl
  | cons t r =>
    cases xs with
    | nil => cases h
    | cons x y => cases (List.cons.inj h).1
/-- sides stay when a list of refs grows -/
theorem SdsAt.off {H H' : Hp} {D : Addr} {ts : List Addr} {xs : List Sd} {v : HO} (h : SdsAt H ts xs) (hD : H D = some (.lst (ts.map V.ref))) (hn : ∀ t ∈ ts, t ≠ D) (S : ∀ c o, c ≠ D → H c = some o → H' c = some o) : SdsAt H' ts xs := by
  refine h.imp fun t ht x hx => ?_
  obtain ⟨a, b, h1, h2, h3⟩ := hx
  have no : ∀ (c : Addr) (zs : List Str), H c = some (.lst (zs.map V.str)) → c ≠ D := fun c zs e z => by
    rw [z, hD] at e
    have := str_ref (HO.lst.inj (Option.some.inj e)).symm
    rw [this] at ht
    cases ht
  exact ⟨a, b, S _ _ (hn t ht) h1, S _ _ (no _ _ h2) h2, S _ _ (no _ _ h3) h3⟩
theorem length_sortT (l : List Str) : (sortT l).length = l.length := (sortT_perm l).length_eq
theorem SdOk.norm {x : Sd} (h : SdOk x) : SdOk (norm x) := by
  obtain ⟨h1, h2, h3, h4, h5⟩ := h
  exact ⟨h1, fun z hz => h2 z ((sortT_perm _).mem_iff.mp hz), fun z hz => h3 z ((sortT_perm _).mem_iff.mp hz), by show (sortT _).length ≤ 60; rw [length_sortT]; exact h4, by show (sortT _).length ≤ 60; rw [length_sortT]; exact h5⟩
theorem SdsOk.norm {xs : List Sd} (h : SdsOk xs) : SdsOk (xs.map norm) := by
  refine ⟨fun e => h.ne (List.map_eq_nil_iff.mp e), fun y hy => ?_, ?_, fun y hy z hz u hu => ?_, by rw [List.length_map]; exact h.len⟩
  · obtain ⟨x, hx, rfl⟩ := List.mem_map.mp hy
    exact (h.ok x hx).norm
  · rw [List.map_map]
    exact h.nd
  · obtain ⟨x, hx, rfl⟩ := List.mem_map.mp hy
    obtain ⟨x2, hx2, rfl⟩ := List.mem_map.mp hz
    refine h.free x hx x2 hx2 u ?_
    rcases hu with hu | hu
    · exact .inl ((sortT_perm _).mem_iff.mp hu)
    · exact .inr ((sortT_perm _).mem_iff.mp hu)
structure Px (P : Program) (w : World) (K : PySem.W.Frag) (mg : Str → Option Value) (base : Heap) (C : Addr) : Prop where
  cl : Cls K C
  na : NoAttr K C "_sides"
def spInit (C : Addr) : Sp := fun vs H Q _ => ∃ (a dx l : Addr) (ts : List Addr) (xs : List Sd), vs = [.ref a, .ref l] ∧ H a = some (.ins C dx []) ∧ H l = some (.lst (ts.map V.ref)) ∧ SdsAt H ts xs ∧ SdsOk xs ∧
  ∀ H' l' ts', SameB a H H' → H' a = some (.ins C dx [("_sides", .ref l')]) → H' l' = some (.lst (ts'.map V.ref)) → SdsAt H' ts' (xs.map norm) → Q .non H'
def spSides (C : Addr) : Sp := fun vs H Q _ => ∃ (a : Addr) (ss : List Sd), vs = [.ref a] ∧ PlAt C H a ss ∧ SdsOk ss ∧
  ∀ H' p ts', Same H H' → H p = none → H' p = some (.lst (ts'.map V.ref)) → SdsAt H' ts' ss → Q (.ref p) H'
section
variable {P : Program} {w : World} {K : PySem.W.Frag} {mg : Str → Option Value} {base : Heap} {C : Addr}
theorem scInit : FnScope ["self", "sides", "name", "size", "step"] ["self", "sides"] (defScope sInit) := ⟨rfl, rfl, rfl, by decide +kernel, rfl, by decide +kernel, by decide +kernel⟩
theorem ok_init {f : Addr} {fd : FuncData} (F : Fun K "__init__" "Plain.__init__" sInit f fd) (B : Bl mg) (T : Px P w K mg base C) (Is : Cal P w K mg base 4 "is_sides" spSidesOk []) : FnOk P w K mg base CX0 5 f fd ["self", "sides"] (spInit C) := by
  refine F.ok scInit (fun vs H Q E h => ?_) (fun cdv A outer s H vs Q E hr h => ?_)
  · obtain ⟨a, dx, l, ts, xs, rfl, _⟩ := h
    rfl
  · obtain ⟨a, dx, l, ts, xs, rfl, ha, hl, hx, ok, k⟩ := h
    refine ⟨_, pss_cons (ps_if (pt_not (pt_val (pe_c Is hr (by decide) rfl (pa_cons (pv 1) (pa_cons pe_int pa_nil))))) (pss_one ps_never) pss_nil)
      (pss_one (ps_fld (pv 0) (pe_lc (own := [("name", 2), ("size", 3), ("step", 4)]) (g := gTup K 3 (gCons (gName 2) (gCons (gName 3) (gCons (gName 4) gNil)))) (tt := tYes) (te := tTupS (tCons (tVar 2) (tCons (tCB (rSortedS K) (tCons (tVar 3) tNil)) (tCons (tCB (rSortedS K) (tCons (tVar 4) tNil)) tNil)))) rfl scInit.nd (pi_list (pv 1))
        (blkOk_by (own := [("name", 2), ("size", 3), ("step", 4)]) (N := ["self", "sides", "name", "size", "step"]) (sc := defScope sInit) (by decide +kernel))
        (fun _ _ _ _ _ => pg_tup rfl (pgs_cons (pg_name (i := 2) scInit.nd rfl (Or.inl rfl)) (pgs_cons (pg_name (i := 3) scInit.nd rfl (Or.inl rfl)) (pgs_cons (pg_name (i := 4) scInit.nd rfl (Or.inl rfl)) pgs_nil)))) (fun _ _ _ _ _ => pts_nil)
        (fun _ _ _ _ _ => by exact pe_tupS (pa_cons (pv 2) (pa_cons (pe_callB cr_sortedS (by rfl) B.srt_ (by decide +kernel) (pa_cons (pv 3) pa_nil)) (pa_cons (pe_callB cr_sortedS (by rfl) B.srt_ (by decide +kernel) (pa_cons (pv 4) pa_nil)) pa_nil))))) rfl)), ?_⟩
    have lt := hx.length
    have zl := ok.len
    refine ⟨_, rfl, l, ts, xs, rfl, hl, hx, ok, fun H1 S1 => ⟨true, rfl, iteF ?_⟩⟩
    dsimp only [tNext]
    have ha1 := S1 _ _ ha
    have hl1 := S1 _ _ hl
    have hx1 := hx.same S1
    refine ⟨_, rfl, l, rfl, ⟨_, SqL.of hl1⟩, fun D nD => ?_⟩
    refine lc_it (walk_list (xs := ts.map V.ref)) (fun i H' => Same H1 H' ∧ ∃ ts' : List Addr, H' D = some (.lst (ts'.map V.ref)) ∧ ts'.length = i ∧ SdsAt H' ts' ((xs.take i).map norm) ∧ ∀ t ∈ ts', t ≠ D) ⟨Same.upd nD, [], upd_same, rfl, .nil, fun _ h => absurd h List.not_mem_nil⟩ (fun i H' _ q => SqL.of (q.1 _ _ hl1)) ?_ ?_
    · rintro i x H2 H3 hi ⟨S2, ts', hD, lt', hs, ht'⟩ ⟨rfl, hx2⟩
      rw [List.length_map] at hi
      rw [List.getElem?_map] at hx2
      obtain ⟨t, htt, rfl⟩ := Option.map_eq_some_iff.mp hx2
      obtain ⟨y, hy, u, v, h1, h2, h3⟩ := paired_at hx1 htt
      obtain ⟨o1, o2, o3, o4, o5⟩ := ok.ok y (List.mem_of_getElem? hy)
      refine ⟨t, _, rfl, SqT.of (S2 _ _ h1), rfl, _, _, rfl, _, _, rfl, _, _, rfl, rfl, rfl, iteT (B := False) ?_⟩
      refine ⟨_, rfl, _, rfl, u, y.2.1, rfl, SqL.of (S2 _ _ h2), by omega, fun ys p pm so np => ?_⟩
      have ep : ∀ v : HO, Same H3 (upd H3 p v) := fun v => Same.upd np
      have S4 := S2.trans (ep (.lst (ys.map V.str)))
      have hp4 : (upd H3 p (.lst (ys.map V.str))) p = some (.lst (ys.map V.str)) := upd_same
      have hD4 := ep (.lst (ys.map V.str)) _ _ hD
      have S34 := ep (.lst (ys.map V.str))
      generalize upd H3 p (.lst (ys.map V.str)) = H4 at S4 hp4 hD4 S34 ⊢
      refine ⟨_, rfl, v, y.2.2, rfl, SqL.of (S4 _ _ h3), by omega, fun zs q pm2 so2 nq => ?_⟩
      have eq : ∀ v : HO, Same H4 (upd H4 q v) := fun v => Same.upd nq
      refine ⟨by show 3 ≤ sizeLine; decide, fun t6 H6 S6 n6 h6 => ?_⟩
      have S46 := (eq (.lst (zs.map V.str))).trans S6
      have S16 := S4.trans S46
      have hD6 := S46 _ _ hD4
      have hp6 := S46 _ _ hp4
      have hq6 := S6 _ _ (upd_same (H := H4) (a := q) (o := .lst (zs.map V.str)))
      have off : ∀ {c : Addr} {o u : HO}, c ≠ D → H6 c = some o → (upd H6 D u) c = some o := fun n e => by rw [upd_ne n]; exact e
      have npD : p ≠ D := (ne_of_none hD np).symm
      have nqD : q ≠ D := (ne_of_none hD4 nq).symm
      have n6D : t6 ≠ D := ne_of h6 hD6 (by intro z; cases z)
      refine ⟨_, hD6, by rw [List.length_map, lt', sizeLine_eq]; omega, fun c o e => off (ne_of_none e nD) (S16 _ _ e), ts' ++ [t6], by rw [upd_same, List.map_append]; rfl, by rw [List.length_append, lt']; rfl, ?_, ?_⟩
      · rw [take_snoc hy, List.map_append]
        refine paired_snoc (SdsAt.off (v := .lst []) hs hD ht' fun c o n e => off n (S46 _ _ (S34 _ _ e))) ⟨p, q, off n6D (by rw [h6]; rfl), off npD (by rw [hp6, sortT_one pm so]; rfl), off nqD (by rw [hq6, sortT_one pm2 so2]; rfl)⟩
      · intro t3 h3
        rcases List.mem_append.mp h3 with h | h
        · exact ht' t3 h
        · rw [List.mem_singleton.mp h]
          exact n6D
    · rintro H2 ⟨S2, ts', hD, lt', hs, _⟩
      rw [List.length_map, lt, List.take_length] at hs
      refine ⟨_, rfl, a, C, dx, [], rfl, S2 _ _ ha1, T.cl, T.na, by decide, ?_⟩
      have nDa : D ≠ a := (ne_of_none ha1 nD).symm
      refine k _ D ts' (fun c o n e => by rw [upd_ne n]; exact S2 _ _ (S1 _ _ e)) upd_same (by rw [upd_ne nDa]; exact hD) (hs.imp fun t3 _ x3 ⟨a3, b3, r1, r2, r3⟩ => ?_)
      have h5 := S2 _ _ ha1
      exact ⟨a3, b3, by rw [upd_ne (ne_of r1 h5 (by intro z; cases z))]; exact r1, by rw [upd_ne (ne_of r2 h5 (by intro z; cases z))]; exact r2, by rw [upd_ne (ne_of r3 h5 (by intro z; cases z))]; exact r3⟩
end
end E4

set_option Elab.async false
set_option linter.all false
set_option maxRecDepth 100000
set_option maxHeartbeats 1000000
/-! Plain: sides(), sizes() -/
namespace E4
open PySem PySem.Spec PyProof.Rows L2
open C8 (Cal Mak Met InsC pe_c pe_mt pe_mt0 call_isC clsBody)
/-- all letters of the products, one behind the other -/
def letsOf (ss : List Sd) : List Str := ss.flatMap fun x => x.2.1 ++ x.2.2
/-- the size letters in order -/
def sizesOf (ss : List Sd) : List Str := sortT (putAll [] (letsOf ss))
theorem mem_sizesOf {ss : List Sd} {z : Str} : z ∈ sizesOf ss ↔ ∃ x ∈ ss, z ∈ x.2.1 ∨ z ∈ x.2.2 := by
  unfold sizesOf letsOf
  rw [(sortT_perm _).mem_iff, mem_putAll, List.mem_flatMap]
  constructor
  · rintro (h | ⟨x, hx, h⟩)
    · cases h
    · exact ⟨x, hx, List.mem_append.mp h⟩
  · rintro ⟨x, hx, h⟩
    exact .inr ⟨x, hx, List.mem_append.mpr h⟩
theorem sizesOf_nodup (ss : List Sd) : (sizesOf ss).Nodup := (sortT_perm _).nodup_iff.mpr (nodup_putAll List.nodup_nil)
theorem length_lets : ∀ {ss : List Sd}, (∀ x ∈ ss, SdOk x) → (letsOf ss).length ≤ 120 * ss.length
  | [], _ => Nat.zero_le _
  | x :: ss, h => by
    have ih := length_lets (ss := ss) fun y hy => h y (List.mem_cons_of_mem _ hy)
    obtain ⟨_, _, _, h4, h5⟩ := h x List.mem_cons_self
    unfold letsOf at ih ⊢
    rw [List.flatMap_cons, List.length_append, List.length_append, List.length_cons]
    omega
def spSizes (C : Addr) : Sp := fun vs H Q _ => ∃ (a : Addr) (ss : List Sd), vs = [.ref a] ∧ PlAt C H a ss ∧ SdsOk ss ∧
  ∀ H' p, Same H H' → H p = none → H' p = some (.lst ((sizesOf ss).map V.str)) → Q (.ref p) H'
section
variable {P : Program} {w : World} {K : PySem.W.Frag} {mg : Str → Option Value} {base : Heap} {C : Addr}
theorem scSides : FnScope ["self", "name", "size", "step"] ["self"] (defScope sSides) := ⟨rfl, rfl, rfl, by decide +kernel, rfl, by decide +kernel, by decide +kernel⟩
/-- a tuple whose lists are new -/
def NewTup (H H' : Hp) (t : Addr) : Prop := ∃ n u v, H' t = some (.tup [n, .ref u, .ref v]) ∧ H u = none ∧ H v = none
def spSidesN (C : Addr) : Sp := fun vs H Q _ => ∃ (a : Addr) (ss : List Sd), vs = [.ref a] ∧ PlAt C H a ss ∧ SdsOk ss ∧
  ∀ H' p ts', Same H H' → H p = none → H' p = some (.lst (ts'.map V.ref)) → SdsAt H' ts' ss → (∀ t ∈ ts', NewTup H H' t) → Q (.ref p) H'
theorem ok_sidesN {f : Addr} {fd : FuncData} (F : Fun K "sides" "Plain.sides" sSides f fd) (B : Bl mg) (T : Px P w K mg base C) : FnOk P w K mg base CX0 1 f fd ["self"] (spSidesN C) := by
  refine F.ok scSides (fun vs H Q E h => ?_) (fun cdv A outer s H vs Q E hr h => ?_)
  · obtain ⟨a, ss, rfl, _⟩ := h
    rfl
  · obtain ⟨a, xs, rfl, ⟨dx, l, ts, ha, hl, hx⟩, ok, k⟩ := h
    refine ⟨_, pss_one (ps_ret (pe_lc (own := [("name", 1), ("size", 2), ("step", 3)]) (g := gTup K 3 (gCons (gName 1) (gCons (gName 2) (gCons (gName 3) gNil)))) (tt := tYes) (te := tTupS (tCons (tVar 1) (tCons (tCB (fun xs H Q => ∃ p ys, xs = [.ref p] ∧ (SqL K H p ys ∨ SqT K H p ys) ∧ ∀ l, H l = none → Q (.ref l) (upd H l (.lst ys))) (tCons (tVar 2) tNil)) (tCons (tCB (fun xs H Q => ∃ p ys, xs = [.ref p] ∧ (SqL K H p ys ∨ SqT K H p ys) ∧ ∀ l, H l = none → Q (.ref l) (upd H l (.lst ys))) (tCons (tVar 3) tNil)) tNil)))) rfl scSides.nd (pi_list (pe_fld (pv 0) rfl))
        (blkOk_by (own := [("name", 1), ("size", 2), ("step", 3)]) (N := ["self", "name", "size", "step"]) (sc := defScope sSides) (by decide +kernel))
        (fun _ _ _ _ _ => pg_tup rfl (pgs_cons (pg_name (i := 1) scSides.nd rfl (Or.inl rfl)) (pgs_cons (pg_name (i := 2) scSides.nd rfl (Or.inl rfl)) (pgs_cons (pg_name (i := 3) scSides.nd rfl (Or.inl rfl)) pgs_nil)))) (fun _ _ _ _ _ => pts_nil)
        (fun _ _ _ _ _ => by exact pe_tupS (pa_cons (pv 1) (pa_cons (pe_callTy call_list_of (by rfl) B.lst_ (by decide +kernel) (pa_cons (pv 2) pa_nil)) (pa_cons (pe_callTy call_list_of (by rfl) B.lst_ (by decide +kernel) (pa_cons (pv 3) pa_nil)) pa_nil)))))), ?_⟩
    have lt := hx.length
    have zl := ok.len
    refine ⟨_, rfl, a, C, dx, _, _, rfl, ha, T.cl, T.na, rfl, l, rfl, ⟨_, SqL.of hl⟩, fun D nD => ?_⟩
    refine lc_it (walk_list (xs := ts.map V.ref)) (fun i H' => Same H H' ∧ ∃ ts' : List Addr, H' D = some (.lst (ts'.map V.ref)) ∧ ts'.length = i ∧ SdsAt H' ts' (xs.take i) ∧ ∀ t ∈ ts', t ≠ D ∧ NewTup H H' t) ⟨Same.upd nD, [], upd_same, rfl, .nil, fun _ h => absurd h List.not_mem_nil⟩ (fun i H' _ q => SqL.of (q.1 _ _ hl)) ?_ ?_
    · rintro i x H2 H3 hi ⟨S2, ts', hD, lt', hs, ht'⟩ ⟨rfl, hx2⟩
      rw [List.length_map] at hi
      rw [List.getElem?_map] at hx2
      obtain ⟨t, htt, rfl⟩ := Option.map_eq_some_iff.mp hx2
      obtain ⟨y, hy, u, v, h1, h2, h3⟩ := paired_at hx htt
      refine ⟨t, _, rfl, SqT.of (S2 _ _ h1), rfl, _, _, rfl, _, _, rfl, _, _, rfl, rfl, rfl, iteT (B := False) ?_⟩
      refine ⟨_, rfl, _, rfl, u, _, rfl, .inl (SqL.of (S2 _ _ h2)), fun p np => ?_⟩
      have ep : ∀ v : HO, Same H3 (upd H3 p v) := fun v => Same.upd np
      have S4 := S2.trans (ep (.lst (y.2.1.map V.str)))
      have S34 := ep (.lst (y.2.1.map V.str))
      have hp4 : (upd H3 p (.lst (y.2.1.map V.str))) p = some (.lst (y.2.1.map V.str)) := upd_same
      have hD4 := ep (.lst (y.2.1.map V.str)) _ _ hD
      generalize upd H3 p (.lst (y.2.1.map V.str)) = H4 at S4 hp4 hD4 S34 ⊢
      refine ⟨_, rfl, v, _, rfl, .inl (SqL.of (S4 _ _ h3)), fun q nq => ?_⟩
      have eq : ∀ v : HO, Same H4 (upd H4 q v) := fun v => Same.upd nq
      refine ⟨by show 3 ≤ sizeLine; decide, fun t6 H6 S6 n6 h6 => ?_⟩
      have S46 := (eq (.lst (y.2.2.map V.str))).trans S6
      have S16 := S4.trans S46
      have hD6 := S46 _ _ hD4
      have hp6 := S46 _ _ hp4
      have hq6 := S6 _ _ (upd_same (H := H4) (a := q) (o := .lst (y.2.2.map V.str)))
      have off : ∀ {c : Addr} {o u : HO}, c ≠ D → H6 c = some o → (upd H6 D u) c = some o := fun n e => by rw [upd_ne n]; exact e
      have npD : p ≠ D := (ne_of_none hD np).symm
      have nqD : q ≠ D := (ne_of_none hD4 nq).symm
      have n6D : t6 ≠ D := ne_of h6 hD6 (by intro z; cases z)
      refine ⟨_, hD6, by rw [List.length_map, lt', sizeLine_eq]; omega, fun c o e => off (ne_of_none e nD) (S16 _ _ e), ts' ++ [t6], by rw [upd_same, List.map_append]; rfl, by rw [List.length_append, lt']; rfl, ?_, ?_⟩
      · rw [take_snoc hy]
        exact paired_snoc (SdsAt.off (v := .lst []) hs hD (fun t ht => (ht' t ht).1) fun c o n e => off n (S46 _ _ (S34 _ _ e))) ⟨p, q, off n6D h6, off npD hp6, off nqD hq6⟩
      · intro t3 h3
        rcases List.mem_append.mp h3 with h | h
        · obtain ⟨r1, n0, u0, v0, r2, r3, r4⟩ := ht' t3 h
          exact ⟨r1, n0, u0, v0, off r1 (S46 _ _ (S34 _ _ r2)), r3, r4⟩
        · rw [List.mem_singleton.mp h]
          exact ⟨n6D, _, p, q, off n6D h6, S2.free np, (S2.trans S34).free nq⟩
    · rintro H2 ⟨S2, ts', hD, lt', hs, hnw⟩
      rw [List.length_map, lt, List.take_length] at hs
      exact k H2 D ts' S2 nD hD hs fun t ht => (hnw t ht).2
theorem ok_sides {f : Addr} {fd : FuncData} (F : Fun K "sides" "Plain.sides" sSides f fd) (B : Bl mg) (T : Px P w K mg base C) : FnOk P w K mg base CX0 1 f fd ["self"] (spSides C) :=
  (ok_sidesN F B T).imp fun vs H Q E ⟨a, ss, h1, h2, h3, k⟩ => ⟨a, ss, h1, h2, h3, fun H' p ts S n h hs _ => k H' p ts S n h hs⟩
theorem scSizes : FnScope ["self", "side", "product", "part"] ["self"] (defScope sSizes) := ⟨rfl, rfl, rfl, by decide +kernel, rfl, by decide +kernel, by decide +kernel⟩
theorem ok_sizes {f : Addr} {fd : FuncData} (F : Fun K "sizes" "Plain.sizes" sSizes f fd) (B : Bl mg) (T : Px P w K mg base C) : FnOk P w K mg base CX0 1 f fd ["self"] (spSizes C) := by
  refine F.ok scSizes (fun vs H Q E h => ?_) (fun cdv A outer s H vs Q E hr h => ?_)
  · obtain ⟨a, ss, rfl, _⟩ := h
    rfl
  · obtain ⟨a, xs, rfl, ⟨dx, l, ts, ha, hl, hx⟩, ok, k⟩ := h
    refine ⟨_, pss_one (ps_ret (pe_callB (cr_sortedSS rfl) (by rfl) B.srt_ (by decide +kernel) (pa_cons (pe_sc3 (own := [("side", 1), ("product", 2), ("part", 3)]) (v1 := [2, 3]) (v2 := [3]) (g0 := gName 1) (w1 := iTup K (tSl (rSlT K) (tVar 1) (tPart (tC (.int 1))) tNoPart)) (g1 := gName 2) (w2 := iList K (tVar 2)) (g2 := gName 3) (te := tVar 3) rfl scSizes.nd
          (blkOk_by (own := [("side", 1), ("product", 2), ("part", 3)]) (N := ["self", "side", "product", "part"]) (sc := defScope sSizes) (by decide +kernel)) (by decide) (by decide) (pi_list (pe_fld (pv 0) rfl))
          (fun _ _ _ _ _ => pg_name (i := 1) scSizes.nd rfl (Or.inl rfl)) (fun _ _ _ _ _ => by exact pi_tup (pe_slice sl_tup (pv 1) (po_some pe_int) po_none)) (fun _ _ _ _ _ => pg_name (i := 2) scSizes.nd rfl (Or.inl rfl))
          (fun _ _ _ _ _ => by exact pi_list (pv 2)) (fun _ _ _ _ _ => pg_name (i := 3) scSizes.nd rfl (Or.inl rfl)) (fun _ _ _ _ _ => pv 3)) pa_nil))), ?_⟩
    have lt := hx.length
    have zl := ok.len
    have all4 : ∀ l : List Str, l.length ≤ 1920 → (putAll [] l).length + 1 < scanBound := fun l h => by
      have h1 := len_putAll l []
      have : (1920 : Nat) + 1 < scanBound := by decide
      simp only [List.length_nil] at h1
      omega
    have lim : ∀ (i : Nat) (y : Sd) (n : List Str), xs[i]? = some y → n.length ≤ 120 → (letsOf (xs.take i) ++ n).length ≤ 1920 := fun i y n hy hn => by
      have h1 := length_lets (ss := xs.take i) fun x hx => ok.ok x (List.mem_of_mem_take hx)
      have h2 := (List.getElem?_eq_some_iff.mp hy).1
      rw [List.length_take] at h1
      rw [List.length_append]
      omega
    refine ⟨_, rfl, a, C, dx, _, _, rfl, ha, T.cl, T.na, rfl, l, rfl, ⟨_, SqL.of hl⟩, fun D nD => ?_⟩
    have up : ∀ {H' : Hp} {v : HO}, Same H H' → Same H (upd H' D v) := fun S c o e => by
      rw [upd_ne (ne_of_none e nD)]
      exact S _ _ e
    refine cl_it (walk_list (xs := ts.map V.ref)) (fun i H' => Same H H' ∧ H' D = some (SetSO P w D (putAll [] (letsOf (xs.take i))))) ⟨Same.upd nD, upd_same⟩ (fun i H' _ q => SqL.of (q.1 _ _ hl)) ?_ ?_
    · rintro i x H5 H6 hi ⟨S5, hD⟩ ⟨rfl, hx2⟩
      rw [List.length_map] at hi
      rw [List.getElem?_map] at hx2
      obtain ⟨t, htt, rfl⟩ := Option.map_eq_some_iff.mp hx2
      obtain ⟨y, hy, u, v, h1, h2, h3⟩ := paired_at hx htt
      obtain ⟨o1, o2, o3, o4, o5⟩ := ok.ok y (List.mem_of_getElem? hy)
      have lt2 : letsOf (xs.take (i + 1)) = letsOf (xs.take i) ++ (y.2.1 ++ y.2.2) := by
        unfold letsOf
        rw [take_snoc hy, List.flatMap_append, List.flatMap_cons, List.flatMap_nil, List.append_nil]
      refine ⟨rfl, _, rfl, 1, rfl, t, _, rfl, SqT.of (S5 _ _ h1), (fun h => absurd (show HT.sIx 3 0 (some 1) = 0 from h.1) (by decide)), fun q nq => ?_⟩
      rw [cut12]
      have nqD : q ≠ D := (ne_of_none hD nq).symm
      refine ⟨q, rfl, ⟨_, SqT.of upd_same⟩, ?_⟩
      have fa : u ≠ D := ne_of_none h2 nD
      have fb : v ≠ D := ne_of_none h3 nD
      refine cl_it (walk_tup (xs := [.ref u, .ref v])) (fun j H' => Same H H' ∧ H' q = some (.tup [.ref u, .ref v]) ∧ H' D = some (SetSO P w D (putAll [] (letsOf (xs.take i) ++ ([y.2.1, y.2.2].take j).flatten)))) ⟨S5.trans (Same.upd nq), upd_same, by rw [upd_ne nqD.symm, hD]; simp⟩ (fun j H' _ q => SqT.of q.2.1) ?_ ?_
      · rintro j x2 H7 H8 hj ⟨S7, hq7, hD7⟩ ⟨rfl, hx3⟩
        have key : ∃ (c : Addr) (zs ps : List Str), x2 = .ref c ∧ H8 c = some (.lst (zs.map V.str)) ∧ c ≠ D ∧ ps = ([y.2.1, y.2.2].take j).flatten ∧ ([y.2.1, y.2.2].take (j + 1)).flatten = ps ++ zs ∧ ps.length + zs.length ≤ 120 := by
          match j, hj with
          | 0, _ => cases hx3; exact ⟨u, y.2.1, [], rfl, S7 _ _ h2, fa, rfl, by simp, by simp; omega⟩
          | 1, _ => cases hx3; exact ⟨v, y.2.2, y.2.1, rfl, S7 _ _ h3, fb, by simp, by simp, by omega⟩
        obtain ⟨c, zs, ps, rfl, hc, ncD, e1, e2, hz⟩ := key
        rw [← e1] at hD7
        refine ⟨rfl, _, rfl, c, rfl, ⟨_, SqL.of hc⟩, ?_⟩
        refine cl_it (walk_list (xs := zs.map V.str)) (fun k H' => Same H H' ∧ H' q = some (.tup [.ref u, .ref v]) ∧ H' c = some (.lst (zs.map V.str)) ∧ H' D = some (SetSO P w D (putAll [] (letsOf (xs.take i) ++ (ps ++ zs.take k))))) ⟨S7, hq7, hc, by rw [List.take_zero, List.append_nil]; exact hD7⟩ (fun k H' _ q => SqL.of q.2.2.1) ?_ ?_
        · rintro k x3 H9 H10 hk ⟨S9, hq9, hc9, hD9⟩ ⟨rfl, hx4⟩
          rw [List.length_map] at hk
          rw [List.getElem?_map] at hx4
          obtain ⟨z, hzz, rfl⟩ := Option.map_eq_some_iff.mp hx4
          refine ⟨rfl, _, rfl, z, _, rfl, hD9, ?_, up S9, ?_, ?_, ?_⟩
          · refine all4 _ (lim i y _ hy ?_)
            rw [List.length_append, List.length_take]
            omega
          · rw [upd_ne nqD]; exact hq9
          · rw [upd_ne ncD]; exact hc9
          · rw [upd_same, putAllS_snoc, take_snoc hzz, List.append_assoc, List.append_assoc]
            rfl
        · rintro H9 ⟨S9, hq9, hc9, hD9⟩
          rw [List.length_map, List.take_length] at hD9
          exact ⟨S9, hq9, by rw [e2]; exact hD9⟩
      · rintro H7 ⟨S7, hq7, hD7⟩
        refine ⟨S7, ?_⟩
        rw [hD7, lt2]
        simp
    · rintro H5 ⟨S5, hD⟩
      rw [List.length_map, lt, List.take_length] at hD
      refine ⟨D, _, rfl, hD, fun ys pm nd so p H6 S6 np hp => ?_⟩
      rw [sortT_one pm so] at hp
      exact k H6 p (S5.trans S6) (S5.free np) hp
end
end E4

set_option Elab.async false
set_option linter.all false
set_option maxRecDepth 100000
set_option maxHeartbeats 1000000
/-! list.remove of a text -/
namespace L2
open PySem PySem.Spec PyProof.Rows
end L2

set_option Elab.async false
set_option linter.all false
set_option maxRecDepth 100000
set_option maxHeartbeats 1000000
/-! left_of, misfit -/
namespace E4
open PySem PySem.Spec PyProof.Rows L2
open C8 (Cal Mak Met InsC pe_c pe_mt pe_mt0 call_isC clsBody)
/-- what is left of p -/
def leftOf (p o : List Str) : List Str := o.foldl (fun l z => l.erase z) p
section
variable {P : Program} {w : World} {K : PySem.W.Frag} {mg : Str → Option Value} {base : Heap} {C : Addr}
theorem inV_str (z : Str) : ∀ xs : List Str, inV (.str z) (xs.map V.str) = decide (z ∈ xs)
  | [] => by simp [inV]
  | x :: xs => by
    have ih := inV_str z xs
    unfold inV at ih ⊢
    rw [List.map_cons, List.any_cons, ih]
    by_cases e : x = z
    · subst e; simp [eqV]
    · have e2 : ¬ z = x := fun q => e q.symm
      simp [eqV, e, e2]
end
end E4

set_option Elab.async false
set_option linter.all false
set_option maxRecDepth 100000
set_option maxHeartbeats 1000000
/-! misfit, check_table, ordered, own_order -/
namespace E4
open PySem PySem.Spec PyProof.Rows L2
open C8 (Cal Mak Met InsC pe_c pe_mt pe_mt0 call_isC clsBody)
def Fit (x y : Sd) : Prop := leftOf (x.2.2 ++ x.2.1) y.2.2 = []
instance (x y : Sd) : Decidable (Fit x y) := inferInstanceAs (Decidable (_ = _))
section
variable {P : Program} {w : World} {K : PySem.W.Frag} {mg : Str → Option Value} {base : Heap} {C : Addr}
end
end E4

set_option Elab.async false
set_option linter.all false
set_option maxRecDepth 100000
set_option maxHeartbeats 1000000
/-! check_table, ordered, own_order -/
namespace L2
open PySem PySem.Spec PyProof.Rows
open LamX (Tabs ExtN TabB CodeO)
theorem ret_of {te : TE} {D : Ends} {σ : St} {H : Hp} (h : te σ H D.rt) : tRet te D σ H := h
theorem NewT.none {H : Hp} {p : Addr} (h : NewT H p) {o : HO} (e : H p = some o) (t : ∀ ps, o ≠ .tbl ps) : False := let ⟨ps, q⟩ := h o e; t ps q
end L2
namespace E4
open PySem PySem.Spec PyProof.Rows L2
open C8 (Cal Mak Met InsC pe_c pe_mt pe_mt0 call_isC clsBody)
open LamX (Tabs ExtN TabB CodeO)
theorem SdAt.ext {H H' : Hp} {t : Addr} {x : Sd} (h : SdAt H t x) (S : ExtN H H') : SdAt H' t x :=
  let ⟨a, b, h1, h2, h3⟩ := h; ⟨a, b, S _ _ h1 (fun _ z => nomatch z), S _ _ h2 (fun _ z => nomatch z), S _ _ h3 (fun _ z => nomatch z)⟩
theorem SdsAt.ext {H H' : Hp} {ts : List Addr} {xs : List Sd} (h : SdsAt H ts xs) (S : ExtN H H') : SdsAt H' ts xs := h.imp fun _ _ _ q => q.ext S
theorem PlAt.ext {C : Addr} {H H' : Hp} {a : Addr} {ss : List Sd} (h : PlAt C H a ss) (S : ExtN H H') : PlAt C H' a ss :=
  let ⟨dx, l, ts, h1, h2, h3⟩ := h; ⟨dx, l, ts, S _ _ h1 (fun _ z => nomatch z), S _ _ h2 (fun _ z => nomatch z), h3.ext S⟩
/-- the class as a value -/
structure Cv (K : PySem.W.Frag) (mg : Str → Option Value) (C : Addr) : Prop where
  ins : InsC K C
  mgP : mg "Plain" = some (.ref C)
def spCheckT (C : Addr) : Sp := fun vs H Q _ => ∃ (a : Addr) (dx : Addr) (fs : List (Str × V)), vs = [.ref a] ∧ H a = some (.ins C dx fs) ∧ Q .non H
section
variable {P : Program} {w : World} {K : PySem.W.Frag} {mg : Str → Option Value} {base : Heap} {C : Addr}
theorem scCheckT : FnScope ["table"] ["table"] (defScope sCheckTable) := ⟨rfl, rfl, rfl, by decide +kernel, rfl, by decide +kernel, by decide +kernel⟩
theorem ok_checkT {f : Addr} {fd : FuncData} (F : Fun K "check_table" "check_table" sCheckTable f fd) (B : Bl mg) (V : Cv K mg C) : FnOk P w K mg base CX0 1 f fd ["table"] (spCheckT C) := by
  refine F.ok scCheckT (fun vs H Q E h => ?_) (fun cdv A outer s H vs Q E hr h => ?_)
  · obtain ⟨a, dx, fs, rfl, _⟩ := h
    rfl
  · obtain ⟨a, dx, fs, rfl, ha, k⟩ := h
    refine ⟨_, pss_one (ps_if (pt_not (pt_val (pe_callB (call_isC V.ins) (by rfl) B.isi (by decide +kernel) (pa_cons (pv 0) (pa_cons (pe_glob (v := .ref C) (by rfl) V.mgP rfl) pa_nil))))) (pss_one ps_never) pss_nil), ?_⟩
    exact ⟨_, rfl, a, dx, fs, rfl, ha, true, rfl, iteF k⟩
end
end E4

set_option Elab.async false
set_option linter.all false
set_option maxRecDepth 100000
set_option maxHeartbeats 1000000
/-! own_order, check_own_places, product_at -/
namespace E4
open PySem PySem.Spec PyProof.Rows L2
open C8 (Cal Mak Met InsC pe_c pe_mt pe_mt0 call_isC clsBody)
open LamX (Tabs ExtN TabB CodeO)
def prodI (l : List Int) : Int := l.foldr (· * ·) 1
theorem prodI_append (a b : List Int) : prodI (a ++ b) = prodI a * prodI b := by
  unfold prodI
  induction a with
  | nil => simp
  | cons x a ih => rw [List.cons_append, List.foldr_cons, List.foldr_cons, ih, Int.mul_assoc]
def spProd (K : PySem.W.Frag) : Sp := fun vs H Q _ => ∃ (t d : Addr) (m : List Str) (kvs : List (Key × V)) (g : Str → Int), vs = [.ref t, .ref d] ∧ SqL K H t (m.map V.str) ∧ H d = some (.dK kvs) ∧ (∀ x ∈ m, valV kvs (Sum.inr x) = some (.int (g x))) ∧ m.length ≤ 1000 ∧ (∀ x ∈ m, (g x).natAbs < 2 ^ 400) ∧ Q (.int (prodI (m.map g))) H
theorem cmw {i j : Int} {a b : Nat} (ha : i.natAbs < 2 ^ a) (hb : j.natAbs < 2 ^ b) (h0 : 0 < a) (h1 : 0 < b) (h : a + b ≤ 1000000) : CMulW i j := wide_mul ha hb h0 h1 h
theorem prod_lt (g : Str → Int) : ∀ l : List Str, (∀ x ∈ l, (g x).natAbs < 2 ^ 400) → (prodI (l.map g)).natAbs < 2 ^ (1 + l.length * 400)
  | [], _ => by show (1 : Int).natAbs < 2 ^ (1 + 0 * 400); decide
  | x :: l, h => by
    have ih := prod_lt g l fun y hy => h y (List.mem_cons.mpr (.inr hy))
    have hx := h x (List.mem_cons.mpr (.inl rfl))
    have e := wide_lt (a := 400) (b := 1 + l.length * 400) hx ih
    have e2 : 400 + (1 + l.length * 400) = 1 + (x :: l).length * 400 := by rw [List.length_cons, Nat.add_mul]; omega
    rw [e2] at e
    exact e
section
variable {P : Program} {w : World} {K : PySem.W.Frag} {mg : Str → Option Value} {base : Heap} {C : Addr}
theorem scProd : FnScope ["names", "values", "found", "name"] ["names", "values"] (defScope sProductAt) := ⟨rfl, rfl, rfl, by decide +kernel, rfl, by decide +kernel, by decide +kernel⟩
theorem ok_prod {f : Addr} {fd : FuncData} (F : Fun K "product_at" "product_at" sProductAt f fd) : FnOk P w K mg base CX0 1 f fd ["names", "values"] (spProd K) := by
  refine F.ok scProd (fun vs H Q E h => ?_) (fun cdv A outer s H vs Q E hr h => ?_)
  · obtain ⟨t, d, m, kvs, g, rfl, _⟩ := h
    rfl
  · obtain ⟨t, d, m, kvs, g, rfl, ht, hd, hg, hl, hb, k⟩ := h
    have u1 := Nat.lt_of_le_of_lt (Nat.add_le_add_left (by decide : 1 ≤ 64) _) hr.units
    refine ⟨_, pss_cons (ps_set (i := 2) scProd.nd rfl (Or.inl rfl) pe_int)
      (pss_cons (ps_for PassesOwn.never rfl (pi_list (pv 0)) (pg_name (i := 3) scProd.nd rfl (Or.inl rfl)) (pss_one (ps_set (i := 2) scProd.nd rfl (Or.inl rfl) (pe_op op_mulW (pv 2) (pe_dget u1 (pv 1) (pv 3) (fun _ _ => rfl))))))
      (pss_one (ps_ret (pv 2)))), ?_⟩
    refine seq_asg ⟨_, rfl, t, rfl, ⟨_, ht⟩, for_it (walk_list (xs := m.map V.str)) (fun i σ H' => H' = H ∧ ∃ u, σ = [some (.ref t), some (.ref d), some (.int (prodI ((m.take i).map g))), u]) ⟨rfl, none, rfl⟩ ?_ ?_ ?_⟩
    · rintro i σ H' _ ⟨rfl, _⟩
      exact ht
    · rintro i x σ H1 H2 hi ⟨rfl, u, rfl⟩ ⟨rfl, hx⟩
      rw [List.length_map] at hi
      rw [List.getElem?_map] at hx
      obtain ⟨z, hz, rfl⟩ := Option.map_eq_some_iff.mp hx
      have hm := List.mem_of_getElem? hz
      have p1 := prod_lt g (m.take i) fun y hy => hb y (List.mem_of_mem_take hy)
      have tl : (m.take i).length ≤ 1000 := by rw [List.length_take]; omega
      refine ⟨_, rfl, _, rfl, _, rfl, d, _, rfl, by rw [← hg z hm]; exact DGet.k (k := Sum.inr z) hd, _, _, rfl, rfl, cmw p1 (hb z hm) (by omega) (by decide) (by omega), rfl, some (V.str z), ?_⟩
      rw [take_snoc hz, List.map_append, prodI_append]
      show _ = [_, _, some (V.int (_ * (g z * 1))), _]
      rw [Int.mul_one]
      rfl
    · rintro σ H1 ⟨rfl, u, rfl⟩
      rw [List.length_map, List.take_length]
      exact ⟨_, rfl, k⟩
end
end E4

set_option Elab.async false
set_option linter.all false
set_option maxRecDepth 100000
set_option maxHeartbeats 1000000
/-! is_values, check_values, twos, cell_on -/
namespace E4
open PySem PySem.Spec PyProof.Rows L2
open C8 (Cal Mak Met InsC pe_c pe_mt pe_mt0 call_isC clsBody)
/-- a dict of whole numbers by texts -/
abbrev Vls := List (Str × Int)
def dI (l : Vls) : List (Key × V) := l.map fun x => (Sum.inr x.1, V.int x.2)
def getI (l : Vls) (z : Str) : Option Int := (l.find? fun x => decide (x.1 = z)).map (·.2)
def setI (l : Vls) (z : Str) (n : Int) : Vls := if (l.any fun x => decide (x.1 = z)) = true then l.map (fun x => if x.1 = z then (x.1, n) else x) else l ++ [(z, n)]
theorem valV_dI (z : Str) : ∀ l : Vls, valV (dI l) (Sum.inr z) = (getI l z).map V.int
  | [] => rfl
  | x :: l => by
    have ih := valV_dI z l
    unfold dI getI at ih ⊢
    rw [List.map_cons]
    by_cases e : x.1 = z
    · rw [valV_pos (by rw [e])]
      simp [e]
    · rw [valV_neg (by intro q; exact e (Sum.inr.inj q)), ih]
      simp [e]
theorem any_dI (z : Str) (l : Vls) : ((dI l).any fun kv => decide (kv.1 = Sum.inr z)) = l.any fun x => decide (x.1 = z) := by
  unfold dI
  rw [List.any_map]
  congr 1
  funext x
  simp
theorem putK_dI (l : Vls) (z : Str) (n : Int) : putK (dI l) (Sum.inr z) (V.int n) = dI (setI l z n) := by
  unfold putK setI
  rw [any_dI]
  split
  · unfold dI
    rw [List.map_map, List.map_map]
    refine List.map_congr_left fun x _ => ?_
    by_cases e : x.1 = z
    · simp [e]
    · simp [e]
  · unfold dI
    rw [List.map_append]
    rfl
theorem keys_set_new {l : Vls} {z : Str} {n : Int} (h : z ∉ l.map (·.1)) : setI l z n = l ++ [(z, n)] := by
  have : ¬ (l.any fun x => decide (x.1 = z)) = true := fun c => by
    obtain ⟨x, hx, e⟩ := List.any_eq_true.mp c
    exact h (List.mem_map.mpr ⟨x, hx, of_decide_eq_true e⟩)
  unfold setI
  rw [if_neg this]
theorem getI_isSome {l : Vls} {z : Str} (h : z ∈ l.map (·.1)) : ∃ n, getI l z = some n ∧ (z, n) ∈ l := by
  obtain ⟨x, hx, e⟩ := List.mem_map.mp h
  unfold getI
  cases c : l.find? fun x => decide (x.1 = z) with
  | none => exact absurd (decide_eq_true e) (by simpa using List.find?_eq_none.mp c x hx)
  | some y =>
    have h1 := List.find?_some c
    have h2 := List.mem_of_find?_eq_some c
    have h3 : y.1 = z := of_decide_eq_true h1
    exact ⟨y.2, rfl, by rw [← h3]; exact h2⟩
section
variable {P : Program} {w : World} {K : PySem.W.Frag} {mg : Str → Option Value} {base : Heap} {C : Addr}
theorem len_dI (l : Vls) : (dI l).length = l.length := List.length_map ..
end
end E4

set_option Elab.async false
set_option linter.all false
set_option maxRecDepth 100000
set_option maxHeartbeats 1000000
/-! twos, cell_on -/
namespace E4
open PySem PySem.Spec PyProof.Rows L2
open C8 (Cal Mak Met InsC pe_c pe_mt pe_mt0 call_isC clsBody)
section
variable {P : Program} {w : World} {K : PySem.W.Frag} {mg : Str → Option Value} {base : Heap} {C : Addr}
end
end E4

set_option Elab.async false
set_option linter.all false
set_option maxRecDepth 100000
set_option maxHeartbeats 1000000
set_option exponentiation.threshold 500
/-! values_of_clash -/
namespace E4
open PySem PySem.Spec PyProof.Rows L2
open C8 (Cal Mak Met InsC pe_c pe_mt pe_mt0 call_isC clsBody)
section
variable {P : Program} {w : World} {K : PySem.W.Frag} {mg : Str → Option Value} {base : Heap} {C : Addr}
end
end E4

set_option Elab.async false
set_option linter.all false
set_option maxRecDepth 100000
set_option maxHeartbeats 1000000
set_option exponentiation.threshold 500
/-! clash -/
namespace L2
open PySem PySem.Spec PyProof.Rows
section
variable {X : Cx}
end
end L2
namespace E4
open PySem PySem.Spec PyProof.Rows L2
open C8 (Cal Mak Met InsC pe_c pe_mt pe_mt0 call_isC clsBody)
open LamX (Tabs ExtN TabB CodeO)
/-- the value of a letter -/
def gOf (vl : Vls) (z : Str) : Int := (getI vl z).getD 0
def AllV (p : Int → Prop) (l : Vls) : Prop := ∀ x ∈ l, p x.2
theorem AllV.set {p : Int → Prop} {l : Vls} {z : Str} {n : Int} (h : AllV p l) (hn : p n) : AllV p (setI l z n) := by
  unfold setI
  split
  · intro x hx
    obtain ⟨y, hy, rfl⟩ := List.mem_map.mp hx
    split
    · exact hn
    · exact h y hy
  · intro x hx
    rcases List.mem_append.mp hx with q | q
    · exact h x q
    · rw [List.mem_singleton.mp q]
      exact hn
theorem gOf_at {vl : Vls} {ks : List Str} {p : Int → Prop} (hk : vl.map (·.1) = ks) (ha : AllV p vl) {z : Str} (hz : z ∈ ks) : getI vl z = some (gOf vl z) ∧ p (gOf vl z) := by
  obtain ⟨n, hn, hm⟩ := getI_isSome (l := vl) (z := z) (by rw [hk]; exact hz)
  have e : gOf vl z = n := by unfold gOf; rw [hn]; rfl
  rw [e]
  exact ⟨hn, ha _ hm⟩
section
variable {P : Program} {w : World} {K : PySem.W.Frag} {mg : Str → Option Value} {base : Heap} {C : Addr}
end
end E4

set_option Elab.async false
set_option linter.all false
set_option maxRecDepth 100000
set_option maxHeartbeats 1000000
set_option exponentiation.threshold 500
/-! hole -/
namespace E4
open PySem PySem.Spec PyProof.Rows L2
open C8 (Cal Mak Met InsC pe_c pe_mt pe_mt0 call_isC clsBody)
open LamX (Tabs ExtN TabB CodeO)
theorem strOk_of {z : Str} (h : LetOk z) : PyData.strOk z = true := by
  unfold PyData.strOk
  rw [← Array.all_toList, List.all_eq_true]
  intro c hc
  have := (h.2.2 c hc).2
  exact decide_eq_true (by omega)
theorem canLay_strs (l : List Str) (h : ∀ z ∈ l, PyData.strOk z = true) : PyData.canLayAll0 (l.map PyData.str) = true := by
  induction l with
  | nil => rfl
  | cons b l ih => simpa [PyData.canLayAll0, PyData.canLay0] using ⟨h b (List.mem_cons.mpr (.inl rfl)), ih fun z hz => h z (List.mem_cons.mpr (.inr hz))⟩
theorem depth_strs (l : List Str) : PyData.depthAll (l.map PyData.str) = 0 := by
  induction l with
  | nil => rfl
  | cons b l ih =>
    show max (PyData.depth (.str b)) (PyData.depthAll (l.map PyData.str)) = 0
    rw [ih]
    rfl
theorem shaped_strs (l : List Str) (h : ∀ z ∈ l, PyData.strOk z = true) : SeqAt.shaped (.list (l.map PyData.str)) = true := by
  have h1 : PyData.canLay0 (.list (l.map PyData.str)) = true := by simpa [PyData.canLay0] using canLay_strs l h
  have h2 : PyData.depth (.list (l.map PyData.str)) ≤ 64 := by
    simp only [PyData.depth]
    rw [depth_strs]
    decide
  show (PyData.canLay0 _ && decide (PyData.depth _ ≤ 64)) = true
  rw [h1, decide_eq_true h2]
  rfl
theorem dp_strs {K : PySem.W.Frag} {H : Hp} (l : List Str) : DpAll K H (l.map V.str) (l.map PyData.str) := by
  induction l with
  | nil => exact .nil
  | cons b l ih => exact .cons (.str b) ih
theorem eqv_strs : ∀ xs ys : List Str, PyData.eqvAll (xs.map PyData.str) (ys.map PyData.str) = decide (xs = ys)
  | [], [] => rfl
  | [], y :: ys => by simp [PyData.eqvAll]
  | x :: xs, [] => by simp [PyData.eqvAll]
  | x :: xs, y :: ys => by
    rw [List.map_cons, List.map_cons]
    simp only [PyData.eqvAll, PyData.eqv]
    rw [eqv_strs xs ys]
    by_cases a : x = y
    · subst a; simp
    · simp [a]
theorem eqv_listS (xs ys : List Str) : PyData.eqv (.list (xs.map PyData.str)) (.list (ys.map PyData.str)) = decide (xs = ys) := by rw [← eqv_strs]; simp [PyData.eqv]
/-- the letters of the sizes of the first i rows -/
def dn (ss : List Sd) (i : Nat) : List Str := (ss.take i).flatMap (·.2.1)
theorem leftOf_len : ∀ (o p : List Str), p.length ≤ (leftOf p o).length + o.length
  | [], p => Nat.le_refl _
  | z :: o, p => by
    have h := leftOf_len o (p.erase z)
    show p.length ≤ (leftOf (p.erase z) o).length + (o.length + 1)
    by_cases c : z ∈ p
    · rw [List.length_erase_of_mem c] at h
      omega
    · rw [List.erase_of_not_mem c] at h ⊢
      omega
section
variable {P : Program} {w : World} {K : PySem.W.Frag} {mg : Str → Option Value} {base : Heap} {C : Addr}
end
end E4

set_option Elab.async false
set_option linter.all false
set_option maxRecDepth 100000
set_option maxHeartbeats 1000000
/-! list(d.values()) -/
namespace L2
open PySem PySem.Spec PyProof.Rows
section
variable {X : Cx}
variable {o : Expr} {p pos apos mpos : Pos} {td : TE}
end
end L2

set_option Elab.async false
set_option linter.all false
set_option maxRecDepth 100000
set_option maxHeartbeats 1000000
/-! name = {k: v for ..} on one line, the name a local -/
namespace L2
open PySem PySem.Spec PyProof.Rows
section
variable {X : Cx}
end
end L2

set_option Elab.async false
set_option linter.all false
set_option maxRecDepth 100000
set_option maxHeartbeats 1000000
set_option exponentiation.threshold 5000
/-! cell_of -/
namespace E4
open PySem PySem.Spec PyProof.Rows L2
open C8 (Cal Mak Met InsC pe_c pe_mt pe_mt0 call_isC clsBody)
open LamX (Tabs ExtN TabB CodeO)
theorem prod_pos {g : Str → Int} : ∀ {l : List Str}, (∀ z ∈ l, 1 ≤ g z) → 1 ≤ prodI (l.map g)
  | [], _ => by show (1 : Int) ≤ 1; decide
  | z :: l, h => by
    have i1 := prod_pos (l := l) fun y hy => h y (List.mem_cons_of_mem _ hy)
    have a := h z List.mem_cons_self
    show 1 ≤ g z * prodI (l.map g)
    have := Int.mul_le_mul a i1 (by decide) (by omega)
    simpa using this
section
variable {P : Program} {w : World} {K : PySem.W.Frag} {mg : Str → Option Value} {base : Heap} {C : Addr}
end
end E4

set_option Elab.async false
set_option linter.all false
set_option maxRecDepth 100000
set_option maxHeartbeats 1000000
/-! Plain(rows), Plain(sides=rows); __eq__ -/
namespace L2
open PySem PySem.Spec PyProof.Rows
open C8 (Cal Mak Met InsC)
/-- C(k=v, ..): keywords alone -/
structure MakK (P : Program) (w : World) (K : PySem.W.Frag) (mg : Str → Option Value) (base : Heap) (k : Nat) (x : Str) (C : Addr) (sp : Sp) (ks : List Str) (gV : List V → List V → List V) : Prop where
  ex : ∃ (f : Addr) (fd : FuncData) (ps : List Str) (g : List Value → List Value → List Value), Mk K C f ∧ FnOk P w K mg base CX0 k f fd ps sp ∧ mg x = some (.ref C) ∧ KBn K fd ps 1 ks g gV
section
variable {X : Cx} {C : Addr} {x : Str} {p pos : Pos} {j k : Nat} {e : Expr} {es : List Expr} {t : TA}
/-- C(e): as it is told of __init__ -/
theorem pe_mk1 {sp : Sp} (c : Mak X.prog X.w X.K X.mg X.base k x C sp []) (hr : Room j X.A) (hk : k + 1 ≤ j) (hg : Gl X x) (ha : PA X (e :: es) t)
    (hdb : (x == ("__debug__" : Str)) = false := by decide) (hs : starEach (e :: es) X.env = (false, eval e X.env) :: starEach es X.env := by rfl) (hpl : (backTo pos (starEach es X.env)).any (·.1) = false := by rfl) :
    PE X (.Call (.Name x p) (e :: es) [] pos) (tMake C sp [] C8.E0 t) := by
  obtain ⟨f, fd, ps, ds, M, F, hm, b, d⟩ := c.ex
  refine ⟨fun pins s σ H Q I h => ?_⟩
  refine wpAny_Call_Name_kw (ld_glob I hg hm ?_ hdb)
  refine PySem.W.callWith_K (h₀ := X.base) I.ok.mod.kin M.kp (thn (ha.run pos pins s σ H _ I h) fun us s1 ⟨vs, H1, I1, r, q⟩ => ⟨I1.kIn, ?_⟩) hs hpl
  exact run_make (E := C8.E0) M F (hr.mono hk) b d pass0 I1 r fun y dx hy hdx ne => q y dx hy hdx ne
end
end L2
namespace E4
open PySem PySem.Spec PyProof.Rows L2
open C8 (Cal Mak Met InsC pe_c pe_mt pe_mt0 call_isC clsBody)
def sdD (x : Sd) : PyData := .tuple [.str x.1, .list (x.2.1.map PyData.str), .list (x.2.2.map PyData.str)]
theorem dp_sds {K : PySem.W.Frag} {H : Hp} {ts : List Addr} {xs : List Sd} (h : SdsAt H ts xs) : DpAll K H (ts.map V.ref) (xs.map sdD) := by
  unfold SdsAt at h
  induction h with
  | nil => exact .nil
  | cons r t ih =>
    obtain ⟨a, b, h1, h2, h3⟩ := r
    exact .cons (.tup (SqT.of h1) (.cons (.str _) (.cons (.lst (SqL.of h2) (dp_strs _)) (.cons (.lst (SqL.of h3) (dp_strs _)) .nil)))) ih
theorem canLay_sds : ∀ {xs : List Sd}, (∀ x ∈ xs, SdOk x) → PyData.canLayAll0 (xs.map sdD) = true
  | [], _ => rfl
  | x :: xs, h => by
    obtain ⟨h1, h2, h3, _, _⟩ := h x List.mem_cons_self
    have ih := canLay_sds (xs := xs) fun y hy => h y (List.mem_cons_of_mem _ hy)
    have c1 := canLay_strs x.2.1 fun z hz => strOk_of (h2 z hz)
    have c2 := canLay_strs x.2.2 fun z hz => strOk_of (h3 z hz)
    have c0 := strOk_of h1
    simp [sdD, PyData.canLayAll0, PyData.canLay0, c0, c1, c2, ih]
theorem depth_sds : ∀ xs : List Sd, PyData.depthAll (xs.map sdD) ≤ 3
  | [] => Nat.zero_le _
  | x :: xs => by
    have ih := depth_sds xs
    have d1 := depth_strs x.2.1
    have d2 := depth_strs x.2.2
    simp [sdD, PyData.depthAll, PyData.depth, d1, d2]
    try omega
theorem shaped_sds {xs : List Sd} (h : ∀ x ∈ xs, SdOk x) : SeqAt.shaped (.list (xs.map sdD)) = true := by
  have h1 : PyData.canLay0 (.list (xs.map sdD)) = true := by simpa [PyData.canLay0] using canLay_sds h
  have h2 : PyData.depth (.list (xs.map sdD)) ≤ 64 := by
    simp only [PyData.depth]
    have := depth_sds xs
    omega
  show (PyData.canLay0 _ && decide (PyData.depth _ ≤ 64)) = true
  rw [h1, decide_eq_true h2]
  rfl
/-- equal tables are equal -/
def spEq (C : Addr) : Sp := fun vs H Q _ => ∃ (a b : Addr) (ss : List Sd), vs = [.ref a, .ref b] ∧ PlAt C H a ss ∧ PlAt C H b ss ∧ SdsOk ss ∧ Q (.bl true) H
section
variable {P : Program} {w : World} {K : PySem.W.Frag} {mg : Str → Option Value} {base : Heap} {C : Addr}
theorem scEq : FnScope ["self", "other"] ["self", "other"] (defScope sEq) := ⟨rfl, rfl, rfl, by decide +kernel, rfl, by decide +kernel, by decide +kernel⟩
theorem ok_eq {f : Addr} {fd : FuncData} (F : Fun K "__eq__" "Plain.__eq__" sEq f fd) (B : Bl mg) (V : Cv K mg C) (T : Px P w K mg base C) : FnOk P w K mg base CX0 1 f fd ["self", "other"] (spEq C) := by
  refine F.ok scEq (fun vs H Q E h => ?_) (fun cdv A outer s H vs Q E hr h => ?_)
  · obtain ⟨a, b, ss, rfl, _⟩ := h
    rfl
  · obtain ⟨a, b, ss, rfl, ⟨dx, l, ts, ha, hl, hx⟩, ⟨dy, m, us, hb, hm, hy⟩, ok, k⟩ := h
    refine ⟨_, pss_one (ps_ret (pe_and (pe_callB (call_isC V.ins) (by rfl) B.isi (by decide +kernel) (pa_cons (pv 1) (pa_cons (pe_glob (v := .ref C) (by rfl) V.mgP rfl) pa_nil)))
      (pe_one (pe_cmpR (op_eqD hr.units) (pe_fld (pv 0) rfl) (pe_fld (pv 1) rfl) (by rfl))))), ?_⟩
    refine ⟨_, rfl, b, dy, _, rfl, hb, true, rfl, iteT (B := False) ?_⟩
    refine ⟨_, rfl, a, C, dx, _, _, rfl, ha, T.cl, T.na, rfl, _, rfl, b, C, dy, _, _, rfl, hb, T.cl, T.na, rfl, _, _, .lst (SqL.of hl) (dp_sds hx), .lst (SqL.of hm) (dp_sds hy), shaped_sds ok.ok, shaped_sds ok.ok, ?_⟩
    rw [SeqAt.eqv_refl _ (by simpa [PyData.canLay0] using canLay_sds ok.ok)]
    exact k
end
end E4

set_option Elab.async false
set_option linter.all false
set_option maxRecDepth 100000
set_option maxHeartbeats 1000000
/-! a != b, both of one own class that has __eq__ alone. -/
namespace PySem.W
open PySem PySem.Calls PyProof.Rows
section
variable {prog : Program} {w : World} {A : Around} {E : Value → Shared → Prop} {s : Shared} {K : Frag} {x y C L f : Addr} {h₀ : Heap} {m : Str → Option Value} {ox : Obj} {od : Option Obj}
/-- what the class says of != -/
structure NoNe (K : Frag) (C f : Addr) : Prop where
  ne : findIn K (.ref C) "__ne__" = some (some (.builtin "object.__ne__"))
  eq : findIn K (.ref C) "__eq__" = some (some (.ref f))
  fn : isFn K (.ref f) = true
  sub : subIn K (.ref C) (.type "object") = some true
theorem check_ne (X : K.In s.heap) (I : InstAt s.heap x ox C od) (N : NoNe K C f) {b : Value} {Q : Unit → Shared → Prop} (hq : Q () s) : wpAny (model prog w) A (checkBuiltinCall "object.__ne__" ⟨[.ref x, b], []⟩) Q E s := by
  simp only [checkBuiltinCall, F.cmpKind_ne, F.cmpSplit_ne]
  refine wpAny_bind ?_
  unfold isInstance
  refine wpAny_bind (I.type.here ?_)
  refine (looks_subIn X N.sub).here ?_
  have ha := F.cmpArgs_ne (.ref x) b
  cases hsig : Manifest.signature? "object.__ne__" with
  | none => exact wpAny_pure hq
  | some sig =>
    simp only [argsOk, hsig] at ha
    have h2 : Bind.checkArgs "object.__ne__" sig ⟨[.ref x, b], []⟩ = pure () := ha
    show wpAny _ A (Bind.checkArgs "object.__ne__" sig ⟨[.ref x, b], []⟩) Q E _
    rw [h2]
    exact wpAny_pure hq
theorem entry_ne (X : K.In s.heap) (I : InstAt s.heap x ox C od) (N : NoNe K C f) (hu : A.units < cLine) {b : Value} {Q : Fin → Shared → Prop}
    (h : wpAny (model prog w) A (call (.ref f) [.ref x, b]) (fun v s' => ∃ r, v = .bool r ∧ Q (.done (.ret (.bool (!r)))) s') E s) : wpAny (model prog w) A (Builtin.«object.__ne__» ⟨[.ref x, b], []⟩) Q E s := by
  unfold Builtin.«object.__ne__»
  repeat (first
    | with_reducible refine wpAny_cRoomFor hu ?_
    | (refine wpAny_bind (m := callSpecialIfBound? (.ref x) (Str.ofString "__eq__") [b])
        (ifBound_K X I N.eq N.fn (wpAny_mono h (fun r s' hr => by
          obtain ⟨b, rfl, hq⟩ := hr
          repeat (first | exact hq | exact wpAny_pure hq | exact wpAny_truthy_bool hq | (refine wpAny_bind (m := truthy (.bool _)) (wpAny_truthy_bool ?_)) | wp_step)) fun _ _ e => e)))
    | wp_step)
theorem try_ne (X : K.In s.heap) (I : InstAt s.heap x ox C od) (N : NoNe K C f) (hu : A.units + 1 < cLine) {b : Value} {Q : Option Value → Shared → Prop}
    (h : wpAny (model prog w) A.in1 (call (.ref f) [.ref x, b]) (fun v s' => ∃ r, v = .bool r ∧ Q (some (.bool (!r))) s') E s) : wpAny (model prog w) A (tryCompare (.ref x) "__ne__" b) Q E s := by
  simp only [tryCompare]
  refine wpAny_bind ?_
  simp only [callSpecialIfBound?, bindSpecialIfBound?]
  refine wpAny_holding (wpAny_bind (wpAny_bind (wpAny_bind (I.type.here ((looks_findIn X N.ne).here ?_)))))
  simp only [F.cmp_object.ne.bind]
  refine wpAny_bind (wpAny_askSetting (wpAny_ite ?_))
  have back : wpAny (model prog w) A (call (.builtin "object.__ne__") [.ref x, b]) (fun v s' => ∃ r, v = .bool r ∧ Q (some (.bool r)) s') E s :=
    wpAny_call (codeAny_call_builtin F.cmp_object.ne.plain F.cmpEntry_ne (check_ne X I N (entry_ne (A := A.in1) X I N hu (wpAny_mono h (fun v s' hv => by
      obtain ⟨r, rfl, hq⟩ := hv
      exact ⟨r, rfl, _, rfl, hq⟩) fun _ _ e => e))))
  split
  · refine wpAny_bind (wpAny_pure (wpAny_pure (wpAny_bind (wpAny_mono back (fun v s' hv => ?_) fun _ _ e => e))))
    obtain ⟨r, rfl, hq⟩ := hv
    exact wpAny_pure (wpAny_pure hq)
  · refine wpAny_tryCatch (wpAny_bind (wpAny_pure (wpAny_pure (wpAny_bind (wpAny_mono back (fun v s' hv => ?_) fun _ _ e => e)))))
    obtain ⟨r, rfl, hq⟩ := hv
    exact wpAny_pure (wpAny_pure hq)
theorem ne_K {Q : Value → Shared → Prop} (hu : A.units + 1 < cLine) (X : K.In s.heap) (I : InstAt s.heap x ox C od) (hb : Looks (model prog w) s.heap (typeOf (.ref y)) (.ref C)) (N : NoNe K C f)
    (h : wpAny (model prog w) A.in1 (call (.ref f) [.ref x, .ref y]) (fun v s' => ∃ r, v = .bool r ∧ Q (.bool (!r)) s') E s) : wpAny (model prog w) A (richCompare .NotEq (.ref x) (.ref y)) Q E s := by
  unfold richCompare
  simp only [oneThing_ref]
  refine wpAny_holding (wpAny_bind (wpAny_cRoomFor (Nat.lt_of_succ_lt hu) ?_))
  rw [cmpInfo_NotEq]
  dsimp only
  refine wpAny_bind (I.type.here (wpAny_bind (hb.here ?_)))
  rw [show (Value.ref C != Value.ref C) = false from by simp]
  simp only [Bool.false_eq_true, if_false]
  refine wpAny_bind (wpAny_pure ?_)
  simp only [Bool.false_eq_true, if_false]
  refine wpAny_bind (try_ne X I N hu (wpAny_mono h (fun v s' hv => ?_) fun _ _ e => e))
  obtain ⟨r, rfl, hq⟩ := hv
  exact ⟨r, rfl, wpAny_pure hq⟩
end
end PySem.W

set_option Elab.async false
set_option linter.all false
set_option maxRecDepth 100000
set_option maxHeartbeats 1000000
/-! a def called beneath a comparison -/
namespace L2
open PySem PySem.Spec PyProof.Rows
section
variable {X : Cx}
structure SubA (X : Cx) (k : Nat) (A : Around) : Prop where
  room : Room k A
  fr : A.frames = X.A.frames
/-- a def called where the around is deeper -/
theorem run_sub {A : Around} {k : Nat} {f : Addr} {fd : FuncData} {ps : List Str} {sp : Sp} {pins : List (Addr × Obj)} {σ : L2.St} {H : Hp} {s : Shared} {Q : VK} {us : List Value} {vs : List V} (sb : SubA X k A) (F : FnOk X.prog X.w X.K X.mg X.base CX0 k f fd ps sp) (hb : Binds X.K fd ps [])
    (I : Inv X pins σ H s) (r : Vals vs us) (hsp : sp vs H Q E0) : wpAny (model X.prog X.w) A (call (.ref f) us) (EP X pins σ Q) X.xe s := by
  have e0 : Env0 X.prog X.w X.K X.mg X.base A X.stack s H := by
    have e := I.env0
    exact ⟨by rw [sb.fr]; exact e.frames, e.mod, e.bs, e.bsz, e.funs, e.frf, e.hok, e.bare⟩
  have hl := F.len _ _ _ _ hsp
  have hlu : us.length = ps.length := by rw [← r.length]; exact hl
  refine wpAny_call (codeAny_mono (F.run A X.stack s H ⟨us, []⟩ us vs _ E0 sb.room e0 (by
    have := hb s us I.kIn (by simpa using hlu)
    simpa using this) r hsp) fun r s' hq => ?_)
  cases r with
  | error e => exact pass0 pins σ H s e s' I hq
  | ok fl =>
    cases fl with
    | ret w =>
      obtain ⟨z, H', I', rz, q⟩ := I.after hq
      exact ⟨z, H', I', rz, q⟩
    | next => exact False.elim hq
    | brk => exact False.elim hq
    | cont => exact False.elim hq
end

end L2

set_option Elab.async false
set_option linter.all false
set_option maxRecDepth 100000
set_option maxHeartbeats 1000000
/-! a != b, tuples whose items are equal in this program and world (dicts among them) -/
namespace L2
open PySem PySem.Spec PyProof.Rows
open AutoSeq1 (wpAny_loadPart')
def EqIn (prog : Program) (w : World) (A : Around) (s : Shared) (x y : Value) : Prop := ∀ (E : Value → Shared → Prop) (Q : Bool → Shared → Prop), Q true s → wpAny (model prog w) A (eqBool x y) Q E s
theorem EqIn.of {prog : Program} {w : World} {A : Around} {s : Shared} {x y : Value} (h : SeqAt.EqAt A s x y true) : EqIn prog w A s x y := fun E Q q => h prog w E Q q
end L2

set_option Elab.async false
set_option linter.all false
set_option maxRecDepth 100000
set_option maxHeartbeats 1000000
/-! a != b: tuples of data and of dicts, the items equal one by one -/
namespace L2
open PySem PySem.Spec PyProof.Rows
/-- equal data, or dicts with equal entries -/
inductive SamV (K : PySem.W.Frag) (H : Hp) : V → V → Prop where
  | dat {x y : V} {d : PyData} (hx : Dp K H x d) (hy : Dp K H y d) (hl : PyData.canLay0 d = true) (hd : PyData.depth d ≤ 16) : SamV K H x y
  | dict {a b : Addr} {ks ls : List (Key × V)} (ha : H a = some (.dK ks)) (hb : H b = some (.dK ls)) (hn : ks.length = ls.length) (hp : ∀ p ∈ ks, valV ls p.1 = some p.2 ∧ flatB p.2 = true) : SamV K H (.ref a) (.ref b)
section
variable {X : Cx}
end
end L2

set_option Elab.async false
set_option linter.all false
set_option maxRecDepth 100000
set_option maxHeartbeats 1000000
/-! a != b, two equal tables -/
namespace E4
open PySem PySem.Spec PyProof.Rows L2
open C8 (Cal Mak Met InsC pe_c pe_mt pe_mt0 call_isC clsBody)
/-- what != of two tables leans on -/
structure EqP (P : Program) (w : World) (K : PySem.W.Frag) (mg : Str → Option Value) (base : Heap) (k : Nat) (C : Addr) : Prop where
  ex : ∃ (f : Addr) (fd : FuncData) (ps : List Str), PySem.W.NoNe K C f ∧ FnOk P w K mg base CX0 k f fd ps (spEq C) ∧ Binds K fd ps []
def rNeP (C : Addr) : R2 := fun x y H Q => ∃ a b ss, x = .ref a ∧ y = .ref b ∧ PlAt C H a ss ∧ PlAt C H b ss ∧ SdsOk ss ∧ Q (.bl false) H
theorem op_neP {X : Cx} {C : Addr} {k j : Nat} (O : EqP X.prog X.w X.K X.mg X.base k C) (hr : Room j X.A) (hk : k + 1 ≤ j) : OpR X (compareOp .NotEq) (rNeP C) := by
  obtain ⟨f, fd, ps, N, F, hb⟩ := O.ex
  intro pins s σ H x y v u Q I rx ry h
  obtain ⟨a, b, ss, rfl, rfl, ha, hb2, ok, q⟩ := h
  obtain rfl : v = Value.ref a := rx
  obtain rfl : u = Value.ref b := ry
  obtain ⟨dx, l, ts, ea, _⟩ := id ha
  obtain ⟨dy, m, us, eb, _⟩ := id hb2
  obtain ⟨ox, od, J⟩ := inst_of I ea
  obtain ⟨oy, oe, J2⟩ := inst_of I eb
  have hrk : Room (k + 1) X.A := hr.mono hk
  have sb : SubA X k X.A.in1 := ⟨hrk.in1, rfl⟩
  refine PySem.W.ne_K (A := X.A) (Nat.lt_of_le_of_lt (Nat.add_le_add_left (by decide : 1 ≤ 64) _) hrk.units) I.kIn J J2.type N ?_
  refine thn (run_sub (Q := fun v H' => v = .bl true ∧ H' = H) (vs := [V.ref a, V.ref b]) sb F hb I (.cons rfl (.cons rfl .nil)) ⟨a, b, ss, rfl, ha, hb2, ok, rfl, rfl⟩) fun r s' z => ?_
  obtain ⟨z, H', I', rz, rfl, rfl⟩ := z
  obtain rfl : r = Value.bool true := rz
  exact ⟨true, rfl, .bl false, H', I', rfl, q⟩
end E4

set_option Elab.async false
set_option linter.all false
set_option maxRecDepth 100000
set_option maxHeartbeats 1000000
/-! the draws of stage 3's laws: _law_purse, _law_mixed, _law_draw -/
namespace E3
open PySem PySem.Spec PyProof.Rows L2
open C8 (Cal Mak Met InsC pe_c pe_mt pe_mt0 call_isC clsBody)
def top (i : Nat) : Stmt := PySem.Challenge.pw_cellplaces_k66_whole_joined_walks.main.body.getD i (.Pass ⟨0, 0, 0, 0⟩)
abbrev sPurse : Stmt := top 25
abbrev sMixed : Stmt := top 26
abbrev sDraw : Stmt := top 27
abbrev sLaw : Stmt := top 47
structure Bt4 (mg : Str → Option Value) : Prop where
  sum_ : mg "sum" = none
  max_ : mg "max" = none
  rng_ : mg "range" = none
  len_ : mg "len" = none
/-- a purse, with so many draws left -/
def PurseAt (H : Hp) (a : Addr) (n : Nat) : Prop := ∃ p0 p1 p2 : Int, H a = some (.lst [.int p0, .int p1, .int p2]) ∧ 0 ≤ p0 ∧ p0 < 10 ^ 480 ∧ 0 ≤ p1 ∧ p1 < 2 ^ 31 ∧ 0 ≤ p2 ∧ p2 + n ≤ 2 ^ 60
theorem PurseAt.same {H H' : Hp} {a : Addr} {n : Nat} (h : PurseAt H a n) (S : Same H H') : PurseAt H' a n :=
  let ⟨p0, p1, p2, h1, h2⟩ := h
  ⟨p0, p1, p2, S _ _ h1, h2⟩
theorem PurseAt.less {H : Hp} {a : Addr} {n m : Nat} (h : PurseAt H a n) (l : m ≤ n) : PurseAt H a m :=
  let ⟨p0, p1, p2, h1, h2, h3, h4, h5, h6, h7⟩ := h
  ⟨p0, p1, p2, h1, h2, h3, h4, h5, h6, by omega⟩
def spPurse (K : PySem.W.Frag) : Sp := fun vs H Q _ => ∃ (sc : Addr) (i : Int) (ns : List Int), vs = [.ref sc, .int i] ∧ SqL K H sc (ns.map V.int) ∧ 0 ≤ i ∧ i < 100 ∧ ∀ H' p, Same H H' → H p = none → PurseAt H' p (2 ^ 59) → Q (.ref p) H'
def spMixed : Sp := fun vs H Q _ => ∃ a b : Int, vs = [.int a, .int b] ∧ 0 ≤ a ∧ a < 2 ^ 31 ∧ 0 ≤ b ∧ b < 2 ^ 61 ∧ ∀ r : Int, 0 ≤ r → r < 2147483587 → Q (.int r) H
def spDraw : Sp := fun vs H Q _ => ∃ (a : Addr) (many : Int) (n : Nat), vs = [.ref a, .int many] ∧ PurseAt H a (n + 4) ∧ 1 ≤ many ∧ many < 2 ^ 100 ∧ ∀ r H', 0 ≤ r → r < many → PurseAt H' a n → SameB a H H' → Q (.int r) H'
theorem bits_100 {m : Int} (h0 : 1 ≤ m) (h : m < 2 ^ 100) : Builtin.Int.intBits m ≤ 100 := by
  unfold Builtin.Int.intBits
  rw [if_neg (by intro e; have := eq_of_beq e; omega)]
  have h1 : m.natAbs < 2 ^ 100 := by
    have e : ((m.natAbs : Nat) : Int) = m := Int.natAbs_of_nonneg (by omega)
    have : ((m.natAbs : Nat) : Int) < ((2 ^ 100 : Nat) : Int) := by rw [e]; exact_mod_cast h
    exact Int.ofNat_lt.mp this
  have := PySem.Flt.log2_lt_of (by decide) h1
  omega
section
variable {P : Program} {w : World} {K : PySem.W.Frag} {mg : Str → Option Value} {base : Heap}
theorem scPurse : FnScope ["_law_script", "_law_at_here", "_law_cell"] ["_law_script", "_law_at_here"] (defScope sPurse) := ⟨rfl, rfl, rfl, by decide +kernel, rfl, by decide +kernel, by decide +kernel⟩
theorem ok_purse {f : Addr} {fd : FuncData} (F : Fun K "_law_purse" "_law_purse" sPurse f fd) (B : Bt4 mg) : FnOk P w K mg base CX0 1 f fd ["_law_script", "_law_at_here"] (spPurse K) := by
  refine F.ok scPurse (fun vs H Q E h => ?_) (fun cdv A outer s H vs Q E hr h => ?_)
  · obtain ⟨sc, i, ns, rfl, _⟩ := h
    rfl
  · obtain ⟨sc, i, ns, rfl, hs, i0, i1, k⟩ := h
    refine ⟨_, pss_cons (ps_set (i := 2) scPurse.nd rfl (Or.inl rfl) (pe_callB (cr_sum rfl) (by rfl) B.sum_ (by decide +kernel) (pa_cons (pe_slice sl_listS (pv 0) (po_some (pv 1)) (po_some (pe_op op_add (pv 1) pe_int))) pa_nil)))
      (pss_one (ps_ret (pe_lstS (pa_cons (pe_op op_mod (pe_callB (call_max2 rfl) (by rfl) B.max_ (by decide +kernel) (pa_cons (pe_op op_sub (pv 2) (pe_op op_pow pe_int pe_int)) (pa_cons pe_int pa_nil))) (pe_op op_powX (pe_op op_pow pe_int pe_int) pe_int))
        (pa_cons (pe_op op_mod (pv 2) pe_int) (pa_cons (pe_op op_mul pe_int (pv 1)) pa_nil)))))), ?_⟩
    obtain ⟨ms, hms⟩ := cut_ints ns (some i) (some (i + 1))
    refine ⟨_, rfl, _, rfl, i, rfl, _, rfl, i, 1, rfl, rfl, i + 1, rfl, sc, _, rfl, hs, fun pc H1 S1 n1 h1 => ?_⟩
    rw [hms] at h1
    refine ⟨pc, ms, rfl, SqL.of h1, ?_⟩
    have c1 : CPow 10 18 := ⟨by decide, by decide, by decide⟩
    have c2 : CPow 10 60 := ⟨by decide, by decide, by decide⟩
    have c3 : CPowX ((10 : Int) ^ (60 : Int).toNat) 8 := ⟨by decide, by decide +kernel⟩
    refine ⟨_, rfl, 10, 18, rfl, rfl, c1, _, _, rfl, rfl, _, _, rfl, ?_⟩
    refine ⟨10, 60, rfl, rfl, c2, _, 8, rfl, rfl, c3, _, _, rfl, rfl, (show (0 : Int) < ((10 : Int) ^ (60 : Int).toNat) ^ (8 : Int).toNat by decide +kernel), ?_⟩
    refine ⟨_, rfl, _, _, rfl, rfl, (show (0 : Int) < 2147483629 by decide), _, rfl, _, _, rfl, rfl, .inl (by constructor <;> decide), (by show 3 ≤ sizeLine; decide), fun p H2 S2 np hp => ?_⟩
    refine k H2 p (S1.trans S2) (S1.free np) ⟨_, _, _, hp, Int.emod_nonneg _ (by decide +kernel), ?_, Int.emod_nonneg _ (by decide), ?_, by omega, by omega⟩
    · have e : ((10 : Int) ^ (60 : Int).toNat) ^ (8 : Int).toNat = 10 ^ 480 := by decide +kernel
      rw [e]
      exact Int.emod_lt_of_pos _ (by decide +kernel)
    · exact Int.lt_trans (Int.emod_lt_of_pos _ (by decide)) (by decide)
theorem scMixed : FnScope ["_law_seed", "_law_step", "_law_found"] ["_law_seed", "_law_step"] (defScope sMixed) := ⟨rfl, rfl, rfl, by decide +kernel, rfl, by decide +kernel, by decide +kernel⟩
theorem ok_mixed {f : Addr} {fd : FuncData} (F : Fun K "_law_mixed" "_law_mixed" sMixed f fd) : FnOk P w K mg base CX0 1 f fd ["_law_seed", "_law_step"] spMixed := by
  refine F.ok scMixed (fun vs H Q E h => ?_) (fun cdv A outer s H vs Q E hr h => ?_)
  · obtain ⟨a, b, rfl, _⟩ := h
    rfl
  · obtain ⟨a, b, rfl, a0, a1, b0, b1, k⟩ := h
    refine ⟨_, pss_cons (ps_set (i := 2) scMixed.nd rfl (Or.inl rfl) (pe_op op_mod (pe_op op_add (pe_op op_add (pe_op op_mul (pv 0) pe_int) (pe_op op_mul (pe_op op_mul pe_int (pv 1)) (pv 1))) (pv 1)) pe_int))
      (pss_cons (ps_set (i := 2) scMixed.nd rfl (Or.inl rfl) (pe_op op_mod (pe_op op_add (pe_op op_mul (pv 2) (pv 2)) pe_int) pe_int))
      (pss_one (ps_ret (pe_op op_mod (pe_op op_mul (pv 2) pe_int) pe_int)))), ?_⟩
    refine ⟨_, rfl, _, _, rfl, rfl, .inr (by constructor <;> decide), _, rfl, _, _, rfl, rfl, .inl (by constructor <;> decide), _, rfl, _, _, rfl, rfl, .inr ⟨by omega, by omega⟩, _, _, rfl, rfl, _, rfl, _, _, rfl, rfl, _, _, rfl, rfl, (show (0 : Int) < 2147483647 by decide), ?_⟩
    generalize hm : (a * 69069 + 104729 * b * b + b) % 2147483647 = m
    have m0 : 0 ≤ m := hm ▸ Int.emod_nonneg _ (by decide)
    have m1 : m < 2147483647 := hm ▸ Int.emod_lt_of_pos _ (by decide)
    refine ⟨_, rfl, _, rfl, _, _, rfl, rfl, .inr ⟨by omega, by omega⟩, _, _, rfl, rfl, _, _, rfl, rfl, (show (0 : Int) < 2147483629 by decide), ?_⟩
    refine ⟨_, rfl, _, _, rfl, rfl, .inr (by constructor <;> decide), _, _, rfl, rfl, (show (0 : Int) < 2147483587 by decide), ?_⟩
    exact k _ (Int.emod_nonneg _ (by decide)) (Int.emod_lt_of_pos _ (by decide))
theorem scDraw : FnScope ["_law_purse_here", "_law_many", "_law_drawn", "_law_found", "_law_piece"] ["_law_purse_here", "_law_many"] (defScope sDraw) := ⟨rfl, rfl, rfl, by decide +kernel, rfl, by decide +kernel, by decide +kernel⟩
theorem ok_draw {f : Addr} {fd : FuncData} (F : Fun K "_law_draw" "_law_draw" sDraw f fd) (B : Bt4 mg) (M : Cal P w K mg base 1 "_law_mixed" spMixed []) : FnOk P w K mg base CX0 2 f fd ["_law_purse_here", "_law_many"] spDraw := by
  refine F.ok scDraw (fun vs H Q E h => ?_) (fun cdv A outer s H vs Q E hr h => ?_)
  · obtain ⟨a, many, n, rfl, _⟩ := h
    rfl
  · obtain ⟨a, many, n, rfl, ⟨p0, p1, p2, hp, a0, a1, b0, b1, c0, c1⟩, m1, m2, k⟩ := h
    refine ⟨_, pss_cons (ps_if (pt_cmpR op_gt (pe_ix ix_list (pv 0) pe_int (fun _ _ => rfl)) pe_int (by rfl))
        (pss_cons (ps_set (i := 2) scDraw.nd rfl (Or.inl rfl) (pe_op op_mod (pe_ix ix_list (pv 0) pe_int (fun _ _ => rfl)) (pv 1)))
        (pss_cons (ps_asg (pe_op op_fdivW (pe_ix ix_list (pv 0) pe_int (fun _ _ => rfl)) (pv 1)) (pg_sub (pv 0) pe_int set_list))
        (pss_one (ps_ret (pv 2))))) pss_nil)
      (pss_cons (ps_set (i := 3) scDraw.nd rfl (Or.inl rfl) pe_int)
      (pss_cons (ps_for PassesOwn.never rfl (pi_range1 rfl B.rng_ (pa_cons (pe_op op_add pe_int (pe_op op_fdiv (pe_bits (pv 1)) pe_int)) pa_nil)) (pg_name (i := 4) scDraw.nd rfl (Or.inl rfl))
        (pss_cons (ps_asg (pe_op op_add (pe_ix ix_list (pv 0) pe_int (fun _ _ => rfl)) pe_int) (pg_sub (pv 0) pe_int set_list))
        (pss_one (ps_set (i := 3) scDraw.nd rfl (Or.inl rfl) (pe_op op_add (pe_op op_mul (pv 3) pe_int) (pe_c M hr (by decide) rfl (pa_cons (pe_ix ix_list (pv 0) pe_int (fun _ _ => rfl)) (pa_cons (pe_ix ix_list (pv 0) pe_int (fun _ _ => rfl)) pa_nil))))))))
      (pss_one (ps_ret (pe_op op_mod (pv 3) (pv 1)))))), ?_⟩
    have ml : CDivW p0 many := by
      refine ⟨by omega, ?_⟩
      have h1 := bits_100 m1 m2
      unfold Builtin.Int.intBits at h1
      rw [if_neg (by intro e; have := eq_of_beq e; omega)] at h1
      omega
    refine ⟨_, rfl, a, _, 0, _, rfl, rfl, SqL.of hp, rfl, _, _, rfl, rfl, _, rfl, iteD (fun h => ?_) (fun h => ?_)⟩
    · refine ⟨_, rfl, a, _, 0, _, rfl, rfl, SqL.of hp, rfl, _, rfl, _, _, rfl, rfl, (show 0 < many by omega), ?_⟩
      refine ⟨_, rfl, a, _, 0, _, rfl, rfl, SqL.of hp, rfl, _, rfl, _, _, rfl, rfl, ml, _, rfl, a, _, 0, 0, rfl, rfl, hp, rfl, ?_⟩
      refine ⟨_, rfl, k _ _ (Int.emod_nonneg _ (by omega)) (Int.emod_lt_of_pos _ (by omega)) ⟨p0 / many, p1, p2, upd_same, Int.ediv_nonneg a0 (by omega), Int.lt_of_le_of_lt (Int.ediv_le_self _ a0) a1, b0, b1, c0, by omega⟩ fun c o nc e => by rw [upd_ne nc]; exact e⟩
    · dsimp only [tNext]
      refine seq_asg ?_
      dsimp only [tC]
      have bb := bits_100 m1 m2
      have jn : ((1 + ((Builtin.Int.intBits many : Nat) : Int) / 28)).toNat ≤ 4 := by omega
      refine ⟨_, rfl, many, rfl, _, 28, rfl, rfl, (by constructor <;> decide), _, _, rfl, rfl, _, rfl, ?_⟩
      refine ⟨by omega, by omega, for_it (walk_range (n := (1 + ((Builtin.Int.intBits many : Nat) : Int) / 28).toNat)) (fun i σ' H' => (∃ fnd v, σ' = [some (.ref a), some (.int many), none, some (.int fnd), v]) ∧ SameB a H H' ∧ H' a = some (.lst [.int p0, .int p1, .int (p2 + (i : Nat))])) ⟨⟨0, none, rfl⟩, SameB.refl _ _, by rw [hp]; simp⟩ (fun _ _ _ _ _ => trivial) ?_ ?_⟩
      · rintro i x σ' H1 H2 hi ⟨⟨fnd, v, rfl⟩, S, hp'⟩ ⟨rfl, rfl⟩
        have hi4 : i < 4 := Nat.lt_of_lt_of_le hi jn
        refine ⟨_, rfl, a, _, 2, _, rfl, rfl, SqL.of hp', rfl, _, _, rfl, rfl, _, rfl, a, _, 2, 2, rfl, rfl, hp', rfl, ?_⟩
        have hq : (upd H2 a (.lst [.int p0, .int p1, .int (p2 + (i : Nat) + 1)])) a = some (.lst [.int p0, .int p1, .int (p2 + (i : Nat) + 1)]) := upd_same
        have sq : SqL K (upd H2 a (.lst [.int p0, .int p1, .int (p2 + (i : Nat) + 1)])) a [.int p0, .int p1, .int (p2 + (i : Nat) + 1)] := SqL.of hq
        refine ⟨_, rfl, _, _, rfl, rfl, .inr (by constructor <;> decide), _, rfl, a, _, 1, _, rfl, rfl, sq, rfl, _, rfl, a, _, 2, _, rfl, rfl, sq, rfl, p1, p2 + (i : Nat) + 1, rfl, b0, b1, by omega, by omega, fun r r0 r1 => ⟨_, _, rfl, rfl, ⟨_, _, rfl⟩, S.upd, ?_⟩⟩
        rw [upd_same]
        have e : p2 + ((i + 1 : Nat) : Int) = p2 + (i : Nat) + 1 := by omega
        rw [e]
        rfl
      · rintro σ' H1 ⟨⟨fnd, v, rfl⟩, S, hp'⟩
        dsimp only
        exact ⟨_, rfl, _, rfl, _, _, rfl, rfl, (show 0 < many by omega), k _ _ (Int.emod_nonneg _ (by omega)) (Int.emod_lt_of_pos _ (by omega)) ⟨p0, p1, _, hp', a0, a1, b0, b1, by omega, by omega⟩ S⟩
end
end E3

set_option Elab.async false
set_option linter.all false
set_option maxRecDepth 100000
set_option maxHeartbeats 1000000
/-! the law's draws: one of, shuffled, letters, names -/
namespace E4
open PySem PySem.Spec PyProof.Rows L2
open C8 (Cal Mak Met InsC pe_c pe_mt pe_mt0 call_isC clsBody)
open E3 (PurseAt spPurse spMixed spDraw)
abbrev sOneOf : Stmt := top 28
abbrev sShuffled : Stmt := top 29
abbrev sLetters : Stmt := top 30
abbrev sNamesL : Stmt := top 31
theorem purse_ne {K : PySem.W.Frag} {H : Hp} {p a : Addr} {n : Nat} {xs : List Str} (h : PurseAt H p n) (hl : H a = some (.lst (xs.map V.str))) : a ≠ p := by
  obtain ⟨p0, p1, p2, e, _⟩ := h
  rintro rfl
  rw [e] at hl
  cases xs with
  | nil => cases hl
  | cons x r =>
    have z := HO.lst.inj (Option.some.inj hl)
    cases (List.cons.inj z).1
def spOneOf (K : PySem.W.Frag) : Sp := fun vs H Q _ => ∃ (a l : Addr) (xs : List V) (n : Nat), vs = [.ref a, .ref l] ∧ PurseAt H a (n + 4) ∧ SqL K H l xs ∧ l ≠ a ∧ 1 ≤ xs.length ∧ xs.length ≤ 1000 ∧
  ∀ (i : Nat) (x : V) (H' : Hp), xs[i]? = some x → PurseAt H' a n → SameB a H H' → Q x H'
def spShuf (K : PySem.W.Frag) : Sp := fun vs H Q _ => ∃ (a l : Addr) (xs : List Str) (n : Nat), vs = [.ref a, .ref l] ∧ PurseAt H a (n + 4 * xs.length) ∧ H l = some (.lst (xs.map V.str)) ∧ xs.length ≤ 2000 ∧
  ∀ (ys : List Str) q H', ys.Perm xs → H' q = some (.lst (ys.map V.str)) → H q = none → PurseAt H' a n → SameB a H H' → Q (.ref q) H'
section
variable {P : Program} {w : World} {K : PySem.W.Frag} {mg : Str → Option Value} {base : Heap}
theorem atI_some {xs : List V} {r : Int} (h0 : 0 ≤ r) (h1 : r < xs.length) : ∃ x, atI xs r = some x ∧ xs[r.toNat]? = some x := by
  have hx : xs[r.toNat]? = some xs[r.toNat] := List.getElem?_eq_getElem (by omega)
  refine ⟨_, ?_, hx⟩
  unfold atI ixN
  rw [if_pos h0, if_pos h1]
  exact hx
theorem scOneOf : FnScope ["_law_purse_here", "_law_some"] ["_law_purse_here", "_law_some"] (defScope sOneOf) := ⟨rfl, rfl, rfl, by decide +kernel, rfl, by decide +kernel, by decide +kernel⟩
theorem ok_oneOf {f : Addr} {fd : FuncData} (F : Fun K "_law_one_of" "_law_one_of" sOneOf f fd) (B : Bl mg) (D : Cal P w K mg base 2 "_law_draw" spDraw []) : FnOk P w K mg base CX0 3 f fd ["_law_purse_here", "_law_some"] (spOneOf K) := by
  refine F.ok scOneOf (fun vs H Q E h => ?_) (fun cdv A outer s H vs Q E hr h => ?_)
  · obtain ⟨a, l, xs, n, rfl, _⟩ := h
    rfl
  · obtain ⟨a, l, xs, n, rfl, hp, hl, ne, l1, l2, k⟩ := h
    refine ⟨_, pss_one (ps_ret (pe_ix ix_list (pv 1) (pe_c D hr (by decide) rfl (pa_cons (pv 0) (pa_cons (pe_callB call_len_seq (by rfl) B.len_ PySem.boot_len (pa_cons (pv 1) pa_nil)) pa_nil))) (fun _ _ => rfl))), ?_⟩
    refine ⟨_, rfl, _, rfl, _, rfl, l, xs, rfl, .inl hl, a, (xs.length : Int), n, rfl, hp, by omega, by omega, fun r H1 r0 r1 hp1 S1 => ?_⟩
    obtain ⟨x, e1, e2⟩ := atI_some r0 r1
    exact ⟨l, xs, r, x, rfl, rfl, hl.sameB S1 ne, e1, k _ _ _ e2 hp1 S1⟩
theorem scShuf : FnScope ["_law_purse_here", "_law_some", "_law_found", "_law_item"] ["_law_purse_here", "_law_some"] (defScope sShuffled) := ⟨rfl, rfl, rfl, by decide +kernel, rfl, by decide +kernel, by decide +kernel⟩
theorem ok_shuf {f : Addr} {fd : FuncData} (F : Fun K "_law_shuffled" "_law_shuffled" sShuffled f fd) (B : Bl mg) (D : Cal P w K mg base 2 "_law_draw" spDraw []) : FnOk P w K mg base CX0 3 f fd ["_law_purse_here", "_law_some"] (spShuf K) := by
  refine F.ok scShuf (fun vs H Q E h => ?_) (fun cdv A outer s H vs Q E hr h => ?_)
  · obtain ⟨a, l, xs, n, rfl, _⟩ := h
    rfl
  · obtain ⟨a, l, xs, n, rfl, hp, hl, l2, k⟩ := h
    refine ⟨_, pss_cons (ps_set (i := 2) scShuf.nd rfl (Or.inl rfl) (pe_lstS pa_nil))
      (pss_cons (ps_for PassesOwn.never rfl (pi_list (pv 1)) (pg_name (i := 3) scShuf.nd rfl (Or.inl rfl))
        (pss_one (ps_expr (pe_bm PySem.F.plainAttrs_list PySem.F.slot_list_insert PySem.F.type_list_insert mt_insert (pv 2) (pa_cons (pe_c D hr (by decide) rfl (pa_cons (pv 0) (pa_cons (pe_op op_add (pe_callB call_len_seq (by rfl) B.len_ PySem.boot_len (pa_cons (pv 2) pa_nil)) pe_int) pa_nil))) (pa_cons (pv 3) pa_nil))))))
      (pss_one (ps_ret (pv 2)))), ?_⟩
    refine seq_asg ⟨by show 0 ≤ sizeLine; decide, fun d0 H1 S1 n1 h1 => ?_⟩
    have nla : l ≠ a := purse_ne (K := K) hp hl
    have nda : d0 ≠ a := by
      obtain ⟨p0, p1, p2, e, _⟩ := hp
      exact (ne_of_none e n1).symm
    have ndl : l ≠ d0 := ne_of_none hl n1
    refine ⟨_, rfl, l, rfl, ⟨_, SqL.of (S1 _ _ hl)⟩, for_it (walk_list (xs := xs.map V.str)) (fun i σ' H' => ∃ u ys, σ' = [some (.ref a), some (.ref l), some (.ref d0), u] ∧ ys.Perm (xs.take i) ∧ H' d0 = some (.lst (ys.map V.str)) ∧ PurseAt H' a (n + 4 * (xs.length - i)) ∧ ∀ c o, c ≠ a → c ≠ d0 → H1 c = some o → H' c = some o) ⟨none, [], rfl, List.Perm.refl _, h1, (hp.same S1), fun _ _ _ _ e => e⟩ (fun i σ' H' _ q => let ⟨_, _, _, _, _, _, S⟩ := q; SqL.of (S _ _ nla ndl (S1 _ _ hl))) ?_ ?_⟩
    · rintro i v σ' H2 H3 hi ⟨u, ys, rfl, pm, hd, hpu, S2⟩ ⟨rfl, hxi⟩
      rw [List.length_map] at hi
      rw [List.getElem?_map] at hxi
      obtain ⟨z, hz, rfl⟩ := Option.map_eq_some_iff.mp hxi
      have ly : ys.length = i := by rw [pm.length_eq, List.length_take]; omega
      refine ⟨_, rfl, .inl ⟨rfl, _, SqL.of hd⟩, ?_⟩
      have lm : (ys.map V.str).length = i := by rw [List.length_map, ly]
      refine ⟨_, rfl, _, rfl, d0, _, rfl, .inl (SqL.of hd), _, _, rfl, rfl, a, _, n + 4 * (xs.length - (i + 1)), rfl, hpu.less (by omega), by omega, by rw [lm]; omega, fun r H4 r0 r1 hp4 S4 => ?_⟩
      have hd4 := S4 _ _ nda hd
      refine ⟨_, rfl, d0, _, r, _, rfl, rfl, hd4, by rw [lm, sizeLine_eq]; omega, r0, by rw [lm] at r1; omega, ?_⟩
      refine ⟨_, ys.take r.toNat ++ [z] ++ ys.drop r.toNat, rfl, ?_, ?_, ?_, fun c o nc nd e => ?_⟩
      · rw [take_snoc hz]
        refine List.Perm.trans ?_ (pm.append_right [z])
        rw [List.append_assoc]
        refine List.perm_middle.trans ?_
        show (z :: (List.take r.toNat ys ++ List.drop r.toNat ys)).Perm (ys ++ [z])
        rw [List.take_append_drop]
        exact (List.perm_append_comm (l₁ := [z]) (l₂ := ys))
      · rw [upd_same, List.map_append, List.map_append, List.map_take, List.map_drop]
        rfl
      · obtain ⟨p0, p1, p2, e, r⟩ := hp4
        exact ⟨p0, p1, p2, by rw [upd_ne (Ne.symm nda)]; exact e, r⟩
      · rw [upd_ne nd]
        exact S4 _ _ nc (S2 _ _ nc nd e)
    · rintro σ' H2 ⟨u, ys, rfl, pm, hd, hpu, S2⟩
      rw [List.length_map, List.take_length] at pm
      rw [List.length_map] at hpu
      refine ⟨_, rfl, k ys d0 H2 pm hd n1 (hpu.less (by omega)) fun c o nc e => S2 c o nc (ne_of_none e n1) (S1 _ _ e)⟩
def L8a : List Str := ["m", "n", "n", "mn", "p", "abc", "height", "nm"]
def L8 : List Str := L8a ++ (["x", "y"] : List Str)
def N8 : List Str := ["r", "c", "z", "kk", "a", "page", "columnes", "abcdefghij"]
def spLetters : Sp := fun vs H Q _ => ∃ (a : Addr) (m n : Nat), vs = [.ref a, .int (m : Int)] ∧ m ≤ 3 ∧ PurseAt H a (n + 20) ∧
  ∀ (zs : List Str) q H', (∀ z ∈ zs, z ∈ L8) → zs.length ≤ m → H' q = some (.lst (zs.map V.str)) → H q = none → PurseAt H' a n → SameB a H H' → Q (.ref q) H'
def spNamesL : Sp := fun vs H Q _ => ∃ (a : Addr) (m n : Nat), vs = [.ref a, .int (m : Int)] ∧ 1 ≤ m ∧ m ≤ 8 ∧ PurseAt H a (n + 40) ∧
  ∀ (zs : List Str) q H', (∀ z ∈ zs, z ∈ N8) → zs.Nodup → zs.length = m → H' q = some (.lst (zs.map V.str)) → H q = none → PurseAt H' a n → SameB a H H' → Q (.ref q) H'
theorem scLetters : FnScope ["_law_purse_here", "_law_most", "_law_found", "_law_turn"] ["_law_purse_here", "_law_most"] (defScope sLetters) := ⟨rfl, rfl, rfl, by decide +kernel, rfl, by decide +kernel, by decide +kernel⟩
theorem ok_letters {f : Addr} {fd : FuncData} (F : Fun K "_law_letters" "_law_letters" sLetters f fd) (B4 : E3.Bt4 mg) (D : Cal P w K mg base 2 "_law_draw" spDraw []) (O : Cal P w K mg base 3 "_law_one_of" (spOneOf K) []) : FnOk P w K mg base CX0 4 f fd ["_law_purse_here", "_law_most"] spLetters := by
  refine F.ok scLetters (fun vs H Q E h => ?_) (fun cdv A outer s H vs Q E hr h => ?_)
  · obtain ⟨a, m, n, rfl, _⟩ := h
    rfl
  · obtain ⟨a, m, n, rfl, lm, hp, k⟩ := h
    refine ⟨_, pss_cons (ps_set (i := 2) scLetters.nd rfl (Or.inl rfl) (pe_lstS pa_nil))
      (pss_cons (ps_for PassesOwn.never rfl (pi_range1 rfl B4.rng_ (pa_cons (pe_c D hr (by decide) rfl (pa_cons (pv 0) (pa_cons (pe_op op_add (pv 1) pe_int) pa_nil))) pa_nil)) (pg_name (i := 3) scLetters.nd rfl (Or.inl rfl))
        (pss_one (ps_expr (pe_bm PySem.F.plainAttrs_list PySem.F.slot_list_append PySem.F.type_list_append mt_append (pv 2) (pa_cons (pe_c O hr (by decide) rfl (pa_cons (pv 0) (pa_cons (pe_lstS (pa_cons pe_str (pa_cons pe_str (pa_cons pe_str (pa_cons pe_str (pa_cons pe_str (pa_cons pe_str (pa_cons pe_str (pa_cons pe_str pa_nil))))))))) pa_nil))) pa_nil)))))
      (pss_one (ps_ret (pv 2)))), ?_⟩
    refine seq_asg ⟨by show 0 ≤ sizeLine; decide, fun d0 H1 S1 n1 h1 => ?_⟩
    have nda : d0 ≠ a := by
      obtain ⟨p0, p1, p2, e, _⟩ := hp
      exact (ne_of_none e n1).symm
    refine ⟨_, rfl, _, rfl, _, _, rfl, rfl, a, _, n + 16, rfl, (hp.same S1).less (by omega), by omega, by omega, fun r H2 r0 r1 hp2 S2 => ?_⟩
    have hd2 := S2 _ _ nda h1
    refine ⟨r, rfl, by omega, by omega, for_it (walk_range (n := r.toNat)) (fun i σ' H' => ∃ u zs, σ' = [some (.ref a), some (.int m), some (.ref d0), u] ∧ (∀ z ∈ zs, z ∈ L8) ∧ zs.length = i ∧ H' d0 = some (.lst (zs.map V.str)) ∧ PurseAt H' a (n + 4 * (r.toNat - i)) ∧ ∀ c o, c ≠ a → c ≠ d0 → H1 c = some o → H' c = some o) ⟨none, [], rfl, fun _ h => absurd h List.not_mem_nil, rfl, hd2, hp2.less (by omega), fun c o nc _ e => S2 _ _ nc e⟩ (fun _ _ _ _ _ => trivial) ?_ ?_⟩
    · rintro i x σ' H3 H4 hi ⟨u, zs, rfl, hz, lz, hd, hpu, S3⟩ ⟨rfl, rfl⟩
      refine ⟨_, rfl, .inl ⟨rfl, _, SqL.of hd⟩, ?_⟩
      refine ⟨_, rfl, by show 8 ≤ sizeLine; decide, fun p H5 S5 n5 h5 => ?_⟩
      have npa : p ≠ a := by
        obtain ⟨p0, p1, p2, e, _⟩ := hpu
        exact (ne_of_none e n5).symm
      refine ⟨a, p, L8a.map V.str, n + 4 * (r.toNat - (i + 1)), rfl, (hpu.same S5).less (by omega), SqL.of h5, npa, by decide, by decide, fun j x H6 hx hp6 S6 => ?_⟩
      rw [List.getElem?_map] at hx
      obtain ⟨z, hzj, rfl⟩ := Option.map_eq_some_iff.mp hx
      have hd6 := S6 _ _ nda (S5 _ _ hd)
      refine ⟨d0, _, _, rfl, rfl, hd6, by rw [List.length_map, lz, sizeLine_eq]; omega, ?_⟩
      refine ⟨_, zs ++ [z], rfl, ?_, by rw [List.length_append, lz]; rfl, by rw [upd_same, List.map_append]; rfl, ?_, fun c o nc nd e => ?_⟩
      · intro y hy
        rcases List.mem_append.mp hy with q | q
        · exact hz y q
        · rw [List.mem_singleton.mp q]
          exact List.mem_append.mpr (.inl (List.mem_of_getElem? hzj))
      · obtain ⟨p0, p1, p2, e, r⟩ := hp6
        exact ⟨p0, p1, p2, by rw [upd_ne (Ne.symm nda)]; exact e, r⟩
      · rw [upd_ne nd]
        exact S6 _ _ nc (S5 _ _ (S3 _ _ nc nd e))
    · rintro σ' H3 ⟨u, zs, rfl, hz, lz, hd, hpu, S3⟩
      exact ⟨_, rfl, k zs d0 H3 hz (by omega) hd n1 (hpu.less (by omega)) fun c o nc e => S3 c o nc (ne_of_none e n1) (S1 _ _ e)⟩
theorem scNamesL : FnScope ["_law_purse_here", "_law_many"] ["_law_purse_here", "_law_many"] (defScope sNamesL) := ⟨rfl, rfl, rfl, by decide +kernel, rfl, by decide +kernel, by decide +kernel⟩
theorem ok_namesL {f : Addr} {fd : FuncData} (F : Fun K "_law_names" "_law_names" sNamesL f fd) (Sh : Cal P w K mg base 3 "_law_shuffled" (spShuf K) []) : FnOk P w K mg base CX0 4 f fd ["_law_purse_here", "_law_many"] spNamesL := by
  refine F.ok scNamesL (fun vs H Q E h => ?_) (fun cdv A outer s H vs Q E hr h => ?_)
  · obtain ⟨a, m, n, rfl, _⟩ := h
    rfl
  · obtain ⟨a, m, n, rfl, l1, lm, hp, k⟩ := h
    refine ⟨_, pss_one (ps_ret (pe_slice sl_listS (pe_c Sh hr (by decide) rfl (pa_cons (pv 0) (pa_cons (pe_lstS (pa_cons pe_str (pa_cons pe_str (pa_cons pe_str (pa_cons pe_str (pa_cons pe_str (pa_cons pe_str (pa_cons pe_str (pa_cons pe_str pa_nil))))))))) pa_nil))) po_none (po_some (pv 1)))), ?_⟩
    refine ⟨_, rfl, by show 8 ≤ sizeLine; decide, fun p H1 S1 n1 h1 => ?_⟩
    refine ⟨a, p, N8, n, rfl, (hp.same S1).less (by show n + 32 ≤ n + 40; omega), h1, by decide, fun ys q H2 pm hq nq hp2 S2 => ?_⟩
    have ly : ys.length = 8 := pm.length_eq
    refine ⟨_, rfl, m, rfl, q, _, rfl, SqL.of hq, fun t H3 S3 n3 h3 => ?_⟩
    have ec : cutV (ys.map V.str) none (some (m : Int)) = (ys.take m).map V.str := by
      unfold cutV
      rw [HT.sIx_nat, HT.sIx_none, List.length_map, ly, Nat.min_eq_left lm, List.map_take]
      rfl
    rw [ec] at h3
    have SB : SameB a H H2 := fun c o nc e => S2 _ _ nc (S1 _ _ e)
    have hn : H t = none := by
      cases e : H t with
      | none => rfl
      | some o =>
        by_cases c : t = a
        · subst c
          obtain ⟨p0, p1, p2, e1, _⟩ := hp2
          rw [n3] at e1
          cases e1
        · have := SB _ _ c e
          rw [n3] at this
          cases this
    refine k (ys.take m) t H3 (fun z hz => pm.mem_iff.mp (List.mem_of_mem_take hz)) ((pm.nodup_iff.mpr (by decide)).sublist (List.take_sublist _ _)) (by rw [List.length_take]; omega) h3 hn (hp2.same S3) fun c o nc e => S3 _ _ (SB _ _ nc e)
end
end E4

set_option Elab.async false
set_option linter.all false
set_option maxRecDepth 100000
set_option maxHeartbeats 1000000
/-! _law_chain -/
namespace E4
open PySem PySem.Spec PyProof.Rows L2
open C8 (Cal Mak Met InsC pe_c pe_mt pe_mt0 call_isC clsBody)
open E3 (PurseAt spPurse spMixed spDraw)
abbrev sChain : Stmt := top 32
theorem purse_ref {H : Hp} {p a : Addr} {n : Nat} {ts : List Addr} (h : PurseAt H p n) (hl : H a = some (.lst (ts.map V.ref))) : a ≠ p := by
  obtain ⟨p0, p1, p2, e, _⟩ := h
  rintro rfl
  rw [e] at hl
  cases ts with
  | nil => cases hl
  | cons x r =>
    have z := HO.lst.inj (Option.some.inj hl)
    cases (List.cons.inj z).1
theorem purse_str {H : Hp} {p a : Addr} {n : Nat} {xs : List Str} (h : PurseAt H p n) (hl : H a = some (.lst (xs.map V.str))) : a ≠ p := by
  obtain ⟨p0, p1, p2, e, _⟩ := h
  rintro rfl
  rw [e] at hl
  cases xs with
  | nil => cases hl
  | cons x r =>
    have z := HO.lst.inj (Option.some.inj hl)
    cases (List.cons.inj z).1
theorem purse_none {H : Hp} {p a : Addr} {n : Nat} (h : PurseAt H p n) (hn : H a = none) : a ≠ p := by
  obtain ⟨p0, p1, p2, e, _⟩ := h
  exact (ne_of_none e hn).symm
theorem purse_upd {H : Hp} {p D : Addr} {n : Nat} {o : HO} (h : PurseAt H p n) (ne : D ≠ p) : PurseAt (upd H D o) p n := by
  obtain ⟨p0, p1, p2, e, r⟩ := h
  exact ⟨p0, p1, p2, by rw [upd_ne (Ne.symm ne)]; exact e, r⟩
theorem purse_tup {H : Hp} {p a : Addr} {n : Nat} {xs : List V} (h : PurseAt H p n) (hl : H a = some (.tup xs)) : a ≠ p := by
  obtain ⟨p0, p1, p2, e, _⟩ := h
  rintro rfl
  rw [e] at hl
  cases hl
theorem SdAt.purse {H H' : Hp} {p t : Addr} {n : Nat} {x : Sd} (h : SdAt H t x) (hp : PurseAt H p n) (S : SameB p H H') : SdAt H' t x :=
  let ⟨a, b, h1, h2, h3⟩ := h
  ⟨a, b, S _ _ (purse_tup hp h1) h1, S _ _ (purse_str hp h2) h2, S _ _ (purse_str hp h3) h3⟩
theorem SdsAt.purse {H H' : Hp} {p : Addr} {n : Nat} {ts : List Addr} {xs : List Sd} (h : SdsAt H ts xs) (hp : PurseAt H p n) (S : SameB p H H') : SdsAt H' ts xs := h.imp fun _ _ _ q => q.purse hp S
/-- what the law's sides are made of -/
def RowOk (x : Sd) : Prop := (∀ z ∈ x.2.1, z ∈ L8) ∧ (∀ z ∈ x.2.2, z ∈ L8) ∧ x.2.1.length ≤ 3 ∧ x.2.2.length ≤ 6
theorem let_L8 : ∀ z ∈ L8, LetOk z := by
  intro z hz
  have : (L8.all fun z => decide (1 ≤ z.length) && decide (z.length ≤ 10) && z.cps.toList.all fun c => decide (97 ≤ c) && decide (c ≤ 122)) = true := by decide +kernel
  have h := List.all_eq_true.mp this z hz
  simp only [Bool.and_eq_true, decide_eq_true_eq, List.all_eq_true] at h
  exact ⟨h.1.1, h.1.2, h.2⟩
theorem let_N8 : ∀ z ∈ N8, LetOk z := by
  intro z hz
  have : (N8.all fun z => decide (1 ≤ z.length) && decide (z.length ≤ 10) && z.cps.toList.all fun c => decide (97 ≤ c) && decide (c ≤ 122)) = true := by decide +kernel
  have h := List.all_eq_true.mp this z hz
  simp only [Bool.and_eq_true, decide_eq_true_eq, List.all_eq_true] at h
  exact ⟨h.1.1, h.1.2, h.2⟩
/-- all letters that the law's sides hold, those of its fixed rows too -/
def LW : List Str := L8 ++ (["a", "b", "c", "d", "e", "f", "g", "h", "i", "j", "k", "l"] : List Str)
def RowW (x : Sd) : Prop := (∀ z ∈ x.2.1, z ∈ LW) ∧ (∀ z ∈ x.2.2, z ∈ LW) ∧ x.2.1.length ≤ 4 ∧ x.2.2.length ≤ 6
theorem RowOk.w {x : Sd} (h : RowOk x) : RowW x := ⟨fun z hz => List.mem_append.mpr (.inl (h.1 z hz)), fun z hz => List.mem_append.mpr (.inl (h.2.1 z hz)), by have := h.2.2.1; omega, h.2.2.2⟩
theorem let_LW : ∀ z ∈ LW, LetOk z := by
  intro z hz
  have : (LW.all fun z => decide (1 ≤ z.length) && decide (z.length ≤ 10) && z.cps.toList.all fun c => decide (97 ≤ c) && decide (c ≤ 122)) = true := by decide +kernel
  have h := List.all_eq_true.mp this z hz
  simp only [Bool.and_eq_true, decide_eq_true_eq, List.all_eq_true] at h
  exact ⟨h.1.1, h.1.2, h.2⟩
theorem nodup_leP : ∀ {l m : List Str}, l.Nodup → (∀ x ∈ l, x ∈ m) → l.length ≤ m.length
  | [], _, _, _ => Nat.zero_le _
  | x :: l, m, nd, h => by
    have ⟨n1, n2⟩ := List.nodup_cons.mp nd
    have hx := h x List.mem_cons_self
    have ih := nodup_leP (m := m.erase x) n2 fun y hy => (List.mem_erase_of_ne (by rintro rfl; exact n1 hy)).mpr (h y (List.mem_cons_of_mem _ hy))
    rw [List.length_erase_of_mem hx] at ih
    have := List.length_pos_of_mem hx
    rw [List.length_cons]
    omega
theorem lets_w {xs : List Sd} {us : List Str} (ok : ∀ x ∈ xs, RowW x) (nd : us.Nodup) (h : ∀ z ∈ us, ∃ x ∈ xs, z ∈ x.2.1 ∨ z ∈ x.2.2) : us.length ≤ 22 := nodup_leP (m := LW) nd fun z hz => let ⟨x, hx, e⟩ := h z hz; e.elim ((ok x hx).1 z) ((ok x hx).2.1 z)
theorem apart : ∀ z ∈ L8, z ∉ N8 := by decide +kernel
theorem rows_ok {xs : List Sd} {names : List Str} (h1 : xs.map (·.1) = names) (h2 : ∀ z ∈ names, z ∈ N8) (nd : names.Nodup) (hr : ∀ x ∈ xs, RowOk x) (ne : xs ≠ []) (hl : xs.length ≤ 8) : SdsOk xs := by
  have nm : ∀ x ∈ xs, x.1 ∈ N8 := fun x hx => h2 _ (by rw [← h1]; exact List.mem_map.mpr ⟨x, hx, rfl⟩)
  refine ⟨ne, fun x hx => ?_, by rw [h1]; exact nd, fun x hx y hy z hz e => ?_, by omega⟩
  · obtain ⟨a, b, c, d⟩ := hr x hx
    exact ⟨let_N8 _ (nm x hx), fun z hz => let_L8 _ (a z hz), fun z hz => let_L8 _ (b z hz), by omega, by omega⟩
  · obtain ⟨a, b, _, _⟩ := hr x hx
    have : z ∈ L8 := hz.elim (a z) (b z)
    exact apart z this (by rw [e]; exact nm y hy)
def spChain : Sp := fun vs H Q _ => ∃ (a : Addr) (many : Nat) (often : Int) (n : Nat), vs = [.ref a, .int (many : Int), .int often] ∧ 1 ≤ many ∧ many ≤ 8 ∧ 1 ≤ often ∧ often < 2 ^ 100 ∧ PurseAt H a (n + 4000) ∧
  ∀ l ts xs H', H' l = some (.lst (ts.map V.ref)) → SdsAt H' ts xs → SdsOk xs → (∀ x ∈ xs, RowOk x) → xs.length = many → (∀ x ∈ xs, x.1 ∈ N8) → H l = none → PurseAt H' a n → SameB a H H' → Q (.ref l) H'
section
variable {P : Program} {w : World} {K : PySem.W.Frag} {mg : Str → Option Value} {base : Heap}
theorem scChain : FnScope ["_law_purse_here", "_law_many", "_law_often", "_law_rows", "_law_due", "_law_word", "_law_extra", "_law_span", "_law_step"] ["_law_purse_here", "_law_many", "_law_often"] (defScope sChain) := ⟨rfl, rfl, rfl, by decide +kernel, rfl, by decide +kernel, by decide +kernel⟩
theorem ok_chain {f : Addr} {fd : FuncData} (F : Fun K "_law_chain" "_law_chain" sChain f fd) (B : Bl mg) (D : Cal P w K mg base 2 "_law_draw" spDraw []) (Sh : Cal P w K mg base 3 "_law_shuffled" (spShuf K) []) (Le : Cal P w K mg base 4 "_law_letters" spLetters []) (Na : Cal P w K mg base 4 "_law_names" spNamesL []) :
    FnOk P w K mg base CX0 5 f fd ["_law_purse_here", "_law_many", "_law_often"] spChain := by
  refine F.ok scChain (fun vs H Q E h => ?_) (fun cdv A outer s H vs Q E hr h => ?_)
  · obtain ⟨a, m, o, n, rfl, _⟩ := h
    rfl
  · obtain ⟨a, many, often, n, rfl, m1, m8, o1, o2, hp, k⟩ := h
    refine ⟨_, pss_cons (ps_par (i := 3) (j := 4) (by rfl) scChain.nd rfl rfl (by decide) rfl rfl (pa_cons (pe_lstS pa_nil) (pa_cons (pe_lstS pa_nil) pa_nil)) (by rfl))
      (pss_cons (ps_for PassesOwn.never rfl (pi_list (pe_c Na hr (by decide) rfl (pa_cons (pv 0) (pa_cons (pv 1) pa_nil)))) (pg_name (i := 5) scChain.nd rfl (Or.inl rfl))
        (pss_cons (ps_set (i := 6) scChain.nd rfl (Or.inl rfl) (pe_ifExp (pt_cmpR op_eq (pe_c D hr (by decide) rfl (pa_cons (pv 0) (pa_cons (pv 2) pa_nil))) pe_int (by rfl)) (pe_c Le hr (by decide) rfl (pa_cons (pv 0) (pa_cons pe_int pa_nil))) (pe_lstS pa_nil)))
        (pss_cons (ps_set (i := 7) scChain.nd rfl (Or.inl rfl) (pe_c Le hr (by decide) rfl (pa_cons (pv 0) (pa_cons (pe_ix ix_list (pe_lstS (pa_cons pe_int (pa_cons pe_int (pa_cons pe_int pa_nil)))) (pe_c D hr (by decide) rfl (pa_cons (pv 0) (pa_cons pe_int pa_nil))) (fun _ _ => rfl)) pa_nil))))
        (pss_cons (ps_set (i := 8) scChain.nd rfl (Or.inl rfl) (pe_c Sh hr (by decide) rfl (pa_cons (pv 0) (pa_cons (pe_op op_catS (pv 4) (pv 6)) pa_nil))))
        (pss_cons (ps_if (pt_cmpR op_gt (pe_callB call_len_seq (by rfl) B.len_ PySem.boot_len (pa_cons (pv 8) pa_nil)) pe_int (by rfl)) (pss_one (ps_par (i := 7) (j := 8) (by rfl) scChain.nd rfl rfl (by decide) rfl rfl (pa_cons (pe_lstS pa_nil) (pa_cons (pe_lstS pa_nil) pa_nil)) (by rfl))) pss_nil)
        (pss_cons (ps_expr (pe_bm PySem.F.plainAttrs_list PySem.F.slot_list_append PySem.F.type_list_append mt_append (pv 3) (pa_cons (pe_tupS (pa_cons (pv 5) (pa_cons (pv 7) (pa_cons (pv 8) pa_nil)))) pa_nil)))
        (pss_one (ps_set (i := 4) scChain.nd rfl (Or.inl rfl) (pe_ifExp (pt_cmpR (op_neD hr.units) (pv 7) (pe_lstS pa_nil) (by rfl)) (pe_slice sl_listS (pe_op op_catS (pv 8) (pv 7)) po_none (po_some pe_int)) (pv 4))))))))))
      (pss_one (ps_ret (pv 3)))), ?_⟩
    refine ⟨by show 0 ≤ sizeLine; decide, fun rl H1 S1 n1 h1 => ⟨by show 0 ≤ sizeLine; decide, fun du0 H2 S2 n2 h2 => ?_⟩⟩
    refine ⟨_, _, rfl, ?_⟩
    dsimp only
    have hp2 := (hp.same S1).same S2
    have hrl2 := S2 _ _ h1
    have nra : rl ≠ a := purse_none hp n1
    refine ⟨_, rfl, _, rfl, a, many, n + 3900, rfl, m1, m8, hp2.less (by omega), fun names nl H3 hn nd ln hnl nnl hp3 S3 => ?_⟩
    have nnr : nl ≠ rl := (ne_of_none hrl2 nnl).symm
    have nnd : du0 ≠ rl := (ne_of_none h1 n2).symm
    have hd3 := S3 _ _ (purse_str (xs := []) hp2 h2) h2
    have hrl3 := S3 _ _ nra hrl2
    refine ⟨nl, rfl, ⟨_, SqL.of hnl⟩, for_it (walk_list (xs := names.map V.str)) (fun i σ' H' => ∃ du dz ts xs u5 u6 u7 u8, σ' = [some (.ref a), some (.int many), some (.int often), some (.ref rl), some (.ref du), u5, u6, u7, u8] ∧ H' du = some (.lst (dz.map V.str)) ∧ (∀ z ∈ dz, z ∈ L8) ∧ dz.length ≤ 6 ∧ du ≠ rl ∧
        H' rl = some (.lst (ts.map V.ref)) ∧ SdsAt H' ts xs ∧ (∀ t ∈ ts, t ≠ rl) ∧ xs.map (·.1) = names.take i ∧ (∀ x ∈ xs, RowOk x) ∧ PurseAt H' a (n + 200 * (many - i)) ∧ ∀ c o, c ≠ a → c ≠ rl → H3 c = some o → H' c = some o)
      ⟨du0, [], [], [], none, none, none, none, rfl, hd3, fun _ h => absurd h List.not_mem_nil, by decide, nnd, hrl3, .nil, fun _ h => absurd h List.not_mem_nil, rfl, fun _ h => absurd h List.not_mem_nil, hp3.less (by omega), fun _ _ _ _ e => e⟩
      (fun i σ' H' _ q => let ⟨_, _, _, _, _, _, _, _, _, _, _, _, _, _, _, _, _, _, _, S⟩ := q; SqL.of (S _ _ (purse_str hp3 hnl) nnr hnl)) ?_ ?_⟩
    · rintro i v σ' H4 H5 hi ⟨du, dz, ts, xs, u5, u6, u7, u8, rfl, hdu, hdz, ldz, ndr, hrl, hs, hts, hnm, hro, hpu, S4⟩ ⟨rfl, hxi⟩
      rw [List.length_map] at hi
      rw [List.getElem?_map] at hxi
      obtain ⟨nm, hnmi, rfl⟩ := Option.map_eq_some_iff.mp hxi
      dsimp only
      -- extra
      refine seq_asg (te_mid (fun x H' => ∃ (e : Addr) (ez : List Str), x = .ref e ∧ (∀ z ∈ ez, z ∈ L8) ∧ ez.length ≤ 2 ∧ H' e = some (.lst (ez.map V.str)) ∧ PurseAt H' a (n + 200 * (many - (i + 1)) + 150) ∧ SameB a H5 H' ∧ H5 e = none) (fun R hR => ?_) ?_)
      · refine ⟨_, rfl, _, rfl, a, often, n + 200 * (many - (i + 1)) + 190, rfl, hpu.less (by omega), o1, o2, fun r H6 r0 r1 hp6 S6 => ⟨rfl, _, rfl, iteD (fun c => ?_) (fun c => ?_)⟩⟩
        · refine ⟨_, rfl, a, 2, n + 200 * (many - (i + 1)) + 150, rfl, by decide, hp6.less (by omega), fun zs q H7 hz lz hq nq hp7 S7 => hR _ _ ⟨q, zs, rfl, hz, lz, hq, hp7, S6.trans S7, ?_⟩⟩
          cases eq : H5 q with
          | none => rfl
          | some o =>
            by_cases c2 : q = a
            · exact absurd c2 (purse_none hp6 nq)
            · rw [S6 _ _ c2 eq] at nq
              cases nq
        · refine ⟨by show 0 ≤ sizeLine; decide, fun q H7 S7 nq hq => hR _ _ ⟨q, [], rfl, fun _ h => absurd h List.not_mem_nil, by decide, hq, (hp6.same S7).less (by omega), S6.to S7, ?_⟩⟩
          cases eq : H5 q with
          | none => rfl
          | some o =>
            by_cases c2 : q = a
            · exact absurd c2 (purse_none hp6 nq)
            · rw [S6 _ _ c2 eq] at nq
              cases nq
      rintro x H6 ⟨e, ez, rfl, hez, lez, he, hp6, S6, ne6⟩
      have nea : e ≠ a := purse_none hpu ne6
      have ner : e ≠ rl := (ne_of_none hrl ne6).symm
      have hrl6 := S6 _ _ nra hrl
      have hdu6 := S6 _ _ (purse_str hpu hdu) hdu
      -- span
      refine seq_asg ⟨_, rfl, by show 3 ≤ sizeLine; decide, fun p H7 S7 np hp7 => ⟨_, rfl, a, 3, n + 200 * (many - (i + 1)) + 140, rfl, (hp6.same S7).less (by omega), by decide, by decide, fun r H8 r0 r1 hp8 S8 => ?_⟩⟩
      obtain ⟨m, em, lm⟩ : ∃ m : Nat, atI [V.int 2, V.int 2, V.int 3] r = some (V.int (m : Int)) ∧ m ≤ 3 := by
        have : r = 0 ∨ r = 1 ∨ r = 2 := by omega
        rcases this with rfl | rfl | rfl
        · exact ⟨2, rfl, by decide⟩
        · exact ⟨2, rfl, by decide⟩
        · exact ⟨3, rfl, by decide⟩
      have npa : p ≠ a := purse_none hp6 np
      refine ⟨p, _, r, _, rfl, rfl, SqL.of (S8 _ _ npa hp7), em, a, m, n + 200 * (many - (i + 1)) + 110, rfl, lm, hp8.less (by omega), fun sz sp H9 hsz lsz hsp nsp hp9 S9 => ?_⟩
      have S69 : SameB a H6 H9 := fun c o nc ec => S9 _ _ nc (S8 _ _ nc (S7 _ _ ec))
      have hrl9 := S69 _ _ nra hrl6
      have hdu9 := S69 _ _ (purse_str hp6 hdu6) hdu6
      have he9 := S69 _ _ nea he
      have hrl8 := S8 _ _ nra (S7 _ _ hrl6)
      have nsr : sp ≠ rl := (ne_of_none hrl8 nsp).symm
      have nsa : sp ≠ a := purse_none hp8 nsp
      -- step
      refine seq_asg ⟨_, rfl, _, rfl, _, rfl, du, e, _, _, rfl, rfl, hdu9, he9, by rw [List.length_map, List.length_map, sizeLine_eq]; omega, fun c H10 S10 nc hc => ?_⟩
      rw [← List.map_append] at hc
      refine ⟨a, c, dz ++ ez, n + 200 * (many - (i + 1)) + 70, rfl, (hp9.same S10).less (by rw [List.length_append]; omega), hc, by rw [List.length_append]; omega, fun tz st H11 pm hst nst hp11 S11 => ?_⟩
      have S911 : SameB a H9 H11 := fun c o nc ec => S11 _ _ nc (S10 _ _ ec)
      have hrl11 := S911 _ _ nra hrl9
      have hdu11 := S911 _ _ (purse_str hp9 hdu9) hdu9
      have hsp11 := S911 _ _ nsa hsp
      have ntr : st ≠ rl := (ne_of_none (S10 _ _ hrl9) nst).symm
      have nta : st ≠ a := purse_none (hp9.same S10) nst
      have htz : ∀ z ∈ tz, z ∈ L8 := fun z hz => (List.mem_append.mp (pm.mem_iff.mp hz)).elim (hdz z) (hez z)
      have ltz : tz.length ≤ 8 := by rw [pm.length_eq, List.length_append]; omega
      have Sall : SameB a H5 H11 := (S6.trans S69).trans S911
      have hs11 := hs.purse hpu Sall
      refine ts_mid (fun σ' H' => ∃ (s' t' : Addr) (sz' tz' : List Str), σ' = [some (.ref a), some (.int many), some (.int often), some (.ref rl), some (.ref du), some (.str nm), some (.ref e), some (.ref s'), some (.ref t')] ∧ H' s' = some (.lst (sz'.map V.str)) ∧ H' t' = some (.lst (tz'.map V.str)) ∧
          (∀ z ∈ sz', z ∈ L8) ∧ (∀ z ∈ tz', z ∈ L8) ∧ sz'.length ≤ 3 ∧ tz'.length ≤ 6 ∧ s' ≠ rl ∧ t' ≠ rl ∧ Same H11 H') (fun N hN => ?_) ?_
      · refine ⟨_, rfl, st, _, rfl, .inl (SqL.of hst), _, _, rfl, rfl, _, rfl, iteD (fun _ => ?_) (fun h6 => ?_)⟩
        · refine ⟨by show 0 ≤ sizeLine; decide, fun q1 H12 S12 n12 h12 => ⟨by show 0 ≤ sizeLine; decide, fun q2 H13 S13 n13 h13 => ⟨_, _, rfl, ?_⟩⟩⟩
          exact hN _ _ ⟨q1, q2, [], [], rfl, S13 _ _ h12, h13, fun _ h => absurd h List.not_mem_nil, fun _ h => absurd h List.not_mem_nil, by decide, by decide, (ne_of_none hrl11 n12).symm, (ne_of_none (S12 _ _ hrl11) n13).symm, S12.trans S13⟩
        · exact hN _ _ ⟨sp, st, sz, tz, rfl, hsp11, hst, hsz, htz, by omega, by simp at h6; omega, nsr, ntr, fun _ _ e => e⟩
      rintro σ' H12 ⟨s', t', sz', tz', rfl, hs', ht', hsz', htz', lsz', ltz', ns', nt', S12⟩
      have hrl12 := S12 _ _ hrl11
      have hp12 := hp11.same S12
      have hs12 := hs11.same S12
      have hdu12 := S12 _ _ hdu11
      have lts : ts.length = i := by
        have h1 := hs.length
        have h2 := congrArg List.length hnm
        rw [List.length_map, List.length_take] at h2
        omega
      refine ⟨_, rfl, .inl ⟨rfl, _, SqL.of hrl12⟩, ?_⟩
      refine ⟨_, rfl, _, rfl, _, rfl, by show 3 ≤ sizeLine; decide, fun rw_ H13 S13 n13 h13 => ?_⟩
      have hrl13 := S13 _ _ hrl12
      have nwr : rw_ ≠ rl := (ne_of_none hrl12 n13).symm
      refine ⟨rl, _, _, rfl, rfl, hrl13, by rw [List.length_map, lts, sizeLine_eq]; omega, ?_⟩
      dsimp only
      have off : ∀ {c : Addr} {o u : HO}, c ≠ rl → H13 c = some o → (upd H13 rl u) c = some o := fun n e => by rw [upd_ne n]; exact e
      have rows14 : SdsAt (upd H13 rl (.lst (ts.map V.ref ++ [V.ref rw_]))) (ts ++ [rw_]) (xs ++ [(nm, sz', tz')]) :=
        paired_snoc (SdsAt.off (v := .lst []) hs12 hrl12 hts fun c o n e => off n (S13 _ _ e)) ⟨s', t', off nwr h13, off ns' (S13 _ _ hs'), off nt' (S13 _ _ ht')⟩
      have rl14 : (upd H13 rl (.lst (ts.map V.ref ++ [V.ref rw_]))) rl = some (.lst ((ts ++ [rw_]).map V.ref)) := by rw [upd_same, List.map_append]; rfl
      have hp14 : PurseAt (upd H13 rl (.lst (ts.map V.ref ++ [V.ref rw_]))) a (n + 200 * (many - (i + 1)) + 70) := purse_upd ((hp12.same S13)) nra
      have hp14 : PurseAt (upd H13 rl (.lst (ts.map V.ref ++ [V.ref rw_]))) a (n + 200 * (many - (i + 1))) := hp14.less (by omega)
      have s14 : (upd H13 rl (.lst (ts.map V.ref ++ [V.ref rw_]))) s' = some (.lst (sz'.map V.str)) := off ns' (S13 _ _ hs')
      have t14 : (upd H13 rl (.lst (ts.map V.ref ++ [V.ref rw_]))) t' = some (.lst (tz'.map V.str)) := off nt' (S13 _ _ ht')
      have du14 : (upd H13 rl (.lst (ts.map V.ref ++ [V.ref rw_]))) du = some (.lst (dz.map V.str)) := off ndr (S13 _ _ hdu12)
      have fr14 : ∀ c o, c ≠ a → c ≠ rl → H3 c = some o → (upd H13 rl (.lst (ts.map V.ref ++ [V.ref rw_]))) c = some o := fun c o nc nr ec => off nr (S13 _ _ (S12 _ _ (Sall _ _ nc (S4 _ _ nc nr ec))))
      generalize upd H13 rl (.lst (ts.map V.ref ++ [V.ref rw_])) = H14 at rows14 rl14 hp14 s14 t14 du14 fr14 ⊢
      have hts' : ∀ t ∈ ts ++ [rw_], t ≠ rl := fun t ht => (List.mem_append.mp ht).elim (hts t) fun q => by rw [List.mem_singleton.mp q]; exact nwr
      have hnm' : (xs ++ [(nm, sz', tz')]).map (·.1) = names.take (i + 1) := by rw [List.map_append, hnm, take_snoc hnmi]; rfl
      have hro' : ∀ x ∈ xs ++ [(nm, sz', tz')], RowOk x := fun x hx => (List.mem_append.mp hx).elim (hro x) fun q => by
        rw [List.mem_singleton.mp q]
        exact ⟨hsz', htz', lsz', ltz'⟩
      refine ⟨_, rfl, by show 0 ≤ sizeLine; decide, fun q1 H15 S15 n15 h15 => ⟨.list (sz'.map PyData.str), .list [], .lst (SqL.of (S15 _ _ s14)) (dp_strs _), .lst (SqL.of h15) .nil, shaped_strs _ (fun z hz => strOk_of (let_L8 z (hsz' z hz))), by decide, _, rfl, ?_⟩⟩
      have fin : ∀ (H' : Hp) (d : Addr) (dz' : List Str), Same H14 H' → H' d = some (.lst (dz'.map V.str)) → (∀ z ∈ dz', z ∈ L8) → dz'.length ≤ 6 → d ≠ rl → _ := fun H' d dz' S hd hz hl hn =>
        (⟨d, dz', ts ++ [rw_], xs ++ [(nm, sz', tz')], _, _, _, _, rfl, hd, hz, hl, hn, S _ _ rl14, rows14.same S, hts', hnm', hro', hp14.same S, fun c o nc nr ec => S _ _ (fr14 c o nc nr ec)⟩ :
          ∃ (du : Addr) (dz : List Str) (ts : List Addr) (xs : List Sd) (u5 u6 u7 u8 : Option V), [some (V.ref a), some (.int many), some (.int often), some (.ref rl), some (.ref d), some (.str nm), some (.ref e), some (.ref s'), some (.ref t')] = [some (.ref a), some (.int many), some (.int often), some (.ref rl), some (.ref du), u5, u6, u7, u8] ∧ H' du = some (.lst (dz.map V.str)) ∧ (∀ z ∈ dz, z ∈ L8) ∧ dz.length ≤ 6 ∧ du ≠ rl ∧
        H' rl = some (.lst (ts.map V.ref)) ∧ SdsAt H' ts xs ∧ (∀ t ∈ ts, t ≠ rl) ∧ xs.map (·.1) = names.take (i + 1) ∧ (∀ x ∈ xs, RowOk x) ∧ PurseAt H' a (n + 200 * (many - (i + 1))) ∧ ∀ c o, c ≠ a → c ≠ rl → H3 c = some o → H' c = some o)
      cases hb : (!PyData.eqv (.list (sz'.map PyData.str)) (.list [])) with
      | false => exact iteF ⟨_, rfl, fin H15 du dz S15 (S15 _ _ du14) hdz ldz ndr⟩
      | true =>
        refine iteT (B := False) ⟨_, rfl, _, rfl, t', s', _, _, rfl, rfl, S15 _ _ t14, S15 _ _ s14, by rw [List.length_map, List.length_map, sizeLine_eq]; omega, fun c H16 S16 n16 h16 => ?_⟩
        rw [← List.map_append] at h16
        refine ⟨6, rfl, c, _, rfl, SqL.of h16, fun d H17 S17 n17 h17 => ?_⟩
        have ec : cutV ((tz' ++ sz').map V.str) none (some 6) = ((tz' ++ sz').take 6).map V.str := by
          unfold cutV
          rw [show (some (6 : Int)) = some ((6 : Nat) : Int) from rfl, HT.sIx_nat, HT.sIx_none, List.map_take, List.drop_zero]
          refine List.take_eq_take_iff.mpr ?_
          omega
        rw [ec] at h17
        refine fin H17 d _ (S15.trans (S16.trans S17)) h17 (fun z hz => (List.mem_append.mp (List.mem_of_mem_take hz)).elim (htz' z) (hsz' z)) (by rw [List.length_take]; omega) (ne_of_none (S16 _ _ (S15 _ _ rl14)) n17).symm
    · rintro σ' H4 ⟨du, dz, ts, xs, u5, u6, u7, u8, rfl, hdu, hdz, ldz, ndr, hrl, hs, hts, hnm, hro, hpu, S4⟩
      rw [List.length_map, List.take_length] at hnm
      have lx : xs.length = many := by rw [← ln, ← hnm, List.length_map]
      have ne : xs ≠ [] := fun c => by rw [c] at lx; simp at lx; omega
      refine ⟨_, rfl, k rl ts xs H4 hrl hs (rows_ok hnm hn nd hro ne (by omega)) hro lx (fun x hx => hn _ (by rw [← hnm]; exact List.mem_map.mpr ⟨x, hx, rfl⟩)) n1 (hpu.less (by omega)) fun c o nc e => ?_⟩
      exact S4 _ _ nc (ne_of_none e n1) (S3 _ _ nc (S2 _ _ (S1 _ _ e)))
end
end E4

set_option Elab.async false
set_option linter.all false
set_option maxRecDepth 100000
set_option maxHeartbeats 1000000
/-! _law_used, _law_sizes -/
namespace E4
open PySem PySem.Spec PyProof.Rows L2
open C8 (Cal Mak Met InsC pe_c pe_mt pe_mt0 call_isC clsBody)
open E3 (PurseAt spPurse spMixed spDraw)
abbrev sUsed : Stmt := top 34
abbrev sSizesL : Stmt := top 35
/-- z stands in a product of these sides -/
def InLets (xs : List Sd) (z : Str) : Prop := ∃ x ∈ xs, z ∈ x.2.1 ∨ z ∈ x.2.2
def spUsed (K : PySem.W.Frag) : Sp := fun vs H Q _ => ∃ (l : Addr) (ts : List Addr) (xs : List Sd), vs = [.ref l] ∧ SqL K H l (ts.map V.ref) ∧ SdsAt H ts xs ∧ (∀ x ∈ xs, RowW x) ∧ xs.length ≤ 13 ∧
  ∀ (us : List Str) q H', us.Nodup → sortedS us = true → us.length ≤ 100 → (∀ z, z ∈ us ↔ InLets xs z) → H' q = some (.lst (us.map V.str)) → H q = none → Same H H' → Q (.ref q) H'
section
variable {P : Program} {w : World} {K : PySem.W.Frag} {mg : Str → Option Value} {base : Heap}
theorem scUsed : FnScope ["_law_rows", "_law_found", "_law_word", "_law_span", "_law_step", "_law_one"] ["_law_rows"] (defScope sUsed) := ⟨rfl, rfl, rfl, by decide +kernel, rfl, by decide +kernel, by decide +kernel⟩
theorem ok_used {f : Addr} {fd : FuncData} (F : Fun K "_law_used" "_law_used" sUsed f fd) (B : Bl mg) : FnOk P w K mg base CX0 1 f fd ["_law_rows"] (spUsed K) := by
  refine F.ok scUsed (fun vs H Q E h => ?_) (fun cdv A outer s H vs Q E hr h => ?_)
  · obtain ⟨l, ts, xs, rfl, _⟩ := h
    rfl
  · obtain ⟨l, ts, xs, rfl, hl, hx, ok, l8, k⟩ := h
    refine ⟨_, pss_cons (ps_set (i := 1) scUsed.nd rfl (Or.inr rfl) (pe_lstS pa_nil))
      (pss_cons (ps_for PassesOwn.never rfl (pi_list (pv 0)) (pg_tup rfl (pgs_cons (pg_name (i := 2) scUsed.nd rfl (Or.inl rfl)) (pgs_cons (pg_name (i := 3) scUsed.nd rfl (Or.inl rfl)) (pgs_cons (pg_name (i := 4) scUsed.nd rfl (Or.inl rfl)) pgs_nil))))
        (pss_one (ps_set (i := 1) scUsed.nd rfl (Or.inr rfl) (pe_op op_catS (pv 1) (pe_lc (own := [("_law_one", 5)]) (g := gName 5) (tt := tTest (tOp (rIn K true) (tVar 5) (tVar 1))) (te := tVar 5) rfl scUsed.nd (pi_list (pe_op op_catS (pv 3) (pv 4)))
          (blkOk_by (own := [("_law_one", 5)]) (N := ["_law_rows", "_law_found", "_law_word", "_law_span", "_law_step", "_law_one"]) (sc := defScope sUsed) (by decide +kernel))
          (fun _ _ _ _ _ => pg_name (i := 5) scUsed.nd rfl (Or.inl rfl)) (fun _ _ _ _ _ => by exact pts_one (pt_cmpR op_notIn_seq (pv 5) (pv 1) (by rfl))) (fun _ _ _ _ _ => pv 5))))))
      (pss_one (ps_ret (pe_callB (cr_sortedSS rfl) (by rfl) B.srt_ (by decide +kernel) (pa_cons (pe_callTy (cr_setLS rfl) (by rfl) B.set_ (by decide +kernel) (pa_cons (pv 1) pa_nil)) pa_nil))))), ?_⟩
    have lt := hx.length
    refine seq_asg ⟨by show 0 ≤ sizeLine; decide, fun d0 H1 S1 n1 h1 => ?_⟩
    refine ⟨_, rfl, l, rfl, ⟨_, hl.same S1⟩, for_it (walk_list (xs := ts.map V.ref)) (fun i σ' H' => ∃ d fz u2 u3 u4 u5, σ' = [some (.ref l), some (.ref d), u2, u3, u4, u5] ∧ Same H H' ∧ H' d = some (.lst (fz.map V.str)) ∧ fz.length ≤ 12 * i ∧ ∀ z, z ∈ fz ↔ InLets (xs.take i) z) ⟨d0, [], none, none, none, none, rfl, S1, h1, by decide, fun z => ⟨fun h => absurd h List.not_mem_nil, fun ⟨x, hx, _⟩ => absurd hx List.not_mem_nil⟩⟩ (fun i σ' H' _ q => let ⟨_, _, _, _, _, _, _, S, _⟩ := q; hl.same S) ?_ ?_⟩
    · rintro i v σ' H2 H3 hi ⟨d, fz, u2, u3, u4, u5, rfl, S2, hd, lf, hf⟩ ⟨rfl, hxi⟩
      rw [List.length_map] at hi
      rw [List.getElem?_map] at hxi
      obtain ⟨t, htt, rfl⟩ := Option.map_eq_some_iff.mp hxi
      obtain ⟨y, hy, c1, c2, r0, r1, r2⟩ := paired_at hx htt
      obtain ⟨y1, y2, y3, y4⟩ := ok y (List.mem_of_getElem? hy)
      refine ⟨t, _, rfl, SqT.of (S2 _ _ r0), rfl, _, _, rfl, _, _, rfl, _, _, rfl, rfl, ?_⟩
      refine ⟨_, rfl, _, rfl, _, rfl, c1, c2, _, _, rfl, rfl, S2 _ _ r1, S2 _ _ r2, by rw [List.length_map, List.length_map, sizeLine_eq]; omega, fun c H4 S4 nc hc => ?_⟩
      rw [← List.map_append] at hc
      have hd4 := S4 _ _ hd
      refine ⟨c, rfl, ⟨_, SqL.of hc⟩, fun D nD => ?_⟩
      refine lc_it (walk_list (xs := (y.2.1 ++ y.2.2).map V.str)) (fun j H' => Same H4 H' ∧ H' D = some (.lst ((((y.2.1 ++ y.2.2).take j).filter fun p => decide (p ∉ fz)).map V.str))) ⟨Same.upd nD, upd_same⟩ (fun j H' _ q => SqL.of (q.1 _ _ hc)) ?_ ?_
      · rintro j v H5 H6 hj ⟨S5, hD⟩ ⟨rfl, hxj⟩
        rw [List.length_map] at hj
        rw [List.getElem?_map] at hxj
        obtain ⟨p, hp2, rfl⟩ := Option.map_eq_some_iff.mp hxj
        have e := take_snoc hp2
        refine ⟨rfl, _, rfl, _, rfl, d, _, rfl, .inl (SqL.of (S5 _ _ hd4)), rfl, flat_strs _, ?_⟩
        show ∃ k, V.bl (!inV (.str p) (fz.map V.str)) = V.bl k ∧ _
        rw [inV_str]
        refine ⟨_, rfl, ?_⟩
        by_cases cc : p ∈ fz
        · refine ifF (by rw [decide_eq_true cc]; rfl) ⟨S5, ?_⟩
          rw [e, List.filter_append, List.filter_cons_of_neg (by simp [cc]), List.filter_nil, List.append_nil]
          exact hD
        · refine ifT (by rw [decide_eq_false cc]; rfl) ⟨_, rfl, _, hD, ?_, ?_, ?_⟩
          · have := List.length_filter_le (fun p => decide (p ∉ fz)) ((y.2.1 ++ y.2.2).take j)
            rw [List.length_take] at this
            rw [List.length_append] at hj
            rw [List.length_map, sizeLine_eq]
            omega
          · intro c o ec
            rw [upd_ne (ne_of_none ec nD)]
            exact S5 _ _ ec
          · rw [upd_same, e, List.filter_append, List.filter_cons_of_pos (by simp [cc]), List.filter_nil, List.map_append]
            rfl
      · rintro H5 ⟨S5, hD⟩
        rw [List.length_map, List.take_length] at hD
        have lfl := List.length_filter_le (fun p => decide (p ∉ fz)) (y.2.1 ++ y.2.2)
        rw [List.length_append] at lfl
        refine ⟨d, D, _, _, rfl, rfl, S5 _ _ hd4, hD, by rw [List.length_map, List.length_map, sizeLine_eq]; omega, fun e H6 S6 ne he => ?_⟩
        rw [← List.map_append] at he
        refine ⟨e, _, _, _, _, _, rfl, S2.trans (S4.trans (S5.trans S6)), he, by rw [List.length_append]; omega, fun z => ?_⟩
        rw [List.mem_append, List.mem_filter, take_snoc hy]
        constructor
        · rintro (h | ⟨h, _⟩)
          · obtain ⟨x, hx1, h⟩ := (hf z).mp h
            exact ⟨x, List.mem_append.mpr (.inl hx1), h⟩
          · exact ⟨y, List.mem_append.mpr (.inr List.mem_cons_self), List.mem_append.mp h⟩
        · rintro ⟨x, hx1, h⟩
          by_cases cc : z ∈ fz
          · exact .inl cc
          · rcases List.mem_append.mp hx1 with q | q
            · exact .inl ((hf z).mpr ⟨x, q, h⟩)
            · rw [List.mem_singleton.mp q] at h
              exact .inr ⟨List.mem_append.mpr h, by simp [cc]⟩
    · rintro σ' H2 ⟨d, fz, u2, u3, u4, u5, rfl, S2, hd, lf, hf⟩
      rw [List.length_map, lt, List.take_length] at hf
      rw [List.length_map, lt] at lf
      have sb : ∀ i, (putAll [] (fz.take i)).length + 1 < scanBound := fun i => by
        have h1 := len_putAll (fz.take i) []
        rw [List.length_take] at h1
        have : (156 : Nat) + 1 < scanBound := by decide
        simp only [List.length_nil] at h1
        omega
      refine ⟨_, rfl, d, fz, rfl, SqL.of hd, sb, fun sa nsa => ?_⟩
      refine ⟨sa, _, rfl, upd_same, fun ys pm nd so p H3 S3 np hp => ?_⟩
      have S23 : Same H2 H3 := (Same.upd nsa).trans S3
      have h1 := len_putAll fz []
      simp only [List.length_nil] at h1
      have hin : ∀ z, z ∈ ys ↔ InLets xs z := fun z => by
        rw [pm.mem_iff, mem_putAll, ← hf z]
        exact ⟨fun h => h.elim (fun q => absurd q List.not_mem_nil) id, .inr⟩
      refine k ys p H3 (pm.nodup_iff.mpr nd) so (by have := lets_w ok (pm.nodup_iff.mpr nd) fun z hz => (hin z).mp hz; omega) hin hp ((S2.trans (Same.upd nsa)).free np) (S2.trans S23)
def spSizesL (K : PySem.W.Frag) : Sp := fun vs H Q _ => ∃ (a l : Addr) (ts : List Addr) (xs : List Sd) (most : Int) (n : Nat), vs = [.ref a, .ref l, .int most] ∧ PurseAt H a (n + 1000) ∧ H l = some (.lst (ts.map V.ref)) ∧ SdsAt H ts xs ∧ (∀ x ∈ xs, RowW x) ∧ xs.length ≤ 13 ∧ 1 ≤ most ∧ most ≤ 1000 ∧
  ∀ (vl : Vls) q H', (∀ z, z ∈ vl.map (·.1) ↔ InLets xs z) → (∀ x ∈ vl, 1 ≤ x.2 ∧ x.2 ≤ most) → vl.length ≤ 100 → H' q = some (.dK (dI vl)) → H q = none → PurseAt H' a n → SameB a H H' → Q (.ref q) H'
theorem scSizesL : FnScope ["_law_purse_here", "_law_rows", "_law_most", "_law_found", "_law_one"] ["_law_purse_here", "_law_rows", "_law_most"] (defScope sSizesL) := ⟨rfl, rfl, rfl, by decide +kernel, rfl, by decide +kernel, by decide +kernel⟩
theorem ok_sizesL {f : Addr} {fd : FuncData} (F : Fun K "_law_sizes" "_law_sizes" sSizesL f fd) (D : Cal P w K mg base 2 "_law_draw" spDraw []) (Sh : Cal P w K mg base 3 "_law_shuffled" (spShuf K) []) (Us : Cal P w K mg base 1 "_law_used" (spUsed K) []) : FnOk P w K mg base CX0 4 f fd ["_law_purse_here", "_law_rows", "_law_most"] (spSizesL K) := by
  refine F.ok scSizesL (fun vs H Q E h => ?_) (fun cdv A outer s H vs Q E hr h => ?_)
  · obtain ⟨a, l, ts, xs, most, n, rfl, _⟩ := h
    rfl
  · obtain ⟨a, l, ts, xs, most, n, rfl, hp, hl, hx, ok, l8, m1, m2, k⟩ := h
    have ul := Nat.lt_of_le_of_lt (Nat.add_le_add_left (by decide : 1 ≤ 64) _) hr.units
    refine ⟨_, pss_cons (ps_set (i := 3) scSizesL.nd rfl (Or.inl rfl) pe_dnewS)
      (pss_cons (ps_for PassesOwn.never rfl (pi_list (pe_c Sh hr (by decide) rfl (pa_cons (pv 0) (pa_cons (pe_c Us hr (by decide) rfl (pa_cons (pv 1) pa_nil)) pa_nil)))) (pg_name (i := 4) scSizesL.nd rfl (Or.inl rfl))
        (pss_one (ps_dput ul (pv 3) (pv 4) (pe_op op_add pe_int (pe_c D hr (by decide) rfl (pa_cons (pv 0) (pa_cons (pv 2) pa_nil)))) rfl)))
      (pss_one (ps_ret (pv 3)))), ?_⟩
    refine seq_asg fun d0 H1 S1 n1 h1 => ?_
    have nda : d0 ≠ a := purse_none hp n1
    have hp1 := hp.same S1
    refine ⟨_, rfl, _, rfl, l, ts, xs, rfl, SqL.of (S1 _ _ hl), hx.same S1, ok, l8, fun us u0 H2 ndu _ lu hu h2 n2 S2 => ?_⟩
    refine ⟨a, u0, us, n + 400, rfl, (hp1.same S2).less (by omega), h2, by omega, fun ys y0 H3 pm h3 n3 hp3 S3 => ?_⟩
    have hd2 := S2 _ _ h1
    have hd3 := S3 _ _ nda hd2
    have ny : y0 ≠ d0 := (ne_of_none hd2 n3).symm
    have nya : y0 ≠ a := purse_str hp3 h3
    have ly : ys.length ≤ 100 := by rw [pm.length_eq]; exact lu
    refine ⟨y0, rfl, ⟨_, SqL.of h3⟩, for_it (walk_list (xs := ys.map V.str)) (fun i σ' H' => ∃ u vl, σ' = [some (.ref a), some (.ref l), some (.int most), some (.ref d0), u] ∧ H' d0 = some (.dK (dI vl)) ∧ vl.map (·.1) = ys.take i ∧ (∀ x ∈ vl, 1 ≤ x.2 ∧ x.2 ≤ most) ∧ PurseAt H' a (n + 4 * (100 - i)) ∧ ∀ c o, c ≠ a → c ≠ d0 → H3 c = some o → H' c = some o) ⟨none, [], rfl, hd3, rfl, fun _ h => absurd h List.not_mem_nil, hp3.less (by omega), fun _ _ _ _ e => e⟩ (fun i σ' H' _ q => let ⟨_, _, _, _, _, _, _, S⟩ := q; SqL.of (S _ _ nya ny h3)) ?_ ?_⟩
    · rintro i v σ' H4 H5 hi ⟨u, vl, rfl, hd, hk, hv, hpu, S4⟩ ⟨rfl, hxi⟩
      rw [List.length_map] at hi
      rw [List.getElem?_map] at hxi
      obtain ⟨z, hz, rfl⟩ := Option.map_eq_some_iff.mp hxi
      refine ⟨_, rfl, _, rfl, a, most, n + 4 * (100 - (i + 1)), rfl, hpu.less (by omega), m1, by omega, fun r H6 r0 r1 hp6 S6 => ⟨_, _, rfl, rfl, ?_⟩⟩
      have hd6 := S6 _ _ nda hd
      have ndy : ys.Nodup := pm.nodup_iff.mpr ndu
      have nin : z ∉ vl.map (·.1) := fun c => by
        rw [hk] at c
        obtain ⟨j, hj⟩ := List.mem_iff_getElem?.mp c
        have hj2 : j < i := by
          have := (List.getElem?_eq_some_iff.mp hj).1
          rw [List.length_take] at this
          omega
        rw [List.getElem?_take_of_lt hj2] at hj
        have := (List.getElem?_inj (i := j) (j := i) (by omega) ndy).mp (hj.trans hz.symm)
        omega
      have lv : vl.length = i := by
        have := congrArg List.length hk
        rw [List.length_map, List.length_take] at this
        omega
      refine ⟨_, rfl, _, rfl, d0, _, rfl, DPut.k (k := Sum.inr z) hd6 (by rw [len_dI, lv, sizeLine_eq]; omega), ?_⟩
      refine ⟨_, setI vl z (1 + r), rfl, by rw [upd_same, putK_dI], ?_, ?_, purse_upd hp6 nda, fun c o nc nd e => by rw [upd_ne nd]; exact S6 _ _ nc (S4 _ _ nc nd e)⟩
      · rw [keys_set_new nin, List.map_append, hk, take_snoc hz]
        rfl
      · rw [keys_set_new nin]
        intro x hx1
        rcases List.mem_append.mp hx1 with q | q
        · exact hv x q
        · rw [List.mem_singleton.mp q]
          show 1 ≤ 1 + r ∧ 1 + r ≤ most
          omega
    · rintro σ' H4 ⟨u, vl, rfl, hd, hk, hv, hpu, S4⟩
      rw [List.length_map, List.take_length] at hk
      refine ⟨_, rfl, k vl d0 H4 (fun z => ?_) hv ?_ hd n1 (hpu.less (by omega)) fun c o nc e => ?_⟩
      · rw [hk, pm.mem_iff]
        exact hu z
      · have := congrArg List.length hk
        rw [List.length_map] at this
        omega
      · exact S4 _ _ nc (ne_of_none e n1) (S3 _ _ nc (S2 _ _ (S1 _ _ e)))
end
end E4

set_option Elab.async false
set_option linter.all false
set_option maxRecDepth 100000
set_option maxHeartbeats 1000000
/-! list.count of a text -/
namespace L2
open PySem PySem.Spec PyProof.Rows
end L2

set_option Elab.async false
set_option linter.all false
set_option maxRecDepth 100000
set_option maxHeartbeats 1000000
/-! _law_fits, _law_chained -/
namespace E4
open PySem PySem.Spec PyProof.Rows L2
open C8 (Cal Mak Met InsC pe_c pe_mt pe_mt0 call_isC clsBody)
section
variable {P : Program} {w : World} {K : PySem.W.Frag} {mg : Str → Option Value} {base : Heap}
theorem cut_drop (xs : List V) (k : Nat) : cutV xs (some ((k : Nat) : Int)) none = xs.drop k := by
  unfold cutV
  rw [HT.sIx_nat, HT.sIx_none]
  rcases Nat.lt_or_ge k xs.length with h | h
  · rw [Nat.min_eq_left (by omega), List.take_of_length_le (by rw [List.length_drop]; exact Nat.le_refl _)]
  · rw [Nat.min_eq_right h, List.drop_of_length_le (Nat.le_refl _), List.drop_of_length_le h, List.take_nil]
end
end E4

set_option Elab.async false
set_option linter.all false
set_option maxRecDepth 100000
set_option maxHeartbeats 1000000
/-! rows any two of which go one into the other: their cells have places of their own -/
namespace E4
open PySem PySem.Spec PyProof.Rows L2
open PySem.W (dataLe)
end E4

set_option Elab.async false
set_option linter.all false
set_option maxRecDepth 100000
set_option maxHeartbeats 1000000
/-! law_k55's law -/
namespace E4
open PySem PySem.Spec PyProof.Rows L2
open C8 (Cal Mak Met InsC pe_c pe_mt pe_mt0 call_isC clsBody)
open E3 (PurseAt spPurse spMixed spDraw)
open LamX (Tabs ExtN TabB CodeO)
abbrev sLaw : Stmt := top 47
def spLaw (T : List (Addr × Str)) (K : PySem.W.Frag) : Sp := fun vs H Q _ => ∃ (sc : Addr) (ns : List Int), vs = [.ref sc] ∧ SqL K H sc (ns.map V.int) ∧ ns.length ≤ 63 ∧ Tabs T H ∧ ∀ H', Q (.bl true) H'
theorem PurseAt.ext {p : Addr} {n : Nat} {H H' : Hp} (h : PurseAt H p n) (S : ExtN H H') : PurseAt H' p n :=
  let ⟨p0, p1, p2, h1, r⟩ := h; ⟨p0, p1, p2, S _ _ h1 (fun _ z => nomatch z), r⟩
theorem dp_ints {K : PySem.W.Frag} {H : Hp} : ∀ l : List Int, DpAll K H (l.map V.int) (l.map PyData.int)
  | [] => .nil
  | _ :: l => .cons (.int _) (dp_ints l)
theorem lay_ints : ∀ l : List Int, PyData.canLayAll0 (l.map PyData.int) = true
  | [] => rfl
  | _ :: l => by simpa [PyData.canLayAll0, PyData.canLay0] using lay_ints l
theorem dep_ints : ∀ l : List Int, PyData.depthAll (l.map PyData.int) = 0
  | [] => rfl
  | x :: l => by
    show max (PyData.depth (.int x)) (PyData.depthAll (l.map PyData.int)) = 0
    rw [dep_ints l]
    rfl
end E4

set_option Elab.async false
set_option linter.all false
set_option maxRecDepth 100000
set_option maxHeartbeats 1000000
/-! _law_times, _law_spot -/
namespace E4
open PySem PySem.Spec PyProof.Rows L2
open C8 (Cal Mak Met InsC pe_c pe_mt pe_mt0 call_isC clsBody)
open E3 (PurseAt spPurse spMixed spDraw)
abbrev sTimes : Stmt := top 33
/-- values of letters: small whole numbers from 1 on -/
structure ValsOk (vl : Vls) (xs : List Sd) : Prop where
  mem : ∀ x ∈ xs, ∀ z, z ∈ x.2.1 ∨ z ∈ x.2.2 → z ∈ vl.map (·.1)
  bd : AllV (fun n => 1 ≤ n ∧ n.natAbs < 2 ^ 400) vl
abbrev tm (vl : Vls) (m : List Str) : Int := prodI (m.map (gOf vl))
theorem val_at {vl : Vls} {p : Int → Prop} (ha : AllV p vl) {z : Str} (hz : z ∈ vl.map (·.1)) : valV (dI vl) (Sum.inr z) = some (.int (gOf vl z)) ∧ p (gOf vl z) := by
  obtain ⟨e1, e2⟩ := gOf_at rfl ha hz
  exact ⟨by rw [valV_dI, e1]; rfl, e2⟩
theorem tm_pos {vl : Vls} {m : List Str} (ha : AllV (fun n => 1 ≤ n ∧ n.natAbs < 2 ^ 400) vl) (h : ∀ z ∈ m, z ∈ vl.map (·.1)) : 1 ≤ tm vl m := prod_pos fun z hz => (val_at ha (h z hz)).2.1
theorem tm_lt {vl : Vls} {m : List Str} (ha : AllV (fun n => 1 ≤ n ∧ n.natAbs < 2 ^ 400) vl) (h : ∀ z ∈ m, z ∈ vl.map (·.1)) : (tm vl m).natAbs < 2 ^ (1 + m.length * 400) := prod_lt _ _ fun z hz => (val_at ha (h z hz)).2.2
theorem tm_append (vl : Vls) (a b : List Str) : tm vl (a ++ b) = tm vl a * tm vl b := by unfold tm; rw [List.map_append, prodI_append]
def spTimes (K : PySem.W.Frag) : Sp := fun vs H Q _ => ∃ (t d : Addr) (m : List Str) (vl : Vls), vs = [.ref t, .ref d] ∧ SqL K H t (m.map V.str) ∧ H d = some (.dK (dI vl)) ∧ (∀ z ∈ m, z ∈ vl.map (·.1)) ∧ AllV (fun n => 1 ≤ n ∧ n.natAbs < 2 ^ 400) vl ∧ m.length ≤ 1000 ∧ Q (.int (tm vl m)) H
/-- the place of a cell -/
def spotI (vl : Vls) (xs : List Sd) (cs : List Int) : Int := ((xs.zip cs).map fun p => p.2 * tm vl p.1.2.2).sum
section
variable {P : Program} {w : World} {K : PySem.W.Frag} {mg : Str → Option Value} {base : Heap}
theorem scTimes : FnScope ["_law_product", "_law_sizes_here", "_law_found", "_law_one"] ["_law_product", "_law_sizes_here"] (defScope sTimes) := ⟨rfl, rfl, rfl, by decide +kernel, rfl, by decide +kernel, by decide +kernel⟩
theorem ok_times {f : Addr} {fd : FuncData} (F : Fun K "_law_times" "_law_times" sTimes f fd) : FnOk P w K mg base CX0 1 f fd ["_law_product", "_law_sizes_here"] (spTimes K) := by
  refine F.ok scTimes (fun vs H Q E h => ?_) (fun cdv A outer s H vs Q E hr h => ?_)
  · obtain ⟨t, d, m, vl, rfl, _⟩ := h
    rfl
  · obtain ⟨t, d, m, vl, rfl, ht, hd, hm0, hb, hl, k⟩ := h
    have u1 := Nat.lt_of_le_of_lt (Nat.add_le_add_left (by decide : 1 ≤ 64) _) hr.units
    refine ⟨_, pss_cons (ps_set (i := 2) scTimes.nd rfl (Or.inl rfl) pe_int)
      (pss_cons (ps_for PassesOwn.never rfl (pi_list (pv 0)) (pg_name (i := 3) scTimes.nd rfl (Or.inl rfl)) (pss_one (ps_set (i := 2) scTimes.nd rfl (Or.inl rfl) (pe_op op_mulW (pv 2) (pe_dget u1 (pv 1) (pv 3) (fun _ _ => rfl))))))
      (pss_one (ps_ret (pv 2)))), ?_⟩
    refine seq_asg ⟨_, rfl, t, rfl, ⟨_, ht⟩, for_it (walk_list (xs := m.map V.str)) (fun i σ H' => H' = H ∧ ∃ u, σ = [some (.ref t), some (.ref d), some (.int (tm vl (m.take i))), u]) ⟨rfl, none, rfl⟩ ?_ ?_ ?_⟩
    · rintro i σ H' _ ⟨rfl, _⟩
      exact ht
    · rintro i x σ H1 H2 hi ⟨rfl, u, rfl⟩ ⟨rfl, hx⟩
      rw [List.length_map] at hi
      rw [List.getElem?_map] at hx
      obtain ⟨z, hz, rfl⟩ := Option.map_eq_some_iff.mp hx
      have hm := hm0 z (List.mem_of_getElem? hz)
      have p1 := tm_lt (m := m.take i) hb fun y hy => hm0 y (List.mem_of_mem_take hy)
      have tl : (m.take i).length ≤ 1000 := by rw [List.length_take]; omega
      refine ⟨_, rfl, _, rfl, _, rfl, d, _, rfl, by rw [← (val_at hb hm).1]; exact DGet.k (k := Sum.inr z) hd, _, _, rfl, rfl, cmw p1 (val_at hb hm).2.2 (by omega) (by decide) (by omega), rfl, some (V.str z), ?_⟩
      rw [take_snoc hz, tm_append]
      show _ = [_, _, some (V.int (_ * (gOf vl z * 1))), _]
      rw [Int.mul_one]
      rfl
    · rintro σ H1 ⟨rfl, u, rfl⟩
      rw [List.length_map, List.take_length]
      exact ⟨_, rfl, k⟩
theorem atI_get {xs : List V} {i : Nat} {v : V} (h : xs[i]? = some v) : atI xs (i : Int) = some v := by
  have hl := (List.getElem?_eq_some_iff.mp h).1
  unfold atI ixN
  rw [if_pos (by omega), if_pos (by omega)]
  exact h
end
end E4

set_option Elab.async false
set_option linter.all false
set_option maxRecDepth 100000
set_option maxHeartbeats 1000000
/-! _law_cells -/
namespace E4
open PySem PySem.Spec PyProof.Rows L2
open C8 (Cal Mak Met InsC pe_c pe_mt pe_mt0 call_isC clsBody)
/-- the number of cells -/
def manyI (vl : Vls) (xs : List Sd) : Int := prodI (xs.map fun x => tm vl x.2.1)
theorem many_snoc (vl : Vls) (xs : List Sd) (x : Sd) : manyI vl (xs ++ [x]) = manyI vl xs * tm vl x.2.1 := by
  unfold manyI
  rw [List.map_append, prodI_append]
  show _ * (tm vl x.2.1 * 1) = _
  rw [Int.mul_one]
theorem many_pos {vl : Vls} {xs : List Sd} (v : ValsOk vl xs) : 1 ≤ manyI vl xs := by
  unfold manyI
  have : ∀ l : List Sd, (∀ x ∈ l, x ∈ xs) → 1 ≤ prodI (l.map fun x => tm vl x.2.1) := by
    intro l
    induction l with
    | nil => intro _; exact Int.le_refl 1
    | cons x l ih =>
      intro h
      have h1 := ih fun y hy => h y (List.mem_cons_of_mem _ hy)
      have h2 := tm_pos (m := x.2.1) v.bd fun z hz => v.mem x (h x List.mem_cons_self) z (.inl hz)
      show 1 ≤ tm vl x.2.1 * prodI (l.map fun x => tm vl x.2.1)
      have := Int.mul_le_mul h2 h1 (by decide) (by omega)
      simpa using this
  exact this xs fun _ h => h
theorem ValsOk.take {vl : Vls} {xs : List Sd} (v : ValsOk vl xs) (i : Nat) : ValsOk vl (xs.take i) := ⟨fun x hx => v.mem x (List.mem_of_mem_take hx), v.bd⟩
theorem many_mono {vl : Vls} {xs : List Sd} (v : ValsOk vl xs) : ∀ (k i : Nat), xs.length = i + k → manyI vl (xs.take i) ≤ manyI vl xs := by
  intro k
  induction k with
  | zero =>
    intro i h
    rw [List.take_of_length_le (by omega)]
    exact Int.le_refl _
  | succ k ih =>
    intro i h
    refine Int.le_trans ?_ (ih (i + 1) (by omega))
    have hx : xs[i]? = some xs[i] := List.getElem?_eq_getElem (by omega)
    generalize xs[i] = x at hx
    have p := tm_pos (m := x.2.1) v.bd fun z hz => v.mem x (List.mem_of_getElem? hx) z (.inl hz)
    have q := many_pos (v.take i)
    rw [take_snoc hx, many_snoc]
    have := Int.mul_le_mul_of_nonneg_left p (by omega : (0 : Int) ≤ manyI vl (xs.take i))
    simpa using this
/-- lists of whole numbers -/
def CsAt (H : Hp) (as : List Addr) (cs : List (List Int)) : Prop := Paired (fun (a : Addr) (c : List Int) => H a = some (.lst (c.map V.int))) as cs
theorem CsAt.imp {H H' : Hp} {as : List Addr} {cs : List (List Int)} (h : CsAt H as cs) (k : ∀ a ∈ as, ∀ o, H a = some o → H' a = some o) : CsAt H' as cs := by
  unfold CsAt at h ⊢
  induction h with
  | nil => exact .nil
  | cons r t ih => exact .cons (k _ List.mem_cons_self _ r) (ih fun z hz => k z (List.mem_cons_of_mem _ hz))
theorem CsAt.same {H H' : Hp} {as : List Addr} {cs : List (List Int)} (h : CsAt H as cs) (S : Same H H') : CsAt H' as cs := h.imp fun a _ o e => S _ _ e
theorem CsAt.app {H : Hp} {as bs : List Addr} {cs ds : List (List Int)} (h : CsAt H as cs) (g : CsAt H bs ds) : CsAt H (as ++ bs) (cs ++ ds) := by
  unfold CsAt at h g ⊢
  induction h with
  | nil => exact g
  | cons r t ih => exact .cons r ih
theorem CsAt.there {H : Hp} {as : List Addr} {cs : List (List Int)} (h : CsAt H as cs) : ∀ a ∈ as, H a ≠ none := by
  unfold CsAt at h
  induction h with
  | nil => exact fun _ h => absurd h List.not_mem_nil
  | cons r t ih =>
    intro a ha
    rcases List.mem_cons.mp ha with rfl | q
    · rw [r]; exact fun z => nomatch z
    · exact ih a q
section
variable {P : Program} {w : World} {K : PySem.W.Frag} {mg : Str → Option Value} {base : Heap}
end
end E4

set_option Elab.async false
set_option linter.all false
set_option maxRecDepth 100000
set_option maxHeartbeats 1000000
/-! sorted(d), d a dict with whole numbers as keys -/
namespace L2
open PySem PySem.Spec PyProof.Rows
section
variable {prog : Program} {w : World} {A : Around} {E : Value → Shared → Prop} {s : Shared} {T : String} {r d : Addr} {n : Nat} {P : Nat → Value → Prop} {OK : Heap → Prop}
theorem collect_kdl {Q : List Value → Shared → Prop} (K : PySem.W.KdlSrc prog w T r d n P OK) (hh : A.handled = none) (hok : OK s.heap) (hn : n ≤ sizeLine)
    (hQ : ∀ h' tk acc', (∀ b o, s.heap.get? b = some o → h'.get? b = some o) → ItemsOf P acc' n → Q acc'.toList { s with heap := h', toks := tk }) : wpAny (model prog w) A (collect (.ref r)) Q E s := by
  have hS : (s.heap.push { cls := .type "list", data := .seq ([] : List Value).toArray }).get? s.heap.objs.size = some { cls := .type "list", data := .seq ([] : List Value).toArray } := Heap.get?_push_size _ rfl
  have hlt := K.there _ hok
  have key : ∀ R : Result → Shared → Prop, (∀ h' tk acc' c', (∀ b o, s.heap.get? b = some o → h'.get? b = some o) → h'.get? s.heap.objs.size = some { cls := .type "list", dict := none, data := .seq acc' c', slots := #[] } → ItemsOf P acc' n → R (.ok (.ret (.ref s.heap.objs.size))) { s with heap := h', toks := tk }) →
      codeAny (model prog w) A (.builtin "list.__iadd__" ⟨[.ref s.heap.objs.size, .ref r], []⟩) R { s with heap := s.heap.push { cls := .type "list", data := .seq ([] : List Value).toArray } } := by
    intro R hR
    refine codeAny_builtin F.entry_list_iadd ?_
    rw [Around.under_plainId F.plain_list_iadd _]
    show wpAny _ A.in1 (Builtin.List.listExtendWith (.ref s.heap.objs.size) (.ref r) (.ref s.heap.objs.size)) _ _ _
    exact PySem.W.kdl_extend (s := { s with heap := s.heap.push { cls := .type "list", data := .seq ([] : List Value).toArray } }) K hh (K.keep _ _ hok fun b _ o e => Heap.get?_push_of_some _ e) s.heap.objs.size (Nat.ne_of_gt hlt.1) (Nat.ne_of_gt hlt.2) (.ref s.heap.objs.size) _ hS
      (fun h' tk acc' c' hk hS' hacc => hR h' tk acc' c' (fun b o e => hk b o (Nat.ne_of_lt (Heap.lt_size e)) (Heap.get?_push_of_some _ e)) hS' hacc) hn
  unfold collect
  refine wpAny_bind (wpAny_runValue (codeAny_builtin F.entry_proto_collect ?_))
  rw [Around.under_plainId F.plain_proto_collect _]
  show wpAny _ A.in1 (newList [] >>= fun l => again (.builtin "list.__iadd__" ⟨[l, .ref r], []⟩)) _ _ s
  refine wpAny_bind (wpAny_newObj_type ?_)
  refine wpAny_pure ⟨plainId_quiet F.plain_list_iadd _, key _ fun h' tk acc' c' hk hS' hacc => ?_⟩
  show wpAny _ A (load s.heap.objs.size >>= _) _ _ _
  refine wpAny_bind (wpAny_load hS' ?_)
  exact wpAny_pure (hQ h' tk acc' hk hacc)
end
end L2

set_option Elab.async false
set_option linter.all false
set_option maxRecDepth 100000
/-! set(xs), xs a list of whole numbers; sorted of such a set, of any size -/
namespace L2
open PySem PySem.Spec PyProof.Rows
section
variable {P : Program} {w : World} {A : Around} {E : Value → Shared → Prop} {s : Shared} {l : Addr} {items : Array Value} {ns : List Int}
end
end L2

set_option Elab.async false
set_option linter.all false
set_option maxRecDepth 100000
/-! len of a set of whole numbers -/
namespace L2
open PySem PySem.Spec PyProof.Rows
end L2

set_option Elab.async false
set_option linter.all false
set_option maxRecDepth 100000
set_option maxHeartbeats 1000000
set_option exponentiation.threshold 5000
/-! _law_apart -/
namespace E4
open PySem PySem.Spec PyProof.Rows L2
open C8 (Cal Mak Met InsC pe_c pe_mt pe_mt0 call_isC clsBody)
/-- a cell's indices -/
def CellIn (vl : Vls) (xs : List Sd) (cs : List Int) : Prop := Paired (fun (x : Sd) (i : Int) => 0 ≤ i ∧ i < tm vl x.2.1) xs cs
section
variable {P : Program} {w : World} {K : PySem.W.Frag} {mg : Str → Option Value} {base : Heap}
end
end E4

set_option Elab.async false
set_option linter.all false
set_option maxRecDepth 100000
set_option maxHeartbeats 1000000
/-! _law_ordered -/
namespace E4
open PySem PySem.Spec PyProof.Rows L2
open C8 (Cal Mak Met InsC pe_c pe_mt pe_mt0 call_isC clsBody)
theorem take_nat (xs : List V) (n : Nat) : cutV xs none (some ((n : Nat) : Int)) = xs.take n := by
  unfold cutV
  rw [HT.sIx_nat, HT.sIx_none, List.drop_zero]
  refine List.take_eq_take_iff.mpr ?_
  omega
section
variable {P : Program} {w : World} {K : PySem.W.Frag} {mg : Str → Option Value} {base : Heap}
end
end E4

set_option Elab.async false
set_option linter.all false
set_option maxRecDepth 100000
set_option maxHeartbeats 1000000
/-! the places of chained rows are apart -/
namespace E4
open PySem PySem.Spec PyProof.Rows L2
theorem prodI_perm {a b : List Int} (h : a.Perm b) : prodI a = prodI b := by
  unfold prodI
  induction h with
  | nil => rfl
  | cons x _ ih => rw [List.foldr_cons, List.foldr_cons, ih]
  | swap x y l => rw [List.foldr_cons, List.foldr_cons, List.foldr_cons, List.foldr_cons, Int.mul_left_comm]
  | trans _ _ h1 h2 => exact h1.trans h2
theorem tm_perm {vl : Vls} {a b : List Str} (h : a.Perm b) : tm vl a = tm vl b := prodI_perm (h.map _)
/-- two rows of which one goes into the other -/
def FitE (x y : Sd) : Prop := leftOf (x.2.1 ++ x.2.2) y.2.2 = []
theorem FitE.len {x y : Sd} (h : FitE x y) : x.2.1.length + x.2.2.length ≤ y.2.2.length := by
  have := leftOf_len y.2.2 (x.2.1 ++ x.2.2)
  unfold FitE at h
  rw [h, List.length_append] at this
  simpa using this
end E4

set_option Elab.async false
set_option linter.all false
set_option maxRecDepth 100000
set_option maxHeartbeats 1000000
/-! rows put in order by what fits into what -/
namespace E4
open PySem PySem.Spec PyProof.Rows L2
abbrev sl (x : Sd) : Nat := x.2.2.length
/-- rows with two cells or more of which any two go one into the other, laid one by one -/
structure OrdOk (acc src : List Sd) : Prop where
  pm : acc.Perm src
  pw : acc.Pairwise fun a b => sl a < sl b
end E4

set_option Elab.async false
set_option linter.all false
set_option maxRecDepth 100000
set_option maxHeartbeats 1000000
/-! what clash tells is right -/
namespace E4
open PySem PySem.Spec PyProof.Rows L2
/-- what clash's indices are -/
structure ClOk (vl : Vls) (x y : Sd) (i j : Int) : Prop where
  i1 : 1 ≤ i
  j1 : 1 ≤ j
  i2 : i < tm vl x.2.1
  j2 : j < tm vl y.2.1
  e : i * tm vl x.2.2 = j * tm vl y.2.2
end E4

set_option Elab.async false
set_option linter.all false
set_option maxRecDepth 100000
set_option maxHeartbeats 1000000
/-! sorted(d), d a dict with texts as keys -/
namespace L2
open PySem PySem.Spec PyProof.Rows
def rSortedDS : List V → Hp → VK → Prop := fun vs H Q => ∃ (d : Addr) (kvs : List (Key × V)) (zs : List Str), vs = [V.ref d] ∧ Rd H d (.dK kvs) ∧ kvs.map (·.1) = zs.map Sum.inr ∧
  ∀ ys : List Str, ys.Perm zs → sortedS ys = true → NewQ H (.lst (ys.map V.str)) Q
theorem cr_sortedDS {X : Cx} (hc : X.calm = true) : CallR X (.builtin "sorted") rSortedDS := by
  intro pins s σ H vs us Q I r h
  obtain ⟨d, kvs, ns, rfl, hd, hk, q⟩ := h
  obtain ⟨z, lo, rs, rk, hdo⟩ := dk_rd I.hok hd
  obtain ⟨ep, hat⟩ := hdo.dictAt
  have hl : kvs.length = rs.length := Paired.length rk
  rw [Vals.ref1 r]
  refine Calls.call_function_entry kind_sorted plain_sorted entry_sorted (args_sorted1 _) ?_
  unfold Builtin.«sorted»
  refine wpAny_bind (m := checkCount "sorted" 1 1 _) (wpAny_pure ?_)
  refine wpAny_bind (collect_kdl (PySem.W.kdl_dict (knd := mixKind X.prog X.w) (kvs := rs) (ep := ep) lo) (I.ok.hd hc) hat (by rw [← hl]; exact z) fun h' tk acc hkp hacc => ?_)
  have sz : acc.toList.length = ns.length := by
    have e := congrArg List.length hk
    rw [List.length_map, List.length_map] at e
    rw [Array.length_toList, hacc.1, ← hl, e]
  have hv : Vals (ns.map V.str) acc.toList := by
    refine vals_of_at (by rw [List.length_map]; exact sz.symm) fun j x w h1 h2 => ?_
    obtain ⟨k, y, hky, hi⟩ := hacc.2 j w (by rw [← Array.getElem?_toList]; exact h2)
    have e1 : (kvs.map (·.1))[j]? = some k := by
      rw [KV.keys rk, List.getElem?_map, hky] <;> rfl
    rw [hk, List.getElem?_map] at e1
    rw [List.getElem?_map] at h1
    cases e : ns[j]? with
    | none => rw [e] at e1; cases e1
    | some i =>
      rw [e] at e1 h1
      have := Option.some.inj e1
      subst this
      have := Option.some.inj h1
      subst this
      exact keyIs_rel (k := Sum.inr i) (v := w) hi
  have hS := hv.strs
  have I1 : Inv X pins σ H { s with heap := h', toks := tk } := I.kept hkp
  have hz : acc.toList.length ≤ sizeLine := by
    have e := congrArg List.length hk
    rw [List.length_map, List.length_map] at e
    omega
  refine wpAny_bind (wpAny_newList ?_ hz)
  have hoL : (h'.push (seqObj "list" acc.toList.toArray 0)).get? h'.objs.size = some (seqObj "list" acc.toList.toArray 0) := Heap.get?_push_size _ rfl
  show wpAny _ _ _ _ _ { s with heap := h'.push (seqObj "list" acc.toList.toArray 0), toks := tk }
  refine wpAny_bind (wpAny_holding (wpAny_call_entry slot_list_sort ⟨_, hoL, rfl⟩ entry_list_sort (list_sort_treeKAny strKind_oneLt hoL hS.keysOf (fun v₁ v₂ rest e => keyKind_strs (by rw [← e]; exact hS)) (by omega) fun st' hp hs => ⟨_, rfl, ?_⟩) (args_list_sort _)))
  obtain ⟨ys, h1, h2, h3⟩ := sorted_out_str hS hp hs
  obtain ⟨ep2, he'⟩ := sortedHeap_at (vs := acc.toList) (out := (arrOf st').map (·.2)) hoL
  have hlen : (ys.map V.str).length ≤ sizeLine := by rw [List.length_map, h2.length_eq, ← sz]; exact hz
  refine wpAny_pure ⟨_, rfl, .ref h'.objs.size, upd H h'.objs.size (.lst (ys.map V.str)), I1.laid (t' := tk) (fun b u e => ?_) (Nat.le_refl _) ⟨hlen, _, ep2, vals_of_strs h1, he'⟩, rfl, (q ys h2 h3).at I1.fresh⟩
  have lt := Heap.lt_size e
  rw [sortedHeap_old (Nat.ne_of_lt lt) (by rw [size_push']; exact Nat.lt_succ_of_lt lt)]
  exact Heap.get?_push_of_some _ e
end L2

set_option Elab.async false
set_option linter.all false
set_option maxRecDepth 100000
set_option maxHeartbeats 1000000
/-! _law_cell_right, _law_clash_right -/
namespace E4
open PySem PySem.Spec PyProof.Rows L2
open C8 (Cal Mak Met InsC pe_c pe_mt pe_mt0 call_isC clsBody)
theorem eqv_ints : ∀ xs ys : List Int, PyData.eqvAll (xs.map PyData.int) (ys.map PyData.int) = decide (xs = ys)
  | [], [] => rfl
  | [], y :: ys => by simp [PyData.eqvAll]
  | x :: xs, [] => by simp [PyData.eqvAll]
  | x :: xs, y :: ys => by
    rw [List.map_cons, List.map_cons]
    simp only [PyData.eqvAll, PyData.eqv]
    rw [eqv_ints xs ys]
    by_cases a : x = y
    · subst a; simp
    · simp [a]
theorem eqv_listI (xs ys : List Int) : PyData.eqv (.list (xs.map PyData.int)) (.list (ys.map PyData.int)) = decide (xs = ys) := by rw [← eqv_ints]; simp [PyData.eqv]
theorem shaped_ints (l : List Int) : SeqAt.shaped (.list (l.map PyData.int)) = true := by
  have c : PyData.canLay0 (.list (l.map PyData.int)) = true := by simpa [PyData.canLay0] using lay_ints l
  show (PyData.canLay0 _ && decide (PyData.depth _ ≤ 64)) = true
  rw [c, decide_eq_true (by simp only [PyData.depth]; rw [dep_ints]; decide)]
  rfl
section
variable {P : Program} {w : World} {K : PySem.W.Frag} {mg : Str → Option Value} {base : Heap}
end
end E4

set_option Elab.async false
set_option linter.all false
set_option maxRecDepth 100000
set_option maxHeartbeats 1000000
set_option exponentiation.threshold 500
/-! _law_shuffled of rows; what clash tells of rows is right -/
namespace E4
open PySem PySem.Spec PyProof.Rows L2
open C8 (Cal Mak Met InsC pe_c pe_mt pe_mt0 call_isC clsBody)
open E3 (PurseAt spPurse spMixed spDraw)
def spShufV : Sp := fun vs H Q _ => ∃ (a l : Addr) (xs : List V) (n : Nat), vs = [.ref a, .ref l] ∧ PurseAt H a (n + 4 * xs.length) ∧ H l = some (.lst xs) ∧ l ≠ a ∧ xs.length ≤ 2000 ∧
  ∀ (ys : List V) q H', ys.Perm xs → H' q = some (.lst ys) → H q = none → PurseAt H' a n → SameB a H H' → Q (.ref q) H'
section
variable {P : Program} {w : World} {K : PySem.W.Frag} {mg : Str → Option Value} {base : Heap}
theorem ok_shufV {f : Addr} {fd : FuncData} (F : Fun K "_law_shuffled" "_law_shuffled" sShuffled f fd) (B : Bl mg) (D : Cal P w K mg base 2 "_law_draw" spDraw []) : FnOk P w K mg base CX0 3 f fd ["_law_purse_here", "_law_some"] spShufV := by
  refine F.ok scShuf (fun vs H Q E h => ?_) (fun cdv A outer s H vs Q E hr h => ?_)
  · obtain ⟨a, l, xs, n, rfl, _⟩ := h
    rfl
  · obtain ⟨a, l, xs, n, rfl, hp, hl, nla, l2, k⟩ := h
    refine ⟨_, pss_cons (ps_set (i := 2) scShuf.nd rfl (Or.inl rfl) (pe_lstS pa_nil))
      (pss_cons (ps_for PassesOwn.never rfl (pi_list (pv 1)) (pg_name (i := 3) scShuf.nd rfl (Or.inl rfl))
        (pss_one (ps_expr (pe_bm PySem.F.plainAttrs_list PySem.F.slot_list_insert PySem.F.type_list_insert mt_insert (pv 2) (pa_cons (pe_c D hr (by decide) rfl (pa_cons (pv 0) (pa_cons (pe_op op_add (pe_callB call_len_seq (by rfl) B.len_ PySem.boot_len (pa_cons (pv 2) pa_nil)) pe_int) pa_nil))) (pa_cons (pv 3) pa_nil))))))
      (pss_one (ps_ret (pv 2)))), ?_⟩
    refine seq_asg ⟨by show 0 ≤ sizeLine; decide, fun d0 H1 S1 n1 h1 => ?_⟩
    have nda : d0 ≠ a := purse_none hp n1
    have ndl : l ≠ d0 := ne_of_none hl n1
    refine ⟨_, rfl, l, rfl, ⟨_, SqL.of (S1 _ _ hl)⟩, for_it (walk_list (xs := xs)) (fun i σ' H' => ∃ u ys, σ' = [some (.ref a), some (.ref l), some (.ref d0), u] ∧ ys.Perm (xs.take i) ∧ H' d0 = some (.lst ys) ∧ PurseAt H' a (n + 4 * (xs.length - i)) ∧ ∀ c o, c ≠ a → c ≠ d0 → H1 c = some o → H' c = some o) ⟨none, [], rfl, List.Perm.refl _, h1, (hp.same S1), fun _ _ _ _ e => e⟩ (fun i σ' H' _ q => let ⟨_, _, _, _, _, _, S⟩ := q; SqL.of (S _ _ nla ndl (S1 _ _ hl))) ?_ ?_⟩
    · rintro i z σ' H2 H3 hi ⟨u, ys, rfl, pm, hd, hpu, S2⟩ ⟨rfl, hz⟩
      have ly : ys.length = i := by rw [pm.length_eq, List.length_take]; omega
      refine ⟨_, rfl, .inl ⟨rfl, _, SqL.of hd⟩, ?_⟩
      refine ⟨_, rfl, _, rfl, d0, _, rfl, .inl (SqL.of hd), _, _, rfl, rfl, a, _, n + 4 * (xs.length - (i + 1)), rfl, hpu.less (by omega), by omega, by rw [ly]; omega, fun r H4 r0 r1 hp4 S4 => ?_⟩
      have hd4 := S4 _ _ nda hd
      refine ⟨_, rfl, d0, _, r, _, rfl, rfl, hd4, by rw [ly, sizeLine_eq]; omega, r0, by rw [ly] at r1; omega, ?_⟩
      refine ⟨_, ys.take r.toNat ++ z :: ys.drop r.toNat, rfl, ?_, ?_, ?_, fun c o nc nd e => ?_⟩
      · rw [take_snoc hz]
        refine List.Perm.trans ?_ (pm.append_right [z])
        refine List.perm_middle.trans ?_
        show (z :: (List.take r.toNat ys ++ List.drop r.toNat ys)).Perm (ys ++ [z])
        rw [List.take_append_drop]
        exact (List.perm_append_comm (l₁ := [z]) (l₂ := ys))
      · rw [upd_same]
        try simp
      · obtain ⟨p0, p1, p2, e, r⟩ := hp4
        exact ⟨p0, p1, p2, by rw [upd_ne (Ne.symm nda)]; exact e, r⟩
      · rw [upd_ne nd]
        exact S4 _ _ nc (S2 _ _ nc nd e)
    · rintro σ' H2 ⟨u, ys, rfl, pm, hd, hpu, S2⟩
      rw [List.take_length] at pm
      exact ⟨_, rfl, k ys d0 H2 pm hd n1 (hpu.less (by omega)) fun c o nc e => S2 c o nc (ne_of_none e n1) (S1 _ _ e)⟩
end
theorem perm_refs {ts : List Addr} {ys : List V} (h : ys.Perm (ts.map V.ref)) : ∃ us : List Addr, us.Perm ts ∧ ys = us.map V.ref := by
  have : ∀ (a b : List V), a.Perm b → ∀ ts : List Addr, b = ts.map V.ref → ∃ us : List Addr, us.Perm ts ∧ a = us.map V.ref := by
    intro a b h
    induction h with
    | nil =>
      intro ts e
      cases ts with
      | nil => exact ⟨[], List.Perm.refl _, rfl⟩
      | cons _ _ => cases e
    | cons x _ ih =>
      intro ts e
      cases ts with
      | nil => cases e
      | cons t ts =>
        obtain ⟨e1, e2⟩ := List.cons.inj e
        obtain ⟨us, h1, h2⟩ := ih ts e2
        exact ⟨t :: us, h1.cons _, by rw [List.map_cons, h2, e1]⟩
    | swap x y l =>
      intro ts e
      match ts, e with
      | t :: t2 :: ts, e =>
        obtain ⟨e1, e2⟩ := List.cons.inj e
        obtain ⟨e3, e4⟩ := List.cons.inj e2
        exact ⟨t2 :: t :: ts, .swap _ _ _, by rw [List.map_cons, List.map_cons, e1, e3, e4]⟩
    | trans _ _ i1 i2 =>
      intro ts e
      obtain ⟨us, h1, h2⟩ := i2 ts e
      obtain ⟨ws, h3, h4⟩ := i1 us h2
      exact ⟨ws, h3.trans h1, h4⟩
  exact this _ _ h ts rfl
theorem paired_perm {α β : Type} {R : α → β → Prop} {as bs : List α} (h : as.Perm bs) : ∀ {xs : List β}, Paired R bs xs → ∃ ys : List β, ys.Perm xs ∧ Paired R as ys := by
  induction h with
  | nil => intro xs p; exact ⟨xs, .refl _, p⟩
  | cons x _ ih =>
    intro xs p
    cases p with
    | cons r t =>
      obtain ⟨ys, h1, h2⟩ := ih t
      exact ⟨_ :: ys, h1.cons _, .cons r h2⟩
  | swap x y l =>
    intro xs p
    match xs, p with
    | _ :: _ :: _, .cons r1 (.cons r2 t) => exact ⟨_ :: _ :: _, .swap _ _ _, .cons r2 (.cons r1 t)⟩
  | trans _ _ i1 i2 =>
    intro xs p
    obtain ⟨ys, h1, h2⟩ := i2 p
    obtain ⟨zs, h3, h4⟩ := i1 h2
    exact ⟨zs, h3.trans h1, h4⟩
theorem SdsOk.perm {xs ys : List Sd} (h : SdsOk xs) (p : ys.Perm xs) : SdsOk ys :=
  ⟨fun e => h.ne (by rw [e] at p; exact List.nil_perm.mp p), fun x hx => h.ok x (p.mem_iff.mp hx), (p.map _).nodup_iff.mpr h.nd, fun x hx y hy => h.free x (p.mem_iff.mp hx) y (p.mem_iff.mp hy), by rw [p.length_eq]; exact h.len⟩
/-- what _law_clash_right asks of what clash tells -/
structure ToldOk (vl : Vls) (xs : List Sd) (cs1 cs2 : List Int) : Prop where
  nd : (vl.map (·.1)).Nodup
  mem : ∀ z, z ∈ vl.map (·.1) ↔ InLets xs z
  bd : AllV (fun n => 1 ≤ n ∧ n.natAbs < 2 ^ 400) vl
  in1 : CellIn vl xs cs1
  in2 : CellIn vl xs cs2
  ne : cs1 ≠ cs2
  eq : spotI vl xs cs1 = spotI vl xs cs2
end E4

set_option Elab.async false
set_option linter.all false
set_option maxRecDepth 100000
set_option maxHeartbeats 1000000
/-! _law_fixed_right -/
namespace E4
open PySem PySem.Spec PyProof.Rows L2
open C8 (Cal Mak Met InsC pe_c pe_mt pe_mt0 call_isC clsBody)
open E3 (PurseAt spPurse spMixed spDraw)
open LamX (Tabs ExtN TabB CodeO)
section
variable {X : Cx} {k j : Nat} {x : Str} {sp : Sp} {p pos : Pos}
end
theorem mk_plainR {C : Addr} {H : Hp} {l : Addr} {ts : List Addr} {xs : List Sd} {R : VK} {E : XK} {x dx : Addr} (hl : H l = some (.lst (ts.map V.ref))) (hx : SdsAt H ts xs) (ok : SdsOk xs) (nx : H x = none) (nd : H dx = none) (ne : dx ≠ x)
    (k : ∀ H', Same H H' → PlAt C H' x (xs.map norm) → R .non H') : spInit C [.ref x, .ref l] (upd (upd H dx (.own x)) x (.ins C dx [])) R E := by
  have S : Same H (upd (upd H dx (.own x)) x (.ins C dx [])) := fun c o e => by
    rw [upd_ne (ne_of_none e nx), upd_ne (ne_of_none e nd)]
    exact e
  exact ⟨x, dx, l, ts, xs, rfl, upd_same, S _ _ hl, hx.same S, ok, fun H' l' ts' S' h1 h2 h3 => k H' (fun c o e => S' c o (ne_of_none e nx) (S _ _ e)) ⟨dx, l', ts', h1, h2, h3⟩⟩
section
variable {P : Program} {w : World} {K : PySem.W.Frag} {mg : Str → Option Value} {base : Heap} {C : Addr}
end
end E4

set_option Elab.async false
set_option linter.all false
set_option maxRecDepth 100000
set_option maxHeartbeats 1000000
/-! frames: a purse drawn from, new things changed -/
namespace E4
open PySem PySem.Spec PyProof.Rows L2
open C8 (Cal Mak Met InsC pe_c pe_mt pe_mt0 call_isC clsBody)
open E3 (PurseAt spPurse spMixed spDraw)
open LamX (Tabs ExtN TabB CodeO)
/-- all but the purse (and tables) stays -/
def FrP (p : Addr) (H H' : Hp) : Prop := ∀ c o, c ≠ p → H c = some o → (∀ ps, o ≠ .tbl ps) → H' c = some o
theorem FrP.refl (p : Addr) (H : Hp) : FrP p H H := fun _ _ _ e _ => e
theorem FrP.trans {p : Addr} {H1 H2 H3 : Hp} (a : FrP p H1 H2) (b : FrP p H2 H3) : FrP p H1 H3 := fun c o n e t => b c o n (a c o n e t) t
theorem FrP.ofS {p : Addr} {H H' : Hp} (h : Same H H') : FrP p H H' := fun c o _ e _ => h c o e
theorem FrP.ofB {p : Addr} {H H' : Hp} (h : SameB p H H') : FrP p H H' := fun c o n e _ => h c o n e
/-- this address was not taken there -/
def Frsh (p : Addr) (H : Hp) (D : Addr) : Prop := D ≠ p ∧ ∀ o, H D = some o → ∃ ps, o = .tbl ps
theorem FrP.upd {p D : Addr} {H H' : Hp} {v : HO} (h : FrP p H H') (f : Frsh p H D) : FrP p H (upd H' D v) := fun c o n e t => by
  have nD : c ≠ D := fun q => by
    subst q
    obtain ⟨ps, e2⟩ := f.2 o e
    exact t ps e2
  rw [upd_ne nD]
  exact h c o n e t
theorem Frsh.of {p D : Addr} {n : Nat} {H H' : Hp} (h : FrP p H H') (hp : PurseAt H' p n) (nt : NewT H' D) : Frsh p H D := by
  have ne : D ≠ p := fun q => by
    subst q
    obtain ⟨p0, p1, p2, e, _⟩ := hp
    obtain ⟨ps, e2⟩ := nt _ e
    cases e2
  refine ⟨ne, fun o e => ?_⟩
  by_cases t : ∀ ps, o ≠ .tbl ps
  · exact nt o (h D o ne e t)
  · exact Classical.byContradiction fun no => t fun ps e2 => no ⟨ps, e2⟩
theorem SdAt.frP {p : Addr} {n : Nat} {H H' : Hp} {t : Addr} {x : Sd} (h : SdAt H t x) (hp : PurseAt H p n) (S : FrP p H H') : SdAt H' t x :=
  let ⟨a, b, h1, h2, h3⟩ := h
  ⟨a, b, S _ _ (purse_tup hp h1) h1 (fun _ z => nomatch z), S _ _ (purse_str hp h2) h2 (fun _ z => nomatch z), S _ _ (purse_str hp h3) h3 (fun _ z => nomatch z)⟩
theorem SdsAt.frP {p : Addr} {n : Nat} {H H' : Hp} {ts : List Addr} {xs : List Sd} (h : SdsAt H ts xs) (hp : PurseAt H p n) (S : FrP p H H') : SdsAt H' ts xs := h.imp fun _ _ _ q => q.frP hp S
theorem PlAt.frP {C p : Addr} {n : Nat} {H H' : Hp} {a : Addr} {ss : List Sd} (h : PlAt C H a ss) (hp : PurseAt H p n) (S : FrP p H H') : PlAt C H' a ss := by
  obtain ⟨dx, l, ts, h1, h2, h3⟩ := h
  have ne : a ≠ p := by
    obtain ⟨p0, p1, p2, e, _⟩ := hp
    exact ne_of h1 e (by intro z; cases z)
  exact ⟨dx, l, ts, S _ _ ne h1 (fun _ z => nomatch z), S _ _ (purse_ref hp h2) h2 (fun _ z => nomatch z), h3.frP hp S⟩
theorem sortT_of_perm' {l m : List Str} (h : l.Perm m) : sortT l = sortT m :=
  List.Perm.eq_of_pairwise (le := fun a b => leT a b = true) (fun _ _ _ _ => leT_anti) (sortT_pw l) (sortT_pw m) ((sortT_perm l).trans (h.trans (sortT_perm m).symm))
/-- rows with these names -/
theorem SdsOk.with_names {xs ys : List Sd} (h : SdsOk xs) (hn : ∀ x ∈ xs, x.1 ∈ N8) (e : ys.map (·.1) = xs.map (·.1)) (hr : ∀ y ∈ ys, RowOk y) (l8 : xs.length ≤ 8) : SdsOk ys := by
  have le : ys.length = xs.length := by have := congrArg List.length e; rwa [List.length_map, List.length_map] at this
  refine rows_ok e (fun z hz => ?_) h.nd hr (fun c => h.ne (List.length_eq_zero_iff.mp (by rw [← le, c]; rfl))) (by omega)
  obtain ⟨u, hu, rfl⟩ := List.mem_map.mp hz
  exact hn u hu
theorem paired_set {α β : Type} {R : α → β → Prop} {as : List α} {bs : List β} (h : Paired R as bs) : ∀ (i : Nat) {a : α} {b : β}, R a b → Paired R (as.set i a) (bs.set i b) := by
  induction h with
  | nil => intro i a b _; exact .nil
  | cons r t ih =>
    intro i a b q
    cases i with
    | zero => exact .cons q t
    | succ i => exact .cons r (ih i q)
end E4

set_option Elab.async false
set_option linter.all false
set_option maxRecDepth 100000
set_option maxHeartbeats 1000000
/-! check_walk, inside_out, smooth -/
namespace E4
open PySem PySem.Spec PyProof.Rows L2
open LamX (Tabs ExtN TabB CodeO)
open C8 (Cal Mak Met InsC pe_c pe_mt pe_mt0 call_isC clsBody)
abbrev sWalk : Stmt := top 20
abbrev sInside : Stmt := top 21
def spWalk (C : Addr) : Sp := fun vs H Q _ => ∃ (l a : Addr) (wk : List Str) (ss : List Sd), vs = [.ref l, .ref a] ∧ H l = some (.lst (wk.map V.str)) ∧ wk.Perm (ss.map (·.1)) ∧ PlAt C H a ss ∧ SdsOk ss ∧ ∀ H', Same H H' → Q .non H'
/-- rows with their addresses, in the order of a walk from its inner side -/
def InsideB (H : Hp) (ss : List Sd) (wk : List Str) (A : List (Addr × Sd)) : Prop := A.map (·.2.1) = wk.reverse ∧ ∀ q ∈ A, SdAt H q.1 q.2 ∧ q.2 ∈ ss
section
variable {P : Program} {w : World} {K : PySem.W.Frag} {mg : Str → Option Value} {base : Heap} {C : Addr}
theorem scWalk : FnScope ["walk", "table", "name"] ["walk", "table"] (defScope sWalk) := ⟨rfl, rfl, rfl, by decide +kernel, rfl, by decide +kernel, by decide +kernel⟩
theorem ok_walk {f : Addr} {fd : FuncData} (F : Fun K "check_walk" "check_walk" sWalk f fd) (B : Bl mg) (L : Cal P w K mg base 1 "is_letter" spIsLet []) (Sd_ : Met P w K mg base 1 C "sides" (spSides C) []) (Nm : Cal P w K mg base 1 "names_of" (spNames K) []) : FnOk P w K mg base CX0 2 f fd ["walk", "table"] (spWalk C) := by
  refine F.ok scWalk (fun vs H Q E h => ?_) (fun cdv A outer s H vs Q E hr h => ?_)
  · obtain ⟨l, a, wk, ss, rfl, _⟩ := h
    rfl
  · obtain ⟨l, a, wk, ss, rfl, hl, pm, hp, ok, k⟩ := h
    refine ⟨_, pss_cons (ps_if (PW.pt (pw_or (pt_not (pt_val (pe_callB call_isi (by rfl) B.isi (by decide +kernel) (pa_cons (pv 0) (pa_cons (pe_bltn (v := .ty "list") (by rfl) B.lst_ (by decide +kernel) rfl) pa_nil)))))
        (pw_or1 (pt_not (pt_val (pe_callB (cr_all rfl) (by rfl) B.all_ (by decide +kernel) (pa_cons (pe_lc (own := [("name", 2)]) (g := gName 2) (tt := tYes) (te := tCall spIsLet [] C8.E0 (tCons (tVar 2) tNil)) rfl scWalk.nd (pi_list (pv 0))
        (blkOk_by (own := [("name", 2)]) (N := ["walk", "table", "name"]) (sc := defScope sWalk) (by decide +kernel))
        (fun _ _ _ _ _ => pg_name (i := 2) scWalk.nd rfl (Or.inl rfl)) (fun _ _ _ _ _ => pts_nil) (fun _ _ _ _ _ => by exact pe_c L hr (by decide) rfl (pa_cons (pv 2) pa_nil))) pa_nil))))))) (pss_one ps_never) pss_nil)
      (pss_one (ps_if (pt_cmpR (op_neD hr.units) (pe_callB cr_sortedS (by rfl) B.srt_ (by decide +kernel) (pa_cons (pv 0) pa_nil)) (pe_callB cr_sortedS (by rfl) B.srt_ (by decide +kernel) (pa_cons (pe_c Nm hr (by decide) rfl (pa_cons (pe_mt0 Sd_ hr (by decide) (pv 1)) pa_nil)) pa_nil)) (by rfl)) (pss_one ps_never) pss_nil)), ?_⟩
    have hlen : wk.length ≤ 16 := by rw [pm.length_eq, List.length_map]; exact ok.len
    have hlet : ∀ z ∈ wk, LetOk z := fun z hz => by
      obtain ⟨x, hx, rfl⟩ := List.mem_map.mp (pm.mem_iff.mp hz)
      exact (ok.ok x hx).1
    refine ⟨_, rfl, _, _, _, _, true, rfl, .ty "list", .base (.lst hl), kit_ll, true, rfl, iteF ?_⟩
    refine ⟨_, rfl, l, rfl, ⟨_, SqL.of hl⟩, fun D nD => lc_it (walk_list (xs := wk.map V.str)) (fun i H' => Same H H' ∧ H' D = some (.lst (List.replicate i (V.bl true)))) ⟨Same.upd nD, upd_same⟩ (fun i H' _ q => SqL.of (q.1 _ _ hl)) ?_ ?_⟩
    · rintro i x H2 H3 hi ⟨S, hD⟩ ⟨rfl, hx2⟩
      rw [List.length_map] at hi
      rw [List.getElem?_map] at hx2
      obtain ⟨z, hzz, rfl⟩ := Option.map_eq_some_iff.mp hx2
      refine ⟨rfl, iteT (B := False) ⟨_, rfl, z, rfl, hlet z (List.mem_of_getElem? hzz), fun H4 S4 => ⟨_, S4 _ _ hD, ?_, ?_, ?_⟩⟩⟩
      · rw [List.length_replicate, sizeLine_eq]
        omega
      · intro b o hb
        rw [upd_ne (ne_of_none hb nD)]
        exact S4 _ _ (S _ _ hb)
      · rw [upd_same, List.replicate_succ']
    · rintro H2 ⟨S2, hD⟩
      rw [List.length_map] at hD
      refine ⟨D, List.replicate wk.length true, rfl, SqL.of (by rw [List.map_replicate]; exact hD), ?_⟩
      rw [all_true]
      refine ⟨true, rfl, ifF rfl ?_⟩
      dsimp only [tNext]
      have hl2 := S2 _ _ hl
      refine ⟨_, rfl, l, wk, rfl, SqL.of hl2, by omega, fun ys q pmy so nq => ?_⟩
      have e1 := sortT_one pmy so
      subst e1
      have S3 : Same H2 (upd H2 q (.lst ((sortT wk).map V.str))) := Same.upd nq
      obtain ⟨dx, l0, ts0, ha, hl0, hx0⟩ := id hp
      refine ⟨_, rfl, a, dx, _, rfl, S3 _ _ (S2 _ _ ha), rfl, a, ss, rfl, hp.same (S2.trans S3), ok, fun H4 p ts S4 np hpp hx => ?_⟩
      refine ⟨p, ts, ss, rfl, SqL.of hpp, hx, by have := ok.len; omega, fun H5 r S5 nr hr5 => ?_⟩
      refine ⟨r, ss.map (·.1), rfl, SqL.of hr5, by rw [List.length_map]; have := ok.len; omega, fun zs u pmz so2 nu => ?_⟩
      have e2 := sortT_one pmz so2
      subst e2
      have S6 : Same H5 (upd H5 u (.lst ((sortT (ss.map (·.1))).map V.str))) := Same.upd nu
      have S26 := S3.trans (S4.trans (S5.trans S6))
      have hq : upd H5 u (.lst ((sortT (ss.map (·.1))).map V.str)) q = some (.lst ((sortT wk).map V.str)) := S6 _ _ (S5 _ _ (S4 _ _ upd_same))
      refine ⟨.list ((sortT wk).map PyData.str), .list ((sortT (ss.map (·.1))).map PyData.str), .lst (SqL.of hq) (dp_strs _), .lst (SqL.of upd_same) (dp_strs _), shaped_strs _ (fun z hz => strOk_of (hlet z ((sortT_perm _).mem_iff.mp hz))), shaped_strs _ (fun z hz => strOk_of (hlet z (pm.mem_iff.mpr ((sortT_perm _).mem_iff.mp hz)))), _, rfl, ?_⟩
      refine ifF (by rw [eqv_listS, decide_eq_true (sortT_of_perm' pm)]; rfl) ?_
      exact k _ (S2.trans S26)
theorem scInside : FnScope ["table", "walk", "sides", "side", "name"] ["table", "walk"] (defScope sInside) := ⟨rfl, rfl, rfl, by decide +kernel, rfl, by decide +kernel, by decide +kernel⟩
/-- rows by their names -/
def kvR (A : List (Addr × Sd)) : List (Key × V) := A.map fun q => (Sum.inr q.2.1, V.ref q.1)
theorem valV_kvR {n : Str} : ∀ {A : List (Addr × Sd)}, n ∈ A.map (·.2.1) → ∃ q ∈ A, q.2.1 = n ∧ valV (kvR A) (Sum.inr n) = some (.ref q.1)
  | [], h => nomatch h
  | q :: A, h => by
    by_cases c : q.2.1 = n
    · refine ⟨q, List.mem_cons_self, c, ?_⟩
      unfold kvR valV
      rw [List.map_cons, List.find?_cons_of_pos (by simp [c])]
      rfl
    · obtain ⟨r, h1, h2, h3⟩ := valV_kvR (A := A) (n := n) (by
        rw [List.map_cons] at h
        rcases List.mem_cons.mp h with e | e
        · exact absurd e.symm c
        · exact e)
      refine ⟨r, List.mem_cons_of_mem _ h1, h2, ?_⟩
      unfold kvR valV at h3 ⊢
      rw [List.map_cons, List.find?_cons_of_neg (by simpa using c)]
      exact h3
theorem putK_kvR {A : List (Addr × Sd)} {n : Str} {a : Addr} {x : Sd} (e : x.1 = n) (h : n ∉ A.map (·.2.1)) : putK (kvR A) (Sum.inr n) (V.ref a) = kvR (A ++ [(a, x)]) := by
  have : ((kvR A).any fun kv => decide (kv.1 = Sum.inr n)) = false := by
    apply Bool.eq_false_iff.mpr
    intro c
    obtain ⟨kv, h1, h2⟩ := List.any_eq_true.mp c
    unfold kvR at h1
    obtain ⟨q, h3, rfl⟩ := List.mem_map.mp h1
    exact h (List.mem_map.mpr ⟨q, h3, Sum.inr.inj (of_decide_eq_true h2)⟩)
  unfold putK
  rw [this]
  unfold kvR
  rw [List.map_append, List.map_cons, List.map_nil, e]
  rfl
theorem NewTup.same {H H' H2 : Hp} {t : Addr} (h : NewTup H H' t) (S : Same H' H2) : NewTup H H2 t := let ⟨n, u, v, h1, h2, h3⟩ := h; ⟨n, u, v, S _ _ h1, h2, h3⟩
def spInsideN (C : Addr) : Sp := fun vs H Q _ => ∃ (l a : Addr) (wk : List Str) (ss : List Sd), vs = [.ref a, .ref l] ∧ H l = some (.lst (wk.map V.str)) ∧ wk.Perm (ss.map (·.1)) ∧ PlAt C H a ss ∧ SdsOk ss ∧
  ∀ H' p A, Same H H' → H p = none → H' p = some (.lst (A.map fun q => V.ref q.1)) → InsideB H' ss wk A → (∀ q ∈ A, NewTup H H' q.1) → Q (.ref p) H'
theorem ok_insideN {f : Addr} {fd : FuncData} (F : Fun K "inside_out" "inside_out" sInside f fd) (B : Bl mg) (Sd_ : Met P w K mg base 1 C "sides" (spSidesN C) []) : FnOk P w K mg base CX0 2 f fd ["table", "walk"] (spInsideN C) := by
  refine F.ok scInside (fun vs H Q E h => ?_) (fun cdv A outer s H vs Q E hr h => ?_)
  · obtain ⟨l, a, wk, ss, rfl, _⟩ := h
    rfl
  · obtain ⟨l, a, wk, ss, rfl, hl, pm, hp, ok, k⟩ := h
    refine ⟨_, pss_cons (ps_set (i := 2) scInside.nd rfl (Or.inr rfl) (pe_dc (own := [("side", 3)]) (g := gName 3) (tt := tYes) (tk := tOp (rIxT K) (tVar 3) (tC (.int 0))) (tv := tVar 3) rfl scInside.nd (pi_list (pe_mt0 Sd_ hr (by decide) (pv 0)))
        (blkOk_by (own := [("side", 3)]) (N := ["table", "walk", "sides", "side", "name"]) (sc := defScope sInside) (by decide +kernel))
        (fun _ _ _ _ _ => pg_name (i := 3) scInside.nd rfl (Or.inl rfl)) (fun _ _ _ _ _ => pts_nil) (fun _ _ _ _ _ => by exact pe_ix ix_tup (pv 3) pe_int (fun _ _ => rfl)) (fun _ _ _ _ _ => pv 3)))
      (pss_one (ps_ret (pe_lc (own := [("name", 4)]) (g := gName 4) (tt := tYes) (te := tDGet (tVar 2) (tVar 4)) rfl scInside.nd (pi_reversed (by rfl) B.rev_ (pa_cons (pv 1) pa_nil))
        (blkOk_by (own := [("name", 4)]) (N := ["table", "walk", "sides", "side", "name"]) (sc := defScope sInside) (by decide +kernel))
        (fun _ _ _ _ _ => pg_name (i := 4) scInside.nd rfl (Or.inl rfl)) (fun _ _ _ _ _ => pts_nil) (fun _ _ _ _ _ => by exact pe_dget (Nat.lt_of_le_of_lt (Nat.add_le_add_left (by decide : 1 ≤ 64) _) hr.units) (pv 2) (pv 4) (fun _ _ => rfl))))), ?_⟩
    have hlen : wk.length ≤ 16 := by rw [pm.length_eq, List.length_map]; exact ok.len
    have slen := ok.len
    obtain ⟨dx, l0, ts0, ha, hl0, hx0⟩ := id hp
    refine seq_asg ?_
    refine ⟨_, rfl, a, dx, _, rfl, ha, rfl, a, ss, rfl, hp, ok, fun H1 p ts S1 np hpp hx hnw => ?_⟩
    refine ⟨p, rfl, ⟨_, SqL.of hpp⟩, fun D nD => ?_⟩
    have lt := hx.length
    have hz : ∀ (i : Nat) (t : Addr) (y : Sd), ts[i]? = some t → ss[i]? = some y → (ts.zip ss)[i]? = some (t, y) := fun i t y h1 h2 => by rw [List.getElem?_zip_eq_some]; exact ⟨h1, h2⟩
    have zn : (ts.zip ss).map (fun q : Addr × Sd => q.2.1) = ss.map (·.1) := by
      have : (ts.zip ss).map (fun q : Addr × Sd => q.2.1) = ((ts.zip ss).map (·.2)).map (·.1) := by rw [List.map_map]; rfl
      rw [this, List.map_snd_zip (by omega)]
    have hin : ∀ q ∈ ts.zip ss, (SdAt H1 q.1 q.2 ∧ NewTup H H1 q.1) ∧ q.2 ∈ ss := fun q hq => by
      obtain ⟨i, hi⟩ := List.mem_iff_getElem?.mp hq
      rw [List.getElem?_zip_eq_some] at hi
      obtain ⟨y, hy, r⟩ := paired_at hx hi.1
      rw [hi.2] at hy
      cases hy
      exact ⟨⟨r, hnw _ (List.mem_of_getElem? hi.1)⟩, List.mem_of_getElem? hi.2⟩
    generalize hA : ts.zip ss = A at hz zn hin
    have lA : A.length = ss.length := by rw [← hA, List.length_zip]; omega
    let w := walk_list (K := K) (a := p) (xs := ts.map V.ref)
    let Pv : Nat → Hp → Prop := fun i H' => Same H1 H' ∧ H' D = some (.dK (kvR (A.take i)))
    refine ⟨fun i m H => m = ts.length - i ∧ i ≤ ts.length ∧ Pv i H, ⟨ts.length, by simp, Nat.zero_le _, Same.upd nD, upd_same⟩, ?_⟩
    rintro i m H2 ⟨rfl, hi, S2, hD⟩
    have q : SqL K H2 p (ts.map V.ref) := SqL.of (S2 _ _ hpp)
    by_cases hlt : i < ts.length
    · refine .inr ⟨w.goes i H2 (by rw [List.length_map]; exact hlt) q, Pv (i + 1), fun H' p' => ⟨ts.length - (i + 1), by omega, rfl, hlt, p'⟩, fun x H' y => ?_⟩
      obtain ⟨rfl, hxi⟩ := w.yields i H2 x H' (by rw [List.length_map]; exact hlt) q y
      rw [List.getElem?_map] at hxi
      obtain ⟨t, htt, rfl⟩ := Option.map_eq_some_iff.mp hxi
      obtain ⟨y, hy, u, v, h1, h2, h3⟩ := paired_at hx htt
      have e := take_snoc (hz i t y htt hy)
      have nin : y.1 ∉ (A.take i).map (fun q : Addr × Sd => q.2.1) := fun c => by
        have nd : (A.map (fun q : Addr × Sd => q.2.1)).Nodup := by rw [zn]; exact ok.nd
        rw [List.map_take] at c
        obtain ⟨j, hj⟩ := List.mem_iff_getElem?.mp c
        have hj2 : j < i := by
          have := (List.getElem?_eq_some_iff.mp hj).1
          rw [List.length_take] at this
          omega
        rw [List.getElem?_take_of_lt hj2] at hj
        have hk : (A.map (fun q : Addr × Sd => q.2.1))[i]? = some y.1 := by rw [List.getElem?_map, hz i t y htt hy]; rfl
        have := (List.getElem?_inj (i := j) (j := i) (by
          have := (List.getElem?_eq_some_iff.mp hj).1
          exact this) nd).mp (hj.trans hk.symm)
        omega
      refine ⟨rfl, iteT (B := False) ⟨_, rfl, t, _, 0, _, rfl, rfl, SqT.of (S2 _ _ h1), rfl, _, rfl, _, Sum.inr y.1, rfl, hD, ?_, ?_, ?_⟩⟩
      · unfold kvR
        rw [List.length_map, List.length_take, sizeLine_eq]
        omega
      · intro c o ec
        rw [upd_ne (ne_of_none ec nD)]
        exact S2 _ _ ec
      · rw [upd_same, putK_kvR (x := y) rfl nin, e]
    · have ei : i = ts.length := by omega
      subst ei
      have : A.take ts.length = A := List.take_of_length_le (by omega)
      rw [this] at hD
      refine .inl ⟨by have := w.stops H2 q; rw [List.length_map] at this; exact this, ?_⟩
      have S02 := S1.trans S2
      have hl2 := S02 _ _ hl
      dsimp only
      refine ret_of ?_
      refine ⟨_, rfl, l, wk.map V.str, rfl, SqL.of hl2, fun D2 nD2 => ?_⟩
      refine lc_it walk_rev (fun i H' => Same H2 H' ∧ ∃ B : List (Addr × Sd), B.map (·.2.1) = wk.reverse.take i ∧ (∀ q ∈ B, q ∈ A) ∧ H' D2 = some (.lst (B.map fun q => V.ref q.1))) ⟨Same.upd nD2, [], rfl, (fun _ h => nomatch h), upd_same⟩ (fun i H' _ q => SqL.of (q.1 _ _ hl2)) ?_ ?_
      · rintro i v H3 H4 hi ⟨S3, B, b1, b2, hD2⟩ ⟨rfl, hxi⟩
        rw [List.length_map] at hi hxi
        have hr : (wk.map V.str).reverse[i]? = some v := by
          rw [List.getElem?_reverse (by rw [List.length_map]; exact hi), List.length_map]
          exact hxi
        rw [← List.map_reverse, List.getElem?_map] at hr
        obtain ⟨n, hn, rfl⟩ := Option.map_eq_some_iff.mp hr
        have nm : n ∈ A.map (·.2.1) := by
          rw [zn]
          exact pm.mem_iff.mp (List.mem_reverse.mp (List.mem_of_getElem? hn))
        obtain ⟨q, q1, q2, q3⟩ := valV_kvR nm
        have bl : B.length ≤ 16 := by
          have := congrArg List.length b1
          rw [List.length_map, List.length_take, List.length_reverse] at this
          omega
        refine ⟨rfl, iteT (B := False) ⟨_, rfl, _, rfl, D, _, rfl, by rw [← q3]; exact DGet.k (k := Sum.inr n) (S3 _ _ hD), _, hD2, ?_, ?_, B ++ [q], ?_, fun r hr => ?_, ?_⟩⟩
        · rw [List.length_map, sizeLine_eq]; omega
        · intro c o ec
          rw [upd_ne (ne_of_none ec nD2)]
          exact S3 _ _ ec
        · rw [List.map_append, b1, take_snoc hn, List.map_cons, List.map_nil, q2]
        · rcases List.mem_append.mp hr with h | h
          · exact b2 r h
          · rw [List.mem_singleton.mp h]; exact q1
        · rw [upd_same, List.map_append, List.map_cons, List.map_nil]
      · rintro H3 ⟨S3, B, b1, b2, hD2⟩
        rw [List.length_map, ← List.length_reverse, List.take_length] at b1
        exact k H3 D2 B (S02.trans S3) ((S02).free nD2) hD2 ⟨b1, fun q hq => ⟨(hin q (b2 q hq)).1.1.same (S2.trans S3), (hin q (b2 q hq)).2⟩⟩ fun q hq => (hin q (b2 q hq)).1.2.same (S2.trans S3)
end
end E4

set_option Elab.async false
set_option linter.all false
set_option maxRecDepth 100000
set_option maxHeartbeats 1000000
/-! joined -/
namespace E4
open PySem PySem.Spec PyProof.Rows L2
open C8 (Cal Mak Met InsC pe_c pe_mt pe_mt0 call_isC clsBody)
theorem paired_imp {α β : Type} {R R' : α → β → Prop} {as : List α} {bs : List β} (h : Paired R as bs) (k : ∀ a ∈ as, ∀ b, R a b → R' a b) : Paired R' as bs := by
  induction h with
  | nil => exact .nil
  | cons r t ih => exact .cons (k _ List.mem_cons_self _ r) (ih fun a ha => k a (List.mem_cons_of_mem _ ha))
abbrev sJoined : Stmt := top 18
/-- a part of a run: its length, its step -/
abbrev Jn := List Str × List Str
def JnAt (H : Hp) (t : Addr) (j : Jn) : Prop := ∃ a b, H t = some (.tup [.ref a, .ref b]) ∧ H a = some (.lst (j.1.map V.str)) ∧ H b = some (.lst (j.2.map V.str))
theorem JnAt.same {H H' : Hp} {t : Addr} {j : Jn} (h : JnAt H t j) (S : Same H H') : JnAt H' t j := let ⟨a, b, h1, h2, h3⟩ := h; ⟨a, b, S _ _ h1, S _ _ h2, S _ _ h3⟩
/-- the sides that have a length -/
def longJ (xs : List Sd) : List Jn := (xs.filter fun x => decide (0 < x.2.1.length)).map (·.2)
/-- the same, at places that a later change of those in N leaves -/
def JnN (N : List Addr) (H : Hp) (t : Addr) (j : Jn) : Prop := ∃ a b, t ∉ N ∧ a ∉ N ∧ b ∉ N ∧ H t = some (.tup [.ref a, .ref b]) ∧ H a = some (.lst (j.1.map V.str)) ∧ H b = some (.lst (j.2.map V.str))
theorem JnN.off {N : List Addr} {H H' : Hp} {t : Addr} {j : Jn} (h : JnN N H t j) (S : ∀ c o, c ∉ N → H c = some o → H' c = some o) : JnN N H' t j := let ⟨a, b, n1, n2, n3, h1, h2, h3⟩ := h; ⟨a, b, n1, n2, n3, S _ _ n1 h1, S _ _ n2 h2, S _ _ n3 h3⟩
theorem JnN.less {N M : List Addr} {H : Hp} {t : Addr} {j : Jn} (h : JnN N H t j) (S : ∀ c ∈ M, c ∈ N) : JnN M H t j := let ⟨a, b, n1, n2, n3, h1, h2, h3⟩ := h; ⟨a, b, fun z => n1 (S _ z), fun z => n2 (S _ z), fun z => n3 (S _ z), h1, h2, h3⟩
theorem JnN.at {N : List Addr} {H : Hp} {t : Addr} {j : Jn} (h : JnN N H t j) : JnAt H t j := let ⟨a, b, _, _, _, h1, h2, h3⟩ := h; ⟨a, b, h1, h2, h3⟩
/-- the same, of lists that were not there before -/
def JnM (H0 : Hp) (N : List Addr) (H : Hp) (t : Addr) (j : Jn) : Prop := ∃ a b, t ∉ N ∧ a ∉ N ∧ b ∉ N ∧ H t = some (.tup [.ref a, .ref b]) ∧ H a = some (.lst (j.1.map V.str)) ∧ H b = some (.lst (j.2.map V.str)) ∧ H0 a = none ∧ H0 b = none
theorem JnM.off {H0 : Hp} {N : List Addr} {H H' : Hp} {t : Addr} {j : Jn} (h : JnM H0 N H t j) (S : ∀ c o, c ∉ N → H c = some o → H' c = some o) : JnM H0 N H' t j := let ⟨a, b, n1, n2, n3, h1, h2, h3, w⟩ := h; ⟨a, b, n1, n2, n3, S _ _ n1 h1, S _ _ n2 h2, S _ _ n3 h3, w⟩
theorem JnM.less {H0 : Hp} {N M : List Addr} {H : Hp} {t : Addr} {j : Jn} (h : JnM H0 N H t j) (S : ∀ c ∈ M, c ∈ N) : JnM H0 M H t j := let ⟨a, b, n1, n2, n3, h1, h2, h3, w⟩ := h; ⟨a, b, fun z => n1 (S _ z), fun z => n2 (S _ z), fun z => n3 (S _ z), h1, h2, h3, w⟩
theorem JnM.at {H0 : Hp} {N : List Addr} {H : Hp} {t : Addr} {j : Jn} (h : JnM H0 N H t j) : JnAt H t j := let ⟨a, b, _, _, _, h1, h2, h3, _⟩ := h; ⟨a, b, h1, h2, h3⟩
/-- its two lists are new -/
def NewJ (H0 H : Hp) (t : Addr) : Prop := ∃ a b, H t = some (.tup [.ref a, .ref b]) ∧ H0 a = none ∧ H0 b = none
theorem JnM.new {H0 : Hp} {N : List Addr} {H : Hp} {t : Addr} {j : Jn} (h : JnM H0 N H t j) : NewJ H0 H t := let ⟨a, b, _, _, _, h1, _, _, w⟩ := h; ⟨a, b, h1, w⟩
theorem paired_all {α β : Type} {R : α → β → Prop} {p : α → Prop} (k : ∀ a b, R a b → p a) : ∀ {as : List α} {bs : List β}, Paired R as bs → ∀ a ∈ as, p a
  | [], _, _ => fun _ h => absurd h List.not_mem_nil
  | x :: xs, _ :: _, .cons r t => fun a ha => (List.mem_cons.mp ha).elim (fun e => by rw [e]; exact k _ _ r) (paired_all k t a)
theorem not_two {x a b : Addr} (h1 : x ≠ a) (h2 : x ≠ b) : x ∉ [a, b] := by simp [h1, h2]
theorem not_one {x a : Addr} (h1 : x ≠ a) : x ∉ [a] := by simp [h1]
theorem long_one {x : Sd} (h : 0 < x.2.1.length) : longJ [x] = [x.2] := by
  unfold longJ
  rw [List.filter_cons_of_pos (p := fun x : Sd => decide (0 < x.2.1.length)) (decide_eq_true h)]
  rfl
def joinStep (f : List Jn) (x : Jn) : List Jn :=
  match f.getLast? with
  | none => f ++ [x]
  | some y => if sortT (y.1 ++ y.2) = x.2 then f.dropLast ++ [(sortT (y.1 ++ x.1), y.2)] else f ++ [x]
def joinL (xs : List Jn) : List Jn := xs.foldl joinStep []
structure JnOk (n : Nat) (j : Jn) : Prop where
  l1 : ∀ z ∈ j.1, LetOk z
  l2 : ∀ z ∈ j.2, LetOk z
  n1 : j.1.length ≤ n
  n2 : j.2.length ≤ 8
theorem joinStep_len (f : List Jn) (x : Jn) : (joinStep f x).length ≤ f.length + 1 := by
  unfold joinStep
  cases h : f.getLast? with
  | none => simp
  | some y =>
    dsimp only
    split
    · rw [List.length_append, List.length_dropLast]; simp
    · simp
theorem joinStep_ok {n : Nat} {f : List Jn} {x : Jn} (hf : ∀ j ∈ f, JnOk n j) (hx : JnOk 4 x) : ∀ j ∈ joinStep f x, JnOk (n + 4) j := by
  have up : ∀ j ∈ f, JnOk (n + 4) j := fun j hj => ⟨(hf j hj).l1, (hf j hj).l2, by have := (hf j hj).n1; omega, (hf j hj).n2⟩
  have hx' : JnOk (n + 4) x := ⟨hx.l1, hx.l2, by have := hx.n1; omega, hx.n2⟩
  intro j hj
  unfold joinStep at hj
  cases h : f.getLast? with
  | none =>
    rw [h] at hj
    rcases List.mem_append.mp hj with h | h
    · exact up j h
    · rw [List.mem_singleton.mp h]; exact hx'
  | some y =>
    rw [h] at hj
    have yf : y ∈ f := List.mem_of_getLast? h
    dsimp only at hj
    split at hj
    · rcases List.mem_append.mp hj with h | h
      · exact up j ((List.dropLast_sublist f).mem h)
      · rw [List.mem_singleton.mp h]
        refine ⟨fun z hz => ?_, (hf y yf).l2, ?_, (hf y yf).n2⟩
        · rcases List.mem_append.mp ((sortT_perm _).mem_iff.mp hz) with h | h
          · exact (hf y yf).l1 z h
          · exact hx.l1 z h
        · show (sortT (y.1 ++ x.1)).length ≤ _
          rw [length_sortT, List.length_append]
          have := (hf y yf).n1
          have := hx.n1
          omega
    · rcases List.mem_append.mp hj with h | h
      · exact up j h
      · rw [List.mem_singleton.mp h]; exact hx'
theorem joinL_snoc (xs : List Jn) (x : Jn) : joinL (xs ++ [x]) = joinStep (joinL xs) x := by
  unfold joinL
  rw [List.foldl_append]
  rfl
theorem joinL_len : ∀ (xs : List Jn) (i : Nat), (joinL (xs.take i)).length ≤ i
  | xs, 0 => by simp [joinL]
  | xs, i + 1 => by
    have ih := joinL_len xs i
    cases h : xs[i]? with
    | none =>
      have e : xs.take (i + 1) = xs.take i := by
        have := List.getElem?_eq_none_iff.mp h
        rw [List.take_of_length_le (by omega), List.take_of_length_le (by omega)]
      rw [e]
      omega
    | some x =>
      rw [take_snoc h, joinL_snoc]
      have := joinStep_len (joinL (xs.take i)) x
      omega
theorem joinL_ok {xs : List Jn} (h : ∀ x ∈ xs, JnOk 4 x) : ∀ (i : Nat), i ≤ xs.length → ∀ j ∈ joinL (xs.take i), JnOk (4 * i) j
  | 0, _ => fun j hj => by simp [joinL] at hj
  | i + 1, hi => by
    have e : xs[i]? = some xs[i] := List.getElem?_eq_getElem (by omega)
    rw [take_snoc e, joinL_snoc]
    have := joinStep_ok (joinL_ok h i (by omega)) (h _ (List.mem_of_getElem? e))
    rw [show 4 * (i + 1) = 4 * i + 4 from by omega]
    exact this
def spJoined (K : PySem.W.Frag) (C : Addr) : Sp := fun vs H Q _ => ∃ (a l : Addr) (wk : List Str) (ss : List Sd), vs = [.ref a, .ref l] ∧ H l = some (.lst (wk.map V.str)) ∧ wk.Perm (ss.map (·.1)) ∧ PlAt C H a ss ∧ SdsOk ss ∧ (∀ x ∈ ss, x.2.1.length ≤ 4 ∧ x.2.2.length ≤ 8) ∧ ss.length ≤ 8 ∧
  ∀ H' p ts xs, Same H H' → H p = none → H' p = some (.lst (ts.map V.ref)) → Paired (JnAt H') ts (joinL (longJ xs)) → xs.map (·.1) = wk.reverse → (∀ x ∈ xs, x ∈ ss) → (∀ t ∈ ts, NewJ H H' t) → Q (.ref p) H'
section
variable {P : Program} {w : World} {K : PySem.W.Frag} {mg : Str → Option Value} {base : Heap} {C : Addr}
theorem paired_last {R : Addr → Jn → Prop} : ∀ {ts : List Addr} {t : Addr} {js : List Jn}, Paired R (ts ++ [t]) js → ∃ js0 y, js = js0 ++ [y] ∧ Paired R ts js0 ∧ R t y
  | [], t, _, .cons r .nil => ⟨[], _, rfl, .nil, r⟩
  | a :: ts, t, _, .cons r h => by
    obtain ⟨js0, y, rfl, h1, h2⟩ := paired_last h
    exact ⟨_ :: js0, y, rfl, .cons r h1, h2⟩
theorem atI_last {ts : List Addr} {t : Addr} : atI ((ts ++ [t]).map V.ref) (-1) = some (V.ref t) := by
  unfold atI
  rw [List.map_append, List.length_append, List.length_map, List.length_map]
  have e : ixN (ts.length + [t].length) (-1) = some ts.length := by
    unfold ixN
    rw [if_neg (by decide), if_pos (by simp; omega)]
    congr 1
    simp only [List.length_cons, List.length_nil]
    omega
  rw [e]
  simp
theorem cut3 (a x y : V) : cutV [a, x, y] (some 1) none = [x, y] := by rfl
theorem scJoined : FnScope ["table", "walk", "found", "size", "step", "inner", "start", "side"] ["table", "walk"] (defScope sJoined) := ⟨rfl, rfl, rfl, by decide +kernel, rfl, by decide +kernel, by decide +kernel⟩
theorem ok_joined {f : Addr} {fd : FuncData} (F : Fun K "joined" "joined" sJoined f fd) (B : Bl mg) (Ct : Cal P w K mg base 1 "check_table" (spCheckT C) []) (Cw : Cal P w K mg base 2 "check_walk" (spWalk C) []) (Io : Cal P w K mg base 2 "inside_out" (spInsideN C) []) : FnOk P w K mg base CX0 3 f fd ["table", "walk"] (spJoined K C) := by
  refine F.ok scJoined (fun vs H Q E h => ?_) (fun cdv A outer s H vs Q E hr h => ?_)
  · obtain ⟨a, l, wk, ss, rfl, _⟩ := h
    rfl
  · obtain ⟨a, l, wk, ss, rfl, hl, pmw, hp, ok, r3, l8, k⟩ := h
    have hu := hr.units
    refine ⟨_, pss_cons (ps_expr (pe_c Ct hr (by decide) rfl (pa_cons (pv 0) pa_nil)))
      (pss_cons (ps_expr (pe_c Cw hr (by decide) rfl (pa_cons (pv 1) (pa_cons (pv 0) pa_nil))))
      (pss_cons (ps_set (i := 2) scJoined.nd rfl (Or.inl rfl) (pe_lstS pa_nil))
      (pss_cons (ps_for PassesOwn.never rfl (pi_list (pe_lc (own := [("side", 7)]) (g := gName 7) (tt := tTest (tOp (rI0 fun i j => .bl (decide (j < i))) (tCB (fun xs H Q => ∃ p ys, xs = [.ref p] ∧ (SqL K H p ys ∨ SqT K H p ys) ∧ Q (.int (ys.length : Nat)) H) (tCons (tOp (rIxT K) (tVar 7) (tC (.int 1))) tNil)) (tC (.int 0)))) (te := tSl (rSlT K) (tVar 7) (tPart (tC (.int 1))) tNoPart) rfl scJoined.nd (pi_list (pe_c Io hr (by decide) rfl (pa_cons (pv 0) (pa_cons (pv 1) pa_nil))))
          (blkOk_by (own := [("side", 7)]) (N := ["table", "walk", "found", "size", "step", "inner", "start", "side"]) (sc := defScope sJoined) (by decide +kernel))
          (fun _ _ _ _ _ => pg_name (i := 7) scJoined.nd rfl (Or.inl rfl))
          (fun _ _ _ _ _ => by exact pts_one (pt_cmpR op_gt (pe_callB call_len_seq (by rfl) B.len_ PySem.boot_len (pa_cons (pe_ix ix_tup (pv 7) pe_int (fun _ _ => rfl)) pa_nil)) pe_int (by rfl)))
          (fun _ _ _ _ _ => pe_slice sl_tup (pv 7) (po_some pe_int) po_none)))
        (pg_tup rfl (pgs_cons (pg_name (i := 3) scJoined.nd rfl (Or.inl rfl)) (pgs_cons (pg_name (i := 4) scJoined.nd rfl (Or.inl rfl)) pgs_nil)))
        (pss_one (ps_if (PW.pt (pw_and (pt_cmpR op_gt (pe_callB call_len_seq (by rfl) B.len_ PySem.boot_len (pa_cons (pv 2) pa_nil)) pe_int (by rfl))
            (pw_and1 (pt_cmpR (op_eqD hr.units) (pe_callB cr_sortedS (by rfl) B.srt_ (by decide +kernel) (pa_cons (pe_op op_catS (pe_ix ix_tup (pe_ix ix_list (pv 2) (pe_un un_neg pe_int) (fun _ _ => rfl)) pe_int (fun _ _ => rfl)) (pe_ix ix_tup (pe_ix ix_list (pv 2) (pe_un un_neg pe_int) (fun _ _ => rfl)) pe_int (fun _ _ => rfl))) pa_nil)) (pv 4) (by rfl)))))
          (pss_cons (ps_asg (pe_bm0 PySem.F.plainAttrs_list PySem.F.slot_list_pop PySem.F.type_list_pop mt_pop (pv 2)) (pg_tup (by rfl) (pgs_cons (pg_name (i := 5) scJoined.nd rfl (Or.inl rfl)) (pgs_cons (pg_name (i := 6) scJoined.nd rfl (Or.inl rfl)) pgs_nil))))
          (pss_one (ps_expr (pe_bm PySem.F.plainAttrs_list PySem.F.slot_list_append PySem.F.type_list_append mt_append (pv 2) (pa_cons (pe_tupS (pa_cons (pe_callB cr_sortedS (by rfl) B.srt_ (by decide +kernel) (pa_cons (pe_op op_catS (pv 5) (pv 3)) pa_nil)) (pa_cons (pv 6) pa_nil))) pa_nil)))))
          (pss_one (ps_expr (pe_bm PySem.F.plainAttrs_list PySem.F.slot_list_append PySem.F.type_list_append mt_append (pv 2) (pa_cons (pe_tupS (pa_cons (pv 3) (pa_cons (pv 4) pa_nil))) pa_nil)))))))
      (pss_one (ps_ret (pv 2)))))), ?_⟩
    obtain ⟨dx, l0, ts0, ha, hl0, hx0⟩ := id hp
    refine ⟨_, rfl, a, dx, _, rfl, ha, ?_⟩
    dsimp only
    refine ⟨_, rfl, _, rfl, l, a, wk, ss, rfl, hl, pmw, hp, ok, fun H1 S1 => ?_⟩
    dsimp only
    refine seq_asg ⟨by show 0 ≤ sizeLine; decide, fun fo H2 S2 nfo hfo => ?_⟩
    have S02 := S1.trans S2
    refine ⟨_, rfl, _, rfl, l, a, wk, ss, rfl, S02 _ _ hl, pmw, hp.same S02, ok, fun H3 sd A S3 nsd hsd inB inN => ?_⟩
    obtain ⟨iA, iB⟩ := inB
    let xs : List Sd := A.map (·.2)
    have lA : A.length ≤ 8 := by
      have := congrArg List.length iA
      rw [List.length_map, List.length_reverse, pmw.length_eq, List.length_map] at this
      omega
    have iA2 : xs.map (·.1) = wk.reverse := by rw [List.map_map]; exact iA
    have iB2 : ∀ x ∈ xs, x ∈ ss := fun x hx => by
      obtain ⟨q, hq, rfl⟩ := List.mem_map.mp hx
      exact (iB q hq).2
    have S03 := S02.trans S3
    refine ⟨sd, rfl, ⟨_, SqL.of hsd⟩, fun D nD => ?_⟩
    refine lc_it (walk_list (xs := A.map fun q => V.ref q.1)) (fun i H' => Same H3 H' ∧ ∃ us, H' D = some (.lst (us.map V.ref)) ∧ us.length ≤ i ∧ Paired (JnM H [fo, D] H') us (longJ ((A.map (·.2)).take i))) ⟨Same.upd nD, [], upd_same, Nat.le_refl _, .nil⟩ (fun i H' _ q => SqL.of (q.1 _ _ hsd)) ?_ ?_
    · rintro i v Ha Hb hi ⟨Sa, us, hD, hlu, hys⟩ ⟨rfl, hx2⟩
      rw [List.length_map] at hi
      rw [List.getElem?_map] at hx2
      obtain ⟨q, hq, rfl⟩ := Option.map_eq_some_iff.mp hx2
      obtain ⟨⟨u, v, h1, h2, h3⟩, hm⟩ := iB q (List.mem_of_getElem? hq)
      have hq2 : (A.map (·.2))[i]? = some q.2 := by rw [List.getElem?_map, hq]; rfl
      have e : (A.map (·.2)).take (i + 1) = (A.map (·.2)).take i ++ [q.2] := take_snoc hq2
      have hlj : longJ ((A.map (·.2)).take (i + 1)) = longJ ((A.map (·.2)).take i) ++ longJ [q.2] := by unfold longJ; rw [e, List.filter_append, List.map_append]
      refine ⟨rfl, _, rfl, q.1, _, 1, _, rfl, rfl, SqT.of (Sa _ _ h1), rfl, u, _, rfl, .inl (SqL.of (Sa _ _ h2)), ?_⟩
      rw [List.length_map]
      refine ⟨_, _, rfl, rfl, _, rfl, ?_⟩
      refine iteD (fun h0 => ?_) (fun h0 => ?_)
      · refine ⟨_, rfl, 1, rfl, q.1, _, rfl, SqT.of (Sa _ _ h1), (fun h => absurd (show HT.sIx 3 0 (some 1) = 0 from h.1) (by decide)), fun p np => ?_⟩
        have S1b : Same Hb (upd Hb p (.tup [.ref u, .ref v])) := Same.upd np
        rw [cut3]
        have hp : (upd Hb p (.tup [.ref u, .ref v])) p = some (.tup [.ref u, .ref v]) := upd_same
        generalize upd Hb p (.tup [.ref u, .ref v]) = Hc at S1b hp ⊢
        have hDc := S1b _ _ hD
        have pD : p ≠ D := ne_of hp hDc (by intro z; cases z)
        have uD : u ≠ D := ne_of_none h2 nD
        have vD : v ≠ D := ne_of_none h3 nD
        have off : ∀ {c : Addr} {o u : HO}, c ≠ D → Hc c = some o → (upd Hc D u) c = some o := fun n e => by rw [upd_ne n]; exact e
        obtain ⟨n9, u9, v9, r1, r2, r3⟩ := inN q (List.mem_of_getElem? hq)
        rw [h1] at r1
        cases r1
        have fo3 := S3 _ _ hfo
        have pf : p ≠ fo := ne_of hp (S1b _ _ (Sa _ _ fo3)) (by intro z; cases z)
        have uf : u ≠ fo := (ne_of_none hfo r2).symm
        have vf : v ≠ fo := (ne_of_none hfo r3).symm
        have Sd2 : ∀ (z : V) c o, c ∉ [fo, D] → Hb c = some o → (upd Hc D (.lst (us.map V.ref ++ [z]))) c = some o := fun z c o n e => off (fun w => n (by simp [w])) (S1b _ _ e)
        refine ⟨_, hDc, by rw [List.length_map, sizeLine_eq]; omega, fun c o e => off (ne_of_none e nD) (S1b _ _ (Sa _ _ e)), us ++ [p], by rw [upd_same, List.map_append]; rfl, by rw [List.length_append]; simp; omega, ?_⟩
        rw [hlj, long_one (by omega)]
        exact paired_snoc (paired_imp hys fun t _ x z => z.off (Sd2 _)) ⟨u, v, not_two pf pD, not_two uf uD, not_two vf vD, off pD hp, off uD (S1b _ _ (Sa _ _ h2)), off vD (S1b _ _ (Sa _ _ h3)), S02.free r2, S02.free r3⟩
      · refine ⟨Sa, us, hD, by omega, ?_⟩
        rw [hlj]
        have : longJ [q.2] = [] := by
          unfold longJ
          rw [List.filter_cons_of_neg (by
            rw [decide_eq_true_iff]
            omega)]
          rfl
        rw [this, List.append_nil]
        exact hys
    · rintro H4 ⟨S4, us, hD, hlu, hys⟩
      rw [List.length_map] at hys hlu
      rw [List.take_of_length_le (by rw [List.length_map]; exact Nat.le_refl _)] at hys
      have fo3 := S3 _ _ hfo
      have fo4 := S4 _ _ fo3
      have Df : D ≠ fo := (ne_of_none fo3 nD).symm
      have nfo0 : H fo = none := S1.free nfo
      have okJ : ∀ x ∈ longJ xs, JnOk 4 x := fun x hx => by
        obtain ⟨y, hy, rfl⟩ := List.mem_map.mp hx
        have ym := iB2 y (List.mem_filter.mp hy).1
        obtain ⟨o1, o2, o3, o4, o5⟩ := ok.ok y ym
        exact ⟨o2, o3, (r3 y ym).1, (r3 y ym).2⟩
      have lus : us.length = (longJ xs).length := hys.length
      have hys4 : Paired (JnM H [fo] H4) us (longJ xs) := paired_imp hys fun t _ x z => z.less (by simp)
      refine ⟨D, rfl, ⟨_, SqL.of hD⟩, for_it (walk_list (xs := us.map V.ref)) (fun i σ' H' => ∃ f3 f4 f5 f6 ts, σ' = [some (.ref a), some (.ref l), some (.ref fo), f3, f4, f5, f6, none] ∧ (∀ c o, c ∉ [fo] → H4 c = some o → H' c = some o) ∧ H' fo = some (.lst (ts.map V.ref)) ∧ Paired (JnM H [fo] H') ts (joinL ((longJ xs).take i))) ⟨none, none, none, none, [], rfl, fun _ _ _ e => e, fo4, .nil⟩ (fun i σ' H' _ q => let ⟨_, _, _, _, _, _, S, _⟩ := q; SqL.of (S _ _ (not_one Df) hD)) ?_ ?_⟩
      · rintro i v σ' H5 H6 hi ⟨f3, f4, f5, f6, ts, rfl, S5, hf, hts⟩ ⟨rfl, hxi⟩
        rw [List.length_map] at hi
        rw [List.getElem?_map] at hxi
        obtain ⟨t, htt, rfl⟩ := Option.map_eq_some_iff.mp hxi
        obtain ⟨x, hx, u, v, nt, nu, nv, h1, h2, h3, wu, wv⟩ := paired_at hys4 htt
        refine ⟨t, _, rfl, SqT.of (S5 _ _ nt h1), rfl, _, _, rfl, _, _, rfl, rfl, ?_⟩
        refine ⟨_, rfl, fo, _, rfl, .inl (SqL.of hf), _, _, rfl, rfl, _, rfl, ?_⟩
        have ej : joinL ((longJ xs).take (i + 1)) = joinStep (joinL ((longJ xs).take i)) x := by rw [take_snoc hx, joinL_snoc]
        have il : i < (longJ xs).length := (List.getElem?_eq_some_iff.mp hx).1
        have i8 : i < 8 := by
          have h1 : (longJ xs).length ≤ xs.length := by
            unfold longJ
            rw [List.length_map]
            exact List.length_filter_le _ _
          have h2 : xs.length = A.length := List.length_map ..
          omega
        have okI := joinL_ok okJ i (by omega)
        have lj : ts.length ≤ i := by rw [hts.length]; exact joinL_len _ i
        have okx := okJ x (List.mem_of_getElem? hx)
        rw [List.length_map, ej]
        generalize joinL ((longJ xs).take i) = js at hts okI ⊢
        have h2' := S5 _ _ nu h2
        have h3' := S5 _ _ nv h3
        have plain : ∀ (y3 y4 : Option V), js.getLast? = none ∨ (∃ y, js.getLast? = some y ∧ sortT (y.1 ++ y.2) ≠ x.2) → joinStep js x = js ++ [x] := fun _ _ h => by
          unfold joinStep
          rcases h with h | ⟨y, h, n⟩
          · rw [h]
          · rw [h]
            dsimp only
            rw [if_neg n]
        rcases List.eq_nil_or_concat ts with e | ⟨ts0, t0, e⟩
        · subst e
          cases hts
          refine ifF (by decide) (ifF rfl ?_)
          refine ⟨_, rfl, .inl ⟨rfl, _, SqL.of hf⟩, _, rfl, _, rfl, by show 2 ≤ sizeLine; decide, fun p H7 S7 np hp7 => ?_⟩
          have pf : p ≠ fo := ne_of hp7 (S7 _ _ hf) (by intro z; cases z)
          refine ⟨fo, _, _, rfl, rfl, S7 _ _ hf, by show 0 < sizeLine; decide, _, _, f5, f6, [p], rfl, fun c o n e => ?_, upd_same, ?_⟩
          · rw [upd_ne (fun z => n (by simp [z]))]
            exact S7 _ _ (S5 _ _ n e)
          · rw [plain (some (.ref u)) (some (.ref v)) (.inl rfl)]
            have o1 : u ≠ fo := fun z => nu (by simp [z])
            have o2 : v ≠ fo := fun z => nv (by simp [z])
            exact .cons ⟨u, v, not_one pf, nu, nv, by rw [upd_ne pf]; exact hp7, by rw [upd_ne o1]; exact S7 _ _ h2', by rw [upd_ne o2]; exact S7 _ _ h3', wu, wv⟩ .nil
        · rw [List.concat_eq_append] at e
          subst e
          obtain ⟨js0, y, rfl, hts0, hy⟩ := paired_last hts
          obtain ⟨a0, b0, m1, m2, m3, g1, g2, g3, wa0, wb0⟩ := id hy
          have oky := okI y (by simp)
          refine ifT (by rw [List.length_append]; simp) ?_
          have e1 : atI ((ts0 ++ [t0]).map V.ref) (-1) = some (V.ref t0) := by rw [atI_last]
          refine ⟨_, rfl, _, rfl, fo, _, -1, _, rfl, rfl, SqL.of hf, e1, t0, _, 0, _, rfl, rfl, SqT.of g1, rfl, ?_⟩
          refine ⟨_, rfl, _, rfl, fo, _, -1, _, rfl, rfl, SqL.of hf, e1, t0, _, 1, _, rfl, rfl, SqT.of g1, rfl, ?_⟩
          have ly1 := oky.n1
          have ly2 := oky.n2
          refine ⟨a0, b0, _, _, rfl, rfl, g2, g3, by rw [List.length_map, List.length_map, sizeLine_eq]; omega, fun c H7 S7 nc hc => ?_⟩
          rw [← List.map_append] at hc
          refine ⟨c, y.1 ++ y.2, rfl, SqL.of hc, by rw [List.length_append]; omega, fun ys q pm so nq => ?_⟩
          have eys := sortT_one pm so
          subst eys
          have S8 : Same H7 (upd H7 q (.lst ((sortT (y.1 ++ y.2)).map V.str))) := Same.upd nq
          have S68 := S7.trans S8
          have oka : ∀ z ∈ sortT (y.1 ++ y.2), PyData.strOk z = true := fun z hz => strOk_of ((List.mem_append.mp ((sortT_perm _).mem_iff.mp hz)).elim (oky.l1 z) (oky.l2 z))
          have okb : ∀ z ∈ x.2, PyData.strOk z = true := fun z hz => strOk_of (okx.l2 z hz)
          refine ⟨_, rfl, .list ((sortT (y.1 ++ y.2)).map PyData.str), .list (x.2.map PyData.str), .lst (SqL.of upd_same) (dp_strs _), .lst (SqL.of (S68 _ _ h3')) (dp_strs _), shaped_strs _ oka, shaped_strs _ okb, _, rfl, ?_⟩
          rw [eqv_listS]
          generalize upd H7 q (.lst ((sortT (y.1 ++ y.2)).map V.str)) = H8 at S8 S68 ⊢
          have hf8 := S68 _ _ hf
          refine iteD (fun ce => ?_) (fun ce => ?_)
          · have lp : ((ts0 ++ [t0]).map V.ref).length = ts0.length + 1 := by rw [List.length_map, List.length_append]; rfl
            refine ⟨_, rfl, .inl ⟨rfl, _, SqL.of hf8⟩, fo, _, V.ref t0, rfl, rfl, hf8, by rw [lp, List.map_append]; simp, ?_⟩
            rw [List.map_append, List.map_cons, List.map_nil, List.dropLast_concat]
            have m1' : t0 ≠ fo := fun z => m1 (by simp [z])
            have m2' : a0 ≠ fo := fun z => m2 (by simp [z])
            have m3' : b0 ≠ fo := fun z => m3 (by simp [z])
            have S6u : ∀ c o, c ∉ [fo] → H6 c = some o → upd H8 fo (.lst (ts0.map V.ref)) c = some o := fun c o n e => by rw [upd_ne (fun z => n (by simp [z]))]; exact S68 _ _ e
            have hfu : upd H8 fo (.lst (ts0.map V.ref)) fo = some (.lst (ts0.map V.ref)) := upd_same
            generalize upd H8 fo (.lst (ts0.map V.ref)) = H9 at S6u hfu ⊢
            refine ⟨t0, _, rfl, SqT.of (S6u _ _ m1 g1), rfl, _, _, rfl, _, _, rfl, rfl, ?_⟩
            refine ⟨_, rfl, .inl ⟨rfl, _, SqL.of hfu⟩, _, rfl, _, rfl, a0, u, _, _, rfl, rfl, S6u _ _ m2 g2, S6u _ _ nu h2', by rw [List.length_map, List.length_map, sizeLine_eq]; have := okx.n1; omega, fun e H10 S10 ne he => ?_⟩
            rw [← List.map_append] at he
            refine ⟨e, y.1 ++ x.1, rfl, SqL.of he, by rw [List.length_append]; have := okx.n1; omega, fun ys2 q2 pm2 so2 nq2 => ?_⟩
            have eys2 := sortT_one pm2 so2
            subst eys2
            have S11 : Same H10 (upd H10 q2 (.lst ((sortT (y.1 ++ x.1)).map V.str))) := Same.upd nq2
            have hq2 : upd H10 q2 (.lst ((sortT (y.1 ++ x.1)).map V.str)) q2 = some (.lst ((sortT (y.1 ++ x.1)).map V.str)) := upd_same
            have q2n : H q2 = none := by
              cases hz : H q2 with
              | none => rfl
              | some o =>
                have nf := not_one (ne_of_none hz nfo0)
                have := S10 _ _ (S6u q2 o nf (S5 _ _ nf (S4 _ _ (S03 _ _ hz))))
                rw [nq2] at this
                cases this
            have q2f : q2 ≠ fo := (ne_of_none (S10 _ _ hfu) nq2).symm
            generalize upd H10 q2 (.lst ((sortT (y.1 ++ x.1)).map V.str)) = H11 at S11 hq2 ⊢
            refine ⟨_, rfl, by show 2 ≤ sizeLine; decide, fun p H12 S12 np hp12 => ?_⟩
            have S912 : Same H9 H12 := S10.trans (S11.trans S12)
            have hf12 := S912 _ _ hfu
            have pf : p ≠ fo := ne_of hp12 hf12 (by intro z; cases z)
            have ll : (ts0.map V.ref).length < sizeLine := by rw [List.length_append] at lj; rw [List.length_map, sizeLine_eq]; omega
            have S612 : ∀ (z : V) c o, c ∉ [fo] → H6 c = some o → upd H12 fo (.lst (ts0.map V.ref ++ [z])) c = some o := fun z c o n e => by rw [upd_ne (fun z => n (by simp [z]))]; exact S912 _ _ (S6u _ _ n e)
            refine ⟨fo, _, _, rfl, rfl, hf12, ll, _, _, some (.ref a0), some (.ref b0), ts0 ++ [p], rfl, fun c o n e => S612 _ _ _ n (S5 _ _ n e), by rw [upd_same, List.map_append]; rfl, ?_⟩
            have ej2 : joinStep (js0 ++ [y]) x = js0 ++ [(sortT (y.1 ++ x.1), y.2)] := by
              unfold joinStep
              rw [List.getLast?_concat]
              dsimp only
              rw [if_pos ce, List.dropLast_concat]
            rw [ej2]
            exact paired_snoc (paired_imp hts0 fun t _ x z => z.off (S612 _)) ⟨q2, b0, not_one pf, not_one q2f, m3, by rw [upd_ne pf]; exact hp12, by rw [upd_ne q2f]; exact S12 _ _ hq2, S612 _ _ _ m3 g3, q2n, wb0⟩
          · have n1 : sortT (y.1 ++ y.2) ≠ x.2 := fun z => by simp [z] at ce
            refine ⟨_, rfl, .inl ⟨rfl, _, SqL.of hf8⟩, _, rfl, _, rfl, by show 2 ≤ sizeLine; decide, fun p H9 S9 np hp9 => ?_⟩
            have S69 := S68.trans S9
            have pf : p ≠ fo := ne_of hp9 (S9 _ _ hf8) (by intro z; cases z)
            refine ⟨fo, _, _, rfl, rfl, S9 _ _ hf8, by rw [List.length_map, sizeLine_eq]; omega, _, _, f5, f6, ts0 ++ [t0] ++ [p], rfl, fun c o n e => ?_, by rw [upd_same, List.map_append (l₁ := ts0 ++ [t0])]; rfl, ?_⟩
            · rw [upd_ne (fun z => n (by simp [z]))]
              exact S69 _ _ (S5 _ _ n e)
            · rw [plain (some (.ref u)) (some (.ref v)) (.inr ⟨y, by simp, n1⟩)]
              have o1 : u ≠ fo := fun z => nu (by simp [z])
              have o2 : v ≠ fo := fun z => nv (by simp [z])
              exact paired_snoc (paired_imp hts fun t _ x z => z.off fun c o n e => by rw [upd_ne (fun z => n (by simp [z]))]; exact S69 _ _ e) ⟨u, v, not_one pf, nu, nv, by rw [upd_ne pf]; exact hp9, by rw [upd_ne o1]; exact S69 _ _ h2', by rw [upd_ne o2]; exact S69 _ _ h3', wu, wv⟩
      · rintro σ' H5 ⟨f3, f4, f5, f6, ts, rfl, S5, hf, hts⟩
        rw [List.length_map, lus, List.take_length] at hts
        refine ⟨_, rfl, ?_⟩
        refine k H5 fo ts xs (fun c o e => S5 c o (not_one (ne_of_none e nfo0)) (S4 _ _ (S03 _ _ e))) nfo0 hf (paired_imp hts fun t _ x z => z.at) iA2 iB2 (paired_all (fun _ _ z => z.new) hts)
end
end E4

set_option Elab.async false
set_option linter.all false
set_option maxRecDepth 100000
set_option maxHeartbeats 1000000
set_option exponentiation.threshold 600
/-! primes -/
namespace E4
open PySem PySem.Spec PyProof.Rows L2
open C8 (Cal Mak Met InsC pe_c pe_mt pe_mt0 call_isC clsBody)
abbrev sPrimes : Stmt := top 22
/-- one of them divides x -/
def Hit (ps : List Int) (x : Int) : Prop := ∃ p ∈ ps, x % p = 0
/-- the least from v on that none of them divides -/
def NextP (ps : List Int) (v x : Int) : Prop := v ≤ x ∧ ¬ Hit ps x ∧ ∀ y, v ≤ y → y < x → Hit ps y
theorem NextP.one {ps : List Int} {v x y : Int} (h : NextP ps v x) (k : NextP ps v y) : x = y := by
  obtain ⟨h1, h2, h3⟩ := h
  obtain ⟨k1, k2, k3⟩ := k
  rcases Int.lt_trichotomy x y with c | c | c
  · exact absurd (k3 x h1 c) h2
  · exact c
  · exact absurd (h3 y k1 c) k2
def lastI (d : Int) (ps : List Int) : Int := ps.getLastD d
def PrimesR (names : List Str) (vl : Vls) : Prop := vl.map (·.1) = names ∧ ∀ (i : Nat) (x : Int), (vl.map (·.2))[i]? = some x → NextP ((vl.map (·.2)).take i) (lastI 2 ((vl.map (·.2)).take i)) x
theorem PrimesR.one {names : List Str} {a b : Vls} (ha : PrimesR names a) (hb : PrimesR names b) : a = b := by
  have la : a.length = names.length := by rw [← ha.1, List.length_map]
  have lb : b.length = names.length := by rw [← hb.1, List.length_map]
  have key : ∀ i, i ≤ names.length → (a.map (·.2)).take i = (b.map (·.2)).take i := by
    intro i
    induction i with
    | zero => intro _; simp
    | succ i ih =>
      intro h
      have e := ih (by omega)
      have ga : (a.map (·.2))[i]? = some ((a.map (·.2))[i]'(by rw [List.length_map]; omega)) := List.getElem?_eq_getElem (by rw [List.length_map]; omega)
      have gb : (b.map (·.2))[i]? = some ((b.map (·.2))[i]'(by rw [List.length_map]; omega)) := List.getElem?_eq_getElem (by rw [List.length_map]; omega)
      have h1 := ha.2 i _ ga
      have h2 := hb.2 i _ gb
      rw [e] at h1
      rw [take_snoc ga, take_snoc gb, e, h1.one h2]
  have k := key names.length (Nat.le_refl _)
  rw [List.take_of_length_le (by rw [List.length_map]; omega), List.take_of_length_le (by rw [List.length_map]; omega)] at k
  have k1 : a.map (·.1) = b.map (·.1) := ha.1.trans hb.1.symm
  have z : ∀ (a b : Vls), a.map (·.1) = b.map (·.1) → a.map (·.2) = b.map (·.2) → a = b := by
    intro a
    induction a with
    | nil => intro b h _; cases b with
      | nil => rfl
      | cons _ _ => cases h
    | cons x a ih => intro b h h'; cases b with
      | nil => cases h
      | cons y b =>
        rw [List.map_cons, List.map_cons] at h h'
        injection h with h1 h2
        injection h' with h3 h4
        rw [ih b h2 h4, Prod.ext h1 h3]
  exact z a b k1 k
theorem prod_dvd : ∀ {ps : List Int} {p : Int}, p ∈ ps → prodI ps % p = 0
  | q :: ps, p, h => by
    show q * prodI ps % p = 0
    rcases List.mem_cons.mp h with e | e
    · rw [e]; exact Int.mul_emod_right _ _
    · rw [Int.mul_emod, prod_dvd e]; simp
theorem prod_ge : ∀ {ps : List Int}, (∀ p ∈ ps, 2 ≤ p) → 1 ≤ prodI ps ∧ ∀ p ∈ ps, p ≤ prodI ps
  | [], _ => ⟨by decide, fun _ h => nomatch h⟩
  | q :: ps, h => by
    obtain ⟨h1, h2⟩ := prod_ge (ps := ps) fun p hp => h p (List.mem_cons_of_mem _ hp)
    have hq := h q List.mem_cons_self
    have e : prodI (q :: ps) = q * prodI ps := rfl
    have k1 : q ≤ q * prodI ps := by
      have := Int.mul_le_mul_of_nonneg_left h1 (show (0 : Int) ≤ q by omega)
      simpa using this
    have k2 : prodI ps ≤ q * prodI ps := by
      have := Int.mul_le_mul_of_nonneg_right (show (1 : Int) ≤ q by omega) (show 0 ≤ prodI ps by omega)
      simpa using this
    rw [e]
    refine ⟨by omega, fun p hp => ?_⟩
    rcases List.mem_cons.mp hp with r | r
    · rw [r]; exact k1
    · exact Int.le_trans (h2 p r) k2
/-- nothing divides the product and one -/
theorem no_hit {ps : List Int} (h : ∀ p ∈ ps, 2 ≤ p) : ¬ Hit ps (prodI ps + 1) := by
  rintro ⟨p, hp, e⟩
  have h2 := h p hp
  rw [Int.add_emod, prod_dvd hp] at e
  have : (1 : Int) % p = 1 := Int.emod_eq_of_lt (by omega) (by omega)
  rw [this] at e
  simp at e
  rw [this] at e
  cases e
theorem PrimesR.snoc {names : List Str} {vl : Vls} {z : Str} {x : Int} (h : PrimesR names vl) (k : NextP (vl.map (·.2)) (lastI 2 (vl.map (·.2))) x) : PrimesR (names ++ [z]) (vl ++ [(z, x)]) := by
  refine ⟨by rw [List.map_append, h.1]; rfl, fun i y hy => ?_⟩
  rw [List.map_append] at hy ⊢
  rcases Nat.lt_or_ge i (vl.map (·.2)).length with c | c
  · rw [List.getElem?_append_left c] at hy
    rw [List.take_append_of_le_length (by omega)]
    exact h.2 i y hy
  · rw [List.getElem?_append_right c] at hy
    have : i - (vl.map (·.2)).length = 0 := by
      rcases Nat.eq_zero_or_pos (i - (vl.map (·.2)).length) with e | e
      · exact e
      · rw [List.getElem?_eq_none (by show 1 ≤ _; omega)] at hy
        cases hy
    rw [this] at hy
    cases hy
    have e : i = (vl.map (·.2)).length := by omega
    subst e
    rw [List.take_append_of_le_length (Nat.le_refl _), List.take_length]
    exact k
theorem PrimesR.nil : PrimesR [] [] := ⟨rfl, fun i x h => by simp at h⟩
theorem last_mem {ps : List Int} : lastI 2 ps = 2 ∨ lastI 2 ps ∈ ps := by
  unfold lastI
  rw [List.getLastD_eq_getLast?]
  cases h : ps.getLast? with
  | none => exact .inl rfl
  | some x => exact .inr (List.mem_of_getLast? h)
/-- what the product of so many comes to at most -/
def bN : Nat → Nat
  | 0 => 1
  | i + 1 => bN i * (bN i + 1)
def P12 : List Int := [2, 3, 5, 7, 11, 13, 17, 19, 23, 29, 31, 37]
def nextB (i : Nat) : Bool := match P12[i]? with
  | none => true
  | some x => decide (lastI 2 (P12.take i) ≤ x) && !((P12.take i).any fun p => decide (x % p = 0)) && (List.range (x - lastI 2 (P12.take i)).toNat).all fun k => (P12.take i).any fun p => decide ((lastI 2 (P12.take i) + (k : Int)) % p = 0)
theorem next12 (i : Nat) (x : Int) (h : P12[i]? = some x) : NextP (P12.take i) (lastI 2 (P12.take i)) x := by
  have hi : i < 12 := (List.getElem?_eq_some_iff.mp h).1
  have all : ((List.range 12).all nextB) = true := by decide +kernel
  have hb := List.all_eq_true.mp all i (List.mem_range.mpr hi)
  unfold nextB at hb
  rw [h] at hb
  simp only [Bool.and_eq_true, decide_eq_true_eq, Bool.not_eq_true', List.all_eq_true, List.mem_range] at hb
  obtain ⟨⟨h1, h2⟩, h3⟩ := hb
  refine ⟨h1, fun ⟨p, hp, e⟩ => ?_, fun y y1 y2 => ?_⟩
  · have := List.any_eq_false.mp h2 p hp
    simp [e] at this
  · have := h3 (y - lastI 2 (P12.take i)).toNat (by omega)
    rw [show lastI 2 (P12.take i) + (((y - lastI 2 (P12.take i)).toNat : Nat) : Int) = y from by omega] at this
    obtain ⟨p, hp, e⟩ := List.any_eq_true.mp this
    exact ⟨p, hp, of_decide_eq_true e⟩
theorem primes12 {names : List Str} {vl : Vls} (h : PrimesR names vl) (l : names.length ≤ 12) : vl.map (·.2) = P12.take names.length := by
  have lv : vl.length = names.length := by rw [← h.1, List.length_map]
  have key : ∀ i, i ≤ names.length → (vl.map (·.2)).take i = P12.take i := by
    intro i
    induction i with
    | zero => intro _; simp
    | succ i ih =>
      intro hi
      have e := ih (by omega)
      have ga : (vl.map (·.2))[i]? = some ((vl.map (·.2))[i]'(by rw [List.length_map]; omega)) := List.getElem?_eq_getElem (by rw [List.length_map]; omega)
      have gb : P12[i]? = some (P12[i]'(by show i < 12; omega)) := List.getElem?_eq_getElem (by show i < 12; omega)
      have h1 := h.2 i _ ga
      have h2 := next12 i _ gb
      rw [e] at h1
      rw [take_snoc ga, take_snoc gb, e, h1.one h2]
  have k := key names.length (Nat.le_refl _)
  rwa [List.take_of_length_le (by rw [List.length_map]; omega)] at k
theorem primes_lt {names : List Str} {vl : Vls} (h : PrimesR names vl) (l : names.length ≤ 12) : ∀ x ∈ vl, 2 ≤ x.2 ∧ x.2 < 2 ^ 400 := by
  intro x hx
  have hm : x.2 ∈ vl.map (·.2) := List.mem_map.mpr ⟨x, hx, rfl⟩
  rw [primes12 h l] at hm
  have := List.mem_of_mem_take hm
  have a : (P12.all fun x => decide (2 ≤ x ∧ x < 2 ^ 400)) = true := by decide +kernel
  exact of_decide_eq_true (List.all_eq_true.mp a _ this)
def spPrimes (K : PySem.W.Frag) : Sp := fun vs H Q _ => ∃ (l : Addr) (names : List Str), vs = [.ref l] ∧ H l = some (.lst (names.map V.str)) ∧ names.Nodup ∧ names.length ≤ 12 ∧
  ∀ H' p vl, Same H H' → H p = none → H' p = some (.dK (dI vl)) → PrimesR names vl → (∀ x ∈ vl, 2 ≤ x.2 ∧ x.2 < 2 ^ 400) → Q (.ref p) H'
section
variable {P : Program} {w : World} {K : PySem.W.Frag} {mg : Str → Option Value} {base : Heap}
theorem scPrimes : FnScope ["names", "values", "worth", "name", "prime"] ["names"] (defScope sPrimes) := ⟨rfl, rfl, rfl, by decide +kernel, rfl, by decide +kernel, by decide +kernel⟩
theorem ok_primes {f : Addr} {fd : FuncData} (F : Fun K "primes" "primes" sPrimes f fd) (B : Bl mg) : FnOk P w K mg base CX0 1 f fd ["names"] (spPrimes K) := by
  refine F.ok scPrimes (fun vs H Q E h => ?_) (fun cdv A outer s H vs Q E hr h => ?_)
  · obtain ⟨l, names, rfl, _⟩ := h
    rfl
  · obtain ⟨l, names, rfl, hl, nd, l8, k⟩ := h
    have ul := Nat.lt_of_le_of_lt (Nat.add_le_add_left (by decide : 1 ≤ 64) _) hr.units
    refine ⟨_, pss_cons (ps_set (i := 1) scPrimes.nd rfl (Or.inl rfl) pe_dnewS)
      (pss_cons (ps_set (i := 2) scPrimes.nd rfl (Or.inr rfl) pe_int)
      (pss_cons (ps_for PassesOwn.never rfl (pi_list (pv 0)) (pg_name (i := 3) scPrimes.nd rfl (Or.inl rfl))
        (pss_cons (ps_while PassesOwn.never (pt_val (pe_callB (cr_any rfl) (by rfl) B.any_ (by decide +kernel) (pa_cons (pe_lock (pe_lc (own := [("prime", 4)]) (g := gName 4) (tt := tYes) (te := tOp rEq (tOp (rI (fun _ j => 0 < j) fun i j => .int (i % j)) (tVar 2) (tVar 4)) (tC (.int 0))) rfl scPrimes.nd (pi_values (pv 1))
          (blkOk_by (own := [("prime", 4)]) (N := ["names", "values", "worth", "name", "prime"]) (sc := defScope sPrimes) (by decide +kernel))
          (fun _ _ _ _ _ => pg_name (i := 4) scPrimes.nd rfl (Or.inl rfl)) (fun _ _ _ _ _ => pts_nil)
          (fun _ _ _ _ _ => by exact pe_cmpR op_eq (pe_op op_mod (pv 2) (pv 4)) pe_int (by rfl)))) pa_nil)))
          (pss_one (ps_set (i := 2) scPrimes.nd rfl (Or.inr rfl) (pe_op op_add (pv 2) pe_int))))
        (pss_one (ps_dput ul (pv 1) (pv 3) (pv 2) rfl))))
      (pss_one (ps_ret (pv 1))))), ?_⟩
    refine seq_asg fun d H1 S1 n1 h1 => ?_
    refine seq_asg ?_
    have nl : l ≠ d := ne_of_none hl n1
    have hl1 := S1 _ _ hl
    refine ⟨_, rfl, l, rfl, ⟨_, SqL.of hl1⟩, for_it (walk_list (xs := names.map V.str)) (fun i σ' H' => ∃ vl u, σ' = [some (.ref l), some (.ref d), some (.int (lastI 2 (vl.map (·.2)))), u, none] ∧ H' d = some (.dK (dI vl)) ∧ PrimesR (names.take i) vl ∧ (∀ p ∈ vl.map (·.2), 2 ≤ p) ∧ prodI (vl.map (·.2)) ≤ (bN i : Nat) ∧ (∀ c o, c ≠ d → H1 c = some o → H' c = some o)) ⟨[], none, rfl, h1, PrimesR.nil, fun _ h => absurd h List.not_mem_nil, by decide, fun _ _ _ e => e⟩ (fun i σ' H' _ q => let ⟨_, _, _, _, _, _, _, S⟩ := q; SqL.of (S _ _ nl hl1)) ?_ ?_⟩
    · rintro i v σ' Hx H2 hi ⟨vl, u, rfl, hd, hP, h2, hb, S2⟩ ⟨rfl, hxi⟩
      rw [List.length_map] at hi
      rw [List.getElem?_map] at hxi
      obtain ⟨z, hz, rfl⟩ := Option.map_eq_some_iff.mp hxi
      let ps := vl.map (·.2)
      have hpos := prod_ge (ps := ps) h2
      have c0 : 2 ≤ lastI 2 ps ∧ lastI 2 ps ≤ prodI ps + 1 := by
        rcases last_mem (ps := ps) with e | e
        · rw [e]; exact ⟨by decide, by have := hpos.1; omega⟩
        · exact ⟨h2 _ e, by have := hpos.2 _ e; omega⟩
      refine ⟨fun m σ' H' => ∃ c : Int, σ' = [some (.ref l), some (.ref d), some (.int c), some (.str z), none] ∧ Same H2 H' ∧ lastI 2 ps ≤ c ∧ c ≤ prodI ps + 1 ∧ (∀ y, lastI 2 ps ≤ y → y < c → Hit ps y) ∧ m = (prodI ps + 1 - c).toNat, ⟨_, _, rfl, fun _ _ e => e, Int.le_refl _, c0.2, fun y h1 h2 => absurd h2 (Int.not_lt.mpr h1), rfl⟩, ?_⟩
      rintro m σ' H3 ⟨c, rfl, S3, k1, k2, k3, rfl⟩
      have hd3 := S3 _ _ hd
      refine ⟨d, .dK (dI vl), hd3, trivial, fun od => ⟨_, rfl, d, od, dI vl, rfl, upd_same, fun D nD => ?_⟩⟩
      have h1k : (upd H3 d (.frz od (.dK (dI vl)))) d = some (.frz od (.dK (dI vl))) := upd_same
      have neD : D ≠ d := by rintro rfl; rw [upd_same] at nD; cases nD
      have back : ∀ Hz, Same (upd H3 d (.frz od (.dK (dI vl)))) Hz → Same H3 (upd Hz d (.dK (dI vl))) := fun Hz S => same_back hd3 S
      generalize upd H3 d (.frz od (.dK (dI vl))) = H4 at h1k nD back ⊢
      have hN : ∀ x ∈ ps.map (fun p => c % p == 0), True := fun _ _ => trivial
      refine lc_it walk_values (fun i H' => Same H4 H' ∧ H' D = some (.lst (((ps.take i).map fun p => c % p == 0).map V.bl))) ⟨Same.upd nD, upd_same⟩ (fun i H' _ q => q.1 _ _ h1k) ?_ ?_
      · rintro i x H5 H6 hi ⟨S, hD⟩ ⟨rfl, kk, hxi⟩
        rw [len_dI] at hi
        have hkv : vl[i]? = some vl[i] := List.getElem?_eq_getElem hi
        unfold dI at hxi
        rw [List.getElem?_map, hkv] at hxi
        cases hxi
        have hpi : ps[i]? = some vl[i].2 := by show (vl.map (·.2))[i]? = _; rw [List.getElem?_map, hkv]; rfl
        have p2 := h2 _ (List.mem_of_getElem? hpi)
        refine ⟨rfl, iteT (B := False) ?_⟩
        refine ⟨_, rfl, _, rfl, c, vl[i].2, rfl, rfl, by omega, ?_⟩
        refine ⟨rfl, _, hD, ?_, ?_, ?_⟩
        · rw [List.length_map, List.length_map, List.length_take, sizeLine_eq]
          have : ps.length = vl.length := List.length_map ..
          have hk : vl.length ≤ 12 := by
            have := congrArg List.length hP.1
            rw [List.length_map, List.length_take] at this
            omega
          omega
        · intro b o hb
          rw [upd_ne (ne_of_none hb nD)]
          exact S _ _ hb
        · rw [dec_int, upd_same, take_snoc hpi, List.map_append, List.map_append]
          rfl
      · rintro H5 ⟨S, hD⟩
        refine ⟨S _ _ h1k, D, ps.map (fun p => c % p == 0), rfl, SqL.of ?_, _, rfl, ?_⟩
        · rw [upd_ne neD]
          rw [len_dI] at hD
          have e : ps.take vl.length = ps := List.take_of_length_le (by show (vl.map (·.2)).length ≤ _; rw [List.length_map]; exact Nat.le_refl _)
          rw [e] at hD
          exact hD
        · have S36 := back H5 S
          generalize upd H5 d (.dK (dI vl)) = H6 at S36 ⊢
          have S26 := S3.trans S36
          by_cases ce : ((ps.map fun p => c % p == 0).any id) = true
          · refine ifT ce ?_
            have hit : Hit ps c := by
              obtain ⟨b, hb, eb⟩ := List.any_eq_true.mp ce
              obtain ⟨p, hp, rfl⟩ := List.mem_map.mp hb
              exact ⟨p, hp, by simpa using eb⟩
            have nc : c ≠ prodI ps + 1 := fun z => no_hit h2 (z ▸ hit)
            refine ⟨fun σ' H' => σ' = [some (.ref l), some (.ref d), some (.int (c + 1)), some (.str z), none] ∧ Same H2 H', fun σ' H' ⟨e1, e2⟩ => ⟨(prodI ps + 1 - (c + 1)).toNat, by omega, c + 1, e1, e2, by omega, by omega, fun y y1 y2 => ?_, rfl⟩, ?_⟩
            · rcases Int.lt_or_le y c with q | q
              · exact k3 y y1 q
              · have : y = c := by omega
                rw [this]; exact hit
            · refine ⟨_, rfl, c, 1, rfl, rfl, rfl, S26⟩
          · refine ifF (Bool.eq_false_iff.mpr ce) ?_
            have nh : ¬ Hit ps c := fun ⟨p, hp, e⟩ => ce (List.any_eq_true.mpr ⟨_, List.mem_map.mpr ⟨p, hp, rfl⟩, by show (c % p == 0) = true; rw [e]; rfl⟩)
            have nx : NextP ps (lastI 2 ps) c := ⟨k1, nh, k3⟩
            have hd6 := S26 _ _ hd
            have lv : vl.length = i := by
              have := congrArg List.length hP.1
              rw [List.length_map, List.length_take] at this
              omega
            have znew : z ∉ vl.map (·.1) := fun q => by
              rw [hP.1] at q
              obtain ⟨j, hj⟩ := List.mem_iff_getElem?.mp q
              have hj2 : j < i := by
                have := (List.getElem?_eq_some_iff.mp hj).1
                rw [List.length_take] at this
                omega
              rw [List.getElem?_take_of_lt hj2] at hj
              have := (List.getElem?_inj (i := j) (j := i) (List.getElem?_eq_some_iff.mp hj).1 nd).mp (hj.trans hz.symm)
              omega
            refine ⟨_, rfl, _, rfl, _, rfl, d, _, rfl, DPut.k (k := Sum.inr z) hd6 (by rw [len_dI, lv, sizeLine_eq]; omega), ?_⟩
            rw [putK_dI, keys_set_new znew]
            have e2 : (vl ++ [(z, c)]).map (·.2) = ps ++ [c] := by rw [List.map_append]; rfl
            have e3 : prodI (ps ++ [c]) = prodI ps * c := by rw [prodI_append]; show prodI ps * (c * 1) = _; rw [Int.mul_one]
            refine ⟨vl ++ [(z, c)], some (.str z), ?_, upd_same, ?_, ?_, ?_, fun q o n e => ?_⟩
            · rw [e2]; unfold lastI; rw [List.getLastD_eq_getLast?, List.getLast?_concat]; rfl
            · rw [take_snoc hz]; exact hP.snoc nx
            · intro p hp
              rw [e2] at hp
              rcases List.mem_append.mp hp with h | h
              · exact h2 p h
              · rw [List.mem_singleton.mp h]; omega
            · rw [e2, e3]
              have hb' : prodI ps ≤ (bN i : Nat) := hb
              have g2 : prodI ps * c ≤ prodI ps * ((bN i : Nat) + 1) := Int.mul_le_mul_of_nonneg_left (by omega) (by have := hpos.1; omega)
              have g3 : prodI ps * (((bN i : Nat) : Int) + 1) ≤ ((bN i : Nat) : Int) * (((bN i : Nat) : Int) + 1) := Int.mul_le_mul_of_nonneg_right hb' (by omega)
              have g4 : ((bN (i + 1) : Nat) : Int) = ((bN i : Nat) : Int) * (((bN i : Nat) : Int) + 1) := by show ((bN i * (bN i + 1) : Nat) : Int) = _; push_cast; rfl
              rw [g4]
              omega
            · rw [upd_ne n]; exact S26 _ _ (S2 q o n e)
    · rintro σ' H2 ⟨vl, u, rfl, hd, hP, h2, hb, S2⟩
      rw [List.length_map, List.take_length] at hP
      exact ⟨_, rfl, k H2 d vl (fun c o e => S2 c o (ne_of_none e n1) (S1 _ _ e)) n1 hd hP (primes_lt hP l8)⟩
end
end E4

set_option Elab.async false
set_option linter.all false
set_option maxRecDepth 100000
set_option maxHeartbeats 1000000
set_option exponentiation.threshold 600
/-! first_unlike -/
namespace E4
open PySem PySem.Spec PyProof.Rows L2
open C8 (Cal Mak Met InsC pe_c pe_mt pe_mt0 call_isC clsBody)
abbrev sUnlike : Stmt := top 23
/-- from here on, after `d` -/
def unlikeG (g : Str → Int) : Int → List Jn → List Jn → Int
  | d, a :: as, b :: bs => if a.2 ≠ b.2 then d else if a.1 ≠ b.1 then d * min (prodI (a.1.map g)) (prodI (b.1.map g)) else unlikeG g (d * min (prodI (a.1.map g)) (prodI (b.1.map g))) as bs
  | d, _, _ => d
def spUnlike (K : PySem.W.Frag) : Sp := fun vs H Q _ => ∃ (p q d : Addr) (ts us : List Addr) (one two : List Jn) (vl : Vls), vs = [.ref p, .ref q, .ref d] ∧ H p = some (.lst (ts.map V.ref)) ∧ H q = some (.lst (us.map V.ref)) ∧ H d = some (.dK (dI vl)) ∧
  Paired (JnAt H) ts one ∧ Paired (JnAt H) us two ∧ one.length ≤ 8 ∧ two.length ≤ 8 ∧ (∀ j ∈ one, JnOk 40 j) ∧ (∀ j ∈ two, JnOk 40 j) ∧ (∀ j, j ∈ one ∨ j ∈ two → ∀ z ∈ j.1, z ∈ vl.map (·.1)) ∧ AllV (fun n => 1 ≤ n ∧ n.natAbs < 2 ^ 400) vl ∧
  ∀ H', Same H H' → Q (.int (unlikeG (gOf vl) 1 one two)) H'
theorem unlike_step {g : Str → Int} {d : Int} {as bs : List Jn} {i : Nat} {a b : Jn} (ha : as[i]? = some a) (hb : bs[i]? = some b) : unlikeG g d (as.drop i) (bs.drop i) = if a.2 ≠ b.2 then d else if a.1 ≠ b.1 then d * min (prodI (a.1.map g)) (prodI (b.1.map g)) else unlikeG g (d * min (prodI (a.1.map g)) (prodI (b.1.map g))) (as.drop (i + 1)) (bs.drop (i + 1)) := by
  obtain ⟨l1, e1⟩ := List.getElem?_eq_some_iff.mp ha
  obtain ⟨l2, e2⟩ := List.getElem?_eq_some_iff.mp hb
  rw [List.drop_eq_getElem_cons l1, List.drop_eq_getElem_cons l2, e1, e2]
  rfl
theorem unlike_end {g : Str → Int} {d : Int} {as bs : List Jn} {n : Nat} (h : min as.length bs.length ≤ n) : unlikeG g d (as.drop n) (bs.drop n) = d := by
  by_cases c : as.length ≤ n
  · rw [List.drop_of_length_le c]
    rfl
  · rw [List.drop_of_length_le (show bs.length ≤ n by omega)]
    cases as.drop n <;> rfl
section
variable {P : Program} {w : World} {K : PySem.W.Frag} {mg : Str → Option Value} {base : Heap}
theorem scUnlike : FnScope ["one", "two", "values", "done", "size", "step", "length", "stride"] ["one", "two", "values"] (defScope sUnlike) := ⟨rfl, rfl, rfl, by decide +kernel, rfl, by decide +kernel, by decide +kernel⟩
theorem ok_unlike {f : Addr} {fd : FuncData} (F : Fun K "first_unlike" "first_unlike" sUnlike f fd) (B : Bl mg) (hmin : mg "min" = none) (Pr : Cal P w K mg base 1 "product_at" (spProd K) []) : FnOk P w K mg base CX0 2 f fd ["one", "two", "values"] (spUnlike K) := by
  refine F.ok scUnlike (fun vs H Q E h => ?_) (fun cdv A outer s H vs Q E hr h => ?_)
  · obtain ⟨p, q, d, ts, us, one, two, vl, rfl, _⟩ := h
    rfl
  · obtain ⟨p, q, d, ts, us, one, two, vl, rfl, hp, hq, hd, ht, hu, l1, l2, o1, o2, mem, av, k⟩ := h
    refine ⟨_, pss_cons (ps_set (i := 3) scUnlike.nd rfl (Or.inl rfl) pe_int)
      (pss_cons (ps_for PassesOwn.never rfl (pi_zip (by rfl) B.zip_ (pa_cons (pv 0) (pa_cons (pv 1) pa_nil))) (pg_tup rfl (pgs_cons (pg_tup rfl (pgs_cons (pg_name (i := 4) scUnlike.nd rfl (Or.inl rfl)) (pgs_cons (pg_name (i := 5) scUnlike.nd rfl (Or.inl rfl)) pgs_nil))) (pgs_cons (pg_tup rfl (pgs_cons (pg_name (i := 6) scUnlike.nd rfl (Or.inl rfl)) (pgs_cons (pg_name (i := 7) scUnlike.nd rfl (Or.inl rfl)) pgs_nil))) pgs_nil)))
        (pss_cons (ps_if (pt_cmpR (op_neD hr.units) (pv 5) (pv 7) (by rfl)) (pss_one (ps_ret (pv 3))) pss_nil)
        (pss_cons (ps_set (i := 3) scUnlike.nd rfl (Or.inl rfl) (pe_op op_mulW (pv 3) (pe_callB (call_min2 rfl) (by rfl) hmin (by decide +kernel) (pa_cons (pe_c Pr hr (by decide) rfl (pa_cons (pv 4) (pa_cons (pv 2) pa_nil))) (pa_cons (pe_c Pr hr (by decide) rfl (pa_cons (pv 6) (pa_cons (pv 2) pa_nil))) pa_nil)))))
        (pss_one (ps_if (pt_cmpR (op_neD hr.units) (pv 4) (pv 6) (by rfl)) (pss_one (ps_ret (pv 3))) pss_nil)))))
      (pss_one (ps_ret (pv 3)))), ?_⟩
    refine seq_asg ?_
    have lt := ht.length
    have lu := hu.length
    refine ⟨_, rfl, _, rfl, p, q, _, _, rfl, SqL.of hp, SqL.of hq, ?_⟩
    refine for_it (walk_zip (xs := ts.map V.ref) (ys := us.map V.ref) (n := min one.length two.length) (by rw [List.length_map, List.length_map, lt, lu])) (fun i σ' H' => Same H H' ∧ ∃ dn u4 u5 u6 u7, σ' = [some (.ref p), some (.ref q), some (.ref d), some (.int dn), u4, u5, u6, u7] ∧ dn.natAbs < 2 ^ (1 + 20000 * i) ∧ unlikeG (gOf vl) 1 one two = unlikeG (gOf vl) dn (one.drop i) (two.drop i)) ⟨fun _ _ e => e, 1, none, none, none, none, rfl, by decide, rfl⟩ (fun i σ' H' _ q => ⟨SqL.of (q.1 _ _ hp), SqL.of (q.1 _ _ hq)⟩) ?_ ?_
    · rintro i v σ' H2 H3 hi ⟨S2, dn, u4, u5, u6, u7, rfl, hb, hk⟩ ⟨T, xv, yv, rfl, nT, rfl, e1, e2⟩
      replace e1 : (ts.map V.ref)[i]? = some xv := e1
      replace e2 : (us.map V.ref)[i]? = some yv := e2
      rw [List.getElem?_map] at e1 e2
      obtain ⟨a, ha, rfl⟩ := Option.map_eq_some_iff.mp e1
      obtain ⟨b, hb2, rfl⟩ := Option.map_eq_some_iff.mp e2
      obtain ⟨x, hxi, a1, a2, r1, r2, r3⟩ := paired_at ht ha
      obtain ⟨y, hyi, b1, b2, q1, q2, q3⟩ := paired_at hu hb2
      have S3 : Same H2 (upd H2 T (.tup [.ref a, .ref b])) := Same.upd nT
      have S03 := S2.trans S3
      have ox := o1 x (List.mem_of_getElem? hxi)
      have oy := o2 y (List.mem_of_getElem? hyi)
      rw [unlike_step hxi hyi] at hk
      refine ⟨T, _, rfl, SqT.of upd_same, rfl, _, _, rfl, a, _, rfl, SqT.of (S03 _ _ r1), rfl, _, _, rfl, _, _, rfl, rfl, _, _, rfl, b, _, rfl, SqT.of (S03 _ _ q1), rfl, _, _, rfl, _, _, rfl, rfl, rfl, ?_⟩
      generalize upd H2 T (.tup [.ref a, .ref b]) = H4 at S03 ⊢
      have r2' := S03 _ _ r2
      have r3' := S03 _ _ r3
      have q2' := S03 _ _ q2
      have q3' := S03 _ _ q3
      have sk : ∀ {l : List Str}, (∀ z ∈ l, LetOk z) → SeqAt.shaped (.list (l.map PyData.str)) = true := fun h => shaped_strs _ fun z hz => strOk_of (h z hz)
      refine ⟨_, rfl, _, rfl, .list (x.2.map PyData.str), .list (y.2.map PyData.str), .lst (SqL.of r3') (dp_strs _), .lst (SqL.of q3') (dp_strs _), sk ox.l2, sk oy.l2, _, rfl, ?_⟩
      rw [eqv_listS]
      by_cases c2 : x.2 = y.2
      · rw [decide_eq_true c2]
        refine ifF rfl ?_
        dsimp only [tNext]
        have n1 := ox.n1
        have n2 := oy.n1
        have mx : ∀ z ∈ x.1, z ∈ vl.map (·.1) := mem x (.inl (List.mem_of_getElem? hxi))
        have my : ∀ z ∈ y.1, z ∈ vl.map (·.1) := mem y (.inr (List.mem_of_getElem? hyi))
        have B1 := prod_lt (gOf vl) x.1 fun z hz => (val_at av (mx z hz)).2.2
        have B2 := prod_lt (gOf vl) y.1 fun z hz => (val_at av (my z hz)).2.2
        refine seq_asg ?_
        refine ⟨_, rfl, _, rfl, _, rfl, a1, d, x.1, dI vl, gOf vl, rfl, SqL.of r2', S03 _ _ hd, fun z hz => (val_at av (mx z hz)).1, by omega, fun z hz => (val_at av (mx z hz)).2.2, ?_⟩
        refine ⟨_, rfl, _, rfl, b1, d, y.1, dI vl, gOf vl, rfl, SqL.of q2', S03 _ _ hd, fun z hz => (val_at av (my z hz)).1, by omega, fun z hz => (val_at av (my z hz)).2.2, ?_⟩
        have hmn : (if prodI (y.1.map (gOf vl)) < prodI (x.1.map (gOf vl)) then prodI (y.1.map (gOf vl)) else prodI (x.1.map (gOf vl))) = min (prodI (x.1.map (gOf vl))) (prodI (y.1.map (gOf vl))) := by split <;> omega
        refine ⟨_, _, rfl, ?_⟩
        rw [hmn]
        have B3 : (min (prodI (x.1.map (gOf vl))) (prodI (y.1.map (gOf vl)))).natAbs < 2 ^ 19000 := by
          have p1 : 2 ^ (1 + x.1.length * 400) ≤ 2 ^ 19000 := Nat.pow_le_pow_right (by decide) (by omega)
          have p2 : 2 ^ (1 + y.1.length * 400) ≤ 2 ^ 19000 := Nat.pow_le_pow_right (by decide) (by omega)
          rcases Int.le_total (prodI (x.1.map (gOf vl))) (prodI (y.1.map (gOf vl))) with h | h
          · rw [Int.min_eq_left h]; omega
          · rw [Int.min_eq_right h]; omega
        generalize min (prodI (x.1.map (gOf vl))) (prodI (y.1.map (gOf vl))) = mn at B3 hk ⊢
        have i8 : i < 8 := by omega
        refine ⟨dn, mn, rfl, rfl, cmw hb B3 (by omega) (by decide) (by omega), ?_⟩
        have hb2 : (dn * mn).natAbs < 2 ^ (1 + 20000 * (i + 1)) := by
          rw [Int.natAbs_mul]
          have p3 : 2 ^ (1 + 20000 * i) * 2 ^ 19000 ≤ 2 ^ (1 + 20000 * (i + 1)) := by rw [← Nat.pow_add]; exact Nat.pow_le_pow_right (by decide) (by omega)
          exact Nat.lt_of_lt_of_le (Nat.mul_lt_mul'' hb B3) p3
        rw [if_neg (fun h => h c2)] at hk
        refine ⟨_, rfl, _, rfl, .list (x.1.map PyData.str), .list (y.1.map PyData.str), .lst (SqL.of r2') (dp_strs _), .lst (SqL.of q2') (dp_strs _), sk ox.l1, sk oy.l1, _, rfl, ?_⟩
        rw [eqv_listS]
        by_cases c1 : x.1 = y.1
        · rw [decide_eq_true c1]
          rw [if_neg (fun h => h c1)] at hk
          exact ifF rfl ⟨S03, dn * mn, _, _, _, _, rfl, hb2, hk⟩
        · rw [decide_eq_false c1]
          rw [if_pos c1] at hk
          refine ifT rfl ?_
          have z := k _ S03
          rw [hk] at z
          exact ⟨_, rfl, z⟩
      · rw [decide_eq_false c2]
        rw [if_pos c2] at hk
        refine ifT rfl ?_
        refine ⟨_, rfl, ?_⟩
        rw [← hk]
        exact k _ S03
    · rintro σ' H2 ⟨S2, dn, u4, u5, u6, u7, rfl, hb, hk⟩
      rw [unlike_end (Nat.le_refl _)] at hk
      refine ⟨_, rfl, ?_⟩
      rw [← hk]
      exact k H2 S2
end
end E4

set_option Elab.async false
set_option linter.all false
set_option maxRecDepth 100000
set_option maxHeartbeats 1000000
/-! same_run -/
namespace E4
open PySem PySem.Spec PyProof.Rows L2
open C8 (Cal Mak Met InsC pe_c pe_mt pe_mt0 call_isC clsBody)
abbrev sSame : Stmt := top 19
def jnD (x : Jn) : PyData := .tuple [.list (x.1.map PyData.str), .list (x.2.map PyData.str)]
theorem dp_jns {K : PySem.W.Frag} {H : Hp} {ts : List Addr} {xs : List Jn} (h : Paired (JnAt H) ts xs) : DpAll K H (ts.map V.ref) (xs.map jnD) := by
  induction h with
  | nil => exact .nil
  | cons r t ih =>
    obtain ⟨a, b, h1, h2, h3⟩ := r
    exact .cons (.tup (SqT.of h1) (.cons (.lst (SqL.of h2) (dp_strs _)) (.cons (.lst (SqL.of h3) (dp_strs _)) .nil))) ih
theorem canLay_jns {n : Nat} : ∀ {xs : List Jn}, (∀ x ∈ xs, JnOk n x) → PyData.canLayAll0 (xs.map jnD) = true
  | [], _ => rfl
  | x :: xs, h => by
    have o := h x List.mem_cons_self
    have ih := canLay_jns (xs := xs) fun y hy => h y (List.mem_cons_of_mem _ hy)
    have c1 := canLay_strs x.1 fun z hz => strOk_of (o.l1 z hz)
    have c2 := canLay_strs x.2 fun z hz => strOk_of (o.l2 z hz)
    simp [jnD, PyData.canLayAll0, PyData.canLay0, c1, c2, ih]
theorem depth_jns : ∀ xs : List Jn, PyData.depthAll (xs.map jnD) ≤ 3
  | [] => Nat.zero_le _
  | x :: xs => by
    have ih := depth_jns xs
    have d1 := depth_strs x.1
    have d2 := depth_strs x.2
    simp [jnD, PyData.depthAll, PyData.depth, d1, d2]
    try omega
theorem shaped_jns {n : Nat} {xs : List Jn} (h : ∀ x ∈ xs, JnOk n x) : SeqAt.shaped (.list (xs.map jnD)) = true := by
  have h1 : PyData.canLay0 (.list (xs.map jnD)) = true := by simpa [PyData.canLay0] using canLay_jns h
  have h2 : PyData.depth (.list (xs.map jnD)) ≤ 64 := by
    simp only [PyData.depth]
    have := depth_jns xs
    omega
  show (PyData.canLay0 _ && decide (PyData.depth _ ≤ 64)) = true
  rw [h1, decide_eq_true h2]
  rfl
theorem eqvA_jns : ∀ xs ys : List Jn, PyData.eqvAll (xs.map jnD) (ys.map jnD) = decide (xs = ys)
  | [], [] => rfl
  | [], _ :: _ => rfl
  | _ :: _, [] => rfl
  | x :: xs, y :: ys => by
    have ih := eqvA_jns xs ys
    have e1 := eqv_strs x.1 y.1
    have e2 := eqv_strs x.2 y.2
    rw [List.map_cons, List.map_cons]
    simp only [PyData.eqvAll, ih, jnD, PyData.eqv, e1, e2, Bool.and_true]
    obtain ⟨x1, x2⟩ := x
    obtain ⟨y1, y2⟩ := y
    by_cases h1 : x1 = y1 <;> by_cases h2 : x2 = y2 <;> by_cases h3 : xs = ys <;> simp [h1, h2, h3]
theorem eqv_jns (xs ys : List Jn) : PyData.eqv (.list (xs.map jnD)) (.list (ys.map jnD)) = decide (xs = ys) := by rw [← eqvA_jns]; simp [PyData.eqv]
/-- rows by their names -/
theorem rows_one {ss : List Sd} (nd : (ss.map (·.1)).Nodup) : ∀ {xs ys : List Sd}, xs.map (·.1) = ys.map (·.1) → (∀ x ∈ xs, x ∈ ss) → (∀ x ∈ ys, x ∈ ss) → xs = ys
  | [], [], _, _, _ => rfl
  | [], _ :: _, h, _, _ => nomatch h
  | _ :: _, [], h, _, _ => nomatch h
  | x :: xs, y :: ys, h, h1, h2 => by
    rw [List.map_cons, List.map_cons] at h
    injection h with e1 e2
    rw [rows_one nd e2 (fun z hz => h1 z (List.mem_cons_of_mem _ hz)) (fun z hz => h2 z (List.mem_cons_of_mem _ hz))]
    congr 1
    obtain ⟨i, hi⟩ := List.mem_iff_getElem?.mp (h1 x List.mem_cons_self)
    obtain ⟨j, hj⟩ := List.mem_iff_getElem?.mp (h2 y List.mem_cons_self)
    have a1 : (ss.map (·.1))[i]? = some x.1 := by rw [List.getElem?_map, hi]; rfl
    have a2 : (ss.map (·.1))[j]? = some y.1 := by rw [List.getElem?_map, hj]; rfl
    have := (List.getElem?_inj (List.getElem?_eq_some_iff.mp a1).1 nd).mp (a1.trans (by rw [e1, a2]))
    subst this
    exact Option.some.inj (hi.symm.trans hj)
def namesL (ss s2 : List Sd) : List Str := sortT (putAll [] (sizesOf ss ++ sizesOf s2))
/-- what two runs are told by, and where -/
def RunAt (H0 H : Hp) (p : Addr) (vl : Vls) (n : Int) : Prop := ∃ d, H p = some (.tup [.ref d, .int n]) ∧ H d = some (.dK (dI vl)) ∧ H0 p = none ∧ H0 d = none
def spSame (C : Addr) : Sp := fun vs H Q _ => ∃ (a l b m : Addr) (wk w2 : List Str) (ss s2 : List Sd), vs = [.ref a, .ref l, .ref b, .ref m] ∧ H l = some (.lst (wk.map V.str)) ∧ wk.Perm (ss.map (·.1)) ∧ PlAt C H a ss ∧ SdsOk ss ∧ (∀ x ∈ ss, RowW x) ∧ ss.length ≤ 8 ∧
  H m = some (.lst (w2.map V.str)) ∧ w2.Perm (s2.map (·.1)) ∧ PlAt C H b s2 ∧ SdsOk s2 ∧ (∀ x ∈ s2, RowW x) ∧ s2.length ≤ 8 ∧ (namesL ss s2).length ≤ 12 ∧
  ∀ xs ys, xs.map (·.1) = wk.reverse → (∀ x ∈ xs, x ∈ ss) → ys.map (·.1) = w2.reverse → (∀ x ∈ ys, x ∈ s2) →
    (joinL (longJ xs) = joinL (longJ ys) → ∀ H', Same H H' → Q .non H') ∧
    (joinL (longJ xs) ≠ joinL (longJ ys) → ∀ H' p vl, Same H H' → RunAt H H' p vl (unlikeG (gOf vl) 1 (joinL (longJ xs)) (joinL (longJ ys))) → PrimesR (namesL ss s2) vl → (∀ x ∈ vl, 2 ≤ x.2 ∧ x.2 < 2 ^ 400) → Q (.ref p) H')
theorem joinL_lets {xs : List Jn} {p : Str → Prop} (h : ∀ x ∈ xs, ∀ z ∈ x.1, p z) : ∀ (i : Nat), i ≤ xs.length → ∀ j ∈ joinL (xs.take i), ∀ z ∈ j.1, p z
  | 0, _ => fun j hj => by simp [joinL] at hj
  | i + 1, hi => by
    have e : xs[i]? = some xs[i] := List.getElem?_eq_getElem (by omega)
    rw [take_snoc e, joinL_snoc]
    have ih := joinL_lets h i (by omega)
    have hx := h _ (List.mem_of_getElem? e)
    generalize xs[i] = x at hx
    generalize joinL (xs.take i) = f at ih
    intro j hj z hz
    unfold joinStep at hj
    cases hl : f.getLast? with
    | none =>
      rw [hl] at hj
      rcases List.mem_append.mp hj with h | h
      · exact ih j h z hz
      · rw [List.mem_singleton.mp h] at hz; exact hx z hz
    | some y =>
      rw [hl] at hj
      have yf : y ∈ f := List.mem_of_getLast? hl
      dsimp only at hj
      split at hj
      · rcases List.mem_append.mp hj with h | h
        · exact ih j ((List.dropLast_sublist f).mem h) z hz
        · rw [List.mem_singleton.mp h] at hz
          rcases List.mem_append.mp ((sortT_perm _).mem_iff.mp hz) with h | h
          · exact ih y yf z h
          · exact hx z h
      · rcases List.mem_append.mp hj with h | h
        · exact ih j h z hz
        · rw [List.mem_singleton.mp h] at hz; exact hx z hz
theorem longJ_len {xs : List Sd} : (longJ xs).length ≤ xs.length := by
  unfold longJ
  rw [List.length_map]
  exact List.length_filter_le _ _
theorem join_facts {ss xs : List Sd} (ok : SdsOk ss) (ro : ∀ x ∈ ss, RowW x) (hx : ∀ x ∈ xs, x ∈ ss) (l8 : xs.length ≤ 8) : (joinL (longJ xs)).length ≤ 8 ∧ (∀ j ∈ joinL (longJ xs), JnOk 40 j) ∧ ∀ j ∈ joinL (longJ xs), ∀ z ∈ j.1, z ∈ sizesOf ss := by
  have ll := longJ_len (xs := xs)
  have e : (longJ xs).take (longJ xs).length = longJ xs := List.take_length
  have mem : ∀ x ∈ longJ xs, ∃ y ∈ ss, y.2 = x := fun x hx1 => by
    obtain ⟨y, hy, rfl⟩ := List.mem_map.mp hx1
    exact ⟨y, hx y (List.mem_filter.mp hy).1, rfl⟩
  have okJ : ∀ x ∈ longJ xs, JnOk 4 x := fun x hx1 => by
    obtain ⟨y, hy, rfl⟩ := mem x hx1
    obtain ⟨o1, o2, o3, o4, o5⟩ := ok.ok y hy
    exact ⟨o2, o3, (ro y hy).2.2.1, by have := (ro y hy).2.2.2; omega⟩
  refine ⟨?_, fun j hj => ?_, fun j hj z hz => ?_⟩
  · have := joinL_len (longJ xs) (longJ xs).length
    rw [e] at this
    omega
  · have := joinL_ok okJ (longJ xs).length (Nat.le_refl _) j (by rw [e]; exact hj)
    exact ⟨this.l1, this.l2, by have := this.n1; omega, this.n2⟩
  · refine joinL_lets (p := fun z => z ∈ sizesOf ss) (fun x hx1 z hz => ?_) (longJ xs).length (Nat.le_refl _) j (by rw [e]; exact hj) z hz
    obtain ⟨y, hy, rfl⟩ := mem x hx1
    exact mem_sizesOf.mpr ⟨y, hy, .inl hz⟩
theorem names_mem {ss s2 : List Sd} {z : Str} : z ∈ namesL ss s2 ↔ z ∈ sizesOf ss ∨ z ∈ sizesOf s2 := by
  unfold namesL
  rw [(sortT_perm _).mem_iff, mem_putAll, List.mem_append]
  simp
theorem names_nd (ss s2 : List Sd) : (namesL ss s2).Nodup := (sortT_perm _).nodup_iff.mpr (nodup_putAll List.nodup_nil)
section
variable {P : Program} {w : World} {K : PySem.W.Frag} {mg : Str → Option Value} {base : Heap} {C : Addr}
theorem scSame : FnScope ["table", "walk", "other", "route", "one", "two", "values"] ["table", "walk", "other", "route"] (defScope sSame) := ⟨rfl, rfl, rfl, by decide +kernel, rfl, by decide +kernel, by decide +kernel⟩
theorem ok_same {f : Addr} {fd : FuncData} (F : Fun K "same_run" "same_run" sSame f fd) (B : Bl mg) (Jo : Cal P w K mg base 3 "joined" (spJoined K C) []) (Pm : Cal P w K mg base 1 "primes" (spPrimes K) []) (Fu : Cal P w K mg base 2 "first_unlike" (spUnlike K) []) (Sz : Met P w K mg base 1 C "sizes" (spSizes C) []) : FnOk P w K mg base CX0 4 f fd ["table", "walk", "other", "route"] (spSame C) := by
  refine F.ok scSame (fun vs H Q E h => ?_) (fun cdv A outer s H vs Q E hr h => ?_)
  · obtain ⟨a, l, b, m, wk, w2, ss, s2, rfl, _⟩ := h
    rfl
  · obtain ⟨a, l, b, m, wk, w2, ss, s2, rfl, hl, pmw, hp, ok, ro, l8, hm, pmw2, hp2, ok2, ro2, l82, l9, k⟩ := h
    refine ⟨_, pss_cons (ps_set (i := 4) scSame.nd rfl (Or.inl rfl) (pe_c Jo hr (by decide) rfl (pa_cons (pv 0) (pa_cons (pv 1) pa_nil))))
      (pss_cons (ps_set (i := 5) scSame.nd rfl (Or.inl rfl) (pe_c Jo hr (by decide) rfl (pa_cons (pv 2) (pa_cons (pv 3) pa_nil))))
      (pss_cons (ps_if (pt_cmpR (op_eqD hr.units) (pv 4) (pv 5) (by rfl)) (pss_one (ps_ret pe_non)) pss_nil)
      (pss_cons (ps_set (i := 6) scSame.nd rfl (Or.inl rfl) (pe_c Pm hr (by decide) rfl (pa_cons (pe_callB (cr_sortedSS rfl) (by rfl) B.srt_ (by decide +kernel) (pa_cons (pe_callTy (cr_setLS rfl) (by rfl) B.set_ (by decide +kernel) (pa_cons (pe_op op_catS (pe_mt0 Sz hr (by decide) (pv 0)) (pe_mt0 Sz hr (by decide) (pv 2))) pa_nil)) pa_nil)) pa_nil)))
      (pss_one (ps_ret (pe_tupS (pa_cons (pv 6) (pa_cons (pe_c Fu hr (by decide) rfl (pa_cons (pv 4) (pa_cons (pv 5) (pa_cons (pv 6) pa_nil)))) pa_nil)))))))), ?_⟩
    refine seq_asg ?_
    refine ⟨_, rfl, _, rfl, a, l, wk, ss, rfl, hl, pmw, hp, ok, fun x hx => ⟨(ro x hx).2.2.1, by have := (ro x hx).2.2.2; omega⟩, l8, fun H1 p1 ts xs S1 n1 h1 ht1 ex hx _ => ?_⟩
    refine seq_asg ?_
    refine ⟨_, rfl, _, rfl, b, m, w2, s2, rfl, S1 _ _ hm, pmw2, hp2.same S1, ok2, fun x hx => ⟨(ro2 x hx).2.2.1, by have := (ro2 x hx).2.2.2; omega⟩, l82, fun H2 p2 us ys S2 n2 h2 ht2 ey hy _ => ?_⟩
    have lw : wk.length ≤ 8 := by rw [pmw.length_eq, List.length_map]; exact l8
    have lw2 : w2.length ≤ 8 := by rw [pmw2.length_eq, List.length_map]; exact l82
    have lx : xs.length ≤ 8 := by have := congrArg List.length ex; rw [List.length_map, List.length_reverse] at this; omega
    have ly : ys.length ≤ 8 := by have := congrArg List.length ey; rw [List.length_map, List.length_reverse] at this; omega
    obtain ⟨x1, x2, x3⟩ := join_facts ok ro hx lx
    obtain ⟨y1, y2, y3⟩ := join_facts ok2 ro2 hy ly
    obtain ⟨k1, k2⟩ := k xs ys ex hx ey hy
    have ht12 : Paired (JnAt H2) ts (joinL (longJ xs)) := paired_imp ht1 fun t _ x z => z.same S2
    have h12 := S2 _ _ h1
    refine ⟨_, rfl, _, rfl, .list ((joinL (longJ xs)).map jnD), .list ((joinL (longJ ys)).map jnD), .lst (SqL.of h12) (dp_jns ht12), .lst (SqL.of h2) (dp_jns ht2), shaped_jns x2, shaped_jns y2, _, rfl, ?_⟩
    rw [eqv_jns]
    by_cases ce : joinL (longJ xs) = joinL (longJ ys)
    · rw [decide_eq_true ce]
      exact ifT rfl (k1 ce H2 (S1.trans S2))
    · rw [decide_eq_false ce]
      refine ifF rfl ?_
      dsimp only [tNext]
      have k2 := k2 ce
      have S02 := S1.trans S2
      refine seq_asg ?_
      obtain ⟨dx, l0, ts0, ha, _⟩ := id hp
      obtain ⟨dy, m0, us0, hb, _⟩ := id hp2
      have sz : ∀ {zz : List Sd}, (∀ x ∈ zz, RowW x) → (sizesOf zz).length ≤ 22 := fun {zz} r => lets_w r (sizesOf_nodup zz) fun z hz => mem_sizesOf.mp hz
      have z1 := sz ro
      have z2 := sz ro2
      refine ⟨_, rfl, a, dx, _, rfl, S02 _ _ ha, rfl, a, ss, rfl, hp.same S02, ok, fun H3 p3 S3 n3 h3 => ?_⟩
      refine ⟨_, rfl, b, dy, _, rfl, S3 _ _ (S02 _ _ hb), rfl, b, s2, rfl, hp2.same (S02.trans S3), ok2, fun H4 p4 S4 n4 h4 => ?_⟩
      refine ⟨p3, p4, _, _, rfl, rfl, S4 _ _ h3, h4, by rw [List.length_map, List.length_map, sizeLine_eq]; omega, fun c H5 S5 nc hc => ?_⟩
      rw [← List.map_append] at hc
      refine ⟨c, sizesOf ss ++ sizesOf s2, rfl, SqL.of hc, fun i => ?_, fun sa nsa => ?_⟩
      · have h1 := len_putAll ((sizesOf ss ++ sizesOf s2).take i) []
        rw [List.length_take, List.length_append] at h1
        have : (0 : Nat) + 60 + 1 < scanBound := by decide
        simp only [List.length_nil] at h1
        omega
      have S56 : Same H5 (upd H5 sa (SetSO P w sa (putAll [] (sizesOf ss ++ sizesOf s2)))) := Same.upd nsa
      refine ⟨sa, _, rfl, upd_same, fun zs pmz nd so q H7 S7 nq hq => ?_⟩
      have e := sortT_one pmz so
      subst e
      have S07 := S02.trans (S3.trans (S4.trans (S5.trans (S56.trans S7))))
      have S27 := S3.trans (S4.trans (S5.trans (S56.trans S7)))
      generalize upd H5 sa (SetSO P w sa (putAll [] (sizesOf ss ++ sizesOf s2))) = H6 at S56 S7 nq
      refine ⟨q, namesL ss s2, rfl, hq, names_nd ss s2, l9, fun H8 d vl S8 nd8 hd8 hP hb8 => ?_⟩
      have S28 := S27.trans S8
      have av : AllV (fun n => 1 ≤ n ∧ n.natAbs < 2 ^ 400) vl := fun x hx => by
        obtain ⟨b1, b2⟩ := hb8 x hx
        refine ⟨by omega, ?_⟩
        have l4 : ((2 ^ 400 : Nat) : Int) = 2 ^ 400 := by norm_cast
        rw [← l4] at b2
        omega
      dsimp only
      refine ⟨_, rfl, _, rfl, _, rfl, _, rfl, p1, p2, d, ts, us, joinL (longJ xs), joinL (longJ ys), vl, rfl, S28 _ _ h12, S28 _ _ h2, hd8, paired_imp ht12 fun t _ x z => z.same S28, paired_imp ht2 fun t _ x z => z.same S28, x1, y1, x2, y2, fun j hj z hz => ?_, av, fun H9 S9 => ?_⟩
      · rw [hP.1]
        exact hj.elim (fun h => names_mem.mpr (.inl (x3 j h z hz))) fun h => names_mem.mpr (.inr (y3 j h z hz))
      refine ⟨by show 2 ≤ sizeLine; decide, fun p H10 S10 np hp10 => ?_⟩
      have S010 := S02.trans (S28.trans (S9.trans S10))
      have S910 := S9.trans S10
      exact k2 H10 p vl S010 ⟨d, hp10, S910 _ _ hd8, ((S02.trans (S28.trans S9)).free np), (S07.free nd8)⟩ hP hb8
end
end E4

set_option Elab.async false
set_option linter.all false
set_option maxRecDepth 100000
set_option maxHeartbeats 1000000
/-! list.remove of something that stands in the heap as data -/
namespace L2
open PySem PySem.Spec PyProof.Rows
end L2

set_option Elab.async false
set_option linter.all false
set_option maxRecDepth 100000
set_option maxHeartbeats 1000000
set_option exponentiation.threshold 5000
/-! _law_many_cells, _law_full -/
namespace E4
open PySem PySem.Spec PyProof.Rows L2
open C8 (Cal Mak Met InsC pe_c pe_mt pe_mt0 call_isC clsBody)
def spMany (K : PySem.W.Frag) : Sp := fun vs H Q _ => ∃ (l d : Addr) (ts : List Addr) (xs : List Sd) (vl : Vls), vs = [.ref l, .ref d] ∧ SqL K H l (ts.map V.ref) ∧ SdsAt H ts xs ∧ H d = some (.dK (dI vl)) ∧ ValsOk vl xs ∧ (∀ x ∈ xs, RowW x) ∧ xs.length ≤ 8 ∧ Q (.int (manyI vl xs)) H
section
variable {P : Program} {w : World} {K : PySem.W.Frag} {mg : Str → Option Value} {base : Heap}
end
end E4

set_option Elab.async false
set_option linter.all false
set_option maxRecDepth 100000
set_option maxHeartbeats 2000000
set_option exponentiation.threshold 5000
/-! _law_joined, _law_pairs -/
namespace E4
open PySem PySem.Spec PyProof.Rows L2
open C8 (Cal Mak Met InsC pe_c pe_mt pe_mt0 call_isC clsBody)
abbrev sLJ : Stmt := top 37
abbrev sPairs : Stmt := top 39
def spLJ (K : PySem.W.Frag) : Sp := fun vs H Q _ => ∃ (l r : Addr) (ts : List Addr) (wk : List Str) (xs : List Sd), vs = [.ref l, .ref r] ∧ H l = some (.lst (ts.map V.ref)) ∧ SdsAt H ts xs ∧ SdsOk xs ∧ (∀ x ∈ xs, RowW x) ∧ xs.length ≤ 8 ∧ H r = some (.lst (wk.map V.str)) ∧ wk.Perm (xs.map (·.1)) ∧
  ∀ (H' : Hp) (p : Addr) (us : List Addr) (zs : List Sd), Same H H' → H p = none → H' p = some (.lst (us.map V.ref)) → Paired (JnAt H') us (joinL (longJ (zs.map norm))) → zs.map (·.1) = wk.reverse → (∀ z ∈ zs, z ∈ xs) → Q (.ref p) H'
def spPairs (K : PySem.W.Frag) : Sp := fun vs H Q _ => ∃ (l r : Addr) (ts : List Addr) (wk : List Str) (xs : List Sd), vs = [.ref l, .ref r] ∧ H l = some (.lst (ts.map V.ref)) ∧ SdsAt H ts xs ∧ SdsOk xs ∧ xs.length ≤ 8 ∧ H r = some (.lst (wk.map V.str)) ∧ wk.Perm (xs.map (·.1)) ∧
  ∀ (H' : Hp) (p : Addr) (us : List Addr) (zs : List Sd), Same H H' → H p = none → H' p = some (.lst (us.map V.ref)) → Paired (JnAt H') us (zs.map (·.2)) → zs.map (·.1) = wk.reverse → (∀ z ∈ zs, z ∈ xs) → Q (.ref p) H'
/-- the row of a word, among rows with their addresses -/
theorem pick_row {ts : List Addr} {xs : List Sd} (hl : ts.length = xs.length) (nd : (xs.map (·.1)).Nodup) {n : Str} (hn : n ∈ xs.map (·.1)) : ∃ (i : Nat) (t : Addr) (x : Sd), ts[i]? = some t ∧ xs[i]? = some x ∧ x.1 = n ∧ ∀ (j : Nat) y, xs[j]? = some y → (y.1 = n ↔ j = i) := by
  obtain ⟨x, hx, e⟩ := List.mem_map.mp hn
  obtain ⟨i, hi⟩ := List.mem_iff_getElem?.mp hx
  have il := (List.getElem?_eq_some_iff.mp hi).1
  refine ⟨i, _, x, List.getElem?_eq_getElem (h := by omega), hi, e, fun j y hy => ⟨fun h => ?_, fun h => ?_⟩⟩
  · have a1 : (xs.map (·.1))[j]? = some n := by rw [List.getElem?_map, hy, ← h]; rfl
    have a2 : (xs.map (·.1))[i]? = some n := by rw [List.getElem?_map, hi, ← e]; rfl
    exact (List.getElem?_inj (List.getElem?_eq_some_iff.mp a1).1 nd).mp (a1.trans a2.symm)
  · subst h
    rw [hi] at hy
    cases hy
    exact e
theorem sortT_idem' (l : List Str) : sortT (sortT l) = sortT l := sortT_of_perm' (sortT_perm l)
theorem joinL_s2 {xs : List Jn} (h : ∀ x ∈ xs, sortT x.2 = x.2) : ∀ (i : Nat), i ≤ xs.length → ∀ j ∈ joinL (xs.take i), sortT j.2 = j.2
  | 0, _ => fun j hj => by simp [joinL] at hj
  | i + 1, hi => by
    have e : xs[i]? = some xs[i] := List.getElem?_eq_getElem (by omega)
    rw [take_snoc e, joinL_snoc]
    have ih := joinL_s2 h i (by omega)
    have hx := h _ (List.mem_of_getElem? e)
    generalize xs[i] = x at hx
    generalize joinL (xs.take i) = f at ih
    intro j hj
    unfold joinStep at hj
    cases hl : f.getLast? with
    | none =>
      rw [hl] at hj
      rcases List.mem_append.mp hj with h | h
      · exact ih j h
      · rw [List.mem_singleton.mp h]; exact hx
    | some y =>
      rw [hl] at hj
      have yf : y ∈ f := List.mem_of_getLast? hl
      dsimp only at hj
      split at hj
      · rcases List.mem_append.mp hj with h | h
        · exact ih j ((List.dropLast_sublist f).mem h)
        · rw [List.mem_singleton.mp h]; exact ih y yf
      · rcases List.mem_append.mp hj with h | h
        · exact ih j h
        · rw [List.mem_singleton.mp h]; exact hx
section
variable {P : Program} {w : World} {K : PySem.W.Frag} {mg : Str → Option Value} {base : Heap}
abbrev NLJ : List Str := ["_law_rows", "_law_route", "_law_found", "_law_word", "_law_span", "_law_step", "_law_last", "_law_row"]
theorem scLJ : FnScope NLJ ["_law_rows", "_law_route"] (defScope sLJ) := ⟨rfl, rfl, rfl, by decide +kernel, rfl, by decide +kernel, by decide +kernel⟩
theorem ok_lj {f : Addr} {fd : FuncData} (F : Fun K "_law_joined" "_law_joined" sLJ f fd) (B : Bl mg) : FnOk P w K mg base CX0 2 f fd ["_law_rows", "_law_route"] (spLJ K) := by
  refine F.ok scLJ (fun vs H Q E h => ?_) (fun cdv A outer s H vs Q E hr h => ?_)
  · obtain ⟨l, r, ts, wk, xs, rfl, _⟩ := h
    rfl
  · obtain ⟨l, r, ts, wk, xs, rfl, hl, hx, ok, ro, l8, hw, pw, k⟩ := h
    refine ⟨_, pss_cons (ps_set (i := 2) scLJ.nd rfl (Or.inl rfl) (pe_lstS pa_nil))
      (pss_cons (ps_for PassesOwn.never rfl (pi_list (pe_revL (pv 1))) (pg_name (i := 3) scLJ.nd rfl (Or.inr rfl))
        (pss_cons (ps_asg (pe_ix ix_list (pe_lc (own := [("_law_row", 7)]) (g := gName 7) (tt := tTest (tOp rEq (tOp (rIxT K) (tVar 7) (tC (.int 0))) (tVar 3))) (te := tSl (rSlT K) (tVar 7) (tPart (tC (.int 1))) tNoPart) rfl scLJ.nd (pi_list (pv 0))
            (blkOk_by (own := [("_law_row", 7)]) (N := NLJ) (sc := defScope sLJ) (by decide +kernel))
            (fun _ _ _ _ _ => pg_name (i := 7) scLJ.nd rfl (Or.inl rfl)) (fun _ _ _ _ _ => by exact pts_one (pt_cmpR op_eq (pe_ix ix_tup (pv 7) pe_int (fun _ _ => rfl)) (pv 3) (by rfl))) (fun _ _ _ _ _ => pe_slice sl_tup (pv 7) (po_some pe_int) po_none)) pe_int (fun _ _ => rfl)) (pg_tup (by rfl) (pgs_cons (pg_name (i := 4) scLJ.nd rfl (Or.inl rfl)) (pgs_cons (pg_name (i := 5) scLJ.nd rfl (Or.inl rfl)) pgs_nil))))
        (pss_one (ps_if (pt_cmpR (op_neD hr.units) (pv 4) (pe_lstS pa_nil) (by rfl))
          (pss_cons (ps_if (PW.pt (pw_and (pt_cmpR (op_neD hr.units) (pv 2) (pe_lstS pa_nil) (by rfl))
              (pw_and1 (pt_cmpR (op_eqD hr.units) (pe_callB cr_sortedS (by rfl) B.srt_ (by decide +kernel) (pa_cons (pe_op op_catS (pe_ix ix_tup (pe_ix ix_list (pv 2) (pe_un un_neg pe_int) (fun _ _ => rfl)) pe_int (fun _ _ => rfl)) (pe_ix ix_tup (pe_ix ix_list (pv 2) (pe_un un_neg pe_int) (fun _ _ => rfl)) pe_int (fun _ _ => rfl))) pa_nil)) (pe_callB cr_sortedS (by rfl) B.srt_ (by decide +kernel) (pa_cons (pv 5) pa_nil)) (by rfl)))))
            (pss_cons (ps_set (i := 6) scLJ.nd rfl (Or.inl rfl) (pe_bm0 PySem.F.plainAttrs_list PySem.F.slot_list_pop PySem.F.type_list_pop mt_pop (pv 2)))
            (pss_one (ps_par (i := 4) (j := 5) (by rfl) scLJ.nd rfl rfl (by decide) rfl rfl (pa_cons (pe_op op_catS (pe_ix ix_tup (pv 6) pe_int (fun _ _ => rfl)) (pv 4)) (pa_cons (pe_ix ix_tup (pv 6) pe_int (fun _ _ => rfl)) pa_nil)) (by rfl)))) pss_nil)
          (pss_one (ps_expr (pe_bm PySem.F.plainAttrs_list PySem.F.slot_list_append PySem.F.type_list_append mt_append (pv 2) (pa_cons (pe_tupS (pa_cons (pe_callB cr_sortedS (by rfl) B.srt_ (by decide +kernel) (pa_cons (pv 4) pa_nil)) (pa_cons (pe_callB cr_sortedS (by rfl) B.srt_ (by decide +kernel) (pa_cons (pv 5) pa_nil)) pa_nil))) pa_nil))))) pss_nil))))
      (pss_one (ps_ret (pv 2)))), ?_⟩
    have lt := hx.length
    have lw : wk.length = xs.length := by rw [pw.length_eq, List.length_map]
    refine seq_asg ⟨by show 0 ≤ sizeLine; decide, fun fo H1 S1 nfo hfo => ?_⟩
    have hw1 := S1 _ _ hw
    refine ⟨_, rfl, r, _, rfl, SqL.of hw1, fun rv nrv => ?_⟩
    have S12 : Same H1 (upd H1 rv (.lst (wk.map V.str).reverse)) := Same.upd nrv
    have hrv : (upd H1 rv (.lst (wk.map V.str).reverse)) rv = some (.lst (wk.reverse.map V.str)) := by rw [upd_same, List.map_reverse]
    generalize upd H1 rv (.lst (wk.map V.str).reverse) = H2 at S12 hrv ⊢
    have hfo2 := S12 _ _ hfo
    have S02 := S1.trans S12
    have rvf : rv ≠ fo := (ne_of_none hfo nrv).symm
    refine ⟨rv, rfl, ⟨_, SqL.of hrv⟩, for_it (walk_list (xs := wk.reverse.map V.str)) (fun i σ' H' => ∃ u3 u4 u5 u6 us zs, σ' = [some (.ref l), some (.ref r), some (.ref fo), u3, u4, u5, u6, none] ∧ (∀ c o, c ∉ [fo] → H2 c = some o → H' c = some o) ∧ H' fo = some (.lst (us.map V.ref)) ∧ Paired (JnN [fo] H') us (joinL (longJ (zs.map norm))) ∧ zs.map (fun z : Sd => z.1) = wk.reverse.take i ∧ ∀ z ∈ zs, z ∈ xs) ⟨none, none, none, none, [], [], rfl, fun _ _ _ e => e, hfo2, .nil, rfl, fun _ h => absurd h List.not_mem_nil⟩ (fun i σ' H' _ q => let ⟨_, _, _, _, _, _, _, S, _⟩ := q; SqL.of (S _ _ (not_one rvf) hrv)) ?_ ?_⟩
    · rintro i v σ' Hx H3 hi ⟨u3, u4, u5, u6, us, zs, rfl, S3, hf, hus, hz1, hz2⟩ ⟨rfl, hxi⟩
      rw [List.length_map, List.length_reverse] at hi
      rw [List.getElem?_map] at hxi
      obtain ⟨n, hn, rfl⟩ := Option.map_eq_some_iff.mp hxi
      have nm : n ∈ xs.map (·.1) := pw.mem_iff.mp (List.mem_reverse.mp (List.mem_of_getElem? hn))
      obtain ⟨i0, t0, x, ht0, hx0, ex, huni⟩ := pick_row lt ok.nd nm
      obtain ⟨x', hx', u, w, w1, w2, w3⟩ := paired_at hx ht0
      rw [hx0] at hx'
      cases hx'
      have xm := List.mem_of_getElem? hx0
      have okx := ok.ok x xm
      have rox := ro x xm
      have old : ∀ {c : Addr} {o : HO}, H c = some o → H3 c = some o := fun {c o} e => S3 _ _ (not_one (ne_of_none e nfo)) (S02 _ _ e)
      have uf : u ≠ fo := ne_of_none w2 nfo
      have wf : w ≠ fo := ne_of_none w3 nfo
      refine ⟨_, rfl, l, rfl, ⟨_, SqL.of (old hl)⟩, fun D nD => lc_it (walk_list (xs := ts.map V.ref)) (fun j H' => Same H3 H' ∧ ((j ≤ i0 ∧ H' D = some (.lst [])) ∨ (i0 < j ∧ ∃ p0, p0 ≠ D ∧ H' D = some (.lst [.ref p0]) ∧ H' p0 = some (.tup [.ref u, .ref w])))) ⟨Same.upd nD, .inl ⟨Nat.zero_le _, upd_same⟩⟩ (fun j H' _ q => SqL.of (q.1 _ _ (old hl))) ?_ ?_⟩
      · rintro j v Hy H4 hj ⟨S4, hD⟩ ⟨rfl, hxj⟩
        rw [List.length_map] at hj
        rw [List.getElem?_map] at hxj
        obtain ⟨t, htt, rfl⟩ := Option.map_eq_some_iff.mp hxj
        obtain ⟨y, hyj, d1, d2, g0, g1, g2⟩ := paired_at hx htt
        refine ⟨rfl, _, rfl, t, _, 0, _, rfl, rfl, SqT.of (S4 _ _ (old g0)), rfl, _, rfl, rfl, _, rfl, ?_⟩
        by_cases ej : j = i0
        · subst ej
          rw [hx0] at hyj
          cases hyj
          rw [ht0] at htt
          cases htt
          have g0' := S4 _ _ (old g0)
          have hD' : H4 D = some (.lst []) := by
            rcases hD with ⟨_, h⟩ | ⟨h, _⟩
            · exact h
            · exact absurd h (Nat.lt_irrefl _)
          rw [w1] at g0
          cases g0
          refine ifT (by rw [ex]; simp) ?_
          refine ⟨_, rfl, 1, rfl, t0, _, rfl, SqT.of g0', (fun h => absurd (show HT.sIx 3 0 (some 1) = 0 from h.1) (by decide)), fun p np => ?_⟩
          rw [cut3]
          have pD : p ≠ D := (ne_of_none hD' np).symm
          refine ⟨[], by rw [upd_ne pD.symm]; exact hD', by show 0 < sizeLine; decide, fun c o e => ?_, .inr ⟨Nat.lt_succ_self _, p, pD, by rw [upd_same]; rfl, by rw [upd_ne pD, upd_same]⟩⟩
          rw [upd_ne (ne_of_none e nD), upd_ne (ne_of_none (S4 _ _ e) np)]
          exact S4 _ _ e
        · have ny : y.1 ≠ n := fun e => ej ((huni j y hyj).mp e)
          refine ifF (by simp [ny]) ⟨S4, ?_⟩
          rcases hD with ⟨h1, h2⟩ | ⟨h1, h2⟩
          · exact .inl ⟨by omega, h2⟩
          · exact .inr ⟨by omega, h2⟩
      rintro H4 ⟨S4, hD⟩
      rw [List.length_map] at hD
      have il0 := (List.getElem?_eq_some_iff.mp ht0).1
      obtain ⟨p0, p0D, hD, hp0⟩ : ∃ p0, p0 ≠ D ∧ H4 D = some (.lst [.ref p0]) ∧ H4 p0 = some (.tup [.ref u, .ref w]) := by
        rcases hD with ⟨h, _⟩ | ⟨_, h⟩
        · omega
        · exact h
      refine ⟨D, _, 0, _, rfl, rfl, SqL.of hD, rfl, ?_⟩
      refine ⟨p0, _, rfl, SqT.of hp0, rfl, _, _, rfl, _, _, rfl, rfl, ?_⟩
      dsimp only
      have nexN : (zs ++ [x]).map (fun z : Sd => z.1) = wk.reverse.take (i + 1) := by rw [List.map_append, hz1, take_snoc hn, ← ex]; rfl
      have memN : ∀ z ∈ zs ++ [x], z ∈ xs := fun z hz => (List.mem_append.mp hz).elim (hz2 z) fun q => by rw [List.mem_singleton.mp q]; exact xm
      have w2' : H4 u = some (.lst (x.2.1.map V.str)) := S4 _ _ (old w2)
      have w3' : H4 w = some (.lst (x.2.2.map V.str)) := S4 _ _ (old w3)
      have hf4 := S4 _ _ hf
      have st1 : ∀ z ∈ x.2.1, PyData.strOk z = true := fun z hz => strOk_of (okx.2.1 z hz)
      have st2 : ∀ z ∈ x.2.2, PyData.strOk z = true := fun z hz => strOk_of (okx.2.2.1 z hz)
      have lxs : x.2.1.length ≤ 4 ∧ x.2.2.length ≤ 6 := ⟨rox.2.2.1, rox.2.2.2⟩
      have i8 : i < 8 := by omega
      have zl : zs.length ≤ i := by
        have := congrArg List.length hz1
        rw [List.length_map, List.length_take] at this
        omega
      have okZ : ∀ j ∈ longJ (zs.map norm), JnOk 4 j ∧ sortT j.2 = j.2 := fun j hj => by
        obtain ⟨y, hy, rfl⟩ := List.mem_map.mp hj
        obtain ⟨y0, hy0, rfl⟩ := List.mem_map.mp (List.mem_filter.mp hy).1
        obtain ⟨o1, o2, o3, o4, o5⟩ := ok.ok y0 (hz2 y0 hy0)
        obtain ⟨q1, q2, q3, q4⟩ := ro y0 (hz2 y0 hy0)
        exact ⟨⟨fun z hz => o2 z ((sortT_perm _).mem_iff.mp hz), fun z hz => o3 z ((sortT_perm _).mem_iff.mp hz), by show (sortT _).length ≤ _; rw [length_sortT]; exact q3, by show (sortT _).length ≤ _; rw [length_sortT]; omega⟩, sortT_idem' _⟩
      have lz : (longJ (zs.map norm)).length ≤ i := by have := longJ_len (xs := zs.map norm); rw [List.length_map] at this; omega
      have okI : ∀ j ∈ joinL (longJ (zs.map norm)), JnOk 40 j ∧ sortT j.2 = j.2 := fun j hj => by
        have a := joinL_ok (fun x hx => (okZ x hx).1) (longJ (zs.map norm)).length (Nat.le_refl _) j (by rw [List.take_length]; exact hj)
        exact ⟨⟨a.l1, a.l2, by have := a.n1; omega, a.n2⟩, joinL_s2 (fun x hx => (okZ x hx).2) (longJ (zs.map norm)).length (Nat.le_refl _) j (by rw [List.take_length]; exact hj)⟩
      have lus : us.length ≤ i := by rw [hus.length]; have := joinL_len (longJ (zs.map norm)) (longJ (zs.map norm)).length; rw [List.take_length] at this; omega
      have long1 : longJ ((zs ++ [x]).map norm) = longJ (zs.map norm) ++ longJ [norm x] := by unfold longJ; rw [List.map_append, List.filter_append, List.map_append]; rfl
      have fin : ∀ (H' : Hp) (a4 a5 a6 : Option V) (us' : List Addr), (∀ c o, c ∉ [fo] → H4 c = some o → H' c = some o) → H' fo = some (.lst (us'.map V.ref)) → Paired (JnN [fo] H') us' (joinL (longJ ((zs ++ [x]).map norm))) → ∃ (u3 u4 u5 u6 : Option V) (us : List Addr) (zs : List Sd), [some (V.ref l), some (V.ref r), some (V.ref fo), some (V.str n), a4, a5, a6, none] = [some (V.ref l), some (V.ref r), some (V.ref fo), u3, u4, u5, u6, none] ∧ (∀ c o, c ∉ [fo] → H2 c = some o → H' c = some o) ∧ H' fo = some (.lst (us.map V.ref)) ∧ Paired (JnN [fo] H') us (joinL (longJ (zs.map norm))) ∧ zs.map (fun z : Sd => z.1) = wk.reverse.take (i + 1) ∧ ∀ z ∈ zs, z ∈ xs := fun H' a4 a5 a6 us' S hf' hus' => ⟨_, _, _, _, us', zs ++ [x], rfl, fun c o n e => S c o n (S4 _ _ (S3 c o n e)), hf', hus', nexN, memN⟩
      refine ⟨_, rfl, by show 0 ≤ sizeLine; decide, fun e1 H5 S5 ne1 he1 => ?_⟩
      refine ⟨.list (x.2.1.map PyData.str), .list [], .lst (SqL.of (S5 _ _ w2')) (dp_strs _), .lst (SqL.of he1) .nil, shaped_strs _ st1, shaped_strs [] (fun _ h => absurd h List.not_mem_nil), _, rfl, ?_⟩
      rw [show PyData.eqv (.list (x.2.1.map PyData.str)) (.list []) = decide (x.2.1 = []) from eqv_listS x.2.1 []]
      have hf5 := S5 _ _ hf4
      by_cases cn : x.2.1 = []
      · rw [decide_eq_true cn]
        refine ifF rfl ?_
        dsimp only [tNext]
        refine fin H5 _ _ _ us (fun c o n e => S5 _ _ e) hf5 ?_
        have l0 : longJ [norm x] = [] := by
          unfold longJ
          rw [List.filter_cons_of_neg (by show ¬ decide (0 < (sortT x.2.1).length) = true; rw [cn]; decide)]
          rfl
        rw [long1, l0, List.append_nil]
        exact paired_imp hus fun t _ y z => z.off fun c o n e => S5 _ _ (S4 _ _ e)
      · rw [decide_eq_false cn]
        refine ifT rfl ?_
        have l1 : longJ [norm x] = [(sortT x.2.1, sortT x.2.2)] := long_one (x := norm x) (by show 0 < (sortT x.2.1).length; rw [length_sortT]; exact List.length_pos_iff.mpr cn)
        have ej : joinL (longJ ((zs ++ [x]).map norm)) = joinStep (joinL (longJ (zs.map norm))) (sortT x.2.1, sortT x.2.2) := by rw [long1, l1, joinL_snoc]
        rw [ej] at fin
        clear ej long1
        generalize joinL (longJ (zs.map norm)) = js at hus okI fin
        have hus5 : Paired (JnN [fo] H5) us js := paired_imp hus fun t _ y z => z.off fun c o n e => S5 _ _ (S4 _ _ e)
        have w25 := S5 _ _ w2'
        have w35 := S5 _ _ w3'
        clear hus
        have uf' : u ≠ fo := uf
        have lA : ∀ z ∈ x.2.1, LetOk z := okx.2.1
        have lB : ∀ z ∈ x.2.2, LetOk z := okx.2.2.1
        refine ts_mid (fun σ' H' => ∃ (p4 p5 : Addr) (A B : List Str) (a6 : Option V) (us' : List Addr) (js' : List Jn), σ' = [some (V.ref l), some (V.ref r), some (V.ref fo), some (V.str n), some (V.ref p4), some (V.ref p5), a6, none] ∧ (∀ c o, c ∉ [fo] → H5 c = some o → H' c = some o) ∧ H' fo = some (.lst (us'.map V.ref)) ∧ Paired (JnN [fo] H') us' js' ∧ H' p4 = some (.lst (A.map V.str)) ∧ H' p5 = some (.lst (B.map V.str)) ∧ A.length ≤ 44 ∧ B.length ≤ 8 ∧ us'.length ≤ i ∧ joinStep js (sortT x.2.1, sortT x.2.2) = js' ++ [(sortT A, sortT B)]) (fun N hN => ?_) ?_
        · refine ⟨_, rfl, by show 0 ≤ sizeLine; decide, fun e2 H6 S6 ne2 he2 => ?_⟩
          refine ⟨.list (js.map jnD), .list [], .lst (SqL.of (S6 _ _ hf5)) (dp_jns (paired_imp hus5 fun t _ y z => z.at.same S6)), .lst (SqL.of he2) .nil, shaped_jns (fun j hj => (okI j hj).1), shaped_strs [] (fun _ h => absurd h List.not_mem_nil), _, rfl, ?_⟩
          rw [show PyData.eqv (.list (js.map jnD)) (.list []) = decide (js = []) from eqv_jns js []]
          have plain : ∀ H', Same H5 H' → (js.getLast? = none ∨ (∃ y, js.getLast? = some y ∧ sortT (y.1 ++ y.2) ≠ sortT x.2.2)) → N _ H' := fun H' S' hpl => hN _ _ ⟨u, w, x.2.1, x.2.2, u6, us, js, rfl, fun c o _ e => S' _ _ e, S' _ _ hf5, paired_imp hus5 fun t _ y z => z.off fun c o _ e => S' _ _ e, S' _ _ w25, S' _ _ w35, by omega, by omega, lus, by
            unfold joinStep
            rcases hpl with h | ⟨y, h, n⟩
            · rw [h]
            · rw [h]
              dsimp only
              rw [if_neg n]⟩
          rcases List.eq_nil_or_concat us with e | ⟨ts0, tl, e⟩
          · subst e
            cases hus5
            rw [decide_eq_true rfl]
            exact ifF rfl (ifF rfl (plain H6 S6 (.inl rfl)))
          · rw [List.concat_eq_append] at e
            subst e
            obtain ⟨js0, y, rfl, hts0, hy⟩ := paired_last hus5
            rw [decide_eq_false (by simp)]
            obtain ⟨a0, b0, m1, m2, m3, g1, g2, g3⟩ := id hy
            obtain ⟨oky, ys2⟩ := okI y (by simp)
            have g1' := S6 _ _ g1
            have g2' := S6 _ _ g2
            have g3' := S6 _ _ g3
            have hf6 := S6 _ _ hf5
            have e1 : atI ((ts0 ++ [tl]).map V.ref) (-1) = some (V.ref tl) := by rw [atI_last]
            have ly1 := oky.n1
            have ly2 := oky.n2
            refine ifT rfl ?_
            refine ⟨_, rfl, _, rfl, fo, _, -1, _, rfl, rfl, SqL.of hf6, e1, tl, _, 0, _, rfl, rfl, SqT.of g1', rfl, ?_⟩
            refine ⟨_, rfl, _, rfl, fo, _, -1, _, rfl, rfl, SqL.of hf6, e1, tl, _, 1, _, rfl, rfl, SqT.of g1', rfl, ?_⟩
            refine ⟨a0, b0, _, _, rfl, rfl, g2', g3', by rw [List.length_map, List.length_map, sizeLine_eq]; omega, fun c H7 S7 nc hc => ?_⟩
            rw [← List.map_append] at hc
            refine ⟨c, y.1 ++ y.2, rfl, SqL.of hc, by rw [List.length_append]; omega, fun ys q pm so nq => ?_⟩
            have eys := sortT_one pm so
            subst eys
            have S8 : Same H7 (upd H7 q (.lst ((sortT (y.1 ++ y.2)).map V.str))) := Same.upd nq
            have hq : (upd H7 q (.lst ((sortT (y.1 ++ y.2)).map V.str))) q = some (.lst ((sortT (y.1 ++ y.2)).map V.str)) := upd_same
            generalize upd H7 q (.lst ((sortT (y.1 ++ y.2)).map V.str)) = H8 at S8 hq ⊢
            have S58 := S6.trans (S7.trans S8)
            refine ⟨_, rfl, w, x.2.2, rfl, SqL.of (S58 _ _ w35), by omega, fun ys2 q2 pm2 so2 nq2 => ?_⟩
            have eys2 := sortT_one pm2 so2
            subst eys2
            have S9 : Same H8 (upd H8 q2 (.lst ((sortT x.2.2).map V.str))) := Same.upd nq2
            have hq2 : (upd H8 q2 (.lst ((sortT x.2.2).map V.str))) q2 = some (.lst ((sortT x.2.2).map V.str)) := upd_same
            generalize upd H8 q2 (.lst ((sortT x.2.2).map V.str)) = H9 at S9 hq2 ⊢
            have S59 := S58.trans S9
            have oka : ∀ z ∈ sortT (y.1 ++ y.2), PyData.strOk z = true := fun z hz => strOk_of ((List.mem_append.mp ((sortT_perm _).mem_iff.mp hz)).elim (oky.l1 z) (oky.l2 z))
            have okb : ∀ z ∈ sortT x.2.2, PyData.strOk z = true := fun z hz => st2 z ((sortT_perm _).mem_iff.mp hz)
            refine ⟨.list ((sortT (y.1 ++ y.2)).map PyData.str), .list ((sortT x.2.2).map PyData.str), .lst (SqL.of (S9 _ _ hq)) (dp_strs _), .lst (SqL.of hq2) (dp_strs _), shaped_strs _ oka, shaped_strs _ okb, _, rfl, ?_⟩
            rw [eqv_listS]
            have hf9 := S59 _ _ hf5
            refine iteD (fun ce => ?_) (fun ce => ?_)
            · have ce' : sortT (y.1 ++ y.2) = sortT x.2.2 := by simpa using ce
              have lp : ((ts0 ++ [tl]).map V.ref).length = ts0.length + 1 := by rw [List.length_map, List.length_append]; rfl
              refine seq_asg ⟨_, rfl, .inl ⟨rfl, _, SqL.of hf9⟩, fo, _, V.ref tl, rfl, rfl, hf9, by rw [lp, List.map_append]; simp, ?_⟩
              rw [List.map_append, List.map_cons, List.map_nil, List.dropLast_concat]
              have m1' : tl ≠ fo := fun z => m1 (by simp [z])
              have S5u : ∀ c o, c ∉ [fo] → H5 c = some o → upd H9 fo (.lst (ts0.map V.ref)) c = some o := fun c o n e => by rw [upd_ne (fun z => n (by simp [z]))]; exact S59 _ _ e
              have hfu : upd H9 fo (.lst (ts0.map V.ref)) fo = some (.lst (ts0.map V.ref)) := upd_same
              generalize upd H9 fo (.lst (ts0.map V.ref)) = H10 at S5u hfu ⊢
              refine ⟨_, rfl, tl, _, 0, _, rfl, rfl, SqT.of (S5u _ _ m1 g1), rfl, _, rfl, a0, u, _, _, rfl, rfl, S5u _ _ m2 g2, S5u _ _ (not_one uf') w25, by rw [List.length_map, List.length_map, sizeLine_eq]; omega, fun c2 H11 S11 nc2 hc2 => ?_⟩
              rw [← List.map_append] at hc2
              refine ⟨_, rfl, tl, _, 1, _, rfl, rfl, SqT.of (S11 _ _ (S5u _ _ m1 g1)), rfl, ?_⟩
              refine ⟨_, _, rfl, hN _ _ ⟨c2, b0, y.1 ++ x.2.1, y.2, _, ts0, js0, rfl, fun c o n e => S11 _ _ (S5u _ _ n e), S11 _ _ hfu, paired_imp hts0 fun t _ y z => z.off fun c o n e => S11 _ _ (S5u _ _ n e), hc2, S11 _ _ (S5u _ _ m3 g3), by rw [List.length_append]; omega, by omega, by rw [List.length_append] at lus; omega, ?_⟩⟩
              unfold joinStep
              rw [List.getLast?_concat]
              dsimp only
              rw [if_pos ce', List.dropLast_concat, ys2, sortT_of_perm' (List.Perm.append (List.Perm.refl y.1) (sortT_perm x.2.1))]
            · exact plain H9 S59 (.inr ⟨y, by simp, fun z => by simp [z] at ce⟩)
        · rintro σ' H6 ⟨p4, p5, A, B', a6, us', js', rfl, S6, hf6, hus6, h4, h5, lA4, lB5, lus', ej⟩
          refine ⟨_, rfl, .inl ⟨rfl, _, SqL.of hf6⟩, _, rfl, p4, A, rfl, SqL.of h4, by omega, fun ys q pm so nq => ?_⟩
          have eys := sortT_one pm so
          subst eys
          have S7 : Same H6 (upd H6 q (.lst ((sortT A).map V.str))) := Same.upd nq
          have hq : (upd H6 q (.lst ((sortT A).map V.str))) q = some (.lst ((sortT A).map V.str)) := upd_same
          have qf : q ≠ fo := (ne_of_none hf6 nq).symm
          generalize upd H6 q (.lst ((sortT A).map V.str)) = H7 at S7 hq ⊢
          refine ⟨_, rfl, p5, B', rfl, SqL.of (S7 _ _ h5), by omega, fun ys q2 pm so nq2 => ?_⟩
          have eys := sortT_one pm so
          subst eys
          have S8 : Same H7 (upd H7 q2 (.lst ((sortT B').map V.str))) := Same.upd nq2
          have hq2 : (upd H7 q2 (.lst ((sortT B').map V.str))) q2 = some (.lst ((sortT B').map V.str)) := upd_same
          have q2f : q2 ≠ fo := (ne_of_none (S7 _ _ hf6) nq2).symm
          generalize upd H7 q2 (.lst ((sortT B').map V.str)) = H8 at S8 hq2 ⊢
          refine ⟨by show 2 ≤ sizeLine; decide, fun p H9 S9 np hp9 => ?_⟩
          have S69 := S7.trans (S8.trans S9)
          have hf9 := S69 _ _ hf6
          have pf : p ≠ fo := ne_of hp9 hf9 (by intro z; cases z)
          have S6z : ∀ (z : V) c o, c ∉ [fo] → H6 c = some o → upd H9 fo (.lst (us'.map V.ref ++ [z])) c = some o := fun z c o n e => by rw [upd_ne (fun z => n (by simp [z]))]; exact S69 _ _ e
          refine ⟨fo, _, _, rfl, rfl, hf9, by rw [List.length_map, sizeLine_eq]; omega, fin _ _ _ _ (us' ++ [p]) (fun c o n e => S6z _ _ _ n (S6 _ _ n (S5 _ _ e))) (by rw [upd_same, List.map_append]; rfl) ?_⟩
          rw [ej]
          exact paired_snoc (paired_imp hus6 fun t _ y z => z.off (S6z _)) ⟨q, q2, not_one pf, not_one qf, not_one q2f, by rw [upd_ne pf]; exact hp9, by rw [upd_ne qf]; exact S9 _ _ (S8 _ _ hq), by rw [upd_ne q2f]; exact S9 _ _ hq2⟩
    · rintro σ' H3 ⟨u3, u4, u5, u6, us, zs, rfl, S3, hf, hus, hz1, hz2⟩
      rw [List.length_map, List.take_length] at hz1
      exact ⟨_, rfl, k H3 fo us zs (fun c o e => S3 c o (not_one (ne_of_none e nfo)) (S02 _ _ e)) nfo hf (paired_imp hus fun _ _ _ z => z.at) hz1 hz2⟩
end
end E4

set_option Elab.async false
set_option linter.all false
set_option maxRecDepth 100000
set_option maxHeartbeats 2000000
set_option exponentiation.threshold 5000
/-! _law_pairs -/
namespace E4
open PySem PySem.Spec PyProof.Rows L2
open C8 (Cal Mak Met InsC pe_c pe_mt pe_mt0 call_isC clsBody)
section
variable {P : Program} {w : World} {K : PySem.W.Frag} {mg : Str → Option Value} {base : Heap}
abbrev NPa : List Str := ["_law_rows", "_law_route", "_law_row", "_law_word"]
theorem scPa : FnScope NPa ["_law_rows", "_law_route"] (defScope sPairs) := ⟨rfl, rfl, rfl, by decide +kernel, rfl, by decide +kernel, by decide +kernel⟩
def scInP : Scope := { kind := .function, names := [(".0", .local), ("_law_word", .cell), ("_law_rows", .free)], isGenerator := false, isCoroutine := false }
def scRowP : Scope := { kind := .function, names := [(".0", .local), ("_law_row", .local), ("_law_word", .free)], isGenerator := false, isCoroutine := false }
def tRowP (K : PySem.W.Frag) : TE := tOp (rIxL K) (tLc (iList K (tVar 0)) (gName 2) (tTest (tOp rEq (tOp (rIxT K) (tVar 2) (tC (.int 0))) (tVar 3))) (tSl (rSlT K) (tVar 2) (tPart (tC (.int 1))) tNoPart) [2]) (tC (.int 0))
theorem ok_pairs {f : Addr} {fd : FuncData} (F : Fun K "_law_pairs" "_law_pairs" sPairs f fd) (B : Bl mg) : FnOk P w K mg base CX0 2 f fd ["_law_rows", "_law_route"] (spPairs K) := by
  refine F.ok scPa (fun vs H Q E h => ?_) (fun cdv A outer s H vs Q E hr h => ?_)
  · obtain ⟨l, r, ts, wk, xs, rfl, _⟩ := h
    rfl
  · obtain ⟨l, r, ts, wk, xs, rfl, hl, hx, ok, l8, hw, pw, k⟩ := h
    refine ⟨_, pss_one (ps_ret (pe_lc (own := [("_law_word", 3)]) (g := gName 3) (tt := tYes) (te := tRowP K) rfl scPa.nd (pi_list (pe_revL (pv 1)))
          (blkOk_by (own := [("_law_word", 3)]) (N := NPa) (sc := defScope sPairs) (by decide +kernel))
          (fun _ _ _ _ _ => pg_name (i := 3) scPa.nd rfl (Or.inr rfl)) (fun _ _ _ _ _ => pts_nil)
          (fun _ _ _ _ _ => by exact pe_ix ix_list (pe_lc (own := [("_law_row", 2)]) (g := gName 2) (tt := tTest (tOp rEq (tOp (rIxT K) (tVar 2) (tC (.int 0))) (tVar 3))) (te := tSl (rSlT K) (tVar 2) (tPart (tC (.int 1))) tNoPart) rfl scPa.nd (pi_list (pv 0))
            (by refine blkOk_by ?_; show blkC NPa scInP scRowP [("_law_row", 2)] = true; decide +kernel)
            (fun _ _ _ _ _ => pg_name (i := 2) scPa.nd rfl (Or.inl rfl)) (fun _ _ _ _ _ => by exact pts_one (pt_cmpR op_eq (pe_ix ix_tup (pv 2) pe_int (fun _ _ => rfl)) (pv 3) (by rfl))) (fun _ _ _ _ _ => by exact pe_slice sl_tup (pv 2) (po_some pe_int) po_none)) pe_int (fun _ _ => rfl)))), ?_⟩
    have lt := hx.length
    have lw : wk.length = xs.length := by rw [pw.length_eq, List.length_map]
    refine ⟨_, rfl, r, _, rfl, SqL.of hw, fun rv nrv => ?_⟩
    have S02 : Same H (upd H rv (.lst (wk.map V.str).reverse)) := Same.upd nrv
    have hrv : (upd H rv (.lst (wk.map V.str).reverse)) rv = some (.lst (wk.reverse.map V.str)) := by rw [upd_same, List.map_reverse]
    generalize upd H rv (.lst (wk.map V.str).reverse) = H2 at S02 hrv ⊢
    refine ⟨rv, rfl, ⟨_, SqL.of hrv⟩, fun D nD => ?_⟩
    refine lc_it (walk_list (xs := wk.reverse.map V.str)) (fun i H' => Same H2 H' ∧ ∃ us zs, H' D = some (.lst (us.map V.ref)) ∧ Paired (JnN [D] H') us (zs.map (·.2)) ∧ zs.map (fun z : Sd => z.1) = wk.reverse.take i ∧ ∀ z ∈ zs, z ∈ xs) ⟨Same.upd nD, [], [], upd_same, .nil, rfl, fun _ h => absurd h List.not_mem_nil⟩ (fun i H' _ q => SqL.of (q.1 _ _ hrv)) ?_ ?_
    · rintro i v Hx H3 hi ⟨S3, us, zs, hD, hus, hz1, hz2⟩ ⟨rfl, hxi⟩
      rw [List.length_map, List.length_reverse] at hi
      rw [List.getElem?_map] at hxi
      obtain ⟨n, hn, rfl⟩ := Option.map_eq_some_iff.mp hxi
      have nm : n ∈ xs.map (·.1) := pw.mem_iff.mp (List.mem_reverse.mp (List.mem_of_getElem? hn))
      obtain ⟨i0, t0, x, ht0, hx0, ex, huni⟩ := pick_row lt ok.nd nm
      obtain ⟨x', hx', u, w, w1, w2, w3⟩ := paired_at hx ht0
      rw [hx0] at hx'
      cases hx'
      have xm := List.mem_of_getElem? hx0
      have old : ∀ {c : Addr} {o : HO}, H c = some o → H3 c = some o := fun {c o} e => S3 _ _ (S02 _ _ e)
      have zl : zs.length ≤ i := by
        have := congrArg List.length hz1
        rw [List.length_map, List.length_take] at this
        omega
      have lus : us.length ≤ i := by rw [hus.length, List.length_map]; exact zl
      have uD : u ≠ D := ne_of_none (S02 _ _ w2) nD
      have wD : w ≠ D := ne_of_none (S02 _ _ w3) nD
      refine ⟨rfl, _, rfl, l, rfl, ⟨_, SqL.of (old hl)⟩, fun E nE => lc_it (walk_list (xs := ts.map V.ref)) (fun j H' => Same H3 H' ∧ ((j ≤ i0 ∧ H' E = some (.lst [])) ∨ (i0 < j ∧ ∃ p0, H3 p0 = none ∧ H' E = some (.lst [.ref p0]) ∧ H' p0 = some (.tup [.ref u, .ref w])))) ⟨Same.upd nE, .inl ⟨Nat.zero_le _, upd_same⟩⟩ (fun j H' _ q => SqL.of (q.1 _ _ (old hl))) ?_ ?_⟩
      · rintro j v Hy H4 hj ⟨S4, hE⟩ ⟨rfl, hxj⟩
        rw [List.length_map] at hj
        rw [List.getElem?_map] at hxj
        obtain ⟨t, htt, rfl⟩ := Option.map_eq_some_iff.mp hxj
        obtain ⟨y, hyj, d1, d2, g0, g1, g2⟩ := paired_at hx htt
        refine ⟨rfl, _, rfl, t, _, 0, _, rfl, rfl, SqT.of (S4 _ _ (old g0)), rfl, _, rfl, rfl, _, rfl, ?_⟩
        by_cases ej : j = i0
        · subst ej
          rw [hx0] at hyj
          cases hyj
          rw [ht0] at htt
          cases htt
          have g0' := S4 _ _ (old g0)
          have hE' : H4 E = some (.lst []) := by
            rcases hE with ⟨_, h⟩ | ⟨h, _⟩
            · exact h
            · exact absurd h (Nat.lt_irrefl _)
          rw [w1] at g0
          cases g0
          refine ifT (by rw [ex]; simp) ?_
          refine ⟨_, rfl, 1, rfl, t0, _, rfl, SqT.of g0', (fun h => absurd (show HT.sIx 3 0 (some 1) = 0 from h.1) (by decide)), fun p np => ?_⟩
          rw [cut3]
          have pE : p ≠ E := (ne_of_none hE' np).symm
          refine ⟨[], by rw [upd_ne pE.symm]; exact hE', by show 0 < sizeLine; decide, fun c o e => ?_, .inr ⟨Nat.lt_succ_self _, p, S4.free np, by rw [upd_same]; rfl, by rw [upd_ne pE, upd_same]⟩⟩
          rw [upd_ne (ne_of_none e nE), upd_ne (ne_of_none (S4 _ _ e) np)]
          exact S4 _ _ e
        · have ny : y.1 ≠ n := fun e => ej ((huni j y hyj).mp e)
          refine ifF (by simp [ny]) ⟨S4, ?_⟩
          rcases hE with ⟨h1, h2⟩ | ⟨h1, h2⟩
          · exact .inl ⟨by omega, h2⟩
          · exact .inr ⟨by omega, h2⟩
      rintro H4 ⟨S4, hE⟩
      rw [List.length_map] at hE
      have il0 := (List.getElem?_eq_some_iff.mp ht0).1
      obtain ⟨p0, np0, hE, hp0⟩ : ∃ p0, H3 p0 = none ∧ H4 E = some (.lst [.ref p0]) ∧ H4 p0 = some (.tup [.ref u, .ref w]) := by
        rcases hE with ⟨h, _⟩ | ⟨_, h⟩
        · omega
        · exact h
      have pD : p0 ≠ D := (ne_of_none hD np0).symm
      have off : ∀ {c : Addr} {o u : HO}, c ≠ D → H4 c = some o → (upd H4 D u) c = some o := fun n e => by rw [upd_ne n]; exact e
      refine ⟨E, _, 0, _, rfl, rfl, SqL.of hE, rfl, us.map V.ref, S4 _ _ hD, by rw [List.length_map, sizeLine_eq]; omega, fun c o e => off (ne_of_none e nD) (S4 _ _ (S3 _ _ e)), us ++ [p0], zs ++ [x], by rw [upd_same, List.map_append]; rfl, ?_, by rw [List.map_append, hz1, take_snoc hn, ← ex]; rfl, fun z hz => (List.mem_append.mp hz).elim (hz2 z) fun q => by rw [List.mem_singleton.mp q]; exact xm⟩
      rw [List.map_append]
      exact paired_snoc (paired_imp hus fun t _ y z => z.off fun c o n e => off (fun q => n (by simp [q])) (S4 _ _ e)) ⟨u, w, not_one pD, not_one uD, not_one wD, off pD hp0, off uD (S4 _ _ (old w2)), off wD (S4 _ _ (old w3))⟩
    · rintro H3 ⟨S3, us, zs, hD, hus, hz1, hz2⟩
      rw [List.length_map, List.take_length] at hz1
      exact k H3 D us zs (S02.trans S3) (S02.free nD) hD (paired_imp hus fun _ _ _ z => z.at) hz1 hz2
end
end E4

set_option Elab.async false
set_option linter.all false
set_option maxRecDepth 100000
set_option maxHeartbeats 2000000
set_option exponentiation.threshold 5000
/-! _law_many_cells, _law_run, _law_at -/
namespace E4
open PySem PySem.Spec PyProof.Rows L2
open C8 (Cal Mak Met InsC pe_c pe_mt pe_mt0 call_isC clsBody)
abbrev sMany : Stmt := top 36
abbrev sRun : Stmt := top 38
abbrev sAtL : Stmt := top 40
theorem many_ltW {vl : Vls} : ∀ {xs : List Sd}, ValsOk vl xs → (∀ x ∈ xs, RowW x) → (manyI vl xs).natAbs < 2 ^ (1 + xs.length * 1700)
  | [], _, _ => by show (1 : Int).natAbs < 2 ^ (1 + 0 * 1700); decide
  | x :: xs, v, ok => by
    have ih := many_ltW (vl := vl) (xs := xs) ⟨fun y hy => v.mem y (List.mem_cons_of_mem _ hy), v.bd⟩ fun y hy => ok y (List.mem_cons_of_mem _ hy)
    have h1 := tm_lt (m := x.2.1) v.bd fun z hz => v.mem x List.mem_cons_self z (.inl hz)
    have e : manyI vl (x :: xs) = tm vl x.2.1 * manyI vl xs := rfl
    have l4 := (ok x List.mem_cons_self).2.2.1
    rw [e, Int.natAbs_mul]
    have p3 : 2 ^ (1 + x.2.1.length * 400) * 2 ^ (1 + xs.length * 1700) ≤ 2 ^ (1 + (x :: xs).length * 1700) := by rw [← Nat.pow_add]; exact Nat.pow_le_pow_right (by decide) (by rw [List.length_cons]; omega)
    exact Nat.lt_of_lt_of_le (Nat.mul_lt_mul'' h1 ih) p3
def runS (vl : Vls) (acc : List Int) (j : Jn) : List Int := (List.range (tm vl j.1).toNat).flatMap fun (i : Nat) => acc.map fun s => (i : Int) * tm vl j.2 + s
def runL (vl : Vls) (js : List Jn) : List Int := js.foldl (runS vl) [0]
def atS (vl : Vls) (s : Int × Int) (j : Jn) : Int × Int := (s.1 + s.2 % tm vl j.1 * tm vl j.2, s.2 / tm vl j.1)
def atL (vl : Vls) (js : List Jn) (n : Int) : Int × Int := js.foldl (atS vl) (0, n)
def atV (vl : Vls) (js : List Jn) (n : Int) : Option Int := if (atL vl js n).2 = 0 then some (atL vl js n).1 else none
def oV : Option Int → V
  | none => .non
  | some i => .int i
theorem flat_len {α β : Type} {f : α → List β} {n : Nat} (h : ∀ a, (f a).length = n) : ∀ l : List α, (l.flatMap f).length = l.length * n
  | [] => by simp
  | a :: l => by rw [List.flatMap_cons, List.length_append, flat_len h l, h a, List.length_cons, Nat.add_mul, Nat.one_mul, Nat.add_comm]
theorem run_len {vl : Vls} {xs : List Sd} (v : ValsOk vl xs) : ∀ i, i ≤ xs.length → (((runL vl ((xs.take i).map (·.2))).length : Nat) : Int) = manyI vl (xs.take i) := by
  intro i
  induction i with
  | zero => intro _; rfl
  | succ i ih =>
    intro hi
    have hx : xs[i]? = some xs[i] := List.getElem?_eq_getElem (by omega)
    generalize xs[i] = x at hx
    have p := tm_pos (m := x.2.1) v.bd fun z hz => v.mem x (List.mem_of_getElem? hx) z (.inl hz)
    have e2 : runL vl ((xs.take (i + 1)).map (·.2)) = runS vl (runL vl ((xs.take i).map (·.2))) x.2 := by
      rw [take_snoc hx, List.map_append]
      unfold runL
      rw [List.foldl_append]
      rfl
    rw [e2, take_snoc hx, many_snoc, ← ih (by omega)]
    generalize runL vl ((xs.take i).map (·.2)) = acc
    unfold runS
    rw [flat_len (n := acc.length) (fun a => by rw [List.length_map]), List.length_range, Int.natCast_mul, Int.toNat_of_nonneg (by omega), Int.mul_comm]
def spRun (K : PySem.W.Frag) : Sp := fun vs H Q _ => ∃ (p d : Addr) (ts : List Addr) (xs : List Sd) (vl : Vls), vs = [.ref p, .ref d] ∧ H p = some (.lst (ts.map V.ref)) ∧ Paired (JnAt H) ts (xs.map (·.2)) ∧ H d = some (.dK (dI vl)) ∧ ValsOk vl xs ∧ (∀ x ∈ xs, x.2.1.length ≤ 100 ∧ x.2.2.length ≤ 100) ∧ manyI vl xs ≤ 400 ∧
  ∀ q H', Same H H' → H q = none → H' q = some (.lst ((runL vl (xs.map (·.2))).map V.int)) → Q (.ref q) H'
def spAtL (K : PySem.W.Frag) : Sp := fun vs H Q _ => ∃ (p d : Addr) (n : Int) (ts : List Addr) (xs : List Sd) (vl : Vls), vs = [.ref p, .ref d, .int n] ∧ H p = some (.lst (ts.map V.ref)) ∧ Paired (JnAt H) ts (xs.map (·.2)) ∧ H d = some (.dK (dI vl)) ∧ ValsOk vl xs ∧ (∀ x ∈ xs, RowW x) ∧ Q (oV (atV vl (xs.map (·.2)) n)) H
section
variable {P : Program} {w : World} {K : PySem.W.Frag} {mg : Str → Option Value} {base : Heap}
theorem scMany : FnScope ["_law_rows", "_law_sizes_here", "_law_found", "_law_row"] ["_law_rows", "_law_sizes_here"] (defScope sMany) := ⟨rfl, rfl, rfl, by decide +kernel, rfl, by decide +kernel, by decide +kernel⟩
theorem ok_many {f : Addr} {fd : FuncData} (F : Fun K "_law_many_cells" "_law_many_cells" sMany f fd) (Tm : Cal P w K mg base 1 "_law_times" (spTimes K) []) : FnOk P w K mg base CX0 2 f fd ["_law_rows", "_law_sizes_here"] (spMany K) := by
  refine F.ok scMany (fun vs H Q E h => ?_) (fun cdv A outer s H vs Q E hr h => ?_)
  · obtain ⟨l, d, ts, xs, vl, rfl, _⟩ := h
    rfl
  · obtain ⟨l, d, ts, xs, vl, rfl, hl, hx, hd, vok, ok, l8, k⟩ := h
    refine ⟨_, pss_cons (ps_set (i := 2) scMany.nd rfl (Or.inl rfl) pe_int)
      (pss_cons (ps_for PassesOwn.never rfl (pi_list (pv 0)) (pg_name (i := 3) scMany.nd rfl (Or.inl rfl))
        (pss_one (ps_set (i := 2) scMany.nd rfl (Or.inl rfl) (pe_op op_mulW (pv 2) (pe_c Tm hr (by decide) rfl (pa_cons (pe_ix ix_tup (pv 3) pe_int (fun _ _ => rfl)) (pa_cons (pv 1) pa_nil)))))))
      (pss_one (ps_ret (pv 2)))), ?_⟩
    have lt := hx.length
    refine seq_asg ⟨_, rfl, l, rfl, ⟨_, hl⟩, for_it (walk_list (xs := ts.map V.ref)) (fun i σ' H' => H' = H ∧ ∃ u3, σ' = [some (.ref l), some (.ref d), some (.int (manyI vl (xs.take i))), u3]) ⟨rfl, none, rfl⟩ (fun i σ' H' _ q => by rw [q.1]; exact hl) ?_ ?_⟩
    · rintro i v σ' H2 H3 hi ⟨rfl, u3, rfl⟩ ⟨rfl, hxi⟩
      rw [List.length_map] at hi
      rw [List.getElem?_map] at hxi
      obtain ⟨t, htt, rfl⟩ := Option.map_eq_some_iff.mp hxi
      obtain ⟨y, hy, c1, c2, r0, r1, r2⟩ := paired_at hx htt
      have ym : ∀ z ∈ y.2.1, z ∈ vl.map (·.1) := fun z hz => vok.mem y (List.mem_of_getElem? hy) z (.inl hz)
      have y3 := (ok y (List.mem_of_getElem? hy)).2.2.1
      have ml := many_ltW (vok.take i) fun x hx1 => ok x (List.mem_of_mem_take hx1)
      have tl : (xs.take i).length ≤ 13 := by rw [List.length_take]; omega
      refine ⟨_, rfl, _, rfl, t, _, 1, _, rfl, rfl, SqT.of r0, rfl, _, rfl, c1, d, y.2.1, vl, rfl, SqL.of r1, hd, ym, vok.bd, by omega, _, _, rfl, rfl, cmw ml (tm_lt vok.bd ym) (by omega) (by omega) (by omega), rfl, some (.ref t), ?_⟩
      rw [take_snoc hy, many_snoc]
      rfl
    · rintro σ' H2 ⟨rfl, u3, rfl⟩
      rw [List.length_map, lt, List.take_length]
      exact ⟨_, rfl, k⟩
theorem scRun : FnScope ["_law_pairs_here", "_law_sizes_here", "_law_found", "_law_span", "_law_step", "_law_longer", "_law_index", "_law_spot"] ["_law_pairs_here", "_law_sizes_here"] (defScope sRun) := ⟨rfl, rfl, rfl, by decide +kernel, rfl, by decide +kernel, by decide +kernel⟩
theorem ok_run {f : Addr} {fd : FuncData} (F : Fun K "_law_run" "_law_run" sRun f fd) (B : E3.Bt4 mg) (Tm : Cal P w K mg base 1 "_law_times" (spTimes K) []) : FnOk P w K mg base CX0 2 f fd ["_law_pairs_here", "_law_sizes_here"] (spRun K) := by
  refine F.ok scRun (fun vs H Q E h => ?_) (fun cdv A outer s H vs Q E hr h => ?_)
  · obtain ⟨p, d, ts, xs, vl, rfl, _⟩ := h
    rfl
  · obtain ⟨p, d, ts, xs, vl, rfl, hp, hx, hd, vok, ok, m4, k⟩ := h
    refine ⟨_, pss_cons (ps_set (i := 2) scRun.nd rfl (Or.inl rfl) (pe_lstS (pa_cons pe_int pa_nil)))
      (pss_cons (ps_for PassesOwn.never rfl (pi_list (pv 0)) (pg_tup rfl (pgs_cons (pg_name (i := 3) scRun.nd rfl (Or.inl rfl)) (pgs_cons (pg_name (i := 4) scRun.nd rfl (Or.inr rfl)) pgs_nil)))
        (pss_cons (ps_set (i := 5) scRun.nd rfl (Or.inl rfl) (pe_lstS pa_nil))
        (pss_cons (ps_for PassesOwn.never rfl (pi_range1 rfl B.rng_ (pa_cons (pe_c Tm hr (by decide) rfl (pa_cons (pv 3) (pa_cons (pv 1) pa_nil))) pa_nil)) (pg_name (i := 6) scRun.nd rfl (Or.inr rfl))
          (pss_one (ps_set (i := 5) scRun.nd rfl (Or.inl rfl) (pe_op op_catS (pv 5) (pe_lc (own := [("_law_spot", 7)]) (g := gName 7) (tt := tYes) (te := tOp (rI0 fun i j => .int (i + j)) (tOp (rI CMulW fun i j => .int (i * j)) (tVar 6) (tCall (spTimes K) [] C8.E0 (tCons (tVar 4) (tCons (tVar 1) tNil)))) (tVar 7)) rfl scRun.nd (pi_list (pv 2))
            (blkOk_by (own := [("_law_spot", 7)]) (N := ["_law_pairs_here", "_law_sizes_here", "_law_found", "_law_span", "_law_step", "_law_longer", "_law_index", "_law_spot"]) (sc := defScope sRun) (by decide +kernel))
            (fun _ _ _ _ _ => pg_name (i := 7) scRun.nd rfl (Or.inl rfl)) (fun _ _ _ _ _ => pts_nil) (fun _ _ _ _ _ => by exact pe_op op_add (pe_op op_mulW (pv 6) (pe_c Tm (by first | exact hr | assumption) (by decide) rfl (pa_cons (pv 4) (pa_cons (pv 1) pa_nil)))) (pv 7)))))))
        (pss_one (ps_set (i := 2) scRun.nd rfl (Or.inl rfl) (pv 5))))))
      (pss_one (ps_ret (pv 2)))), ?_⟩
    have lt := hx.length
    rw [List.length_map] at lt
    refine seq_asg ⟨by show 1 ≤ sizeLine; decide, fun f0 H1 S1 n1 h1 => ?_⟩
    refine ⟨_, rfl, p, rfl, ⟨_, SqL.of (S1 _ _ hp)⟩, for_it (walk_list (xs := ts.map V.ref)) (fun i σ' H' => ∃ g u3 u4 u5 u6, σ' = [some (.ref p), some (.ref d), some (.ref g), u3, u4, u5, u6, none] ∧ Same H H' ∧ H g = none ∧ H' g = some (.lst ((runL vl ((xs.take i).map (·.2))).map V.int))) ⟨f0, none, none, none, none, rfl, S1, n1, h1⟩ (fun i σ' H' _ q => let ⟨_, _, _, _, _, _, S, _⟩ := q; SqL.of (S _ _ hp)) ?_ ?_⟩
    · rintro i v σ' H2 H3 hi ⟨g, u3, u4, u5, u6, rfl, S2, ng, hg⟩ ⟨rfl, hxi⟩
      rw [List.length_map] at hi
      rw [List.getElem?_map] at hxi
      obtain ⟨t, htt, rfl⟩ := Option.map_eq_some_iff.mp hxi
      obtain ⟨j, hj, c1, c2, r0, r1, r2⟩ := paired_at hx htt
      rw [List.getElem?_map] at hj
      obtain ⟨y, hy, rfl⟩ := Option.map_eq_some_iff.mp hj
      have ym := List.mem_of_getElem? hy
      have m1 : ∀ z ∈ y.2.1, z ∈ vl.map (·.1) := fun z hz => vok.mem y ym z (.inl hz)
      have m2 : ∀ z ∈ y.2.2, z ∈ vl.map (·.1) := fun z hz => vok.mem y ym z (.inr hz)
      obtain ⟨y3, y4⟩ := ok y ym
      have p1 := tm_pos vok.bd m1
      have b1 := tm_lt vok.bd m1
      have b2 := tm_lt vok.bd m2
      have mm : manyI vl (xs.take i) * tm vl y.2.1 ≤ 400 := by
        have := many_mono vok (xs.length - (i + 1)) (i + 1) (by omega)
        rw [take_snoc hy, many_snoc] at this
        omega
      have mp := many_pos (vok.take i)
      have t4 : tm vl y.2.1 ≤ 400 := by
        have : 1 * tm vl y.2.1 ≤ manyI vl (xs.take i) * tm vl y.2.1 := Int.mul_le_mul_of_nonneg_right mp (by omega)
        omega
      have ra := run_len vok i (by omega)
      have e2 : runL vl ((xs.take (i + 1)).map (·.2)) = runS vl (runL vl ((xs.take i).map (·.2))) y.2 := by
        rw [take_snoc hy, List.map_append]
        unfold runL
        rw [List.foldl_append]
        rfl
      rw [e2]
      generalize runL vl ((xs.take i).map (·.2)) = acc at hg ra
      have la : ∀ k, k ≤ (tm vl y.2.1).toNat → k * acc.length ≤ 400 := fun k hk => by
        have h1 : ((k * acc.length : Nat) : Int) ≤ tm vl y.2.1 * manyI vl (xs.take i) := by
          rw [Int.natCast_mul, ra]
          exact Int.mul_le_mul_of_nonneg_right (by omega) (by omega)
        rw [Int.mul_comm] at mm
        omega
      have la0 : acc.length ≤ 400 := by have := la 1 (by omega); omega
      refine ⟨t, _, rfl, SqT.of (S2 _ _ r0), rfl, _, _, rfl, _, _, rfl, rfl, ?_⟩
      refine seq_asg ⟨by show 0 ≤ sizeLine; decide, fun lo H4 S4 nlo hlo => ?_⟩
      have S04 := S2.trans S4
      have hg4 := S4 _ _ hg
      refine ⟨_, rfl, _, rfl, c1, d, y.2.1, vl, rfl, SqL.of (S04 _ _ r1), S04 _ _ hd, m1, vok.bd, by omega, ?_⟩
      refine ⟨tm vl y.2.1, rfl, by omega, by omega, for_it (walk_range (n := (tm vl y.2.1).toNat)) (fun k σ' H' => ∃ g2 u6, σ' = [some (.ref p), some (.ref d), some (.ref g), some (.ref c1), some (.ref c2), some (.ref g2), u6, none] ∧ Same H4 H' ∧ H g2 = none ∧ H' g2 = some (.lst (((List.range k).flatMap fun (i : Nat) => acc.map fun s => (i : Int) * tm vl y.2.2 + s).map V.int))) ⟨lo, _, rfl, fun _ _ e => e, S2.free nlo, hlo⟩ (fun _ _ _ _ _ => trivial) ?_ ?_⟩
      · rintro k v σ' Hx H5 hk ⟨g2, u6, rfl, S5, ng2, hg2⟩ ⟨rfl, rfl⟩
        have S05 := S04.trans S5
        have hg5 := S5 _ _ hg4
        refine ⟨_, rfl, _, rfl, g, rfl, ⟨_, SqL.of hg5⟩, fun D nD => lc_it (walk_list (xs := acc.map V.int)) (fun j H' => Same H5 H' ∧ H' D = some (.lst (((acc.take j).map fun s => (k : Int) * tm vl y.2.2 + s).map V.int))) ⟨Same.upd nD, upd_same⟩ (fun j H' _ q => SqL.of (q.1 _ _ hg5)) ?_ ?_⟩
        · rintro j v Hy H6 hj ⟨S6, hD⟩ ⟨rfl, hxj⟩
          rw [List.length_map] at hj
          rw [List.getElem?_map] at hxj
          obtain ⟨sp, hsp, rfl⟩ := Option.map_eq_some_iff.mp hxj
          have S06 := S05.trans S6
          have ki : k < (tm vl y.2.1).toNat := hk
          have al : acc.length ≤ 400 := la0
          refine ⟨rfl, _, rfl, _, rfl, _, rfl, c2, d, y.2.2, vl, rfl, SqL.of (S06 _ _ r2), S06 _ _ hd, m2, vok.bd, by omega, _, _, rfl, rfl, cmw (a := 1 + y.2.1.length * 400) (by omega) b2 (by omega) (by omega) (by omega), _, rfl, _, _, rfl, rfl, _, hD, by rw [List.length_map, List.length_map, List.length_take, sizeLine_eq]; omega, fun c o e => by rw [upd_ne (ne_of_none e nD)]; exact S6 _ _ e, ?_⟩
          rw [upd_same, take_snoc hsp, List.map_append, List.map_append, Int.zero_add]
          rfl
        · rintro H6 ⟨S6, hD⟩
          rw [List.length_map, List.take_length] at hD
          have l1 := la k (Nat.le_of_lt hk)
          have l2 := la0
          refine ⟨g2, D, _, _, rfl, rfl, S6 _ _ hg2, hD, by rw [List.length_map, List.length_map, List.length_map, flat_len (n := acc.length) (fun a => by rw [List.length_map]), List.length_range, sizeLine_eq]; omega, fun e H7 S7 ne he => ⟨e, _, rfl, S5.trans (S6.trans S7), (S05.trans S6).free ne, ?_⟩⟩
          rw [he, List.range_succ, List.flatMap_append, List.map_append]
          simp
      · rintro σ' H5 ⟨g2, u6, rfl, S5, ng2, hg2⟩
        exact ⟨_, rfl, g2, _, _, _, _, rfl, S04.trans S5, ng2, hg2⟩
    · rintro σ' H2 ⟨g, u3, u4, u5, u6, rfl, S2, ng, hg⟩
      rw [List.length_map, lt, List.take_length] at hg
      exact ⟨_, rfl, k g H2 S2 ng hg⟩
theorem scAtL : FnScope ["_law_pairs_here", "_law_sizes_here", "_law_spot", "_law_found", "_law_span", "_law_step", "_law_many"] ["_law_pairs_here", "_law_sizes_here", "_law_spot"] (defScope sAtL) := ⟨rfl, rfl, rfl, by decide +kernel, rfl, by decide +kernel, by decide +kernel⟩
theorem ok_atL {f : Addr} {fd : FuncData} (F : Fun K "_law_at" "_law_at" sAtL f fd) (Tm : Cal P w K mg base 1 "_law_times" (spTimes K) []) : FnOk P w K mg base CX0 2 f fd ["_law_pairs_here", "_law_sizes_here", "_law_spot"] (spAtL K) := by
  refine F.ok scAtL (fun vs H Q E h => ?_) (fun cdv A outer s H vs Q E hr h => ?_)
  · obtain ⟨p, d, n, ts, xs, vl, rfl, _⟩ := h
    rfl
  · obtain ⟨p, d, n, ts, xs, vl, rfl, hp, hx, hd, vok, ok, k⟩ := h
    refine ⟨_, pss_cons (ps_set (i := 3) scAtL.nd rfl (Or.inl rfl) pe_int)
      (pss_cons (ps_for PassesOwn.never rfl (pi_list (pv 0)) (pg_tup rfl (pgs_cons (pg_name (i := 4) scAtL.nd rfl (Or.inl rfl)) (pgs_cons (pg_name (i := 5) scAtL.nd rfl (Or.inl rfl)) pgs_nil)))
        (pss_cons (ps_set (i := 6) scAtL.nd rfl (Or.inl rfl) (pe_c Tm hr (by decide) rfl (pa_cons (pv 4) (pa_cons (pv 1) pa_nil))))
        (pss_cons (ps_set (i := 3) scAtL.nd rfl (Or.inl rfl) (pe_op op_add (pv 3) (pe_op op_mulW (pe_op op_mod (pv 2) (pv 6)) (pe_c Tm hr (by decide) rfl (pa_cons (pv 5) (pa_cons (pv 1) pa_nil))))))
        (pss_one (ps_set (i := 2) scAtL.nd rfl (Or.inl rfl) (pe_op op_fdivW (pv 2) (pv 6)))))))
      (pss_one (ps_ret (pe_ifExp (pt_cmpR op_eq (pv 2) pe_int (by rfl)) (pv 3) pe_non)))), ?_⟩
    have lt := hx.length
    rw [List.length_map] at lt
    refine seq_asg ⟨_, rfl, p, rfl, ⟨_, SqL.of hp⟩, for_it (walk_list (xs := ts.map V.ref)) (fun i σ' H' => H' = H ∧ ∃ u4 u5 u6, σ' = [some (.ref p), some (.ref d), some (.int (atL vl ((xs.take i).map (·.2)) n).2), some (.int (atL vl ((xs.take i).map (·.2)) n).1), u4, u5, u6]) ⟨rfl, none, none, none, rfl⟩ (fun i σ' H' _ q => by rw [q.1]; exact SqL.of hp) ?_ ?_⟩
    · rintro i v σ' H2 H3 hi ⟨rfl, u4, u5, u6, rfl⟩ ⟨rfl, hxi⟩
      rw [List.length_map] at hi
      rw [List.getElem?_map] at hxi
      obtain ⟨t, htt, rfl⟩ := Option.map_eq_some_iff.mp hxi
      obtain ⟨j, hj, c1, c2, r0, r1, r2⟩ := paired_at hx htt
      rw [List.getElem?_map] at hj
      obtain ⟨y, hy, rfl⟩ := Option.map_eq_some_iff.mp hj
      have ym := List.mem_of_getElem? hy
      have m1 : ∀ z ∈ y.2.1, z ∈ vl.map (·.1) := fun z hz => vok.mem y ym z (.inl hz)
      have m2 : ∀ z ∈ y.2.2, z ∈ vl.map (·.1) := fun z hz => vok.mem y ym z (.inr hz)
      obtain ⟨_, _, y3, y4⟩ := ok y ym
      have p1 := tm_pos vok.bd m1
      have b1 := tm_lt vok.bd m1
      have b2 := tm_lt vok.bd m2
      refine ⟨t, _, rfl, SqT.of r0, rfl, _, _, rfl, _, _, rfl, rfl, ?_⟩
      refine seq_asg ⟨_, rfl, _, rfl, c1, d, y.2.1, vl, rfl, SqL.of r1, hd, m1, vok.bd, by omega, ?_⟩
      generalize hs : atL vl ((xs.take i).map (·.2)) n = s
      have e2 : atL vl ((xs.take (i + 1)).map (·.2)) n = atS vl s y.2 := by
        rw [take_snoc hy, List.map_append, ← hs]
        unfold atL
        rw [List.foldl_append]
        rfl
      have m0 : 0 ≤ s.2 % tm vl y.2.1 := Int.emod_nonneg _ (by omega)
      have ml := Int.emod_lt_of_pos s.2 (show 0 < tm vl y.2.1 by omega)
      refine seq_asg ⟨_, rfl, _, rfl, _, rfl, s.2, tm vl y.2.1, rfl, rfl, by omega, _, rfl, _, rfl, c2, d, y.2.2, vl, rfl, SqL.of r2, hd, m2, vok.bd, by omega, _, _, rfl, rfl, cmw (a := 1 + y.2.1.length * 400) (by omega) b2 (by omega) (by omega) (by omega), _, _, rfl, rfl, ?_⟩
      refine ⟨_, rfl, _, rfl, s.2, tm vl y.2.1, rfl, rfl, ⟨by omega, ?_⟩, rfl, some (.ref c1), some (.ref c2), some (.int (tm vl y.2.1)), ?_⟩
      · have : (tm vl y.2.1).natAbs.log2 < 1 + y.2.1.length * 400 := (Nat.log2_lt (by omega)).mpr b1
        omega
      · rw [e2]
        rfl
    · rintro σ' H2 ⟨rfl, u4, u5, u6, rfl⟩
      rw [List.length_map, lt, List.take_length]
      unfold atV at k
      generalize atL vl (xs.map (·.2)) n = s at k ⊢
      refine ⟨_, rfl, rfl, _, rfl, ?_⟩
      by_cases c : s.2 = 0
      · rw [if_pos c] at k
        exact ifT (by rw [c]; rfl) ⟨_, rfl, k⟩
      · rw [if_neg c] at k
        exact ifF (by simp [c]) k
end
end E4

set_option Elab.async false
set_option linter.all false
set_option maxRecDepth 100000
set_option maxHeartbeats 1000000
/-! mathematics of joined runs -/
namespace E4
open PySem PySem.Spec PyProof.Rows L2
/-- its letters have values -/
def LetJ (vl : Vls) (j : Jn) : Prop := ∀ z, z ∈ j.1 ∨ z ∈ j.2 → z ∈ vl.map (·.1)
abbrev Av (vl : Vls) : Prop := AllV (fun n => 1 ≤ n ∧ n.natAbs < 2 ^ 400) vl
theorem LetJ.p1 {vl : Vls} {j : Jn} (h : LetJ vl j) (av : Av vl) : 1 ≤ tm vl j.1 := tm_pos av fun z hz => h z (.inl hz)
theorem LetJ.p2 {vl : Vls} {j : Jn} (h : LetJ vl j) (av : Av vl) : 1 ≤ tm vl j.2 := tm_pos av fun z hz => h z (.inr hz)
structure StepOk {β : Type} (vl : Vls) (S : β → Jn → β) : Prop where
  cong : ∀ acc a b, tm vl a.1 = tm vl b.1 → tm vl a.2 = tm vl b.2 → S acc a = S acc b
  nil : ∀ acc j, tm vl j.1 = 1 → S acc j = acc
  merge : ∀ acc (y x : Jn), 1 ≤ tm vl y.1 → 1 ≤ tm vl x.1 → tm vl x.2 = tm vl y.1 * tm vl y.2 → S acc (y.1 ++ x.1, y.2) = S (S acc y) x
theorem tm_sort (vl : Vls) (l : List Str) : tm vl (sortT l) = tm vl l := tm_perm (sortT_perm l)
theorem joinStep_lets {vl : Vls} {f : List Jn} {x : Jn} (hf : ∀ j ∈ f, LetJ vl j) (hx : LetJ vl x) : ∀ j ∈ joinStep f x, LetJ vl j := by
  intro j hj
  unfold joinStep at hj
  cases h : f.getLast? with
  | none =>
    rw [h] at hj
    rcases List.mem_append.mp hj with h | h
    · exact hf j h
    · rw [List.mem_singleton.mp h]; exact hx
  | some y =>
    rw [h] at hj
    have yf : y ∈ f := List.mem_of_getLast? h
    dsimp only at hj
    split at hj
    · rcases List.mem_append.mp hj with h | h
      · exact hf j ((List.dropLast_sublist f).mem h)
      · rw [List.mem_singleton.mp h]
        intro z hz
        rcases hz with hz | hz
        · rcases List.mem_append.mp ((sortT_perm _).mem_iff.mp hz) with h | h
          · exact hf y yf z (.inl h)
          · exact hx z (.inl h)
        · exact hf y yf z (.inr hz)
    · rcases List.mem_append.mp hj with h | h
      · exact hf j h
      · rw [List.mem_singleton.mp h]; exact hx
theorem fold_joinStep {β : Type} {vl : Vls} {S : β → Jn → β} (ok : StepOk vl S) (av : Av vl) (b : β) {f : List Jn} {x : Jn} (hf : ∀ j ∈ f, LetJ vl j) (hx : LetJ vl x) : (joinStep f x).foldl S b = S (f.foldl S b) x := by
  unfold joinStep
  cases h : f.getLast? with
  | none => dsimp only; rw [List.foldl_append]; rfl
  | some y =>
    dsimp only
    obtain ⟨f0, rfl⟩ : ∃ f0, f = f0 ++ [y] := List.getLast?_eq_some_iff.mp h
    split
    · rename_i c
      have ly := hf y (by simp)
      rw [List.dropLast_concat, List.foldl_append, List.foldl_append]
      show S (f0.foldl S b) (sortT (y.1 ++ x.1), y.2) = S (S (f0.foldl S b) y) x
      rw [← ok.merge _ y x (ly.p1 av) (hx.p1 av) (by rw [← c, tm_sort, tm_append])]
      exact ok.cong _ _ _ (tm_sort _ _) rfl
    · rw [List.foldl_append]; rfl
theorem joinL_letJ {vl : Vls} {xs : List Jn} (h : ∀ x ∈ xs, LetJ vl x) : ∀ i, i ≤ xs.length → ∀ j ∈ joinL (xs.take i), LetJ vl j
  | 0, _ => fun j hj => by simp [joinL] at hj
  | i + 1, hi => by
    have e : xs[i]? = some xs[i] := List.getElem?_eq_getElem (by omega)
    rw [take_snoc e, joinL_snoc]
    exact joinStep_lets (joinL_letJ h i (by omega)) (h _ (List.mem_of_getElem? e))
theorem fold_joinL {β : Type} {vl : Vls} {S : β → Jn → β} (ok : StepOk vl S) (av : Av vl) (b : β) {xs : List Jn} (h : ∀ x ∈ xs, LetJ vl x) : ∀ i, i ≤ xs.length → (joinL (xs.take i)).foldl S b = (xs.take i).foldl S b
  | 0, _ => by simp [joinL]
  | i + 1, hi => by
    have e : xs[i]? = some xs[i] := List.getElem?_eq_getElem (by omega)
    rw [take_snoc e, joinL_snoc, fold_joinStep ok av b (joinL_letJ h i (by omega)) (h _ (List.mem_of_getElem? e)), fold_joinL ok av b h i (by omega), List.foldl_append]
    rfl
theorem fold_longJ {β : Type} {vl : Vls} {S : β → Jn → β} (ok : StepOk vl S) : ∀ (zs : List Sd) (b : β), (longJ (zs.map norm)).foldl S b = (zs.map (·.2)).foldl S b
  | [], b => rfl
  | z :: zs, b => by
    have ih := fold_longJ ok zs
    have lc : longJ ((z :: zs).map norm) = longJ [norm z] ++ longJ (zs.map norm) := by
      unfold longJ
      rw [List.map_cons, ← List.map_append, ← List.filter_append]
      rfl
    rw [lc, List.foldl_append, ih, List.map_cons, List.foldl_cons]
    congr 1
    by_cases c : z.2.1 = []
    · have l0 : longJ [norm z] = [] := by
        unfold longJ
        rw [List.filter_cons_of_neg (by show ¬ decide (0 < (sortT z.2.1).length) = true; rw [c]; decide)]
        rfl
      rw [l0]
      exact (ok.nil b z.2 (by rw [c]; rfl)).symm
    · rw [long_one (x := norm z) (by show 0 < (sortT z.2.1).length; rw [length_sortT]; exact List.length_pos_iff.mpr c)]
      exact ok.cong b _ _ (tm_sort _ _) (tm_sort _ _)
/-- a run does not change by joining -/
theorem fold_all {β : Type} {vl : Vls} {S : β → Jn → β} (ok : StepOk vl S) (av : Av vl) (b : β) {zs : List Sd} (h : ∀ z ∈ zs, LetJ vl z.2) : (joinL (longJ (zs.map norm))).foldl S b = (zs.map (·.2)).foldl S b := by
  have hl : ∀ x ∈ longJ (zs.map norm), LetJ vl x := fun x hx => by
    obtain ⟨y, hy, rfl⟩ := List.mem_map.mp hx
    obtain ⟨y0, hy0, rfl⟩ := List.mem_map.mp (List.mem_filter.mp hy).1
    exact fun z hz => h y0 hy0 z (hz.imp (sortT_perm _).mem_iff.mp (sortT_perm _).mem_iff.mp)
  have := fold_joinL ok av b hl _ (Nat.le_refl _)
  rw [List.take_length] at this
  rw [this, fold_longJ ok]
theorem range_mul (a : Nat) : ∀ b, List.range (a * b) = (List.range b).flatMap fun i => (List.range a).map fun k => i * a + k
  | 0 => by simp
  | b + 1 => by
    rw [Nat.mul_succ, List.range_add, range_mul a b, List.range_succ, List.flatMap_append]
    simp [Nat.mul_comm]
theorem run_ok (vl : Vls) : StepOk vl (runS vl) := by
  refine ⟨fun acc a b h1 h2 => by unfold runS; rw [h1, h2], fun acc j h => ?_, fun acc y x hy hx h => ?_⟩
  · unfold runS
    rw [h]
    show ([0] : List Nat).flatMap _ = acc
    simp
  · unfold runS
    show (List.range (tm vl (y.1 ++ x.1)).toNat).flatMap (fun (i : Nat) => acc.map fun s => (i : Int) * tm vl y.2 + s) = _
    rw [tm_append, h, Int.toNat_mul (by omega) (by omega), range_mul, List.flatMap_assoc]
    congr 1
    funext i
    rw [List.flatMap_map, List.map_flatMap]
    congr 1
    funext k
    rw [List.map_map]
    refine List.map_congr_left fun s _ => ?_
    show ((i * (tm vl y.1).toNat + k : Nat) : Int) * tm vl y.2 + s = (i : Int) * (tm vl y.1 * tm vl y.2) + ((k : Int) * tm vl y.2 + s)
    rw [Int.natCast_add, Int.natCast_mul, Int.toNat_of_nonneg (by omega), Int.add_mul, Int.mul_assoc, Int.add_assoc]
theorem emod_two {n a b : Int} (ha : 1 ≤ a) (hb : 1 ≤ b) : n % (a * b) = n % a + a * (n / a % b) ∧ n / (a * b) = n / a / b := by
  have h1 := Int.mul_ediv_add_emod n a
  have h2 := Int.mul_ediv_add_emod (n / a) b
  have m1 := Int.emod_nonneg n (show a ≠ 0 by omega)
  have m2 := Int.emod_lt_of_pos n (show 0 < a by omega)
  have m3 := Int.emod_nonneg (n / a) (show b ≠ 0 by omega)
  have m4 := Int.emod_lt_of_pos (n / a) (show 0 < b by omega)
  have hp : 0 < a * b := Int.mul_pos (by omega) (by omega)
  have g1 : 0 ≤ a * (n / a % b) := Int.mul_nonneg (by omega) m3
  have g2 : a * (n / a % b) ≤ a * (b - 1) := Int.mul_le_mul_of_nonneg_left (by omega) (by omega)
  rw [Int.mul_sub, Int.mul_one] at g2
  have e : n % a + a * (n / a % b) + a * b * (n / a / b) = n := by
    have e1 : a * (n / a) = a * (b * (n / a / b)) + a * (n / a % b) := by rw [← Int.mul_add, h2]
    rw [Int.mul_assoc]
    omega
  have := (Int.ediv_emod_unique (a := n) (b := a * b) (r := n % a + a * (n / a % b)) (q := n / a / b) hp).mpr ⟨by omega, by omega, by omega⟩
  exact ⟨this.2, this.1⟩
theorem at_ok (vl : Vls) : StepOk vl (atS vl) := by
  refine ⟨fun acc a b h1 h2 => by unfold atS; rw [h1, h2], fun acc j h => ?_, fun acc y x hy hx h => ?_⟩
  · unfold atS
    rw [h]
    simp
  · unfold atS
    dsimp only
    obtain ⟨e1, e2⟩ := emod_two (n := acc.2) hy hx
    rw [tm_append, h, e1, e2, Int.add_mul, Int.add_assoc]
    congr 3
    rw [Int.mul_comm (tm vl y.1) (acc.2 / tm vl y.1 % tm vl x.1), Int.mul_assoc]
/-- prime values -/
structure PrimeV (vl : Vls) : Prop where
  two : ∀ z ∈ vl.map (·.1), 2 ≤ gOf vl z
  cop : ∀ z ∈ vl.map (·.1), ∀ y ∈ vl.map (·.1), z ≠ y → Nat.Coprime (gOf vl z).natAbs (gOf vl y).natAbs
theorem cop_tm {vl : Vls} (pv : PrimeV vl) {z : Str} (hz : z ∈ vl.map (·.1)) : ∀ {b : List Str}, (∀ y ∈ b, y ∈ vl.map (·.1)) → z ∉ b → Nat.Coprime (gOf vl z).natAbs (tm vl b).natAbs
  | [], _, _ => by show Nat.Coprime _ (1 : Int).natAbs; exact Nat.coprime_one_right _
  | y :: b, hb, n => by
    have e : tm vl (y :: b) = gOf vl y * tm vl b := rfl
    rw [e, Int.natAbs_mul]
    exact Nat.Coprime.mul_right (pv.cop z hz y (hb y List.mem_cons_self) fun q => n (by rw [q]; exact List.mem_cons_self)) (cop_tm pv hz (fun y hy => hb y (List.mem_cons_of_mem _ hy)) fun q => n (List.mem_cons_of_mem _ q))
theorem tm_pos2 {vl : Vls} (pv : PrimeV vl) : ∀ {b : List Str}, (∀ y ∈ b, y ∈ vl.map (·.1)) → 1 ≤ tm vl b ∧ (b ≠ [] → 2 ≤ tm vl b)
  | [], _ => ⟨Int.le_refl _, fun h => absurd rfl h⟩
  | y :: b, hb => by
    have e : tm vl (y :: b) = gOf vl y * tm vl b := rfl
    have h2 := pv.two y (hb y List.mem_cons_self)
    have h1 := (tm_pos2 pv (b := b) fun y hy => hb y (List.mem_cons_of_mem _ hy)).1
    have := Int.mul_le_mul_of_nonneg_left h1 (show 0 ≤ gOf vl y by omega)
    rw [e]
    rw [Int.mul_one] at this
    exact ⟨by omega, fun _ => by omega⟩
theorem tm_inj {vl : Vls} (pv : PrimeV vl) : ∀ {a b : List Str}, (∀ y ∈ a, y ∈ vl.map (·.1)) → (∀ y ∈ b, y ∈ vl.map (·.1)) → tm vl a = tm vl b → a.Perm b
  | [], b, _, hb, h => by
    cases b with
    | nil => exact .nil
    | cons y b =>
      have := (tm_pos2 pv hb).2 (by simp)
      rw [← h] at this
      exact absurd this (show ¬ (2 : Int) ≤ 1 by decide)
  | z :: a, b, ha, hb, h => by
    have hz := ha z List.mem_cons_self
    have e : tm vl (z :: a) = gOf vl z * tm vl a := rfl
    have zb : z ∈ b := Classical.byContradiction fun n => by
      have c := cop_tm pv hz hb n
      have d : (gOf vl z).natAbs ∣ (tm vl b).natAbs := by rw [← h, e, Int.natAbs_mul]; exact Nat.dvd_mul_right _ _
      have := Nat.Coprime.eq_one_of_dvd c d
      have := pv.two z hz
      omega
    have pb := List.perm_cons_erase zb
    have e2 : tm vl b = gOf vl z * tm vl (b.erase z) := tm_perm pb
    rw [e, e2] at h
    have h3 := Int.eq_of_mul_eq_mul_left (by have := pv.two z hz; omega) h
    exact ((tm_inj pv (fun y hy => ha y (List.mem_cons_of_mem _ hy)) (fun y hy => hb y (List.mem_of_mem_erase hy)) h3).cons z).trans pb.symm
theorem tm_one {vl : Vls} (pv : PrimeV vl) {a b : List Str} (ha : ∀ y ∈ a, y ∈ vl.map (·.1)) (hb : ∀ y ∈ b, y ∈ vl.map (·.1)) (h : tm vl a = tm vl b) : sortT a = sortT b := sortT_of_perm' (tm_inj pv ha hb h)
/-- what joined gives: sorted, of some length, none to be joined -/
def Tight : List Jn → Prop
  | [] => True
  | j :: js => j.1 ≠ [] ∧ sortT j.1 = j.1 ∧ sortT j.2 = j.2 ∧ (∀ k, js.head? = some k → sortT (j.1 ++ j.2) ≠ k.2) ∧ Tight js
def outV (vl : Vls) (s : Int × Int) (js : List Jn) : Option Int := if (js.foldl (atS vl) s).2 = 0 then some (js.foldl (atS vl) s).1 else none
theorem out_zero (vl : Vls) (f : Int) : ∀ js : List Jn, js.foldl (atS vl) (f, 0) = (f, 0)
  | [] => rfl
  | j :: js => by
    rw [List.foldl_cons]
    have : atS vl (f, 0) j = (f, 0) := by unfold atS; simp
    rw [this, out_zero vl f js]
theorem out_small {vl : Vls} {j : Jn} {js : List Jn} {r : Int} (h0 : 0 ≤ r) (h1 : r < tm vl j.1) : outV vl (0, r) (j :: js) = some (r * tm vl j.2) := by
  have : atS vl (0, r) j = (r * tm vl j.2, 0) := by
    unfold atS
    dsimp only
    rw [Int.emod_eq_of_lt h0 h1, Int.ediv_eq_zero_of_lt h0 h1, Int.zero_add]
  unfold outV
  rw [List.foldl_cons, this, out_zero]
  rfl
theorem out_whole {vl : Vls} {j : Jn} {js : List Jn} (r : Int) (h : 1 ≤ tm vl j.1) : outV vl (0, tm vl j.1 * r) (j :: js) = outV vl (0, r) js := by
  have : atS vl (0, tm vl j.1 * r) j = (0, r) := by
    unfold atS
    dsimp only
    rw [Int.mul_emod_right, Int.mul_ediv_cancel_left _ (by omega), Int.zero_mul, Int.zero_add]
  unfold outV
  rw [List.foldl_cons, this]
theorem unlike_at {vl : Vls} (pv : PrimeV vl) : ∀ (js ks : List Jn), Tight js → Tight ks → (∀ j ∈ js, LetJ vl j) → (∀ j ∈ ks, LetJ vl j) → js ≠ ks → ∃ r, 1 ≤ r ∧ (∀ d, unlikeG (gOf vl) d js ks = d * r) ∧ outV vl (0, r) js ≠ outV vl (0, r) ks
  | [], [], _, _, _, _, h => absurd rfl h
  | [], k :: ks, _, t, _, lk, _ => by
    have t2 := (tm_pos2 pv (b := k.1) fun z hz => lk k List.mem_cons_self z (.inl hz)).2 t.1
    refine ⟨1, by decide, fun d => by rw [Int.mul_one]; rfl, ?_⟩
    rw [out_small (by decide) (by omega)]
    exact fun z => nomatch z
  | k :: ks, [], t, _, lk, _, _ => by
    have t2 := (tm_pos2 pv (b := k.1) fun z hz => lk k List.mem_cons_self z (.inl hz)).2 t.1
    refine ⟨1, by decide, fun d => by rw [Int.mul_one]; rfl, ?_⟩
    rw [out_small (by decide) (by omega)]
    exact fun z => nomatch z
  | j :: js, k :: ks, tj, tk, lj, lk, hne => by
    obtain ⟨j0, j1, j2, j3, j4⟩ := tj
    obtain ⟨k0, k1, k2, k3, k4⟩ := tk
    have Lj := lj j List.mem_cons_self
    have Lk := lk k List.mem_cons_self
    have a1 : ∀ z ∈ j.1, z ∈ vl.map (·.1) := fun z hz => Lj z (.inl hz)
    have a2 : ∀ z ∈ j.2, z ∈ vl.map (·.1) := fun z hz => Lj z (.inr hz)
    have b1 : ∀ z ∈ k.1, z ∈ vl.map (·.1) := fun z hz => Lk z (.inl hz)
    have b2 : ∀ z ∈ k.2, z ∈ vl.map (·.1) := fun z hz => Lk z (.inr hz)
    have p1 := (tm_pos2 pv a1).2 j0
    have q1 := (tm_pos2 pv b1).2 k0
    by_cases c2 : j.2 = k.2
    · by_cases c1 : j.1 = k.1
      · have e : j = k := Prod.ext c1 c2
        subst e
        obtain ⟨r, r1, r2, r3⟩ := unlike_at pv js ks j4 k4 (fun x hx => lj x (List.mem_cons_of_mem _ hx)) (fun x hx => lk x (List.mem_cons_of_mem _ hx)) fun q => hne (by rw [q])
        refine ⟨tm vl j.1 * r, ?_, fun d => ?_, ?_⟩
        · have := Int.mul_le_mul (show (1 : Int) ≤ tm vl j.1 by omega) r1 (by decide) (by omega)
          simpa using this
        · show (if j.2 ≠ j.2 then d else if j.1 ≠ j.1 then _ else unlikeG (gOf vl) (d * min (tm vl j.1) (tm vl j.1)) js ks) = _
          rw [if_neg (fun h => h rfl), if_neg (fun h => h rfl), Int.min_self, r2, Int.mul_assoc]
        · rw [out_whole r (by omega), out_whole r (by omega)]
          exact r3
      · have ne : tm vl j.1 ≠ tm vl k.1 := fun e => c1 (by rw [← j1, ← k1]; exact tm_one pv a1 b1 e)
        refine ⟨min (tm vl j.1) (tm vl k.1), by omega, fun d => ?_, ?_⟩
        · show (if j.2 ≠ k.2 then d else if j.1 ≠ k.1 then d * min (tm vl j.1) (tm vl k.1) else _) = _
          rw [if_neg (fun h => h c2), if_pos c1]
        · have half : ∀ (a b : Jn) (as bs : List Jn), tm vl a.1 < tm vl b.1 → 2 ≤ tm vl a.1 → (∀ z ∈ a.1, z ∈ vl.map (·.1)) → (∀ z ∈ a.2, z ∈ vl.map (·.1)) → a.2 = b.2 → (∀ x, as.head? = some x → sortT (a.1 ++ a.2) ≠ x.2) → Tight as → (∀ x ∈ as, LetJ vl x) → outV vl (0, tm vl a.1) (a :: as) ≠ outV vl (0, tm vl a.1) (b :: bs) := by
            intro a b as bs h1 h2 m1 m2 h3 h4 h5 h6
            rw [out_small (by omega) h1]
            have := out_whole (vl := vl) (j := a) (js := as) 1 (by omega)
            rw [Int.mul_one] at this
            rw [this]
            cases as with
            | nil => exact fun z => nomatch z
            | cons x as =>
              have lx := h6 x List.mem_cons_self
              have t2 := (tm_pos2 pv (b := x.1) fun z hz => lx z (.inl hz)).2 h5.1
              rw [out_small (by decide) (by omega), Int.one_mul]
              intro e
              have e2 : tm vl x.2 = tm vl (a.1 ++ a.2) := by rw [tm_append, h3]; exact Option.some.inj e
              have := tm_one pv (fun z hz => lx z (.inr hz)) (fun z hz => (List.mem_append.mp hz).elim (m1 z) (m2 z)) e2
              rw [h5.2.2.1] at this
              exact h4 x rfl this.symm
          rcases Int.lt_or_gt_of_ne ne with h | h
          · rw [Int.min_eq_left (by omega)]
            exact half j k js ks h p1 a1 a2 c2 j3 j4 fun x hx => lj x (List.mem_cons_of_mem _ hx)
          · rw [Int.min_eq_right (by omega)]
            exact (half k j ks js h q1 b1 b2 c2.symm k3 k4 fun x hx => lk x (List.mem_cons_of_mem _ hx)).symm
    · refine ⟨1, by decide, fun d => ?_, ?_⟩
      · show (if j.2 ≠ k.2 then d else _) = _
        rw [if_pos c2, Int.mul_one]
      · rw [out_small (by decide) (by omega), out_small (by decide) (by omega), Int.one_mul, Int.one_mul]
        intro e
        have := tm_one pv a2 b2 (Option.some.inj e)
        rw [j2, k2] at this
        exact c2 this
theorem tight_snoc : ∀ {f : List Jn} {x : Jn}, Tight f → x.1 ≠ [] → sortT x.1 = x.1 → sortT x.2 = x.2 → (∀ y, f.getLast? = some y → sortT (y.1 ++ y.2) ≠ x.2) → Tight (f ++ [x])
  | [], x, _, h1, h2, h3, _ => ⟨h1, h2, h3, fun _ h => (nomatch h), trivial⟩
  | j :: js, x, t, h1, h2, h3, h4 => by
    obtain ⟨t0, t1, t2, t3, t4⟩ := t
    refine ⟨t0, t1, t2, fun k hk => ?_, tight_snoc t4 h1 h2 h3 fun y hy => h4 y ?_⟩
    · cases js with
      | nil =>
        cases hk
        exact h4 j rfl
      | cons a js => exact t3 k hk
    · cases js with
      | nil => cases hy
      | cons a js => rw [List.getLast?_cons_cons]; exact hy
theorem tight_swap : ∀ {f : List Jn} {y : Jn} {l : List Str}, Tight (f ++ [y]) → l ≠ [] → sortT l = l → Tight (f ++ [(l, y.2)])
  | [], y, l, t, h1, h2 => ⟨h1, h2, t.2.2.1, fun _ h => (nomatch h), trivial⟩
  | j :: js, y, l, t, h1, h2 => by
    obtain ⟨t0, t1, t2, t3, t4⟩ := t
    refine ⟨t0, t1, t2, fun k hk => ?_, tight_swap t4 h1 h2⟩
    cases js with
    | nil =>
      cases hk
      exact t3 y rfl
    | cons a js => exact t3 k hk
theorem tight_step {f : List Jn} {x : Jn} (t : Tight f) (h1 : x.1 ≠ []) (h2 : sortT x.1 = x.1) (h3 : sortT x.2 = x.2) : Tight (joinStep f x) := by
  unfold joinStep
  cases h : f.getLast? with
  | none => exact tight_snoc t h1 h2 h3 fun y hy => by rw [h] at hy; cases hy
  | some y =>
    dsimp only
    obtain ⟨f0, rfl⟩ : ∃ f0, f = f0 ++ [y] := List.getLast?_eq_some_iff.mp h
    split
    · rw [List.dropLast_concat]
      refine tight_swap t (fun e => ?_) (sortT_idem' _)
      have e1 := congrArg List.length e
      rw [length_sortT, List.length_append, List.length_nil] at e1
      have l1 := List.length_pos_iff.mpr h1
      omega
    · rename_i c
      exact tight_snoc t h1 h2 h3 fun y' hy => by
        rw [h] at hy
        cases hy
        exact c
theorem tight_join {xs : List Jn} (h : ∀ x ∈ xs, x.1 ≠ [] ∧ sortT x.1 = x.1 ∧ sortT x.2 = x.2) : ∀ i, i ≤ xs.length → Tight (joinL (xs.take i))
  | 0, _ => by simp [joinL, Tight]
  | i + 1, hi => by
    have e : xs[i]? = some xs[i] := List.getElem?_eq_getElem (by omega)
    obtain ⟨a, b, c⟩ := h _ (List.mem_of_getElem? e)
    rw [take_snoc e, joinL_snoc]
    exact tight_step (tight_join h i (by omega)) a b c
theorem tight_all (zs : List Sd) : Tight (joinL (longJ (zs.map norm))) := by
  have := tight_join (xs := longJ (zs.map norm)) (fun x hx => by
    obtain ⟨y, hy, rfl⟩ := List.mem_map.mp hx
    obtain ⟨h1, h2⟩ := List.mem_filter.mp hy
    obtain ⟨y0, hy0, rfl⟩ := List.mem_map.mp h1
    refine ⟨fun e => ?_, sortT_idem' _, sortT_idem' _⟩
    rw [decide_eq_true_iff] at h2
    have e2 : (norm y0).2.1 = [] := e
    rw [e2] at h2
    cases h2) _ (Nat.le_refl _)
  rwa [List.take_length] at this
theorem joined_lets {vl : Vls} {zs : List Sd} (h : ∀ z ∈ zs, LetJ vl z.2) : ∀ j ∈ joinL (longJ (zs.map norm)), LetJ vl j := by
  have hl : ∀ x ∈ longJ (zs.map norm), LetJ vl x := fun x hx => by
    obtain ⟨y, hy, rfl⟩ := List.mem_map.mp hx
    obtain ⟨y0, hy0, rfl⟩ := List.mem_map.mp (List.mem_filter.mp hy).1
    exact fun z hz => h y0 hy0 z (hz.imp (sortT_perm _).mem_iff.mp (sortT_perm _).mem_iff.mp)
  have := joinL_letJ hl _ (Nat.le_refl _)
  rwa [List.take_length] at this
/-- two runs that are told apart differ at the spot that is told -/
theorem told_apart {vl : Vls} (pv : PrimeV vl) (av : Av vl) {xs ys : List Sd} (hx : ∀ z ∈ xs, LetJ vl z.2) (hy : ∀ z ∈ ys, LetJ vl z.2) (ne : joinL (longJ (xs.map norm)) ≠ joinL (longJ (ys.map norm))) :
    1 ≤ unlikeG (gOf vl) 1 (joinL (longJ (xs.map norm))) (joinL (longJ (ys.map norm))) ∧ atV vl (xs.map (·.2)) (unlikeG (gOf vl) 1 (joinL (longJ (xs.map norm))) (joinL (longJ (ys.map norm)))) ≠ atV vl (ys.map (·.2)) (unlikeG (gOf vl) 1 (joinL (longJ (xs.map norm))) (joinL (longJ (ys.map norm)))) := by
  obtain ⟨r, r1, r2, r3⟩ := unlike_at pv _ _ (tight_all xs) (tight_all ys) (joined_lets hx) (joined_lets hy) ne
  rw [r2, Int.one_mul]
  refine ⟨r1, ?_⟩
  unfold outV at r3
  rw [fold_all (at_ok vl) av _ hx, fold_all (at_ok vl) av _ hy] at r3
  exact r3
/-- equal runs where the joined are equal -/
theorem run_same {vl : Vls} (av : Av vl) {xs ys : List Sd} (hx : ∀ z ∈ xs, LetJ vl z.2) (hy : ∀ z ∈ ys, LetJ vl z.2) (e : joinL (longJ (xs.map norm)) = joinL (longJ (ys.map norm))) : runL vl (xs.map (·.2)) = runL vl (ys.map (·.2)) := by
  unfold runL
  rw [← fold_all (run_ok vl) av _ hx, ← fold_all (run_ok vl) av _ hy, e]
theorem run_joined {vl : Vls} (av : Av vl) {xs : List Sd} (hx : ∀ z ∈ xs, LetJ vl z.2) : runL vl (joinL (longJ (xs.map norm))) = runL vl (xs.map (·.2)) := by
  unfold runL
  exact fold_all (run_ok vl) av _ hx
theorem many_joined {vl : Vls} (av : Av vl) {xs : List Sd} (hx : ∀ z ∈ xs, LetJ vl z.2) : prodI ((joinL (longJ (xs.map norm))).map fun j => tm vl j.1) = manyI vl xs := by
  have ok : StepOk vl (fun (a : Int) (j : Jn) => a * tm vl j.1) := ⟨fun acc a b h _ => by rw [h], fun acc j h => by rw [h, Int.mul_one], fun acc y x _ _ _ => by rw [tm_append, Int.mul_assoc]⟩
  have key : ∀ (l : List Jn) (a : Int), l.foldl (fun (a : Int) (j : Jn) => a * tm vl j.1) a = a * prodI (l.map fun j => tm vl j.1) := by
    intro l
    induction l with
    | nil => intro a; exact (Int.mul_one a).symm
    | cons j l ih =>
      intro a
      rw [List.foldl_cons, ih, Int.mul_assoc]
      rfl
  have := fold_all ok av 1 hx
  rw [key, key, Int.one_mul, Int.one_mul] at this
  rw [this]
  unfold manyI
  rw [List.map_map]
  rfl
theorem gOf_ix {vl : Vls} (nd : (vl.map (·.1)).Nodup) {i : Nat} {x : Str × Int} (h : vl[i]? = some x) : gOf vl x.1 = x.2 := by
  have hm : x.1 ∈ vl.map (·.1) := List.mem_map.mpr ⟨x, List.mem_of_getElem? h, rfl⟩
  obtain ⟨n, hn, hx⟩ := getI_isSome (l := vl) (z := x.1) hm
  have e : gOf vl x.1 = n := by unfold gOf; rw [hn]; rfl
  obtain ⟨j, hj⟩ := List.mem_iff_getElem?.mp hx
  have a1 : (vl.map (·.1))[i]? = some x.1 := by rw [List.getElem?_map, h]; rfl
  have a2 : (vl.map (·.1))[j]? = some x.1 := by rw [List.getElem?_map, hj]; rfl
  have := (List.getElem?_inj (List.getElem?_eq_some_iff.mp a1).1 nd).mp (a1.trans a2.symm)
  subst this
  rw [h] at hj
  rw [e]
  exact (congrArg (fun p : Str × Int => p.2) (Option.some.inj hj)).symm
theorem primes_v {names : List Str} {vl : Vls} (h : PrimesR names vl) (nd : names.Nodup) (l : names.length ≤ 12) : PrimeV vl := by
  have e := primes12 h l
  have nd' : (vl.map (·.1)).Nodup := by rw [h.1]; exact nd
  have at_ : ∀ z ∈ vl.map (·.1), ∃ i : Nat, (vl.map (·.1))[i]? = some z ∧ P12[i]? = some (gOf vl z) := fun z hz => by
    obtain ⟨i, hi⟩ := List.mem_iff_getElem?.mp hz
    rw [List.getElem?_map] at hi
    obtain ⟨x, hx, rfl⟩ := Option.map_eq_some_iff.mp hi
    refine ⟨i, by rw [List.getElem?_map, hx]; rfl, ?_⟩
    rw [gOf_ix nd' hx]
    have il := (List.getElem?_eq_some_iff.mp hx).1
    have lv : vl.length = names.length := by rw [← h.1, List.length_map]
    have : (P12.take names.length)[i]? = some x.2 := by rw [← e, List.getElem?_map, hx]; rfl
    rwa [List.getElem?_take_of_lt (by omega)] at this
  have all : ((List.range 12).all fun i => (List.range 12).all fun j => decide (i = j) || Nat.gcd (P12.getD i 1).natAbs (P12.getD j 1).natAbs == 1) = true := by decide +kernel
  have two : (P12.all fun p => decide (2 ≤ p)) = true := by decide +kernel
  refine ⟨fun z hz => ?_, fun z hz y hy ne => ?_⟩
  · obtain ⟨i, _, hi⟩ := at_ z hz
    exact of_decide_eq_true (List.all_eq_true.mp two _ (List.mem_of_getElem? hi))
  · obtain ⟨i, hi1, hi⟩ := at_ z hz
    obtain ⟨j, hj1, hj⟩ := at_ y hy
    have nij : i ≠ j := fun q => ne (by rw [q] at hi1; rw [hi1] at hj1; exact Option.some.inj hj1)
    have li : i < 12 := (List.getElem?_eq_some_iff.mp hi).1
    have lj : j < 12 := (List.getElem?_eq_some_iff.mp hj).1
    have := List.all_eq_true.mp (List.all_eq_true.mp all i (List.mem_range.mpr li)) j (List.mem_range.mpr lj)
    rw [decide_eq_false nij, Bool.false_or, List.getD_eq_getElem?_getD, List.getD_eq_getElem?_getD, hi, hj] at this
    exact of_decide_eq_true (by simpa using this)
end E4

set_option Elab.async false
set_option linter.all false
set_option maxRecDepth 100000
set_option maxHeartbeats 2000000
set_option exponentiation.threshold 5000
/-! _law_told_right -/
namespace E4
open PySem PySem.Spec PyProof.Rows L2
open C8 (Cal Mak Met InsC pe_c pe_mt pe_mt0 call_isC clsBody)
abbrev sTold : Stmt := top 42
def InBoth (xs ys : List Sd) (z : Str) : Prop := InLets xs z ∨ InLets ys z
def spTold (K : PySem.W.Frag) : Sp := fun vs H Q _ => ∃ (l r l2 r2 p d : Addr) (ts us : List Addr) (wk w2 : List Str) (xs ys : List Sd) (vl : Vls) (n : Int), vs = [.ref l, .ref r, .ref l2, .ref r2, .ref p] ∧
  H l = some (.lst (ts.map V.ref)) ∧ SdsAt H ts xs ∧ SdsOk xs ∧ (∀ x ∈ xs, RowW x) ∧ xs.length ≤ 8 ∧ H r = some (.lst (wk.map V.str)) ∧ wk.Perm (xs.map (·.1)) ∧
  H l2 = some (.lst (us.map V.ref)) ∧ SdsAt H us ys ∧ SdsOk ys ∧ (∀ x ∈ ys, RowW x) ∧ ys.length ≤ 8 ∧ H r2 = some (.lst (w2.map V.str)) ∧ w2.Perm (ys.map (·.1)) ∧
  H p = some (.tup [.ref d, .int n]) ∧ H d = some (.dK (dI vl)) ∧ (vl.map (·.1)).Nodup ∧ (∀ z, z ∈ vl.map (·.1) ↔ InBoth xs ys z) ∧ Av vl ∧ 0 ≤ n ∧
  (∀ z1 z2 : List Sd, z1.map (·.1) = wk.reverse → (∀ z ∈ z1, z ∈ xs) → z2.map (·.1) = w2.reverse → (∀ z ∈ z2, z ∈ ys) → atV vl (z1.map (·.2)) n ≠ atV vl (z2.map (·.2)) n) ∧
  ∀ H', Same H H' → Q (.bl true) H'
def oD : Option Int → PyData
  | none => .none
  | some i => .int i
theorem dp_o {K : PySem.W.Frag} {H : Hp} : ∀ {o : Option Int}, Dp K H (oV o) (oD o)
  | none => .non
  | some i => .int i
theorem shaped_o : ∀ o : Option Int, SeqAt.shaped (oD o) = true
  | none => rfl
  | some _ => rfl
theorem eqv_o : ∀ {a b : Option Int}, a ≠ b → PyData.eqv (oD a) (oD b) = false
  | none, none, h => absurd rfl h
  | none, some _, _ => rfl
  | some _, none, _ => rfl
  | some i, some j, h => by
    show decide (i = j) = false
    exact decide_eq_false fun e => h (by rw [e])
section
variable {P : Program} {w : World} {K : PySem.W.Frag} {mg : Str → Option Value} {base : Heap}
abbrev NTo : List Str := ["_law_rows", "_law_route", "_law_others", "_law_way", "_law_told", "_law_used_here", "_law_one"]
theorem scTold : FnScope NTo ["_law_rows", "_law_route", "_law_others", "_law_way", "_law_told"] (defScope sTold) := ⟨rfl, rfl, rfl, by decide +kernel, rfl, by decide +kernel, by decide +kernel⟩
theorem ok_told {f : Addr} {fd : FuncData} (F : Fun K "_law_told_right" "_law_told_right" sTold f fd) (B : Bl mg) (Us : Cal P w K mg base 1 "_law_used" (spUsed K) []) (Pa : Cal P w K mg base 2 "_law_pairs" (spPairs K) []) (At : Cal P w K mg base 2 "_law_at" (spAtL K) []) : FnOk P w K mg base CX0 3 f fd ["_law_rows", "_law_route", "_law_others", "_law_way", "_law_told"] (spTold K) := by
  refine F.ok scTold (fun vs H Q E h => ?_) (fun cdv A outer s H vs Q E hr h => ?_)
  · obtain ⟨l, r, l2, r2, p, d, ts, us, wk, w2, xs, ys, vl, n, rfl, _⟩ := h
    rfl
  · obtain ⟨l, r, l2, r2, p, d, ts, us, wk, w2, xs, ys, vl, n, rfl, hl, hx, okx, rox, l8, hr1, pw, hl2, hy, oky, roy, l82, hr2, pw2, hp, hd, nd, keys, av, n0, ne, k⟩ := h
    have u1 := Nat.lt_of_le_of_lt (Nat.add_le_add_left (by decide : 1 ≤ 64) _) hr.units
    refine ⟨_, pss_cons (ps_if (PW.pt (pw_or (pt_not (pt_val (pe_callB call_isi (by rfl) B.isi (by decide +kernel) (pa_cons (pv 4) (pa_cons (pe_bltn (v := .ty "tuple") (by rfl) B.tup_ (by decide +kernel) rfl) pa_nil)))))
        (pw_or (pt_cmpR op_ne (pe_callB call_len_seq (by rfl) B.len_ PySem.boot_len (pa_cons (pv 4) pa_nil)) pe_int (by rfl))
        (pw_or (pt_not (pt_val (pe_callB call_isi (by rfl) B.isi (by decide +kernel) (pa_cons (pe_ix ix_tup (pv 4) pe_int (fun _ _ => rfl)) (pa_cons (pe_bltn (v := .ty "dict") (by rfl) B.dict_ (by decide +kernel) rfl) pa_nil)))))
        (pw_or1 (pt_not (pt_val (pe_callB call_isi (by rfl) B.isi (by decide +kernel) (pa_cons (pe_ix ix_tup (pv 4) pe_int (fun _ _ => rfl)) (pa_cons (pe_bltn (v := .ty "int") (by rfl) B.int_ (by decide +kernel) rfl) pa_nil)))))))))) (pss_one (ps_ret pe_bl)) pss_nil)
      (pss_cons (ps_set (i := 5) scTold.nd rfl (Or.inl rfl) (pe_callB (cr_sortedSS rfl) (by rfl) B.srt_ (by decide +kernel) (pa_cons (pe_callTy (cr_setLS rfl) (by rfl) B.set_ (by decide +kernel) (pa_cons (pe_op op_catS (pe_c Us hr (by decide) rfl (pa_cons (pv 0) pa_nil)) (pe_c Us hr (by decide) rfl (pa_cons (pv 2) pa_nil))) pa_nil)) pa_nil)))
      (pss_cons (ps_if (PW.pt (pw_or (pt_cmpR (op_neD hr.units) (pe_callB (cr_sortedDS rfl) (by rfl) B.srt_ (by decide +kernel) (pa_cons (pe_ix ix_tup (pv 4) pe_int (fun _ _ => rfl)) pa_nil)) (pv 5) (by rfl))
        (pw_or (pt_cmpR (op_neD hr.units) (pe_lc (own := [("_law_one", 6)]) (g := gName 6) (tt := tTest (tOp (rI0 fun i j => .bl (decide (i < j))) (tDGet (tOp (rIxT K) (tVar 4) (tC (.int 0))) (tVar 6)) (tC (.int 1)))) (te := tVar 6) rfl scTold.nd (pi_list (pv 5))
            (blkOk_by (own := [("_law_one", 6)]) (N := NTo) (sc := defScope sTold) (by decide +kernel))
            (fun _ _ _ _ _ => pg_name (i := 6) scTold.nd rfl (Or.inl rfl)) (fun _ _ _ _ _ => by exact pts_one (pt_cmpR op_lt (pe_dget u1 (pe_ix ix_tup (pv 4) pe_int (fun _ _ => rfl)) (pv 6) (fun _ _ => rfl)) pe_int (by rfl))) (fun _ _ _ _ _ => pv 6)) (pe_lstS pa_nil) (by rfl))
        (pw_or1 (pt_cmpR op_lt (pe_ix ix_tup (pv 4) pe_int (fun _ _ => rfl)) pe_int (by rfl)))))) (pss_one (ps_ret pe_bl)) pss_nil)
      (pss_one (ps_ret (pe_cmpR (op_neD hr.units) (pe_c At hr (by decide) rfl (pa_cons (pe_c Pa hr (by decide) rfl (pa_cons (pv 0) (pa_cons (pv 1) pa_nil))) (pa_cons (pe_ix ix_tup (pv 4) pe_int (fun _ _ => rfl)) (pa_cons (pe_ix ix_tup (pv 4) pe_int (fun _ _ => rfl)) pa_nil))))
        (pe_c At hr (by decide) rfl (pa_cons (pe_c Pa hr (by decide) rfl (pa_cons (pv 2) (pa_cons (pv 3) pa_nil))) (pa_cons (pe_ix ix_tup (pv 4) pe_int (fun _ _ => rfl)) (pa_cons (pe_ix ix_tup (pv 4) pe_int (fun _ _ => rfl)) pa_nil)))) (by rfl)))))), ?_⟩
    refine ⟨_, rfl, _, _, _, _, true, rfl, .ty "tuple", .base (.tup hp), kit_tt, true, rfl, iteF ?_⟩
    refine ⟨_, rfl, p, _, rfl, .inr (SqT.of hp), rfl, _, rfl, ifF rfl ?_⟩
    refine ⟨_, rfl, p, _, 0, _, rfl, rfl, SqT.of hp, rfl, _, _, _, _, true, rfl, .ty "dict", .base (.dK hd), kit_dd, true, rfl, iteF ?_⟩
    refine ⟨_, rfl, p, _, 1, _, rfl, rfl, SqT.of hp, rfl, _, _, _, _, true, rfl, .ty "int", .base (.int n), kit_ii, true, rfl, iteF ?_⟩
    dsimp only [tNext]
    refine seq_asg ?_
    refine ⟨_, rfl, l, ts, xs, rfl, SqL.of hl, hx, rox, by omega, fun u1s q1 H1 nd1 _ lu1 hu1 h1 n1 S1 => ?_⟩
    refine ⟨_, rfl, l2, us, ys, rfl, SqL.of (S1 _ _ hl2), hy.same S1, roy, by omega, fun u2s q2 H2 nd2 _ lu2 hu2 h2 n2 S2 => ?_⟩
    have S02 := S1.trans S2
    have lw1 := lets_w rox nd1 fun z hz => (hu1 z).mp hz
    have lw2 := lets_w roy nd2 fun z hz => (hu2 z).mp hz
    refine ⟨q1, q2, _, _, rfl, rfl, S2 _ _ h1, h2, by rw [List.length_map, List.length_map, sizeLine_eq]; omega, fun c H3 S3 nc hc => ?_⟩
    rw [← List.map_append] at hc
    refine ⟨c, u1s ++ u2s, rfl, SqL.of hc, fun i => ?_, fun sa nsa => ?_⟩
    · have h1 := len_putAll ((u1s ++ u2s).take i) []
      rw [List.length_take, List.length_append] at h1
      have : (0 : Nat) + 60 + 1 < scanBound := by decide
      simp only [List.length_nil] at h1
      omega
    have S34 : Same H3 (upd H3 sa (SetSO P w sa (putAll [] (u1s ++ u2s)))) := Same.upd nsa
    refine ⟨sa, _, rfl, upd_same, fun zs pmz ndz so q5 H5 S5 nq hq => ?_⟩
    have e := sortT_one pmz so
    subst e
    have S05 := S02.trans (S3.trans (S34.trans S5))
    generalize upd H3 sa (SetSO P w sa (putAll [] (u1s ++ u2s))) = H4 at S34 S5 nq
    have mem : ∀ z, z ∈ putAll [] (u1s ++ u2s) ↔ InBoth xs ys z := fun z => by
      rw [mem_putAll, List.mem_append, hu1, hu2]
      exact ⟨fun h => h.elim (fun q => absurd q List.not_mem_nil) id, .inr⟩
    have pk : (vl.map (·.1)).Perm (putAll [] (u1s ++ u2s)) := (List.perm_ext_iff_of_nodup nd ndz).mpr fun z => (keys z).trans (mem z).symm
    have es : sortT (vl.map (·.1)) = sortT (putAll [] (u1s ++ u2s)) := sortT_of_perm' pk
    rw [← es] at hq
    have hp5 := S05 _ _ hp
    have hd5 := S05 _ _ hd
    have kk : ∀ z ∈ sortT (vl.map (·.1)), z ∈ vl.map (·.1) := fun z hz => (sortT_perm _).mem_iff.mp hz
    have lu : ∀ z ∈ vl.map (·.1), LetOk z := fun z hz => by
      rcases (keys z).mp hz with ⟨x, hx, h⟩ | ⟨x, hx, h⟩
      · exact h.elim ((okx.ok x hx).2.1 z) ((okx.ok x hx).2.2.1 z)
      · exact h.elim ((oky.ok x hx).2.1 z) ((oky.ok x hx).2.2.1 z)
    have lk : (sortT (vl.map (·.1))).length ≤ 44 := by
      rw [es, length_sortT]
      have h1 := len_putAll (u1s ++ u2s) []
      rw [List.length_append] at h1
      simp only [List.length_nil] at h1
      omega
    have stk : ∀ z ∈ sortT (vl.map (·.1)), PyData.strOk z = true := fun z hz => strOk_of (lu z (kk z hz))
    refine ⟨_, rfl, p, _, 0, _, rfl, rfl, SqT.of hp5, rfl, d, dI vl, vl.map (·.1), rfl, .inl hd5, by unfold dI; rw [List.map_map, List.map_map]; rfl, fun zs pmz so q6 H6 S6 nq6 hq6 => ?_⟩
    have e := sortT_one pmz so
    subst e
    have hq' := S6 _ _ hq
    refine ⟨_, rfl, .list ((sortT (vl.map (·.1))).map PyData.str), .list ((sortT (vl.map (·.1))).map PyData.str), .lst (SqL.of hq6) (dp_strs _), .lst (SqL.of hq') (dp_strs _), shaped_strs _ stk, shaped_strs _ stk, _, rfl, ?_⟩
    rw [eqv_listS, decide_eq_true rfl]
    refine ifF rfl ?_
    have S06 := S05.trans S6
    have hp6 := S06 _ _ hp
    have hd6 := S06 _ _ hd
    refine ⟨_, rfl, q5, rfl, ⟨_, SqL.of hq'⟩, fun D nD => lc_it (walk_list (xs := (sortT (vl.map (·.1))).map V.str)) (fun i H' => Same H6 H' ∧ H' D = some (.lst [])) ⟨Same.upd nD, upd_same⟩ (fun i H' _ q => SqL.of (q.1 _ _ hq')) ?_ ?_⟩
    · rintro i v Hx H7 hi ⟨S7, hD⟩ ⟨rfl, hxi⟩
      rw [List.getElem?_map] at hxi
      obtain ⟨z, hz, rfl⟩ := Option.map_eq_some_iff.mp hxi
      obtain ⟨v1, v2⟩ := val_at av (kk z (List.mem_of_getElem? hz))
      refine ⟨rfl, _, rfl, p, _, 0, _, rfl, rfl, SqT.of (S7 _ _ hp6), rfl, _, rfl, d, _, rfl, by rw [← v1]; exact DGet.k (k := Sum.inr z) (S7 _ _ hd6), _, _, rfl, rfl, _, rfl, ifF (by rw [decide_eq_false]; omega) ⟨S7, hD⟩⟩
    rintro H7 ⟨S7, hD⟩
    refine ⟨by show 0 ≤ sizeLine; decide, fun e H8 S8 ne8 he => ?_⟩
    refine ⟨.list [], .list [], .lst (SqL.of (S8 _ _ hD)) .nil, .lst (SqL.of he) .nil, shaped_strs [] (fun _ h => absurd h List.not_mem_nil), shaped_strs [] (fun _ h => absurd h List.not_mem_nil), _, rfl, ?_⟩
    rw [show PyData.eqv (.list []) (.list []) = decide (([] : List Str) = []) from eqv_listS [] []]
    refine ifF rfl ?_
    have S08 := S06.trans (S7.trans S8)
    have hp8 := S08 _ _ hp
    refine ⟨_, rfl, p, _, 1, _, rfl, rfl, SqT.of hp8, rfl, _, _, rfl, rfl, _, rfl, ifF (by rw [decide_eq_false]; omega) ?_⟩
    dsimp only [tNext]
    refine ⟨_, rfl, _, rfl, l, r, ts, wk, xs, rfl, S08 _ _ hl, hx.same S08, okx, by omega, S08 _ _ hr1, pw, fun H9 pa ta z1 S9 na hpa hta za zb => ?_⟩
    have S09 := S08.trans S9
    have lets : ∀ (z1 : List Sd), (∀ z ∈ z1, z ∈ xs ∨ z ∈ ys) → ValsOk vl z1 := fun z1 h => ⟨fun x hx z hz => (keys z).mpr ((h x hx).imp (fun q => ⟨x, q, hz⟩) fun q => ⟨x, q, hz⟩), av⟩
    refine ⟨_, rfl, p, _, 0, _, rfl, rfl, SqT.of (S09 _ _ hp), rfl, _, rfl, p, _, 1, _, rfl, rfl, SqT.of (S09 _ _ hp), rfl, pa, d, n, ta, z1, vl, rfl, hpa, hta, S09 _ _ hd, lets z1 fun z hz => .inl (zb z hz), fun z hz => rox z (zb z hz), ?_⟩
    refine ⟨_, rfl, _, rfl, l2, r2, us, w2, ys, rfl, S09 _ _ hl2, hy.same S09, oky, by omega, S09 _ _ hr2, pw2, fun H10 pb tb z2 S10 nb hpb htb zc zd => ?_⟩
    have S010 := S09.trans S10
    refine ⟨_, rfl, p, _, 0, _, rfl, rfl, SqT.of (S010 _ _ hp), rfl, _, rfl, p, _, 1, _, rfl, rfl, SqT.of (S010 _ _ hp), rfl, pb, d, n, tb, z2, vl, rfl, hpb, htb, S010 _ _ hd, lets z2 fun z hz => .inr (zd z hz), fun z hz => roy z (zd z hz), ?_⟩
    have hne := ne z1 z2 za zb zc zd
    dsimp only
    have k2 := k H10 S010
    generalize atV vl (z1.map (·.2)) n = o1 at hne ⊢
    generalize atV vl (z2.map (·.2)) n = o2 at hne ⊢
    refine ⟨oD o1, oD o2, dp_o, dp_o, shaped_o o1, shaped_o o2, ?_⟩
    rw [eqv_o hne]
    exact k2
end
end E4

set_option Elab.async false
set_option linter.all false
set_option maxRecDepth 100000
set_option maxHeartbeats 2000000
set_option exponentiation.threshold 5000
/-! _law_like -/
namespace E4
open PySem PySem.Spec PyProof.Rows L2
open C8 (Cal Mak Met InsC pe_c pe_mt pe_mt0 call_isC clsBody)
open E3 (PurseAt spPurse spMixed spDraw)
abbrev sLike : Stmt := top 43
theorem route_perm {xs zs : List Sd} {wk : List Str} (nd : (xs.map (·.1)).Nodup) (pw : wk.Perm (xs.map (·.1))) (e : zs.map (·.1) = wk.reverse) (h : ∀ z ∈ zs, z ∈ xs) : zs.Perm xs := by
  have nx : xs.Nodup := List.Pairwise.of_map (fun x : Sd => x.1) (fun a b h e => h (by rw [e])) nd
  have nz : zs.Nodup := by
    refine List.Pairwise.of_map (fun x : Sd => x.1) (fun a b h e => h (by rw [e])) (S := (· ≠ ·)) ?_
    show (zs.map (·.1)).Nodup
    rw [e]
    exact ((List.reverse_perm wk).trans pw).nodup_iff.mpr nd
  refine (List.perm_ext_iff_of_nodup nz nx).mpr fun z => ⟨h z, fun hz => ?_⟩
  have : z.1 ∈ zs.map (·.1) := by rw [e]; exact List.mem_reverse.mpr (pw.mem_iff.mpr (List.mem_map.mpr ⟨z, hz, rfl⟩))
  obtain ⟨y, hy, ey⟩ := List.mem_map.mp this
  have := rows_one nd (xs := [y]) (ys := [z]) (by simpa using ey) (fun q hq => by rw [List.mem_singleton.mp hq]; exact h y hy) (fun q hq => by rw [List.mem_singleton.mp hq]; exact hz)
  injection this with e1
  rw [← e1]
  exact hy
theorem many_perm {vl : Vls} {xs zs : List Sd} (p : zs.Perm xs) : manyI vl zs = manyI vl xs := prodI_perm (p.map _)
/-- where the law's rows and route lie -/
structure RowsAt (H : Hp) (l r : Addr) (ts : List Addr) (wk : List Str) (xs : List Sd) : Prop where
  hl : H l = some (.lst (ts.map V.ref))
  hx : SdsAt H ts xs
  ok : SdsOk xs
  ro : ∀ x ∈ xs, RowW x
  l8 : xs.length ≤ 8
  hr : H r = some (.lst (wk.map V.str))
  pw : wk.Perm (xs.map (·.1))
theorem RowsAt.same {H H' : Hp} {l r : Addr} {ts : List Addr} {wk : List Str} {xs : List Sd} (h : RowsAt H l r ts wk xs) (S : Same H H') : RowsAt H' l r ts wk xs := ⟨S _ _ h.hl, h.hx.same S, h.ok, h.ro, h.l8, S _ _ h.hr, h.pw⟩
theorem RowsAt.purse {H H' : Hp} {a l r : Addr} {n : Nat} {ts : List Addr} {wk : List Str} {xs : List Sd} (h : RowsAt H l r ts wk xs) (hp : PurseAt H a n) (S : SameB a H H') : RowsAt H' l r ts wk xs := ⟨S _ _ (purse_ref hp h.hl) h.hl, h.hx.purse hp S, h.ok, h.ro, h.l8, S _ _ (purse_str hp h.hr) h.hr, h.pw⟩
def spLike (K : PySem.W.Frag) : Sp := fun vs H Q _ => ∃ (a l r l2 r2 : Addr) (n : Nat) (ts us : List Addr) (wk w2 : List Str) (xs ys : List Sd), vs = [.ref a, .ref l, .ref r, .ref l2, .ref r2] ∧ PurseAt H a (n + 3000) ∧
  RowsAt H l r ts wk xs ∧ RowsAt H l2 r2 us w2 ys ∧ xs.length + ys.length ≤ 13 ∧
  (∀ z1 z2 : List Sd, z1.map (·.1) = wk.reverse → (∀ z ∈ z1, z ∈ xs) → z2.map (·.1) = w2.reverse → (∀ z ∈ z2, z ∈ ys) → joinL (longJ (z1.map norm)) = joinL (longJ (z2.map norm))) ∧
  ∀ H', PurseAt H' a n → SameB a H H' → Q (.bl true) H'
theorem sds_app {H : Hp} : ∀ {ts us : List Addr} {xs ys : List Sd}, SdsAt H ts xs → SdsAt H us ys → SdsAt H (ts ++ us) (xs ++ ys)
  | [], _, [], _, .nil, h => h
  | _ :: _, _, _ :: _, _, .cons r t, h => .cons r (sds_app t h)
section
variable {P : Program} {w : World} {K : PySem.W.Frag} {mg : Str → Option Value} {base : Heap}
theorem scLike : FnScope ["_law_purse_here", "_law_rows", "_law_route", "_law_others", "_law_way", "_law_most", "_law_sizes_here"] ["_law_purse_here", "_law_rows", "_law_route", "_law_others", "_law_way"] (defScope sLike) := ⟨rfl, rfl, rfl, by decide +kernel, rfl, by decide +kernel, by decide +kernel⟩
theorem ok_like {f : Addr} {fd : FuncData} (F : Fun K "_law_like" "_law_like" sLike f fd) (Sz : Cal P w K mg base 4 "_law_sizes" (spSizesL K) []) (Mc : Cal P w K mg base 2 "_law_many_cells" (spMany K) []) (Pa : Cal P w K mg base 2 "_law_pairs" (spPairs K) []) (Ru : Cal P w K mg base 2 "_law_run" (spRun K) []) : FnOk P w K mg base CX0 5 f fd ["_law_purse_here", "_law_rows", "_law_route", "_law_others", "_law_way"] (spLike K) := by
  refine F.ok scLike (fun vs H Q E h => ?_) (fun cdv A outer s H vs Q E hr h => ?_)
  · obtain ⟨a, l, r, l2, r2, n, ts, us, wk, w2, xs, ys, rfl, _⟩ := h
    rfl
  · obtain ⟨a, l, r, l2, r2, n, ts, us, wk, w2, xs, ys, rfl, hp, hX, hY, l13, same, k⟩ := h
    refine ⟨_, pss_cons (ps_for PassesOwn.never rfl (pi_tup (pe_tupS (pa_cons pe_int (pa_cons pe_int (pa_cons pe_int pa_nil))))) (pg_name (i := 5) scLike.nd rfl (Or.inl rfl))
        (pss_cons (ps_set (i := 6) scLike.nd rfl (Or.inl rfl) (pe_c Sz hr (by decide) rfl (pa_cons (pv 0) (pa_cons (pe_op op_catS (pv 1) (pv 3)) (pa_cons (pv 5) pa_nil)))))
        (pss_one (ps_if (PW.pt (pw_and (pt_cmpR op_lt (pe_c Mc hr (by decide) rfl (pa_cons (pv 1) (pa_cons (pv 6) pa_nil))) pe_int (by rfl))
            (pw_and1 (pt_cmpR op_lt (pe_c Mc hr (by decide) rfl (pa_cons (pv 3) (pa_cons (pv 6) pa_nil))) pe_int (by rfl)))))
          (pss_one (ps_if (pt_cmpR (op_neD hr.units) (pe_c Ru hr (by decide) rfl (pa_cons (pe_c Pa hr (by decide) rfl (pa_cons (pv 1) (pa_cons (pv 2) pa_nil))) (pa_cons (pv 6) pa_nil))) (pe_c Ru hr (by decide) rfl (pa_cons (pe_c Pa hr (by decide) rfl (pa_cons (pv 3) (pa_cons (pv 4) pa_nil))) (pa_cons (pv 6) pa_nil))) (by rfl)) (pss_one (ps_ret pe_bl)) pss_nil)) pss_nil))))
      (pss_one (ps_ret pe_bl)), ?_⟩
    refine ⟨by show 3 ≤ sizeLine; decide, fun tp H1 S1 n1 h1 => ⟨tp, rfl, ⟨_, SqT.of h1⟩, for_it (walk_tup (xs := [.int 1, .int 2, .int 3])) (fun i σ' H' => ∃ u5 u6, σ' = [some (.ref a), some (.ref l), some (.ref r), some (.ref l2), some (.ref r2), u5, u6] ∧ PurseAt H' a (n + 1000 * (3 - i)) ∧ SameB a H1 H') ⟨none, none, rfl, hp.same S1, SameB.refl _ _⟩ (fun i σ' H' _ q => let ⟨_, _, _, _, S⟩ := q; SqT.of (S _ _ (purse_tup (hp.same S1) h1) h1)) ?_ ?_⟩⟩
    · rintro i v σ' Hx H2 hi ⟨u5, u6, rfl, hp2, S2⟩ ⟨rfl, hxi⟩
      have hi3 : i < 3 := hi
      obtain ⟨m, rfl, m1, m3⟩ : ∃ m : Int, v = .int m ∧ 1 ≤ m ∧ m ≤ 3 := by
        match i, hi3 with
        | 0, _ => cases hxi; exact ⟨1, rfl, by decide, by decide⟩
        | 1, _ => cases hxi; exact ⟨2, rfl, by decide, by decide⟩
        | 2, _ => cases hxi; exact ⟨3, rfl, by decide, by decide⟩
      have X2 := (hX.same S1).purse (hp.same S1) S2
      have Y2 := (hY.same S1).purse (hp.same S1) S2
      have lx := X2.hx.length
      have ly := Y2.hx.length
      refine seq_asg ?_
      refine ⟨_, rfl, _, rfl, _, rfl, l, l2, _, _, rfl, rfl, X2.hl, Y2.hl, by rw [List.length_map, List.length_map, sizeLine_eq]; omega, fun c H3 S3 nc hc => ?_⟩
      rw [← List.map_append] at hc
      have hp3 := hp2.same S3
      have X3 := X2.same S3
      have Y3 := Y2.same S3
      refine ⟨_, rfl, a, c, ts ++ us, xs ++ ys, m, n + 1000 * (3 - (i + 1)), rfl, hp3.less (by omega), hc, sds_app X3.hx Y3.hx, fun x hx => (List.mem_append.mp hx).elim (X3.ro x) (Y3.ro x), by rw [List.length_append]; omega, m1, by omega, fun vl q H4 hk hv lvl hq nq hp4 S4 => ?_⟩
      have X4 := X3.purse hp3 S4
      have Y4 := Y3.purse hp3 S4
      have av : Av vl := fun x hx => by
        obtain ⟨b1, b2⟩ := hv x hx
        have : x.2.natAbs ≤ 3 := by omega
        have h400 : (3 : Nat) < 2 ^ 400 := by decide
        exact ⟨b1, by omega⟩
      have vX : ∀ {zs : List Sd}, (∀ z ∈ zs, z ∈ xs) → ValsOk vl zs := fun h => ⟨fun x hx z hz => (hk z).mpr ⟨x, List.mem_append.mpr (.inl (h x hx)), hz⟩, av⟩
      have vY : ∀ {zs : List Sd}, (∀ z ∈ zs, z ∈ ys) → ValsOk vl zs := fun h => ⟨fun x hx z hz => (hk z).mpr ⟨x, List.mem_append.mpr (.inr (h x hx)), hz⟩, av⟩
      have S24 : SameB a H2 H4 := fun c o n e => S4 _ _ n (S3 _ _ e)
      have fin : ∀ H5, Same H4 H5 → ∃ u5 u6, [some (V.ref a), some (V.ref l), some (V.ref r), some (V.ref l2), some (V.ref r2), some (V.int m), some (V.ref q)] = [some (V.ref a), some (V.ref l), some (V.ref r), some (V.ref l2), some (V.ref r2), u5, u6] ∧ PurseAt H5 a (n + 1000 * (3 - (i + 1))) ∧ SameB a H1 H5 := fun H5 S5 => ⟨_, _, rfl, hp4.same S5, fun c o n e => S5 _ _ (S24 _ _ n (S2 _ _ n e))⟩
      refine ⟨_, rfl, _, rfl, l, q, ts, xs, vl, rfl, SqL.of X4.hl, X4.hx, hq, vX fun _ h => h, X4.ro, by have := X4.l8; omega, _, _, rfl, rfl, _, rfl, iteD (fun m1 => ?_) (fun _ => ?_)⟩
      case refine_2 => exact ifF rfl (fin H4 fun _ _ e => e)
      refine ⟨_, rfl, _, rfl, l2, q, us, ys, vl, rfl, SqL.of Y4.hl, Y4.hx, hq, vY fun _ h => h, Y4.ro, by have := Y4.l8; omega, _, _, rfl, rfl, _, rfl, iteD (fun m2 => ?_) (fun _ => fin H4 fun _ _ e => e)⟩
      refine ⟨_, rfl, _, rfl, l, r, ts, wk, xs, rfl, X4.hl, X4.hx, X4.ok, X4.l8, X4.hr, X4.pw, fun H5 pa ta z1 S5 na hpa hta za zb => ?_⟩
      refine ⟨_, rfl, pa, q, ta, z1, vl, rfl, hpa, hta, S5 _ _ hq, vX zb, fun x hx => by have := X4.ro x (zb x hx); exact ⟨by have := this.2.2.1; omega, by have := this.2.2.2; omega⟩, by rw [many_perm (route_perm X4.ok.nd X4.pw za zb)]; omega, fun qa H6 S6 nqa hqa => ?_⟩
      have S46 := S5.trans S6
      refine ⟨_, rfl, _, rfl, l2, r2, us, w2, ys, rfl, S46 _ _ Y4.hl, Y4.hx.same S46, Y4.ok, Y4.l8, S46 _ _ Y4.hr, Y4.pw, fun H7 pb tb z2 S7 nb hpb htb zc zd => ?_⟩
      refine ⟨_, rfl, pb, q, tb, z2, vl, rfl, hpb, htb, S7 _ _ (S46 _ _ hq), vY zd, fun x hx => by have := Y4.ro x (zd x hx); exact ⟨by have := this.2.2.1; omega, by have := this.2.2.2; omega⟩, by rw [many_perm (route_perm Y4.ok.nd Y4.pw zc zd)]; omega, fun qb H8 S8 nqb hqb => ?_⟩
      have er : runL vl (z1.map (·.2)) = runL vl (z2.map (·.2)) := run_same av (fun z hz => (vX zb).mem z hz) (fun z hz => (vY zd).mem z hz) (same z1 z2 za zb zc zd)
      refine ⟨_, _, .lst (SqL.of (S8 _ _ (S7 _ _ hqa))) (dp_ints _), .lst (SqL.of hqb) (dp_ints _), shaped_ints _, shaped_ints _, _, rfl, ?_⟩
      rw [eqv_listI, er, decide_eq_true rfl]
      exact ifF rfl (fin H8 (S46.trans (S7.trans S8)))
    · rintro σ' H2 ⟨u5, u6, rfl, hp2, S2⟩
      exact k H2 (hp2.less (by omega)) fun c o nc e => S2 _ _ nc (S1 _ _ e)
end
end E4

set_option Elab.async false
set_option linter.all false
set_option maxRecDepth 100000
set_option maxHeartbeats 2000000
set_option exponentiation.threshold 5000
/-! _law_other -/
namespace E4
open PySem PySem.Spec PyProof.Rows L2
open C8 (Cal Mak Met InsC pe_c pe_mt pe_mt0 call_isC clsBody)
open E3 (PurseAt spPurse spMixed spDraw)
abbrev sOther : Stmt := top 41
/-- rows that the law draws, or makes of what it drew -/
def RowL (x : Sd) : Prop := (∀ z ∈ x.2.1, z ∈ L8) ∧ (∀ z ∈ x.2.2, z ∈ L8) ∧ x.2.1.length ≤ 4 ∧ x.2.2.length ≤ 6
theorem RowOk.l {x : Sd} (h : RowOk x) : RowL x := ⟨h.1, h.2.1, by have := h.2.2.1; omega, h.2.2.2⟩
def spOther (K : PySem.W.Frag) : Sp := fun vs H Q _ => ∃ (a l r : Addr) (n : Nat) (ts : List Addr) (wk : List Str) (xs : List Sd), vs = [.ref a, .ref l, .ref r] ∧ PurseAt H a (n + 100) ∧ RowsAt H l r ts wk xs ∧ (∀ x ∈ xs, RowOk x) ∧ (∀ x ∈ xs, x.1 ∈ N8) ∧ xs.length ≤ 5 ∧
  ∀ H' (p l' r' : Addr) (us : List Addr) (w2 : List Str) (ys : List Sd), H' p = some (.tup [.ref l', .ref r']) → RowsAt H' l' r' us w2 ys → (∀ y ∈ ys, RowL y) → ys.length ≤ 6 → PurseAt H' a n → SameB a H H' → Q (.ref p) H'
theorem split_at {α : Type} {l : List α} {i : Nat} {x : α} (h : l[i]? = some x) : l = l.take i ++ x :: l.drop (i + 1) := by
  obtain ⟨il, e⟩ := List.getElem?_eq_some_iff.mp h
  have := List.drop_eq_getElem_cons il
  rw [e] at this
  rw [← this, List.take_append_drop]
theorem RowL.w {x : Sd} (h : RowL x) : RowW x := ⟨fun z hz => List.mem_append.mpr (.inl (h.1 z hz)), fun z hz => List.mem_append.mpr (.inl (h.2.1 z hz)), h.2.2.1, h.2.2.2⟩
theorem sds_take {H : Hp} : ∀ (i : Nat) {ts : List Addr} {xs : List Sd}, SdsAt H ts xs → SdsAt H (ts.take i) (xs.take i)
  | 0, _, _, _ => by rw [List.take_zero, List.take_zero]; exact .nil
  | i + 1, _, _, .nil => .nil
  | i + 1, _, _, .cons r t => .cons r (sds_take i t)
theorem sds_drop {H : Hp} : ∀ (i : Nat) {ts : List Addr} {xs : List Sd}, SdsAt H ts xs → SdsAt H (ts.drop i) (xs.drop i)
  | 0, _, _, h => h
  | i + 1, _, _, .nil => .nil
  | i + 1, _, _, .cons r t => sds_drop i t
theorem let_inner : LetOk "inner" := by
  have : (decide (1 ≤ ("inner" : Str).length) && decide (("inner" : Str).length ≤ 10) && ("inner" : Str).cps.toList.all fun c => decide (97 ≤ c) && decide (c ≤ 122)) = true := by decide +kernel
  simp only [Bool.and_eq_true, decide_eq_true_eq, List.all_eq_true] at this
  exact ⟨this.1.1, this.1.2, this.2⟩
theorem n_L8 : ("n" : Str) ∈ L8 := by decide +kernel
theorem inner_L8 : ("inner" : Str) ∉ L8 := by decide +kernel
theorem inner_N8 : ("inner" : Str) ∉ N8 := by decide +kernel
theorem rowsL_ok {xs : List Sd} (nd : (xs.map (·.1)).Nodup) (nm : ∀ x ∈ xs, x.1 ∈ N8 ∨ x.1 = "inner") (hr : ∀ x ∈ xs, RowL x) (ne : xs ≠ []) (hl : xs.length ≤ 8) : SdsOk xs := by
  refine ⟨ne, fun x hx => ?_, nd, fun x hx y hy z hz e => ?_, by omega⟩
  · obtain ⟨a, b, c, d⟩ := hr x hx
    exact ⟨(nm x hx).elim (let_N8 _) fun e => by rw [e]; exact let_inner, fun z hz => let_L8 _ (a z hz), fun z hz => let_L8 _ (b z hz), by omega, by omega⟩
  · obtain ⟨a, b, _, _⟩ := hr x hx
    have hz8 : z ∈ L8 := hz.elim (a z) (b z)
    rcases nm y hy with h | h
    · exact apart z hz8 (by rw [e]; exact h)
    · rw [e, h] at hz8
      exact inner_L8 hz8
section
variable {P : Program} {w : World} {K : PySem.W.Frag} {mg : Str → Option Value} {base : Heap}
abbrev NOt : List Str := ["_law_purse_here", "_law_rows", "_law_route", "_law_way", "_law_at_here", "_law_word", "_law_span", "_law_step", "_law_cut", "_law_pieces", "_law_spot"]
theorem scOther : FnScope NOt ["_law_purse_here", "_law_rows", "_law_route"] (defScope sOther) := ⟨rfl, rfl, rfl, by decide +kernel, rfl, by decide +kernel, by decide +kernel⟩
theorem ok_other {f : Addr} {fd : FuncData} (F : Fun K "_law_other" "_law_other" sOther f fd) (B : Bl mg) (hmin : mg "min" = none) (D : Cal P w K mg base 2 "_law_draw" spDraw []) (Sh : Cal P w K mg base 3 "_law_shuffled" (spShuf K) []) (Sv : Cal P w K mg base 3 "_law_shuffled" spShufV []) : FnOk P w K mg base CX0 4 f fd ["_law_purse_here", "_law_rows", "_law_route"] (spOther K) := by
  refine F.ok scOther (fun vs H Q E h => ?_) (fun cdv A outer s H vs Q E hr h => ?_)
  · obtain ⟨a, l, r, n, ts, wk, xs, rfl, _⟩ := h
    rfl
  · obtain ⟨a, l, r, n, ts, wk, xs, rfl, hp, hX, rok, hn8, l5, k⟩ := h
    refine ⟨_, pss_cons (ps_par (i := 3) (j := 4) (by rfl) scOther.nd rfl rfl (by decide) rfl rfl (pa_cons (pe_c D hr (by decide) rfl (pa_cons (pv 0) (pa_cons pe_int pa_nil))) (pa_cons (pe_c D hr (by decide) rfl (pa_cons (pv 0) (pa_cons (pe_callB call_len_seq (by rfl) B.len_ PySem.boot_len (pa_cons (pv 1) pa_nil)) pa_nil))) pa_nil)) (by rfl))
      (pss_cons (ps_asg (pe_ix ix_list (pv 1) (pv 4) (fun _ _ => rfl)) (pg_tup (by rfl) (pgs_cons (pg_name (i := 5) scOther.nd rfl (Or.inl rfl)) (pgs_cons (pg_name (i := 6) scOther.nd rfl (Or.inl rfl)) (pgs_cons (pg_name (i := 7) scOther.nd rfl (Or.inl rfl)) pgs_nil)))))
      (pss_cons (ps_if (pt_cmpR op_eq (pv 3) pe_int (by rfl)) (pss_one (ps_ret (pe_tupS (pa_cons (pe_c Sv hr (by decide) rfl (pa_cons (pv 0) (pa_cons (pv 1) pa_nil))) (pa_cons (pv 2) pa_nil))))) pss_nil)
      (pss_cons (ps_if (PW.pt (pw_and (pt_cmpR op_eq (pv 3) pe_int (by rfl)) (pw_and (pt_cmpR op_lt (pe_callB call_len_seq (by rfl) B.len_ PySem.boot_len (pa_cons (pv 1) pa_nil)) pe_int (by rfl)) (pw_and1 (pt_cmpR (op_neD hr.units) (pv 6) (pe_lstS pa_nil) (by rfl))))))
        (pss_cons (ps_set (i := 8) scOther.nd rfl (Or.inl rfl) (pe_callB (call_min2 rfl) (by rfl) hmin (by decide +kernel) (pa_cons (pe_c D hr (by decide) rfl (pa_cons (pv 0) (pa_cons (pe_op op_add (pe_callB call_len_seq (by rfl) B.len_ PySem.boot_len (pa_cons (pv 6) pa_nil)) pe_int) pa_nil))) (pa_cons (pe_op op_sub pe_int (pe_callB call_len_seq (by rfl) B.len_ PySem.boot_len (pa_cons (pv 7) pa_nil))) pa_nil))))
        (pss_cons (ps_set (i := 9) scOther.nd rfl (Or.inl rfl) (pe_lstS (pa_cons (pe_tupS (pa_cons (pv 5) (pa_cons (pe_slice sl_listS (pv 6) po_none (po_some (pv 8))) (pa_cons (pv 7) pa_nil)))) (pa_cons (pe_tupS (pa_cons pe_str (pa_cons (pe_slice sl_listS (pv 6) (po_some (pv 8)) po_none) (pa_cons (pe_op op_catS (pv 7) (pe_slice sl_listS (pv 6) po_none (po_some (pv 8)))) pa_nil)))) pa_nil))))
        (pss_cons (ps_set (i := 10) scOther.nd rfl (Or.inl rfl) (pe_bm PySem.F.plainAttrs_list PySem.F.slot_list_index PySem.F.type_list_index mt_index (pv 2) (pa_cons (pv 5) pa_nil)))
        (pss_one (ps_ret (pe_tupS (pa_cons (pe_op op_catS (pe_op op_catS (pe_slice sl_listS (pv 1) po_none (po_some (pv 4))) (pv 9)) (pe_slice sl_listS (pv 1) (po_some (pe_op op_add (pv 4) pe_int)) po_none)) (pa_cons (pe_op op_catS (pe_op op_catS (pe_slice sl_listS (pv 2) po_none (po_some (pv 10))) (pe_lstS (pa_cons pe_str (pa_cons (pv 5) pa_nil)))) (pe_slice sl_listS (pv 2) (po_some (pe_op op_add (pv 10) pe_int)) po_none)) pa_nil)))))))) pss_nil)
      (pss_cons (ps_if (pt_cmpR op_eq (pv 3) pe_int (by rfl)) (pss_one (ps_ret (pe_tupS (pa_cons (pe_op op_catS (pe_op op_catS (pe_slice sl_listS (pv 1) po_none (po_some (pv 4))) (pe_lstS (pa_cons (pe_tupS (pa_cons (pv 5) (pa_cons (pe_op op_catS (pv 6) (pe_lstS (pa_cons pe_str pa_nil))) (pa_cons (pv 7) pa_nil)))) pa_nil))) (pe_slice sl_listS (pv 1) (po_some (pe_op op_add (pv 4) pe_int)) po_none)) (pa_cons (pv 2) pa_nil))))) pss_nil)
      (pss_one (ps_ret (pe_tupS (pa_cons (pv 1) (pa_cons (pe_c Sh hr (by decide) rfl (pa_cons (pv 0) (pa_cons (pv 2) pa_nil))) pa_nil))))))))), ?_⟩
    refine ⟨_, rfl, a, 4, n + 96, rfl, hp.less (by omega), by decide, by decide, fun way H1 w0 w4 hp1 S1 => ?_⟩
    have X1 := hX.purse hp S1
    have lt := X1.hx.length
    have lx : 1 ≤ xs.length := List.length_pos_iff.mpr X1.ok.ne
    refine ⟨_, rfl, _, rfl, l, _, rfl, .inl (SqL.of X1.hl), a, _, n + 92, rfl, hp1.less (by omega), by rw [List.length_map]; omega, by rw [List.length_map]; omega, fun ai H2 a0 a1 hp2 S2 => ?_⟩
    rw [List.length_map] at a1
    obtain ⟨i, rfl⟩ := Int.eq_ofNat_of_zero_le a0
    have X2 := X1.purse hp1 S2
    have S02 : SameB a H H2 := fun c o nc e => S2 _ _ nc (S1 _ _ nc e)
    have ht : ts[i]? = some ts[i] := List.getElem?_eq_getElem (by omega)
    generalize ts[i] = t at ht
    obtain ⟨x, hx, u, v, r0, r1, r2⟩ := paired_at X2.hx ht
    have xm := List.mem_of_getElem? hx
    have rx := rok x xm
    have esp := split_at hx
    have ets := split_at ht
    have nla : l ≠ a := by rintro rfl; obtain ⟨p0, p1, p2, e, _⟩ := hp; rw [hX.hl] at e; have := X1.ok.ne; cases ts with
      | nil => simp at ht
      | cons b ts => cases e
    refine ⟨_, _, rfl, ?_⟩
    dsimp only
    have hti : (ts.map V.ref)[i]? = some (V.ref t) := by rw [List.getElem?_map, ht]; rfl
    refine ⟨_, rfl, _, rfl, l, _, _, _, rfl, rfl, SqL.of X2.hl, atI_get hti, t, _, rfl, SqT.of r0, rfl, _, _, rfl, _, _, rfl, _, _, rfl, rfl, ?_⟩
    refine ⟨_, rfl, rfl, _, rfl, ?_⟩
    by_cases c0 : way = 0
    · subst c0
      refine ifT rfl ?_
      refine ⟨_, rfl, _, rfl, a, l, ts.map V.ref, n, rfl, hp2.less (by rw [List.length_map]; omega), X2.hl, nla, by rw [List.length_map]; omega, fun ys q H3 pm hq nq hp3 S3 => ?_⟩
      obtain ⟨us, pu, rfl⟩ := perm_refs pm
      have X3 := X2.purse hp2 S3
      obtain ⟨zs, pz, hz⟩ := paired_perm pu X3.hx
      refine ⟨_, rfl, by show 2 ≤ sizeLine; decide, fun p H4 S4 np h4 => ?_⟩
      refine k H4 p q r us wk zs h4 ⟨S4 _ _ hq, SdsAt.same hz S4, X3.ok.perm pz, fun x hx => X3.ro x (pz.mem_iff.mp hx), by rw [pz.length_eq]; exact X3.l8, S4 _ _ X3.hr, X3.pw.trans (pz.map _).symm⟩ (fun y hy => (rok y (pz.mem_iff.mp hy)).l) (by rw [pz.length_eq]; omega) (hp3.same S4) fun c o nc e => S4 _ _ (S3 _ _ nc (S02 _ _ nc e))
    refine ifF (by simp [c0]) ?_
    dsimp only [tNext]
    refine ts_mid (fun σ' H' => σ' = [some (.ref a), some (.ref l), some (.ref r), some (.int way), some (.int i), some (.str x.1), some (.ref u), some (.ref v), none, none, none] ∧ Same H2 H') (fun N hN => ?_) ?_
    · refine ⟨_, rfl, rfl, _, rfl, ?_⟩
      by_cases c1 : way = 1
      case neg => exact ifF (by simp [c1]) (ifF rfl (hN _ _ ⟨rfl, fun _ _ e => e⟩))
      refine ifT (by simp [c1]) ?_
      refine ⟨_, rfl, l, _, rfl, .inl (SqL.of X2.hl), _, _, rfl, rfl, _, rfl, ifT (by rw [List.length_map]; simp; omega) ?_⟩
      refine ⟨_, rfl, by show 0 ≤ sizeLine; decide, fun e1 H3 S3 ne1 he1 => ?_⟩
      refine ⟨.list (x.2.1.map PyData.str), .list [], .lst (SqL.of (S3 _ _ r1)) (dp_strs _), .lst (SqL.of he1) .nil, shaped_strs _ (fun z hz => strOk_of ((X2.ok.ok x xm).2.1 z hz)), shaped_strs [] (fun _ h => absurd h List.not_mem_nil), _, rfl, ?_⟩
      rw [show PyData.eqv (.list (x.2.1.map PyData.str)) (.list []) = decide (x.2.1 = []) from eqv_listS x.2.1 []]
      by_cases cn : x.2.1 = []
      · rw [decide_eq_true cn]
        exact ifF rfl (hN _ _ ⟨rfl, S3⟩)
      rw [decide_eq_false cn]
      refine ifT rfl ?_
      have r1' := S3 _ _ r1
      have r2' := S3 _ _ r2
      have lu : x.2.1.length ≤ 3 := rx.2.2.1
      have lv : x.2.2.length ≤ 6 := rx.2.2.2
      refine seq_asg ⟨_, rfl, _, rfl, u, _, rfl, .inl (SqL.of r1'), _, _, rfl, rfl, a, _, n, rfl, (hp2.same S3).less (by omega), by rw [List.length_map]; omega, by rw [List.length_map]; omega, fun dr H4 d0 d1 hp4 S4 => ⟨_, rfl, v, _, rfl, .inl (SqL.of (S4 _ _ (purse_str (hp2.same S3) r2') r2')), _, _, rfl, rfl, _, _, rfl, ?_⟩⟩
      have hp3' := (hp2.same S3)
      have X4 := (X2.same S3).purse hp3' S4
      have r1'' := S4 _ _ (purse_str hp3' r1') r1'
      have r2'' := S4 _ _ (purse_str hp3' r2') r2'
      have lm : dr < (x.2.1.length : Int) + 1 := by rw [List.length_map] at d1; exact d1
      rw [List.length_map]
      obtain ⟨ct, hct, lct, lc6⟩ : ∃ ct : Nat, (if (6 : Int) - (x.2.2.length : Nat) < dr then (6 : Int) - (x.2.2.length : Nat) else dr) = (ct : Int) ∧ ct ≤ x.2.1.length ∧ ct + x.2.2.length ≤ 6 := by
        split
        · exact ⟨6 - x.2.2.length, by omega, by omega, by omega⟩
        · exact ⟨dr.toNat, by omega, by omega, by omega⟩
      rw [hct]
      dsimp only
      refine seq_asg ?_
      refine ⟨_, rfl, _, rfl, _, rfl, _, rfl, u, _, rfl, SqL.of r1'', fun f1 H5 S5 nf1 hf1 => ?_⟩
      rw [take_nat, ← List.map_take] at hf1
      refine ⟨_, rfl, by show 3 ≤ sizeLine; decide, fun t1 H6 S6 nt1 ht1 => ?_⟩
      have S46 := S5.trans S6
      refine ⟨_, rfl, _, rfl, _, rfl, u, _, rfl, SqL.of (S46 _ _ r1''), fun f2 H7 S7 nf2 hf2 => ?_⟩
      rw [cut_drop, ← List.map_drop] at hf2
      have S47 := S46.trans S7
      refine ⟨_, rfl, _, rfl, _, rfl, _, rfl, u, _, rfl, SqL.of (S47 _ _ r1''), fun f3 H8 S8 nf3 hf3 => ?_⟩
      rw [take_nat, ← List.map_take] at hf3
      have S48 := S47.trans S8
      refine ⟨v, f3, _, _, rfl, rfl, S48 _ _ r2'', hf3, by rw [List.length_map, List.length_map, List.length_take, sizeLine_eq]; omega, fun v2 H9 S9 nv2 hv2 => ?_⟩
      rw [← List.map_append] at hv2
      refine ⟨by show 3 ≤ sizeLine; decide, fun t2 H10 S10 nt2 ht2 => ?_⟩
      refine ⟨by show 2 ≤ sizeLine; decide, fun pc H11 S11 npc hpc => ?_⟩
      have S411 := S48.trans (S9.trans (S10.trans S11))
      have X11 := X4.same S411
      obtain ⟨jw, hjw⟩ := List.mem_iff_getElem?.mp (X11.pw.mem_iff.mpr (List.mem_map.mpr ⟨x, xm, rfl⟩))
      have ndw : wk.Nodup := X11.pw.nodup_iff.mpr X11.ok.nd
      have jl := (List.getElem?_eq_some_iff.mp hjw).1
      have lwk : wk.length = xs.length := by rw [X11.pw.length_eq, List.length_map]
      dsimp only
      refine seq_asg ⟨_, rfl, .inl ⟨rfl, _, SqL.of X11.hr⟩, _, rfl, r, _, _, jw, .str x.1, rfl, rfl, SqL.of X11.hr, rfl, flat_strs _, by rw [List.getElem?_map, hjw]; rfl, by simp [eqV], fun m z' hm hz' => ?_, ?_⟩
      · rw [List.getElem?_map] at hz'
        obtain ⟨z, hz, rfl⟩ := Option.map_eq_some_iff.mp hz'
        have : z ≠ x.1 := fun e => by
          have := (List.getElem?_inj (i := m) (j := jw) (List.getElem?_eq_some_iff.mp hz).1 ndw).mp (by rw [hz, hjw, e])
          omega
        simp [eqV, this]
      dsimp only
      have lts5 : ts.length ≤ 5 := by omega
      refine ⟨_, rfl, _, rfl, _, rfl, l, _, rfl, SqL.of X11.hl, fun g1 H12 S12 ng1 hg1 => ?_⟩
      rw [take_nat, ← List.map_take] at hg1
      refine ⟨_, rfl, g1, pc, _, _, rfl, rfl, hg1, S12 _ _ hpc, by rw [List.length_map, List.length_take, sizeLine_eq]; simp; omega, fun g2 H13 S13 ng2 hg2 => ?_⟩
      refine ⟨_, rfl, _, rfl, _, _, rfl, rfl, _, rfl, l, _, rfl, SqL.of (S13 _ _ (S12 _ _ X11.hl)), fun g3 H14 S14 ng3 hg3 => ?_⟩
      rw [show (i : Int) + 1 = ((i + 1 : Nat) : Int) from rfl, cut_drop, ← List.map_drop] at hg3
      refine ⟨g2, g3, _, _, rfl, rfl, S14 _ _ hg2, hg3, by rw [List.length_append, List.length_map, List.length_map, List.length_take, List.length_drop, sizeLine_eq]; simp; omega, fun l' H15 S15 nl' hl' => ?_⟩
      have Sa := S12.trans (S13.trans (S14.trans S15))
      refine ⟨_, rfl, _, rfl, _, rfl, r, _, rfl, SqL.of (Sa _ _ X11.hr), fun q1 H16 S16 nq1 hq1 => ?_⟩
      rw [take_nat, ← List.map_take] at hq1
      refine ⟨_, rfl, by show 2 ≤ sizeLine; decide, fun q2 H17 S17 nq2 hq2 => ?_⟩
      refine ⟨q1, q2, _, _, rfl, rfl, S17 _ _ hq1, hq2, by rw [List.length_map, List.length_take, sizeLine_eq]; simp; omega, fun q3 H18 S18 nq3 hq3 => ?_⟩
      refine ⟨_, rfl, _, rfl, _, _, rfl, rfl, _, rfl, r, _, rfl, SqL.of (S18 _ _ (S17 _ _ (S16 _ _ (Sa _ _ X11.hr)))), fun q4 H19 S19 nq4 hq4 => ?_⟩
      rw [show (jw : Int) + 1 = ((jw + 1 : Nat) : Int) from rfl, cut_drop, ← List.map_drop] at hq4
      refine ⟨q3, q4, _, _, rfl, rfl, S19 _ _ hq3, hq4, by rw [List.length_append, List.length_map, List.length_map, List.length_take, List.length_drop, sizeLine_eq]; simp; omega, fun r' H20 S20 nr' hr' => ?_⟩
      refine ⟨by show 2 ≤ sizeLine; decide, fun p H21 S21 np h21 => ?_⟩
      have Sb := S16.trans (S17.trans (S18.trans (S19.trans (S20.trans S21))))
      have Sc := Sa.trans Sb
      have X21 := X11.same Sc
      let ya : Sd := (x.1, x.2.1.take ct, x.2.2)
      let yb : Sd := ("inner", x.2.1.drop ct, x.2.2 ++ x.2.1.take ct)
      have S521 : Same H5 H21 := S6.trans (S7.trans (S8.trans (S9.trans (S10.trans (S11.trans Sc)))))
      have a1 : SdAt H21 t1 ya := ⟨f1, v, ((S7.trans (S8.trans (S9.trans (S10.trans (S11.trans Sc)))))) _ _ ht1, S521 _ _ hf1, (S411.trans Sc) _ _ r2''⟩
      have a2 : SdAt H21 t2 yb := ⟨f2, v2, (S11.trans Sc) _ _ ht2, ((S8.trans (S9.trans (S10.trans (S11.trans Sc))))) _ _ hf2, ((S10.trans (S11.trans Sc))) _ _ hv2⟩
      have rl : ∀ y ∈ xs.take i ++ ([ya, yb] ++ xs.drop (i + 1)), RowL y ∧ (y.1 ∈ N8 ∨ y.1 = "inner") := fun y hy => by
        rcases List.mem_append.mp hy with h | h
        · have := List.mem_of_mem_take h
          exact ⟨(rok y this).l, .inl (hn8 y this)⟩
        rcases List.mem_append.mp h with h | h
        · rcases List.mem_cons.mp h with rfl | h
          · refine ⟨⟨fun z hz => rx.1 z (List.mem_of_mem_take hz), rx.2.1, ?_, rx.2.2.2⟩, .inl (hn8 x xm)⟩
            show (x.2.1.take ct).length ≤ 4
            rw [List.length_take]
            omega
          · rw [List.mem_singleton.mp h]
            refine ⟨⟨fun z hz => rx.1 z (List.mem_of_mem_drop hz), fun z hz => (List.mem_append.mp hz).elim (rx.2.1 z) fun q => rx.1 z (List.mem_of_mem_take q), ?_, ?_⟩, .inr rfl⟩
            · show (x.2.1.drop ct).length ≤ 4
              rw [List.length_drop]
              omega
            · show (x.2.2 ++ x.2.1.take ct).length ≤ 6
              rw [List.length_append, List.length_take]
              omega
        · have := List.mem_of_mem_drop h
          exact ⟨(rok y this).l, .inl (hn8 y this)⟩
      have pn : ((xs.take i ++ ([ya, yb] ++ xs.drop (i + 1))).map (·.1)).Perm (("inner" : Str) :: xs.map (·.1)) := by
        have e1 : xs.map (·.1) = (xs.take i).map (·.1) ++ x.1 :: (xs.drop (i + 1)).map (·.1) := by
          have := congrArg (List.map (fun y : Sd => y.1)) esp
          rwa [List.map_append, List.map_cons] at this
        rw [e1, List.map_append, List.map_append]
        show ((xs.take i).map (·.1) ++ x.1 :: ("inner" : Str) :: (xs.drop (i + 1)).map (·.1)).Perm _
        exact ((List.Perm.swap _ _ _).append_left _).trans List.perm_middle
      have pw2 : (wk.take jw ++ (("inner" : Str) :: x.1 :: wk.drop (jw + 1))).Perm (("inner" : Str) :: wk) := by
        conv => rhs; rw [split_at hjw]
        exact List.perm_middle
      have nin : ("inner" : Str) ∉ xs.map (·.1) := fun h => by
        obtain ⟨y, hy, e⟩ := List.mem_map.mp h
        exact inner_N8 (e ▸ hn8 y hy)
      have len6 : (xs.take i ++ ([ya, yb] ++ xs.drop (i + 1))).length ≤ 6 := by
        rw [List.length_append, List.length_append, List.length_take, List.length_drop]
        simp
        omega
      have okn : SdsOk (xs.take i ++ ([ya, yb] ++ xs.drop (i + 1))) := rowsL_ok (pn.nodup_iff.mpr (List.nodup_cons.mpr ⟨nin, X11.ok.nd⟩)) (fun y hy => (rl y hy).2) (fun y hy => (rl y hy).1) (by simp) (by omega)
      refine k H21 p l' r' (ts.take i ++ ([t1, t2] ++ ts.drop (i + 1))) (wk.take jw ++ (("inner" : Str) :: x.1 :: wk.drop (jw + 1))) _ h21 ⟨?_, sds_app (sds_take i X21.hx) (sds_app (.cons a1 (.cons a2 .nil)) (sds_drop (i + 1) X21.hx)), okn, fun y hy => (rl y hy).1.w, by omega, ?_, pw2.trans ((X11.pw.cons _).trans pn.symm)⟩ (fun y hy => (rl y hy).1) len6 (hp4.same (S411.trans Sc)) fun c o nc e => (S411.trans Sc) _ _ (S4 _ _ nc (S3 _ _ (S02 _ _ nc e)))
      · rw [Sb _ _ hl', List.map_append, List.map_append, List.append_assoc]
        rfl
      · rw [S21 _ _ hr', List.map_append, List.map_cons, List.map_cons, List.append_assoc]
        rfl
    rintro σ' H3 ⟨rfl, S3⟩
    have X3 := X2.same S3
    have hp3 := hp2.same S3
    refine ⟨_, rfl, rfl, _, rfl, ?_⟩
    by_cases c2 : way = 2
    · refine ifT (by simp [c2]) ?_
      have lts : ts.length ≤ 5 := by omega
      refine ⟨_, rfl, _, rfl, _, rfl, l, _, rfl, SqL.of X3.hl, fun c1 H4 S4 nc1 hc1 => ?_⟩
      rw [take_nat, ← List.map_take] at hc1
      refine ⟨_, rfl, _, rfl, by show 1 ≤ sizeLine; decide, fun e1 H5 S5 ne1 he1 => ?_⟩
      have S35 := S4.trans S5
      refine ⟨u, e1, _, _, rfl, rfl, S35 _ _ (S3 _ _ r1), he1, by rw [List.length_map, sizeLine_eq]; have := rx.2.2.1; simp; omega, fun u' H6 S6 nu' hu' => ?_⟩
      have S36 := S35.trans S6
      refine ⟨_, rfl, by show 3 ≤ sizeLine; decide, fun t' H7 S7 nt' ht' => ?_⟩
      refine ⟨by show 1 ≤ sizeLine; decide, fun c2' H8 S8 nc2 hc2 => ?_⟩
      have S68 := S7.trans S8
      have S38 := S36.trans S68
      refine ⟨c1, c2', _, _, rfl, rfl, S68 _ _ (S6 _ _ (S5 _ _ hc1)), hc2, by rw [List.length_map, List.length_take, sizeLine_eq]; simp; omega, fun c3 H9 S9 nc3 hc3 => ?_⟩
      refine ⟨_, rfl, _, rfl, _, _, rfl, rfl, _, rfl, l, _, rfl, SqL.of (S9 _ _ (S38 _ _ X3.hl)), fun c4 H10 S10 nc4 hc4 => ?_⟩
      rw [show (i : Int) + 1 = ((i + 1 : Nat) : Int) from rfl, cut_drop, ← List.map_drop] at hc4
      have S310 := S38.trans (S9.trans S10)
      refine ⟨c3, c4, _, _, rfl, rfl, S10 _ _ hc3, hc4, by rw [List.length_append, List.length_map, List.length_map, List.length_take, List.length_drop, sizeLine_eq]; simp; omega, fun l' H11 S11 nl' hl' => ?_⟩
      refine ⟨_, rfl, by show 2 ≤ sizeLine; decide, fun p H12 S12 np h12 => ?_⟩
      have S1012 := S11.trans S12
      have X12 := X3.same (S310.trans S1012)
      have S612 := (S68.trans (S9.trans S10)).trans S1012
      let x' : Sd := (x.1, x.2.1 ++ ([("n" : Str)] : List Str), x.2.2)
      have ht' : SdAt H12 t' x' := ⟨u', v, ((S8.trans (S9.trans S10)).trans S1012) _ _ ht', by rw [S612 _ _ hu']; show _ = some (HO.lst ((x.2.1 ++ ([("n" : Str)] : List Str)).map V.str)); rw [List.map_append]; rfl, ((S310.trans S1012) _ _ (S3 _ _ r2))⟩
      have il : i < xs.length := (List.getElem?_eq_some_iff.mp hx).1
      have ey : xs.set i x' = xs.take i ++ x' :: xs.drop (i + 1) := List.set_eq_take_append_cons_drop.trans (if_pos il)
      have et : ts.set i t' = ts.take i ++ t' :: ts.drop (i + 1) := List.set_eq_take_append_cons_drop.trans (if_pos (by omega))
      have names : (xs.set i x').map (·.1) = xs.map (·.1) := by
        rw [List.map_set]
        refine List.ext_getElem? fun j => ?_
        by_cases c : i = j
        · subst c
          rw [List.getElem?_set_self (by rw [List.length_map]; exact il), List.getElem?_map, hx]
          rfl
        · rw [List.getElem?_set_ne c]
      have rl : ∀ y ∈ xs.set i x', RowL y := fun y hy => (List.mem_or_eq_of_mem_set hy).elim (fun h => (rok y h).l) fun h => by
        subst h
        refine ⟨fun z hz => (List.mem_append.mp hz).elim (rx.1 z) fun q => by rw [List.mem_singleton.mp q]; exact n_L8, rx.2.1, ?_, rx.2.2.2⟩
        show (x.2.1 ++ ([("n" : Str)] : List Str)).length ≤ 4
        have := rx.2.2.1
        rw [List.length_append]
        simp
        omega
      have okn : SdsOk (xs.set i x') := rowsL_ok (by rw [names]; exact X3.ok.nd) (fun y hy => by
        have : y.1 ∈ (xs.set i x').map (·.1) := List.mem_map.mpr ⟨y, hy, rfl⟩
        rw [names] at this
        obtain ⟨q, hq, e⟩ := List.mem_map.mp this
        rw [← e]
        exact .inl (hn8 q hq)) rl (fun e => by have := congrArg List.length e; rw [List.length_set, List.length_nil] at this; omega) (by rw [List.length_set]; omega)
      refine k H12 p l' r (ts.set i t') wk (xs.set i x') h12 ⟨?_, paired_set X12.hx i ht', okn, fun y hy => (rl y hy).w, by rw [List.length_set]; omega, X12.hr, by rw [names]; exact X3.pw⟩ rl (by rw [List.length_set]; omega) ((hp3.less (by omega)).same (S310.trans S1012)) fun c o nc e => (S310.trans S1012) _ _ (S3 _ _ (S02 _ _ nc e))
      rw [S12 _ _ hl', et, List.map_append]
      simp
    refine ifF (by simp [c2]) ?_
    dsimp only [tNext]
    refine ⟨_, rfl, _, rfl, _, rfl, a, r, wk, n, rfl, hp3.less (by have := X3.pw.length_eq; rw [List.length_map] at this; omega), X3.hr, by have := X3.pw.length_eq; rw [List.length_map] at this; omega, fun ys q H4 pm hq nq hp4 S4 => ?_⟩
    have X4 := X3.purse hp3 S4
    refine ⟨by show 2 ≤ sizeLine; decide, fun p H5 S5 np h5 => ?_⟩
    have X5 := X4.same S5
    exact k H5 p l q ts ys xs h5 ⟨X5.hl, X5.hx, X5.ok, X5.ro, X5.l8, S5 _ _ hq, pm.trans X5.pw⟩ (fun y hy => (rok y hy).l) (by omega) (hp4.same S5) fun c o nc e => S5 _ _ (S4 _ _ nc (S3 _ _ (S02 _ _ nc e)))
end
end E4

set_option Elab.async false
set_option linter.all false
set_option maxRecDepth 100000
set_option maxHeartbeats 1000000
/-! repr of a list of data without dicts -/
namespace L2
open PySem PySem.Spec PyProof.Rows
end L2

set_option Elab.async false
set_option linter.all false
set_option maxRecDepth 100000
set_option maxHeartbeats 1000000
/-! repr of None, of a list of data, of a dict of whole numbers by texts -/
namespace L2
open PySem PySem.Spec PyProof.Rows
open E4 (Vls dI)
inductive ShwV (K : PySem.W.Frag) (H : Hp) : V → PyData → Prop where
  | non : ShwV K H .non .none
  | lst {p : Addr} {vs : List V} {ds : List PyData} (h : H p = some (.lst vs)) (hv : DpAll K H vs ds) (n : PyData.hasDictAll ds = false) : ShwV K H (.ref p) (.list ds)
  | dct {q : Addr} {vl : Vls} (h : H q = some (.dK (dI vl))) : ShwV K H (.ref q) (.dict (vl.map fun x => (.str x.1, .int x.2)))
def rReprV (K : PySem.W.Frag) : List V → Hp → VK → Prop := fun xs H Q => ∃ (v : V) (d : PyData), xs = [v] ∧ ShwV K H v d ∧ d.showable = true ∧ d.depth ≤ 20 ∧ d.shown.length ≤ sizeLine ∧ Q (.str d.shown) H
theorem pairs_paired {P : Program} {w : World} : ∀ {es : List DictEntry} {vs : List (Key × Value)}, Pairs (mixKind P w) es vs → Paired (fun (e : DictEntry) (p : Key × Value) => keyIs p.1 e.key = true ∧ e.val = p.2) es vs
  | _, _, .nil => .nil
  | _, _, .cons a b r => .cons ⟨a, b⟩ (pairs_paired r)
section
variable {X : Cx} {pins : List (Addr × Obj)} {σ : St} {H : Hp} {s : Shared}
theorem dictI_reads {h : Heap} : ∀ {vl : Vls} {vs : List (Key × Value)} {es : List DictEntry}, KV (dI vl) vs → Paired (fun (e : DictEntry) (p : Key × Value) => keyIs p.1 e.key = true ∧ e.val = p.2) es vs →
    ReadsAll h (es.map (·.key)) (vl.map fun x => .str x.1) [] ∧ ReadsAll h (es.map (·.val)) (vl.map fun x => .int x.2) []
  | [], vs, es, kv, ps => by
    cases kv
    cases ps
    exact ⟨.nil, .nil⟩
  | x :: vl, vs, es, kv, ps => by
    have kv : KV ((Sum.inr x.1, V.int x.2) :: dI vl) vs := kv
    cases kv with
    | @cons _ q _ vs' hk kt =>
      cases ps with
      | @cons e _ es' _ k1 ps' =>
        obtain ⟨k, w'⟩ := q
        obtain ⟨ek, ri⟩ := hk
        dsimp only at ek ri k1
        subst ek
        obtain ⟨t', rfl⟩ := (show ∃ t, w' = Value.int x.2 t from ri)
        obtain ⟨a, b⟩ := dictI_reads kt ps'
        obtain ⟨k2, k3⟩ := k1
        rcases keyIs_shape (show keyIs (.inr x.1) e.key = true from k2) with ⟨_, _, z, _⟩ | ⟨y, ty, z, e2⟩
        · cases z
        · cases z
          refine ⟨?_, ?_⟩
          · rw [List.map_cons, List.map_cons, e2]
            exact .cons (as := []) (bs := []) (.str x.1 ty) a
          · rw [List.map_cons, List.map_cons, k3]
            exact .cons (as := []) (bs := []) (.int x.2 t') b
end
theorem call_reprV {X : Cx} (hg : X.A.guards = some []) (hu : X.A.units + 64 < cLine) : CallR X (.builtin "repr") (rReprV X.K) := by
  rintro pins s σ H xs us Q I r ⟨v, d, rfl, hv, hs, hd, hz, q⟩
  cases hv with
  | non =>
    obtain ⟨u, rfl, rv⟩ := vals1 r
    obtain rfl : u = Value.none := rv
    have e : (PyData.none).shown = ("None" : Str) := by simp only [PyData.shown]
    rw [e] at q
    exact PySem.P.repr_of_none ⟨.str _, H, I.tok _, ⟨_, rfl⟩, q⟩
  | @lst p vs ds hp hv n =>
    rw [Vals.ref1 r]
    obtain ⟨_, its, m, rv, _, he⟩ := I.lstM hp
    obtain ⟨as, ra⟩ := Dp.readsAll I ds vs its hv rv
    have ro : Reads s.heap (.ref p) (.list ds) _ := .list he rfl rfl ra
    exact repr_of_reads' ro hs (fun z => by simp only [PyData.hasDict] at z; rw [n] at z; cases z) hg (by omega) (fun _ _ e => e) (fun h' u tk k => ⟨.str _, H, I.kept (t' := tk) k, ⟨u, rfl⟩, q⟩) hz
  | @dct p vl h =>
    rw [Vals.ref1 r]
    obtain ⟨_, ne, vs, kv, o, es, ep, ho, ex, hd2, _, ps, _⟩ := dk_of I.hok h
    have rd : ReadsAll s.heap (es.toList.map (·.key)) (vl.map fun x => .str x.1) [] ∧ ReadsAll s.heap (es.toList.map (·.val)) (vl.map fun x => .int x.2) [] := dictI_reads kv (pairs_paired ps)
    have ro : Reads s.heap (.ref p) (.dict (vl.map fun x => (PyData.str x.1, PyData.int x.2))) (p :: [] ++ []) := .dict ho ex.1 hd2 (by rw [List.map_map]; exact rd.1) (by rw [List.map_map]; exact rd.2)
    exact repr_of_reads' ro hs (fun _ hm => by
      have e : sysModules = p := by simpa using hm
      rw [← e] at ne
      exact absurd ne (by decide)) hg (by omega) (fun _ _ e => e) (fun h' u tk k => ⟨.str _, H, I.kept (t' := tk) k, ⟨u, rfl⟩, q⟩) hz
end L2

set_option Elab.async false
set_option linter.all false
set_option maxRecDepth 100000
set_option maxHeartbeats 1000000
/-! repr of routes and of joined runs -/
namespace L2
open PySem PySem.Spec PyProof.Rows
theorem listText_le (ts : List Str) : (listText ts).length ≤ piled ts + 2 := by
  cases ts with
  | nil => rw [listText_nil]; decide
  | cons t r =>
    have h := textFrom_length_pos r 1 (("[" : Str) ++ (if (0 : Nat) > 0 then ", " else "" : String) ++ t) (Nat.succ_pos 0)
    have e : ((("[" : Str) ++ (if (0 : Nat) > 0 then ", " else "" : String) ++ t)).length = 1 + t.length := by
      rw [strLen_append, strLen_append]; rfl
    have hX : (listText (t :: r)).length = (textFrom 0 "[" (t :: r)).length + 1 := by
      show (textFrom 0 "[" (t :: r) ++ "]").length = _
      rw [strLen_append]; rfl
    have hY : (textFrom 0 "[" (t :: r)).length = (textFrom 1 (("[" : Str) ++ (if (0 : Nat) > 0 then ", " else "" : String) ++ t) r).length := rfl
    rw [hX, hY, h, e, piled_cons]; omega
theorem tupleText_le (ts : List Str) : (tupleText ts).length ≤ piled ts + 3 := by
  unfold tupleText
  rw [strLen_append, strLen_append]
  have e1 : ((("(" : String) : Str)).length = 1 := rfl
  have e3 : (((if ts.length == 1 then ",)" else ")" : String) : Str)).length ≤ 2 := by split <;> decide
  rw [e1]
  by_cases h : ts = []
  · subst h
    have : (Str.join ", " []).length = 0 := rfl
    omega
  · have := join_length_add ts h
    omega
end L2
namespace E4
open PySem PySem.Spec PyProof.Rows L2
theorem showable_strs : ∀ l : List Str, PyData.showableAll (l.map PyData.str) = true
  | [] => rfl
  | x :: l => by
    rw [List.map_cons]
    simp only [PyData.showableAll, PyData.showable, showable_strs l, Bool.and_self]
theorem noDict_strs : ∀ l : List Str, PyData.hasDictAll (l.map PyData.str) = false
  | [] => rfl
  | x :: l => by
    rw [List.map_cons]
    simp only [PyData.hasDictAll, PyData.hasDict, noDict_strs l, Bool.or_self]
theorem str_len {z : Str} (hz : LetOk z) : (PyData.str z).shown.length ≤ 102 := by
  have h := PySem.StrLaws.reprText_len z fun c hc => by have := (hz.2.2 c hc).2; exact Nat.lt_of_le_of_lt this (by decide)
  have e : (PyData.str z).shown = reprText z := by unfold PyData.shown; rfl
  rw [e]
  have := hz.2.1
  omega
theorem piled_strs : ∀ {l : List Str}, (∀ z ∈ l, LetOk z) → piled (PyData.shownAll (l.map PyData.str)) ≤ 104 * l.length
  | [], _ => Nat.le_refl _
  | x :: l, h => by
    have ih := piled_strs (l := l) fun z hz => h z (List.mem_cons_of_mem _ hz)
    have hx := str_len (h x List.mem_cons_self)
    rw [List.map_cons]
    simp only [PyData.shownAll, piled_cons, List.length_cons]
    omega
theorem showable_jns : ∀ l : List Jn, PyData.showableAll (l.map jnD) = true
  | [] => rfl
  | x :: l => by
    have h1 := showable_strs x.1
    have h2 := showable_strs x.2
    rw [List.map_cons]
    simp only [jnD, PyData.showableAll, PyData.showable, showable_jns l, h1, h2, Bool.and_self]
theorem noDict_jns : ∀ l : List Jn, PyData.hasDictAll (l.map jnD) = false
  | [] => rfl
  | x :: l => by
    have h1 := noDict_strs x.1
    have h2 := noDict_strs x.2
    rw [List.map_cons]
    simp only [jnD, PyData.hasDictAll, PyData.hasDict, noDict_jns l, h1, h2, Bool.or_self]
theorem piled_jns : ∀ {l : List Jn}, (∀ x ∈ l, JnOk 40 x) → piled (PyData.shownAll (l.map jnD)) ≤ 8000 * l.length
  | [], _ => Nat.le_refl _
  | x :: l, h => by
    have ih := piled_jns (l := l) fun z hz => h z (List.mem_cons_of_mem _ hz)
    have hx := h x List.mem_cons_self
    have i1 := piled_strs hx.l1
    have i3 := piled_strs hx.l2
    have n1 := hx.n1
    have n2 := hx.n2
    have i2 := listText_le (PyData.shownAll (x.1.map PyData.str))
    have i4 := listText_le (PyData.shownAll (x.2.map PyData.str))
    have i5 := tupleText_le [listText (PyData.shownAll (x.1.map PyData.str)), listText (PyData.shownAll (x.2.map PyData.str))]
    have e2 : (jnD x).shown = tupleText [listText (PyData.shownAll (x.1.map PyData.str)), listText (PyData.shownAll (x.2.map PyData.str))] := by
      simp only [jnD, PyData.shown, PyData.shownAll]
    rw [List.map_cons]
    simp only [PyData.shownAll, piled_cons, List.length_cons, e2]
    simp only [piled_cons, piled_nil] at i5
    rw [Nat.mul_succ]
    omega
/-- repr of a joined run -/
theorem shw_jns {K : PySem.W.Frag} {H : Hp} {p : Addr} {ts : List Addr} {l : List Jn} {Q : VK} (hp : H p = some (.lst (ts.map V.ref))) (hx : Paired (JnAt H) ts l) (h : ∀ x ∈ l, JnOk 40 x) (hl : l.length ≤ 8) (q : Q (.str (PyData.list (l.map jnD)).shown) H) : rReprV K [.ref p] H Q := by
  refine ⟨.ref p, .list (l.map jnD), rfl, .lst hp (dp_jns hx) (noDict_jns l), by simpa only [PyData.showable] using showable_jns l, by have := depth_jns l; simp only [PyData.depth]; omega, ?_, q⟩
  simp only [PyData.shown]
  have := listText_le (PyData.shownAll (l.map jnD))
  have := piled_jns h
  rw [sizeLine_eq]
  omega
def rtD (a b : List Str) : PyData := .list [.list (a.map PyData.str), .list (b.map PyData.str)]
/-- repr of two routes -/
theorem shw_routes {K : PySem.W.Frag} {H : Hp} {p r r2 : Addr} {a b : List Str} {Q : VK} (hp : H p = some (.lst [.ref r, .ref r2])) (ha : H r = some (.lst (a.map V.str))) (hb : H r2 = some (.lst (b.map V.str))) (oa : ∀ z ∈ a, LetOk z) (ob : ∀ z ∈ b, LetOk z) (la : a.length ≤ 20) (lb : b.length ≤ 20) (q : Q (.str (rtD a b).shown) H) : rReprV K [.ref p] H Q := by
  refine ⟨.ref p, rtD a b, rfl, .lst hp (.cons (.lst (SqL.of ha) (dp_strs _)) (.cons (.lst (SqL.of hb) (dp_strs _)) .nil)) (by simp only [PyData.hasDictAll, PyData.hasDict, noDict_strs, Bool.or_self]), by simp only [rtD, PyData.showable, PyData.showableAll, showable_strs, Bool.and_self], by have := depth_strs a; have := depth_strs b; simp only [rtD, PyData.depth, PyData.depthAll]; omega, ?_, q⟩
  unfold rtD
  simp only [PyData.shown, PyData.shownAll]
  have h1 := listText_le [listText (PyData.shownAll (a.map PyData.str)), listText (PyData.shownAll (b.map PyData.str))]
  have h2 := listText_le (PyData.shownAll (a.map PyData.str))
  have h3 := listText_le (PyData.shownAll (b.map PyData.str))
  have h4 := piled_strs oa
  have h5 := piled_strs ob
  simp only [piled_cons, piled_nil] at h1
  rw [sizeLine_eq]
  omega
end E4

set_option Elab.async false
set_option linter.all false
set_option maxRecDepth 100000
set_option maxHeartbeats 1000000
/-! a call where no repr is under way -/
namespace L2
open PySem PySem.Spec PyProof.Rows
structure CalG (P : Program) (w : World) (K : PySem.W.Frag) (mg : Str → Option Value) (base : Heap) (k : Nat) (x : Str) (sp : Sp) : Prop where
  ex : ∃ (f : Addr) (fd : FuncData) (ps : List Str), FnG P w K mg base k f fd ps sp ∧ mg x = some (.ref f) ∧ PySem.W.keepIn K (.ref f) = true ∧ Binds K fd ps []
section
variable {X : Cx} {k j : Nat} {x : Str} {sp : Sp} {p pos : Pos} {e : Expr} {es : List Expr} {t : TA}
theorem pe_cG (gA : X.A.guards = some []) (c : CalG X.prog X.w X.K X.mg X.base k x sp) (hr : Room j X.A) (hk : k ≤ j) (hg : Gl X x) (ha : PA X (e :: es) t)
    (hdb : (x == ("__debug__" : Str)) = false := by decide) (he : starEach (e :: es) X.env = (false, eval e X.env) :: starEach es X.env := by rfl) (hpl : (backTo pos (starEach es X.env)).any (·.1) = false := by rfl) :
    PE X (.Call (.Name x p) (e :: es) [] pos) (tCall sp [] C8.E0 t) := by
  obtain ⟨f, fd, ps, F, hm, kp, hb⟩ := c.ex
  refine ⟨fun pins s σ H Q I h => ?_⟩
  refine wpAny_Call_Name_kw (ld_glob I hg hm ?_ hdb)
  refine PySem.W.callWith_K (h₀ := X.base) I.ok.mod.kin kp (thn (ha.run pos pins s σ H _ I h) fun us s1 ⟨vs, H1, I1, r, h1⟩ => ⟨I1.kIn, ?_⟩) he hpl
  have r2 : Vals (vs ++ []) (us ++ []) := r.append .nil
  have hl : (us ++ []).length = ps.length := by rw [← r2.length]; exact F.len _ _ _ _ h1
  refine wpAny_call (codeAny_mono (F.go X.A X.stack s1 H1 ⟨us, []⟩ (us ++ []) (vs ++ []) Q C8.E0 gA (hr.mono hk) I1.env0 (hb s1 us I1.kIn hl) r2 h1) fun r s' hq => ?_)
  cases r with
  | error e => exact pass0 pins σ H1 s1 e s' I1 hq
  | ok fl =>
    cases fl with
    | ret u => exact I1.after hq
    | next => exact False.elim hq
    | brk => exact False.elim hq
    | cont => exact False.elim hq
end
end L2

set_option Elab.async false
set_option linter.all false
set_option maxRecDepth 100000
set_option maxHeartbeats 2000000
set_option exponentiation.threshold 5000
/-! _law_right -/
namespace E4
open PySem PySem.Spec PyProof.Rows L2
open C8 (Cal Mak Met InsC pe_c pe_mt pe_mt0 call_isC clsBody)
open E3 (PurseAt spPurse spMixed spDraw)
abbrev sRight : Stmt := top 44
def spRight (K : PySem.W.Frag) (C : Addr) : Sp := fun vs H Q _ => ∃ (a l r l2 r2 : Addr) (n : Nat) (ts us : List Addr) (wk w2 : List Str) (xs ys : List Sd), vs = [.ref a, .ref l, .ref r, .ref l2, .ref r2] ∧ PurseAt H a (n + 3000) ∧
  RowsAt H l r ts wk xs ∧ RowsAt H l2 r2 us w2 ys ∧ xs.length + ys.length ≤ 13 ∧ (namesL (xs.map norm) (ys.map norm)).length ≤ 12 ∧ (namesL (ys.map norm) (xs.map norm)).length ≤ 12 ∧
  ∀ H', PurseAt H' a n → SameB a H H' → Q (.bl true) H'
theorem RowW.norm {x : Sd} (h : RowW x) : RowW (norm x) := ⟨fun z hz => h.1 z ((sortT_perm _).mem_iff.mp hz), fun z hz => h.2.1 z ((sortT_perm _).mem_iff.mp hz), by show (sortT x.2.1).length ≤ 4; rw [length_sortT]; exact h.2.2.1, by show (sortT x.2.2).length ≤ 6; rw [length_sortT]; exact h.2.2.2⟩
theorem names_paired : ∀ xs : List Sd, Paired (fun (a : Str) (b : Sd) => b.1 = a) (xs.map (·.1)) xs
  | [] => .nil
  | x :: xs => .cons rfl (names_paired xs)
theorem paired_names : ∀ {l : List Str} {xs : List Sd}, Paired (fun (a : Str) (b : Sd) => b.1 = a) l xs → xs.map (·.1) = l
  | [], [], .nil => rfl
  | _ :: _, _ :: _, .cons r t => by rw [List.map_cons, r, paired_names t]
theorem route_ex {l : List Str} {xs : List Sd} (h : l.Perm (xs.map (·.1))) : ∃ zs : List Sd, zs.Perm xs ∧ zs.map (·.1) = l := by
  obtain ⟨zs, p, hz⟩ := paired_perm h (names_paired xs)
  exact ⟨zs, p, paired_names hz⟩
theorem sizes_norm {xs : List Sd} {z : Str} : z ∈ sizesOf (xs.map norm) ↔ InLets xs z := by
  rw [mem_sizesOf]
  constructor
  · rintro ⟨x, hx, h⟩
    obtain ⟨u, hu, rfl⟩ := List.mem_map.mp hx
    exact ⟨u, hu, h.imp (fun q => (sortT_perm _).mem_iff.mp q) fun q => (sortT_perm _).mem_iff.mp q⟩
  · rintro ⟨x, hx, h⟩
    exact ⟨norm x, List.mem_map.mpr ⟨x, hx, rfl⟩, h.imp (fun q => (sortT_perm _).mem_iff.mpr q) fun q => (sortT_perm _).mem_iff.mpr q⟩
section
variable {P : Program} {w : World} {K : PySem.W.Frag} {mg : Str → Option Value} {base : Heap} {C : Addr}
abbrev NRi : List Str := ["_law_purse_here", "_law_rows", "_law_route", "_law_others", "_law_way", "_law_first", "_law_second", "_law_kept_routes", "_law_told", "_law_like_here"]
theorem scRight : FnScope NRi ["_law_purse_here", "_law_rows", "_law_route", "_law_others", "_law_way"] (defScope sRight) := ⟨rfl, rfl, rfl, by decide +kernel, rfl, by decide +kernel, by decide +kernel⟩
theorem ok_right {f : Addr} {fd : FuncData} (F : Fun K "_law_right" "_law_right" sRight f fd) (B : Bl mg) (hrep : mg "repr" = none) (M1 : Mak P w K mg base 5 "Plain" C (spInit C) []) (O : EqP P w K mg base 1 C)
    (Sa : Cal P w K mg base 4 "same_run" (spSame C) []) (Lj : Cal P w K mg base 2 "_law_joined" (spLJ K) []) (Li : Cal P w K mg base 5 "_law_like" (spLike K) []) (To : Cal P w K mg base 3 "_law_told_right" (spTold K) []) : FnG P w K mg base 7 f fd ["_law_purse_here", "_law_rows", "_law_route", "_law_others", "_law_way"] (spRight K C) := by
  refine F.okG scRight (fun vs H Q E h => ?_) (fun cdv A outer s H vs Q E gA hr h => ?_)
  · obtain ⟨a, l, r, l2, r2, n, ts, us, wk, w2, xs, ys, rfl, _⟩ := h
    rfl
  · obtain ⟨a, l, r, l2, r2, n, ts, us, wk, w2, xs, ys, rfl, hp, hX, hY, l13, nm1, nm2, k⟩ := h
    refine ⟨_, pss_cons (ps_par (i := 5) (j := 6) (by rfl) scRight.nd rfl rfl (by decide) rfl rfl (pa_cons (pe_mk1 M1 hr (by decide) rfl (pa_cons (pv 1) pa_nil)) (pa_cons (pe_mk1 M1 hr (by decide) rfl (pa_cons (pv 3) pa_nil)) pa_nil)) (by rfl))
      (pss_cons (ps_set (i := 7) scRight.nd rfl (Or.inl rfl) (pe_callB (call_reprV gA hr.units) (by rfl) hrep (by decide +kernel) (pa_cons (pe_lstS (pa_cons (pv 2) (pa_cons (pv 4) pa_nil))) pa_nil)))
      (pss_cons (ps_set (i := 8) scRight.nd rfl (Or.inl rfl) (pe_c Sa hr (by decide) rfl (pa_cons (pv 5) (pa_cons (pv 2) (pa_cons (pv 6) (pa_cons (pv 4) pa_nil))))))
      (pss_cons (ps_if (pt_cmpR op_ne (pe_callB (call_reprV gA hr.units) (by rfl) hrep (by decide +kernel) (pa_cons (pe_lstS (pa_cons (pv 2) (pa_cons (pv 4) pa_nil))) pa_nil)) (pv 7) (by rfl)) (pss_one (ps_ret pe_bl)) pss_nil)
      (pss_cons (ps_set (i := 9) scRight.nd rfl (Or.inl rfl) (pe_cmpR (op_eqD hr.units) (pe_c Lj hr (by decide) rfl (pa_cons (pv 1) (pa_cons (pv 2) pa_nil))) (pe_c Lj hr (by decide) rfl (pa_cons (pv 3) (pa_cons (pv 4) pa_nil))) (by rfl)))
      (pss_cons (ps_if (PW.pt (pw_or (pt_cmpR op_ne (pe_cmp (pc_isN (pv 8))) (pv 9) (by rfl))
          (pw_or1 (pt_cmpR op_ne (pe_cmp (pc_isN (pe_c Sa hr (by decide) rfl (pa_cons (pv 6) (pa_cons (pv 4) (pa_cons (pv 5) (pa_cons (pv 2) pa_nil))))))) (pv 9) (by rfl))))) (pss_one (ps_ret pe_bl)) pss_nil)
      (pss_cons (ps_if (PW.pt (pw_or (pt_cmpR (op_neP O hr (by decide)) (pv 5) (pe_mk1 M1 hr (by decide) rfl (pa_cons (pv 1) pa_nil)) (by rfl))
          (pw_or1 (pt_cmpR (op_neP O hr (by decide)) (pv 6) (pe_mk1 M1 hr (by decide) rfl (pa_cons (pv 3) pa_nil)) (by rfl))))) (pss_one (ps_ret pe_bl)) pss_nil)
      (pss_one (ps_ret (pe_ifExp (pt_val (pv 9)) (pe_c Li hr (by decide) rfl (pa_cons (pv 0) (pa_cons (pv 1) (pa_cons (pv 2) (pa_cons (pv 3) (pa_cons (pv 4) pa_nil))))))
          (pe_c To hr (by decide) rfl (pa_cons (pv 1) (pa_cons (pv 2) (pa_cons (pv 3) (pa_cons (pv 4) (pa_cons (pv 8) pa_nil)))))))))))))))  , ?_⟩
    have lwk : wk.length = xs.length := by rw [hX.pw.length_eq, List.length_map]
    have lw2 : w2.length = ys.length := by rw [hY.pw.length_eq, List.length_map]
    have owk : ∀ z ∈ wk, LetOk z := fun z hz => by
      obtain ⟨x, hx, e⟩ := List.mem_map.mp (hX.pw.mem_iff.mp hz)
      rw [← e]
      exact (hX.ok.ok x hx).1
    have ow2 : ∀ z ∈ w2, LetOk z := fun z hz => by
      obtain ⟨x, hx, e⟩ := List.mem_map.mp (hY.pw.mem_iff.mp hz)
      rw [← e]
      exact (hY.ok.ok x hx).1
    have l8 := hX.l8
    have l82 := hY.l8
    refine ⟨_, rfl, fun y dx ny nd ne => ?_⟩
    refine mk_plainR hX.hl hX.hx hX.ok ny nd ne fun H1 S1 hy => ⟨rfl, ?_⟩
    have X1 := hX.same S1
    have Y1 := hY.same S1
    refine ⟨_, rfl, fun y2 dx2 ny2 nd2 ne2 => ?_⟩
    refine mk_plainR Y1.hl Y1.hx Y1.ok ny2 nd2 ne2 fun H2 S2 hy2 => ⟨rfl, ?_⟩
    refine ⟨_, _, rfl, ?_⟩
    have X2 := X1.same S2
    have Y2 := Y1.same S2
    have hyA := hy.same S2
    dsimp only
    refine seq_asg ⟨_, rfl, _, rfl, by show 2 ≤ sizeLine; decide, fun q1 H3 S3 nq1 hq1 => ?_⟩
    dsimp only [tNil]
    refine shw_routes hq1 (S3 _ _ X2.hr) (S3 _ _ Y2.hr) owk ow2 (by omega) (by omega) ?_
    have X3 := X2.same S3
    have Y3 := Y2.same S3
    have okA := X3.ok.norm
    have okB := Y3.ok.norm
    have roA : ∀ x ∈ xs.map norm, RowW x := fun x hx => by
      obtain ⟨u, hu, rfl⟩ := List.mem_map.mp hx
      exact (X3.ro u hu).norm
    have roB : ∀ x ∈ ys.map norm, RowW x := fun x hx => by
      obtain ⟨u, hu, rfl⟩ := List.mem_map.mp hx
      exact (Y3.ro u hu).norm
    have nA : (xs.map norm).map (fun x : Sd => x.1) = xs.map (·.1) := by rw [List.map_map]; rfl
    have nB : (ys.map norm).map (fun x : Sd => x.1) = ys.map (·.1) := by rw [List.map_map]; rfl
    obtain ⟨zA, pA, eA⟩ := route_ex (xs := xs) ((List.reverse_perm wk).trans X3.pw)
    obtain ⟨zB, pB, eB⟩ := route_ex (xs := ys) ((List.reverse_perm w2).trans Y3.pw)
    have allA : ∀ zs : List Sd, zs.map (·.1) = wk.reverse → (∀ z ∈ zs, z ∈ xs) → zs = zA := fun zs e m => rows_one X3.ok.nd (e.trans eA.symm) m fun z hz => pA.mem_iff.mp hz
    have allB : ∀ zs : List Sd, zs.map (·.1) = w2.reverse → (∀ z ∈ zs, z ∈ ys) → zs = zB := fun zs e m => rows_one Y3.ok.nd (e.trans eB.symm) m fun z hz => pB.mem_iff.mp hz
    have allA' : ∀ zs : List Sd, zs.map (·.1) = wk.reverse → (∀ z ∈ zs, z ∈ xs.map norm) → zs = zA.map norm := fun zs e m => rows_one okA.nd (e.trans (by rw [List.map_map]; exact eA.symm)) m fun z hz => by
      obtain ⟨u, hu, rfl⟩ := List.mem_map.mp hz
      exact List.mem_map.mpr ⟨u, pA.mem_iff.mp hu, rfl⟩
    have allB' : ∀ zs : List Sd, zs.map (·.1) = w2.reverse → (∀ z ∈ zs, z ∈ ys.map norm) → zs = zB.map norm := fun zs e m => rows_one okB.nd (e.trans (by rw [List.map_map]; exact eB.symm)) m fun z hz => by
      obtain ⟨u, hu, rfl⟩ := List.mem_map.mp hz
      exact List.mem_map.mpr ⟨u, pB.mem_iff.mp hu, rfl⟩
    refine ts_mid (fun σ' H' => ∃ tv, σ' = [some (.ref a), some (.ref l), some (.ref r), some (.ref l2), some (.ref r2), some (.ref y), some (.ref y2), some (.str (rtD wk w2).shown), some tv, none] ∧ Same H3 H' ∧ ((joinL (longJ (zA.map norm)) = joinL (longJ (zB.map norm)) ∧ tv = .non) ∨ (joinL (longJ (zA.map norm)) ≠ joinL (longJ (zB.map norm)) ∧ ∃ p d vl, tv = .ref p ∧ H' p = some (.tup [.ref d, .int (unlikeG (gOf vl) 1 (joinL (longJ (zA.map norm))) (joinL (longJ (zB.map norm))))]) ∧ H' d = some (.dK (dI vl)) ∧ PrimesR (namesL (xs.map norm) (ys.map norm)) vl ∧ ∀ x ∈ vl, 2 ≤ x.2 ∧ x.2 < 2 ^ 400))) (fun N hN => ?_) ?_
    · refine ⟨_, rfl, _, rfl, _, rfl, _, rfl, y, r, y2, r2, wk, w2, xs.map norm, ys.map norm, rfl, X3.hr, by rw [nA]; exact X3.pw, hyA.same S3, okA, roA, by rw [List.length_map]; exact l8, Y3.hr, by rw [nB]; exact Y3.pw, hy2.same S3, okB, roB, by rw [List.length_map]; exact l82, nm1, fun q1 q2 e1 m1 e2 m2 => ?_⟩
      obtain rfl := allA' q1 e1 m1
      obtain rfl := allB' q2 e2 m2
      refine ⟨fun e H' S' => hN _ _ ⟨.non, rfl, S', .inl ⟨e, rfl⟩⟩, fun ne H' p vl S' ra hP hb => ?_⟩
      obtain ⟨d, g1, g2, _, _⟩ := ra
      exact hN _ _ ⟨.ref p, rfl, S', .inr ⟨ne, p, d, vl, rfl, g1, g2, hP, hb⟩⟩
    rintro σ' H4 ⟨tv, rfl, S4, htv⟩
    have X4 := X3.same S4
    have Y4 := Y3.same S4
    have S24 := S3.trans S4
    refine ⟨_, rfl, _, rfl, by show 2 ≤ sizeLine; decide, fun q5 H5 S5 nq5 hq5 => ?_⟩
    dsimp only [tNil]
    refine shw_routes hq5 (S5 _ _ X4.hr) (S5 _ _ Y4.hr) owk ow2 (by omega) (by omega) ?_
    refine ⟨_, rfl, rfl, _, rfl, ifF (by rw [decide_eq_true rfl]; rfl) ?_⟩
    dsimp only [tNext]
    have X5 := X4.same S5
    have Y5 := Y4.same S5
    have S25 := S24.trans S5
    have lzA : (zA.map norm).length ≤ 8 := by rw [List.length_map, pA.length_eq]; exact l8
    have lzB : (zB.map norm).length ≤ 8 := by rw [List.length_map, pB.length_eq]; exact l82
    have mA : ∀ x ∈ zA.map norm, x ∈ xs.map norm := fun x hx => by
      obtain ⟨u, hu, rfl⟩ := List.mem_map.mp hx
      exact List.mem_map.mpr ⟨u, pA.mem_iff.mp hu, rfl⟩
    have mB : ∀ x ∈ zB.map norm, x ∈ ys.map norm := fun x hx => by
      obtain ⟨u, hu, rfl⟩ := List.mem_map.mp hx
      exact List.mem_map.mpr ⟨u, pB.mem_iff.mp hu, rfl⟩
    have oA := (join_facts okA roA mA lzA).2.1
    have oB := (join_facts okB roB mB lzB).2.1
    refine ts_mid (fun σ' H' => σ' = [some (.ref a), some (.ref l), some (.ref r), some (.ref l2), some (.ref r2), some (.ref y), some (.ref y2), some (.str (rtD wk w2).shown), some tv, some (.bl (decide (joinL (longJ (zA.map norm)) = joinL (longJ (zB.map norm)))))] ∧ Same H5 H') (fun N hN => ?_) ?_
    · refine ⟨_, rfl, _, rfl, l, r, ts, wk, xs, rfl, X5.hl, X5.hx, X5.ok, X5.ro, X5.l8, X5.hr, X5.pw, fun H6 p6 v6 z6 S6 n6 h6 hj6 e6 m6 => ?_⟩
      obtain rfl := allA z6 e6 m6
      refine ⟨_, rfl, _, rfl, l2, r2, us, w2, ys, rfl, S6 _ _ Y5.hl, Y5.hx.same S6, Y5.ok, Y5.ro, Y5.l8, S6 _ _ Y5.hr, Y5.pw, fun H7 p7 v7 z7 S7 n7 h7 hj7 e7 m7 => ?_⟩
      obtain rfl := allB z7 e7 m7
      refine ⟨.list ((joinL (longJ (z6.map norm))).map jnD), .list ((joinL (longJ (z7.map norm))).map jnD), .lst (SqL.of (S7 _ _ h6)) (dp_jns (paired_imp hj6 fun t _ x z => z.same S7)), .lst (SqL.of h7) (dp_jns hj7), shaped_jns oA, shaped_jns oB, ?_⟩
      rw [eqv_jns]
      exact hN _ _ ⟨rfl, S6.trans S7⟩
    rintro σ' H6 ⟨rfl, S56⟩
    have X6 := X5.same S56
    have Y6 := Y5.same S56
    have S26 := S25.trans S56
    have hyA6 := hyA.same S26
    have hy26 := hy2.same S26
    refine ts_mid (fun σ' H' => σ' = [some (.ref a), some (.ref l), some (.ref r), some (.ref l2), some (.ref r2), some (.ref y), some (.ref y2), some (.str (rtD wk w2).shown), some tv, some (.bl (decide (joinL (longJ (zA.map norm)) = joinL (longJ (zB.map norm)))))] ∧ Same H6 H') (fun N hN => ?_) ?_
    · have dv : decide (tv = V.non) = decide (joinL (longJ (zA.map norm)) = joinL (longJ (zB.map norm))) := by
        rcases htv with ⟨e, rfl⟩ | ⟨ne, p, d, vl, rfl, _⟩
        · rw [decide_eq_true e]; rfl
        · rw [decide_eq_false ne]; rfl
      refine ⟨_, rfl, _, rfl, rfl, _, rfl, ifF (by rw [dv, decide_eq_true rfl]; rfl) ?_⟩
      refine ⟨_, rfl, _, rfl, _, rfl, _, rfl, y2, r2, y, r, w2, wk, ys.map norm, xs.map norm, rfl, Y6.hr, by rw [nB]; exact Y6.pw, hy26, okB, roB, by rw [List.length_map]; exact l82, X6.hr, by rw [nA]; exact X6.pw, hyA6, okA, roA, by rw [List.length_map]; exact l8, nm2, fun q1 q2 e1 m1 e2 m2 => ?_⟩
      obtain rfl := allB' q1 e1 m1
      obtain rfl := allA' q2 e2 m2
      refine ⟨fun e H' S' => ?_, fun ne H' p vl S' ra hP hb => ?_⟩
      · refine ⟨_, rfl, rfl, _, rfl, ifF ?_ (hN _ _ ⟨rfl, S'⟩)⟩
        rw [decide_eq_true e.symm]
        rfl
      · refine ⟨_, rfl, rfl, _, rfl, ifF ?_ (hN _ _ ⟨rfl, S'⟩)⟩
        rw [decide_eq_false (fun e => ne (Eq.symm e))]
        rfl
    rintro σ' H7 ⟨rfl, S67⟩
    have X7 := X6.same S67
    have Y7 := Y6.same S67
    have hyA7 := hyA6.same S67
    have hy27 := hy26.same S67
    refine ts_mid (fun σ' H' => σ' = [some (.ref a), some (.ref l), some (.ref r), some (.ref l2), some (.ref r2), some (.ref y), some (.ref y2), some (.str (rtD wk w2).shown), some tv, some (.bl (decide (joinL (longJ (zA.map norm)) = joinL (longJ (zB.map norm)))))] ∧ Same H7 H') (fun N hN => ?_) ?_
    · refine ⟨_, rfl, _, rfl, fun y3 dx3 ny3 nd3 ne3 => mk_plainR X7.hl X7.hx X7.ok ny3 nd3 ne3 fun H8 S8 hy8 => ⟨rfl, ?_⟩⟩
      refine ⟨y, y3, xs.map norm, rfl, rfl, hyA7.same S8, hy8, okA, false, rfl, ifF rfl ?_⟩
      have Y8 := Y7.same S8
      refine ⟨_, rfl, _, rfl, fun y4 dx4 ny4 nd4 ne4 => mk_plainR Y8.hl Y8.hx Y8.ok ny4 nd4 ne4 fun H9 S9 hy9 => ⟨rfl, ?_⟩⟩
      exact ⟨y2, y4, ys.map norm, rfl, rfl, (hy27.same S8).same S9, hy9, okB, false, rfl, ifF rfl (hN _ _ ⟨rfl, S8.trans S9⟩)⟩
    rintro σ' H8 ⟨rfl, S78⟩
    have X8 := X7.same S78
    have Y8 := Y7.same S78
    have S28 := S26.trans (S67.trans S78)
    have S08 := S1.trans (S2.trans S28)
    have hp8 := hp.same S08
    by_cases ce : joinL (longJ (zA.map norm)) = joinL (longJ (zB.map norm))
    · rw [decide_eq_true ce]
      refine ⟨_, rfl, _, rfl, ifT rfl ?_⟩
      refine ⟨_, rfl, _, rfl, _, rfl, _, rfl, _, rfl, a, l, r, l2, r2, n, ts, us, wk, w2, xs, ys, rfl, hp8, X8, Y8, l13, fun z1 z2 e1 m1 e2 m2 => ?_, fun H' hp' S' => k H' hp' fun c o nc e => S' _ _ nc (S08 _ _ e)⟩
      rw [allA z1 e1 m1, allB z2 e2 m2]
      exact ce
    · rw [decide_eq_false ce]
      refine ⟨_, rfl, _, rfl, ifF rfl ?_⟩
      rcases htv with ⟨e, _⟩ | ⟨_, p, d, vl, rfl, g1, g2, hP, hb⟩
      · exact absurd e ce
      have S48 := S5.trans (S56.trans (S67.trans S78))
      have ndn := names_nd (xs.map norm) (ys.map norm)
      have pv := primes_v hP ndn nm1
      have av : Av vl := fun x hx => by
        obtain ⟨b1, b2⟩ := hb x hx
        refine ⟨by omega, ?_⟩
        have l4 : ((2 ^ 400 : Nat) : Int) = 2 ^ 400 := by norm_cast
        rw [← l4] at b2
        omega
      have keys : ∀ z, z ∈ vl.map (·.1) ↔ InBoth xs ys z := fun z => by
        rw [hP.1, names_mem, sizes_norm, sizes_norm]
        exact Iff.rfl
      have jA : ∀ z ∈ zA, LetJ vl z.2 := fun z hz t ht => (keys t).mpr (.inl ⟨z, pA.mem_iff.mp hz, ht⟩)
      have jB : ∀ z ∈ zB, LetJ vl z.2 := fun z hz t ht => (keys t).mpr (.inr ⟨z, pB.mem_iff.mp hz, ht⟩)
      obtain ⟨r1, r2'⟩ := told_apart pv av jA jB ce
      refine ⟨_, rfl, _, rfl, _, rfl, _, rfl, _, rfl, l, r, l2, r2, p, d, ts, us, wk, w2, xs, ys, vl, _, rfl, X8.hl, X8.hx, X8.ok, X8.ro, X8.l8, X8.hr, X8.pw, Y8.hl, Y8.hx, Y8.ok, Y8.ro, Y8.l8, Y8.hr, Y8.pw, S48 _ _ g1, S48 _ _ g2, by rw [hP.1]; exact ndn, keys, av, by omega, fun z1 z2 e1 m1 e2 m2 => ?_, fun H' S' => k H' ((hp8.same S').less (by omega)) fun c o nc e => S' _ _ (S08 _ _ e)⟩
      rw [allA z1 e1 m1, allB z2 e2 m2]
      exact r2'
end
end E4

set_option Elab.async false
set_option linter.all false
set_option maxRecDepth 100000
set_option maxHeartbeats 1000000
/-! a == b, two equal tables -/
namespace E4
open PySem PySem.Spec PyProof.Rows L2
open C8 (Cal Mak Met InsC)
def rEqP (C : Addr) : R2 := fun x y H Q => ∃ a b ss, x = .ref a ∧ y = .ref b ∧ PlAt C H a ss ∧ PlAt C H b ss ∧ SdsOk ss ∧ Q (.bl true) H
theorem op_eqP {X : Cx} {C : Addr} {k j : Nat} (O : EqP X.prog X.w X.K X.mg X.base k C) (hr : Room j X.A) (hk : k ≤ j) : OpR X (compareOp .Eq) (rEqP C) := by
  obtain ⟨f, fd, ps, N, F, hb⟩ := O.ex
  intro pins s σ H x y v u Q I rx ry h
  obtain ⟨a, b, ss, rfl, rfl, ha, hb2, ok, q⟩ := h
  obtain rfl : v = Value.ref a := rx
  obtain rfl : u = Value.ref b := ry
  obtain ⟨dx, l, ts, ea, _⟩ := id ha
  obtain ⟨dy, m, us, eb, _⟩ := id hb2
  obtain ⟨ox, od, J⟩ := inst_of I ea
  obtain ⟨oy, oe, J2⟩ := inst_of I eb
  obtain ⟨m, fr⟩ := I.fr
  have hrk := hr.mono hk
  refine PySem.W.cmp_K (op := .Eq) (tb := .ref C) hrk.units0 fr I.ok.mod.kin J J2.type (by simp [PySem.W.notFirst]) N.eq N.fn ?_
  exact thn (run_sub ⟨hrk, rfl⟩ (vs := [V.ref a, V.ref b]) F hb I (.cons rfl (.cons rfl .nil)) ⟨a, b, ss, rfl, ha, hb2, ok, q⟩) fun _ _ z => back_of z
end E4

set_option Elab.async false
set_option linter.all false
set_option maxRecDepth 100000
set_option maxHeartbeats 2000000
set_option exponentiation.threshold 5000
/-! _law_one_table_right -/
namespace E4
open PySem PySem.Spec PyProof.Rows L2
open C8 (Cal Mak Met InsC pe_c pe_mt pe_mt0 call_isC clsBody)
open E3 (PurseAt spPurse spMixed spDraw)
abbrev sOneT : Stmt := top 45
/-- two lists of a joined run, to be spoilt -/
def PoolAt (H0 H : Hp) (p : Addr) (n : Nat) (t : Addr) : Prop := ∃ (a b : Addr) (As Bs : List V), H t = some (.tup [.ref a, .ref b]) ∧ H0 a = none ∧ H0 b = none ∧ a ≠ p ∧ b ≠ p ∧ H a = some (.lst As) ∧ H b = some (.lst Bs) ∧ As.length ≤ n ∧ Bs.length ≤ n
theorem PoolAt.app {H0 H : Hp} {p : Addr} {n : Nat} {t : Addr} (h : PoolAt H0 H p n t) {c : Addr} {Cs : List V} {z : V} (hc : H c = some (.lst Cs)) (lc : Cs.length ≤ n) : PoolAt H0 (upd H c (.lst (Cs ++ [z]))) p (n + 1) t := by
  obtain ⟨a, b, As, Bs, h1, h2, h3, h4, h5, h6, h7, h8, h9⟩ := h
  have key : ∀ {e : Addr} {Es : List V}, H e = some (.lst Es) → Es.length ≤ n → ∃ Es', upd H c (.lst (Cs ++ [z])) e = some (.lst Es') ∧ Es'.length ≤ n + 1 := fun {e Es} he le => by
    by_cases q : e = c
    · subst q
      exact ⟨_, upd_same, by rw [List.length_append]; simp; omega⟩
    · exact ⟨Es, by rw [upd_ne q]; exact he, by omega⟩
  obtain ⟨As', g1, g2⟩ := key h6 h8
  obtain ⟨Bs', g3, g4⟩ := key h7 h9
  exact ⟨a, b, As', Bs', by rw [upd_ne (ne_of h1 hc (by intro w; cases w))]; exact h1, h2, h3, h4, h5, g1, g3, g2, g4⟩
theorem pool_of {H0 H : Hp} {p : Addr} {ts : List Addr} {js : List Jn} (hp : H p = some (.lst (ts.map V.ref))) (h : Paired (JnAt H) ts js) (ok : ∀ j ∈ js, JnOk 40 j) (nw : ∀ t ∈ ts, NewJ H0 H t) : ∀ t ∈ ts, PoolAt H0 H p 50 t := fun t ht => by
  obtain ⟨i, hi⟩ := List.mem_iff_getElem?.mp ht
  obtain ⟨j, hj, a, b, h1, h2, h3⟩ := paired_at h hi
  obtain ⟨a', b', g1, g2, g3⟩ := nw t ht
  rw [h1] at g1
  cases g1
  have o := ok j (List.mem_of_getElem? hj)
  have np : ∀ {e : Addr} {m : List Str}, H e = some (.lst (m.map V.str)) → e ≠ p := fun {e m} he q => by
    subst q
    rw [hp] at he
    have z := HO.lst.inj (Option.some.inj he)
    cases ts with
    | nil => exact absurd ht List.not_mem_nil
    | cons t0 ts => cases m with
      | nil => cases z
      | cons m0 m => cases (List.cons.inj z).1
  have n1 := o.n1
  have n2 := o.n2
  exact ⟨a, b, _, _, h1, g2, g3, np h2, np h3, h2, h3, by rw [List.length_map]; omega, by rw [List.length_map]; omega⟩
theorem neJ {K : PySem.W.Frag} {H : Hp} {p q : Addr} {ts us : List Addr} {js : List Jn} {Q : VK} (hp : H p = some (.lst (ts.map V.ref))) (h1 : Paired (JnAt H) ts js) (hq : H q = some (.lst (us.map V.ref))) (h2 : Paired (JnAt H) us js) (ok : ∀ j ∈ js, JnOk 40 j) (k : Q (.bl false) H) : rNeD K (.ref p) (.ref q) H Q := by
  refine ⟨.list (js.map jnD), .list (js.map jnD), .lst (SqL.of hp) (dp_jns h1), .lst (SqL.of hq) (dp_jns h2), shaped_jns ok, shaped_jns ok, ?_⟩
  rw [eqv_jns, decide_eq_true rfl]
  exact k
theorem eqJ {K : PySem.W.Frag} {H : Hp} {p q : Addr} {ts us : List Addr} {js ks : List Jn} {Q : VK} (hp : H p = some (.lst (ts.map V.ref))) (h1 : Paired (JnAt H) ts js) (hq : H q = some (.lst (us.map V.ref))) (h2 : Paired (JnAt H) us ks) (ok : ∀ j ∈ js, JnOk 40 j) (ok2 : ∀ j ∈ ks, JnOk 40 j) (k : Q (.bl (decide (js = ks))) H) : rEqD K (.ref p) (.ref q) H Q := by
  refine ⟨.list (js.map jnD), .list (ks.map jnD), .lst (SqL.of hp) (dp_jns h1), .lst (SqL.of hq) (dp_jns h2), shaped_jns ok, shaped_jns ok2, ?_⟩
  rw [eqv_jns]
  exact k
theorem jns_same {H H' : Hp} {ts : List Addr} {js : List Jn} (h : Paired (JnAt H) ts js) (S : Same H H') : Paired (JnAt H') ts js := paired_imp h fun t _ x z => z.same S
/-- a walk's rows are one -/
theorem walk_one {xs zs : List Sd} {w : List Str} (ok : SdsOk xs) (p : zs.Perm xs) (e : zs.map (·.1) = w.reverse) {vs : List Sd} (e2 : vs.map (·.1) = w.reverse) (m : ∀ v ∈ vs, v ∈ xs) : vs = zs := rows_one ok.nd (e2.trans e.symm) m fun z hz => p.mem_iff.mp hz
theorem walk_oneN {xs zs : List Sd} {w : List Str} (ok : SdsOk xs) (p : zs.Perm xs) (e : zs.map (·.1) = w.reverse) {vs : List Sd} (e2 : vs.map (·.1) = w.reverse) (m : ∀ v ∈ vs, v ∈ xs.map norm) : vs = zs.map norm := rows_one ok.norm.nd (e2.trans (by rw [List.map_map]; exact e.symm)) m fun z hz => by
  obtain ⟨u, hu, rfl⟩ := List.mem_map.mp hz
  exact List.mem_map.mpr ⟨u, p.mem_iff.mp hu, rfl⟩
theorem walk_ok {xs zs : List Sd} (ok : SdsOk xs) (ro : ∀ x ∈ xs, RowW x) (l8 : xs.length ≤ 8) (p : zs.Perm xs) : ∀ j ∈ joinL (longJ (zs.map norm)), JnOk 40 j := by
  refine (join_facts (ss := xs.map norm) ok.norm (fun x hx => ?_) (fun x hx => ?_) ?_).2.1
  · obtain ⟨u, hu, rfl⟩ := List.mem_map.mp hx
    exact (ro u hu).norm
  · obtain ⟨u, hu, rfl⟩ := List.mem_map.mp hx
    exact List.mem_map.mpr ⟨u, p.mem_iff.mp hu, rfl⟩
  · rw [List.length_map, p.length_eq]; exact l8
def spOneT (K : PySem.W.Frag) (C : Addr) : Sp := fun vs H Q _ => ∃ (a y l r : Addr) (n : Nat) (ts : List Addr) (wk : List Str) (xs : List Sd), vs = [.ref a, .ref y, .ref l, .ref r] ∧ PurseAt H a (n + 100) ∧ RowsAt H l r ts wk xs ∧ PlAt C H y (xs.map norm) ∧ (namesL (xs.map norm) (xs.map norm)).length ≤ 12 ∧
  ∀ H', PurseAt H' a n → SameB a H H' → Q (.bl true) H'
section
variable {P : Program} {w : World} {K : PySem.W.Frag} {mg : Str → Option Value} {base : Heap} {C : Addr}
abbrev NOn : List Str := ["_law_purse_here", "_law_table", "_law_rows", "_law_route", "_law_other_here", "_law_due", "_law_late", "_law_span", "_law_step", "_law_told", "_law_changed", "_law_like_here"]
theorem scOneT : FnScope NOn ["_law_purse_here", "_law_table", "_law_rows", "_law_route"] (defScope sOneT) := ⟨rfl, rfl, rfl, by decide +kernel, rfl, by decide +kernel, by decide +kernel⟩
theorem ok_oneT {f : Addr} {fd : FuncData} (F : Fun K "_law_one_table_right" "_law_one_table_right" sOneT f fd) (B : Bl mg) (M1 : Mak P w K mg base 5 "Plain" C (spInit C) []) (O : EqP P w K mg base 1 C) (Sh : Cal P w K mg base 3 "_law_shuffled" (spShuf K) [])
    (Jo : Cal P w K mg base 3 "joined" (spJoined K C) []) (Sa : Cal P w K mg base 4 "same_run" (spSame C) []) (Lj : Cal P w K mg base 2 "_law_joined" (spLJ K) []) (To : Cal P w K mg base 3 "_law_told_right" (spTold K) []) : FnOk P w K mg base CX0 7 f fd ["_law_purse_here", "_law_table", "_law_rows", "_law_route"] (spOneT K C) := by
  refine F.ok scOneT (fun vs H Q E h => ?_) (fun cdv A outer s H vs Q E hr h => ?_)
  · obtain ⟨a, y, l, r, n, ts, wk, xs, rfl, _⟩ := h
    rfl
  · obtain ⟨a, y, l, r, n, ts, wk, xs, rfl, hp, hX, hy, nm, k⟩ := h
    refine ⟨_, (pss_cons (ps_set (i := 4) scOneT.nd rfl (Or.inl rfl) (pe_c Sh hr (by decide) rfl (pa_cons (pv 0) (pa_cons (pv 3) pa_nil))))
      (pss_cons (ps_par (i := 5) (j := 6) (by rfl) scOneT.nd rfl rfl (by decide) rfl rfl (pa_cons (pe_c Lj hr (by decide) rfl (pa_cons (pv 2) (pa_cons (pv 3) pa_nil))) (pa_cons (pe_c Lj hr (by decide) rfl (pa_cons (pv 2) (pa_cons (pv 4) pa_nil))) pa_nil)) (by rfl))
      (pss_cons (ps_for PassesOwn.never rfl (pi_list (pe_c Jo hr (by decide) rfl (pa_cons (pv 1) (pa_cons (pv 4) pa_nil)))) (pg_tup rfl (pgs_cons (pg_name (i := 7) scOneT.nd rfl (Or.inl rfl)) (pgs_cons (pg_name (i := 8) scOneT.nd rfl (Or.inl rfl)) pgs_nil)))
        (pss_cons (ps_expr (pe_bm PySem.F.plainAttrs_list PySem.F.slot_list_append PySem.F.type_list_append mt_append (pv 7) (pa_cons pe_str pa_nil)))
      (pss_one (ps_expr (pe_bm PySem.F.plainAttrs_list PySem.F.slot_list_append PySem.F.type_list_append mt_append (pv 8) (pa_cons pe_str pa_nil))))))
      (pss_cons (ps_if (PW.pt (pw_or (pt_cmpR (op_neD hr.units) (pe_c Jo hr (by decide) rfl (pa_cons (pv 1) (pa_cons (pv 4) pa_nil))) (pv 6) (by rfl)) (pw_or (pt_cmpR (op_neD hr.units) (pe_c Jo hr (by decide) rfl (pa_cons (pv 1) (pa_cons (pv 3) pa_nil))) (pv 5) (by rfl)) (pw_or1 (pt_cmpR (op_neP O hr (by decide)) (pv 1) (pe_mk1 M1 hr (by decide) rfl (pa_cons (pv 2) pa_nil)) (by rfl)))))) (pss_one (ps_ret pe_bl)) pss_nil)
      (pss_cons (ps_set (i := 9) scOneT.nd rfl (Or.inl rfl) (pe_c Sa hr (by decide) rfl (pa_cons (pv 1) (pa_cons (pv 3) (pa_cons (pv 1) (pa_cons (pv 4) pa_nil))))))
      (pss_cons (ps_if (pt_cmpR op_ne (pe_cmp (pc_isN (pv 9))) (pe_cmpR (op_eqD hr.units) (pv 5) (pv 6) (by rfl)) (by rfl)) (pss_one (ps_ret pe_bl)) pss_nil)
      (pss_cons (ps_if (PW.pt (pw_and (pt_cmp (pc_notN (pv 9))) (pw_and1 (pt_not (pt_val (pe_c To hr (by decide) rfl (pa_cons (pv 2) (pa_cons (pv 3) (pa_cons (pv 2) (pa_cons (pv 4) (pa_cons (pv 9) pa_nil))))))))))) (pss_one (ps_ret pe_bl)) pss_nil)
      (pss_cons (ps_set (i := 10) scOneT.nd rfl (Or.inl rfl) (pe_callTy call_list_of (by rfl) B.lst_ (by decide +kernel) (pa_cons (pv 3) pa_nil)))
      (pss_cons (ps_if (pt_cmpR (op_neD hr.units) (pe_c Jo hr (by decide) rfl (pa_cons (pv 1) (pa_cons (pv 10) pa_nil))) (pv 5) (by rfl)) (pss_one (ps_ret pe_bl)) pss_nil)
      (pss_cons (ps_expr (pe_bm PySem.F.plainAttrs_list PySem.F.slot_list_append PySem.F.type_list_append mt_append (pv 10) (pa_cons (pe_bm PySem.F.plainAttrs_list PySem.F.slot_list_pop PySem.F.type_list_pop mt_popAt (pv 10) (pa_cons pe_int pa_nil)) pa_nil)))
      (pss_cons (ps_if (pt_cmpR (op_neD hr.units) (pe_c Jo hr (by decide) rfl (pa_cons (pv 1) (pa_cons (pv 10) pa_nil))) (pe_c Lj hr (by decide) rfl (pa_cons (pv 2) (pa_cons (pv 10) pa_nil))) (by rfl)) (pss_one (ps_ret pe_bl)) pss_nil)
      (pss_cons (ps_set (i := 11) scOneT.nd rfl (Or.inl rfl) (pe_cmpR (op_eqD hr.units) (pe_c Lj hr (by decide) rfl (pa_cons (pv 2) (pa_cons (pv 10) pa_nil))) (pv 5) (by rfl)))
      (pss_cons (ps_if (pt_cmpR op_ne (pe_cmp (pc_isN (pe_c Sa hr (by decide) rfl (pa_cons (pv 1) (pa_cons (pv 10) (pa_cons (pv 1) (pa_cons (pv 3) pa_nil))))))) (pv 11) (by rfl)) (pss_one (ps_ret pe_bl)) pss_nil)
      (pss_one (ps_ret (pe_and (pe_cmpR (op_eqD hr.units) (pe_c Jo hr (by decide) rfl (pa_cons (pv 1) (pa_cons (pv 3) pa_nil))) (pv 5) (by rfl)) (pe_one (pe_cmpR (op_eqP O hr (by decide)) (pv 1) (pe_mk1 M1 hr (by decide) rfl (pa_cons (pv 2) pa_nil)) (by rfl))))))))))))))))))), ?_⟩
    have l8 := hX.l8
    have lw : wk.length = xs.length := by rw [hX.pw.length_eq, List.length_map]
    refine seq_asg ⟨_, rfl, _, rfl, a, r, wk, n + 60, rfl, hp.less (by omega), hX.hr, by omega, fun ws q H1 pm hq nq hp1 S1 => ?_⟩
    have X1 := hX.purse hp S1
    have hy1 := hy.frP hp (FrP.ofB S1)
    have pmw : ws.Perm (xs.map (·.1)) := pm.trans X1.pw
    have okN := X1.ok.norm
    have roN : ∀ x ∈ xs.map norm, RowW x := fun x hx => by
      obtain ⟨u, hu, rfl⟩ := List.mem_map.mp hx
      exact (X1.ro u hu).norm
    have r34 : ∀ x ∈ xs.map norm, x.2.1.length ≤ 4 ∧ x.2.2.length ≤ 8 := fun x hx => ⟨(roN x hx).2.2.1, by have := (roN x hx).2.2.2; omega⟩
    have lN : (xs.map norm).length ≤ 8 := by rw [List.length_map]; exact l8
    have nX : (xs.map norm).map (fun x : Sd => x.1) = xs.map (·.1) := by rw [List.map_map]; rfl
    have pwN : wk.Perm ((xs.map norm).map (fun x : Sd => x.1)) := by rw [nX]; exact X1.pw
    have pmN : ws.Perm ((xs.map norm).map (fun x : Sd => x.1)) := by rw [nX]; exact pmw
    obtain ⟨zA, pA, eA⟩ := route_ex (xs := xs) ((List.reverse_perm wk).trans X1.pw)
    obtain ⟨zB, pB, eB⟩ := route_ex (xs := xs) ((List.reverse_perm ws).trans pmw)
    have oA := walk_ok X1.ok X1.ro X1.l8 pA
    have oB := walk_ok X1.ok X1.ro X1.l8 pB
    refine ⟨_, rfl, _, rfl, l, r, ts, wk, xs, rfl, X1.hl, X1.hx, X1.ok, X1.ro, X1.l8, X1.hr, X1.pw, fun H2 p2 v2 z2 S2 n2 h2 hj2 e2 m2 => ?_⟩
    rw [walk_one X1.ok pA eA e2 m2] at hj2
    refine ⟨_, rfl, _, rfl, l, q, ts, ws, xs, rfl, S2 _ _ X1.hl, X1.hx.same S2, X1.ok, X1.ro, X1.l8, S2 _ _ hq, pmw, fun H3 p3 v3 z3 S3 n3 h3 hj3 e3 m3 => ?_⟩
    rw [walk_one X1.ok pB eB e3 m3] at hj3
    have S13 := S2.trans S3
    have X3 := X1.same S13
    have hy3 := hy1.same S13
    have hq3 := S13 _ _ hq
    have h23 := S3 _ _ h2
    have hj23 := jns_same hj2 S3
    refine ⟨_, _, rfl, ?_⟩
    dsimp only
    refine ts_mid (fun σ' H' => ∃ u7 u8, σ' = [some (.ref a), some (.ref y), some (.ref l), some (.ref r), some (.ref q), some (.ref p2), some (.ref p3), u7, u8, none, none, none] ∧ Same H3 H') (fun N hN => ?_) ?_
    · refine ⟨_, rfl, _, rfl, y, q, ws, xs.map norm, rfl, hq3, pmN, hy3, okN, r34, lN, fun H4 p4 v4 z4 S4 n4 h4 hj4 e4 m4 w4 => ?_⟩
      rw [walk_oneN X3.ok pB eB e4 m4] at hj4
      have pool := pool_of h4 hj4 oB w4
      have lv : v4.length ≤ 8 := by
        rw [hj4.length]
        have h1 := joinL_len (longJ (zB.map norm)) (longJ (zB.map norm)).length
        rw [List.take_length] at h1
        have h2 := longJ_len (xs := zB.map norm)
        rw [List.length_map, pB.length_eq] at h2
        omega
      refine ⟨p4, rfl, ⟨_, SqL.of h4⟩, for_it (walk_list (xs := v4.map V.ref)) (fun i σ' H' => (∃ u7 u8, σ' = [some (.ref a), some (.ref y), some (.ref l), some (.ref r), some (.ref q), some (.ref p2), some (.ref p3), u7, u8, none, none, none]) ∧ Same H3 H' ∧ H' p4 = some (.lst (v4.map V.ref)) ∧ ∀ t ∈ v4, PoolAt H3 H' p4 (50 + 2 * i) t) ⟨⟨none, none, rfl⟩, S4, h4, pool⟩ (fun i σ' H' _ w => SqL.of w.2.2.1) ?_ ?_⟩
      · rintro i v σ' Hx H5 hi ⟨⟨u7, u8, rfl⟩, S5, h5, po⟩ ⟨rfl, hxi⟩
        rw [List.length_map] at hi
        rw [List.getElem?_map] at hxi
        obtain ⟨t, htt, rfl⟩ := Option.map_eq_some_iff.mp hxi
        have tm := List.mem_of_getElem? htt
        obtain ⟨a1, b1, As, Bs, g1, g2, g3, g4, g5, g6, g7, g8, g9⟩ := po t tm
        refine ⟨t, _, rfl, SqT.of g1, rfl, _, _, rfl, _, _, rfl, rfl, ?_⟩
        refine ⟨_, rfl, .inl ⟨rfl, _, SqL.of g6⟩, a1, _, _, rfl, rfl, g6, by rw [sizeLine_eq]; omega, ?_⟩
        have S6 : Same H3 (upd H5 a1 (.lst (As ++ [V.str "spoilt"]))) := fun c o e => by rw [upd_ne (ne_of_none e g2)]; exact S5 _ _ e
        have po6 : ∀ t ∈ v4, PoolAt H3 (upd H5 a1 (.lst (As ++ [V.str "spoilt"]))) p4 (50 + 2 * i + 1) t := fun t ht => (po t ht).app g6 g8
        have h6 : (upd H5 a1 (.lst (As ++ [V.str "spoilt"]))) p4 = some (.lst (v4.map V.ref)) := by rw [upd_ne g4.symm]; exact h5
        have t6 : (upd H5 a1 (.lst (As ++ [V.str "spoilt"]))) t = some (.tup [.ref a1, .ref b1]) := by rw [upd_ne (ne_of g1 g6 (by intro w; cases w))]; exact g1
        generalize upd H5 a1 (.lst (As ++ [V.str "spoilt"])) = H6 at S6 po6 h6 t6 ⊢
        obtain ⟨a2, b2, As2, Bs2, f1, f2, f3, f4, f5, f6, f7, f8, f9⟩ := po6 t tm
        rw [t6] at f1
        cases f1
        refine ⟨_, rfl, .inl ⟨rfl, _, SqL.of f7⟩, b1, _, _, rfl, rfl, f7, by rw [sizeLine_eq]; omega, ⟨_, _, rfl⟩, fun c o e => by rw [upd_ne (ne_of_none e f3)]; exact S6 _ _ e, by rw [upd_ne f5.symm]; exact h6, fun t ht => ?_⟩
        exact (po6 t ht).app f7 f9
      · rintro σ' H5 ⟨⟨u7, u8, rfl⟩, S5, _, _⟩
        exact hN _ _ ⟨u7, u8, rfl, S5⟩
    rintro σ' H4 ⟨u7, u8, rfl, S4⟩
    have X4 := X3.same S4
    have hy4 := hy3.same S4
    have hq4 := S4 _ _ hq3
    have h24 := S4 _ _ h23
    have hj24 := jns_same hj23 S4
    have h34 := S4 _ _ h3
    have hj34 := jns_same hj3 S4
    have S14 := S13.trans S4
    clear X3 hy3 hq3 h23 hj23 h3 hj3 S4 S13 hj2 h2 S2 S3
    refine ts_mid (fun σ' H' => σ' = [some (.ref a), some (.ref y), some (.ref l), some (.ref r), some (.ref q), some (.ref p2), some (.ref p3), u7, u8, none, none, none] ∧ Same H4 H') (fun N hN => ?_) ?_
    · refine ⟨_, rfl, _, rfl, y, q, ws, xs.map norm, rfl, hq4, pmN, hy4, okN, r34, lN, fun Ha pa va za Sa na ha hja ea ma wa => ?_⟩
      rw [walk_oneN X4.ok pB eB ea ma] at hja
      refine ⟨_, rfl, neJ ha hja (Sa _ _ h34) (jns_same hj34 Sa) oB ⟨_, rfl, ifF rfl ?_⟩⟩
      refine ⟨_, rfl, _, rfl, y, r, wk, xs.map norm, rfl, Sa _ _ X4.hr, pwN, hy4.same Sa, okN, r34, lN, fun Hb pb vb zb Sb nb hb hjb eb mb wb => ?_⟩
      rw [walk_oneN X4.ok pA eA eb mb] at hjb
      have Sab := Sa.trans Sb
      refine ⟨_, rfl, neJ hb hjb (Sab _ _ h24) (jns_same hj24 Sab) oA ⟨_, rfl, ifF rfl ?_⟩⟩
      have Xb := X4.same Sab
      refine ⟨_, rfl, _, rfl, fun y3 dx3 ny3 nd3 ne3 => mk_plainR Xb.hl Xb.hx Xb.ok ny3 nd3 ne3 fun Hc Sc hyc => ⟨rfl, ?_⟩⟩
      exact ⟨y, y3, xs.map norm, rfl, rfl, (hy4.same Sab).same Sc, hyc, okN, false, rfl, ifF rfl (hN _ _ ⟨rfl, Sab.trans Sc⟩)⟩
    rintro σ' H5 ⟨rfl, S45⟩
    have X5 := X4.same S45
    have hy5 := hy4.same S45
    have hq5 := S45 _ _ hq4
    refine ts_mid (fun σ' H' => ∃ tv, σ' = [some (.ref a), some (.ref y), some (.ref l), some (.ref r), some (.ref q), some (.ref p2), some (.ref p3), u7, u8, some tv, none, none] ∧ Same H5 H' ∧ ((joinL (longJ (zA.map norm)) = joinL (longJ (zB.map norm)) ∧ tv = .non) ∨ (joinL (longJ (zA.map norm)) ≠ joinL (longJ (zB.map norm)) ∧ ∃ p d vl, tv = .ref p ∧ H' p = some (.tup [.ref d, .int (unlikeG (gOf vl) 1 (joinL (longJ (zA.map norm))) (joinL (longJ (zB.map norm))))]) ∧ H' d = some (.dK (dI vl)) ∧ PrimesR (namesL (xs.map norm) (xs.map norm)) vl ∧ ∀ x ∈ vl, 2 ≤ x.2 ∧ x.2 < 2 ^ 400))) (fun N hN => ?_) ?_
    · refine ⟨_, rfl, _, rfl, _, rfl, _, rfl, y, r, y, q, wk, ws, xs.map norm, xs.map norm, rfl, X5.hr, pwN, hy5, okN, roN, lN, hq5, pmN, hy5, okN, roN, lN, nm, fun q1 q2 e1 m1 e2 m2 => ?_⟩
      obtain rfl := walk_oneN X5.ok pA eA e1 m1
      obtain rfl := walk_oneN X5.ok pB eB e2 m2
      refine ⟨fun e H' S' => hN _ _ ⟨.non, rfl, S', .inl ⟨e, rfl⟩⟩, fun ne H' p vl S' ra hP hb => ?_⟩
      obtain ⟨d, g1, g2, _, _⟩ := ra
      exact hN _ _ ⟨.ref p, rfl, S', .inr ⟨ne, p, d, vl, rfl, g1, g2, hP, hb⟩⟩
    rintro σ' H6 ⟨tv, rfl, S56, htv⟩
    have S46 := S45.trans S56
    have h26 := S46 _ _ h24
    have hj26 := jns_same hj24 S46
    have h36 := S46 _ _ h34
    have hj36 := jns_same hj34 S46
    have X6 := X5.same S56
    have hy6 := hy5.same S56
    have hq6 := S56 _ _ hq5
    have S16 := S14.trans S46
    clear X5 hy5 hq5 S45 S56 S46 h24 hj24 h34 hj34 X4 hy4 hq4 S14 X1 hy1 hq
    refine ts_mid (fun σ' H' => σ' = [some (.ref a), some (.ref y), some (.ref l), some (.ref r), some (.ref q), some (.ref p2), some (.ref p3), u7, u8, some tv, none, none] ∧ H' = H6) (fun N hN => ?_) ?_
    · have dv : decide (tv = V.non) = decide (joinL (longJ (zA.map norm)) = joinL (longJ (zB.map norm))) := by
        rcases htv with ⟨e, rfl⟩ | ⟨ne, p, d, vl, rfl, _⟩
        · rw [decide_eq_true e]; rfl
        · rw [decide_eq_false ne]; rfl
      exact ⟨_, rfl, _, rfl, _, rfl, eqJ h26 hj26 h36 hj36 oA oB ⟨rfl, _, rfl, ifF (by rw [dv, decide_eq_true rfl]; rfl) (hN _ _ ⟨rfl, rfl⟩)⟩⟩
    rintro σ' H6' ⟨rfl, rfl⟩
    refine ts_mid (fun σ' H' => σ' = [some (.ref a), some (.ref y), some (.ref l), some (.ref r), some (.ref q), some (.ref p2), some (.ref p3), u7, u8, some tv, none, none] ∧ Same H6' H') (fun N hN => ?_) ?_
    · rcases htv with ⟨_, rfl⟩ | ⟨ce, p, d, vl, rfl, g1, g2, hP, hb⟩
      · exact ⟨_, rfl, _, rfl, ifF rfl (ifF rfl (hN _ _ ⟨rfl, fun _ _ e => e⟩))⟩
      have ndn := names_nd (xs.map norm) (xs.map norm)
      have pv := primes_v hP ndn nm
      have av : Av vl := fun x hx => by
        obtain ⟨b1, b2⟩ := hb x hx
        refine ⟨by omega, ?_⟩
        have l4 : ((2 ^ 400 : Nat) : Int) = 2 ^ 400 := by norm_cast
        rw [← l4] at b2
        omega
      have keys : ∀ z, z ∈ vl.map (·.1) ↔ InBoth xs xs z := fun z => by
        rw [hP.1, names_mem, sizes_norm]
        exact Iff.rfl
      have jA : ∀ z ∈ zA, LetJ vl z.2 := fun z hz t ht => (keys t).mpr (.inl ⟨z, pA.mem_iff.mp hz, ht⟩)
      have jB : ∀ z ∈ zB, LetJ vl z.2 := fun z hz t ht => (keys t).mpr (.inr ⟨z, pB.mem_iff.mp hz, ht⟩)
      obtain ⟨r1, r2'⟩ := told_apart pv av jA jB ce
      refine ⟨_, rfl, _, rfl, ifT rfl ?_⟩
      refine ⟨_, rfl, _, rfl, _, rfl, _, rfl, _, rfl, l, r, l, q, p, d, ts, ts, wk, ws, xs, xs, vl, _, rfl, X6.hl, X6.hx, X6.ok, X6.ro, X6.l8, X6.hr, X6.pw, X6.hl, X6.hx, X6.ok, X6.ro, X6.l8, hq6, pmw, g1, g2, by rw [hP.1]; exact ndn, keys, av, by omega, fun z1 z2 e1 m1 e2 m2 => ?_, fun H' S' => ⟨_, rfl, ifF rfl (hN _ _ ⟨rfl, S'⟩)⟩⟩
      rw [walk_one X6.ok pA eA e1 m1, walk_one X6.ok pB eB e2 m2]
      exact r2'
    rintro σ' H7 ⟨rfl, S67⟩
    have X7 := X6.same S67
    have hy7 := hy6.same S67
    have h27 := S67 _ _ h26
    have hj27 := jns_same hj26 S67
    have S17 := S16.trans S67
    clear X6 hy6 h26 hj26 S67 S16 htv h36 hj36 hq6
    refine ts_mid (fun σ' H' => ∃ cl, σ' = [some (.ref a), some (.ref y), some (.ref l), some (.ref r), some (.ref q), some (.ref p2), some (.ref p3), u7, u8, some tv, some (.ref cl), none] ∧ Same H7 H' ∧ H7 cl = none ∧ H' cl = some (.lst (wk.map V.str))) (fun N hN => ?_) ?_
    · exact ⟨_, rfl, r, _, rfl, .inl (SqL.of X7.hr), fun cl ncl => hN _ _ ⟨cl, rfl, Same.upd ncl, ncl, upd_same⟩⟩
    rintro σ' H8 ⟨cl, rfl, S78, ncl, hcl⟩
    refine ts_mid (fun σ' H' => σ' = [some (.ref a), some (.ref y), some (.ref l), some (.ref r), some (.ref q), some (.ref p2), some (.ref p3), u7, u8, some tv, some (.ref cl), none] ∧ Same H8 H') (fun N hN => ?_) ?_
    · refine ⟨_, rfl, _, rfl, y, cl, wk, xs.map norm, rfl, hcl, pwN, hy7.same S78, okN, r34, lN, fun Ha pa va za Sa na ha hja ea ma wa => ?_⟩
      rw [walk_oneN X7.ok pA eA ea ma] at hja
      exact ⟨_, rfl, neJ ha hja (Sa _ _ (S78 _ _ h27)) (jns_same (jns_same hj27 S78) Sa) oA ⟨_, rfl, ifF rfl (hN _ _ ⟨rfl, Sa⟩)⟩⟩
    rintro σ' H9 ⟨rfl, S89⟩
    have S79 := S78.trans S89
    have hcl9 := S89 _ _ hcl
    obtain ⟨w0, wt, ewk⟩ : ∃ w0 wt, wk = w0 :: wt := by
      cases wk with
      | nil =>
        have := hX.ok.ne
        have : xs.length = 0 := lw.symm
        exact absurd (List.length_eq_zero_iff.mp this) hX.ok.ne
      | cons w0 wt => exact ⟨w0, wt, rfl⟩
    have pmC : (wt ++ [w0]).Perm wk := by
      rw [ewk]
      exact List.perm_append_comm (l₁ := wt) (l₂ := [w0])
    have pmCx := pmC.trans X7.pw
    have pmCN : (wt ++ [w0]).Perm ((xs.map norm).map (fun x : Sd => x.1)) := pmC.trans pwN
    obtain ⟨zC, pC, eC⟩ := route_ex (xs := xs) ((List.reverse_perm (wt ++ [w0])).trans pmCx)
    have oC := walk_ok X7.ok X7.ro X7.l8 pC
    refine ts_mid (fun σ' H' => σ' = [some (.ref a), some (.ref y), some (.ref l), some (.ref r), some (.ref q), some (.ref p2), some (.ref p3), u7, u8, some tv, some (.ref cl), none] ∧ Same H7 H' ∧ H' cl = some (.lst ((wt ++ [w0]).map V.str))) (fun N hN => ?_) ?_
    · have hc' : H9 cl = some (.lst (V.str w0 :: wt.map V.str)) := by rw [hcl9, ewk]; rfl
      refine ⟨_, rfl, .inl ⟨rfl, _, SqL.of hc'⟩, _, rfl, .inl ⟨rfl, _, SqL.of hc'⟩, cl, _, 0, 0, V.str w0, rfl, rfl, hc', by decide, by decide, by simp [seqIndex?], rfl, cl, _, _, rfl, rfl, upd_same, ?_, hN _ _ ⟨rfl, fun c o e => ?_, ?_⟩⟩
      · have : wk.length ≤ 8 := by omega
        rw [ewk] at this
        show (wt.map V.str).length < sizeLine
        rw [List.length_map, sizeLine_eq]
        simp at this
        omega
      · have nc := ne_of_none e ncl
        rw [upd_ne nc, upd_ne nc]
        exact S79 _ _ e
      · rw [upd_same, List.map_append]
        rfl
    rintro σ' Hd ⟨rfl, S7d, hcd⟩
    have Xd := X7.same S7d
    have hyd := hy7.same S7d
    have h2d := S7d _ _ h27
    have hj2d := jns_same hj27 S7d
    have S1d := S17.trans S7d
    clear hcl hcl9 S89 S79 S78 ncl X7 hy7 h27 hj27 S7d S17
    refine ts_mid (fun σ' H' => σ' = [some (.ref a), some (.ref y), some (.ref l), some (.ref r), some (.ref q), some (.ref p2), some (.ref p3), u7, u8, some tv, some (.ref cl), none] ∧ Same Hd H') (fun N hN => ?_) ?_
    · refine ⟨_, rfl, _, rfl, y, cl, wt ++ [w0], xs.map norm, rfl, hcd, pmCN, hyd, okN, r34, lN, fun Ha pa va za Sa na ha hja ea ma wa => ?_⟩
      rw [walk_oneN Xd.ok pC eC ea ma] at hja
      have Xa := Xd.same Sa
      refine ⟨_, rfl, _, rfl, l, cl, ts, wt ++ [w0], xs, rfl, Xa.hl, Xa.hx, Xa.ok, Xa.ro, Xa.l8, Sa _ _ hcd, pmCx, fun Hb pb vb zb Sb nb hb hjb eb mb => ?_⟩
      rw [walk_one Xd.ok pC eC eb mb] at hjb
      exact neJ (Sb _ _ ha) (jns_same hja Sb) hb hjb oC ⟨_, rfl, ifF rfl (hN _ _ ⟨rfl, Sa.trans Sb⟩)⟩
    rintro σ' He ⟨rfl, Sde⟩
    have Xe := Xd.same Sde
    have hye := hyd.same Sde
    have h2e := Sde _ _ h2d
    have hj2e := jns_same hj2d Sde
    have hce := Sde _ _ hcd
    have S1e := S1d.trans Sde
    refine ts_mid (fun σ' H' => σ' = [some (.ref a), some (.ref y), some (.ref l), some (.ref r), some (.ref q), some (.ref p2), some (.ref p3), u7, u8, some tv, some (.ref cl), some (.bl (decide (joinL (longJ (zC.map norm)) = joinL (longJ (zA.map norm)))))] ∧ Same He H') (fun N hN => ?_) ?_
    · refine ⟨_, rfl, _, rfl, l, cl, ts, wt ++ [w0], xs, rfl, Xe.hl, Xe.hx, Xe.ok, Xe.ro, Xe.l8, hce, pmCx, fun Hb pb vb zb Sb nb hb hjb eb mb => ?_⟩
      rw [walk_one Xe.ok pC eC eb mb] at hjb
      exact ⟨_, rfl, eqJ hb hjb (Sb _ _ h2e) (jns_same hj2e Sb) oC oA (hN _ _ ⟨rfl, Sb⟩)⟩
    rintro σ' Hf ⟨rfl, Sef⟩
    have Xf := Xe.same Sef
    have hyf := hye.same Sef
    have hcf := Sef _ _ hce
    have h2f := Sef _ _ h2e
    have hj2f := jns_same hj2e Sef
    have S1f := S1e.trans Sef
    refine ts_mid (fun σ' H' => σ' = [some (.ref a), some (.ref y), some (.ref l), some (.ref r), some (.ref q), some (.ref p2), some (.ref p3), u7, u8, some tv, some (.ref cl), some (.bl (decide (joinL (longJ (zC.map norm)) = joinL (longJ (zA.map norm)))))] ∧ Same Hf H') (fun N hN => ?_) ?_
    · refine ⟨_, rfl, _, rfl, _, rfl, _, rfl, y, cl, y, r, wt ++ [w0], wk, xs.map norm, xs.map norm, rfl, hcf, pmCN, hyf, okN, roN, lN, Xf.hr, pwN, hyf, okN, roN, lN, nm, fun q1 q2 e1 m1 e2 m2 => ?_⟩
      obtain rfl := walk_oneN Xf.ok pC eC e1 m1
      obtain rfl := walk_oneN Xf.ok pA eA e2 m2
      refine ⟨fun e H' S' => ?_, fun ne H' p vl S' ra hP hb => ?_⟩
      · refine ⟨_, rfl, rfl, _, rfl, ifF ?_ (hN _ _ ⟨rfl, S'⟩)⟩
        rw [decide_eq_true e]
        rfl
      · refine ⟨_, rfl, rfl, _, rfl, ifF ?_ (hN _ _ ⟨rfl, S'⟩)⟩
        rw [decide_eq_false ne]
        rfl
    rintro σ' Hg ⟨rfl, Sfg⟩
    have Xg := Xf.same Sfg
    have hyg := hyf.same Sfg
    have h2g := Sfg _ _ h2f
    have hj2g := jns_same hj2f Sfg
    have S1g := S1f.trans Sfg
    refine ⟨_, rfl, _, rfl, y, r, wk, xs.map norm, rfl, Xg.hr, pwN, hyg, okN, r34, lN, fun Ha pa va za Sa na ha hja ea ma wa => ?_⟩
    rw [walk_oneN Xg.ok pA eA ea ma] at hja
    refine ⟨_, rfl, eqJ ha hja (Sa _ _ h2g) (jns_same hj2g Sa) oA oA ?_⟩
    rw [decide_eq_true rfl]
    have Xa := Xg.same Sa
    refine ⟨_, rfl, iteT (B := False) ?_⟩
    refine ⟨_, rfl, _, rfl, fun y3 dx3 ny3 nd3 ne3 => mk_plainR Xa.hl Xa.hx Xa.ok ny3 nd3 ne3 fun Hc Sc hyc => ⟨rfl, ?_⟩⟩
    have S1c := S1g.trans (Sa.trans Sc)
    exact ⟨y, y3, xs.map norm, rfl, rfl, (hyg.same Sa).same Sc, hyc, okN, k Hc ((hp1.less (by omega)).same S1c) fun c o nc e => S1c _ _ (S1 _ _ nc e)⟩
end
end E4

set_option Elab.async false
set_option linter.all false
set_option maxRecDepth 100000
set_option maxHeartbeats 2000000
set_option exponentiation.threshold 5000
/-! _law_fixed_right -/
namespace E4
open PySem PySem.Spec PyProof.Rows L2
open C8 (Cal Mak Met InsC pe_c pe_mt pe_mt0 call_isC clsBody)
open E3 (PurseAt spPurse spMixed spDraw)
abbrev sFixR : Stmt := top 46
/-- displays of texts, of rows -/
def strsT : List Str → TA
  | [] => tNil
  | z :: l => tCons (tC (.str z)) (strsT l)
theorem strs_it : ∀ {l : List Str} {σ : L2.St} {H : Hp} {Q : List V → Hp → Prop}, Q (l.map V.str) H → strsT l σ H Q
  | [], _, _, _, k => k
  | z :: l, _, _, _, k => strs_it (l := l) k
theorem lstrs_it {l : List Str} {σ : L2.St} {H : Hp} {Q : VK} (hl : l.length ≤ sizeLine) (k : ∀ p H', Same H H' → H p = none → H' p = some (.lst (l.map V.str)) → Q (.ref p) H') : tLstS (strsT l) σ H Q := by
  refine strs_it ⟨by rw [List.length_map]; exact hl, fun p H' S n h => k p H' S n h⟩
def rowT (x : Sd) : TE := tTupS (tCons (tC (.str x.1)) (tCons (tLstS (strsT x.2.1)) (tCons (tLstS (strsT x.2.2)) tNil)))
theorem row_it {x : Sd} {σ : L2.St} {H : Hp} {Q : VK} (h1 : x.2.1.length ≤ 60) (h2 : x.2.2.length ≤ 60) (k : ∀ t H', Same H H' → SdAt H' t x → Q (.ref t) H') : rowT x σ H Q := by
  refine lstrs_it (by rw [sizeLine_eq]; omega) fun p H1 S1 n1 g1 => ?_
  refine lstrs_it (by rw [sizeLine_eq]; omega) fun q H2 S2 n2 g2 => ?_
  exact ⟨by show 3 ≤ sizeLine; decide, fun t H3 S3 n3 g3 => k t H3 (S1.trans (S2.trans S3)) ⟨p, q, g3, S3 _ _ (S2 _ _ g1), S3 _ _ g2⟩⟩
def rowsT : List Sd → TA
  | [] => tNil
  | x :: l => tCons (rowT x) (rowsT l)
theorem rows_it : ∀ {l : List Sd} {σ : L2.St} {H : Hp} {Q : List V → Hp → Prop}, (∀ x ∈ l, x.2.1.length ≤ 60 ∧ x.2.2.length ≤ 60) → (∀ ts H', Same H H' → SdsAt H' ts l → Q (ts.map V.ref) H') → rowsT l σ H Q
  | [], _, H, _, _, k => k [] H (fun _ _ e => e) .nil
  | x :: l, _, H, _, h, k => row_it (h x List.mem_cons_self).1 (h x List.mem_cons_self).2 fun t H1 S1 x1 => rows_it (l := l) (fun y hy => h y (List.mem_cons_of_mem _ hy)) fun ts H2 S2 x2 => k (t :: ts) H2 (S1.trans S2) (.cons (x1.same S2) x2)
theorem lrows_it {l : List Sd} {σ : L2.St} {H : Hp} {Q : VK} (hl : l.length ≤ 60) (h : ∀ x ∈ l, x.2.1.length ≤ 60 ∧ x.2.2.length ≤ 60) (k : ∀ p ts H', Same H H' → H p = none → H' p = some (.lst (ts.map V.ref)) → SdsAt H' ts l → Q (.ref p) H') : tLstS (rowsT l) σ H Q := by
  refine rows_it h fun ts H1 S1 x1 => ⟨by rw [List.length_map, x1.length, sizeLine_eq]; omega, fun p H2 S2 n2 g2 => k p ts H2 (S1.trans S2) (S1.free n2) g2 (x1.same S2)⟩
def fyA : List Sd := [("r", ["x"], ["p"])]
def fyB : List Sd := [("r", ["y"], ["p"])]
def fyC : List Sd := [("r", ["x", "x"], []), ("c", ["p"], ["x", "y"])]
def fyD : List Sd := [("r", ["x", "y"], []), ("c", ["p"], ["x", "y"])]
def fyE : List Sd := [("r", ["a"], ["b", "c", "d", "e", "f"]), ("s", ["g"], ["h", "i", "j", "k", "l"])]
def fyF : List Sd := [("r", [], [])]
def fyG : List Sd := [("r", ["x", "x"], [])]
def fyH : List Sd := [("s", ["g"], ["h", "i", "j", "k", "l"]), ("r", ["a"], ["b", "c", "d", "e", "f"])]
def fyI : List Sd := [("r", [], ["n"])]
def fxPs : List (List Sd × List Sd) := [(fyA, fyB), (fyC, fyD), (fyA, fyF), (fyG, fyC), (fyE, fyH)]
/-- the names of rows, as the law lists them -/
theorem names_it {K : PySem.W.Frag} {i g : Nat} {gs : List Nat} {l : Addr} {ts : List Addr} {xs : List Sd} {σ : L2.St} {H : Hp} {Q : VK} (h1 : σ[i]? = some (some (.ref l))) (h2 : ∀ x, wipe ((wipe σ gs).set g (some x)) gs = wipe σ gs) (h3 : ∀ x, ((wipe σ gs).set g (some x))[g]? = some (some x)) (hl : H l = some (.lst (ts.map V.ref))) (hx : SdsAt H ts xs) (l60 : xs.length ≤ 60)
    (k : ∀ D H', Same H H' → H D = none → H' D = some (.lst ((xs.map (·.1)).map V.str)) → Q (.ref D) H') : tLc (iList K (tVar i)) (gName g) tYes (tOp (rIxT K) (tVar g) (tC (.int 0))) gs σ H Q := by
  have lt := hx.length
  refine ⟨_, h1, l, rfl, ⟨_, SqL.of hl⟩, fun D nD => lc_it (walk_list (xs := ts.map V.ref)) (fun i H' => Same H H' ∧ H' D = some (.lst (((xs.take i).map (·.1)).map V.str))) ⟨Same.upd nD, upd_same⟩ (fun i H' _ q => SqL.of (q.1 _ _ hl)) ?_ ?_⟩
  · rintro j x H8 H9 hj ⟨S8, hD⟩ ⟨rfl, hx2⟩
    rw [List.length_map] at hj
    rw [List.getElem?_map] at hx2
    obtain ⟨t, htt, rfl⟩ := Option.map_eq_some_iff.mp hx2
    obtain ⟨z, hz, c1, c2, w0, w1, w2⟩ := paired_at hx htt
    refine ⟨h2 _, iteT (B := False) ⟨_, h3 _, t, _, 0, _, rfl, rfl, SqT.of (S8 _ _ w0), rfl, _, hD, ?_, ?_, ?_⟩⟩
    · rw [List.length_map, List.length_map, List.length_take, sizeLine_eq]
      omega
    · intro c o e
      rw [upd_ne (ne_of_none e nD)]
      exact S8 _ _ e
    · rw [upd_same, take_snoc hz, List.map_append, List.map_append]
      rfl
  · rintro H8 ⟨S8, hD⟩
    rw [List.length_map, lt, List.take_length] at hD
    exact k D H8 S8 nD hD
theorem rnames_it {K : PySem.W.Frag} {i g : Nat} {gs : List Nat} {l : Addr} {ts : List Addr} {xs : List Sd} {σ : L2.St} {H : Hp} {Q : VK} (h1 : σ[i]? = some (some (.ref l))) (h2 : ∀ x, wipe ((wipe σ gs).set g (some x)) gs = wipe σ gs) (h3 : ∀ x, ((wipe σ gs).set g (some x))[g]? = some (some x)) (hl : H l = some (.lst (ts.map V.ref))) (hx : SdsAt H ts xs) (l60 : xs.length ≤ 60)
    (k : ∀ D H', Same H H' → H D = none → H' D = some (.lst ((xs.map (·.1)).reverse.map V.str)) → Q (.ref D) H') : tRevL K (tLc (iList K (tVar i)) (gName g) tYes (tOp (rIxT K) (tVar g) (tC (.int 0))) gs) σ H Q := by
  refine names_it h1 h2 h3 hl hx l60 fun D H1 S1 n1 hD => ⟨D, _, rfl, SqL.of hD, fun p np => k p _ (S1.trans (Same.upd np)) (S1.free np) ?_⟩
  rw [upd_same, List.map_reverse]
theorem tpar2 {i j : Nat} {A B : TE} {R : TS} {D : Ends} {σ : L2.St} {H : Hp} (h : A σ H fun x H1 => B σ H1 fun y H2 => ∃ v w, [x, y] = [v, w] ∧ R D ((σ.set i (some v)).set j (some w)) H2) : tSeq (tPar i j (tCons A (tCons B tNil))) R D σ H := h
theorem paired_rev {α β : Type} {R : α → β → Prop} {as : List α} {bs : List β} (h : Paired R as bs) : Paired R as.reverse bs.reverse := by
  induction h with
  | nil => exact .nil
  | cons r t ih => rw [List.reverse_cons, List.reverse_cons]; exact paired_snoc ih r
def letB (z : Str) : Bool := decide (1 ≤ z.length) && decide (z.length ≤ 10) && z.cps.toList.all fun c => decide (97 ≤ c) && decide (c ≤ 122)
theorem letB_ok {z : Str} (h : letB z = true) : LetOk z := by
  unfold letB at h
  simp only [Bool.and_eq_true, decide_eq_true_eq, List.all_eq_true] at h
  exact ⟨h.1.1, h.1.2, h.2⟩
def gdB (xs : List Sd) : Bool := !xs.isEmpty && decide (xs.length ≤ 3) && (xs.all fun x => letB x.1 && (x.2.1.all fun z => decide (z ∈ LW)) && (x.2.2.all fun z => decide (z ∈ LW)) && decide (x.2.1.length ≤ 4) && decide (x.2.2.length ≤ 6)) && decide ((xs.map (·.1)).Nodup) && xs.all fun x => xs.all fun y => (x.2.1 ++ x.2.2).all fun z => decide (z ≠ y.1)
theorem gd_ok {xs : List Sd} (h : gdB xs = true) : SdsOk xs ∧ (∀ x ∈ xs, RowW x) ∧ xs.length ≤ 3 := by
  unfold gdB at h
  simp only [Bool.and_eq_true, decide_eq_true_eq, List.all_eq_true, List.mem_append] at h
  obtain ⟨⟨⟨⟨h1, h2⟩, h3⟩, h4⟩, h5⟩ := h
  have ne : xs ≠ [] := fun e => by subst e; exact absurd h1 (by decide)
  refine ⟨⟨ne, fun x hx => ?_, h4, fun x hx y hy z hz => h5 x hx y hy z hz, by omega⟩, fun x hx => ?_, h2⟩
  · obtain ⟨⟨⟨⟨a, b⟩, c⟩, d⟩, e⟩ := h3 x hx
    exact ⟨letB_ok a, fun z hz => let_LW z (b z hz), fun z hz => let_LW z (c z hz), by omega, by omega⟩
  · obtain ⟨⟨⟨⟨a, b⟩, c⟩, d⟩, e⟩ := h3 x hx
    exact ⟨b, c, d, e⟩
theorem names_le {xs ys : List Sd} {m : List Str} (lm : m.length ≤ 12) (h : ∀ x, x ∈ xs ∨ x ∈ ys → ∀ z, z ∈ x.2.1 ∨ z ∈ x.2.2 → z ∈ m) : (namesL (xs.map norm) (ys.map norm)).length ≤ 12 := by
  refine Nat.le_trans (nodup_leP (m := m) (names_nd _ _) fun z hz => ?_) lm
  rw [names_mem, sizes_norm, sizes_norm] at hz
  rcases hz with ⟨x, hx, q⟩ | ⟨x, hx, q⟩
  · exact h x (.inl hx) z q
  · exact h x (.inr hx) z q
def inB (m : List Str) (xs : List Sd) : Bool := xs.all fun x => (x.2.1 ++ x.2.2).all fun z => decide (z ∈ m)
theorem inB_ok {m : List Str} {xs : List Sd} (h : inB m xs = true) : ∀ x ∈ xs, ∀ z, z ∈ x.2.1 ∨ z ∈ x.2.2 → z ∈ m := by
  unfold inB at h
  simp only [List.all_eq_true, decide_eq_true_eq, List.mem_append] at h
  exact h
def L12 : List Str := ["a", "b", "c", "d", "e", "f", "g", "h", "i", "j", "k", "l"]
theorem fx_good : ∀ q ∈ fxPs, (SdsOk q.1 ∧ (∀ x ∈ q.1, RowW x) ∧ q.1.length ≤ 3) ∧ (SdsOk q.2 ∧ (∀ x ∈ q.2, RowW x) ∧ q.2.length ≤ 3) ∧ ∃ m : List Str, m.length ≤ 12 ∧ (∀ x ∈ q.1, ∀ z, z ∈ x.2.1 ∨ z ∈ x.2.2 → z ∈ m) ∧ ∀ x ∈ q.2, ∀ z, z ∈ x.2.1 ∨ z ∈ x.2.2 → z ∈ m := by
  intro q hq
  have h : (fxPs.all fun q => gdB q.1 && (gdB q.2 && ((inB ["x", "y", "p"] q.1 && inB ["x", "y", "p"] q.2) || (inB L12 q.1 && inB L12 q.2)))) = true := by decide +kernel
  have h := List.all_eq_true.mp h q hq
  simp only [Bool.and_eq_true, Bool.or_eq_true] at h
  refine ⟨gd_ok h.1, gd_ok h.2.1, ?_⟩
  rcases h.2.2 with g | g
  · exact ⟨_, by decide, inB_ok g.1, inB_ok g.2⟩
  · exact ⟨_, by decide, inB_ok g.1, inB_ok g.2⟩
def PairAt (H : Hp) (t : Addr) (q : List Sd × List Sd) : Prop := ∃ (l l2 : Addr) (ts us : List Addr), H t = some (.tup [.ref l, .ref l2]) ∧ H l = some (.lst (ts.map V.ref)) ∧ SdsAt H ts q.1 ∧ H l2 = some (.lst (us.map V.ref)) ∧ SdsAt H us q.2
def spFixR : Sp := fun vs H Q _ => ∃ (a : Addr) (n : Nat), vs = [.ref a] ∧ PurseAt H a (n + 20000) ∧ ∀ H', SameB a H H' → Q (.bl true) H'
section
variable {P : Program} {w : World} {K : PySem.W.Frag} {mg : Str → Option Value} {base : Heap} {C : Addr}
abbrev NFx : List Str := ["_law_purse_here", "_law_one", "_law_other_here", "_law_third", "_law_fourth", "_law_many", "_law_rows", "_law_others", "_law_route", "_law_way", "_law_row"]
theorem scFixR : FnScope NFx ["_law_purse_here"] (defScope sFixR) := ⟨rfl, rfl, rfl, by decide +kernel, rfl, by decide +kernel, by decide +kernel⟩
theorem ok_fixR {f : Addr} {fd : FuncData} (F : Fun K "_law_fixed_right" "_law_fixed_right" sFixR f fd) (B : Bl mg) (M1 : Mak P w K mg base 5 "Plain" C (spInit C) []) (Jo : Cal P w K mg base 3 "joined" (spJoined K C) []) (Ri : CalG P w K mg base 7 "_law_right" (spRight K C)) : FnG P w K mg base 8 f fd ["_law_purse_here"] spFixR := by
  refine F.okG scFixR (fun vs H Q E h => ?_) (fun cdv A outer s H vs Q E gA hr h => ?_)
  · obtain ⟨a, n, rfl, _⟩ := h
    rfl
  · obtain ⟨a, n, rfl, hp, k⟩ := h
    refine ⟨_, (pss_cons (ps_par3 (i := 1) (j := 2) (l := 3) (by rfl) scFixR.nd rfl rfl rfl (by decide) (by decide) (by decide) rfl rfl rfl (pa_cons (pe_lstS (pa_cons (pe_tupS (pa_cons pe_str (pa_cons (pe_lstS (pa_cons pe_str pa_nil)) (pa_cons (pe_lstS (pa_cons pe_str pa_nil)) pa_nil)))) pa_nil)) (pa_cons (pe_lstS (pa_cons (pe_tupS (pa_cons pe_str (pa_cons (pe_lstS (pa_cons pe_str pa_nil)) (pa_cons (pe_lstS (pa_cons pe_str pa_nil)) pa_nil)))) pa_nil)) (pa_cons (pe_lstS (pa_cons (pe_tupS (pa_cons pe_str (pa_cons (pe_lstS (pa_cons pe_str (pa_cons pe_str pa_nil))) (pa_cons (pe_lstS pa_nil) pa_nil)))) (pa_cons (pe_tupS (pa_cons pe_str (pa_cons (pe_lstS (pa_cons pe_str pa_nil)) (pa_cons (pe_lstS (pa_cons pe_str (pa_cons pe_str pa_nil))) pa_nil)))) pa_nil))) pa_nil))) (by rfl))
      (pss_cons (ps_set (i := 4) scFixR.nd rfl (Or.inl rfl) (pe_lstS (pa_cons (pe_tupS (pa_cons pe_str (pa_cons (pe_lstS (pa_cons pe_str (pa_cons pe_str pa_nil))) (pa_cons (pe_lstS pa_nil) pa_nil)))) (pa_cons (pe_tupS (pa_cons pe_str (pa_cons (pe_lstS (pa_cons pe_str pa_nil)) (pa_cons (pe_lstS (pa_cons pe_str (pa_cons pe_str pa_nil))) pa_nil)))) pa_nil))))
      (pss_cons (ps_set (i := 5) scFixR.nd rfl (Or.inl rfl) (pe_lstS (pa_cons (pe_tupS (pa_cons pe_str (pa_cons (pe_lstS (pa_cons pe_str pa_nil)) (pa_cons (pe_lstS (pa_cons pe_str (pa_cons pe_str (pa_cons pe_str (pa_cons pe_str (pa_cons pe_str pa_nil)))))) pa_nil)))) (pa_cons (pe_tupS (pa_cons pe_str (pa_cons (pe_lstS (pa_cons pe_str pa_nil)) (pa_cons (pe_lstS (pa_cons pe_str (pa_cons pe_str (pa_cons pe_str (pa_cons pe_str (pa_cons pe_str pa_nil)))))) pa_nil)))) pa_nil))))
      (pss_cons (ps_for PassesOwn.never rfl (pi_list (pe_lstS (pa_cons (pe_tupS (pa_cons (pv 1) (pa_cons (pv 2) pa_nil))) (pa_cons (pe_tupS (pa_cons (pv 3) (pa_cons (pv 4) pa_nil))) (pa_cons (pe_tupS (pa_cons (pv 1) (pa_cons (pe_lstS (pa_cons (pe_tupS (pa_cons pe_str (pa_cons (pe_lstS pa_nil) (pa_cons (pe_lstS pa_nil) pa_nil)))) pa_nil)) pa_nil))) (pa_cons (pe_tupS (pa_cons (pe_slice sl_listS (pv 3) po_none (po_some pe_int)) (pa_cons (pv 3) pa_nil))) (pa_cons (pe_tupS (pa_cons (pv 5) (pa_cons (pe_revL (pv 5)) pa_nil))) pa_nil))))))) (pg_tup rfl (pgs_cons (pg_name (i := 6) scFixR.nd rfl (Or.inl rfl)) (pgs_cons (pg_name (i := 7) scFixR.nd rfl (Or.inl rfl)) pgs_nil)))
        (pss_cons (ps_par (i := 8) (j := 9) (by rfl) scFixR.nd rfl rfl (by decide) rfl rfl (pa_cons (pe_revL (pe_lc (own := [("_law_row", 10)]) (g := gName 10) (tt := tYes) (te := tOp (rIxT K) (tVar 10) (tC (.int 0))) rfl scFixR.nd (pi_list (pv 6))
            (blkOk_by (own := [("_law_row", 10)]) (N := NFx) (sc := defScope sFixR) (by decide +kernel))
            (fun _ _ _ _ _ => pg_name (i := 10) scFixR.nd rfl (Or.inl rfl)) (fun _ _ _ _ _ => pts_nil) (fun _ _ _ _ _ => by exact (pe_ix ix_tup (pv 10) pe_int (fun _ _ => rfl))))) (pa_cons (pe_revL (pe_lc (own := [("_law_row", 10)]) (g := gName 10) (tt := tYes) (te := tOp (rIxT K) (tVar 10) (tC (.int 0))) rfl scFixR.nd (pi_list (pv 7))
            (blkOk_by (own := [("_law_row", 10)]) (N := NFx) (sc := defScope sFixR) (by decide +kernel))
            (fun _ _ _ _ _ => pg_name (i := 10) scFixR.nd rfl (Or.inl rfl)) (fun _ _ _ _ _ => pts_nil) (fun _ _ _ _ _ => by exact (pe_ix ix_tup (pv 10) pe_int (fun _ _ => rfl))))) pa_nil)) (by rfl))
      (pss_one (ps_if (pt_not (pt_val (pe_cG gA Ri hr (by decide) rfl (pa_cons (pv 0) (pa_cons (pv 6) (pa_cons (pv 8) (pa_cons (pv 7) (pa_cons (pv 9) pa_nil)))))))) (pss_one (ps_ret pe_bl)) pss_nil))))
      (pss_one (ps_ret (pe_cmpR (op_eqD hr.units) (pe_c Jo hr (by decide) rfl (pa_cons (pe_mk1 M1 hr (by decide) rfl (pa_cons (pe_lstS (pa_cons (pe_tupS (pa_cons pe_str (pa_cons (pe_lstS pa_nil) (pa_cons (pe_lstS (pa_cons pe_str pa_nil)) pa_nil)))) pa_nil)) pa_nil)) (pa_cons (pe_lstS (pa_cons pe_str pa_nil)) pa_nil))) (pe_lstS pa_nil) (by rfl)))))))), ?_⟩
    refine lrows_it (l := fyA) (by decide) (by decide) fun l1 t1 H1 S1 n1 h1 x1 => ?_
    refine lrows_it (l := fyB) (by decide) (by decide) fun l2 t2 H2 S2 n2 h2 x2 => ?_
    refine lrows_it (l := fyC) (by decide) (by decide) fun l3 t3 H3 S3 n3 h3 x3 => ?_
    refine ⟨_, _, _, rfl, ?_⟩
    dsimp only
    refine seq_asg ?_
    refine lrows_it (l := fyD) (by decide) (by decide) fun l4 t4 H4 S4 n4 h4 x4 => ?_
    refine seq_asg ?_
    refine lrows_it (l := fyE) (by decide) (by decide) fun l5 t5 H5 S5 n5 h5 x5 => ?_
    refine ts_mid (fun σ' H' => (∃ u1 u2 u3 u4 u5 u6 u7 u8 u9, σ' = [some (.ref a), u1, u2, u3, u4, u5, u6, u7, u8, u9, none]) ∧ SameB a H H') (fun N hN => ?_) ?_
    · refine ⟨_, rfl, _, rfl, by show 2 ≤ sizeLine; decide, fun q1 H6 S6 nq1 hq1 => ?_⟩
      refine ⟨_, rfl, _, rfl, by show 2 ≤ sizeLine; decide, fun q2 H7 S7 nq2 hq2 => ?_⟩
      refine ⟨_, rfl, lrows_it (l := fyF) (by decide) (by decide) fun l6 t6 H8 S8 n8 h8 x8 => ⟨by show 2 ≤ sizeLine; decide, fun q3 H9 S9 nq3 hq3 => ?_⟩⟩
      have S39 : Same H3 H9 := S4.trans (S5.trans (S6.trans (S7.trans (S8.trans S9))))
      refine ⟨_, rfl, 1, rfl, l3, _, rfl, SqL.of (S39 _ _ h3), fun l7 H10 S10 n10 h10 => ⟨_, rfl, by show 2 ≤ sizeLine; decide, fun q4 H11 S11 nq4 hq4 => ?_⟩⟩
      rw [show ((1 : Int)) = ((1 : Nat) : Int) from rfl, take_nat, ← List.map_take] at h10
      have S511 : Same H5 H11 := S6.trans (S7.trans (S8.trans (S9.trans (S10.trans S11))))
      refine ⟨_, rfl, _, rfl, l5, _, rfl, SqL.of (S511 _ _ h5), fun l8 nl8 => ?_⟩
      have S12 : Same H11 (upd H11 l8 (.lst (t5.map V.ref).reverse)) := Same.upd nl8
      have h12 : (upd H11 l8 (.lst (t5.map V.ref).reverse)) l8 = some (.lst (t5.reverse.map V.ref)) := by rw [upd_same, List.map_reverse]
      generalize upd H11 l8 (.lst (t5.map V.ref).reverse) = H12 at S12 h12 ⊢
      refine ⟨by show 2 ≤ sizeLine; decide, fun q5 H13 S13 nq5 hq5 => ?_⟩
      refine ⟨by show 5 ≤ sizeLine; decide, fun L H14 S14 nL hL => ?_⟩
      have T12 : Same H12 H14 := S13.trans S14
      have T11 : Same H11 H14 := S12.trans T12
      have T10 : Same H10 H14 := S11.trans T11
      have T9 : Same H9 H14 := S10.trans T10
      have T8 : Same H8 H14 := S9.trans T9
      have T7 : Same H7 H14 := S8.trans T8
      have T6 : Same H6 H14 := S7.trans T7
      have T5 : Same H5 H14 := S6.trans T6
      have T4 : Same H4 H14 := S5.trans T5
      have T3 : Same H3 H14 := S4.trans T4
      have T2 : Same H2 H14 := S3.trans T3
      have T1 : Same H1 H14 := S2.trans T2
      have T0 : Same H H14 := S1.trans T1
      have ps : Paired (PairAt H14) [q1, q2, q3, q4, q5] fxPs := by
        refine .cons ⟨l1, l2, t1, t2, T6 _ _ hq1, T1 _ _ h1, x1.same T1, T2 _ _ h2, x2.same T2⟩ ?_
        refine .cons ⟨l3, l4, t3, t4, T7 _ _ hq2, T3 _ _ h3, x3.same T3, T4 _ _ h4, x4.same T4⟩ ?_
        refine .cons ⟨l1, l6, t1, t6, T9 _ _ hq3, T1 _ _ h1, x1.same T1, T8 _ _ h8, x8.same T8⟩ ?_
        refine .cons ⟨l7, l3, _, t3, T11 _ _ hq4, T10 _ _ h10, sds_take 1 (x3.same T3), T3 _ _ h3, x3.same T3⟩ ?_
        exact .cons ⟨l5, l8, t5, _, S14 _ _ hq5, T5 _ _ h5, x5.same T5, T12 _ _ h12, paired_rev (x5.same T5)⟩ .nil
      have hp14 := hp.same T0
      replace hL : H14 L = some (.lst (([q1, q2, q3, q4, q5] : List Addr).map V.ref)) := hL
      show ∃ l, V.ref L = V.ref l ∧ _
      generalize [q1, q2, q3, q4, q5] = qs at ps hL
      have lq : qs.length = 5 := ps.length
      refine ⟨L, rfl, ⟨_, SqL.of hL⟩, for_it (walk_list (xs := qs.map V.ref)) (fun i σ' H' => (∃ u1 u2 u3 u4 u5 u6 u7 u8 u9, σ' = [some (.ref a), u1, u2, u3, u4, u5, u6, u7, u8, u9, none]) ∧ PurseAt H' a (n + 3500 * (5 - i)) ∧ SameB a H14 H') ⟨⟨_, _, _, _, _, _, _, _, _, rfl⟩, hp14.less (by omega), SameB.refl _ _⟩ (fun i σ' H' _ w => SqL.of (w.2.2 _ _ (purse_ref hp14 hL) hL)) ?_ ?_⟩
      · rintro i v σ' Hx Hy hi ⟨⟨u1, u2, u3, u4, u5, u6, u7, u8, u9, rfl⟩, hpy, Sy⟩ ⟨rfl, hxi⟩
        rw [List.length_map, lq] at hi
        rw [List.getElem?_map] at hxi
        obtain ⟨t, htt, rfl⟩ := Option.map_eq_some_iff.mp hxi
        obtain ⟨q, hq, r1, r2, ts, us, g1, g2, g3, g4, g5⟩ := paired_at ps htt
        obtain ⟨⟨ok1, ro1, le1⟩, ⟨ok2, ro2, le2⟩, m, lm, hm1, hm2⟩ := fx_good q (List.mem_of_getElem? hq)
        have y1 : Hy t = some (.tup [.ref r1, .ref r2]) := Sy _ _ (by
          obtain ⟨p0, p1, p2, e, _⟩ := hp14
          exact ne_of g1 e (by intro z; cases z)) g1
        have y2 := Sy _ _ (purse_ref hp14 g2) g2
        have y3 := g3.purse hp14 Sy
        have y4 := Sy _ _ (purse_ref hp14 g4) g4
        have y5 := g5.purse hp14 Sy
        refine ⟨t, _, rfl, SqT.of y1, rfl, _, _, rfl, _, _, rfl, rfl, ?_⟩
        refine tpar2 ?_
        refine rnames_it (by rfl) (by intro _; rfl) (by intro _; rfl) y2 y3 (by omega) fun r1' Hc Sc nc hc => ?_
        refine rnames_it (by rfl) (by intro _; rfl) (by intro _; rfl) (Sc _ _ y4) (y5.same Sc) (by omega) fun r2' Hd Sd nd hd => ?_
        refine ⟨_, _, rfl, ?_⟩
        dsimp only
        have Scd := Sc.trans Sd
        refine ⟨_, rfl, _, rfl, _, rfl, _, rfl, _, rfl, a, r1, r1', r2, r2', n + 3500 * (5 - (i + 1)), ts, us, _, _, q.1, q.2, rfl, (hpy.same Scd).less (by omega), ⟨Scd _ _ y2, y3.same Scd, ok1, ro1, by omega, Sd _ _ hc, List.reverse_perm _⟩, ⟨Scd _ _ y4, y5.same Scd, ok2, ro2, by omega, hd, List.reverse_perm _⟩, by omega, names_le lm (fun x hx => hx.elim (hm1 x) (hm2 x)), names_le lm (fun x hx => hx.elim (hm2 x) (hm1 x)), fun H' hp' S' => ⟨_, rfl, ifF rfl ⟨⟨_, _, _, _, _, _, _, _, _, rfl⟩, hp', fun c o nc e => S' _ _ nc (Scd _ _ (Sy _ _ nc e))⟩⟩⟩
      · rintro σ' Hy ⟨⟨w1, w2, w3, w4, w5, w6, w7, w8, w9, rfl⟩, _, Sy⟩
        exact hN _ _ ⟨⟨_, _, _, _, _, _, _, _, _, rfl⟩, fun c o nc e => Sy _ _ nc (T0 _ _ e)⟩
    rintro σ' Hz ⟨⟨u1, u2, u3, u4, u5, u6, u7, u8, u9, rfl⟩, Sz⟩
    refine lrows_it (l := fyI) (by decide) (by decide) fun l9 t9 Ha Sa na ha xa => ?_
    have okI := gd_ok (xs := fyI) (by decide +kernel)
    refine fun y dx ny nd ne => mk_plainR ha xa okI.1 ny nd ne fun Hb Sb hy => ⟨rfl, ?_⟩
    refine lstrs_it (l := ["r"]) (by decide) fun p Hc Sc np hpc => ?_
    have hyc := hy.same Sc
    have okN := okI.1.norm
    have roN : ∀ x ∈ fyI.map norm, RowW x := fun x hx => by
      obtain ⟨u, hu, rfl⟩ := List.mem_map.mp hx
      exact (okI.2.1 u hu).norm
    have nil : joinL (longJ (fyI.map norm)) = [] := by
      have : longJ (fyI.map norm) = [] := by
        unfold longJ
        rw [show fyI.map norm = [norm ("r", [], ["n"])] from rfl, List.filter_cons_of_neg (by show ¬ decide (0 < (sortT []).length) = true; rw [length_sortT]; decide)]
        rfl
      rw [this]
      rfl
    refine ⟨y, p, ["r"], fyI.map norm, rfl, hpc, by show (["r"] : List Str).Perm ["r"]; exact List.Perm.refl _, hyc, okN, fun x hx => ⟨(roN x hx).2.2.1, by have := (roN x hx).2.2.2; omega⟩, by decide, fun Hd pd vd zd Sd nd hd hjd ed md wd => ?_⟩
    rw [walk_oneN (w := ["r"]) (zs := fyI) okI.1 (List.Perm.refl _) rfl ed md, nil] at hjd
    cases hjd
    refine ⟨by show 0 ≤ sizeLine; decide, fun e He Se ne' he => eqJ (ts := []) (us := []) (js := []) (ks := []) (Se _ _ hd) .nil he .nil (fun _ h => absurd h List.not_mem_nil) (fun _ h => absurd h List.not_mem_nil) ?_⟩
    exact k He fun c o nc e => Se _ _ (Sd _ _ (Sc _ _ (Sb _ _ (Sa _ _ (Sz _ _ nc e)))))
end
end E4

set_option Elab.async false
set_option linter.all false
set_option maxRecDepth 100000
set_option maxHeartbeats 4000000
set_option exponentiation.threshold 5000
/-! law_k66's law -/
namespace E4
open PySem PySem.Spec PyProof.Rows L2
open C8 (Cal Mak Met InsC pe_c pe_mt pe_mt0 call_isC clsBody)
open E3 (PurseAt spPurse spMixed spDraw)
open LamX (Tabs ExtN TabB CodeO)
theorem jns_purse {H H' : Hp} {p : Addr} {n : Nat} {ts : List Addr} {js : List Jn} (h : Paired (JnAt H) ts js) (hp : PurseAt H p n) (S : SameB p H H') : Paired (JnAt H') ts js := paired_imp h fun t _ x ⟨a, b, h1, h2, h3⟩ => ⟨a, b, S _ _ (by
  obtain ⟨p0, p1, p2, e, _⟩ := hp
  exact ne_of h1 e (by intro z; cases z)) h1, S _ _ (purse_str hp h2) h2, S _ _ (purse_str hp h3) h3⟩
section
variable {P : Program} {w : World} {K : PySem.W.Frag} {mg : Str → Option Value} {base : Heap} {C : Addr}
abbrev NL : List Str := ["_law_script", "_law_cell", "_law_purse_here", "_law_rows", "_law_table", "_law_turn", "_law_route", "_law_before", "_law_told", "_law_most", "_law_sizes_here", "_law_others", "_law_way", "_law_word", "_law_span", "_law_step", "_law_row"]
theorem scLaw : FnScope NL ["_law_script"] (defScope sLaw) := ⟨rfl, rfl, rfl, by decide +kernel, rfl, by decide +kernel, by decide +kernel⟩
theorem ok_law {T : List (Addr × Str)} {f : Addr} {fd : FuncData} (F : Fun K "law" "law" sLaw f fd) (B4 : E3.Bt4 mg) (B : Bl mg) (hrep : mg "repr" = none) (Fx : CalG P w K mg base 8 "_law_fixed_right" spFixR) (Pu : Cal P w K mg base 1 "_law_purse" (spPurse K) []) (D : Cal P w K mg base 2 "_law_draw" spDraw []) (Ch : Cal P w K mg base 5 "_law_chain" spChain []) (Le : Cal P w K mg base 4 "_law_letters" spLetters []) (Sh : Cal P w K mg base 3 "_law_shuffled" (spShuf K) [])
    (M1 : Mak P w K mg base 5 "Plain" C (spInit C) []) (Jo : Cal P w K mg base 3 "joined" (spJoined K C) []) (Lj : Cal P w K mg base 2 "_law_joined" (spLJ K) []) (On : Cal P w K mg base 7 "_law_one_table_right" (spOneT K C) [])
    (Sz : Cal P w K mg base 4 "_law_sizes" (spSizesL K) []) (Mc : Cal P w K mg base 2 "_law_many_cells" (spMany K) []) (Pa : Cal P w K mg base 2 "_law_pairs" (spPairs K) []) (Ru : Cal P w K mg base 2 "_law_run" (spRun K) []) (Ot : Cal P w K mg base 4 "_law_other" (spOther K) []) (Ri : CalG P w K mg base 7 "_law_right" (spRight K C)) :
    FnG P w K mg base 9 f fd ["_law_script"] (spLaw T K) := by
  refine F.okG scLaw (fun vs H Q E h => ?_) (fun cdv A outer s H vs Q E gA hr h => ?_)
  · obtain ⟨sc, ns, rfl, _⟩ := h
    rfl
  · obtain ⟨sc, ns, rfl, hs, hl, tb, q⟩ := h
    refine ⟨_, (pss_cons (ps_if (pt_not (pt_val (pe_cG gA Fx hr (by decide) rfl (pa_cons (pe_c Pu hr (by decide) rfl (pa_cons (pv 0) (pa_cons pe_int pa_nil))) pa_nil)))) (pss_one (ps_ret pe_bl)) pss_nil)
      (pss_cons (ps_for PassesOwn.never rfl (pi_range1 rfl B4.rng_ (pa_cons (pe_callB (call_max2 rfl) (by rfl) B4.max_ (by decide +kernel) (pa_cons pe_int (pa_cons (pe_callB call_len_seq (by rfl) B.len_ PySem.boot_len (pa_cons (pe_slice sl_listS (pv 0) po_none (po_some pe_int)) pa_nil)) pa_nil))) pa_nil)) (pg_name (i := 1) scLaw.nd rfl (Or.inl rfl))
        (pss_cons (ps_set (i := 2) scLaw.nd rfl (Or.inr rfl) (pe_c Pu hr (by decide) rfl (pa_cons (pv 0) (pa_cons (pv 1) pa_nil))))
      (pss_cons (ps_set (i := 3) scLaw.nd rfl (Or.inl rfl) (pe_c Ch hr (by decide) rfl (pa_cons (pv 2) (pa_cons (pe_op op_add pe_int (pe_c D hr (by decide) rfl (pa_cons (pv 2) (pa_cons pe_int pa_nil)))) (pa_cons (pe_ix ix_list (pe_lstS (pa_cons pe_int (pa_cons (pe_op op_pow pe_int pe_int) pa_nil))) (pe_c D hr (by decide) rfl (pa_cons (pv 2) (pa_cons pe_int pa_nil))) (fun _ _ => rfl)) pa_nil)))))
      (pss_cons (ps_if (pt_cmpR op_eq (pe_c D hr (by decide) rfl (pa_cons (pv 2) (pa_cons pe_int pa_nil))) pe_int (by rfl)) (pss_one (ps_setLc (i := 3) (own := [("_law_word", 13), ("_law_span", 14), ("_law_step", 15)]) (g := gTup K 3 (gCons (gName 13) (gCons (gName 14) (gCons (gName 15) gNil)))) (tt := tYes) (te := tTupS (tCons (tVar 13) (tCons (tCall spLetters [] C8.E0 (tCons (tVar 2) (tCons (tC (.int 2)) tNil))) (tCons (tCall spLetters [] C8.E0 (tCons (tVar 2) (tCons (tC (.int 3)) tNil))) tNil)))) (by rfl) scLaw.nd rfl rfl (by rfl) (pi_list (pv 3))
            (blkOk_by (own := [("_law_word", 13), ("_law_span", 14), ("_law_step", 15)]) (N := NL) (sc := defScope sLaw) (by decide +kernel))
            (fun _ _ _ _ _ => (pg_tup rfl (pgs_cons (pg_name (i := 13) scLaw.nd rfl (Or.inl rfl)) (pgs_cons (pg_name (i := 14) scLaw.nd rfl (Or.inl rfl)) (pgs_cons (pg_name (i := 15) scLaw.nd rfl (Or.inl rfl)) pgs_nil))))) (fun _ _ _ _ _ => pts_nil) (fun _ _ _ _ _ => by exact (pe_tupS (pa_cons (pv 13) (pa_cons (pe_c Le hr (by decide) rfl (pa_cons (pv 2) (pa_cons pe_int pa_nil))) (pa_cons (pe_c Le hr (by decide) rfl (pa_cons (pv 2) (pa_cons pe_int pa_nil))) pa_nil))))))) pss_nil)
      (pss_cons (ps_set (i := 4) scLaw.nd rfl (Or.inl rfl) (pe_mk1 M1 hr (by decide) rfl (pa_cons (pv 3) pa_nil)))
      (pss_one (ps_for PassesOwn.never rfl (pi_range1 rfl B4.rng_ (pa_cons pe_int pa_nil)) (pg_name (i := 5) scLaw.nd rfl (Or.inl rfl))
        (pss_cons (ps_set (i := 6) scLaw.nd rfl (Or.inl rfl) (pe_c Sh hr (by decide) rfl (pa_cons (pv 2) (pa_cons (pe_lc (own := [("_law_row", 16)]) (g := gName 16) (tt := tYes) (te := tOp (rIxT K) (tVar 16) (tC (.int 0))) rfl scLaw.nd (pi_list (pv 3))
            (blkOk_by (own := [("_law_row", 16)]) (N := NL) (sc := defScope sLaw) (by decide +kernel))
            (fun _ _ _ _ _ => pg_name (i := 16) scLaw.nd rfl (Or.inl rfl)) (fun _ _ _ _ _ => pts_nil) (fun _ _ _ _ _ => by exact (pe_ix ix_tup (pv 16) pe_int (fun _ _ => rfl)))) pa_nil))))
      (pss_cons (ps_if (pt_cmpR op_eq (pe_c D hr (by decide) rfl (pa_cons (pv 2) (pa_cons pe_int pa_nil))) pe_int (by rfl)) (pss_one (ps_set (i := 6) scLaw.nd rfl (Or.inl rfl) (pe_revL (pe_lc (own := [("_law_row", 16)]) (g := gName 16) (tt := tYes) (te := tOp (rIxT K) (tVar 16) (tC (.int 0))) rfl scLaw.nd (pi_list (pv 3))
            (blkOk_by (own := [("_law_row", 16)]) (N := NL) (sc := defScope sLaw) (by decide +kernel))
            (fun _ _ _ _ _ => pg_name (i := 16) scLaw.nd rfl (Or.inl rfl)) (fun _ _ _ _ _ => pts_nil) (fun _ _ _ _ _ => by exact (pe_ix ix_tup (pv 16) pe_int (fun _ _ => rfl))))))) pss_nil)
      (pss_cons (ps_set (i := 7) scLaw.nd rfl (Or.inl rfl) (pe_callTy call_list_of (by rfl) B.lst_ (by decide +kernel) (pa_cons (pv 6) pa_nil)))
      (pss_cons (ps_set (i := 8) scLaw.nd rfl (Or.inl rfl) (pe_c Jo hr (by decide) rfl (pa_cons (pv 4) (pa_cons (pv 6) pa_nil))))
      (pss_cons (ps_if (PW.pt (pw_or (pt_cmpR op_ne (pe_callB (call_reprV gA hr.units) (by rfl) hrep (by decide +kernel) (pa_cons (pv 8) pa_nil)) (pe_callB (call_reprV gA hr.units) (by rfl) hrep (by decide +kernel) (pa_cons (pe_c Lj hr (by decide) rfl (pa_cons (pv 3) (pa_cons (pv 6) pa_nil))) pa_nil)) (by rfl)) (pw_or1 (pt_cmpR (op_neD hr.units) (pv 6) (pv 7) (by rfl))))) (pss_one (ps_ret pe_bl)) pss_nil)
      (pss_cons (ps_if (pt_not (pt_val (pe_c On hr (by decide) rfl (pa_cons (pv 2) (pa_cons (pv 4) (pa_cons (pv 3) (pa_cons (pv 6) pa_nil))))))) (pss_one (ps_ret pe_bl)) pss_nil)
      (pss_cons (ps_for PassesOwn.never rfl (pi_tup (pe_tupS (pa_cons pe_int (pa_cons pe_int (pa_cons pe_int pa_nil))))) (pg_name (i := 9) scLaw.nd rfl (Or.inl rfl))
        (pss_cons (ps_set (i := 10) scLaw.nd rfl (Or.inl rfl) (pe_c Sz hr (by decide) rfl (pa_cons (pv 2) (pa_cons (pv 3) (pa_cons (pv 9) pa_nil)))))
      (pss_one (ps_if (pt_cmpR op_lt (pe_c Mc hr (by decide) rfl (pa_cons (pv 3) (pa_cons (pv 10) pa_nil))) pe_int (by rfl)) (pss_one (ps_if (pt_cmpR (op_neD hr.units) (pe_c Ru hr (by decide) rfl (pa_cons (pv 8) (pa_cons (pv 10) pa_nil))) (pe_c Ru hr (by decide) rfl (pa_cons (pe_c Pa hr (by decide) rfl (pa_cons (pv 3) (pa_cons (pv 6) pa_nil))) (pa_cons (pv 10) pa_nil))) (by rfl)) (pss_one (ps_ret pe_bl)) pss_nil)) pss_nil))))
      (pss_cons (ps_asg (pe_c Ot hr (by decide) rfl (pa_cons (pv 2) (pa_cons (pv 3) (pa_cons (pv 6) pa_nil)))) (pg_tup (by rfl) (pgs_cons (pg_name (i := 11) scLaw.nd rfl (Or.inl rfl)) (pgs_cons (pg_name (i := 12) scLaw.nd rfl (Or.inl rfl)) pgs_nil))))
      (pss_one (ps_if (PW.pt (pw_or (pt_not (pt_val (pe_cG gA Ri hr (by decide) rfl (pa_cons (pv 2) (pa_cons (pv 3) (pa_cons (pv 6) (pa_cons (pv 11) (pa_cons (pv 12) pa_nil)))))))) (pw_or1 (pt_not (pt_val (pe_cG gA Ri hr (by decide) rfl (pa_cons (pv 2) (pa_cons (pv 3) (pa_cons (pv 6) (pa_cons (pv 3) (pa_cons (pv 6) pa_nil))))))))))) (pss_one (ps_ret pe_bl)) pss_nil)))))))))))))))))
      (pss_one (ps_ret pe_bl)))), ?_⟩
    -- the fixed tables
    refine ts_mid (fun σ' H' => σ' = L2.start NL [V.ref sc] ∧ ExtN H H') (fun N hN => ?_) ?_
    · refine ⟨_, rfl, sc, 0, ns, rfl, hs, by decide, by decide, fun H1 p S1 np hp => ?_⟩
      exact ⟨p, 2 ^ 58, rfl, hp.less (by decide), fun H2 S2 => ⟨_, rfl, ifF rfl (hN _ _ ⟨rfl, fun c o e nt => S2 _ _ (ne_of_none e np) (S1 _ _ e)⟩)⟩⟩
    rintro σ0 H0 ⟨rfl, X0⟩
    have hs0 := hs.extN X0
    have lcut : (cutV (ns.map V.int) none (some 12)).length ≤ 63 := by
      unfold cutV
      refine Nat.le_trans (List.length_take_le' _ _) ?_
      rw [List.length_drop, List.length_map]
      omega
    refine ⟨_, rfl, 12, rfl, sc, _, rfl, hs0, fun pc H1 S1 n1 h1 => ?_⟩
    refine ⟨pc, _, rfl, .inl (SqL.of h1), 1, _, rfl, _, rfl, ?_⟩
    generalize hm : (if (((cutV (ns.map V.int) none (some 12)).length : Nat) : Int) > 1 then (((cutV (ns.map V.int) none (some 12)).length : Nat) : Int) else 1) = m
    have m0 : 0 ≤ m ∧ m ≤ 63 := by
      rw [← hm]
      split <;> omega
    refine ⟨by omega, by omega, for_it (walk_range (n := m.toNat)) (fun i σ' H' => (∃ u1 u2 u3 u4 u5 u6 u7 u8 u9 u10 u11 u12 u13 u14 u15 u16, σ' = [some (.ref sc), u1, u2, u3, u4, u5, u6, u7, u8, u9, u10, u11, u12, u13, u14, u15, u16]) ∧ ExtN H0 H') ⟨⟨none, none, none, none, none, none, none, none, none, none, none, none, none, none, none, none, rfl⟩, ExtN.of S1⟩ (fun _ _ _ _ _ => trivial) ?_ ?_⟩
    · rintro i x σ' H2 H3 hi ⟨⟨u1, u2, u3, u4, u5, u6, u7, u8, u9, u10, u11, u12, u13, u14, u15, u16, rfl⟩, X2⟩ ⟨rfl, rfl⟩
      refine seq_asg ⟨_, rfl, _, rfl, sc, _, ns, rfl, hs0.extN X2, by omega, by omega, fun H4 p S4 np hp => ?_⟩
      have back : ∀ {H' : Hp}, FrP p H4 H' → ExtN H0 H' := fun Fr c o e nt => Fr c o (ne_of_none (X2 _ _ e nt) np) (S4 _ _ (X2 _ _ e nt)) nt
      clear X2 S4
      refine seq_asg ⟨_, rfl, _, rfl, p, 5, 2 ^ 50, rfl, hp.less (by decide), by decide, by decide, fun r H5 r0 r1 hp5 S5 => ⟨_, _, rfl, rfl, 10, 9, rfl, rfl, ⟨by decide, by decide, by decide⟩, by show 2 ≤ sizeLine; decide, fun lx H6 S6 n6 h6 => ⟨_, rfl, p, 2, 2 ^ 49, rfl, (hp5.same S6).less (by decide), by decide, by decide, fun r2 H7 r20 r21 hp7 S7 => ?_⟩⟩⟩
      obtain ⟨mo, em, mo1, mo2⟩ : ∃ mo : Int, atI [V.int 2, V.int (10 ^ (9 : Int).toNat)] r2 = some (V.int mo) ∧ 1 ≤ mo ∧ mo ≤ 10 ^ 9 := by
        have : r2 = 0 ∨ r2 = 1 := by omega
        rcases this with rfl | rfl
        · exact ⟨2, rfl, by decide, by decide⟩
        · exact ⟨10 ^ (9 : Int).toNat, rfl, by decide, by decide⟩
      refine ⟨lx, _, r2, _, rfl, rfl, SqL.of (S7 _ _ (purse_none hp5 n6) h6), em, p, (1 + r).toNat, mo, 2 ^ 48, by rw [Int.toNat_of_nonneg (by omega)]; rfl, by omega, by omega, mo1, Int.lt_of_le_of_lt mo2 (by decide), hp7.less (by decide), fun l ts xs H8 hl hx ok ro len nm nl hp8 S8 => ?_⟩
      have F7 : FrP p H4 H7 := (FrP.ofB S5).trans ((FrP.ofS S6).trans (FrP.ofB S7))
      have F8 := F7.trans (FrP.ofB S8)
      have l5 : xs.length ≤ 5 := by omega
      have nlp : l ≠ p := purse_ref hp8 hl
      clear S5 S6 n6 h6 S7 S8 len F7 nl hp5 hp7
      dsimp only
      refine ts_mid (fun σ' H' => ∃ (l2 : Addr) (ts2 : List Addr) (xs2 : List Sd), σ' = [some (.ref sc), some (.int (0 + (i : Nat))), some (.ref p), some (.ref l2), u4, u5, u6, u7, u8, u9, u10, u11, u12, u13, u14, u15, u16] ∧ H' l2 = some (.lst (ts2.map V.ref)) ∧ SdsAt H' ts2 xs2 ∧ SdsOk xs2 ∧ (∀ x ∈ xs2, RowOk x) ∧ (∀ x ∈ xs2, x.1 ∈ N8) ∧ xs2.length ≤ 5 ∧ PurseAt H' p (2 ^ 40) ∧ FrP p H4 H') (fun N hN => ?_) ?_
      · refine ⟨_, rfl, p, 4, 2 ^ 47, rfl, hp8.less (by decide), by decide, by decide, fun r3 H9 r30 r31 hp9 S9 => ⟨rfl, _, rfl, iteD (fun c => ?_) (fun c => ?_)⟩⟩
        · have hl9 := S9 _ _ nlp hl
          have lx := hx.length
          have hx9 := hx.purse hp8 S9
          refine ⟨_, rfl, l, rfl, ⟨_, SqL.of hl9⟩, fun D nD => ?_⟩
          have nDp : D ≠ p := purse_none hp9 nD
          have frD : Frsh p H9 D := ⟨nDp, fun o e => by rw [nD] at e; cases e⟩
          refine lc_it (walk_list (xs := ts.map V.ref)) (fun i H' => FrP p H9 H' ∧ PurseAt H' p (2 ^ 40 + 40 * (8 - i)) ∧ ∃ us ys, H' D = some (.lst (us.map V.ref)) ∧ (∀ u ∈ us, u ≠ D) ∧ SdsAt H' us ys ∧ ys.map (·.1) = (xs.take i).map (·.1) ∧ ∀ y ∈ ys, RowOk y)
            ⟨(FrP.refl p H9).upd frD, (purse_upd hp9 nDp).less (by decide), [], [], upd_same, fun _ h => absurd h List.not_mem_nil, .nil, rfl, fun _ h => absurd h List.not_mem_nil⟩ (fun i H' _ q => SqL.of (q.1 _ _ nlp hl9 fun _ z => nomatch z)) ?_ ?_
          · rintro j v H10 H11 hj ⟨F10, hpu, us, ys, hD, hne, hys, hnm, hro⟩ ⟨rfl, hxj⟩
            rw [List.length_map] at hj
            rw [List.getElem?_map] at hxj
            obtain ⟨t, htt, rfl⟩ := Option.map_eq_some_iff.mp hxj
            obtain ⟨y, hy, c1, c2, w0, w1, w2⟩ := paired_at hx9 htt
            refine ⟨t, _, rfl, SqT.of (F10 _ _ (purse_tup hp9 w0) w0 fun _ z => nomatch z), rfl, _, _, rfl, _, _, rfl, _, _, rfl, rfl, ?_⟩
            refine ⟨rfl, iteT (B := False) ?_⟩
            refine ⟨_, rfl, _, rfl, p, 2, 2 ^ 40 + 40 * (8 - (j + 1)) + 20, rfl, by decide, hpu.less (by omega), fun z1 q1 H12 hz1 lz1 hq1 nq1 hp12 S12 => ?_⟩
            have hD12 := S12 _ _ nDp hD
            refine ⟨_, rfl, p, 3, 2 ^ 40 + 40 * (8 - (j + 1)), rfl, by decide, hp12, fun z2 q2 H13 hz2 lz2 hq2 nq2 hp13 S13 => ⟨by show 3 ≤ sizeLine; decide, fun t' H14 S14 n14 h14 => ?_⟩⟩
            have hD13 := S13 _ _ nDp hD12
            have hD14 := S14 _ _ hD13
            have q1D : q1 ≠ D := (ne_of_none hD nq1).symm
            have q2D : q2 ≠ D := (ne_of_none hD12 nq2).symm
            have tD : t' ≠ D := (ne_of_none hD13 n14).symm
            have hq1' := S14 _ _ (S13 _ _ (purse_none hpu nq1) hq1)
            have hq2' := S14 _ _ hq2
            have F14 : FrP p H9 H14 := F10.trans ((FrP.ofB S12).trans ((FrP.ofB S13).trans (FrP.ofS S14)))
            have hys14 : SdsAt H14 us ys := ((hys.purse hpu S12).purse hp12 S13).same S14
            have lus : us.length = j := by
              have h1 := hys.length
              have h2 := congrArg List.length hnm
              rw [List.length_map, List.length_map, List.length_take] at h2
              have := hx9.length
              omega
            refine ⟨_, hD14, by rw [List.length_map, lus, sizeLine_eq]; omega, F14.upd frD, purse_upd (hp13.same S14) nDp, us ++ [t'], ys ++ [(y.1, z1, z2)], by rw [upd_same, List.map_append]; rfl, ?_, ?_, ?_, ?_⟩
            · intro u hu
              rcases List.mem_append.mp hu with h | h
              · exact hne u h
              · rw [List.mem_singleton.mp h]; exact tD
            · refine paired_snoc (SdsAt.off (v := .lst []) hys14 hD14 hne fun c o n e => by rw [upd_ne n]; exact e) ⟨q1, q2, ?_, ?_, ?_⟩
              · rw [upd_ne tD]; exact h14
              · rw [upd_ne q1D]; exact hq1'
              · rw [upd_ne q2D]; exact hq2'
            · rw [List.map_append, hnm, take_snoc hy, List.map_append]
              rfl
            · intro u hu
              rcases List.mem_append.mp hu with h | h
              · exact hro u h
              · rw [List.mem_singleton.mp h]
                exact ⟨fun z hz => hz1 z hz, fun z hz => hz2 z hz, by show z1.length ≤ 3; omega, by show z2.length ≤ 6; omega⟩
          · rintro H10 ⟨F10, hpu, us, ys, hD, hne, hys, hnm, hro⟩
            rw [List.length_map, hx9.length, List.take_length] at hnm
            have ly : ys.length = xs.length := by have := congrArg List.length hnm; rwa [List.length_map, List.length_map] at this
            exact hN _ _ ⟨D, us, ys, rfl, hD, hys, ok.with_names nm hnm hro (by omega), hro, fun y hy => by
              have : y.1 ∈ ys.map (·.1) := List.mem_map.mpr ⟨y, hy, rfl⟩
              rw [hnm] at this
              obtain ⟨x, hx, e⟩ := List.mem_map.mp this
              rw [← e]
              exact nm x hx, by omega, hpu.less (by omega), (F8.trans (FrP.ofB S9)).trans F10⟩
        · exact hN _ _ ⟨l, ts, xs, rfl, S9 _ _ nlp hl, hx.purse hp8 S9, ok, ro, nm, l5, hp9.less (by decide), F8.trans (FrP.ofB S9)⟩
      clear hl hx ok ro l5 nm hp8 F8 nlp
      rintro σ' H6 ⟨l, ts, xs, rfl, hl, hx, ok, ro, nm, l5, hp6, F6⟩
      have l8 : xs.length ≤ 8 := by omega
      -- the table
      refine seq_asg ⟨_, rfl, fun y dx ny nd ne => ?_⟩
      refine mk_plainR hl hx ok ny nd ne fun H7 S7 hy => ⟨rfl, ?_⟩
      have hl7 := S7 _ _ hl
      have hx7 := hx.same S7
      have hp7 := hp6.same S7
      have F7 := F6.trans (FrP.ofS S7)
      have back7 : ∀ {H' : Hp}, FrP p H7 H' → ExtN H0 H' := fun Fr => back (F7.trans Fr)
      have nlp : l ≠ p := purse_ref hp7 hl7
      clear hl hx F6 S7 hp6 F7 back
      have row : ∀ x ∈ xs, RowW x := fun x hx => (ro x hx).w
      have nms : (namesL (xs.map norm) (xs.map norm)).length ≤ 12 := names_le (m := L8) (by decide) fun x hx z hz => by
        have hx : x ∈ xs := hx.elim id id
        exact hz.elim ((ro x hx).1 z) ((ro x hx).2.1 z)
      have rows : ∀ {H' : Hp}, FrP p H7 H' → H' l = some (.lst (ts.map V.ref)) ∧ SdsAt H' ts xs ∧ PlAt C H' y (xs.map norm) := fun Fr => ⟨Fr _ _ nlp hl7 (fun _ z => nomatch z), hx7.frP hp7 Fr, hy.frP hp7 Fr⟩
      have nX : (xs.map norm).map (fun x : Sd => x.1) = xs.map (·.1) := by rw [List.map_map]; rfl
      have okN := ok.norm
      have roN : ∀ x ∈ xs.map norm, RowW x := fun x hx => by
        obtain ⟨u, hu, rfl⟩ := List.mem_map.mp hx
        exact (row u hu).norm
      have r34 : ∀ x ∈ xs.map norm, x.2.1.length ≤ 4 ∧ x.2.2.length ≤ 8 := fun x hx => ⟨(roN x hx).2.2.1, by have := (roN x hx).2.2.2; omega⟩
      have lN : (xs.map norm).length ≤ 8 := by rw [List.length_map]; exact l8
      refine ⟨3, rfl, by decide, by decide, for_it (walk_range (n := 3)) (fun e σ' H' => (∃ v5 v6 v7 v8 v9 v10 v11 v12, σ' = [some (.ref sc), some (.int (0 + (i : Nat))), some (.ref p), some (.ref l), some (.ref y), v5, v6, v7, v8, v9, v10, v11, v12, u13, u14, u15, u16]) ∧ FrP p H7 H' ∧ PurseAt H' p (20000 * (3 - e))) ⟨⟨_, _, _, _, _, _, _, _, rfl⟩, FrP.refl _ _, hp7.less (by decide)⟩ (fun _ _ _ _ _ => trivial) ?_ ?_⟩
      · rintro e x σ' Hx Ha he ⟨⟨v5, v6, v7, v8, v9, v10, v11, v12, rfl⟩, Fa, hpa⟩ ⟨rfl, rfl⟩
        refine ts_mid (fun σ' H' => ∃ (r : Addr) (wk : List Str), σ' = [some (.ref sc), some (.int (0 + (i : Nat))), some (.ref p), some (.ref l), some (.ref y), some (.int (0 + (e : Nat))), some (.ref r), v7, v8, v9, v10, v11, v12, u13, u14, u15, u16] ∧ H' r = some (.lst (wk.map V.str)) ∧ wk.Perm (xs.map (·.1)) ∧ FrP p H7 H' ∧ PurseAt H' p (20000 * (3 - (e + 1)) + 19000)) (fun N hN => ?_) ?_
        · obtain ⟨hla, hxa, hya⟩ := rows Fa
          refine ⟨_, rfl, ?_⟩
          refine names_it (by rfl) (by intro _; rfl) (by intro _; rfl) hla hxa (by omega) fun nw Hb Sb nb hb => ?_
          refine ⟨p, nw, xs.map (·.1), 20000 * (3 - (e + 1)) + 19000, rfl, (hpa.same Sb).less (by rw [List.length_map]; omega), hb, by rw [List.length_map]; omega, fun wk r Hc pm hr' nr hpc Sc => ?_⟩
          exact hN _ _ ⟨r, wk, rfl, hr', pm, (Fa.trans (FrP.ofS Sb)).trans (FrP.ofB Sc), hpc⟩
        rintro σ' Hb ⟨r, wk, rfl, hrb, pwb, Fb, hpb⟩
        refine ts_mid (fun σ' H' => ∃ (r : Addr) (wk : List Str), σ' = [some (.ref sc), some (.int (0 + (i : Nat))), some (.ref p), some (.ref l), some (.ref y), some (.int (0 + (e : Nat))), some (.ref r), v7, v8, v9, v10, v11, v12, u13, u14, u15, u16] ∧ H' r = some (.lst (wk.map V.str)) ∧ wk.Perm (xs.map (·.1)) ∧ FrP p H7 H' ∧ PurseAt H' p (20000 * (3 - (e + 1)) + 18900)) (fun N hN => ?_) ?_
        · refine ⟨_, rfl, p, 2, 20000 * (3 - (e + 1)) + 18900, rfl, hpb.less (by omega), by decide, by decide, fun r3 Hc r30 r31 hpc Sc => ⟨rfl, _, rfl, iteD (fun c => ?_) (fun c => ?_)⟩⟩
          · obtain ⟨hla, hxa, _⟩ := rows (Fb.trans (FrP.ofB Sc))
            refine rnames_it (by rfl) (by intro _; rfl) (by intro _; rfl) hla hxa (by omega) fun D Hd Sd nd hd => ?_
            exact hN _ _ ⟨D, _, rfl, hd, List.reverse_perm _, (Fb.trans (FrP.ofB Sc)).trans (FrP.ofS Sd), hpc.same Sd⟩
          · exact hN _ _ ⟨r, wk, rfl, Sc _ _ (purse_str hpb hrb) hrb, pwb, Fb.trans (FrP.ofB Sc), hpc⟩
        clear hrb pwb Fb hpb Fa hpa
        rintro σ' Hc ⟨r, wk, rfl, hrc, pw, Fc, hpc⟩
        have pwN : wk.Perm ((xs.map norm).map (fun x : Sd => x.1)) := by rw [nX]; exact pw
        have lw : wk.length = xs.length := by rw [pw.length_eq, List.length_map]
        have slw : ∀ z ∈ wk, PyData.strOk z = true := fun z hz => by
          obtain ⟨x, hx, e⟩ := List.mem_map.mp (pw.mem_iff.mp hz)
          rw [← e]
          exact strOk_of (ok.ok x hx).1
        obtain ⟨zA, pA, eA⟩ := route_ex (xs := xs) ((List.reverse_perm wk).trans pw)
        have oA := walk_ok ok row l8 pA
        have lJ : (joinL (longJ (zA.map norm))).length ≤ 8 := by
          have h1 := joinL_len (longJ (zA.map norm)) (longJ (zA.map norm)).length
          rw [List.take_length] at h1
          have h2 := longJ_len (xs := zA.map norm)
          rw [List.length_map, pA.length_eq] at h2
          omega
        refine seq_asg ⟨_, rfl, r, _, rfl, .inl (SqL.of hrc), fun bf nbf => ?_⟩
        have Sd : Same Hc (upd Hc bf (.lst (wk.map V.str))) := Same.upd nbf
        have hbf : (upd Hc bf (.lst (wk.map V.str))) bf = some (.lst (wk.map V.str)) := upd_same
        generalize upd Hc bf (.lst (wk.map V.str)) = Hd at Sd hbf ⊢
        obtain ⟨hld, hxd, hyd⟩ := rows (Fc.trans (FrP.ofS Sd))
        refine seq_asg ⟨_, rfl, _, rfl, y, r, wk, xs.map norm, rfl, Sd _ _ hrc, pwN, hyd, okN, r34, lN, fun He p8 us8 z8 Se n8 h8 hj8 e8 m8 _ => ?_⟩
        rw [walk_oneN ok pA eA e8 m8] at hj8
        have Sce := Sd.trans Se
        have hre := Sce _ _ hrc
        have hbe := Se _ _ hbf
        have Fe := Fc.trans (FrP.ofS Sce)
        have hpe := hpc.same Sce
        clear hld hxd hyd Sd hbf Se n8 e8 m8 Sce hrc Fc hpc nbf
        dsimp only
        refine ts_mid (fun σ' H' => σ' = [some (.ref sc), some (.int (0 + (i : Nat))), some (.ref p), some (.ref l), some (.ref y), some (.int (0 + (e : Nat))), some (.ref r), some (.ref bf), some (.ref p8), v9, v10, v11, v12, u13, u14, u15, u16] ∧ Same He H') (fun N hN => ?_) ?_
        · obtain ⟨hle, hxe, hye⟩ := rows Fe
          refine ⟨_, rfl, ?_⟩
          dsimp only [tNil]
          refine shw_jns h8 hj8 oA lJ ?_
          refine ⟨_, rfl, _, rfl, l, r, ts, wk, xs, rfl, hle, hxe, ok, row, l8, hre, pw, fun Hf p9 us9 z9 Sf n9 h9 hj9 e9 m9 => ?_⟩
          rw [walk_one ok pA eA e9 m9] at hj9
          dsimp only [tNil]
          refine shw_jns h9 hj9 oA lJ ?_
          refine ⟨rfl, _, rfl, ifF (by rw [decide_eq_true rfl]; rfl) ?_⟩
          exact ⟨_, rfl, _, rfl, .list (wk.map PyData.str), .list (wk.map PyData.str), .lst (SqL.of (Sf _ _ hre)) (dp_strs _), .lst (SqL.of (Sf _ _ hbe)) (dp_strs _), shaped_strs _ slw, shaped_strs _ slw, _, rfl, ifF (by rw [eqv_listS, decide_eq_true rfl]; rfl) (hN _ _ ⟨rfl, Sf⟩)⟩
        rintro σ' Hf ⟨rfl, Sef⟩
        have h8f := Sef _ _ h8
        have hj8f := jns_same hj8 Sef
        have hrf := Sef _ _ hre
        have Ff := Fe.trans (FrP.ofS Sef)
        have hpf := hpe.same Sef
        clear h8 hj8 hre hbe Fe hpe Sef
        refine ts_mid (fun σ' H' => σ' = [some (.ref sc), some (.int (0 + (i : Nat))), some (.ref p), some (.ref l), some (.ref y), some (.int (0 + (e : Nat))), some (.ref r), some (.ref bf), some (.ref p8), v9, v10, v11, v12, u13, u14, u15, u16] ∧ SameB p Hf H' ∧ PurseAt H' p (20000 * (3 - (e + 1)) + 18000)) (fun N hN => ?_) ?_
        · obtain ⟨hle, hxe, hye⟩ := rows Ff
          exact ⟨_, rfl, _, rfl, _, rfl, _, rfl, p, y, l, r, 20000 * (3 - (e + 1)) + 18000, ts, wk, xs, rfl, hpf.less (by omega), ⟨hle, hxe, ok, row, l8, hrf, pw⟩, hye, nms, fun H' hp' S' => ⟨_, rfl, ifF rfl (hN _ _ ⟨rfl, S', hp'⟩)⟩⟩
        rintro σ' Hg ⟨rfl, Sfg, hpg⟩
        have h8g := Sfg _ _ (purse_ref hpf h8f) h8f
        have hj8g := jns_purse hj8f hpf Sfg
        have hrg := Sfg _ _ (purse_str hpf hrf) hrf
        have Fg := Ff.trans (FrP.ofB Sfg)
        clear h8f hj8f hrf Ff Sfg hpf
        refine ts_mid (fun σ' H' => ∃ w9 w10, σ' = [some (.ref sc), some (.int (0 + (i : Nat))), some (.ref p), some (.ref l), some (.ref y), some (.int (0 + (e : Nat))), some (.ref r), some (.ref bf), some (.ref p8), w9, w10, v11, v12, u13, u14, u15, u16] ∧ SameB p Hg H' ∧ PurseAt H' p (20000 * (3 - (e + 1)) + 14000)) (fun N hN => ?_) ?_
        · refine ⟨by show 3 ≤ sizeLine; decide, fun tp H1 S1 n1 h1 => ⟨tp, rfl, ⟨_, SqT.of h1⟩, for_it (walk_tup (xs := [.int 1, .int 2, .int 3])) (fun k σ' H' => (∃ w9 w10, σ' = [some (.ref sc), some (.int (0 + (i : Nat))), some (.ref p), some (.ref l), some (.ref y), some (.int (0 + (e : Nat))), some (.ref r), some (.ref bf), some (.ref p8), w9, w10, v11, v12, u13, u14, u15, u16]) ∧ SameB p H1 H' ∧ PurseAt H' p (20000 * (3 - (e + 1)) + 14000 + 1000 * (3 - k))) ⟨⟨_, _, rfl⟩, SameB.refl _ _, (hpg.same S1).less (by omega)⟩ (fun k σ' H' _ w => SqT.of (w.2.1 _ _ (purse_tup (hpg.same S1) h1) h1)) ?_ ?_⟩⟩
          · rintro k v σ' Hx H2 hk ⟨⟨w9, w10, rfl⟩, S2, hp2⟩ ⟨rfl, hxk⟩
            have hk3 : k < 3 := hk
            obtain ⟨m, rfl, m1, m3⟩ : ∃ m : Int, v = .int m ∧ 1 ≤ m ∧ m ≤ 3 := by
              match k, hk3 with
              | 0, _ => cases hxk; exact ⟨1, rfl, by decide, by decide⟩
              | 1, _ => cases hxk; exact ⟨2, rfl, by decide, by decide⟩
              | 2, _ => cases hxk; exact ⟨3, rfl, by decide, by decide⟩
            have hp1 := hpg.same S1
            have Sg2 : SameB p Hg H2 := fun c o n e => S2 _ _ n (S1 _ _ e)
            obtain ⟨hl2, hx2, _⟩ := rows (Fg.trans (FrP.ofB Sg2))
            refine seq_asg ⟨_, rfl, _, rfl, _, rfl, p, l, ts, xs, m, 20000 * (3 - (e + 1)) + 14000 + 1000 * (3 - (k + 1)), rfl, hp2.less (by omega), hl2, hx2, row, by omega, m1, by omega, fun vl q H4 hkv hv lvl hq nq hp4 S4 => ?_⟩
            have Sg4 : SameB p Hg H4 := fun c o n e => S4 _ _ n (Sg2 _ _ n e)
            obtain ⟨hl4, hx4, _⟩ := rows (Fg.trans (FrP.ofB Sg4))
            have h84 := Sg4 _ _ (purse_ref hpg h8g) h8g
            have hj84 := jns_purse hj8g hpg Sg4
            have hr4 := Sg4 _ _ (purse_str hpg hrg) hrg
            have av : Av vl := fun x hx => by
              obtain ⟨b1, b2⟩ := hv x hx
              have : x.2.natAbs ≤ 3 := by omega
              have h400 : (3 : Nat) < 2 ^ 400 := by decide
              exact ⟨b1, by omega⟩
            have vX : ∀ {zs : List Sd}, (∀ z ∈ zs, z ∈ xs) → ValsOk vl zs := fun h => ⟨fun x hx z hz => (hkv z).mpr ⟨x, h x hx, hz⟩, av⟩
            have jA : ∀ z ∈ zA, LetJ vl z.2 := fun z hz t ht => (hkv t).mpr ⟨z, pA.mem_iff.mp hz, ht⟩
            have fin : ∀ H5, Same H4 H5 → (∃ w9 w10, [some (V.ref sc), some (V.int (0 + (i : Nat))), some (V.ref p), some (V.ref l), some (V.ref y), some (V.int (0 + (e : Nat))), some (V.ref r), some (V.ref bf), some (V.ref p8), some (V.int m), some (V.ref q), v11, v12, u13, u14, u15, u16] = [some (V.ref sc), some (V.int (0 + (i : Nat))), some (V.ref p), some (V.ref l), some (V.ref y), some (V.int (0 + (e : Nat))), some (V.ref r), some (V.ref bf), some (V.ref p8), w9, w10, v11, v12, u13, u14, u15, u16]) ∧ SameB p H1 H5 ∧ PurseAt H5 p (20000 * (3 - (e + 1)) + 14000 + 1000 * (3 - (k + 1))) := fun H5 S5 => ⟨⟨_, _, rfl⟩, fun c o n e => S5 _ _ (S4 _ _ n (S2 _ _ n e)), hp4.same S5⟩
            refine ⟨_, rfl, _, rfl, l, q, ts, xs, vl, rfl, SqL.of hl4, hx4, hq, vX fun _ h => h, row, by omega, _, _, rfl, rfl, _, rfl, iteD (fun m1 => ?_) (fun _ => ?_)⟩
            case refine_2 => exact fin H4 fun _ _ e => e
            have em : ((joinL (longJ (zA.map norm))).map fun j : Jn => (("", j) : Sd)).map (·.2) = joinL (longJ (zA.map norm)) := by rw [List.map_map]; exact List.map_id _
            have ej : manyI vl ((joinL (longJ (zA.map norm))).map fun j : Jn => (("", j) : Sd)) = manyI vl xs := by
              rw [← many_perm pA, ← many_joined av jA]
              unfold manyI
              rw [List.map_map]
              rfl
            refine ⟨_, rfl, _, rfl, p8, q, us8, (joinL (longJ (zA.map norm))).map fun j : Jn => (("", j) : Sd), vl, rfl, h84, by rw [em]; exact hj84, hq, ⟨fun x hx z hz => ?_, av⟩, fun x hx => ?_, by rw [ej]; omega, fun qa H6 S6 nqa hqa => ?_⟩
            · obtain ⟨j, hj, rfl⟩ := List.mem_map.mp hx
              exact joined_lets jA j hj z hz
            · obtain ⟨j, hj, rfl⟩ := List.mem_map.mp hx
              have := oA j hj
              exact ⟨by have := this.n1; show j.1.length ≤ 100; omega, by have := this.n2; show j.2.length ≤ 100; omega⟩
            rw [em] at hqa
            refine ⟨_, rfl, _, rfl, l, r, ts, wk, xs, rfl, S6 _ _ hl4, hx4.same S6, ok, l8, S6 _ _ hr4, pw, fun H7' pb tb z2 S7' nb hpb' htb zc zd => ?_⟩
            rw [walk_one ok pA eA zc zd] at htb
            have S67 := S6.trans S7'
            refine ⟨_, rfl, pb, q, tb, zA, vl, rfl, hpb', htb, S67 _ _ hq, vX (fun z hz => pA.mem_iff.mp hz), fun x hx => by have := row x (pA.mem_iff.mp hx); exact ⟨by have := this.2.2.1; omega, by have := this.2.2.2; omega⟩, by rw [many_perm pA]; omega, fun qb H8 S8 nqb hqb => ?_⟩
            refine ⟨_, _, .lst (SqL.of (S8 _ _ (S7' _ _ hqa))) (dp_ints _), .lst (SqL.of hqb) (dp_ints _), shaped_ints _, shaped_ints _, _, rfl, ?_⟩
            rw [eqv_listI, run_joined av jA, decide_eq_true rfl]
            exact ifF rfl (fin H8 (S67.trans S8))
          · rintro σ' H2 ⟨⟨w9, w10, rfl⟩, S2, hp2⟩
            exact hN _ _ ⟨w9, w10, rfl, fun c o n e => S2 _ _ n (S1 _ _ e), hp2.less (by omega)⟩
        rintro σ' Hh ⟨w9, w10, rfl, Sgh, hph⟩
        have hrh := Sgh _ _ (purse_str hpg hrg) hrg
        have Fh := Fg.trans (FrP.ofB Sgh)
        obtain ⟨hlh, hxh, hyh⟩ := rows Fh
        have Xh : RowsAt Hh l r ts wk xs := ⟨hlh, hxh, ok, row, l8, hrh, pw⟩
        clear h8g hj8g hrg Fg Sgh hpg hlh hxh hyh
        refine ts_mid (fun σ' H' => ∃ (l2 r2 : Addr) (us : List Addr) (w2 : List Str) (ys : List Sd), σ' = [some (.ref sc), some (.int (0 + (i : Nat))), some (.ref p), some (.ref l), some (.ref y), some (.int (0 + (e : Nat))), some (.ref r), some (.ref bf), some (.ref p8), w9, w10, some (.ref l2), some (.ref r2), u13, u14, u15, u16] ∧ RowsAt H' l2 r2 us w2 ys ∧ (∀ y ∈ ys, RowL y) ∧ ys.length ≤ 6 ∧ SameB p Hh H' ∧ PurseAt H' p (20000 * (3 - (e + 1)) + 13000)) (fun N hN => ?_) ?_
        · refine ⟨_, rfl, _, rfl, _, rfl, p, l, r, 20000 * (3 - (e + 1)) + 13000, ts, wk, xs, rfl, hph.less (by omega), Xh, ro, nm, l5, fun H' pp l' r' us w2 ys hpp hY rl ly hp' S' => ?_⟩
          exact ⟨pp, _, rfl, SqT.of hpp, rfl, _, _, rfl, _, _, rfl, rfl, hN _ _ ⟨l', r', us, w2, ys, rfl, hY, rl, ly, S', hp'⟩⟩
        rintro σ' Hi ⟨l2, r2, us, w2, ys, rfl, Yi, rl, ly, Shi, hpi⟩
        have Xi := Xh.purse hph Shi
        have Fi := Fh.trans (FrP.ofB Shi)
        have nm8 : ∀ x, x ∈ xs ∨ x ∈ ys → ∀ z, z ∈ x.2.1 ∨ z ∈ x.2.2 → z ∈ L8 := fun x hx z hz => by
          rcases hx with h | h
          · exact hz.elim ((ro x h).1 z) ((ro x h).2.1 z)
          · exact hz.elim ((rl x h).1 z) ((rl x h).2.1 z)
        refine ⟨_, rfl, _, rfl, _, rfl, _, rfl, _, rfl, p, l, r, l2, r2, 20000 * (3 - (e + 1)) + 10000, ts, us, wk, w2, xs, ys, rfl, hpi.less (by omega), Xi, Yi, by omega, names_le (m := L8) (by decide) nm8, names_le (m := L8) (by decide) (fun x hx => nm8 x hx.symm), fun Hj hpj Sj => ⟨_, rfl, ifF rfl ?_⟩⟩
        have Xj := Xi.purse hpi Sj
        refine ⟨_, rfl, _, rfl, _, rfl, _, rfl, _, rfl, p, l, r, l, r, 20000 * (3 - (e + 1)), ts, ts, wk, wk, xs, xs, rfl, hpj.less (by omega), Xj, Xj, by omega, nms, nms, fun Hk hpk Sk => ⟨_, rfl, ifF rfl ?_⟩⟩
        exact ⟨⟨_, _, _, _, _, _, _, _, rfl⟩, (Fi.trans (FrP.ofB Sj)).trans (FrP.ofB Sk), hpk⟩
      · rintro σ' Hb ⟨⟨v5, v6, v7, v8, v9, v10, v11, v12, rfl⟩, Fb, _⟩
        exact ⟨⟨_, _, _, _, _, _, _, _, _, _, _, _, _, _, _, _, rfl⟩, back7 Fb⟩
    · rintro σ' H2 ⟨_, X2⟩
      exact q H2
end
end E4

set_option Elab.async false
set_option linter.all false
set_option maxRecDepth 100000
set_option maxHeartbeats 1000000
/-! A head by facts: one Bool of the law's own, and the defs. -/
namespace Hb
open PySem PySem.Spec PyProof.Rows L2 He
abbrev AlB : Type := Bool × List FnV
def obsB (ex : PySem.W.Frag → Bool) (fn : List FnD) (K : PySem.W.Frag) : AlB := (ex K && fn.all fun d => (Fa.code d.at_ d.qual).ok K && PySem.W.keepIn K (.ref (fAd K d.at_)), fn.map fun d => fnObs K d.at_)
def valB (fn : List FnD) : AlB := (true, fn.map FnD.val)
def SaysB (ex : PySem.W.Frag → Bool) (fn : List FnD) (K : PySem.W.Frag) : Prop := obsB ex fn K = valB fn
section
variable {ex : PySem.W.Frag → Bool} {fn : List FnD} {K : PySem.W.Frag}
theorem SaysB.bool (c : SaysB ex fn K) : ex K = true := (ba (show (ex K && fn.all fun d => (Fa.code d.at_ d.qual).ok K && PySem.W.keepIn K (.ref (fAd K d.at_))) = true from congrArg (fun z : AlB => z.1) c)).1
end
theorem bindsA {K : PySem.W.Frag} {x qual : Str} {st : Stmt} {f : Addr} {fd : FuncData} {ps : List Str} (F : L2.Fun K x qual st f fd)
    (h : ∀ (kV doc pm : Value) (an : Option Addr) (cdv ct : Value) (us : List Value), us.length = ps.length → bindArgs (PySem.W.fnOf x qual (defArgs st) (defBody st) (defScope st) .none kV doc pm an cdv ct) ⟨us, []⟩ = pure (ps.zip us)) (s : Shared) (us : List Value) (hl : us.length = ps.length) : BindsTo s fd ⟨us, []⟩ (ps.zip us) := by
  obtain ⟨oc, od, kV, doc, pm, an, cdv, ct, osl, rfl, lk, hcd⟩ := F.ex
  exact .of_eq (h kV doc pm an cdv ct us hl)
/-! own operators, isinstance, as Bools -/
section
variable {K : PySem.W.Frag} {C : Addr}
def insB (K : PySem.W.Frag) (C : Addr) : Bool := eqO (PySem.W.findIn K (.ref C) "__class__") (some (some (.builtin "object.__class__"))) && (eqO (PySem.W.specialIn K (.builtin "object.__class__") "__get__") (some (some (.builtin "getset_descriptor.__get__"))) &&
  (decide (PySem.W.takesIn K (.builtin "object.__class__") = some true) && (decide (PySem.W.mroIn K C (.type "object") = some true) && decide (PySem.W.kitOne K (.ref C) (.ref C) = some true))))
theorem insB_ok (c : Cls K C) (h : insB K C = true) : C8.InsC K C := by
  obtain ⟨h1, h⟩ := ba h
  obtain ⟨h2, h⟩ := ba h
  obtain ⟨h3, h⟩ := ba h
  obtain ⟨h4, h5⟩ := ba h
  exact ⟨c, eqO_ok h1, eqO_ok h2, of_decide_eq_true h3, of_decide_eq_true h4, of_decide_eq_true h5⟩
theorem bool_ok {l : List Bool} (h : (l.all id) = true) (i : Nat) {b : Bool} (hi : l[i]? = some b := by rfl) : b = true := List.all_eq_true.mp h b (List.mem_of_getElem? hi)
end
end Hb

set_option Elab.async false
set_option linter.all false
set_option maxRecDepth 100000
set_option maxHeartbeats 1000000
/-! the end of a row whose law calls repr and whose program makes functions: tables of code objects beside the script -/
namespace L2
open PySem PySem.Spec PyProof.Rows
open LamX (TabB)
section
variable {P : Program} {w : World} {K : PySem.W.Frag} {mg mb : Str → Option Value} {k : Nat} {fa a : Addr} {cs : List (Addr × Addr)} {fd : FuncData} {x : Str} {sp : Sp} {s₁ : Shared} {vs : List Value} {ns : List Int}
theorem call_lawGT (KX : K.In s₁.heap) (hns : s₁.heap.Ns mainGlobals mg) (hb : s₁.heap.Ns builtinsNs mb) (hbb : ∀ x : Str, x ≠ "__name__" → mb x = bootBuiltins x) (hlim : s₁.heap.NoLimit) (hg : s₁.gens = #[])
    (tabs : ∀ p ∈ cs, s₁.heap.get? p.2 = some { cls := .none, data := .fields #[] }) (free : ∀ p ∈ cs, K.lookup p.2 = none) (heads : ∀ p ∈ cs, PySem.W.CodeHd s₁.heap p.1 p.2)
    (bmod : ∃ (bm : Addr) (ob : Obj), mg "__builtins__" = some (.ref bm) ∧ bm ≠ builtinsNs ∧ s₁.heap.get? bm = some ob ∧ ob.cls = .type "module" ∧ ob.dict = some builtinsNs ∧ ob.data = .plain)
    (ha : s₁.heap.get? a = some { cls := .type "list", data := .seq vs.toArray }) (hi : IntsAre vs ns) (hl : ns.length ≤ sizeLine) (hr : Room k callerA)
    (F : ∀ base : Heap, K.In base → base.Ns mainGlobals mg → (∀ p ∈ cs, TabB base mg p.1 p.2) → FnG P w K mg base k fa fd [x] sp) (hbind : ∀ (s : Shared) (u : Value), BindsTo s fd ⟨[u], []⟩ [(x, u)])
    (hsp : ∀ H : Hp, (∀ p ∈ cs, H p.2 = some (.tbl #[])) → SqL K H a (ns.map V.int) → sp [.ref a] H (fun v _ => v = .bl true) fun _ _ _ => False) :
    codeAny (model P w) callerA (.call (.ref fa) ⟨[.ref a], []⟩) (fun r s' => r = .ok (.ret (.bool true)) ∧ OldK s₁.heap s'.heap ∧ s'.os = s₁.os ∧ AllBare s'.gens) s₁ := by
  have rv := vals_ints hi
  have notA : ∀ p ∈ cs, p.2 ≠ a := fun p hp e => by
    have h := tabs p hp
    rw [e, ha] at h
    exact nomatch congrArg Obj.data (Option.some.inj h)
  -- whatever is tracked: the script, or a table
  have go : ∀ H : Hp, SqL K H a (ns.map V.int) → HOk P w H s₁.heap → (∀ p ∈ cs, H p.2 = some (.tbl #[])) → (∀ b u, H b = some u → (b = a ∧ K.lookup a = none ∧ ∃ o ys, u = .frz o (.lst ys)) ∨ ∃ p ∈ cs, p.2 = b) →
      codeAny (model P w) callerA (.call (.ref fa) ⟨[.ref a], []⟩) (fun r s' => r = .ok (.ret (.bool true)) ∧ OldK s₁.heap s'.heap ∧ s'.os = s₁.os ∧ AllBare s'.gens) s₁ := by
    intro H hS hok hH only
    have unseen : ∀ (b : Addr) (o : Obj), s₁.heap.get? b = some o → o.data ≠ .fields #[] → (∀ ys n, o.data ≠ .seq ys n) → H b = none := fun b o e nf nq => by
      rcases q : H b with _ | u
      · rfl
      · rcases only b u q with ⟨rfl, _⟩ | ⟨p, hp, rfl⟩
        · rw [ha] at e
          exact absurd (congrArg Obj.data (Option.some.inj e)).symm (nq _ _)
        · rw [tabs p hp] at e
          exact absurd (congrArg Obj.data (Option.some.inj e)).symm nf
    have shown : ∀ {b : Addr} {o : Obj}, s₁.heap.get? b = some o → o.data ≠ .fields #[] → (∀ ys n, o.data ≠ .seq ys n) → (hidT s₁.heap H).get? b = some o := fun e nf nq => hidT_get e (unseen _ _ e nf nq)
    have names : ∀ {b : Addr} {m : Str → Option Value}, s₁.heap.Ns b m → (hidT s₁.heap H).Ns b m := fun {b m} hn => by
      obtain ⟨o, es, ep, e, dd, r⟩ := hn
      exact ⟨o, es, ep, shown e (by rw [dd]; intro z; cases z) (by rw [dd]; intro ys n z; cases z), dd, r⟩
    have inK : K.In (hidT s₁.heap H) := fun b o e => hidT_get (KX b o e) (by
      rcases q : H b with _ | u
      · rfl
      · rcases only b u q with ⟨rfl, n, _⟩ | ⟨p, hp, rfl⟩
        · rw [n] at e; cases e
        · rw [free p hp] at e; cases e)
    obtain ⟨mc, c1, c2⟩ := hlim
    have env : Env0 P w K mg (hidT s₁.heap H) callerA [] s₁ H :=
      ⟨rfl, ⟨inK, names hns, ⟨mb, names hb, hbb⟩, ⟨mc, names c1, c2⟩⟩, fun b o e => of_hidT e, Nat.le_of_eq (hidT_size _ _), trivial, fun b z => (List.not_mem_nil z).elim, hok, .of_eq hg⟩
    have known : ∀ p ∈ cs, TabB (hidT s₁.heap H) mg p.1 p.2 := fun p hp => by
      obtain ⟨oc, ys, f1, f2, f3, f4, f5, f6, f7, e1, e2, e3, e4, rest⟩ := heads p hp
      have full : ys ≠ #[] := by
        rintro rfl
        simp at e4
      obtain ⟨bm, ob, m1, m2, m3, m4, m5, m6⟩ := bmod
      obtain ⟨og, es, ep, g1, g2, _⟩ := hns
      refine ⟨⟨oc, ys, f1, f2, f3, f4, f5, f6, f7, shown e1 (by rw [e3]; intro z; exact full (Data.fields.inj z)) (by rw [e3]; intro a b z; cases z), e2, e3, e4, rest⟩, ⟨bm, ob, m1, m2, ?_, ?_, shown m3 (by rw [m6]; intro z; cases z) (by rw [m6]; intro a b z; cases z), m4, m5, m6⟩, ?_⟩
      · rintro rfl
        rw [g1] at m3
        rw [Option.some.inj m3, m6] at g2
        cases g2
      · rintro rfl
        rw [tabs p hp] at m3
        exact nomatch (congrArg Obj.data (Option.some.inj m3)).trans m6
      · rintro e
        rw [e, tabs p hp] at g1
        exact nomatch (congrArg Obj.data (Option.some.inj g1)).trans g2
    refine codeAny_mono ((F _ inK (names hns) known).go callerA [] s₁ H ⟨[.ref a], []⟩ [.ref a] [.ref a] _ _ rfl hr env (hbind s₁ (.ref a)) (.cons rfl .nil) (hsp H hH hS)) fun r s' h => ?_
    match r, h with
    | .ok (.ret u), ⟨v, H', os, bare, un, hok', r', q⟩ =>
      obtain rfl : v = .bl true := q
      obtain rfl : u = Value.bool true := r'
      -- a table has grown, all else is as it was
      have still : ∀ b o, s₁.heap.get? b = some o → (¬ ∃ p ∈ cs, p.2 = b) → s'.heap.get? b = some o := fun b o e nt => by
        rcases z : H b with _ | u
        · exact un.keep b o e z (fun y => List.not_mem_nil y) (fun y => List.not_mem_nil y)
        · rcases only b u z with ⟨_, _, ob, ys, rfl⟩ | t
          · have e1 := (hok b _ z).1
            rw [e] at e1
            obtain rfl := Option.some.inj e1
            exact (hok' b _ (un.frzs b o _ z)).1
          · exact absurd t nt
      have more : ∀ p ∈ cs, ∃ ys : Array Value, s'.heap.get? p.2 = some { cls := .none, data := .fields ys } := fun p hp => by
        obtain ⟨ys, z⟩ := un.tbls p.2 #[] (hH p hp)
        exact ⟨_, hok' p.2 _ z⟩
      refine ⟨rfl, ⟨fun b o e => ?_, fun b o e => ?_⟩, os, bare⟩
      · by_cases t : ∃ p ∈ cs, p.2 = b
        · obtain ⟨p, hp, rfl⟩ := t
          obtain ⟨ys, hy⟩ := more p hp
          rw [tabs p hp] at e
          obtain rfl := Option.some.inj e
          exact .inr (.inl ⟨((heads p hp).tab (tabs p hp)).isCodeTable, rfl, #[], ys, rfl, by rw [Array.empty_append]; exact hy⟩)
        · exact .inl (still b o e t)
      · by_cases t : ∃ p ∈ cs, p.2 = b
        · obtain ⟨p, hp, rfl⟩ := t
          obtain ⟨ys, hy⟩ := more p hp
          exact ⟨_, hy⟩
        · exact ⟨o, still b o e t⟩
  have dec : ∀ b : Addr, (∃ p ∈ cs, p.2 = b) ∨ ¬ ∃ p ∈ cs, p.2 = b := fun b => Classical.em _
  haveI : ∀ b : Addr, Decidable (∃ p ∈ cs, p.2 = b) := fun b => Classical.propDecidable _
  have notT : ¬ ∃ p ∈ cs, p.2 = a := fun ⟨p, hp, e⟩ => notA p hp e
  rcases hk : K.lookup a with _ | o
  · refine go (fun b => if b = a then some (.frz { cls := .type "list", data := .seq vs.toArray } (.lst (ns.map V.int))) else if ∃ p ∈ cs, p.2 = b then some (.tbl #[]) else none) (.inl (.inr ⟨_, if_pos rfl⟩)) (fun b u z => ?_) (fun p hp => ?_) fun b u z => ?_
    · by_cases n : b = a
      · subst n
        obtain rfl := Option.some.inj ((if_pos rfl).symm.trans z)
        exact ⟨ha, by rw [List.length_map]; exact hl, vs, _, rv, ha⟩
      · have z := (if_neg n).symm.trans z
        by_cases t : ∃ p ∈ cs, p.2 = b
        · obtain rfl := Option.some.inj ((if_pos t).symm.trans z)
          obtain ⟨p, hp, rfl⟩ := t
          exact tabs p hp
        · exact nomatch (if_neg t).symm.trans z
    · show (if p.2 = a then _ else _) = _
      rw [if_neg (notA p hp), if_pos ⟨p, hp, rfl⟩]
    · by_cases n : b = a
      · subst n
        obtain rfl := Option.some.inj ((if_pos rfl).symm.trans z)
        exact .inl ⟨rfl, hk, _, _, rfl⟩
      · have z := (if_neg n).symm.trans z
        by_cases t : ∃ p ∈ cs, p.2 = b
        · exact .inr t
        · exact nomatch (if_neg t).symm.trans z
  · have e := KX a o hk
    rw [ha] at e
    obtain rfl := Option.some.inj e
    refine go (fun b => if ∃ p ∈ cs, p.2 = b then some (.tbl #[]) else none) (.inr ⟨_, vs.toArray, _, hk, rfl, rfl, rfl, by rw [List.size_toArray, hi.length]; exact hl, by simpa using rv⟩) (fun b u z => ?_) (fun p hp => if_pos ⟨p, hp, rfl⟩) fun b u z => ?_
    · by_cases t : ∃ p ∈ cs, p.2 = b
      · obtain rfl := Option.some.inj ((if_pos t).symm.trans z)
        obtain ⟨p, hp, rfl⟩ := t
        exact tabs p hp
      · exact nomatch (if_neg t).symm.trans z
    · by_cases t : ∃ p ∈ cs, p.2 = b
      · exact .inr t
      · exact nomatch (if_neg t).symm.trans z
end
/-- the goal that the head leaves -/
theorem walk_ofTsG {l : PySem.W.OpenLaw} {n k : Nat} {q : Program} {loose : List Str} {XP : (Str → Option Value) → Heap → Prop} {YP : World → Heap → Prop} {d : DefRec} {x : Str}
    (hn : l.most = some n) (hn2 : n ≤ sizeLine) (hdf : d.params.defaults = []) (hr : Room k callerA)
    (F : ∀ (w : World) (mg : Str → Option Value) (fa : Addr) (h : Heap), YP w h → h.Ns mainGlobals mg → mg d.name = some (.ref fa) →
      ∃ (K : PySem.W.Frag) (fd : FuncData) (cs : List (Addr × Addr)) (sp : Sp), K.In h ∧ (∀ p ∈ cs, h.get? p.2 = some { cls := .none, data := .fields #[] }) ∧ (∀ p ∈ cs, K.lookup p.2 = none) ∧ (∀ p ∈ cs, PySem.W.CodeHd h p.1 p.2) ∧ (∀ (s : Shared) (u : Value), BindsTo s fd ⟨[u], []⟩ [(x, u)]) ∧
        (∀ (H : Hp) (a : Addr) (ns : List Int), ns.length ≤ n → (∀ p ∈ cs, H p.2 = some (.tbl #[])) → SqL K H a (ns.map V.int) → sp [.ref a] H (fun v _ => v = .bl true) fun _ _ _ => False) ∧
        ∀ base : Heap, K.In base → base.Ns mainGlobals mg → (∀ p ∈ cs, TabB base mg p.1 p.2) → FnG l.prog w K mg base k fa fd [x] sp) :
    PySem.W.WalkO q loose XP YP l.row.toRowW d [] (fun f vs => PySem.call f vs) := by
  refine Att.attach_callB hn hdf fun w s₀ s₁ mg mb fa o pm cd doc a vs ns G Y ho hd hcd hmg hobj hints hlen hbits hg => ?_
  obtain ⟨K, fd, cs, sp, X, t1, t2, t3, b, s, O⟩ := F w mg fa _ Y G.T.g hmg
  exact call_lawGT X G.T.g G.T.b G.T.builtins G.T.nolimit hg t1 t2 t3 G.T.bmain hobj hints (Nat.le_trans hlen hn2) hr O b fun H hH hS => s H a ns hlen hH hS
end L2

set_option Elab.async false
set_option linter.all false
set_option maxRecDepth 100000
set_option maxHeartbeats 1000000
/-! what the top left: each def with its promise -/
namespace E4
open PySem PySem.Spec PyProof.Rows L2 He Hb
open C8 (Cal Mak Met InsC)
open LamX (Tabs ExtN TabB CodeO TabS)
/-- a def of the text, by its statement -/
def dX (at_ : Str × Option Str) (name qual : Str) (st : Stmt) : DefD := { at_ := at_, name := name, qual := qual, params := defArgs st, body := defBody st, scope := defScope st, dfl := [] }
theorem plainD {K : PySem.W.Frag} {x qual : Str} {st : Stmt} {f : Addr} {fd : FuncData} (F : FunD K x qual (defArgs st) (defBody st) (defScope st) [] [] f fd) : L2.Fun K x qual st f fd := by
  obtain ⟨oc, od, dV, kV, doc, pm, an, cdv, ct, osl, rfl, lk, hcd, hD, hK⟩ := F.ex
  rcases hD with ⟨_, rfl⟩ | ⟨e, _⟩
  · exact ⟨⟨oc, od, kV, doc, pm, an, cdv, ct, osl, rfl, lk, hcd⟩, F.kp⟩
  · exact absurd rfl e
theorem funX {fa : List Fa} {fn : List DefD} {K : PySem.W.Frag} (c : SaysD fa fn K) (i : Nat) {at_ : Str × Option Str} {name qual : Str} {st : Stmt} (h : fn[i]? = some (dX at_ name qual st) := by rfl) : ∃ fd, L2.Fun K name qual st (fAd K at_) fd :=
  let ⟨fd, F⟩ := c.def_ i h
  ⟨fd, plainD F⟩
def neB (K : PySem.W.Frag) (C : Addr) : Bool := eqO (PySem.W.findIn K (.ref C) "__ne__") (some (some (.builtin "object.__ne__"))) && (eqO (PySem.W.findIn K (.ref C) "__eq__") (some (some (.ref (ma K C "__eq__")))) && (PySem.W.isFn K (.ref (ma K C "__eq__")) && decide (PySem.W.subIn K (.ref C) (.type "object") = some true)))
theorem neB_ok {K : PySem.W.Frag} {C : Addr} (h : neB K C = true) : PySem.W.NoNe K C (ma K C "__eq__") := by
  obtain ⟨h1, h⟩ := ba h
  obtain ⟨h2, h⟩ := ba h
  obtain ⟨h3, h4⟩ := ba h
  exact ⟨eqO_ok h1, eqO_ok h2, h3, of_decide_eq_true h4⟩
def fnR : List DefD := [dX ("is_letter", none) "is_letter" "is_letter" sIsLetter,
  dX ("product_at", none) "product_at" "product_at" sProductAt,
  dX ("check_table", none) "check_table" "check_table" sCheckTable,
  dX ("is_sides", none) "is_sides" "is_sides" sIsSides,
  dX ("is_side", none) "is_side" "is_side" sIsSide,
  dX ("is_product", none) "is_product" "is_product" sIsProduct,
  dX ("names_of", none) "names_of" "names_of" sNamesOf,
  dX ("joined", none) "joined" "joined" sJoined,
  dX ("same_run", none) "same_run" "same_run" sSame,
  dX ("check_walk", none) "check_walk" "check_walk" sWalk,
  dX ("inside_out", none) "inside_out" "inside_out" sInside,
  dX ("primes", none) "primes" "primes" sPrimes,
  dX ("first_unlike", none) "first_unlike" "first_unlike" sUnlike,
  dX ("_law_purse", none) "_law_purse" "_law_purse" E3.sPurse,
  dX ("_law_mixed", none) "_law_mixed" "_law_mixed" E3.sMixed,
  dX ("_law_draw", none) "_law_draw" "_law_draw" E3.sDraw,
  dX ("_law_one_of", none) "_law_one_of" "_law_one_of" sOneOf,
  dX ("_law_shuffled", none) "_law_shuffled" "_law_shuffled" sShuffled,
  dX ("_law_letters", none) "_law_letters" "_law_letters" sLetters,
  dX ("_law_names", none) "_law_names" "_law_names" sNamesL,
  dX ("_law_chain", none) "_law_chain" "_law_chain" sChain,
  dX ("_law_times", none) "_law_times" "_law_times" sTimes,
  dX ("_law_used", none) "_law_used" "_law_used" sUsed,
  dX ("_law_sizes", none) "_law_sizes" "_law_sizes" sSizesL,
  dX ("_law_many_cells", none) "_law_many_cells" "_law_many_cells" sMany,
  dX ("_law_joined", none) "_law_joined" "_law_joined" sLJ,
  dX ("_law_run", none) "_law_run" "_law_run" sRun,
  dX ("_law_pairs", none) "_law_pairs" "_law_pairs" sPairs,
  dX ("_law_at", none) "_law_at" "_law_at" sAtL,
  dX ("_law_other", none) "_law_other" "_law_other" sOther,
  dX ("_law_told_right", none) "_law_told_right" "_law_told_right" sTold,
  dX ("_law_like", none) "_law_like" "_law_like" sLike,
  dX ("_law_right", none) "_law_right" "_law_right" sRight,
  dX ("_law_one_table_right", none) "_law_one_table_right" "_law_one_table_right" sOneT,
  dX ("_law_fixed_right", none) "_law_fixed_right" "_law_fixed_right" sFixR,
  dX ("law", none) "law" "law" sLaw,
  dX ("Plain", some "__init__") "__init__" "Plain.__init__" sInit,
  dX ("Plain", some "__eq__") "__eq__" "Plain.__eq__" sEq,
  dX ("Plain", some "sides") "sides" "Plain.sides" sSides,
  dX ("Plain", some "sizes") "sizes" "Plain.sizes" sSizes]
def faR : List Fa := [.glo "is_letter", .glo "product_at", .glo "check_table", .glo "is_sides", .glo "is_side", .glo "is_product", .glo "names_of", .glo "joined", .glo "same_run", .glo "check_walk", .glo "inside_out", .glo "primes", .glo "first_unlike", .glo "_law_purse", .glo "_law_mixed", .glo "_law_draw", .glo "_law_one_of", .glo "_law_shuffled", .glo "_law_letters", .glo "_law_names", .glo "_law_chain", .glo "_law_times", .glo "_law_used", .glo "_law_sizes", .glo "_law_many_cells", .glo "_law_joined", .glo "_law_run", .glo "_law_pairs", .glo "_law_at", .glo "_law_other", .glo "_law_told_right", .glo "_law_like", .glo "_law_right", .glo "_law_one_table_right", .glo "_law_fixed_right", .glo "law", .glo "Plain", .free "isinstance", .free "int", .free "bool", .free "str", .free "len", .free "all", .free "any", .free "list", .free "tuple", .free "dict", .free "set", .free "sorted", .free "zip", .free "reversed", .free "divmod", .free "sum", .free "max", .free "min", .free "range", .free "repr", .cls "Plain", .noat "Plain" "_sides", .mkr "Plain", .meth "Plain" "sides", .meth "Plain" "sizes"]
def bsR (K : PySem.W.Frag) : List Bool := [insB K (ga K "Plain"), neB K (ga K "Plain")]
def exR (K : PySem.W.Frag) : Bool := (bsR K).all id
def tsR : List Tab := []
section
variable {P : Program} {w : World} {K : PySem.W.Frag} {mg : Str → Option Value} {base : Heap}
theorem cal_of {x : Str} {f : Addr} {fd : FuncData} {ps : List Str} {k : Nat} {sp : Sp} (kp : PySem.W.keepIn K (.ref f) = true) (g : mg x = some (.ref f)) (b : Binds K fd ps []) (O : FnOk P w K mg base CX0 k f fd ps sp) : Cal P w K mg base k x sp [] := ⟨f, fd, ps, [], O, g, kp, b, .nil⟩
end
theorem facts {P : Program} {w : World} {K : PySem.W.Frag} {h : Heap} {mg : Str → Option Value} {fl : Addr} (X : K.In h) (G : h.Ns mainGlobals mg) (hfa : mg "law" = some (.ref fl)) (c : SaysX faR fnR tsR [] exR w h K) :
    ∃ fd : FuncData, (∀ (s : Shared) (u : Value), BindsTo s fd ⟨[u], []⟩ [("_law_script", u)]) ∧ ∀ base : Heap, K.In base → base.Ns mainGlobals mg → (∀ p ∈ ([] : List (Addr × Addr)), TabB base mg p.1 p.2) → FnG P w K mg base 9 fl fd ["_law_script"] (spLaw [] K) := by
  have cd := c.t.d
  have cc : ((bsR K).all id) = true := c.more
  obtain ⟨d_is_letter, F_is_letter⟩ := funX cd 0 (at_ := ("is_letter", none)) (name := "is_letter") (qual := "is_letter") (st := sIsLetter) rfl
  have g_is_letter : mg "is_letter" = some (.ref (ga K "is_letter")) := glo_ok X G (cd.fact 0 (f := .glo "is_letter") rfl)
  have b_is_letter := F_is_letter.binds (ps := ["name"]) fun _ _ _ _ _ _ us hl => match us, hl with | [_], _ => rfl
  obtain ⟨d_product_at, F_product_at⟩ := funX cd 1 (at_ := ("product_at", none)) (name := "product_at") (qual := "product_at") (st := sProductAt) rfl
  have g_product_at : mg "product_at" = some (.ref (ga K "product_at")) := glo_ok X G (cd.fact 1 (f := .glo "product_at") rfl)
  have b_product_at := F_product_at.binds (ps := ["names", "values"]) fun _ _ _ _ _ _ us hl => match us, hl with | [_, _], _ => rfl
  obtain ⟨d_check_table, F_check_table⟩ := funX cd 2 (at_ := ("check_table", none)) (name := "check_table") (qual := "check_table") (st := sCheckTable) rfl
  have g_check_table : mg "check_table" = some (.ref (ga K "check_table")) := glo_ok X G (cd.fact 2 (f := .glo "check_table") rfl)
  have b_check_table := F_check_table.binds (ps := ["table"]) fun _ _ _ _ _ _ us hl => match us, hl with | [_], _ => rfl
  obtain ⟨d_is_sides, F_is_sides⟩ := funX cd 3 (at_ := ("is_sides", none)) (name := "is_sides") (qual := "is_sides") (st := sIsSides) rfl
  have g_is_sides : mg "is_sides" = some (.ref (ga K "is_sides")) := glo_ok X G (cd.fact 3 (f := .glo "is_sides") rfl)
  have b_is_sides := F_is_sides.binds (ps := ["sides", "many"]) fun _ _ _ _ _ _ us hl => match us, hl with | [_, _], _ => rfl
  obtain ⟨d_is_side, F_is_side⟩ := funX cd 4 (at_ := ("is_side", none)) (name := "is_side") (qual := "is_side") (st := sIsSide) rfl
  have g_is_side : mg "is_side" = some (.ref (ga K "is_side")) := glo_ok X G (cd.fact 4 (f := .glo "is_side") rfl)
  have b_is_side := F_is_side.binds (ps := ["side", "many"]) fun _ _ _ _ _ _ us hl => match us, hl with | [_, _], _ => rfl
  obtain ⟨d_is_product, F_is_product⟩ := funX cd 5 (at_ := ("is_product", none)) (name := "is_product") (qual := "is_product") (st := sIsProduct) rfl
  have g_is_product : mg "is_product" = some (.ref (ga K "is_product")) := glo_ok X G (cd.fact 5 (f := .glo "is_product") rfl)
  have b_is_product := F_is_product.binds (ps := ["product"]) fun _ _ _ _ _ _ us hl => match us, hl with | [_], _ => rfl
  obtain ⟨d_names_of, F_names_of⟩ := funX cd 6 (at_ := ("names_of", none)) (name := "names_of") (qual := "names_of") (st := sNamesOf) rfl
  have g_names_of : mg "names_of" = some (.ref (ga K "names_of")) := glo_ok X G (cd.fact 6 (f := .glo "names_of") rfl)
  have b_names_of := F_names_of.binds (ps := ["sides"]) fun _ _ _ _ _ _ us hl => match us, hl with | [_], _ => rfl
  obtain ⟨d_joined, F_joined⟩ := funX cd 7 (at_ := ("joined", none)) (name := "joined") (qual := "joined") (st := sJoined) rfl
  have g_joined : mg "joined" = some (.ref (ga K "joined")) := glo_ok X G (cd.fact 7 (f := .glo "joined") rfl)
  have b_joined := F_joined.binds (ps := ["table", "walk"]) fun _ _ _ _ _ _ us hl => match us, hl with | [_, _], _ => rfl
  obtain ⟨d_same_run, F_same_run⟩ := funX cd 8 (at_ := ("same_run", none)) (name := "same_run") (qual := "same_run") (st := sSame) rfl
  have g_same_run : mg "same_run" = some (.ref (ga K "same_run")) := glo_ok X G (cd.fact 8 (f := .glo "same_run") rfl)
  have b_same_run := F_same_run.binds (ps := ["table", "walk", "other", "route"]) fun _ _ _ _ _ _ us hl => match us, hl with | [_, _, _, _], _ => rfl
  obtain ⟨d_check_walk, F_check_walk⟩ := funX cd 9 (at_ := ("check_walk", none)) (name := "check_walk") (qual := "check_walk") (st := sWalk) rfl
  have g_check_walk : mg "check_walk" = some (.ref (ga K "check_walk")) := glo_ok X G (cd.fact 9 (f := .glo "check_walk") rfl)
  have b_check_walk := F_check_walk.binds (ps := ["walk", "table"]) fun _ _ _ _ _ _ us hl => match us, hl with | [_, _], _ => rfl
  obtain ⟨d_inside_out, F_inside_out⟩ := funX cd 10 (at_ := ("inside_out", none)) (name := "inside_out") (qual := "inside_out") (st := sInside) rfl
  have g_inside_out : mg "inside_out" = some (.ref (ga K "inside_out")) := glo_ok X G (cd.fact 10 (f := .glo "inside_out") rfl)
  have b_inside_out := F_inside_out.binds (ps := ["table", "walk"]) fun _ _ _ _ _ _ us hl => match us, hl with | [_, _], _ => rfl
  obtain ⟨d_primes, F_primes⟩ := funX cd 11 (at_ := ("primes", none)) (name := "primes") (qual := "primes") (st := sPrimes) rfl
  have g_primes : mg "primes" = some (.ref (ga K "primes")) := glo_ok X G (cd.fact 11 (f := .glo "primes") rfl)
  have b_primes := F_primes.binds (ps := ["names"]) fun _ _ _ _ _ _ us hl => match us, hl with | [_], _ => rfl
  obtain ⟨d_first_unlike, F_first_unlike⟩ := funX cd 12 (at_ := ("first_unlike", none)) (name := "first_unlike") (qual := "first_unlike") (st := sUnlike) rfl
  have g_first_unlike : mg "first_unlike" = some (.ref (ga K "first_unlike")) := glo_ok X G (cd.fact 12 (f := .glo "first_unlike") rfl)
  have b_first_unlike := F_first_unlike.binds (ps := ["one", "two", "values"]) fun _ _ _ _ _ _ us hl => match us, hl with | [_, _, _], _ => rfl
  obtain ⟨d__law_purse, F__law_purse⟩ := funX cd 13 (at_ := ("_law_purse", none)) (name := "_law_purse") (qual := "_law_purse") (st := E3.sPurse) rfl
  have g__law_purse : mg "_law_purse" = some (.ref (ga K "_law_purse")) := glo_ok X G (cd.fact 13 (f := .glo "_law_purse") rfl)
  have b__law_purse := F__law_purse.binds (ps := ["_law_script", "_law_at_here"]) fun _ _ _ _ _ _ us hl => match us, hl with | [_, _], _ => rfl
  obtain ⟨d__law_mixed, F__law_mixed⟩ := funX cd 14 (at_ := ("_law_mixed", none)) (name := "_law_mixed") (qual := "_law_mixed") (st := E3.sMixed) rfl
  have g__law_mixed : mg "_law_mixed" = some (.ref (ga K "_law_mixed")) := glo_ok X G (cd.fact 14 (f := .glo "_law_mixed") rfl)
  have b__law_mixed := F__law_mixed.binds (ps := ["_law_seed", "_law_step"]) fun _ _ _ _ _ _ us hl => match us, hl with | [_, _], _ => rfl
  obtain ⟨d__law_draw, F__law_draw⟩ := funX cd 15 (at_ := ("_law_draw", none)) (name := "_law_draw") (qual := "_law_draw") (st := E3.sDraw) rfl
  have g__law_draw : mg "_law_draw" = some (.ref (ga K "_law_draw")) := glo_ok X G (cd.fact 15 (f := .glo "_law_draw") rfl)
  have b__law_draw := F__law_draw.binds (ps := ["_law_purse_here", "_law_many"]) fun _ _ _ _ _ _ us hl => match us, hl with | [_, _], _ => rfl
  obtain ⟨d__law_one_of, F__law_one_of⟩ := funX cd 16 (at_ := ("_law_one_of", none)) (name := "_law_one_of") (qual := "_law_one_of") (st := sOneOf) rfl
  have g__law_one_of : mg "_law_one_of" = some (.ref (ga K "_law_one_of")) := glo_ok X G (cd.fact 16 (f := .glo "_law_one_of") rfl)
  have b__law_one_of := F__law_one_of.binds (ps := ["_law_purse_here", "_law_some"]) fun _ _ _ _ _ _ us hl => match us, hl with | [_, _], _ => rfl
  obtain ⟨d__law_shuffled, F__law_shuffled⟩ := funX cd 17 (at_ := ("_law_shuffled", none)) (name := "_law_shuffled") (qual := "_law_shuffled") (st := sShuffled) rfl
  have g__law_shuffled : mg "_law_shuffled" = some (.ref (ga K "_law_shuffled")) := glo_ok X G (cd.fact 17 (f := .glo "_law_shuffled") rfl)
  have b__law_shuffled := F__law_shuffled.binds (ps := ["_law_purse_here", "_law_some"]) fun _ _ _ _ _ _ us hl => match us, hl with | [_, _], _ => rfl
  obtain ⟨d__law_letters, F__law_letters⟩ := funX cd 18 (at_ := ("_law_letters", none)) (name := "_law_letters") (qual := "_law_letters") (st := sLetters) rfl
  have g__law_letters : mg "_law_letters" = some (.ref (ga K "_law_letters")) := glo_ok X G (cd.fact 18 (f := .glo "_law_letters") rfl)
  have b__law_letters := F__law_letters.binds (ps := ["_law_purse_here", "_law_most"]) fun _ _ _ _ _ _ us hl => match us, hl with | [_, _], _ => rfl
  obtain ⟨d__law_names, F__law_names⟩ := funX cd 19 (at_ := ("_law_names", none)) (name := "_law_names") (qual := "_law_names") (st := sNamesL) rfl
  have g__law_names : mg "_law_names" = some (.ref (ga K "_law_names")) := glo_ok X G (cd.fact 19 (f := .glo "_law_names") rfl)
  have b__law_names := F__law_names.binds (ps := ["_law_purse_here", "_law_many"]) fun _ _ _ _ _ _ us hl => match us, hl with | [_, _], _ => rfl
  obtain ⟨d__law_chain, F__law_chain⟩ := funX cd 20 (at_ := ("_law_chain", none)) (name := "_law_chain") (qual := "_law_chain") (st := sChain) rfl
  have g__law_chain : mg "_law_chain" = some (.ref (ga K "_law_chain")) := glo_ok X G (cd.fact 20 (f := .glo "_law_chain") rfl)
  have b__law_chain := F__law_chain.binds (ps := ["_law_purse_here", "_law_many", "_law_often"]) fun _ _ _ _ _ _ us hl => match us, hl with | [_, _, _], _ => rfl
  obtain ⟨d__law_times, F__law_times⟩ := funX cd 21 (at_ := ("_law_times", none)) (name := "_law_times") (qual := "_law_times") (st := sTimes) rfl
  have g__law_times : mg "_law_times" = some (.ref (ga K "_law_times")) := glo_ok X G (cd.fact 21 (f := .glo "_law_times") rfl)
  have b__law_times := F__law_times.binds (ps := ["_law_product", "_law_sizes_here"]) fun _ _ _ _ _ _ us hl => match us, hl with | [_, _], _ => rfl
  obtain ⟨d__law_used, F__law_used⟩ := funX cd 22 (at_ := ("_law_used", none)) (name := "_law_used") (qual := "_law_used") (st := sUsed) rfl
  have g__law_used : mg "_law_used" = some (.ref (ga K "_law_used")) := glo_ok X G (cd.fact 22 (f := .glo "_law_used") rfl)
  have b__law_used := F__law_used.binds (ps := ["_law_rows"]) fun _ _ _ _ _ _ us hl => match us, hl with | [_], _ => rfl
  obtain ⟨d__law_sizes, F__law_sizes⟩ := funX cd 23 (at_ := ("_law_sizes", none)) (name := "_law_sizes") (qual := "_law_sizes") (st := sSizesL) rfl
  have g__law_sizes : mg "_law_sizes" = some (.ref (ga K "_law_sizes")) := glo_ok X G (cd.fact 23 (f := .glo "_law_sizes") rfl)
  have b__law_sizes := F__law_sizes.binds (ps := ["_law_purse_here", "_law_rows", "_law_most"]) fun _ _ _ _ _ _ us hl => match us, hl with | [_, _, _], _ => rfl
  obtain ⟨d__law_many_cells, F__law_many_cells⟩ := funX cd 24 (at_ := ("_law_many_cells", none)) (name := "_law_many_cells") (qual := "_law_many_cells") (st := sMany) rfl
  have g__law_many_cells : mg "_law_many_cells" = some (.ref (ga K "_law_many_cells")) := glo_ok X G (cd.fact 24 (f := .glo "_law_many_cells") rfl)
  have b__law_many_cells := F__law_many_cells.binds (ps := ["_law_rows", "_law_sizes_here"]) fun _ _ _ _ _ _ us hl => match us, hl with | [_, _], _ => rfl
  obtain ⟨d__law_joined, F__law_joined⟩ := funX cd 25 (at_ := ("_law_joined", none)) (name := "_law_joined") (qual := "_law_joined") (st := sLJ) rfl
  have g__law_joined : mg "_law_joined" = some (.ref (ga K "_law_joined")) := glo_ok X G (cd.fact 25 (f := .glo "_law_joined") rfl)
  have b__law_joined := F__law_joined.binds (ps := ["_law_rows", "_law_route"]) fun _ _ _ _ _ _ us hl => match us, hl with | [_, _], _ => rfl
  obtain ⟨d__law_run, F__law_run⟩ := funX cd 26 (at_ := ("_law_run", none)) (name := "_law_run") (qual := "_law_run") (st := sRun) rfl
  have g__law_run : mg "_law_run" = some (.ref (ga K "_law_run")) := glo_ok X G (cd.fact 26 (f := .glo "_law_run") rfl)
  have b__law_run := F__law_run.binds (ps := ["_law_pairs_here", "_law_sizes_here"]) fun _ _ _ _ _ _ us hl => match us, hl with | [_, _], _ => rfl
  obtain ⟨d__law_pairs, F__law_pairs⟩ := funX cd 27 (at_ := ("_law_pairs", none)) (name := "_law_pairs") (qual := "_law_pairs") (st := sPairs) rfl
  have g__law_pairs : mg "_law_pairs" = some (.ref (ga K "_law_pairs")) := glo_ok X G (cd.fact 27 (f := .glo "_law_pairs") rfl)
  have b__law_pairs := F__law_pairs.binds (ps := ["_law_rows", "_law_route"]) fun _ _ _ _ _ _ us hl => match us, hl with | [_, _], _ => rfl
  obtain ⟨d__law_at, F__law_at⟩ := funX cd 28 (at_ := ("_law_at", none)) (name := "_law_at") (qual := "_law_at") (st := sAtL) rfl
  have g__law_at : mg "_law_at" = some (.ref (ga K "_law_at")) := glo_ok X G (cd.fact 28 (f := .glo "_law_at") rfl)
  have b__law_at := F__law_at.binds (ps := ["_law_pairs_here", "_law_sizes_here", "_law_spot"]) fun _ _ _ _ _ _ us hl => match us, hl with | [_, _, _], _ => rfl
  obtain ⟨d__law_other, F__law_other⟩ := funX cd 29 (at_ := ("_law_other", none)) (name := "_law_other") (qual := "_law_other") (st := sOther) rfl
  have g__law_other : mg "_law_other" = some (.ref (ga K "_law_other")) := glo_ok X G (cd.fact 29 (f := .glo "_law_other") rfl)
  have b__law_other := F__law_other.binds (ps := ["_law_purse_here", "_law_rows", "_law_route"]) fun _ _ _ _ _ _ us hl => match us, hl with | [_, _, _], _ => rfl
  obtain ⟨d__law_told_right, F__law_told_right⟩ := funX cd 30 (at_ := ("_law_told_right", none)) (name := "_law_told_right") (qual := "_law_told_right") (st := sTold) rfl
  have g__law_told_right : mg "_law_told_right" = some (.ref (ga K "_law_told_right")) := glo_ok X G (cd.fact 30 (f := .glo "_law_told_right") rfl)
  have b__law_told_right := F__law_told_right.binds (ps := ["_law_rows", "_law_route", "_law_others", "_law_way", "_law_told"]) fun _ _ _ _ _ _ us hl => match us, hl with | [_, _, _, _, _], _ => rfl
  obtain ⟨d__law_like, F__law_like⟩ := funX cd 31 (at_ := ("_law_like", none)) (name := "_law_like") (qual := "_law_like") (st := sLike) rfl
  have g__law_like : mg "_law_like" = some (.ref (ga K "_law_like")) := glo_ok X G (cd.fact 31 (f := .glo "_law_like") rfl)
  have b__law_like := F__law_like.binds (ps := ["_law_purse_here", "_law_rows", "_law_route", "_law_others", "_law_way"]) fun _ _ _ _ _ _ us hl => match us, hl with | [_, _, _, _, _], _ => rfl
  obtain ⟨d__law_right, F__law_right⟩ := funX cd 32 (at_ := ("_law_right", none)) (name := "_law_right") (qual := "_law_right") (st := sRight) rfl
  have g__law_right : mg "_law_right" = some (.ref (ga K "_law_right")) := glo_ok X G (cd.fact 32 (f := .glo "_law_right") rfl)
  have b__law_right := F__law_right.binds (ps := ["_law_purse_here", "_law_rows", "_law_route", "_law_others", "_law_way"]) fun _ _ _ _ _ _ us hl => match us, hl with | [_, _, _, _, _], _ => rfl
  obtain ⟨d__law_one_table_right, F__law_one_table_right⟩ := funX cd 33 (at_ := ("_law_one_table_right", none)) (name := "_law_one_table_right") (qual := "_law_one_table_right") (st := sOneT) rfl
  have g__law_one_table_right : mg "_law_one_table_right" = some (.ref (ga K "_law_one_table_right")) := glo_ok X G (cd.fact 33 (f := .glo "_law_one_table_right") rfl)
  have b__law_one_table_right := F__law_one_table_right.binds (ps := ["_law_purse_here", "_law_table", "_law_rows", "_law_route"]) fun _ _ _ _ _ _ us hl => match us, hl with | [_, _, _, _], _ => rfl
  obtain ⟨d__law_fixed_right, F__law_fixed_right⟩ := funX cd 34 (at_ := ("_law_fixed_right", none)) (name := "_law_fixed_right") (qual := "_law_fixed_right") (st := sFixR) rfl
  have g__law_fixed_right : mg "_law_fixed_right" = some (.ref (ga K "_law_fixed_right")) := glo_ok X G (cd.fact 34 (f := .glo "_law_fixed_right") rfl)
  have b__law_fixed_right := F__law_fixed_right.binds (ps := ["_law_purse_here"]) fun _ _ _ _ _ _ us hl => match us, hl with | [_], _ => rfl
  obtain ⟨d_law, F_law⟩ := funX cd 35 (at_ := ("law", none)) (name := "law") (qual := "law") (st := sLaw) rfl
  have g_law : mg "law" = some (.ref (ga K "law")) := glo_ok X G (cd.fact 35 (f := .glo "law") rfl)
  have b_law := F_law.binds (ps := ["_law_script"]) fun _ _ _ _ _ _ us hl => match us, hl with | [_], _ => rfl
  obtain ⟨d_Plain___init__, F_Plain___init__⟩ := funX cd 36 (at_ := ("Plain", some "__init__")) (name := "__init__") (qual := "Plain.__init__") (st := sInit) rfl
  have b_Plain___init__ := F_Plain___init__.binds (ps := ["self", "sides"]) fun _ _ _ _ _ _ us hl => match us, hl with | [_, _], _ => rfl
  obtain ⟨d_Plain___eq__, F_Plain___eq__⟩ := funX cd 37 (at_ := ("Plain", some "__eq__")) (name := "__eq__") (qual := "Plain.__eq__") (st := sEq) rfl
  have b_Plain___eq__ := F_Plain___eq__.binds (ps := ["self", "other"]) fun _ _ _ _ _ _ us hl => match us, hl with | [_, _], _ => rfl
  obtain ⟨d_Plain_sides, F_Plain_sides⟩ := funX cd 38 (at_ := ("Plain", some "sides")) (name := "sides") (qual := "Plain.sides") (st := sSides) rfl
  have b_Plain_sides := F_Plain_sides.binds (ps := ["self"]) fun _ _ _ _ _ _ us hl => match us, hl with | [_], _ => rfl
  obtain ⟨d_Plain_sizes, F_Plain_sizes⟩ := funX cd 39 (at_ := ("Plain", some "sizes")) (name := "sizes") (qual := "Plain.sizes") (st := sSizes) rfl
  have b_Plain_sizes := F_Plain_sizes.binds (ps := ["self"]) fun _ _ _ _ _ _ us hl => match us, hl with | [_], _ => rfl
  have g_Plain : mg "Plain" = some (.ref (ga K "Plain")) := glo_ok X G (cd.fact 36 (f := .glo "Plain") rfl)
  have z_isinstance : mg "isinstance" = none := free_ok X G (cd.fact 37 (f := .free "isinstance") rfl)
  have z_int : mg "int" = none := free_ok X G (cd.fact 38 (f := .free "int") rfl)
  have z_bool : mg "bool" = none := free_ok X G (cd.fact 39 (f := .free "bool") rfl)
  have z_str : mg "str" = none := free_ok X G (cd.fact 40 (f := .free "str") rfl)
  have z_len : mg "len" = none := free_ok X G (cd.fact 41 (f := .free "len") rfl)
  have z_all : mg "all" = none := free_ok X G (cd.fact 42 (f := .free "all") rfl)
  have z_any : mg "any" = none := free_ok X G (cd.fact 43 (f := .free "any") rfl)
  have z_list : mg "list" = none := free_ok X G (cd.fact 44 (f := .free "list") rfl)
  have z_tuple : mg "tuple" = none := free_ok X G (cd.fact 45 (f := .free "tuple") rfl)
  have z_dict : mg "dict" = none := free_ok X G (cd.fact 46 (f := .free "dict") rfl)
  have z_set : mg "set" = none := free_ok X G (cd.fact 47 (f := .free "set") rfl)
  have z_sorted : mg "sorted" = none := free_ok X G (cd.fact 48 (f := .free "sorted") rfl)
  have z_zip : mg "zip" = none := free_ok X G (cd.fact 49 (f := .free "zip") rfl)
  have z_reversed : mg "reversed" = none := free_ok X G (cd.fact 50 (f := .free "reversed") rfl)
  have z_divmod : mg "divmod" = none := free_ok X G (cd.fact 51 (f := .free "divmod") rfl)
  have z_sum : mg "sum" = none := free_ok X G (cd.fact 52 (f := .free "sum") rfl)
  have z_max : mg "max" = none := free_ok X G (cd.fact 53 (f := .free "max") rfl)
  have z_min : mg "min" = none := free_ok X G (cd.fact 54 (f := .free "min") rfl)
  have z_range : mg "range" = none := free_ok X G (cd.fact 55 (f := .free "range") rfl)
  have z_repr : mg "repr" = none := free_ok X G (cd.fact 56 (f := .free "repr") rfl)
  have cl : Cls K (ga K "Plain") := cls_ok (cd.fact 57 (f := .cls "Plain") rfl)
  have na : NoAttr K (ga K "Plain") "_sides" := noat_ok (cd.fact 58 (f := .noat "Plain" "_sides") rfl)
  have mk : Mk K (ga K "Plain") (ma K (ga K "Plain") "__init__") := mkr_ok (cd.fact 59 (f := .mkr "Plain") rfl)
  have m_sides := meth_ok (cd.fact 60 (f := .meth "Plain" "sides") rfl)
  have m_sizes := meth_ok (cd.fact 61 (f := .meth "Plain" "sizes") rfl)
  have ins := insB_ok cl (bool_ok cc 0 (b := insB K (ga K "Plain")) rfl)
  have none_ := neB_ok (bool_ok cc 1 (b := neB K (ga K "Plain")) rfl)
  have e := hfa.symm.trans g_law
  cases e
  refine ⟨d_law, fun s u => bindsA (ps := ["_law_script"]) F_law (fun _ _ _ _ _ _ us hl => match us, hl with | [_], _ => rfl) s [u] rfl, fun base _ _ TBs => ?_⟩
  have B : Bl mg := ⟨z_isinstance, z_int, z_bool, z_str, z_len, z_all, z_any, z_list, z_tuple, z_dict, z_set, z_sorted, z_zip, z_reversed, z_divmod⟩
  have B4 : E3.Bt4 mg := ⟨z_sum, z_max, z_range, z_len⟩
  have V : Cv K mg (ga K "Plain") := ⟨ins, g_Plain⟩
  have T : Px P w K mg base (ga K "Plain") := ⟨cl, na⟩
  have Il : Cal P w K mg base 1 "is_letter" spIsLet [] := cal_of F_is_letter.kp g_is_letter b_is_letter (ok_isLet F_is_letter B)
  have Ip : Cal P w K mg base 2 "is_product" spProdOk [] := cal_of F_is_product.kp g_is_product b_is_product (ok_prodOk F_is_product B Il)
  have Is : Cal P w K mg base 3 "is_side" spSideOk [] := cal_of F_is_side.kp g_is_side b_is_side (ok_sideOk F_is_side B Il Ip)
  have Nm : Cal P w K mg base 1 "names_of" (spNames K) [] := cal_of F_names_of.kp g_names_of b_names_of (ok_names F_names_of)
  have Ss : Cal P w K mg base 4 "is_sides" spSidesOk [] := cal_of F_is_sides.kp g_is_sides b_is_sides (ok_sidesOk F_is_sides B Is Nm)
  have fIn := ok_init (P := P) (w := w) (base := base) F_Plain___init__ B T Ss
  have M1 : Mak P w K mg base 5 "Plain" (ga K "Plain") (spInit (ga K "Plain")) [] := ⟨_, d_Plain___init__, _, [], mk, fIn, g_Plain, b_Plain___init__, .nil⟩
  have Sd_ : Met P w K mg base 1 (ga K "Plain") "sides" (spSides (ga K "Plain")) [] := ⟨_, d_Plain_sides, _, [], cl, m_sides, ok_sides F_Plain_sides B T, b_Plain_sides, .nil⟩
  have SdN : Met P w K mg base 1 (ga K "Plain") "sides" (spSidesN (ga K "Plain")) [] := ⟨_, d_Plain_sides, _, [], cl, m_sides, ok_sidesN F_Plain_sides B T, b_Plain_sides, .nil⟩
  have Sz : Met P w K mg base 1 (ga K "Plain") "sizes" (spSizes (ga K "Plain")) [] := ⟨_, d_Plain_sizes, _, [], cl, m_sizes, ok_sizes F_Plain_sizes B T, b_Plain_sizes, .nil⟩
  have O : EqP P w K mg base 1 (ga K "Plain") := ⟨_, d_Plain___eq__, _, none_, ok_eq F_Plain___eq__ B V T, b_Plain___eq__⟩
  have Ct : Cal P w K mg base 1 "check_table" (spCheckT (ga K "Plain")) [] := cal_of F_check_table.kp g_check_table b_check_table (ok_checkT F_check_table B V)
  have Pr : Cal P w K mg base 1 "product_at" (spProd K) [] := cal_of F_product_at.kp g_product_at b_product_at (ok_prod F_product_at)
  have Cwk : Cal P w K mg base 2 "check_walk" (spWalk (ga K "Plain")) [] := cal_of F_check_walk.kp g_check_walk b_check_walk (ok_walk F_check_walk B Il Sd_ Nm)
  have IoN : Cal P w K mg base 2 "inside_out" (spInsideN (ga K "Plain")) [] := cal_of F_inside_out.kp g_inside_out b_inside_out (ok_insideN F_inside_out B SdN)
  have Pm : Cal P w K mg base 1 "primes" (spPrimes K) [] := cal_of F_primes.kp g_primes b_primes (ok_primes F_primes B)
  have Fu : Cal P w K mg base 2 "first_unlike" (spUnlike K) [] := cal_of F_first_unlike.kp g_first_unlike b_first_unlike (ok_unlike F_first_unlike B z_min Pr)
  have Jo : Cal P w K mg base 3 "joined" (spJoined K (ga K "Plain")) [] := cal_of F_joined.kp g_joined b_joined (ok_joined F_joined B Ct Cwk IoN)
  have Sa : Cal P w K mg base 4 "same_run" (spSame (ga K "Plain")) [] := cal_of F_same_run.kp g_same_run b_same_run (ok_same F_same_run B Jo Pm Fu Sz)
  have Pu : Cal P w K mg base 1 "_law_purse" (E3.spPurse K) [] := cal_of F__law_purse.kp g__law_purse b__law_purse (E3.ok_purse F__law_purse B4)
  have Mi : Cal P w K mg base 1 "_law_mixed" E3.spMixed [] := cal_of F__law_mixed.kp g__law_mixed b__law_mixed (E3.ok_mixed F__law_mixed)
  have D : Cal P w K mg base 2 "_law_draw" E3.spDraw [] := cal_of F__law_draw.kp g__law_draw b__law_draw (E3.ok_draw F__law_draw B4 Mi)
  have Oo : Cal P w K mg base 3 "_law_one_of" (spOneOf K) [] := cal_of F__law_one_of.kp g__law_one_of b__law_one_of (ok_oneOf F__law_one_of B D)
  have Sh : Cal P w K mg base 3 "_law_shuffled" (spShuf K) [] := cal_of F__law_shuffled.kp g__law_shuffled b__law_shuffled (ok_shuf F__law_shuffled B D)
  have ShV : Cal P w K mg base 3 "_law_shuffled" spShufV [] := cal_of F__law_shuffled.kp g__law_shuffled b__law_shuffled (ok_shufV F__law_shuffled B D)
  have Le : Cal P w K mg base 4 "_law_letters" spLetters [] := cal_of F__law_letters.kp g__law_letters b__law_letters (ok_letters F__law_letters B4 D Oo)
  have Na : Cal P w K mg base 4 "_law_names" spNamesL [] := cal_of F__law_names.kp g__law_names b__law_names (ok_namesL F__law_names Sh)
  have Ch : Cal P w K mg base 5 "_law_chain" spChain [] := cal_of F__law_chain.kp g__law_chain b__law_chain (ok_chain F__law_chain B D Sh Le Na)
  have Us : Cal P w K mg base 1 "_law_used" (spUsed K) [] := cal_of F__law_used.kp g__law_used b__law_used (ok_used F__law_used B)
  have SzL : Cal P w K mg base 4 "_law_sizes" (spSizesL K) [] := cal_of F__law_sizes.kp g__law_sizes b__law_sizes (ok_sizesL F__law_sizes D Sh Us)
  have Tm : Cal P w K mg base 1 "_law_times" (spTimes K) [] := cal_of F__law_times.kp g__law_times b__law_times (ok_times F__law_times)
  have Mc : Cal P w K mg base 2 "_law_many_cells" (spMany K) [] := cal_of F__law_many_cells.kp g__law_many_cells b__law_many_cells (ok_many F__law_many_cells Tm)
  have Lj : Cal P w K mg base 2 "_law_joined" (spLJ K) [] := cal_of F__law_joined.kp g__law_joined b__law_joined (ok_lj F__law_joined B)
  have Ru : Cal P w K mg base 2 "_law_run" (spRun K) [] := cal_of F__law_run.kp g__law_run b__law_run (ok_run F__law_run B4 Tm)
  have Pa : Cal P w K mg base 2 "_law_pairs" (spPairs K) [] := cal_of F__law_pairs.kp g__law_pairs b__law_pairs (ok_pairs F__law_pairs B)
  have At : Cal P w K mg base 2 "_law_at" (spAtL K) [] := cal_of F__law_at.kp g__law_at b__law_at (ok_atL F__law_at Tm)
  have Ot : Cal P w K mg base 4 "_law_other" (spOther K) [] := cal_of F__law_other.kp g__law_other b__law_other (ok_other F__law_other B z_min D Sh ShV)
  have To : Cal P w K mg base 3 "_law_told_right" (spTold K) [] := cal_of F__law_told_right.kp g__law_told_right b__law_told_right (ok_told F__law_told_right B Us Pa At)
  have Li : Cal P w K mg base 5 "_law_like" (spLike K) [] := cal_of F__law_like.kp g__law_like b__law_like (ok_like F__law_like SzL Mc Pa Ru)
  have Ri : CalG P w K mg base 7 "_law_right" (spRight K (ga K "Plain")) := ⟨_, _, _, ok_right F__law_right B z_repr M1 O Sa Lj Li To, g__law_right, F__law_right.kp, b__law_right⟩
  have On : Cal P w K mg base 7 "_law_one_table_right" (spOneT K (ga K "Plain")) [] := cal_of F__law_one_table_right.kp g__law_one_table_right b__law_one_table_right (ok_oneT F__law_one_table_right B M1 O Sh Jo Sa Lj To)
  have Fx : CalG P w K mg base 8 "_law_fixed_right" spFixR := ⟨_, _, _, ok_fixR F__law_fixed_right B M1 Jo Ri, g__law_fixed_right, F__law_fixed_right.kp, b__law_fixed_right⟩
  exact ok_law F_law B4 B z_repr Fx Pu D Ch Le Sh M1 Jo Lj On SzL Mc Pa Ru Ot Ri
end E4

set_option Elab.async false
set_option linter.all false
set_option maxRecDepth 100000
set_option maxHeartbeats 0
/-! the head: the top's run, and the law -/
namespace E4
open PySem PySem.Spec PyProof.Rows L2 He
abbrev R : PySem.W.OpenRow := PySem.W.OpenLaw.row PySem.Challenge.rw_cellplaces_k66_whole_joined_walks
abbrev hk : PySem.W.Hook := He.hookX 4 faR fnR tsR [] exR
def ob (s : PySem.W.SharedT) : He.AlX := He.obsX 4 faR fnR tsR [] exR (HandSHeadRun.getT s)
theorem ob_eq (s : PySem.W.SharedT) : ob s = hk.obs s.abs := He.obsX_eq (HandSHeadRun.getT_eq s)
def loose0 : List PySem.Str := ["_wall", "CellError", "InvalidSides", "InvalidTable", "InvalidWalk", "is_letter", "product_at", "Plain", "check_table", "is_sides", "is_side", "is_product"]
def loose1 : List PySem.Str := ["names_of", "joined", "same_run", "check_walk", "inside_out", "primes", "first_unlike", "_law_purse", "_law_mixed", "_law_draw", "_law_one_of", "_law_shuffled"]
def loose2 : List PySem.Str := ["_law_letters", "_law_names", "_law_chain", "_law_times", "_law_used", "_law_sizes", "_law_many_cells", "_law_joined", "_law_run", "_law_pairs", "_law_at", "_law_other"]
def loose3 : List PySem.Str := ["_law_told_right", "_law_like", "_law_right", "_law_one_table_right", "_law_fixed_right"]
def looseAll : List PySem.Str := loose0 ++ loose1 ++ loose2 ++ loose3
theorem run (w : World) : HandSHeadRun.RunEqI R (PySem.W.view R.prog [47]) hk ob 20000 looseAll w := by
  unfold HandSHeadRun.RunEqI; kernel_rfl
end E4
open PySem PySem.W PySem.Calls PyProof.Rows
set_option maxRecDepth 100000 in
set_option maxHeartbeats 0 in
theorem PySem.Challenge.cw_cellplaces_k66_whole_joined_walks_holds : PySem.Challenge.rw_cellplaces_k66_whole_joined_walks.Holds := by
  w_on; o_law
  refine HandSHeadRun.head_imp (r := OpenLaw.row PySem.Challenge.rw_cellplaces_k66_whole_joined_walks) (q := view (OpenLaw.row PySem.Challenge.rw_cellplaces_k66_whole_joined_walks).prog [47]) (H := E4.hk) (ob := E4.ob) (M := 20000) (loose := E4.looseAll) (d := HandSHeadRun.topDef (OpenLaw.row PySem.Challenge.rw_cellplaces_k66_whole_joined_walks).prog 47) (kwd := []) E4.ob_eq
    E4.run (by kernel_rfl) (by kernel_rfl) (by kernel_rfl) (by rfl) (by first | assumption | decide +kernel) (by decide +kernel) ⟨rfl, rfl, rfl, rfl, rfl, by decide +kernel⟩ ?hw ?hc
  case hw => w_witness2
  case hc =>
    refine L2.walk_ofTsG (l := PySem.Challenge.rw_cellplaces_k66_whole_joined_walks) (n := 63) (k := 9) (x := "_law_script") rfl (by decide) (by kernel_rfl) ⟨rfl, by decide, by decide⟩ ?F
    intro w mg fa h Y G hmg0
    obtain ⟨K, KX, c⟩ := Y
    have hmg : mg ("law" : PySem.Str) = some (.ref fa) := by
      have e : (HandSHeadRun.topDef (OpenLaw.row PySem.Challenge.rw_cellplaces_k66_whole_joined_walks).prog 47).name = ("law" : PySem.Str) := by kernel_rfl
      rw [← e]
      exact hmg0
    obtain ⟨fd, hb, hF⟩ := E4.facts (P := (PySem.Challenge.rw_cellplaces_k66_whole_joined_walks).prog) (w := w) KX G hmg c
    have one : ∀ p ∈ ([] : List (Addr × Addr)), ∃ d ∈ ([] : List He.Defn), p = He.cT K d := fun p hp => absurd hp List.not_mem_nil
    refine ⟨K, fd, [], E4.spLaw [] K, KX, fun p hp => ?_, fun p hp => ?_, fun p hp => ?_, hb, fun H a ns hl hT hS => ⟨a, ns, rfl, hS, hl, fun p hp => ?_, fun _ => rfl⟩, hF⟩
    · obtain ⟨d, hd, rfl⟩ := one p hp; exact c.empty _ hd
    · obtain ⟨d, hd, rfl⟩ := one p hp; exact c.out _ hd
    · obtain ⟨d, hd, rfl⟩ := one p hp; exact PySem.W.codeHd_of_K KX (c.hd _ hd)
    · exact absurd hp List.not_mem_nil
