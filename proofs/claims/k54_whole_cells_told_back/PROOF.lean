import PyProof.Rows.All
import Wide.All
import OpenK.AllK
import Wide.FinOn
import HandS.ForExc
import HandS.ExcInit
import HandS.ExcIs
import HandS.ExcField
import HandS.Defaults
import HandS.IsInst
import HandS.ExcValue
import HandS.ForMost
import HandS.List
import HandS.Conv
import PyProof.TupleOfSeq
import PyProof.Rows.SortShellAny
import HandS.SetBool
import HandS.Walk
import KE.KOpsOwn
import HandS.Wide
import HandS.WideBits
import HandS.Codes
import HandS.Comp
import HandS.SetFor
import HandS.DictComp
import HandS.More
import HandS.Iter
import KE.KDictWalk
import KE.KDictDisplayH
import HandS.Gcd
import HandS.WordsDict
import HandS.Lambda
import KE.SortKeyHeap
import KE.KLam
import HandS.New
import HandS.Text
import HandS.Strs
import KE.DataFind
import HandS.Sort
import KE.KDictList
import PyProof.CompUse
import HandS.MakeKw
import PyProof.InstNe
import HandS.Flow
import PyProof.NeKinds
import PyProof.MeetsIn
import KE.KEqDict
import HandS.SortInts
import HandS.Dict
import HandS.Exc
import PyProof.ReprRoads
import PyProof.FString2
import PyProof.StrLawsRepr
import PyProof.FitsInt
import HandS.Style
import HandS.Finally
import HandS.Ends
import HandS.Words
import HandS.Head0
import HandS.Head1
import HandS.Head2
import HandS.HeadEnd
import HandS.HeadHook1
import HandS.EndTab
import HandS.HeadWalk
import HandS.HeadHook4
import KE.KStateDown
import HandS.Head3
import PySem.Challenge.RW_cellplaces_k54_whole_cells_told_back
set_option Elab.async false
set_option linter.all false
set_option maxRecDepth 100000
set_option maxHeartbeats 4000000
/-! An own exception class called with one keyword: the maker takes it and lets it be, the own __init__ gets it. -/
namespace KwE
open PySem PySem.W PySem.Calls PyProof.Rows PySem.HandSPX
section
variable {prog : Program} {w : World} {A : Around} {E : Value → Shared → Prop} {R : Result → Shared → Prop} {hp : Heap} {gs : Array GenState} {dr : Drawn} {tk : Nat} {os : OsState}
variable {nm q : Str} {C N fI : Addr} {bs bm bmB : List Value} {hd : Bool} {sn : List Str} {sub : List Value} {ab : Bool} {col : Option Bool} {dd : Option Addr} {k0 k1 k2 k3 k5 : Option Value} {B new_ init_ : String} {us : List Value} {kn : Str} {kv : Value}
/-- what the class's line says of the base's names -/
structure Line (B : String) (C : Addr) (bm : List Value) : Prop where
  b : (Value.ref C :: bm).contains (.type B) = true
  a : (Value.ref C :: bm).contains (.type "AttributeError") = false
  n : (Value.ref C :: bm).contains (.type "NameError") = false
theorem Line.of (F : ExcBaseFacts B new_ init_ bmB) (same : ∀ X : String, bm.contains (.type X) = bmB.contains (.type X)) : Line B C bm := by
  constructor <;> rw [List.contains_cons, same]
  · rw [F.hasB, Bool.or_true]
  · rw [F.noAttr]; rfl
  · rw [F.noName]; rfl
end
end KwE

set_option Elab.async false
set_option linter.all false
set_option maxRecDepth 100000
set_option maxHeartbeats 4000000
namespace PySem.W
open PySem PySem.Spec PySem.Calls PyProof.Rows
section
variable {prog : Program} {w : World} {A : Around} {E : Value → Shared → Prop} {s : Shared} {K : Frag} {x D : Addr} {ox : Obj} {od : Option Obj}
end
end PySem.W
namespace L2
open PySem PySem.Spec PyProof.Rows
/-- an exception object of the own class at C: with its attributes, or bare -/
inductive ExT (H : Hp) (e C : Addr) : List (Str × V) → Prop where
  | own {d : Addr} {fs : List (Str × V)} (h1 : H e = some (exo e C (some d))) (h2 : H d = some (exd d fs)) : ExT H e C fs
  | bare (h : H e = some (ExO (.ref C) e)) : ExT H e C []
theorem ExT.same {H H' : Hp} {e C : Addr} {fs : List (Str × V)} (S : Same H H') : ExT H e C fs → ExT H' e C fs
  | .own h1 h2 => .own (S _ _ h1) (S _ _ h2)
  | .bare h => .bare (S _ _ h)
section
variable {X : Cx} {pins : List (Addr × Obj)} {σ : St} {H : Hp} {s : Shared} {e C : Addr} {fs : List (Str × V)}
end
/-- __init__(self, f): self.f = f -/
def spExI (K : PySem.W.Frag) (f : Str) : Sp := fun vs H Q _ => ∃ (a C : Addr) (y : V), vs = [.ref a, y] ∧ OexC K C ∧ PySem.W.findIn K (.ref C) f = some none ∧ H a = some (exo a C none) ∧
  ∀ dx, H dx = none → dx ≠ a → Q .non (upd (upd H dx (exd dx [(f, y)])) a (exo a C (some dx)))
end L2

set_option Elab.async false
set_option linter.all false
set_option maxRecDepth 100000
set_option maxHeartbeats 4000000
namespace L2
open PySem PySem.Spec PyProof.Rows
/-- an own exception class at C, called x, whose __init__ sets the one attribute f (None where it is not given) -/
structure ExM (P : Program) (w : World) (K : PySem.W.Frag) (mg : Str → Option Value) (base : Heap) (x : Str) (C : Addr) (f : Str) : Prop where
  mgC : mg x = some (.ref C)
  oex : OexC K C
  xc : ExcC K C
  noF : PySem.W.findIn K (.ref C) f = some none
  hmk : ∃ (fI : Addr) (fd : FuncData) (ps : List Str), PySem.W.findIn K (.ref C) "__init__" = some (some (.ref fI)) ∧ PySem.W.typeIn K (.ref fI) = some (.type "function") ∧ FnOk P w K mg base CX0 1 fI fd ps (spExI K f) ∧
    (∀ (self u : Value) (s' : Shared), K.In s'.heap → BindsTo s' fd ⟨[self, u], []⟩ (ps.zip [self, u])) ∧ (∀ (self u : Value) (s' : Shared), K.In s'.heap → BindsTo s' fd ⟨[self], [(f, u)]⟩ (ps.zip [self, u])) ∧
    (∀ (self : Value) (s' : Shared), K.In s'.heap → BindsTo s' fd ⟨[self], []⟩ (ps.zip [self, .none]))
/-- an own exception class at C, called x, without an __init__ of its own -/
structure ExB (K : PySem.W.Frag) (mg : Str → Option Value) (x : Str) (C : Addr) : Prop where
  mgC : mg x = some (.ref C)
  xc : ExcC K C
  kC : PySem.W.keepIn K (.ref C) = true
  is : ∃ bmB, ExcBaseFacts "ValueError" "ValueError.__new__" "ValueError.__init__" bmB ∧ PySem.W.excIn K C bmB "ValueError.__new__" = true
section
variable {X : Cx} {x f : Str} {C : Addr} {e : Expr} {te : TE} {p pos kpos : Pos}
end

end L2

set_option Elab.async false
set_option linter.all false
set_option maxRecDepth 100000
set_option maxHeartbeats 400000
namespace L2
open PySem PySem.Spec PyProof.Rows
section
variable {P : Program} {w : World} {K : PySem.W.Frag} {mg : Str → Option Value} {base : Heap} {x qual : Str} {C fI : Addr} {fd : FuncData} {p1 p2 p3 q1 q2 q3 q4 : Pos}
end
end L2

set_option Elab.async false
set_option linter.all false
set_option maxRecDepth 100000
set_option maxHeartbeats 1000000
namespace L2
open PySem PySem.Spec PyProof.Rows
/-- a def's promise where no repr is under way around it -/
structure FnG (P : Program) (w : World) (K : PySem.W.Frag) (mg : Str → Option Value) (base : Heap) (k : Nat) (f : Addr) (fd : FuncData) (ps : List Str) (sp : Sp) : Prop where
  len : ∀ vs H Q E, sp vs H Q E → vs.length = ps.length
  go : ∀ (A : Around) (outer : List Env) (s : Shared) (H : Hp) (args : Args) (us : List Value) (vs : List V) (Q : VK) (E : XK), A.guards = some [] → Room k A → Env0 P w K mg base A outer s H → BindsTo s fd args (ps.zip us) → Vals vs us →
    sp vs H Q E → codeAny (model P w) A (.call (.ref f) args) (CR CX0 outer P w H s Q E) s
section
variable {P : Program} {w : World} {K : PySem.W.Frag} {mg : Str → Option Value} {base : Heap}
theorem Fun.okG {x qual : Str} {st : Stmt} {f : Addr} {fd : FuncData} {N ps : List Str} {k : Nat} {sp : Sp} (F : Fun K x qual st f fd) (S : FnScope N ps (defScope st)) (len : ∀ vs H Q E, sp vs H Q E → vs.length = ps.length)
    (body : ∀ (cdv : Value) (A : Around) (outer : List Env) (s : Shared) (H : Hp) (vs : List V) (Q : VK) (E : XK), A.guards = some [] → Room k (A.deeper (envOfC qual (defScope st) s.heap.objs.size f cdv)) → sp vs H Q E →
      ∃ t, PSs (cxOf CX0 P w K mg base N qual (defScope st) f cdv A outer s H E).nox (defBody st) t ∧ t { nx := fun _ H' => Q .non H', rt := Q } (start N vs) H) : FnG P w K mg base (k + 1) f fd ps sp := by
  obtain ⟨oc, od, kV, doc, pm, an, cdv, ct, osl, rfl, lk, hcd⟩ := F.ex
  refine ⟨len, fun A outer s H args us vs Q E gA hr e0 hb r hsp => ?_⟩
  have kept : ∀ b o, base.get? b = some o → s.heap.get? b = some o := fun b o e => (e0.bs b o e).1
  have kinds : ∀ y ∈ ps.zip us, (defScope st).names.lookup y.1 = some .local ∨ ((defScope st).names.lookup y.1 = some .cell ∧ ((cellsFrom (s.heap.objs.size + 1) (defScope st).names []).lookup y.1).isSome = true) := by
    rintro ⟨n, v⟩ hy
    exact (S.par n (List.of_mem_zip hy).1).imp id fun q => ⟨q, PySem.W.cellsFrom_some _ _ _ (.inl q)⟩
  obtain ⟨t, ht, hq⟩ := body cdv A outer s H vs Q E gA (hr.deeper _) hsp
  refine codeAny_call_function hr.depth (e0.mod.kin.keeps kept _ _ lk) rfl S.co S.gen rfl (PySem.W.codeRec_of (e0.mod.kin.keeps kept) hcd) (hb _ _ _ _ (wpAny_newFunctionEnv_cells S.kind kinds ?_))
  intro env he s1 x
  subst he
  refine ⟨(e0.mod.nolimit.keeps kept).keeps x.toInCall.keep, codeAny_func (wpAny_mono (ht.nox.run [] s1 (start N vs) H _ (inv_start S hr.hd e0 (len _ _ _ _ hsp) r x) hq) (fun fl s' hs => ?_) fun _ _ z => z)⟩
  have done : ∀ {σ' : St} {H' : Hp} {v : V} {u : Value}, Inv (cxOf CX0 P w K mg base N qual (defScope st) f cdv A outer s H E) [] σ' H' s' → RelV v u → Q v H' → CE outer P w H s Q u s' :=
    fun {σ' H' v u} J rv q => ⟨v, H', J.os, J.bare, J.base, J.hok, rv, q⟩
  match fl, hs with
  | .ret _, ⟨_, _, _, J, rv, q⟩ => exact done J rv q
  | .next, ⟨_, _, J, q⟩ => exact done (v := V.non) (u := Value.none) J rfl q
  | .brk, ⟨_, _, _, q⟩ => exact q.elim
  | .cont, ⟨_, _, _, q⟩ => exact q.elim
end
end L2

set_option Elab.async false
set_option linter.all false
set_option maxRecDepth 100000
set_option maxHeartbeats 1000000
namespace L2
open PySem PySem.Spec PyProof.Rows
theorem Same.upd {H : Hp} {p : Addr} {o : HO} (h : H p = none) : Same H (L2.upd H p o) := fun b u q => by
  rw [upd_ne (ne_of_none q h)]
  exact q
section
variable {X : Cx} {x y : Str} {C : Addr} {p q r pos : Pos} {i : Nat}
end
end L2

set_option Elab.async false
set_option linter.all false
set_option maxRecDepth 100000
set_option maxHeartbeats 1000000
namespace L2
open PySem PySem.Spec PyProof.Rows
/-- v shows as the data d: data without dicts, or a flat dict -/
inductive Shw (K : PySem.W.Frag) (H : Hp) : V → PyData → Prop where
  | dp {v : V} {d : PyData} (h : Dp K H v d) (n : d.hasDict = false) : Shw K H v d
  | d0 {q : Addr} (h : H q = some (.dK [])) : Shw K H (.ref q) (.dict [])
  | d1 {q : Addr} {x : Str} {i : Int} (h : H q = some (.dK [(.inr x, .int i)])) : Shw K H (.ref q) (.dict [(.str x, .int i)])
section
variable {X : Cx} {pins : List (Addr × Obj)} {σ : St} {H : Hp} {s : Shared}
theorem Shw.reads (I : Inv X pins σ H s) {v : V} {d : PyData} {u : Value} (h : Shw X.K H v d) (r : RelV v u) : ∃ as, Reads s.heap u d as ∧ (d.hasDict = true → sysModules ∉ as) := by
  cases h with
  | dp h n =>
    obtain ⟨as, q⟩ := Dp.reads I d v u h r
    exact ⟨as, q, fun z => by rw [n] at z; cases z⟩
  | @d0 q h =>
    obtain rfl : u = Value.ref q := r
    obtain ⟨_, ne, vs, kv, o, es, ep, ho, ex, hd, _, ps, _⟩ := dk_of I.hok h
    cases kv
    have e0 : es.toList = [] := by
      cases hl : es.toList with
      | nil => rfl
      | cons a l => rw [hl] at ps; cases ps
    refine ⟨_, Reads.dict (kvs := []) ho ex.1 hd (by rw [e0]; exact .nil) (by rw [e0]; exact .nil), fun _ hm => ?_⟩
    have hm' : sysModules ∈ [q] := by simpa using hm
    have e : sysModules = q := by simpa using hm'
    rw [← e] at ne
    exact absurd ne (by decide)
  | @d1 q x i h =>
    obtain rfl : u = Value.ref q := r
    obtain ⟨_, ne, vs, kv, o, es, ep, ho, ex, hd, _, ps, _⟩ := dk_of I.hok h
    cases kv with
    | @cons _ kw _ vs' hk kt =>
      cases kt
      obtain ⟨k, w'⟩ := kw
      obtain ⟨ek, ri⟩ := hk
      dsimp only at ek ri
      subst ek
      obtain ⟨t', rfl⟩ := (show ∃ t, w' = Value.int i t from ri)
      generalize hl : es.toList = l at ps
      cases ps with
      | @cons a _ l' _ k1 k2 pl =>
        cases pl
        rcases keyIs_shape (show keyIs (.inr x) a.key = true from k1) with ⟨_, _, z, _⟩ | ⟨y, ty, z, e2⟩
        · cases z
        · cases z
          refine ⟨_, Reads.dict (kvs := [(.str x, .int i)]) ho ex.1 hd (by rw [hl]; exact .cons (by show Reads s.heap a.key (.str x) _; rw [e2]; exact .str x ty) .nil) (by rw [hl]; exact .cons (by show Reads s.heap a.val (.int i) _; rw [k2]; exact .int i t') .nil), fun _ hm => ?_⟩
          have e : sysModules = q := by simpa using hm
          rw [← e] at ne
          exact absurd ne (by decide)
theorem Shw.readsAll (I : Inv X pins σ H s) {v : V} {d : PyData} (h : Shw X.K H v d) : ∀ (n : Nat) {us : List Value}, Vals (List.replicate n v) us → ∃ as, ReadsAll s.heap us (List.replicate n d) as ∧ (d.hasDict = true → sysModules ∉ as)
  | 0, _, .nil => ⟨_, .nil, fun _ hm => by cases hm⟩
  | n + 1, _, .cons r rs => by
    obtain ⟨as, q1, n1⟩ := Shw.reads I h r
    obtain ⟨bs, q2, n2⟩ := Shw.readsAll I h n rs
    exact ⟨_, .cons q1 q2, fun z hm => (List.mem_append.mp hm).elim (n1 z) (n2 z)⟩
end
end L2

set_option Elab.async false
set_option linter.all false
set_option maxRecDepth 100000
set_option maxHeartbeats 1000000
namespace L2
open PySem PySem.Spec PyProof.Rows
/-- a new object at p, all else as it was: what is wanted of it -/
def NewQ (H : Hp) (o : HO) (Q : VK) : Prop := ∀ p H', Same H H' → H p = none → H' p = some o → Q (.ref p) H'
theorem NewQ.at {H : Hp} {o : HO} {Q : VK} (h : NewQ H o Q) {p : Addr} (n : H p = none) : Q (.ref p) (L2.upd H p o) := h p _ (Same.upd n) n upd_same
def tLstS (t : TA) : TE := fun σ H Q => t σ H fun xs H1 => xs.length ≤ sizeLine ∧ NewQ H1 (.lst xs) Q
def tTupS (t : TA) : TE := fun σ H Q => t σ H fun xs H1 => xs.length ≤ sizeLine ∧ NewQ H1 (.tup xs) Q
def rCatS : R2 := fun x y H Q => ∃ l b xs zs, x = .ref l ∧ y = .ref b ∧ H l = some (.lst xs) ∧ H b = some (.lst zs) ∧ xs.length + zs.length ≤ sizeLine ∧ NewQ H (.lst (xs ++ zs)) Q
def rSlW (K : PySem.W.Frag) : V → Option Int → Option Int → Hp → VK → Prop := fun x lo hi H Q => ∃ a xs, x = .ref a ∧ SqL K H a xs ∧ NewQ H (.lst (cutV xs lo hi)) Q
section
variable {X : Cx} {es : List Expr} {t : TA} {pos : Pos}
theorem pe_lstS (h : PA X es t) : PE X (.List es pos) (tLstS t) :=
  ⟨fun pins s σ H Q I hq => wpAny_List_spliced (thn (h.run pos pins s σ H _ I hq) fun us s1 ⟨xs, H1, I1, r, z, q⟩ => ⟨by rw [← r.length]; exact z,
    .ref s1.heap.objs.size, _, I1.laid (t' := s1.toks) (o := .lst xs) (fun _ _ e => Heap.get?_push_of_some _ e) (Nat.le_refl _) ⟨z, us, 0, r, Heap.get?_push_size _ rfl⟩, rfl, q.at I1.fresh⟩)⟩
theorem pe_tupS {x1} (h : PA X es t) : PE X (.Tuple es x1 pos) (tTupS t) :=
  ⟨fun pins s σ H Q I hq => wpAny_Tuple_spliced (thn (h.run pos pins s σ H _ I hq) fun us s1 ⟨xs, H1, I1, r, z, q⟩ => ⟨by rw [← r.length]; exact z,
    .ref s1.heap.objs.size, _, I1.laid (t' := s1.toks) (o := .tup xs) (fun _ _ e => Heap.get?_push_of_some _ e) (Nat.le_refl _) ⟨z, us, r, ⟨_, Heap.get?_push_size _ rfl, rfl, _, rfl⟩⟩, rfl, q.at I1.fresh⟩)⟩
theorem op_catS : OpR X (binaryOp .Add) rCatS := fun pins s σ H x y v u Q I rx ry ⟨l, b, xs, zs, e1, e2, h1, h2, hz, q⟩ => op_cat pins s σ H x y v u Q I rx ry ⟨l, b, xs, zs, e1, e2, h1, h2, hz, fun _ n => q.at n⟩
theorem sl_listS : SlR X (rSlW X.K) := fun pins s σ H x v vl vu lo hi sl Q I rx hs hl hh ⟨a, xs, e, h, q⟩ => sl_list pins s σ H x v vl vu lo hi sl Q I rx hs hl hh ⟨a, xs, e, h, fun _ n => q.at n⟩
/-- {} with text or int keys -/
theorem pe_dnewS : PE X (.Dict [] [] pos) (fun _ H Q => NewQ H (.dK []) Q) := ⟨fun pins s σ H Q I h => pe_dnewK.run pins s σ H Q I fun _ n => NewQ.at h n⟩
end
theorem Same.lst {H H' : Hp} {a : Addr} {o : HO} (S : Same H H') (h : H a = some o) : H' a = some o := S _ _ h
end L2

set_option Elab.async false
set_option linter.all false
set_option maxRecDepth 100000
set_option maxHeartbeats 1000000
/-! sorted(t), t a tuple of texts -/
namespace L2
open PySem PySem.Spec PyProof.Rows
end L2

set_option Elab.async false
set_option linter.all false
set_option maxRecDepth 100000
set_option maxHeartbeats 2000000
/-! A set of texts, by the list of its members. -/
namespace L2
open PySem PySem.Spec PyProof.Rows
/-- an entry is a text under its hash -/
def GoodS (P : Program) (w : World) (e : Int × Value) : Prop := ∃ (x : Str) (t : Tok), e = ((PySem.strKind P w).hash x, .str x t)
def keyS (e : Int × Value) : Str := match e.2 with
  | .str x _ => x
  | _ => Str.empty
def SetS (P : Program) (w : World) (h : Heap) (a : Addr) (ks : List Str) : Prop := ∃ o es ep t, h.get? a = some o ∧ o.ExactSet ∧ o.data = .set es ep t ∧ (∀ e ∈ es.toList, GoodS P w e) ∧ (es.toList.map keyS).Perm ks ∧ ks.Nodup ∧
  es.size < scanBound ∧ t.fits es.size = true ∧ Ris t.place.toList ∧ (w.params.followText "set-order" = true ∨ t.led = true)
section
variable {P : Program} {w : World} {h h' : Heap} {a : Addr} {ks : List Str}
theorem SetS.at (R : SetS P w h a ks) (k : ∀ o, h.get? a = some o → h'.get? a = some o) : SetS P w h' a ks := let ⟨o, es, ep, t, ho, r⟩ := R; ⟨o, es, ep, t, k o ho, r⟩
theorem goodS_is {e : Int × Value} (g : GoodS P w e) (k : Str) : (PySem.strKind P w).is k e.2 = true ↔ keyS e = k := by
  obtain ⟨x, t, rfl⟩ := g
  unfold keyS
  show Value.isStrOf k (.str x t) = true ↔ x = k
  simp [Value.isStrOf]
theorem goodS_elems {l : List (Int × Value)} (g : ∀ e ∈ l, GoodS P w e) : ElemsOf (PySem.strKind P w) l := fun e he => by
  obtain ⟨x, t, rfl⟩ := g e he
  exact ⟨⟨x, strKind_is P w x t, rfl⟩, rfl⟩
theorem goodS_mem {l : List (Int × Value)} (g : ∀ e ∈ l, GoodS P w e) (k : Str) : k ∈ l.map keyS ↔ ∃ e ∈ l, (PySem.strKind P w).is k e.2 = true := by
  rw [List.mem_map]
  exact ⟨fun ⟨e, he, q⟩ => ⟨e, he, (goodS_is (g e he) k).mpr q⟩, fun ⟨e, he, q⟩ => ⟨e, he, (goodS_is (g e he) k).mp q⟩⟩
theorem setS_new (w : World) (P : Program) (h : Heap) : SetS P w (h.push { cls := .type "set", dict := none, data := .set #[] 0 (.fresh 0 0 (!w.params.followText "set-order")) }) h.objs.size [] := by
  refine ⟨_, #[], 0, _, Heap.get?_push_size _ rfl, ⟨rfl, rfl, rfl⟩, rfl, fun e he => absurd he (by simp), .nil, List.nodup_nil, by decide, rfl, List.Pairwise.nil, ?_⟩
  cases c : w.params.followText "set-order" with
  | true => exact .inl rfl
  | false => exact .inr rfl
end
section
variable {P : Program} {w : World} {A : Around} {E : Value → Shared → Prop} {s : Shared} {a : Addr} {ks : List Str}
/-- sorted of it -/
theorem setS_sorted {Q : Value → Shared → Prop} (R : SetS P w s.heap a ks) (hh : A.handled = none)
    (hQ : ∀ s' p (out : Array Value) (c : Nat) (ys : List Str), (∀ b o, s.heap.get? b = some o → s'.heap.get? b = some o) → s'.gens = s.gens → s'.os = s.os → s.heap.objs.size ≤ p → s'.heap.get? p = some (seqObj "list" out c) → StrsAre out.toList ys → ys.Perm ks → sortedS ys = true → Q (.ref p) s') :
    wpAny (model P w) A (call (.builtin "sorted") [.ref a]) Q E s := by
  obtain ⟨o, es, ep, t, ho, hex, hd, g, pm0, nd, hb, hf, hr, hl⟩ := R
  refine Calls.call_function_entry kind_sorted plain_sorted entry_sorted (args_sorted1 _) ?_
  unfold Builtin.«sorted»
  refine wpAny_bind (m := checkCount "sorted" 1 1 _) (wpAny_pure ?_)
  refine wpAny_bind (collect_set (A := A.in1) hh ⟨o, ho, hex.1, hd⟩ hf hb hr hl fun s1 vs k1 hz g1 o1 pm => ?_)
  have vl : vs.length < scanBound := by rw [pm.length_eq, List.length_map, Array.length_toList]; exact hb
  have texts : ∀ l : List Value, (∀ v ∈ l, ∃ x tk, v = Value.str x tk) → StrsAre l (l.map fun v => keyS (0, v)) := by
    intro l
    induction l with
    | nil => intro _; exact .nil
    | cons v l ih =>
      intro h
      obtain ⟨x, tk, rfl⟩ := h v (List.mem_cons.mpr (.inl rfl))
      exact .cons x tk (ih fun u hu => h u (List.mem_cons.mpr (.inr hu)))
  have hS := texts vs fun v hv => by
    obtain ⟨e, he, q⟩ := List.mem_map.mp (pm.mem_iff.mp hv)
    obtain ⟨x, tk, rfl⟩ := g e he
    exact ⟨x, tk, q.symm⟩
  have pk : (vs.map fun v => keyS (0, v)).Perm ks := by
    refine (pm.map fun v => keyS (0, v)).trans ?_
    rw [List.map_map]
    exact pm0
  have zl : vs.length ≤ sizeLine := fits_of_scanBound vl
  refine wpAny_bind (wpAny_newList ?_ zl)
  have hoL : (s1.heap.push (seqObj "list" vs.toArray 0)).get? s1.heap.objs.size = some (seqObj "list" vs.toArray 0) := Heap.get?_push_size _ rfl
  refine wpAny_bind (wpAny_holding (wpAny_call_entry slot_list_sort ⟨_, hoL, rfl⟩ entry_list_sort (list_sort_treeKAny strKind_oneLt hoL hS.keysOf (fun v₁ v₂ rest e => keyKind_strs (by rw [← e]; exact hS)) zl fun st' hp hs => ⟨_, rfl, ?_⟩) (args_list_sort _)))
  obtain ⟨ys, h1, h2, h3⟩ := sorted_out_str hS hp hs
  obtain ⟨c, hc⟩ := sortedHeap_at (vs := vs) (out := (arrOf st').map (·.2)) hoL
  refine wpAny_pure ⟨_, rfl, hQ _ s1.heap.objs.size _ c ys (fun b u e => ?_) g1 o1 hz hc h1 (h2.trans pk) h3⟩
  have q := k1 b u e
  have hlt := Heap.lt_size q
  show (sortedHeap (s1.heap.push (seqObj "list" vs.toArray 0)) s1.heap.objs.size vs _).get? b = some u
  rw [sortedHeap_old (Nat.ne_of_lt hlt) (by rw [size_push']; exact Nat.lt_succ_of_lt hlt)]
  exact Heap.get?_push_of_some _ q
end
end L2

set_option Elab.async false
set_option linter.all false
set_option maxRecDepth 100000
set_option maxHeartbeats 2000000
/-! A set of texts: one more. -/
namespace L2
open PySem PySem.Spec PyProof.Rows
section
variable {P : Program} {w : World} {A : Around} {E : Value → Shared → Prop} {s : Shared} {a : Addr} {ks : List Str}
/-- the entries laid down, and once more where the table is too full -/
theorem setS_tail {g : Bool → Sem Unit} (hg : ∀ (b : Bool) (s₁ : Shared) (Q' : Unit → Shared → Prop), Q' () s₁ → wpAny (model P w) A (g b) Q' E s₁) {o : Obj} {es es1 : Array (Int × Value)} {ep : Nat} {t t2 : SetTable} {ks1 : List Str}
    (ho : s.heap.get? a = some o) (hex : o.ExactSet) (hd : o.data = .set es ep t) (g1 : ∀ e ∈ es1.toList, GoodS P w e) (p1 : (es1.toList.map keyS).Perm ks1) (n1 : ks1.Nodup) (hb : es1.size < scanBound) (hf : t2.fits es1.size = true) (hr : Ris t2.place.toList)
    (hl : w.params.followText "set-order" = true ∨ t2.led = true) {wasDummy : Bool} {R : Option Bool → Shared → Prop} (hR : ∀ h', Heap.SameBut a s.heap h' → SetS P w h' a ks1 → R (some true) { s with heap := h' }) :
    wpAny (model P w) A (do
        storeSet a es1 t2
        if (!wasDummy && t2.tooFull) = true then do
            g (relayAll t2 es1 (SetTable.grown es1.size)).2.2
            storeSet a (relayAll t2 es1 (SetTable.grown es1.size)).1 (relayAll t2 es1 (SetTable.grown es1.size)).2.1
            pure (some true)
          else pure (some true)) R E s := by
  have at_ : ∀ {h : Heap} {o : Obj} {es es' : Array (Int × Value)} {ep : Nat} {t t' : SetTable}, h.get? a = some o → o.data = .set es ep t → (h.update a (Obj.putSet es' t')).get? a = some { o with data := .set es' (ep + 1) t' } := by
    intro h o es es' ep t t' ho hd
    have q := Heap.get?_update_self (Obj.putSet es' t') ho (by rw [putSet_of es' t' hd]; rfl)
    rwa [putSet_of es' t' hd] at q
  refine wpAny_bind (wpAny_storeSet_of ho hd ?_ (fits_of_scanBound hb))
  have h1 := at_ (es' := es1) (t' := t2) ho hd
  have b1 := Heap.SameBut.update s.heap a (Obj.putSet es1 t2)
  split
  · have pm := relayAll_perm t2 es1 (SetTable.grown es1.size)
    have z1 := relayAll_fits t2 es1 (SetTable.grown es1.size)
    have z2 := relayAll_ris t2 es1 (SetTable.grown es1.size)
    have z3 := relayAll_led t2 es1 (SetTable.grown es1.size)
    generalize relayAll t2 es1 (SetTable.grown es1.size) = Z at pm z1 z2 z3 ⊢
    obtain ⟨es2, t3, gave⟩ := Z
    dsimp only at pm z1 z2 z3 ⊢
    have es : es2.size = es1.size := by rw [← Array.length_toList, pm.length_eq, Array.length_toList]
    refine wpAny_bind (hg _ _ _ (wpAny_bind (wpAny_storeSet_of h1 rfl (wpAny_pure (hR _ (b1.trans (Heap.SameBut.update _ a _)) ?_)) (fits_of_scanBound (by rw [es]; exact hb)))))
    exact ⟨_, es2, _, t3, at_ h1 rfl, hex, rfl, fun e he => g1 e (pm.mem_iff.mp he), (pm.map keyS).trans p1, n1, by rw [es]; exact hb, z1, z2, hl.imp id fun z => by rw [z3]; exact z⟩
  · exact wpAny_pure (hR _ b1 ⟨_, es1, _, t2, h1, hex, rfl, g1, p1, n1, hb, hf, hr, hl⟩)
theorem setS_hashed {x : Str} {tk : Tok} {Q : Bool → Shared → Prop} (R : SetS P w s.heap a ks) (room : ks.length + 1 < scanBound)
    (hQ : ∀ b h', Heap.SameBut a s.heap h' → SetS P w h' a (if x ∈ ks then ks else x :: ks) → Q b { s with heap := h' }) : wpAny (model P w) A (setAddHashed a (.str x tk) ((PySem.strKind P w).hash x)) Q E s := by
  obtain ⟨o, es, ep, t, ho, hex, hd, g, pm0, nd, hb, hf, hr, hl⟩ := R
  have hkey : (PySem.strKind P w).is x (.str x tk) = true := strKind_is P w x tk
  have hsc : (Value.str x tk).scannable = true := rfl
  have hel := goodS_elems g
  unfold setAddHashed setAddHashedIn
  refine wpAny_holding (wpAny_bind (wpAny_setState_of ho hd hf ?_))
  dsimp only
  rw [byScan_of hsc hb hel]
  simp only [↓reduceIte]
  unfold setAddByScan
  refine wpAny_bind ?_
  refine wpAny_bind (wpAny_rule ?_)
  refine wpAny_bind (wpAny_setScan_of hkey ho hd hf hel ?_)
  cases hfi : List.findIdx? (fun e => (PySem.strKind P w).is x e.2) es.toList with
  | some j =>
    dsimp only
    obtain ⟨hj, pj, _⟩ := List.findIdx?_eq_some_iff_getElem.mp hfi
    have hin : x ∈ ks := pm0.mem_iff.mp ((goodS_mem g x).mpr ⟨es.toList[j], List.getElem_mem hj, pj⟩)
    refine wpAny_pure (wpAny_pure (hQ _ s.heap (Heap.SameBut.refl a s.heap) ?_))
    rw [if_pos hin]
    exact ⟨o, es, ep, t, ho, hex, hd, g, pm0, nd, hb, hf, hr, hl⟩
  | none =>
    dsimp only
    have hnot : x ∉ ks := fun z => by
      obtain ⟨e, he, q⟩ := (goodS_mem g x).mp (pm0.mem_iff.mpr z)
      have c := List.findIdx?_eq_none_iff.mp hfi e he
      rw [q] at c
      cases c
    rw [if_neg hnot] at hQ
    have gw : ∀ (b : Bool) {s₁ : Shared} {Q' : Unit → Shared → Prop}, Q' () s₁ → wpAny (model P w) A (match b with | true => rule "set.scan.the-table-gave-way" | false => pure ()) Q' E s₁ :=
      fun b s₁ Q' q => by cases b <;> first | exact wpAny_pure q | exact wpAny_rule q
    have pm := layNew_perm t es ((PySem.strKind P w).hash x) (.str x tk)
    have y1 := layNew_fits t es ((PySem.strKind P w).hash x) (.str x tk)
    have y2 := layNew_ris t es ((PySem.strKind P w).hash x) (.str x tk) hr
    have y3 := layNew_led t es ((PySem.strKind P w).hash x) (.str x tk)
    generalize layNew t es ((PySem.strKind P w).hash x) (.str x tk) = Z at pm y1 y2 y3 ⊢
    obtain ⟨es1, t1, wasDummy, gave⟩ := Z
    dsimp only at pm y1 y2 y3 ⊢
    rw [Array.toList_push] at pm
    have pc : es1.toList.Perm (((PySem.strKind P w).hash x, Value.str x tk) :: es.toList) := pm.trans (List.perm_append_singleton _ _)
    have g1 : ∀ e ∈ es1.toList, GoodS P w e := fun e he => by
      rcases List.mem_cons.mp (pc.mem_iff.mp he) with z | z
      · exact ⟨x, tk, z⟩
      · exact g e z
    have p1 : (es1.toList.map keyS).Perm (x :: ks) := (pc.map keyS).trans (List.Perm.cons x pm0)
    have n1 : (x :: ks).Nodup := List.nodup_cons.mpr ⟨hnot, nd⟩
    have size1 : es1.size = ks.length + 1 := by
      have := p1.length_eq
      rw [List.length_map, Array.length_toList, List.length_cons] at this
      exact this
    have b1 : es1.size < scanBound := by rw [size1]; exact room
    have l1 : w.params.followText "set-order" = true ∨ t1.led = true := hl.imp id fun z => by rw [y3]; exact z
    refine wpAny_bind (gw _ ?_)
    split
    · refine wpAny_bind ?_
      rw [hashByValue_scannable 8 hsc]
      refine wpAny_pure ?_
      refine setS_tail ?_ ho hex hd g1 p1 n1 b1 ?_ ?_ ?_ ?_
      · intro b s₁ Q' q; cases b <;> first | exact wpAny_pure q | exact wpAny_rule q
      · first | (split <;> first | exact y1 | exact SetTable.fits_plain_off y1) | exact y1
      · first | (split <;> exact y2) | exact y2
      · first | (split <;> exact l1) | exact l1
      · intro h' sb r; dsimp only; exact wpAny_pure (hQ _ h' sb r)
    · refine wpAny_bind (wpAny_pure ?_)
      simp only [↓reduceIte]
      refine setS_tail ?_ ho hex hd g1 p1 n1 b1 y1 y2 l1 ?_
      · intro b s₁ Q' q; cases b <;> first | exact wpAny_pure q | exact wpAny_rule q
      · intro h' sb r; dsimp only; exact wpAny_pure (hQ _ h' sb r)
theorem SetS.typeIs (R : SetS P w s.heap a ks) : s.TypeIs (.ref a) "set" := let ⟨o, _, _, _, ho, hex, _⟩ := R; ⟨o, ho, hex.1⟩
theorem setS_add {x : Str} {tk : Tok} {Q : Value → Shared → Prop} (R : SetS P w s.heap a ks) (room : ks.length + 1 < scanBound)
    (hQ : ∀ h' t, Heap.SameBut a s.heap h' → SetS P w h' a (if x ∈ ks then ks else x :: ks) → Q .none { s with heap := h', toks := t }) : wpAny (model P w) A (call (.builtin "set.add") [.ref a, .str x tk]) Q E s := by
  refine wpAny_call_entry F.slot_set_add R.typeIs F.entry_set_add ?_ (F.args_set_add_2 _ _)
  unfold Builtin.«set.add» Builtin.Frozenset.oneOther
  simp only [List.isEmpty_nil, bind_assoc]
  unfold Builtin.Frozenset.addrOf setAdd
  refine wpAny_bind (wpAny_pure ?_)
  try dsimp only
  refine wpAny_bind (wpAny_pure ?_)
  try dsimp only
  refine wpAny_bind ?_
  refine wpAny_holding ?_
  refine wpAny_bind ((PySem.strKind P w).pyHash (strKind_is P w x tk) ?_)
  refine setS_hashed (s := { s with toks := s.toks + 1 }) R room fun _ h' sb r => ?_
  show wpAny _ _ (ret Value.none) _ _ _
  exact wpAny_pure ⟨_, rfl, hQ h' _ sb r⟩
end
end L2

set_option Elab.async false
set_option linter.all false
set_option maxRecDepth 100000
set_option maxHeartbeats 2000000
/-! A set of texts made by a comprehension of two clauses without tests. -/
namespace L2
open PySem PySem.Spec PyProof.Rows
/-- the set of texts at a, as a thing that is followed -/
def SetSO (P : Program) (w : World) (a : Addr) (ks : List Str) : HO := .ext fun h => SetS P w h a ks
theorem setSO_new {P P' : Program} {w w' : World} {H : Hp} {h : Heap} {a : Addr} {ks : List Str} (R : SetS P w h a ks) : ObjOk P' w' H h a (SetSO P w a ks) := by
  have ⟨o, _, _, _, ho, _⟩ := R
  exact ⟨R, ⟨o, ho⟩, fun h1 h2 p k => SetS.at p k⟩
/-- one text more -/
def putS (ks : List Str) (x : Str) : List Str := if x ∈ ks then ks else x :: ks
section
variable {X : Cx}
theorem setSO_get {pins : List (Addr × Obj)} {σ : L2.St} {H : Hp} {s : Shared} {P : Program} {w : World} {a : Addr} {ks : List Str} (I : Inv X pins σ H s) (ha : H a = some (SetSO P w a ks)) : SetS P w s.heap a ks := (I.hok a _ ha).1
theorem addS_ok {pins : List (Addr × Obj)} {σ : L2.St} {H : Hp} {s : Shared} {E : Value → Shared → Prop} {D : Addr} {ks : List Str} {x : Str} {tk : Tok} {Q : Value → Shared → Prop} (I : Inv X pins σ H s) (hD : H D = some (SetSO X.prog X.w D ks)) (room : ks.length + 1 < scanBound)
    (h : ∀ s', Inv X pins σ (upd H D (SetSO X.prog X.w D (putS ks x))) s' → Q .none s') : wpAny (model X.prog X.w) X.A (call (.builtin "set.add") [.ref D, .str x tk]) Q E s := by
  refine setS_add (setSO_get I hD) room fun h' t sb new => ?_
  obtain ⟨o, _, _, _, ho, _⟩ := id new
  exact h _ (I.write (e := D) (t' := t) (by rw [hD]; trivial) (.inl rfl) (fun b u hb hu => (sb.2 b hb).trans hu) ⟨o, ho⟩ (setSO_new new))
end
section
variable {prog : Program} {w : World} {A : Around} {R : Result → Shared → Prop} {s : Shared} {elt t0 i0 t1 i1 : Expr} {scope : Scope} {pos : Pos} {it acc : Value} {env : Env}
end
end L2
namespace L2
open PySem PySem.Spec PyProof.Rows
section
variable {prog : Program} {w : World} {A : Around} {R : Result → Shared → Prop} {s : Shared} {elt t0 i0 t1 i1 : Expr} {scope : Scope} {pos : Pos} {it acc : Value} {env : Env}
/-- nothing is raised -/
abbrev NoE : Value → Shared → Prop := fun _ _ => False
end
section
variable {X : Cx}
/-- what a block's part is, wherever the block starts -/
abbrev InBlk (X : Cx) (scope : Scope) (p : Cx → Prop) : Prop := ∀ (s : Shared) (H : Hp) (C : Addr) (cl : List (Str × Addr)) (fp : List Addr), p (X.blk s H scope (compEnvC scope cl C X.env) fp)
end
end L2

set_option Elab.async false
set_option linter.all false
set_option maxRecDepth 100000
set_option maxHeartbeats 2000000
/-! comprehensions of any number of clauses, without tests: a clause at a time -/
namespace L2
open PySem PySem.Spec PyProof.Rows
/-- what a turn does behind the store of its item -/
abbrev PWt := Value → Env → (Shared → Prop) → Shared → Prop
section
variable (prog : Program) (w : World) (A : Around)
def LoopOk (E : Expr) (k : Nat) (t : Expr) (pw : PWt) : Prop := ∀ (R : Result → Shared → Prop) (it acc : Value) (env : Env) (J : Nat → Shared → Prop),
  (∀ n s, J n s → wpAny (model prog w) A (pyNext it) (fun r s1 => match r with
      | none => R (.ok .next) s1
      | some v => wpAny (model prog w) A (letOwnedTupleGo t it v) (fun _ s2 => wpAny (model prog w) A (assign t env v) (fun _ s3 => pw acc env (fun s' => ∃ m, m < n ∧ J m s') s3) NoE s2) NoE s1) NoE s) →
  ∀ n s, J n s → codeAny (model prog w) A (.compLoop E k it acc env) R s
def StartOk (E : Expr) (k : Nat) : Prop := ∀ (R : Result → Shared → Prop) (it acc : Value) (env : Env) (s : Shared), codeAny (model prog w) A (.compLoop E k it acc env) R s →
  wpAny (model prog w) A (pyIter it) (fun it' s' => codeAny (model prog w) A (.compLoop E k it' acc env) R s') (notedBy (model prog w) A env fun x s' => R (.error x) s') s → codeAny (model prog w) A (.compStart E k it acc env) R s
/-- the next clause starts -/
def pwMid (E : Expr) (k : Nat) (i : Expr) : PWt := fun acc env N s => wpAny (model prog w) A (eval i env) (fun x s4 => wpAny (model prog w) A (pyIter x) (fun it1 s5 =>
  codeAny (model prog w) A (.compStart E k it1 acc env) (fun r s' => match r with
    | .ok _ => N s'
    | .error _ => False) s5) NoE s4) NoE s
/-- an item is put in -/
def pwAdd (f : String) (elt : Expr) : PWt := fun acc env N s => wpAny (model prog w) A (eval elt env) (fun x s4 => wpAny (model prog w) A (call (.builtin f) [acc, x]) (fun _ s5 => N s5) NoE s4) NoE s
end
section
variable {prog : Program} {w : World} {A : Around} {elt t0 i0 t1 i1 t2 i2 : Expr} {scope : Scope} {pos : Pos}
abbrev sc3 (elt t0 i0 t1 i1 t2 i2 : Expr) (scope : Scope) (pos : Pos) : Expr := .SetComp elt [⟨t0, i0, [], 0⟩, ⟨t1, i1, [], 0⟩, ⟨t2, i2, [], 0⟩] scope pos
abbrev lc3 (elt t0 i0 t1 i1 t2 i2 : Expr) (scope : Scope) (pos : Pos) : Expr := .ListComp elt [⟨t0, i0, [], 0⟩, ⟨t1, i1, [], 0⟩, ⟨t2, i2, [], 0⟩] scope pos
theorem mid_loop {E : Expr} {k k' : Nat} {t i : Expr} {p1 p2 : Pos} (hT : ∀ it acc env, compTurn E k it acc env = (do
      standAt p1
      match ← pyNext it with
      | none => pure (.done .next)
      | some v =>
        letOwnedTupleGo t it v
        assign t env v
        let src ← eval i env
        standAt p2
        let src ← foldedSetIterable i env src
        let _ ← runOwn (.compStart E k' (← holding [src] (pyIter src)) acc env) env
        again (.compLoop E k it acc env)))
    (hs : ∀ env x, foldedSetIterable i env x = pure x)
    (hu : ∀ it acc env, A.under (.compLoop E k it acc env) = A) (hd : ∀ it acc env, (model prog w).den (.compLoop E k it acc env) = (compTurn E k it acc env).onRaise (fun x => do noteFrame x env; theTreesLotGoes x)) : LoopOk prog w A E k t (pwMid prog w A E k' i) := by
  intro R it acc env J turn n s h
  refine codeAny_loop rfl J (fun n s hJ => ?_) n h
  rw [hu, hd]
  refine wpAny_noted ?_
  rw [hT]
  refine wpAny_bind (wpAny_standAt (wpAny_bind (thnF (turn n s hJ) fun r s1 h1 => ?_)))
  cases r with
  | none => exact wpAny_pure h1
  | some v =>
    refine wpAny_bind (thnF h1 fun _ s2 h2 => wpAny_bind (thnF h2 fun _ s3 h3 => wpAny_bind (thnF h3 fun x s4 h4 => wpAny_bind (wpAny_standAt (wpAny_bind (wpAny_of_eq (hs env x) (wpAny_bind (wpAny_holding (thnF h4 fun it1 s5 h5 => ?_)))))))))
    refine wpAny_bind (wpAny_runOwn ?_)
    rw [Around.mark_none]
    refine codeAny_mono h5 fun r s' hr => ?_
    cases r with
    | ok f => first | exact wpAny_pure ⟨rfl, hr⟩ | exact wpAny_bind (wpAny_pure (wpAny_pure ⟨rfl, hr⟩))
    | error e => exact hr.elim
theorem add_loopS {E : Expr} {k : Nat} {t : Expr} {p1 : Pos} (hT : ∀ it acc env, compTurn E k it acc env = (do
      standAt p1
      match ← pyNext it with
      | none => pure (.done .next)
      | some v =>
        letOwnedTupleGo t it v
        assign t env v
        (do let u ← eval elt env; standAt elt.pos; let _ ← call (.builtin "set.add") [acc, u])
        again (.compLoop E k it acc env)))
    (hu : ∀ it acc env, A.under (.compLoop E k it acc env) = A) (hd : ∀ it acc env, (model prog w).den (.compLoop E k it acc env) = (compTurn E k it acc env).onRaise (fun x => do noteFrame x env; theTreesLotGoes x)) : LoopOk prog w A E k t (pwAdd prog w A "set.add" elt) := by
  intro R it acc env J turn n s h
  refine codeAny_loop rfl J (fun n s hJ => ?_) n h
  rw [hu, hd]
  refine wpAny_noted ?_
  rw [hT]
  refine wpAny_bind (wpAny_standAt (wpAny_bind (thnF (turn n s hJ) fun r s1 h1 => ?_)))
  cases r with
  | none => exact wpAny_pure h1
  | some v =>
    refine wpAny_bind (thnF h1 fun _ s2 h2 => wpAny_bind (thnF h2 fun _ s3 h3 => ?_))
    exact wpAny_bind (wpAny_bind (thnF h3 fun x s4 h4 => wpAny_bind (wpAny_standAt (wpAny_bind (thnF h4 fun _ s5 h5 => wpAny_pure (wpAny_pure ⟨rfl, h5⟩))))))
theorem add_loopL {E : Expr} {k : Nat} {t : Expr} {p1 : Pos} (hT : ∀ it acc env, compTurn E k it acc env = (do
      standAt p1
      match ← pyNext it with
      | none => pure (.done .next)
      | some v =>
        letOwnedTupleGo t it v
        assign t env v
        (do let _ ← call (.builtin "list.append") [acc, ← eval elt env])
        again (.compLoop E k it acc env)))
    (hu : ∀ it acc env, A.under (.compLoop E k it acc env) = A) (hd : ∀ it acc env, (model prog w).den (.compLoop E k it acc env) = (compTurn E k it acc env).onRaise (fun x => do noteFrame x env; theTreesLotGoes x)) : LoopOk prog w A E k t (pwAdd prog w A "list.append" elt) := by
  intro R it acc env J turn n s h
  refine codeAny_loop rfl J (fun n s hJ => ?_) n h
  rw [hu, hd]
  refine wpAny_noted ?_
  rw [hT]
  refine wpAny_bind (wpAny_standAt (wpAny_bind (thnF (turn n s hJ) fun r s1 h1 => ?_)))
  cases r with
  | none => exact wpAny_pure h1
  | some v =>
    refine wpAny_bind (thnF h1 fun _ s2 h2 => wpAny_bind (thnF h2 fun _ s3 h3 => ?_))
    exact wpAny_bind (wpAny_bind (thnF h3 fun x s4 h4 => wpAny_bind (thnF h4 fun _ s5 h5 => wpAny_pure (wpAny_pure ⟨rfl, h5⟩))))
theorem sc3_l0 (hs : ∀ env x, foldedSetIterable i1 env x = pure x) : LoopOk prog w A (sc3 elt t0 i0 t1 i1 t2 i2 scope pos) 0 t0 (pwMid prog w A (sc3 elt t0 i0 t1 i1 t2 i2 scope pos) 1 i1) := mid_loop (p1 := i0.pos) (p2 := i1.pos) (fun _ _ _ => by rfl) hs (fun _ _ _ => rfl) (fun _ _ _ => rfl)
theorem sc3_l1 (hs : ∀ env x, foldedSetIterable i2 env x = pure x) : LoopOk prog w A (sc3 elt t0 i0 t1 i1 t2 i2 scope pos) 1 t1 (pwMid prog w A (sc3 elt t0 i0 t1 i1 t2 i2 scope pos) 2 i2) := mid_loop (p1 := i1.pos) (p2 := i2.pos) (fun _ _ _ => by rfl) hs (fun _ _ _ => rfl) (fun _ _ _ => rfl)
theorem sc3_l2 : LoopOk prog w A (sc3 elt t0 i0 t1 i1 t2 i2 scope pos) 2 t2 (pwAdd prog w A "set.add" elt) := add_loopS (p1 := i2.pos) (fun _ _ _ => by rfl) (fun _ _ _ => rfl) (fun _ _ _ => rfl)
theorem lc3_l0 (hs : ∀ env x, foldedSetIterable i1 env x = pure x) : LoopOk prog w A (lc3 elt t0 i0 t1 i1 t2 i2 scope pos) 0 t0 (pwMid prog w A (lc3 elt t0 i0 t1 i1 t2 i2 scope pos) 1 i1) := mid_loop (p1 := i0.pos) (p2 := i1.pos) (fun _ _ _ => by rfl) hs (fun _ _ _ => rfl) (fun _ _ _ => rfl)
theorem lc3_l1 (hs : ∀ env x, foldedSetIterable i2 env x = pure x) : LoopOk prog w A (lc3 elt t0 i0 t1 i1 t2 i2 scope pos) 1 t1 (pwMid prog w A (lc3 elt t0 i0 t1 i1 t2 i2 scope pos) 2 i2) := mid_loop (p1 := i1.pos) (p2 := i2.pos) (fun _ _ _ => by rfl) hs (fun _ _ _ => rfl) (fun _ _ _ => rfl)
theorem lc3_l2 : LoopOk prog w A (lc3 elt t0 i0 t1 i1 t2 i2 scope pos) 2 t2 (pwAdd prog w A "list.append" elt) := add_loopL (p1 := i2.pos) (fun _ _ _ => by rfl) (fun _ _ _ => rfl) (fun _ _ _ => rfl)
theorem sc3_s1 : StartOk prog w A (sc3 elt t0 i0 t1 i1 t2 i2 scope pos) 1 := by
  intro R it acc env s h0 h
  refine codeAny_of_tree ?_
  show wpAny _ _ ((compStart (sc3 elt t0 i0 t1 i1 t2 i2 scope pos) 1 it acc env).onRaise (fun x => do noteFrame x env; standAt theWindowsPlace)) _ _ s
  refine wpAny_notedAt ?_
  unfold compStart
  show wpAny _ _ (ask >>= _) _ _ s
  refine wpAny_bind (wpAny_askSetting (wpAny_ite ?_))
  split
  · first
      | exact wpAny_bind (wpAny_pure (wpAny_pure (And.intro rfl h0)))
      | exact wpAny_pure (And.intro rfl h0)
  · first
      | exact wpAny_bind (wpAny_rule (wpAny_bind (wpAny_standAt (wpAny_bind (wpAny_mono h (fun it' s' h' => wpAny_pure (And.intro rfl h')) fun _ _ x => x)))))
      | (refine wpAny_bind (wpAny_rule ?_); show wpAny _ _ (standAt i1.pos >>= _) _ _ s; exact wpAny_bind (wpAny_standAt (wpAny_bind (wpAny_mono h (fun it' s' h' => wpAny_pure (And.intro rfl h')) fun _ _ x => x))))
theorem sc3_s2 : StartOk prog w A (sc3 elt t0 i0 t1 i1 t2 i2 scope pos) 2 := by
  intro R it acc env s h0 h
  refine codeAny_of_tree ?_
  show wpAny _ _ ((compStart (sc3 elt t0 i0 t1 i1 t2 i2 scope pos) 2 it acc env).onRaise (fun x => do noteFrame x env; standAt theWindowsPlace)) _ _ s
  refine wpAny_notedAt ?_
  unfold compStart
  show wpAny _ _ (ask >>= _) _ _ s
  refine wpAny_bind (wpAny_askSetting (wpAny_ite ?_))
  split
  · first
      | exact wpAny_bind (wpAny_pure (wpAny_pure (And.intro rfl h0)))
      | exact wpAny_pure (And.intro rfl h0)
  · first
      | exact wpAny_bind (wpAny_rule (wpAny_bind (wpAny_standAt (wpAny_bind (wpAny_mono h (fun it' s' h' => wpAny_pure (And.intro rfl h')) fun _ _ x => x)))))
      | (refine wpAny_bind (wpAny_rule ?_); show wpAny _ _ (standAt i2.pos >>= _) _ _ s; exact wpAny_bind (wpAny_standAt (wpAny_bind (wpAny_mono h (fun it' s' h' => wpAny_pure (And.intro rfl h')) fun _ _ x => x))))
theorem lc3_s1 : StartOk prog w A (lc3 elt t0 i0 t1 i1 t2 i2 scope pos) 1 := by
  intro R it acc env s h0 h
  refine codeAny_of_tree ?_
  show wpAny _ _ ((compStart (lc3 elt t0 i0 t1 i1 t2 i2 scope pos) 1 it acc env).onRaise (fun x => do noteFrame x env; standAt theWindowsPlace)) _ _ s
  refine wpAny_notedAt ?_
  unfold compStart
  show wpAny _ _ (ask >>= _) _ _ s
  refine wpAny_bind (wpAny_askSetting (wpAny_ite ?_))
  split
  · first
      | exact wpAny_bind (wpAny_pure (wpAny_pure (And.intro rfl h0)))
      | exact wpAny_pure (And.intro rfl h0)
  · first
      | exact wpAny_bind (wpAny_rule (wpAny_bind (wpAny_standAt (wpAny_bind (wpAny_mono h (fun it' s' h' => wpAny_pure (And.intro rfl h')) fun _ _ x => x)))))
      | (refine wpAny_bind (wpAny_rule ?_); show wpAny _ _ (standAt i1.pos >>= _) _ _ s; exact wpAny_bind (wpAny_standAt (wpAny_bind (wpAny_mono h (fun it' s' h' => wpAny_pure (And.intro rfl h')) fun _ _ x => x))))
theorem lc3_s2 : StartOk prog w A (lc3 elt t0 i0 t1 i1 t2 i2 scope pos) 2 := by
  intro R it acc env s h0 h
  refine codeAny_of_tree ?_
  show wpAny _ _ ((compStart (lc3 elt t0 i0 t1 i1 t2 i2 scope pos) 2 it acc env).onRaise (fun x => do noteFrame x env; standAt theWindowsPlace)) _ _ s
  refine wpAny_notedAt ?_
  unfold compStart
  show wpAny _ _ (ask >>= _) _ _ s
  refine wpAny_bind (wpAny_askSetting (wpAny_ite ?_))
  split
  · first
      | exact wpAny_bind (wpAny_pure (wpAny_pure (And.intro rfl h0)))
      | exact wpAny_pure (And.intro rfl h0)
  · first
      | exact wpAny_bind (wpAny_rule (wpAny_bind (wpAny_standAt (wpAny_bind (wpAny_mono h (fun it' s' h' => wpAny_pure (And.intro rfl h')) fun _ _ x => x)))))
      | (refine wpAny_bind (wpAny_rule ?_); show wpAny _ _ (standAt i2.pos >>= _) _ _ s; exact wpAny_bind (wpAny_standAt (wpAny_bind (wpAny_mono h (fun it' s' h' => wpAny_pure (And.intro rfl h')) fun _ _ x => x))))
end
/-- the part of a turn behind the store of its item, as it reads in a context; vs: the slots that it may change -/
structure PPart (Y : Cx) (pw : PWt) (acc : Value) (tp : L2.St → Hp → (Hp → Prop) → Prop) (vs : List Nat) : Prop where
  run : ∀ (pins : List (Addr × Obj)) (s : Shared) (σ : L2.St) (H : Hp) (N : Hp → Prop) (N' : Shared → Prop), Inv Y pins σ H s → tp σ H N → (∀ H' s', Inv Y pins (wipe σ vs) H' s' → N H' → N' s') → pw acc Y.env N' s
def tAddS (P : Program) (w : World) (D : Addr) (te : TE) : L2.St → Hp → (Hp → Prop) → Prop := fun σ H N => te σ H fun y H7 => ∃ z ks, y = .str z ∧ H7 D = some (SetSO P w D ks) ∧ ks.length + 1 < scanBound ∧ N (upd H7 D (SetSO P w D (putS ks z)))
def tAddL (D : Addr) (te : TE) : L2.St → Hp → (Hp → Prop) → Prop := fun σ H N => te σ H fun y H7 => ∃ acc, H7 D = some (.lst acc) ∧ acc.length < sizeLine ∧ N (upd H7 D (.lst (acc ++ [y])))
def tMid (wi : TI) (g : TG) (tp : L2.St → Hp → (Hp → Prop) → Prop) (vs : List Nat) : L2.St → Hp → (Hp → Prop) → Prop := fun σ H N => wi σ H fun J H4 => ∃ W : Nat → Nat → Hp → Prop, (∃ m, W 0 m H4) ∧ ∀ j k H, W j k H →
  (J.stop j H ∧ N H) ∨ (J.go j H ∧ ∃ Nx : Hp → Prop, (∀ H', Nx H' → ∃ k', k' < k ∧ W (j + 1) k' H') ∧ ∀ x H', J.yld j H x H' → g x (wipe σ vs) H' fun σ2 H2 => wipe σ2 vs = wipe σ vs ∧ tp σ2 H2 Nx)
section
variable {Y : Cx}
theorem part_addS {elt : Expr} {te : TE} {D : Addr} (hxe : Y.xe = NoE) (he : PE Y elt te) : PPart Y (pwAdd Y.prog Y.w Y.A "set.add" elt) (.ref D) (tAddS Y.prog Y.w D te) [] := by
  refine ⟨fun pins s σ H N N' I h k => ?_⟩
  unfold pwAdd
  have r := he.run pins s σ H _ I h
  rw [hxe] at r
  refine thnF r fun v s1 ⟨y, H1, I1, r1, z, ks, ey, hD, room, nx⟩ => ?_
  subst ey
  obtain ⟨tk, rfl⟩ : ∃ tk, v = Value.str z tk := r1
  exact addS_ok I1 hD room fun s2 I2 => k _ s2 I2 nx
theorem part_addL {elt : Expr} {te : TE} {D : Addr} (hxe : Y.xe = NoE) (he : PE Y elt te) : PPart Y (pwAdd Y.prog Y.w Y.A "list.append" elt) (.ref D) (tAddL D te) [] := by
  refine ⟨fun pins s σ H N N' I h k => ?_⟩
  unfold pwAdd
  have r := he.run pins s σ H _ I h
  rw [hxe] at r
  refine thnF r fun v s1 ⟨y, H1, I1, r1, acc, hD, room, nx⟩ => ?_
  exact app_ok I1 hD room r1 fun s2 I2 => k _ s2 I2 nx
theorem part_mid {E : Expr} {k : Nat} {t i : Expr} {pw : PWt} {acc : Value} {wi : TI} {g : TG} {tp : L2.St → Hp → (Hp → Prop) → Prop} {vs vs' : List Nat} (hxe : Y.xe = NoE) (hc : Y.calm = true) (hv : ∀ i ∈ vs', i ∈ vs) (hi : PI Y t i wi) (hg : PG Y t g)
    (hp : PPart Y pw acc tp vs') (hL : LoopOk Y.prog Y.w Y.A E k t pw) (hS : StartOk Y.prog Y.w Y.A E k) : PPart Y (pwMid Y.prog Y.w Y.A E k i) acc (tMid wi g tp vs) vs := by
  refine ⟨fun pins s σ H N N' I h kk => ?_⟩
  have r0 := hi.run pins s σ H _ I h
  rw [hxe] at r0
  refine thnF r0 fun xv s1 hx => ?_
  refine thnF hx fun itv s2 h2 => ?_
  obtain ⟨it1, fp1, tn1, J1, H2, rfl, I2, T1, st2, f2, W1, ⟨m1, w1⟩, turn1⟩ := h2
  have loop1 : codeAny (model Y.prog Y.w) Y.A (.compLoop E k (.ref it1) acc Y.env)
      (fun r s' => match r with
        | .ok _ => N' s'
        | .error _ => False) s2 := by
    refine hL _ _ _ _ (fun n s' => ∃ j H', Inv Y pins (wipe σ vs) H' s' ∧ tn1 j s'.heap ∧ (∀ b ∈ fp1, H' b = none) ∧ W1 j n H') ?_ m1 _ ⟨0, H2, I2.weak (wipe_length _ _) (fun j v e => (wipe_some e).1), st2, fun b hb => (f2 b hb).1, w1⟩
    rintro n s3 ⟨j, H3, I3, st3, n3, w3⟩
    rcases turn1 j n H3 w3 with ⟨stop1, nx1⟩ | ⟨go1, Nx1, hNx1, step1⟩
    · refine thnF (T1.done Y rfl rfl rfl hc j _ s3 _ H3 NoE I3 (fun b hb => ⟨n3 b hb, (f2 b hb).2⟩) st3 stop1) fun r s4 ⟨hr, I4⟩ => ?_
      subst hr
      exact kk _ _ I4 nx1
    · refine thnF (T1.item Y rfl rfl rfl hc j _ s3 _ H3 NoE I3 (fun b hb => ⟨n3 b hb, (f2 b hb).2⟩) st3 go1) fun r s4 ⟨u1, hr, h4⟩ => ?_
      subst hr
      refine thnF h4 fun _ s5 ⟨x1, H5, I5, r5, y5, st5, n5⟩ => ?_
      have I5p := I5.pinned (fun b hb => ⟨n5 b hb, (f2 b hb).2⟩) (T1.obj _ _ st5)
      have rg := hg.run _ s5 _ H5 x1 u1 _ I5p r5 (step1 x1 H5 y5)
      rw [hxe] at rg
      refine thnF rg fun _ s6 ⟨σ6, H6, I6, hw6, q6⟩ => ?_
      refine hp.run _ s6 σ6 H6 Nx1 _ I6 q6 fun H7 s7 I7 nx => ?_
      obtain ⟨m', hm, w'⟩ := hNx1 _ nx
      have pin' : ∀ b ∈ fp1, ∀ o, s5.heap.get? b = some o → s7.heap.get? b = some o ∧ H7 b = none := fun b hb o e =>
        let z := I7.pin (b, o) (List.mem_append_right _ (List.mem_append_right _ (mem_pinsAt hb e)))
        ⟨z.1, z.2.1⟩
      refine ⟨m', hm, j + 1, H7, I7.unpinned.weak ?_ (fun j v e => ?_), T1.keep _ _ _ st5 fun b hb o e => (pin' b hb o e).1, fun b hb => ?_, w'⟩
      · have z := congrArg List.length hw6
        rw [wipe_length, wipe_length] at z
        rw [wipe_length, wipe_length]
        exact z.symm
      · rw [← hw6] at e
        obtain ⟨e1, e2⟩ := wipe_some e
        rw [wipe_out fun z => e2 (hv j z)]
        exact e1
      · obtain ⟨o, e, _⟩ := T1.obj _ _ st5 b hb
        exact (pin' b hb o e).2
  exact hS _ _ _ _ _ loop1 (T1.self Y.A 0 _ _ _ st2 loop1)
end
end L2

set_option Elab.async false
set_option linter.all false
set_option maxRecDepth 100000
set_option maxHeartbeats 2000000
/-! comprehensions of any number of clauses: the first clause and the whole -/
namespace L2
open PySem PySem.Spec PyProof.Rows
def tScN (P : Program) (w : World) (wi : TI) (g : TG) (tp : Addr → L2.St → Hp → (Hp → Prop) → Prop) (vs : List Nat) : TE := fun σ H Q => wi σ H fun J H1 => ∀ D, H1 D = none → ∃ W : Nat → Nat → Hp → Prop, (∃ m, W 0 m (upd H1 D (SetSO P w D []))) ∧ ∀ i m H, W i m H →
  (J.stop i H ∧ Q (.ref D) H) ∨ (J.go i H ∧ ∃ Nx : Hp → Prop, (∀ H', Nx H' → ∃ m', m' < m ∧ W (i + 1) m' H') ∧ ∀ x H', J.yld i H x H' → g x (wipe σ vs) H' fun σ2 H2 => wipe σ2 vs = wipe σ vs ∧ tp D σ2 H2 Nx)
def tLcN (wi : TI) (g : TG) (tp : Addr → L2.St → Hp → (Hp → Prop) → Prop) (vs : List Nat) : TE := fun σ H Q => wi σ H fun J H1 => ∀ D, H1 D = none → ∃ W : Nat → Nat → Hp → Prop, (∃ m, W 0 m (upd H1 D (.lst []))) ∧ ∀ i m H, W i m H →
  (J.stop i H ∧ Q (.ref D) H) ∨ (J.go i H ∧ ∃ Nx : Hp → Prop, (∀ H', Nx H' → ∃ m', m' < m ∧ W (i + 1) m' H') ∧ ∀ x H', J.yld i H x H' → g x (wipe σ vs) H' fun σ2 H2 => wipe σ2 vs = wipe σ vs ∧ tp D σ2 H2 Nx)
/-- a clause's turns, Pv by the turn and the heap -/
theorem cl_it {J : It} {n : Nat} {G : Hp → Prop} {Y : Nat → Hp → V → Hp → Prop} (wk : Walk J n G Y) {g : TG} {tp : L2.St → Hp → (Hp → Prop) → Prop} {vs : List Nat} {σ : L2.St} {H0 : Hp} {Qd : Hp → Prop} (Pv : Nat → Hp → Prop) (h0 : Pv 0 H0) (hG : ∀ i H, i ≤ n → Pv i H → G H)
    (hs : ∀ i x H H', i < n → Pv i H → Y i H x H' → g x (wipe σ vs) H' fun σ2 H2 => wipe σ2 vs = wipe σ vs ∧ tp σ2 H2 (Pv (i + 1))) (hd : ∀ H, Pv n H → Qd H) :
    ∃ W : Nat → Nat → Hp → Prop, (∃ m, W 0 m H0) ∧ ∀ i m H, W i m H →
      (J.stop i H ∧ Qd H) ∨ (J.go i H ∧ ∃ Nx : Hp → Prop, (∀ H', Nx H' → ∃ m', m' < m ∧ W (i + 1) m' H') ∧ ∀ x H', J.yld i H x H' → g x (wipe σ vs) H' fun σ2 H2 => wipe σ2 vs = wipe σ vs ∧ tp σ2 H2 Nx) := by
  refine ⟨fun i m H => m = n - i ∧ i ≤ n ∧ Pv i H, ⟨n, by simp, Nat.zero_le _, h0⟩, ?_⟩
  rintro i m H ⟨rfl, hi, p⟩
  have q := hG i H hi p
  by_cases hlt : i < n
  · exact .inr ⟨wk.goes i H hlt q, Pv (i + 1), fun H' p' => ⟨n - (i + 1), by omega, rfl, hlt, p'⟩, fun x H' y => hs i x H H' hlt p (wk.yields i H x H' hlt q y)⟩
  · obtain rfl : i = n := by omega
    exact .inl ⟨wk.stops H q, hd H p⟩
section
variable {X : Cx}
theorem pe_scN {elt tg iter : Expr} {rest : List Comprehension} {scope : Scope} {own : List (Str × Nat)} {vs' : List Nat} {pos : Pos} {wi : TI} {g : TG} {pw : PWt} {tp : Addr → L2.St → Hp → (Hp → Prop) → Prop} (hc : X.calm = true) (hN : X.N.Nodup) (hi : PI X tg iter wi) (ok : BlkOk X.N X.env.scope scope own) (hv : ∀ i ∈ vs', i ∈ own.map (·.2))
    (hg : InBlk X scope fun Y => PG Y tg g) (hp : ∀ D, InBlk X scope fun Y => PPart Y pw (.ref D) (tp D) vs')
    (hL : LoopOk X.prog X.w X.A (.SetComp elt (⟨tg, iter, [], 0⟩ :: rest) scope pos) 0 tg pw)
    (hs : ∀ x, foldedSetIterable iter X.env x = pure x := by intro _; rfl) :
    PE X (.SetComp elt (⟨tg, iter, [], 0⟩ :: rest) scope pos) (tScN X.prog X.w wi g tp (own.map (·.2))) := by
  refine ⟨fun pins s σ H Q I h => ?_⟩
  rw [show eval (.SetComp elt (⟨tg, iter, [], 0⟩ :: rest) scope pos) X.env = comprehension (.SetComp elt (⟨tg, iter, [], 0⟩ :: rest) scope pos) scope X.env (firstIterPos (⟨tg, iter, [], 0⟩ :: rest) pos) (newSet (.type "set")) false (eval iter X.env) from rfl]
  have caught : ∀ y ∈ scope.names, y.2 = .free → ∃ c, X.env.cells.lookup y.1 = some c := fun y hy e => by
    rcases ok.free y hy e with k | k
    · exact I.ok.has _ (.inl k)
    · exact I.ok.has _ (.inr k)
  refine wpAny_comprehension_free (use := none) rfl hs (closure_ok caught) ok.kind (fun y hy e => by rw [ok.uniq y hy, e]) (thn (hi.run pins s σ H _ I h) fun xv s1 hx => thn hx fun itv s2 h2 => ?_)
  obtain ⟨it, fp, tn, J, H2, rfl, I2, T, st2, f2, q⟩ := h2
  refine PpSet.newSet_ok (newEnv_comp ?_)
  generalize hD : s2.heap.objs.size = D
  obtain ⟨W, ⟨m0, w0⟩, turn⟩ := q D (I2.hok.fresh (Nat.le_of_eq hD))
  have fb : ∀ b ∈ fp, b < s2.heap.objs.size := fun b hb => let ⟨o, e, _⟩ := T.obj _ _ st2 b hb; Heap.lt_size e
  have nw := setS_new X.w X.prog s2.heap
  generalize hnew : s2.heap.push { cls := .type "set", dict := none, data := .set #[] 0 (.fresh 0 0 (!X.w.params.followText "set-order")) } = h3 at nw
  have keep3 : ∀ b o, s2.heap.get? b = some o → h3.get? b = some o := fun b o e => by rw [← hnew]; exact Heap.get?_push_of_some _ e
  have size3 : h3.objs.size = s2.heap.objs.size + 1 := by rw [← hnew, Heap.size_push]
  rw [hD] at nw
  have I3 : Inv X pins σ (upd H2 D (SetSO X.prog X.w D [])) { s2 with heap := h3 } := I2.laid (t' := s2.toks) keep3 (Nat.le_of_eq hD) (setSO_new nw)
  have f3 : ∀ b ∈ fp, FpOk X pins (upd H2 D (SetSO X.prog X.w D [])) b ∧ b < h3.objs.size := fun b hb => by
    refine ⟨⟨?_, (f2 b hb).2⟩, by rw [size3]; exact Nat.lt_succ_of_lt (fb b hb)⟩
    rw [upd_ne (by rw [← hD]; exact Nat.ne_of_lt (fb b hb))]
    exact (f2 b hb).1
  have st3 : tn 0 h3 := T.keep _ _ _ st2 fun b _ o e => keep3 b o e
  generalize hs3 : ({ s2 with heap := h3 } : Shared) = s3 at I3
  have eh : s3.heap = h3 := by rw [← hs3]
  rw [← eh] at st3 f3 size3
  have I4 := block_start I3 ok hN f3
  generalize hH3 : upd H2 D (SetSO X.prog X.w D []) = H3 at I3 I4 w0 f3
  show codeAny _ _ (.compStart (.SetComp elt (⟨tg, iter, [], 0⟩ :: rest) scope pos) 0 (.ref it) (.ref D) (compEnvC scope (cellsFrom (s3.heap.objs.size + 1) scope.names (cloFrom X.env.cells scope.names [])) s3.heap.objs.size X.env))
    (compPost (model X.prog X.w) X.A X.xe none (EP X pins σ Q) (.ref D) s3.heap.objs.size) { s3 with heap := pushCells (s3.heap.push { cls := .type "dict", data := .dict #[] }) scope.names }
  have pg := hg s3 H3 s3.heap.objs.size (cellsFrom (s3.heap.objs.size + 1) scope.names (cloFrom X.env.cells scope.names [])) fp
  have pp := hp D s3 H3 s3.heap.objs.size (cellsFrom (s3.heap.objs.size + 1) scope.names (cloFrom X.env.cells scope.names [])) fp
  generalize hce : compEnvC scope (cellsFrom (s3.heap.objs.size + 1) scope.names (cloFrom X.env.cells scope.names [])) s3.heap.objs.size X.env = ce at I4 pg pp ⊢
  have cL : ce.locals = s3.heap.objs.size := by rw [← hce]; rfl
  generalize hs4 : ({ s3 with heap := pushCells (s3.heap.push { cls := .type "dict", data := .dict #[] }) scope.names } : Shared) = s4 at I4 ⊢
  have st4 : tn 0 s4.heap := by
    rw [← hs4]
    exact T.keep _ _ _ st3 fun b _ o e => pushCells_keeps _ _ _ _ (Heap.get?_push_of_some _ e)
  have pinned : ∀ {σ' : L2.St} {H' : Hp} {s' : Shared}, Inv (X.blk s3 H3 scope ce fp) [] σ' H' s' → (∀ b ∈ fp, H' b = none) → ∀ b ∈ fp, FpOk (X.blk s3 H3 scope ce fp) [] H' b := fun {σ' H' s'} I' hn b hb =>
    ⟨hn b hb, (I'.ok.exf b hb).1, I'.ok.exfs b hb, .inl hb, fun x c e => (I'.ok.exf b hb).2 x c e, fun p hp => absurd (show p ∈ ([] : List (Addr × Obj)) ++ [] from hp) (by simp)⟩
  have loop : codeAny (model X.prog X.w) X.A (.compLoop (.SetComp elt (⟨tg, iter, [], 0⟩ :: rest) scope pos) 0 (.ref it) (.ref D) ce) (compPost (model X.prog X.w) X.A X.xe none (EP X pins σ Q) (.ref D) s3.heap.objs.size) s4 := by
    refine hL _ _ _ _ (fun n s' => ∃ i H', Inv (X.blk s3 H3 scope ce fp) [] (wipe σ (own.map (·.2))) H' s' ∧ tn i s'.heap ∧ (∀ b ∈ fp, H' b = none) ∧ W i n H') ?_ m0 _ ⟨0, H3, I4, st4, fun b hb => (f3 b hb).1.1, w0⟩
    rintro n s5 ⟨i, H5, I5, st5, n5, w5⟩
    rcases turn i n H5 w5 with ⟨stop, qq⟩ | ⟨go, Nx, hNx, step⟩
    · refine thnF (T.done (X.blk s3 H3 scope ce fp) rfl rfl rfl hc i [] s5 _ H5 NoE I5 (pinned I5 n5) st5 stop) fun r s6 ⟨hr, I6⟩ => ?_
      subst hr
      have I7 : Inv X pins σ H5 s6 := I3.call' (ch := fp) I6.os I6.base I6.hok I6.bare fun b hb => ⟨(f3 b hb).1.2.2.2.1, (f3 b hb).1.2.1, (f3 b hb).1.2.2.2.2.1, (f3 b hb).1.2.2.2.2.2⟩
      have free5 : H5 ce.locals = none := I6.free
      obtain ⟨m, hn, _⟩ := I6.loc
      have hn : s6.heap.Ns ce.locals m := hn
      rw [cL] at hn free5
      obtain ⟨f0, f1, _, g3, f4, f5⟩ := I3.fpOk (Nat.le_refl _) free5
      exact ⟨m, hn, fun h'' sb => ⟨.ref D, H5, I7.turned (t' := s6.toks) (fun b o hb e => (sb.2 b hb).trans e) f0 f1 g3 f4 f5, rfl, qq⟩⟩
    · refine thnF (T.item (X.blk s3 H3 scope ce fp) rfl rfl rfl hc i [] s5 _ H5 NoE I5 (pinned I5 n5) st5 go) fun r s6 ⟨u, hr, h6⟩ => ?_
      subst hr
      refine thnF h6 fun _ s7 ⟨x, H7, I7, r7, y7, st7, n7⟩ => ?_
      have I7p := I7.pinned (pinned I7 n7) (T.obj _ _ st7)
      refine thnF (pg.run _ s7 _ H7 x u _ I7p r7 (step x H7 y7)) fun _ s8 ⟨σ8, H8, I8, hw8, q8⟩ => ?_
      refine pp.run _ s8 σ8 H8 Nx _ I8 q8 fun H13 s13 I13 nx => ?_
      obtain ⟨m', hm, w'⟩ := hNx H13 nx
      have pin' : ∀ b ∈ fp, ∀ o, s7.heap.get? b = some o → s13.heap.get? b = some o ∧ H13 b = none := fun b hb o e =>
        let z := I13.pin (b, o) (List.mem_append_right _ (List.mem_append_right _ (mem_pinsAt hb e)))
        ⟨z.1, z.2.1⟩
      refine ⟨m', hm, i + 1, H13, (I13.unpinned (pins := [])).weak ?_ (fun j v e => ?_), T.keep _ _ _ st7 fun b hb o e => (pin' b hb o e).1, fun b hb => ?_, w'⟩
      · have z := congrArg List.length hw8
        rw [wipe_length, wipe_length] at z
        rw [wipe_length, wipe_length]
        exact z.symm
      · rw [← hw8] at e
        obtain ⟨e1, e2⟩ := wipe_some e
        rw [wipe_out fun z => e2 (hv j z)]
        exact e1
      · obtain ⟨o, e, _⟩ := T.obj _ _ st7 b hb
        exact (pin' b hb o e).2
  exact PpSet.codeAny_compStart_set loop (T.self X.A 0 _ _ _ st4 loop)
theorem pe_lcN {elt tg iter : Expr} {rest : List Comprehension} {scope : Scope} {own : List (Str × Nat)} {vs' : List Nat} {pos : Pos} {wi : TI} {g : TG} {pw : PWt} {tp : Addr → L2.St → Hp → (Hp → Prop) → Prop} (hc : X.calm = true) (hN : X.N.Nodup) (hi : PI X tg iter wi) (ok : BlkOk X.N X.env.scope scope own) (hv : ∀ i ∈ vs', i ∈ own.map (·.2))
    (hg : InBlk X scope fun Y => PG Y tg g) (hp : ∀ D, InBlk X scope fun Y => PPart Y pw (.ref D) (tp D) vs')
    (hL : LoopOk X.prog X.w X.A (.ListComp elt (⟨tg, iter, [], 0⟩ :: rest) scope pos) 0 tg pw)
    (hs : ∀ x, foldedSetIterable iter X.env x = pure x := by intro _; rfl) :
    PE X (.ListComp elt (⟨tg, iter, [], 0⟩ :: rest) scope pos) (tLcN wi g tp (own.map (·.2))) := by
  refine ⟨fun pins s σ H Q I h => ?_⟩
  rw [show eval (.ListComp elt (⟨tg, iter, [], 0⟩ :: rest) scope pos) X.env = comprehension (.ListComp elt (⟨tg, iter, [], 0⟩ :: rest) scope pos) scope X.env (firstIterPos (⟨tg, iter, [], 0⟩ :: rest) pos) (newList []) false (eval iter X.env) from rfl]
  have caught : ∀ y ∈ scope.names, y.2 = .free → ∃ c, X.env.cells.lookup y.1 = some c := fun y hy e => by
    rcases ok.free y hy e with k | k
    · exact I.ok.has _ (.inl k)
    · exact I.ok.has _ (.inr k)
  refine wpAny_comprehension_free (use := none) rfl hs (closure_ok caught) ok.kind (fun y hy e => by rw [ok.uniq y hy, e]) (thn (hi.run pins s σ H _ I h) fun xv s1 hx => thn hx fun itv s2 h2 => ?_)
  obtain ⟨it, fp, tn, J, H2, rfl, I2, T, st2, f2, q⟩ := h2
  refine wpAny_newObj_type (newEnv_comp ?_) (by show 0 ≤ sizeLine; decide)
  generalize hD : s2.heap.objs.size = D
  obtain ⟨W, ⟨m0, w0⟩, turn⟩ := q D (I2.hok.fresh (Nat.le_of_eq hD))
  have fb : ∀ b ∈ fp, b < s2.heap.objs.size := fun b hb => let ⟨o, e, _⟩ := T.obj _ _ st2 b hb; Heap.lt_size e
  generalize hs3 : ({ s2 with heap := s2.heap.push { cls := .type "list", data := .seq ([] : List Value).toArray } } : Shared) = s3
  have I3 : Inv X pins σ (upd H2 D (.lst [])) s3 := by
    rw [← hs3]
    refine I2.laid (t' := s2.toks) (fun b o e => Heap.get?_push_of_some _ e) (Nat.le_of_eq hD) ⟨Nat.zero_le _, [], 0, .nil, ?_⟩
    rw [← hD]
    exact Heap.get?_push_size _ rfl
  have h3 : s3.heap = s2.heap.push { cls := .type "list", data := .seq ([] : List Value).toArray } := by rw [← hs3]
  have f3 : ∀ b ∈ fp, FpOk X pins (upd H2 D (.lst [])) b ∧ b < s3.heap.objs.size := fun b hb => by
    have hlt := fb b hb
    refine ⟨⟨?_, (f2 b hb).2⟩, by rw [h3, Heap.size_push]; exact Nat.lt_succ_of_lt hlt⟩
    rw [upd_ne (by rw [← hD]; exact Nat.ne_of_lt hlt)]
    exact (f2 b hb).1
  have st3 : tn 0 s3.heap := T.keep _ _ _ st2 fun b _ o e => by rw [h3]; exact Heap.get?_push_of_some _ e
  have I4 := block_start I3 ok hN f3
  generalize hH3 : upd H2 D (.lst []) = H3 at I3 I4 w0 f3
  show codeAny _ _ (.compStart (.ListComp elt (⟨tg, iter, [], 0⟩ :: rest) scope pos) 0 (.ref it) (.ref D) (compEnvC scope (cellsFrom (s3.heap.objs.size + 1) scope.names (cloFrom X.env.cells scope.names [])) s3.heap.objs.size X.env))
    (compPost (model X.prog X.w) X.A X.xe none (EP X pins σ Q) (.ref D) s3.heap.objs.size) { s3 with heap := pushCells (s3.heap.push { cls := .type "dict", data := .dict #[] }) scope.names }
  have pg := hg s3 H3 s3.heap.objs.size (cellsFrom (s3.heap.objs.size + 1) scope.names (cloFrom X.env.cells scope.names [])) fp
  have pp := hp D s3 H3 s3.heap.objs.size (cellsFrom (s3.heap.objs.size + 1) scope.names (cloFrom X.env.cells scope.names [])) fp
  generalize hce : compEnvC scope (cellsFrom (s3.heap.objs.size + 1) scope.names (cloFrom X.env.cells scope.names [])) s3.heap.objs.size X.env = ce at I4 pg pp ⊢
  have cL : ce.locals = s3.heap.objs.size := by rw [← hce]; rfl
  generalize hs4 : ({ s3 with heap := pushCells (s3.heap.push { cls := .type "dict", data := .dict #[] }) scope.names } : Shared) = s4 at I4 ⊢
  have st4 : tn 0 s4.heap := by
    rw [← hs4]
    exact T.keep _ _ _ st3 fun b _ o e => pushCells_keeps _ _ _ _ (Heap.get?_push_of_some _ e)
  have pinned : ∀ {σ' : L2.St} {H' : Hp} {s' : Shared}, Inv (X.blk s3 H3 scope ce fp) [] σ' H' s' → (∀ b ∈ fp, H' b = none) → ∀ b ∈ fp, FpOk (X.blk s3 H3 scope ce fp) [] H' b := fun {σ' H' s'} I' hn b hb =>
    ⟨hn b hb, (I'.ok.exf b hb).1, I'.ok.exfs b hb, .inl hb, fun x c e => (I'.ok.exf b hb).2 x c e, fun p hp => absurd (show p ∈ ([] : List (Addr × Obj)) ++ [] from hp) (by simp)⟩
  have loop : codeAny (model X.prog X.w) X.A (.compLoop (.ListComp elt (⟨tg, iter, [], 0⟩ :: rest) scope pos) 0 (.ref it) (.ref D) ce) (compPost (model X.prog X.w) X.A X.xe none (EP X pins σ Q) (.ref D) s3.heap.objs.size) s4 := by
    refine hL _ _ _ _ (fun n s' => ∃ i H', Inv (X.blk s3 H3 scope ce fp) [] (wipe σ (own.map (·.2))) H' s' ∧ tn i s'.heap ∧ (∀ b ∈ fp, H' b = none) ∧ W i n H') ?_ m0 _ ⟨0, H3, I4, st4, fun b hb => (f3 b hb).1.1, w0⟩
    rintro n s5 ⟨i, H5, I5, st5, n5, w5⟩
    rcases turn i n H5 w5 with ⟨stop, qq⟩ | ⟨go, Nx, hNx, step⟩
    · refine thnF (T.done (X.blk s3 H3 scope ce fp) rfl rfl rfl hc i [] s5 _ H5 NoE I5 (pinned I5 n5) st5 stop) fun r s6 ⟨hr, I6⟩ => ?_
      subst hr
      have I7 : Inv X pins σ H5 s6 := I3.call' (ch := fp) I6.os I6.base I6.hok I6.bare fun b hb => ⟨(f3 b hb).1.2.2.2.1, (f3 b hb).1.2.1, (f3 b hb).1.2.2.2.2.1, (f3 b hb).1.2.2.2.2.2⟩
      have free5 : H5 ce.locals = none := I6.free
      obtain ⟨m, hn, _⟩ := I6.loc
      have hn : s6.heap.Ns ce.locals m := hn
      rw [cL] at hn free5
      obtain ⟨f0, f1, _, g3, f4, f5⟩ := I3.fpOk (Nat.le_refl _) free5
      exact ⟨m, hn, fun h'' sb => ⟨.ref D, H5, I7.turned (t' := s6.toks) (fun b o hb e => (sb.2 b hb).trans e) f0 f1 g3 f4 f5, rfl, qq⟩⟩
    · refine thnF (T.item (X.blk s3 H3 scope ce fp) rfl rfl rfl hc i [] s5 _ H5 NoE I5 (pinned I5 n5) st5 go) fun r s6 ⟨u, hr, h6⟩ => ?_
      subst hr
      refine thnF h6 fun _ s7 ⟨x, H7, I7, r7, y7, st7, n7⟩ => ?_
      have I7p := I7.pinned (pinned I7 n7) (T.obj _ _ st7)
      refine thnF (pg.run _ s7 _ H7 x u _ I7p r7 (step x H7 y7)) fun _ s8 ⟨σ8, H8, I8, hw8, q8⟩ => ?_
      refine pp.run _ s8 σ8 H8 Nx _ I8 q8 fun H13 s13 I13 nx => ?_
      obtain ⟨m', hm, w'⟩ := hNx H13 nx
      have pin' : ∀ b ∈ fp, ∀ o, s7.heap.get? b = some o → s13.heap.get? b = some o ∧ H13 b = none := fun b hb o e =>
        let z := I13.pin (b, o) (List.mem_append_right _ (List.mem_append_right _ (mem_pinsAt hb e)))
        ⟨z.1, z.2.1⟩
      refine ⟨m', hm, i + 1, H13, (I13.unpinned (pins := [])).weak ?_ (fun j v e => ?_), T.keep _ _ _ st7 fun b hb o e => (pin' b hb o e).1, fun b hb => ?_, w'⟩
      · have z := congrArg List.length hw8
        rw [wipe_length, wipe_length] at z
        rw [wipe_length, wipe_length]
        exact z.symm
      · rw [← hw8] at e
        obtain ⟨e1, e2⟩ := wipe_some e
        rw [wipe_out fun z => e2 (hv j z)]
        exact e1
      · obtain ⟨o, e, _⟩ := T.obj _ _ st7 b hb
        exact (pin' b hb o e).2
  exact codeAny_compStart_list loop (T.self X.A 0 _ _ _ st4 loop)
/-- three clauses -/
theorem pe_sc3 {elt t0 i0 t1 i1 t2 i2 : Expr} {scope : Scope} {own : List (Str × Nat)} {v1 v2 : List Nat} {pos : Pos} {w0 w1 w2 : TI} {g0 g1 g2 : TG} {te : TE} (hc : X.calm = true) (hN : X.N.Nodup) (ok : BlkOk X.N X.env.scope scope own) (hv1 : ∀ i ∈ v1, i ∈ own.map (·.2)) (hv2 : ∀ i ∈ v2, i ∈ v1)
    (hi0 : PI X t0 i0 w0) (hg0 : InBlk X scope fun Y => PG Y t0 g0) (hi1 : InBlk X scope fun Y => PI Y t1 i1 w1) (hg1 : InBlk X scope fun Y => PG Y t1 g1) (hi2 : InBlk X scope fun Y => PI Y t2 i2 w2) (hg2 : InBlk X scope fun Y => PG Y t2 g2) (he : InBlk X scope fun Y => PE Y elt te)
    (hs : ∀ x, foldedSetIterable i0 X.env x = pure x := by intro _; rfl) (hs1 : ∀ env x, foldedSetIterable i1 env x = pure x := by intro _ _; rfl) (hs2 : ∀ env x, foldedSetIterable i2 env x = pure x := by intro _ _; rfl) :
    PE X (sc3 elt t0 i0 t1 i1 t2 i2 scope pos) (tScN X.prog X.w w0 g0 (fun D => tMid w1 g1 (tMid w2 g2 (tAddS X.prog X.w D te) v2) v1) (own.map (·.2))) := by
  refine pe_scN hc hN hi0 ok hv1 hg0 (fun D s H C cl fp => ?_) (sc3_l0 hs1) hs
  refine part_mid rfl hc hv2 (hi1 s H C cl fp) (hg1 s H C cl fp) ?_ (sc3_l1 hs2) sc3_s1
  exact part_mid rfl hc (fun _ h => absurd h List.not_mem_nil) (hi2 s H C cl fp) (hg2 s H C cl fp) (part_addS rfl (he s H C cl fp)) sc3_l2 sc3_s2
theorem pe_lc3 {elt t0 i0 t1 i1 t2 i2 : Expr} {scope : Scope} {own : List (Str × Nat)} {v1 v2 : List Nat} {pos : Pos} {w0 w1 w2 : TI} {g0 g1 g2 : TG} {te : TE} (hc : X.calm = true) (hN : X.N.Nodup) (ok : BlkOk X.N X.env.scope scope own) (hv1 : ∀ i ∈ v1, i ∈ own.map (·.2)) (hv2 : ∀ i ∈ v2, i ∈ v1)
    (hi0 : PI X t0 i0 w0) (hg0 : InBlk X scope fun Y => PG Y t0 g0) (hi1 : InBlk X scope fun Y => PI Y t1 i1 w1) (hg1 : InBlk X scope fun Y => PG Y t1 g1) (hi2 : InBlk X scope fun Y => PI Y t2 i2 w2) (hg2 : InBlk X scope fun Y => PG Y t2 g2) (he : InBlk X scope fun Y => PE Y elt te)
    (hs : ∀ x, foldedSetIterable i0 X.env x = pure x := by intro _; rfl) (hs1 : ∀ env x, foldedSetIterable i1 env x = pure x := by intro _ _; rfl) (hs2 : ∀ env x, foldedSetIterable i2 env x = pure x := by intro _ _; rfl) :
    PE X (lc3 elt t0 i0 t1 i1 t2 i2 scope pos) (tLcN w0 g0 (fun D => tMid w1 g1 (tMid w2 g2 (tAddL D te) v2) v1) (own.map (·.2))) := by
  refine pe_lcN hc hN hi0 ok hv1 hg0 (fun D s H C cl fp => ?_) (lc3_l0 hs1) hs
  refine part_mid rfl hc hv2 (hi1 s H C cl fp) (hg1 s H C cl fp) ?_ (lc3_l1 hs2) lc3_s1
  exact part_mid rfl hc (fun _ h => absurd h List.not_mem_nil) (hi2 s H C cl fp) (hg2 s H C cl fp) (part_addL rfl (he s H C cl fp)) lc3_l2 lc3_s2
end
end L2

set_option Elab.async false
set_option linter.all false
set_option maxRecDepth 100000
set_option maxHeartbeats 1000000
/-! a + b, a * b, -a where a is an instance of an own class that says what they are. -/
namespace L2
open PySem PySem.Spec PyProof.Rows
theorem back_of {X : Cx} {pins : List (Addr × Obj)} {σ : St} {Q : VK} {u : Value} {s : Shared} (h : EP X pins σ Q u s) : PySem.W.CmpBack (EP X pins σ Q) u s := by
  obtain ⟨v, H, I, r, q⟩ := h
  have h : EP X pins σ Q u s := ⟨v, H, I, r, q⟩
  cases v with
  | non => obtain rfl := (show u = Value.none from r); exact h
  | bl b => obtain rfl := (show u = Value.bool b from r); exact h
  | int i => obtain ⟨t, rfl⟩ := (show ∃ t, u = Value.int i t from r); exact h
  | str i => obtain ⟨t, rfl⟩ := (show ∃ t, u = Value.str i t from r); exact h
  | byt i => obtain ⟨t, rfl⟩ := (show ∃ t, u = Value.bytes i t from r); exact h
  | flt i => obtain ⟨t, rfl⟩ := (show ∃ t, u = Value.float i t from r); exact h
  | ref a => obtain rfl := (show u = Value.ref a from r); exact h
  | ty n => obtain rfl := (show u = Value.type n from r); exact h
/-- what the class says of an operator's method -/
structure OwnOp (K : PySem.W.Frag) (C : Addr) (name : Str) (f : Addr) : Prop where
  first : PySem.W.selfFirst K C = true
  has : PySem.W.findIn K (.ref C) name = some (some (.ref f))
  fn : PySem.W.isFn K (.ref f) = true
/-- the same where the right side is a whole number: int's own slots, and no reflected method of the class's -/
structure OwnOpI (K : PySem.W.Frag) (C : Addr) (name : String) (f : Addr) : Prop where
  one : OwnOp K C (PySem.dunder name) f
  refl : ∃ rc, PySem.W.findIn K (.ref C) (dunderR name) = some rc ∧ (rc = none ∨ ∃ g : Addr, rc = some (.ref g))
  i1 : ∃ fo, PySem.W.findIn K (.type "int") (PySem.dunder name) = some fo
  i2 : ∃ ro, PySem.W.findIn K (.type "int") (dunderR name) = some ro
  sub : PySem.W.subIn K (.type "int") (.ref C) = some false
section
variable {X : Cx} {op : Operator} {C f : Addr} {fd : FuncData} {ps : List Str} {sp : Sp} {k : Nat}
theorem inst_of {pins : List (Addr × Obj)} {σ : St} {H : Hp} {s : Shared} {p dx : Addr} {fs : List (Str × V)} (I : Inv X pins σ H s) (e : H p = some (.ins C dx fs)) : ∃ ox od, PySem.W.InstAt s.heap p ox C od := by
  obtain ⟨mA, O, _⟩ := ins_get I.hok e
  obtain ⟨od, J, _⟩ := O.look
  exact ⟨_, _, J⟩
end
end L2

set_option Elab.async false
set_option linter.all false
set_option maxRecDepth 100000
set_option maxHeartbeats 1000000
/-! rows without forms: what is said of heaps, tests, powers -/
namespace L2
open PySem PySem.Spec PyProof.Rows
theorem iteD {p : Prop} [Decidable p] {A B : Prop} (h1 : p → A) (h2 : ¬ p → B) : if decide p = true then A else B := by
  by_cases h : p
  · rw [if_pos (decide_eq_true h)]; exact h1 h
  · rw [if_neg (by simpa using h)]; exact h2 h
theorem ifT {b : Bool} {A B : Prop} (h : b = true) (x : A) : if b = true then A else B := by rw [if_pos h]; exact x
theorem ifF {b : Bool} {A B : Prop} (h : b = false) (x : B) : if b = true then A else B := by rw [if_neg (by rw [h]; exact Bool.false_ne_true)]; exact x
def CPowX (i j : Int) : Prop := 0 ≤ j ∧ (Builtin.Int.intBits i : Int) * j ≤ 2 ^ 27
theorem op_powX {X : Cx} : OpR X (binaryOp .Pow) (rI CPowX fun i j => .int (i ^ j.toNat)) := opI fun _ _ _ _ _ _ _ hc q => pow_int hc.1 hc.2 q
/-- all but D as it was -/
def SameB (D : Addr) (H H' : Hp) : Prop := ∀ b o, b ≠ D → H b = some o → H' b = some o
theorem SameB.refl (D : Addr) (H : Hp) : SameB D H H := fun _ _ _ h => h
theorem SameB.to {D : Addr} {H H1 H2 : Hp} (S : SameB D H H1) (T : Same H1 H2) : SameB D H H2 := fun b o n h => T b o (S b o n h)
theorem SameB.trans {D : Addr} {H H1 H2 : Hp} (S : SameB D H H1) (T : SameB D H1 H2) : SameB D H H2 := fun b o n h => T b o n (S b o n h)
theorem SameB.upd {D : Addr} {H H1 : Hp} {o : HO} (S : SameB D H H1) : SameB D H (L2.upd H1 D o) := fun b u n h => by rw [upd_ne n]; exact S b u n h
theorem SqL.same {K : PySem.W.Frag} {H H' : Hp} {a : Addr} {xs : List V} (h : SqL K H a xs) (S : Same H H') : SqL K H' a xs := by
  rcases h with (h | ⟨o, h⟩) | h
  · exact .inl (.inl (S _ _ h))
  · exact .inl (.inr ⟨o, S _ _ h⟩)
  · exact .inr h
theorem SqL.sameB {K : PySem.W.Frag} {D : Addr} {H H' : Hp} {a : Addr} {xs : List V} (h : SqL K H a xs) (S : SameB D H H') (n : a ≠ D) : SqL K H' a xs := by
  rcases h with (h | ⟨o, h⟩) | h
  · exact .inl (.inl (S _ _ n h))
  · exact .inl (.inr ⟨o, S _ _ n h⟩)
  · exact .inr h
theorem seq_asg {te : TE} {i : Nat} {u : TS} {D : Ends} {σ : St} {H : Hp} (h : te σ H fun x H1 => u D (σ.set i (some x)) H1) : tSeq (tAsg te (gName i)) u D σ H := h
theorem te_mid {t : TE} {σ : St} {H : Hp} {Q : VK} (G : V → Hp → Prop) (h : ∀ R : VK, (∀ x H', G x H' → R x H') → t σ H R) (k : ∀ x H', G x H' → Q x H') : t σ H Q := h Q k
theorem ts_mid {t u : TS} {D : Ends} {σ : St} {H : Hp} (G : St → Hp → Prop) (h : ∀ N : St → Hp → Prop, (∀ σ' H', G σ' H' → N σ' H') → t { D with nx := N } σ H) (k : ∀ σ' H', G σ' H' → u D σ' H') : tSeq t u D σ H := h _ k
theorem cut_ints (ns : List Int) (lo hi : Option Int) : ∃ ms : List Int, cutV (ns.map V.int) lo hi = ms.map V.int :=
  ⟨(ns.drop (HT.sIx (ns.map V.int).length 0 lo)).take (HT.sIx (ns.map V.int).length (ns.map V.int).length hi - HT.sIx (ns.map V.int).length 0 lo), by unfold cutV; rw [← List.map_drop, ← List.map_take]⟩
end L2

set_option Elab.async false
set_option linter.all false
set_option maxRecDepth 100000
set_option maxHeartbeats 1000000
/-! tuples whose object is known to have no dict: made, and called by their methods -/
namespace L2
open PySem PySem.Spec PyProof.Rows
/-- a tuple that this program made: its object bears no dict -/
def TupN (H : Hp) (q : Addr) (xs : List V) : Prop := ∃ o : Obj, H q = some (.frz o (.tup xs)) ∧ o.dict = none
theorem TupN.sq {K : PySem.W.Frag} {H : Hp} {q : Addr} {xs : List V} (h : TupN H q xs) : SqT K H q xs := let ⟨o, h1, _⟩ := h; .inl (.inr ⟨o, h1⟩)
theorem TupN.same {H H' : Hp} {q : Addr} {xs : List V} (h : TupN H q xs) (S : Same H H') : TupN H' q xs := let ⟨o, h1, h2⟩ := h; ⟨o, S _ _ h1, h2⟩
theorem TupN.sameB {D : Addr} {H H' : Hp} {q : Addr} {xs : List V} (h : TupN H q xs) (S : SameB D H H') (n : q ≠ D) : TupN H' q xs := let ⟨o, h1, h2⟩ := h; ⟨o, S _ _ n h1, h2⟩
section
variable {X : Cx} {o e : Expr} {es : List Expr} {to : TE} {t : TA} {name : Str} {apos cpos : Pos} {id : String} {r : V → List V → Hp → VK → Prop}
end
end L2

set_option Elab.async false
set_option linter.all false
set_option maxRecDepth 100000
set_option maxHeartbeats 1000000
/-! dicts whose keys are such tuples: found, stored, made -/
namespace L2
open PySem PySem.Spec PyProof.Rows
abbrev KAV := List (List Key × Addr × Value)
def DnR (P : Program) (w : World) (h : Heap) (d : Addr) (xs : KAV) : Prop := xs.length ≤ sizeLine ∧ (d == sysModules) = false ∧ (xs.map (·.1)).Nodup ∧
  ∃ o es ep, h.get? d = some o ∧ o.ExactDict ∧ o.data = .dict es ep ∧ es.toList = xs.map (entryOfKey (tupleKind (mixKind P w)))
/-- such a dict at d -/
def DnO (P : Program) (w : World) (d : Addr) (xs : KAV) : HO := .ext fun h => DnR P w h d xs
theorem DnR.at {P : Program} {w : World} {h h' : Heap} {d : Addr} {xs : KAV} (R : DnR P w h d xs) (k : ∀ o, h.get? d = some o → h'.get? d = some o) : DnR P w h' d xs :=
  let ⟨a, b, c, o, es, ep, e1, e2⟩ := R
  ⟨a, b, c, o, es, ep, k _ e1, e2⟩
/-- the keys stand as tuples without a dict of their own -/
def KeysN (H : Hp) (xs : KAV) : Prop := ∀ x ∈ xs, TupN H x.2.1 (x.1.map kV)
theorem KeysN.same {H H' : Hp} {xs : KAV} (h : KeysN H xs) (S : Same H H') : KeysN H' xs := fun x hx => (h x hx).same S
section
variable {X : Cx} {pins : List (Addr × Obj)} {σ : St} {H : Hp} {s : Shared} {d b : Addr} {xs : KAV} {k : List Key}
end
section
variable {X : Cx}
end
end L2

set_option Elab.async false
set_option linter.all false
set_option maxRecDepth 100000
set_option maxHeartbeats 2000000
/-! for .. in d, d.values(), d.items(): d a dict whose keys are tuples without a dict of their own -/
namespace L2
open PySem PySem.Spec PyProof.Rows
/-- keys, their places, the places of the values -/
abbrev NAV := List (List Key × Addr × Addr)
section
variable {X : Cx} {pins : List (Addr × Obj)} {σ : St} {H : Hp} {s : Shared} {d : Addr} {o : Obj} {l : NAV}
end
section
variable {P : Program} {w : World} {K : PySem.W.Frag} {tg : Expr} {d : Addr} {o : Obj} {es : Array DictEntry} {ep : Nat} {l : NAV}
end
section
variable {X : Cx} {tg e : Expr} {td : TE} {apos cpos : Pos}
end
section
variable {P : Program} {w : World} {d : Addr} {o : Obj} {l : NAV}
end
end L2

set_option Elab.async false
set_option linter.all false
set_option maxRecDepth 100000
set_option maxHeartbeats 1000000
/-! such dicts: d[k], d.get(k, x), d[k] = v, {} -/
namespace L2
open PySem PySem.Spec PyProof.Rows
def findN (l : NAV) (k : List Key) : Option (Addr × Addr) := (l.find? fun x => decide (x.1 = k)).map (·.2)
def putN (l : NAV) (k : List Key) (b a : Addr) : NAV := if (findN l k).isSome = true then l.map (fun x => if x.1 = k then (x.1, x.2.1, a) else x) else l ++ [(k, b, a)]
/-- the keys stand -/
def KeysD (H : Hp) (l : NAV) : Prop := ∀ x ∈ l, TupN H x.2.1 (x.1.map kV)
theorem KeysD.same {H H' : Hp} {l : NAV} (h : KeysD H l) (S : Same H H') : KeysD H' l := fun x hx => (h x hx).same S
theorem KeysD.sameB {D : Addr} {H H' : Hp} {l : NAV} {P : Program} {w : World} {m : KAV} (h : KeysD H l) (S : SameB D H H') (hD : H D = some (DnO P w D m)) : KeysD H' l := fun x hx => (h x hx).sameB S fun e => by
  obtain ⟨o, h1, _⟩ := h x hx
  rw [e, hD] at h1
  cases h1
theorem KeysD.put {H : Hp} {l : NAV} {k : List Key} {b a : Addr} (h : KeysD H l) (hb : TupN H b (k.map kV)) : KeysD H (putN l k b a) := by
  unfold putN
  split
  · intro x hx
    obtain ⟨y, hy, rfl⟩ := List.mem_map.mp hx
    by_cases e : y.1 = k
    · rw [if_pos e]; exact h y hy
    · rw [if_neg e]; exact h y hy
  · intro x hx
    rcases List.mem_append.mp hx with hx | hx
    · exact h x hx
    · rw [List.mem_singleton.mp hx]; exact hb
section
variable {X : Cx} {o e f : Expr} {apos cpos pos : Pos} {td ty tx : TE}
end
end L2

set_option Elab.async false
set_option linter.all false
set_option maxRecDepth 100000
set_option maxHeartbeats 2000000
/-! {k: v for target in iter if ..} whose keys are tuples; items() of such a dict. -/
namespace L2
open PySem PySem.Spec PyProof.Rows
section
variable {X : Cx} {kx vx tg iter : Expr} {ifs : List Expr} {scope : Scope} {own : List (Str × Nat)} {pos : Pos} {wi : TI} {g : TG} {tt : TT} {tk tv : TE}
/-- a comprehension's block may be read in any state of the block's own context -/
structure BlkRN (X : Cx) (tg kx vx : Expr) (ifs : List Expr) (scope : Scope) (g : TG) (tt : TT) (tk tv : TE) : Prop where
  tg : ∀ (s : Shared) (H : Hp) (C : Addr) (cl : List (Str × Addr)) (fp : List Addr), PG (X.blk s H scope (compEnvC scope cl C X.env) fp) tg g
  ifs : ∀ (s : Shared) (H : Hp) (C : Addr) (cl : List (Str × Addr)) (fp : List Addr), PTs (X.blk s H scope (compEnvC scope cl C X.env) fp) ifs tt
  key : ∀ (s : Shared) (H : Hp) (C : Addr) (cl : List (Str × Addr)) (fp : List Addr), PE (X.blk s H scope (compEnvC scope cl C X.env) fp) kx tk
  val : ∀ (s : Shared) (H : Hp) (C : Addr) (cl : List (Str × Addr)) (fp : List Addr), PE (X.blk s H scope (compEnvC scope cl C X.env) fp) vx tv
end
end L2

set_option Elab.async false
set_option linter.all false
set_option maxRecDepth 100000
set_option maxHeartbeats 1000000
/-! {k: v}, k a tuple without a dict of its own; (a, b) as such a tuple -/
namespace L2
open PySem PySem.Spec PyProof.Rows
section
variable {X : Cx} {k v : Expr} {tk tv : TE} {pos : Pos}
end
end L2

set_option Elab.async false
set_option linter.all false
set_option maxRecDepth 100000
/-! Forms as lists of (letters, coefficient): the mathematics. -/
namespace L2
open PySem PySem.Spec PyProof.Rows
theorem rat_num (q : Rat) : (q.num : Rat) = q * (q.den : Rat) := by
  have h := Rat.num_divInt_den q
  rw [Rat.divInt_eq_div] at h
  have hd : ((q.den : Int) : Rat) ≠ 0 := by
    intro e
    have := Rat.intCast_inj.mp (e.trans (by rfl : (0 : Rat) = ((0 : Int) : Rat)))
    have := q.den_nz
    omega
  rw [Rat.intCast_natCast] at h hd
  grind
/-- a fraction's tuple -/
def frac (x : Rat) : List V := [.int x.num, .int x.den]
/-- q is z over D, z no more than M -/
def Bq (D M : Nat) (q : Rat) : Prop := ∃ z : Int, q * (D : Rat) = (z : Rat) ∧ z.natAbs ≤ M
theorem Bq.den {D M : Nat} {q : Rat} (h : Bq D M q) : q.den ∣ D := by
  obtain ⟨z, e, _⟩ := h
  have h1 : q.num * (D : Int) = z * (q.den : Int) := by
    have e1 : (q.num : Rat) = q * (q.den : Rat) := rat_num q
    have : ((q.num * (D : Int) : Int) : Rat) = ((z * (q.den : Int) : Int) : Rat) := by
      rw [Rat.intCast_mul, Rat.intCast_mul, e1, Rat.intCast_natCast, Rat.intCast_natCast, ← e]
      grind
    exact Rat.intCast_inj.mp this
  have h2 : q.den ∣ q.num.natAbs * D := by
    have h3 : (q.den : Int) ∣ q.num * (D : Int) := ⟨z, by rw [h1, Int.mul_comm]⟩
    have h4 := Int.natAbs_dvd_natAbs.mpr h3
    rwa [Int.natAbs_mul, Int.natAbs_natCast, Int.natAbs_natCast] at h4
  exact Nat.Coprime.dvd_of_dvd_mul_left (Nat.Coprime.symm q.reduced) h2
theorem Bq.mono {D M M' : Nat} {q : Rat} (h : Bq D M q) (hM : M ≤ M') : Bq D M' q := let ⟨z, e, l⟩ := h; ⟨z, e, Nat.le_trans l hM⟩
theorem Bq.add {D M N : Nat} {p q : Rat} (h : Bq D M p) (k : Bq D N q) : Bq D (M + N) (p + q) := by
  obtain ⟨z, e, l⟩ := h
  obtain ⟨y, f, m⟩ := k
  refine ⟨z + y, ?_, ?_⟩
  · rw [Rat.intCast_add, ← e, ← f]; grind
  · have := Int.natAbs_add_le z y; omega
theorem Bq.zero {D : Nat} : Bq D 0 0 := ⟨0, by rw [Rat.zero_mul]; rfl, Nat.le_refl _⟩
theorem Bq.int {n : Int} : Bq 1 n.natAbs (n : Rat) := ⟨n, by grind, Nat.le_refl _⟩
end L2

set_option Elab.async false
set_option linter.all false
set_option maxRecDepth 100000
set_option maxHeartbeats 1000000
/-! A form's dict: keys and fractions. -/
namespace L2
open PySem PySem.Spec PyProof.Rows
abbrev Mon := List Str
abbrev Fm := List (Mon × Rat)
def kS (m : Mon) : List Key := m.map Sum.inr
theorem kS_inj {m n : Mon} (h : kS m = kS n) : m = n := by
  unfold kS at h
  exact (List.map_inj_right (fun a b e => Sum.inr.inj e)).mp h
/-- what holds of tuples in H holds in H' -/
structure Mv (K : PySem.W.Frag) (H H' : Hp) : Prop where
  sq : ∀ a xs, SqT K H a xs → SqT K H' a xs
  tn : ∀ q xs, TupN H q xs → TupN H' q xs
/-- the dict's items are the form's terms -/
def FmKv (K : PySem.W.Frag) (H : Hp) (l : NAV) (fm : Fm) : Prop := Paired (fun e mq => e.1 = kS mq.1 ∧ TupN H e.2.1 (e.1.map kV) ∧ SqT K H e.2.2 (frac mq.2)) l fm
def valM (fm : Fm) (m : Mon) : Option Rat := (fm.find? fun x => decide (x.1 = m)).map (·.2)
def putM (fm : Fm) (m : Mon) (q : Rat) : Fm := if (fm.any fun x => decide (x.1 = m)) = true then fm.map (fun x => if x.1 = m then (x.1, q) else x) else fm ++ [(m, q)]
theorem SqT.same {K : PySem.W.Frag} {H H' : Hp} {a : Addr} {xs : List V} (h : SqT K H a xs) (S : Same H H') : SqT K H' a xs := by
  rcases h with (h | ⟨o, h⟩) | h
  · exact .inl (.inl (S _ _ h))
  · exact .inl (.inr ⟨o, S _ _ h⟩)
  · exact .inr h
theorem SqT.off {K : PySem.W.Frag} {H : Hp} {a d : Addr} {xs : List V} {u v : HO} (h : SqT K H a xs) (hd : H d = some u) (n1 : u ≠ .tup xs) (n2 : ∀ o, u ≠ .frz o (.tup xs)) : SqT K (upd H d v) a xs := by
  rcases h with (h | ⟨o, h⟩) | h
  · refine .inl (.inl ?_)
    rw [upd_ne]
    · exact h
    · rintro rfl
      rw [hd] at h
      exact n1 (Option.some.inj h)
  · refine .inl (.inr ⟨o, ?_⟩)
    rw [upd_ne]
    · exact h
    · rintro rfl
      rw [hd] at h
      exact n2 o (Option.some.inj h)
  · exact .inr h
theorem TupN.off {H : Hp} {q d : Addr} {xs : List V} {u v : HO} (h : TupN H q xs) (hd : H d = some u) (n2 : ∀ o, u ≠ .frz o (.tup xs)) : TupN (upd H d v) q xs := by
  obtain ⟨o, h1, h2⟩ := h
  refine ⟨o, ?_, h2⟩
  rw [upd_ne]
  · exact h1
  · rintro rfl
    rw [hd] at h1
    exact n2 o (Option.some.inj h1)
/-- no tuple, locked or not -/
def NoTup (u : HO) : Prop := (∀ xs, u ≠ .tup xs) ∧ ∀ o xs, u ≠ .frz o (.tup xs)
theorem Mv.refl {K : PySem.W.Frag} (H : Hp) : Mv K H H := ⟨fun _ _ h => h, fun _ _ h => h⟩
theorem Mv.trans {K : PySem.W.Frag} {H H' H'' : Hp} (a : Mv K H H') (b : Mv K H' H'') : Mv K H H'' := ⟨fun x y h => b.sq x y (a.sq x y h), fun x y h => b.tn x y (a.tn x y h)⟩
theorem Mv.same {K : PySem.W.Frag} {H H' : Hp} (S : Same H H') : Mv K H H' := ⟨fun _ _ h => h.same S, fun _ _ h => h.same S⟩
theorem Mv.off {K : PySem.W.Frag} {H : Hp} {d : Addr} {u v : HO} (hd : H d = some u) (n : NoTup u) : Mv K H (upd H d v) := ⟨fun _ xs h => h.off hd (n.1 xs) fun o => n.2 o xs, fun _ xs h => h.off hd fun o => n.2 o xs⟩
theorem Mv.sameB {K : PySem.W.Frag} {D : Addr} {H H' : Hp} {u : HO} (S : SameB D H H') (hD : H D = some u) (n : NoTup u) : Mv K H H' := ⟨fun a xs h => by
  rcases h with (h | ⟨o, h⟩) | h
  · exact .inl (.inl (S _ _ (fun e => by rw [e, hD] at h; exact n.1 xs (Option.some.inj h)) h))
  · exact .inl (.inr ⟨o, S _ _ (fun e => by rw [e, hD] at h; exact n.2 o xs (Option.some.inj h)) h⟩)
  · exact .inr h, fun q xs h => by
  obtain ⟨o, h1, h2⟩ := h
  exact ⟨o, S _ _ (fun e => by rw [e, hD] at h1; exact n.2 o xs (Option.some.inj h1)) h1, h2⟩⟩
section
variable {K : PySem.W.Frag} {H H' : Hp} {l : NAV} {fm : Fm}
theorem FmKv.imp (h : FmKv K H l fm) (f : Mv K H H') : FmKv K H' l fm := Paired.mapP h fun _ _ z => ⟨z.1, f.tn _ _ z.2.1, f.sq _ _ z.2.2⟩
theorem FmKv.same (h : FmKv K H l fm) (S : Same H H') : FmKv K H' l fm := h.imp (.same S)
theorem FmKv.length (h : FmKv K H l fm) : l.length = fm.length := Paired.length h
theorem FmKv.keys (h : FmKv K H l fm) : KeysD H l := by
  unfold FmKv at h
  induction h with
  | nil => intro x hx; exact absurd hx List.not_mem_nil
  | cons r t ih =>
    intro x hx
    rcases List.mem_cons.mp hx with rfl | hx
    · exact r.2.1
    · exact ih x hx
theorem findN_hit {x : List Key × Addr × Addr} {r : NAV} {k : List Key} (e : x.1 = k) : findN (x :: r) k = some x.2 := by simp [findN, List.find?_cons, e]
theorem findN_miss {x : List Key × Addr × Addr} {r : NAV} {k : List Key} (e : ¬ x.1 = k) : findN (x :: r) k = findN r k := by simp [findN, List.find?_cons, e]
theorem FmKv.val (h : FmKv K H l fm) (m : Mon) : (findN l (kS m) = none ∧ valM fm m = none) ∨ ∃ b a q, findN l (kS m) = some (b, a) ∧ valM fm m = some q ∧ SqT K H a (frac q) := by
  unfold FmKv at h
  induction h with
  | nil => exact .inl ⟨rfl, rfl⟩
  | @cons p x ps xs r t ih =>
    obtain ⟨e, _, sa⟩ := r
    by_cases c : x.1 = m
    · exact .inr ⟨p.2.1, p.2.2, x.2, findN_hit (by rw [e, c]), by simp [valM, List.find?_cons, c], sa⟩
    · rw [findN_miss fun z => c (kS_inj (e.symm.trans z)), show valM (x :: xs) m = valM xs m by simp [valM, List.find?_cons, c]]
      exact ih
theorem FmKv.any (h : FmKv K H l fm) (m : Mon) : (findN l (kS m)).isSome = (fm.any fun x => decide (x.1 = m)) := by
  unfold FmKv at h
  induction h with
  | nil => rfl
  | @cons p x ps xs r t ih =>
    rw [List.any_cons]
    by_cases c : x.1 = m
    · rw [findN_hit (by rw [r.1, c]), decide_eq_true c]
      rfl
    · rw [findN_miss fun z => c (kS_inj (r.1.symm.trans z)), ih, decide_eq_false c, Bool.false_or]
theorem FmKv.put (h : FmKv K H l fm) (m : Mon) {q : Rat} {b a : Addr} (hb : TupN H b ((kS m).map kV)) (sa : SqT K H a (frac q)) : FmKv K H (putN l (kS m) b a) (putM fm m q) := by
  unfold putN putM
  rw [h.any m]
  split
  · have e : ∀ {l : NAV} {n : Fm}, FmKv K H l n → FmKv K H (l.map fun x => if x.1 = kS m then (x.1, x.2.1, a) else x) (n.map fun x => if x.1 = m then (x.1, q) else x) := by
      intro l n g
      unfold FmKv at g ⊢
      induction g with
      | nil => exact .nil
      | @cons p x ps xs r t ih =>
        rw [List.map_cons, List.map_cons]
        refine .cons ?_ ih
        by_cases c : x.1 = m
        · rw [if_pos c, if_pos (by rw [r.1, c])]
          exact ⟨r.1, r.2.1, sa⟩
        · rw [if_neg c, if_neg fun z => c (kS_inj (r.1.symm.trans z))]
          exact r
    exact e h
  · exact Paired.snoc h ⟨rfl, hb, sa⟩
theorem FmKv.get (h : FmKv K H l fm) {i : Nat} {e : List Key × Addr × Addr} (g : l[i]? = some e) : ∃ m q b a, fm[i]? = some (m, q) ∧ e = (kS m, b, a) ∧ TupN H b ((kS m).map kV) ∧ SqT K H a (frac q) := by
  obtain ⟨b, hb, e1, e2, sa⟩ := paired_get h g
  exact ⟨b.1, b.2, e.2.1, e.2.2, hb, Prod.ext e1 rfl, by rw [← e1]; exact e2, sa⟩
end
theorem same_back {H H' : Hp} {d : Addr} {u z : HO} (hd : H d = some u) (S : Same (upd H d z) H') : Same H (upd H' d u) := by
  intro b o e
  by_cases c : b = d
  · subst c
    rw [upd_same]
    rw [hd] at e
    exact e
  · rw [upd_ne c]
    exact S b o (by rw [upd_ne c]; exact e)
end L2

set_option Elab.async false
set_option linter.all false
set_option maxRecDepth 100000
set_option maxHeartbeats 1000000
/-! lambda x: (len(x), x), called with a tuple of texts -/
namespace L2
open PySem PySem.Spec PySem.Calls PyProof.Rows PySem.W
section
variable {prog : Program} {w : World} {A : Around} {s : Shared}
end
end L2

set_option Elab.async false
set_option linter.all false
set_option maxRecDepth 100000
set_option maxHeartbeats 1000000
/-! lambda row: len(row[2]), called with a tuple whose third item is a list; sorted by it -/
namespace L2
open PySem PySem.Spec PySem.Calls PyProof.Rows PySem.W
abbrev lpPar (p : Pos) : Arguments := { posonlyargs := [], args := [{ arg := "row", annotation := none, pos := p }], vararg := none, kwonlyargs := [], kw_defaults := [], kwarg := none, defaults := [] }
abbrev lpBody (p1 p2 p3 p4 p5 : Pos) : Expr := .Call (.Name "len" p1) [.Subscript (.Name "row" p2) (.Constant (.int 2) 0 p3) p4] [] p5
abbrev lpScope : Scope := { kind := .function, names := [("row", .local), ("len", .globalImplicit)], isGenerator := false, isCoroutine := false, more := [] }
section
variable {prog : Program} {w : World} {A : Around} {s : Shared}
theorem lam_keyP {p p1 p2 p3 p4 p5 : Pos} {f c' t l : Addr} {qual : Str} {pm ctv : Value} {mg mb : Str → Option Value} {its : Array Value} {xs : Array Value}
    (hroom : A.depth < recursionLimit) (hf : s.heap.get? f = some (kla_obj "<lambda>" qual (lpPar p) (lpBody p1 p2 p3 p4 p5) lpScope [] pm c' ctv)) (hcd : s.heap.CodeRec (.ref c') qual) (hnl : s.heap.NoLimit)
    (hg : s.heap.Ns mainGlobals mg) (hlen : mg "len" = none) (hb : s.heap.Ns builtinsNs mb) (hmb : mb "len" = some (.builtin "len")) (ht : IsTup s.heap t its) (hx : its[2]? = some (.ref l)) (hsz : its.size = 3) (hl : s.heap.IsList l xs) (small : xs.size ≤ sizeLine) :
    wpAny (model prog w) A (call (.ref f) [.ref t]) (KeyPure (.int (xs.size : Int)) s) (fun _ _ => False) s := by
  refine wpAny_call (kla_callFunE hroom hf rfl rfl rfl rfl hcd ?_)
  rw [show bindArgs (kla_fn "<lambda>" qual (lpPar p) (lpBody p1 p2 p3 p4 p5) lpScope [] pm (.ref c') ctv) ⟨[Value.ref t], []⟩ = pure [(("row" : Str), Value.ref t)] from rfl]
  refine wpAny_pure (wpAny_newFunctionEnv (fun y hy => ?_) (fun y hy => ?_) (fun h₁ hns hsb => ⟨hnl.fresh _ hsb, ?_⟩) rfl)
  · intro z
    simp only [List.mem_cons, List.not_mem_nil, or_false] at hy
    rcases hy with rfl | rfl <;> cases z
  · rw [List.mem_singleton.mp hy]
    rfl
  have kp : ∀ b o, s.heap.get? b = some o → h₁.get? b = some o := fun b o e => (hsb.2 b (Nat.ne_of_lt (Heap.lt_size e))).trans (Heap.get?_push_of_some _ e)
  refine kla_codeExpr ?_
  generalize henv : newEnv (kla_fn "<lambda>" qual (lpPar p) (lpBody p1 p2 p3 p4 p5) lpScope [] pm (.ref c') ctv).scope s.heap.objs.size _ _ _ _ _ _ _ = env
  have name : ∀ {A' : Around} {pos : Pos} {s1 : Shared} {Q : Value → Shared → Prop} {E : Value → Shared → Prop}, s1.heap = h₁ → Q (.ref t) s1 → wpAny (model prog w) A' (eval (.Name "row" pos) env) Q E s1 := fun e q =>
    wpAny_Name (wpAny_loadName_local (by rw [← henv]; rfl) (by rw [← henv]; rfl) (by rw [e, ← henv]; exact hns) (by rfl) q) (by decide)
  have sl : xs.size < 2 ^ 63 := Nat.lt_of_le_of_lt small (by rw [sizeLine_eq]; decide)
  refine wpAny_Call_Name_kw (Name_function_global (by rw [← henv]; rfl) (by rw [← henv]; rfl) (loadGlobal_builtin (mg := mg) (mb := mb) (by rw [← henv]; exact hg.keeps kp) hlen (by rw [← henv]; exact hb.keeps kp) hmb ?_))
  refine callWith_builtin1 (wpAny_Subscript_Constant_late (name rfl (fun _ _ _ => ?_)))
  refine ⟨"tuple", _, slot_tuple_getitem.lookup, ?_, ?_⟩
  · obtain ⟨o, ho, hc, _⟩ := ht
    exact ⟨o, kp _ _ ho, hc⟩
  refine getItem_tuple (j := 2) (items := its) (let ⟨o, ho, r⟩ := ht; ⟨o, kp _ _ ho, r⟩) (by decide) (by decide) (by rw [hsz]; rfl) hx ?_
  refine Calls.call_len_list (items := xs) (let ⟨o, ho, r⟩ := hl; ⟨o, kp _ _ ho, r⟩) (by omega) ?_
  exact ⟨_, _, rfl, kp, .int _ _⟩
end
end L2

set_option Elab.async false
set_option linter.all false
set_option maxRecDepth 100000
set_option maxHeartbeats 1000000
/-! sorted(xs, key=lambda row: len(row[2])), xs a list of tuples of three -/
namespace L2
open PySem PySem.Spec PySem.Calls PyProof.Rows
open PySem.W (dataLe AllAlike Sortable EachIs)
open LamX (Tabs ExtN TabB CodeO)
def NewT (H : Hp) (p : Addr) : Prop := ∀ o, H p = some o → ∃ ps, o = .tbl ps
theorem SqL.extN {K : PySem.W.Frag} {H H' : Hp} {a : Addr} {xs : List V} (h : SqL K H a xs) (S : ExtN H H') : SqL K H' a xs := by
  rcases h with (h | ⟨o, h⟩) | h
  · exact .inl (.inl (S _ _ h fun _ z => nomatch z))
  · exact .inl (.inr ⟨o, S _ _ h fun _ z => nomatch z⟩)
  · exact .inr h
theorem SqT.extN {K : PySem.W.Frag} {H H' : Hp} {a : Addr} {xs : List V} (h : SqT K H a xs) (S : ExtN H H') : SqT K H' a xs := by
  rcases h with (h | ⟨o, h⟩) | h
  · exact .inl (.inl (S _ _ h fun _ z => nomatch z))
  · exact .inl (.inr ⟨o, S _ _ h fun _ z => nomatch z⟩)
  · exact .inr h
section
variable {β : Type} (ad : β → Addr) (ln : β → Nat)
/-- in the order of the lengths, those of one length in the order they had -/
def sortB (xs : List β) : List β := xs.mergeSort (dataLe false fun x => .int (ln x : Int))
end
section
variable {β : Type} {ad : β → Addr} {ln : β → Nat}
theorem each_of_vals {ams : List β} {its : List Value} (r : Vals (ams.map fun x => V.ref (ad x)) its) : EachIs (fun (v : Value) (x : β) => v = Value.ref (ad x)) its ams := by
  induction ams generalizing its with
  | nil => cases r; exact .nil
  | cons x xs ih =>
    cases r with
    | cons h t => exact .cons h (ih t)
theorem vals_of_each {ams : List β} {out : List Value} (e : EachIs (fun (v : Value) (x : β) => v = Value.ref (ad x)) out ams) : Vals (ams.map fun x => V.ref (ad x)) out := by
  induction e with
  | nil => exact .nil
  | cons h t ih => exact .cons h ih
end
def tSortP {β : Type} (ad : β → Addr) (ln : β → Nat) (T : List (Addr × Str)) (K : PySem.W.Frag) (te : TE) : TE := fun σ H Q => te σ H fun v H1 => ∃ (l : Addr) (ams : List β), v = .ref l ∧ SqL K H1 l (ams.map fun x => V.ref (ad x)) ∧ (∀ x ∈ ams, ∃ (a b : V) (c : Addr) (zs : List V), SqT K H1 (ad x) [a, b, .ref c] ∧ SqL K H1 c zs ∧ zs.length = ln x) ∧ ams.length ≤ sizeLine ∧ Tabs T H1 ∧
  ∀ (H2 : Hp) (p : Addr), ExtN H1 H2 → Tabs T H2 → NewT H1 p → H2 p = some (.lst ((sortB ln ams).map fun x => V.ref (ad x))) → Q (.ref p) H2
section
variable {X : Cx} {e : Expr} {te : TE} {T : List (Addr × Str)} {c P : Addr} {p p1 p2 p3 p4 p5 p6 q kpos pos : Pos} {β : Type} {ad : β → Addr} {ln : β → Nat}
theorem pe_sortedP (hr : Room 0 X.A) (hg : Gl X "sorted") (hm : X.mg "sorted" = none) (hlen : X.mg "len" = none) (TB : TabB X.base X.mg c P) (hcode : X.env.code = .ref c) (hmT : (P, X.env.qual ++ "<lambda>") ∈ T) (hu : ∀ p ∈ T, p.1 = P → p.2 = X.env.qual ++ "<lambda>") (he : PE X e te)
    (hes : backTo pos (starEach [e] X.env) = (false, eval e X.env) :: backTo pos (starEach [] X.env) := by rfl) (hpl : (backTo pos (starEach [e] X.env)).any (·.1) = false := by rfl) :
    PE X (.Call (.Name "sorted" q) [e] [⟨some "key", .Lambda (lpPar p) (lpBody p1 p2 p3 p4 p5) lpScope p6, kpos⟩] pos) (tSortP ad ln T X.K te) := by
  refine ⟨fun pins s σ H Q I h => ?_⟩
  refine wpAny_Call_Name_kw (ld_blt (u := .builtin "sorted") I hg hm (by decide +kernel) ?_)
  refine callWith_kw ?_ hes hpl rfl rfl
  rw [hes]
  refine spliced_cons (thn (he.run pins s σ H _ I h) fun u s1 ⟨v, H1, I1, rv, l, ams, ev, hl, ht, hz, tb, q⟩ => spliced_nil ?_)
  subst ev
  obtain rfl : u = Value.ref l := rv
  show wpAny _ _ (evalAll [do let v ← eval (.Lambda (lpPar p) (lpBody p1 p2 p3 p4 p5) lpScope p6) X.env; standAt pos; pure v]) _ _ s1
  refine wpAny_evalAll_cons (wpAny_bind (LamX.lam_make2 I1 TB hcode hmT hu tb rfl (fun y hy z => ?_) fun f c' pm ctv H2 s2 I2 ex tb2 hf nf _ hc => wpAny_bind (wpAny_standAt (wpAny_pure (wpAny_evalAll_nil ?_)))))
  · simp only [List.mem_cons, List.not_mem_nil, or_false] at hy
    rcases hy with rfl | rfl <;> cases z
  show wpAny _ _ (call (.builtin "sorted") [.ref l] [(Str.ofString "key", .ref f)]) _ _ s2
  obtain ⟨its, rl, pl, hz2⟩ := I2.list (hl.extN ex)
  have lits := rl.length
  rw [List.length_map] at lits
  obtain ⟨⟨oc, vs, tq, hoc, hd, hv⟩, _, _⟩ := I2.hok c' _ hc
  obtain ⟨mb, hb1, hb2⟩ := I2.mod.blt
  refine PySem.W.sorted_key_data (b := false) (fun x : β => PyData.int (ln x : Int)) pl.isList (each_of_vals rl) (fun d hd d' hd' => ?_) (.inr fun d hd => ?_) hz (fun x _ => ?_) (PyProof.Rows.ksk_s1 _ _) (fun x => PyProof.Rows.ksk_l1 _ _) (fun x => PyProof.Rows.ksk_t1 _ _) (fun v x hR hx h tk kp => ?_) fun out cc h' tk kp n0 hp lo eo => ?_
  · obtain ⟨x, _, rfl⟩ := List.mem_map.mp hd
    obtain ⟨y, _, rfl⟩ := List.mem_map.mp hd'
    rfl
  · obtain ⟨x, _, rfl⟩ := List.mem_map.mp hd
    exact ⟨nofun, fun _ => nofun⟩
  · have := hr.un
    show X.A.units + 2 + PyData.depth (.int _) < cLine
    simp [PyData.depth]
    omega
  · subst hR
    obtain ⟨a1, b1, c1, zs, hx1, hx2, hx3⟩ := ht x hx
    have I3 : Inv X pins σ H2 { s2 with heap := h, toks := tk } := I2.kept kp
    obtain ⟨its2, rv2, tp, hz3⟩ := I3.tuple (hx1.extN ex)
    obtain ⟨its3, rv3, lp, hz4⟩ := I3.list (hx2.extN ex)
    have l2 := rv2.length
    have l3 := rv3.length
    have i2 : its2.toArray[2]? = some (.ref c1) := by
      cases rv2 with
      | cons _ r => cases r with
        | cons _ r => cases r with
          | cons h r => cases h; rfl
    have e4 : (ln x : Int) = (its3.toArray.size : Int) := by rw [List.size_toArray, ← l3, hx3]
    rw [e4]
    exact lam_keyP (s := { s2 with heap := h, toks := tk }) hr.depth (kp _ _ hf) ⟨c', oc, vs, tq, rfl, kp _ _ hoc, hd, hv⟩ I3.nolimit (I3.mod.glob.keeps I3.bk) hlen (hb1.keeps I3.bk) ((hb2 _ (by decide)).trans (by decide +kernel)) (let ⟨o, ho, hc, n, hd⟩ := tp; ⟨o, ho, hc, n, hd⟩) i2 (by rw [List.size_toArray, ← l2]; rfl) lp.isList (by rw [List.size_toArray, ← l3]; exact hz4)
  · have lo2 : (sortB ln ams).length ≤ sizeLine := by unfold sortB; rw [List.length_mergeSort]; exact hz
    refine ⟨.ref (s2.heap.objs.size + 1), _, I2.laid (t' := tk) (o := .lst ((sortB ln ams).map fun x => V.ref (ad x))) kp (Nat.le_succ _) ⟨by rw [List.length_map]; exact lo2, _, cc, vals_of_each eo, hp⟩, rfl, ?_⟩
    have np : H2 (s2.heap.objs.size + 1) = none := I2.hok.fresh (Nat.le_succ _)
    have up : ExtN H2 (upd H2 (s2.heap.objs.size + 1) (.lst ((sortB ln ams).map fun x => V.ref (ad x)))) := ExtN.of fun b o e => by rw [upd_ne (ne_of_none e np)]; exact e
    refine q _ _ (ex.trans up) (tb2.ext fun b o e => by rw [upd_ne (ne_of_none e np)]; exact e) ?_ upd_same
    intro o e1
    apply Classical.byContradiction
    intro no
    have z := ex _ _ e1 fun ps e2 => no ⟨ps, e2⟩
    rw [np] at z
    cases z
end
end L2

set_option Elab.async false
set_option linter.all false
set_option maxRecDepth 100000
set_option maxHeartbeats 1000000
/-! {names: .. for .. in a form's dict} -/
namespace L2
open PySem PySem.Spec PyProof.Rows
theorem take_snoc {α : Type} {l : List α} {i : Nat} {x : α} (h : l[i]? = some x) : l.take (i + 1) = l.take i ++ [x] := by
  rw [List.take_succ, h]
  rfl
end L2

set_option Elab.async false
set_option linter.all false
set_option maxRecDepth 100000
set_option maxHeartbeats 2000000
/-! sorted of a set of texts; a set of texts from a form's terms -/
namespace L2
open PySem PySem.Spec PyProof.Rows
def rSortedSS (P : Program) (w : World) : List V → Hp → VK → Prop := fun vs H Q => ∃ (a : Addr) (ks : List Str), vs = [V.ref a] ∧ H a = some (SetSO P w a ks) ∧ ∀ ys : List Str, ys.Perm ks → ks.Nodup → sortedS ys = true → NewQ H (.lst (ys.map V.str)) Q
theorem cr_sortedSS {X : Cx} (hc : X.calm = true) : CallR X (.builtin "sorted") (rSortedSS X.prog X.w) := by
  intro pins s σ H vs us Q I r h
  obtain ⟨a, ks, rfl, ha, q⟩ := h
  have R := setSO_get I ha
  rw [Vals.ref1 r]
  refine setS_sorted R (I.ok.hd hc) fun s' p out c ys kp gn os pn ho ss pm so => ?_
  obtain ⟨_, es, _, _, _, _, _, _, pm0, nd, hb, _⟩ := R
  have lk : ks.length = es.size := by rw [← pm0.length_eq, List.length_map, Array.length_toList]
  have hlen : (ys.map V.str).length ≤ sizeLine := by
    rw [List.length_map, pm.length_eq, lk]
    exact fits_of_scanBound hb
  have I2 : Inv X pins σ (upd H p (.lst (ys.map V.str))) { s with heap := s'.heap, toks := s.toks } := I.laid (t' := s.toks) kp pn ⟨hlen, _, c, vals_of_strs ss, ho⟩
  have I3 : Inv X pins σ (upd H p (.lst (ys.map V.str))) s' := I2.call' (ch := []) os (Un.kept fun _ _ e => e) (I2.hok.kept fun _ _ e => e) (by rw [gn]; exact I2.bare) (fun _ z => nomatch z)
  exact ⟨.ref p, _, I3, rfl, (q ys pm nd so).at (I.hok.fresh pn)⟩
theorem mem_putS {ks : List Str} {x z : Str} : x ∈ putS ks z ↔ x ∈ ks ∨ x = z := by
  unfold putS
  split
  · rename_i h
    exact ⟨.inl, fun q => q.elim id fun e => e ▸ h⟩
  · rw [List.mem_cons]
    exact ⟨fun q => q.elim .inr .inl, fun q => q.elim .inr .inl⟩
theorem len_putS (ks : List Str) (z : Str) : (putS ks z).length ≤ ks.length + 1 := by
  unfold putS
  split
  · exact Nat.le_succ _
  · exact Nat.le_refl _
/-- these texts, laid one by one -/
def putAll (ks xs : List Str) : List Str := xs.foldl putS ks
theorem mem_putAll : ∀ {xs ks : List Str} {x : Str}, x ∈ putAll ks xs ↔ x ∈ ks ∨ x ∈ xs
  | [], ks, x => by simp [putAll]
  | z :: xs, ks, x => by
    show x ∈ putAll (putS ks z) xs ↔ _
    rw [mem_putAll, mem_putS, List.mem_cons, or_assoc]
theorem len_putAll : ∀ (xs ks : List Str), (putAll ks xs).length ≤ ks.length + xs.length
  | [], ks => Nat.le_refl _
  | z :: xs, ks => by
    have h1 := len_putAll xs (putS ks z)
    have h2 := len_putS ks z
    show (putAll (putS ks z) xs).length ≤ _
    rw [List.length_cons]
    omega
theorem putAllS_snoc (ks xs : List Str) (z : Str) : putS (putAll ks xs) z = putAll ks (xs ++ [z]) := by unfold putAll; rw [List.foldl_append]; rfl
theorem putAll_nodup {xs : List Str} : ∀ {ks : List Str}, xs.Nodup → (∀ x ∈ xs, x ∉ ks) → (putAll ks xs).length = ks.length + xs.length := by
  induction xs with
  | nil => intro ks _ _; rfl
  | cons z xs ih =>
    intro ks nd h
    have hz := h z List.mem_cons_self
    obtain ⟨n1, n2⟩ := List.nodup_cons.mp nd
    have e : putS ks z = z :: ks := by unfold putS; rw [if_neg hz]
    show (putAll (putS ks z) xs).length = _
    rw [e, ih n2 fun x hx => ?_]
    · rw [List.length_cons, List.length_cons]; omega
    · intro q
      rcases List.mem_cons.mp q with rfl | q
      · exact n1 hx
      · exact h x (List.mem_cons_of_mem _ hx) q
/-- len of a set of texts -/
theorem cr_lenSS {X : Cx} : CallR X (.builtin "len") (fun vs H Q => ∃ (a : Addr) (ks : List Str), vs = [V.ref a] ∧ H a = some (SetSO X.prog X.w a ks) ∧ Q (.int (ks.length : Nat)) H) := by
  intro pins s σ H vs us Q I r h
  obtain ⟨a, ks, rfl, ha, q⟩ := h
  obtain ⟨o, es, ep, t, ho, hex, hd, _, pm, _, hb, hf, _⟩ := setSO_get I ha
  rw [Vals.ref1 r]
  have lk : es.size = ks.length := by rw [← pm.length_eq, List.length_map, Array.length_toList]
  have hb' := fits_of_scanBound hb
  have := line63
  refine call_len_set ho hex hd hf (by omega) ⟨.int ks.length, H, I.tok _, ⟨_, by rw [lk]⟩, q⟩
end L2

set_option Elab.async false
set_option linter.all false
set_option maxRecDepth 100000
/-! set(xs), xs a list of texts -/
namespace L2
open PySem PySem.Spec PyProof.Rows
abbrev nSetT (w : World) : Obj := { cls := .type "set", dict := none, data := .set #[] 0 (.fresh 0 0 (!w.params.followText "set-order")) }
section
variable {P : Program} {w : World} {A : Around} {E : Value → Shared → Prop} {s : Shared} {l : Addr} {items : Array Value} {xs : List Str}
theorem setS_new_at {h : Heap} {a : Addr} (ho : h.get? a = some (nSetT w)) : SetS P w h a [] := by
  refine ⟨_, #[], 0, _, ho, ⟨rfl, rfl, rfl⟩, rfl, fun e he => absurd he (by simp), .nil, List.nodup_nil, by decide, rfl, List.Pairwise.nil, ?_⟩
  cases c : w.params.followText "set-order" with
  | true => exact .inl rfl
  | false => exact .inr rfl
theorem set_update_strs {I : Addr} {fp wr : List Addr} {G : Array GenState → Array GenState → Prop} {n : Nat} {Pv : Nat → Value → Prop} {St : Nat → Shared → Prop} {R : Result → Shared → Prop}
    (W : WalksS P w A.in1 I fp wr G n Pv St) (S : Addr) (hSf : S ∉ fp) (xs : List Str) (hn : n = xs.length) (hb : ∀ i, (putAll [] (xs.take i)).length + 1 < scanBound) (hval : ∀ i v, Pv i v → ∃ z t, xs[i]? = some z ∧ v = .str z t) :
    ∀ (k i : Nat) (s : Shared), n - i = k → i ≤ n → St i s → SetS P w s.heap S (putAll [] (xs.take i)) →
      (∀ s', Moved (S :: wr) G s s' → SetS P w s'.heap S (putAll [] xs) → R (.ok (.ret .none)) s') →
      codeAny (model P w) A (.builtin "set.update.loop" ⟨[.ref S, .ref I], []⟩) R s := by
  have hSw : S ∉ wr := fun h => hSf (W.sub _ h)
  have hsub : ∀ b ∈ wr, b ∈ S :: wr := fun b hb => List.mem_cons_of_mem _ hb
  intro k
  induction k with
  | zero =>
    intro i s hk' hi hst hS hR
    have hin : i = n := by omega
    subst hin
    refine codeAny_builtin F.entry_set_update_loop ?_
    rw [Around.under_plainId F.plain_set_update_loop _]
    show wpAny _ A.in1 (pyNext (.ref I) >>= _) _ _ s
    refine wpAny_bind (W.done s _ _ hst fun s' hm => ?_)
    show wpAny _ A.in1 (ret Value.none) _ _ s'
    have e : xs.take i = xs := List.take_of_length_le (by omega)
    rw [e] at hS
    exact wpAny_pure (hR s' (hm.mono hsub) (hS.at fun o e => hm.heap S o hSw e))
  | succ k ih =>
    intro i s hk' hi hst hS hR
    have hlt : i < n := by omega
    refine codeAny_builtin F.entry_set_update_loop ?_
    rw [Around.under_plainId F.plain_set_update_loop _]
    show wpAny _ A.in1 (pyNext (.ref I) >>= _) _ _ s
    refine wpAny_bind (W.item i s _ _ hlt hst fun v s' hP hst' hm => ?_)
    obtain ⟨z, t, hz, rfl⟩ := hval i v hP
    have hS' : SetS P w s'.heap S (putAll [] (xs.take i)) := hS.at fun o e => hm.heap S o hSw e
    have room := hb i
    show wpAny _ A.in1 (holding [Value.str z t] (setAdd S (.str z t)) >>= _) _ _ s'
    refine wpAny_bind (wpAny_holding ?_)
    unfold setAdd
    refine wpAny_holding ?_
    refine wpAny_bind ((PySem.strKind P w).pyHash (strKind_is P w z t) ?_)
    refine setS_hashed (s := { s' with toks := s'.toks + 1 }) hS' room fun _ h' hsb hS2 => ?_
    have hS3 : SetS P w h' S (putAll [] (xs.take (i + 1))) := by
      rw [take_snoc hz, ← putAllS_snoc]
      exact hS2
    refine wpAny_pure ⟨plainId_quiet F.plain_set_update_loop _, ih (i + 1) _ (by omega) hlt (W.frame _ s' _ _ hst' (Nat.le_succ _) fun b hb o e => ?_) hS3 fun s'' hm'' hS'' => ?_⟩
    · rw [hsb.2 b (fun h : b = S => hSf (by rw [← h]; exact hb))]; exact e
    · refine hR s'' (Moved.trans W.gtrans ((hm.mono hsub).then_heap (Nat.le_succ _) fun b o hb e => ?_) hm'') hS''
      rw [hsb.2 b (fun h : b = S => hb (by rw [h]; exact List.mem_cons_self))]; exact e
abbrev SetTDone (P : Program) (w : World) (s : Shared) (xs : List Str) (s₂ : Shared) : Prop := ∃ h' tk, s₂ = { s with heap := h', toks := tk } ∧ SetS P w h' s.heap.objs.size (putAll [] xs) ∧ ∀ b o, s.heap.get? b = some o → h'.get? b = some o
theorem strsV_at (hit : StrsAre items.toList xs) (i : Nat) (v : Value) (hv : items[i]? = some v) : ∃ z t, xs[i]? = some z ∧ v = .str z t := by
  have e : items.toList[i]? = some v := by rw [Array.getElem?_toList]; exact hv
  generalize items.toList = us at hit e
  clear hv
  induction hit generalizing i with
  | nil => cases e
  | cons n t r ih =>
    cases i with
    | zero => cases e; exact ⟨_, _, rfl, rfl⟩
    | succ i => exact ih i e
theorem strs_len {us : List Value} {xs : List Str} (h : StrsAre us xs) : us.length = xs.length := by
  induction h with
  | nil => rfl
  | cons n t r ih => simp [ih]
set_option maxHeartbeats 3200000 in
theorem set_init_strs (hh : A.handled = none) (hl : s.heap.IsList l items) (hit : StrsAre items.toList xs) (hb : ∀ i, (putAll [] (xs.take i)).length + 1 < scanBound) (T : Shared.TypeIs { s with heap := s.heap.push (nSetT w) } (.ref s.heap.objs.size) "set") {R : Result → Shared → Prop} (hR : ∀ s₂, SetTDone P w s xs s₂ → R (.ok (.ret .none)) s₂) :
    wpAny (model P w) A.in1 (Builtin.«set.__init__» ⟨[.ref s.heap.objs.size, .ref l], []⟩) (fun fin s' => match fin with | .done f => R (.ok f) s' | .again c' => c'.quiet = true ∧ codeAny (model P w) A c' R s') (fun e s' => R (.error e) s') { s with heap := s.heap.push (nSetT w) } := by
  have hS : (s.heap.push (nSetT w)).get? s.heap.objs.size = some (nSetT w) := Heap.get?_push_size _ rfl
  obtain ⟨⟨oc, od, dt, osl⟩, hol, rfl, nl, rfl⟩ := hl
  have h1 : (s.heap.push (nSetT w)).get? l = some { cls := .type "list", dict := od, data := .seq items nl, slots := osl } := Heap.get?_push_of_some _ hol
  have L1 : (s.heap.push (nSetT w)).IsList l items := ⟨_, h1, rfl, nl, rfl⟩
  have lS : l < s.heap.objs.size := Heap.lt_size hol
  have n1 := F.sub_list_set
  have n2 := F.sub_list_frozenset
  have n3 : (Value.type "list" == Value.type "dict") = false := by decide
  have isz : items.size = xs.length := by rw [← Array.length_toList]; exact strs_len hit
  unfold Builtin.«set.__init__» noKeywords Builtin.Frozenset.updateFrom
  generalize hPI : pyIter = PI
  wp_walk
  subst hPI
  refine wpAny_pyIter_list L1 ?_
  refine wpAny_bind (wpAny_runValue ?_)
  have sz : (s.heap.push (nSetT w)).objs.size = s.heap.objs.size + 1 := Heap.size_push ..
  have ne1 : l ≠ (s.heap.push (nSetT w)).objs.size := by rw [sz]; exact Nat.ne_of_lt (Nat.lt_succ_of_lt lS)
  have nf : s.heap.objs.size ∉ [(s.heap.push (nSetT w)).objs.size, l] := by
    rw [sz]
    simp only [List.mem_cons, List.not_mem_nil, or_false, not_or]
    exact ⟨Nat.ne_of_lt (Nat.lt_succ_self _), Nat.ne_of_gt lS⟩
  refine set_update_strs ((Walks.list (by simp [hh]) _ l ne1 items).toS) s.heap.objs.size nf xs isz hb (strsV_at hit) (items.size - 0) 0 _ (by omega) (Nat.zero_le _) ⟨⟨_, Heap.get?_push_size _ rfl, rfl, rfl⟩, L1.push _⟩ (setS_new_at (Heap.get?_push_of_some _ hS)) ?_
  rintro ⟨h', g2, d', tk', os'⟩ hm hS'
  obtain rfl : g2 = s.gens := hm.gens
  obtain rfl : d' = s.drawn := hm.drawn
  obtain rfl : os' = s.os := hm.os
  refine wpAny_pure ?_
  refine wpAny_pure (hR _ ⟨h', tk', rfl, hS', fun b o e => ?_⟩)
  have b0 : b < s.heap.objs.size := Heap.lt_size e
  refine hm.heap b o ?_ (Heap.get?_push_of_some _ (Heap.get?_push_of_some _ e))
  simp only [List.mem_cons, List.not_mem_nil, or_false, not_or]
  exact ⟨Nat.ne_of_lt b0, by rw [sz]; exact Nat.ne_of_lt (Nat.lt_succ_of_lt b0)⟩
set_option maxHeartbeats 3200000 in
theorem call_set_strs {Q : Value → Shared → Prop} (hh : A.handled = none) (hl : s.heap.IsList l items) (hit : StrsAre items.toList xs) (hb : ∀ i, (putAll [] (xs.take i)).length + 1 < scanBound) (h : ∀ s₂, SetTDone P w s xs s₂ → Q (.ref s.heap.objs.size) s₂) : wpAny (model P w) A (call (.type "set") [.ref l]) Q E s := by
  obtain ⟨c, tl, m1⟩ := F.called_set.mro
  have m2 := F.called_set.made
  have m3 := F.called_set.sub
  have m4 := F.called_set.notType
  have m5 := F.called_set.canCreate
  have m6 := F.typeCall_set_1 (.ref l)
  have T : Shared.TypeIs { s with heap := s.heap.push (nSetT w) } (.ref s.heap.objs.size) "set" := ⟨_, Heap.get?_push_size _ rfl, rfl⟩
  have m7 := F.called_set.init.lookup
  have m8 := F.called_set.init.bind (.ref s.heap.objs.size)
  refine wpAny_call (codeAny_of_tree (show wpAny _ _ (callAny (.type "set") _) _ _ _ from wpAny_pure ⟨Code.quiet_builtin _ (by decide +kernel), codeAny_builtin F.entry_type_call ?_⟩))
  rw [Around.under_plain (weight_type_call_type "set" [.ref l] []) rfl]
  repeat (any_goals (first | assumption | wp_step))
  refine codeAny_mono (code_set_led1 (.ref l) (E := E) (Q₁ := fun obj s₁ => obj = .ref s.heap.objs.size ∧ s₁ = { s with heap := s.heap.push (nSetT w) }) ⟨rfl, rfl⟩) fun r s₁ hr => ?_
  match r, hr with
  | .error e, hr => exact hr
  | .ok (.ret obj), ⟨e1, e2⟩ =>
    subst e1 e2
    repeat (any_goals (first | assumption | wp_step))
    refine codeAny_mono (codeAny_call_builtin (R := wants (fun r s₂ => r = .none ∧ SetTDone P w s xs s₂) E) F.called_set.init.plain F.entry_set_init (check_set_init_1 T (set_init_strs (by simp [hh]) hl hit hb T fun s₂ d => ⟨rfl, d⟩))) fun r₂ s₂ hr₂ => ?_
    match r₂, hr₂ with
    | .error e, hr₂ => exact hr₂
    | .ok (.ret r), ⟨e1, d⟩ =>
      subst e1
      repeat (any_goals (first | assumption | wp_step))
      exact h _ d
end
/-- set(xs), texts -/
def rSetLS (K : PySem.W.Frag) (P : Program) (w : World) : List V → Hp → VK → Prop := fun vs H Q => ∃ (a : Addr) (xs : List Str), vs = [V.ref a] ∧ SqL K H a (xs.map V.str) ∧ (∀ i, (putAll [] (xs.take i)).length + 1 < scanBound) ∧ ∀ p, H p = none → Q (.ref p) (upd H p (SetSO P w p (putAll [] xs)))
theorem cr_setLS {X : Cx} (hc : X.calm = true) : CallR X (.type "set") (rSetLS X.K X.prog X.w) := by
  intro pins s σ H vs us Q I r h
  obtain ⟨a, xs, rfl, hs, hz, q⟩ := h
  obtain ⟨its, rv, hl, _⟩ := I.list hs
  rw [Vals.ref1 r]
  refine call_set_strs (P := X.prog) (w := X.w) (I.ok.hd hc) hl.isList (by simpa using rv.strs) hz fun s₂ d => ?_
  obtain ⟨h', tk, rfl, R, k⟩ := d
  exact ⟨.ref s.heap.objs.size, _, I.laid (t' := tk) k (Nat.le_refl _) (setSO_new R), rfl, q _ (I.hok.fresh (Nat.le_refl _))⟩
end L2

set_option Elab.async false
set_option linter.all false
set_option maxRecDepth 100000
set_option maxHeartbeats 1000000
/-! the one sorted list of a list's texts; sums and products of forms as functions -/
namespace L2
open PySem PySem.Spec PyProof.Rows
theorem ltCps_eq : ∀ a b : List Nat, ltCps a b = decide (a < b)
  | [], [] => rfl
  | [], _ :: _ => by rw [decide_eq_true (List.nil_lt_cons _ _)]; rfl
  | _ :: _, [] => by rw [decide_eq_false (List.not_lt_nil _)]; rfl
  | x :: a, y :: b => by
    have ih := ltCps_eq a b
    unfold ltCps
    rw [ih]
    by_cases c : x < y
    · rw [decide_eq_true (List.cons_lt_cons_iff.mpr (.inl c))]
      simp [c]
    · by_cases d : x = y
      · subst d
        have : decide (x :: a < x :: b) = decide (a < b) := by
          by_cases e : a < b
          · rw [decide_eq_true e, decide_eq_true (List.cons_lt_cons_iff.mpr (.inr ⟨rfl, e⟩))]
          · rw [decide_eq_false e, decide_eq_false fun z => (List.cons_lt_cons_iff.mp z).elim (fun h => Nat.lt_irrefl _ h) fun h => e h.2]
        rw [this]
        simp
      · rw [decide_eq_false fun z => (List.cons_lt_cons_iff.mp z).elim c fun h => d h.1]
        simp [c, d]
/-- a ≤ b -/
def leT (a b : Str) : Bool := !ltCps b.cps.toList a.cps.toList
theorem leT_iff {a b : Str} : leT a b = true ↔ a.cps.toList ≤ b.cps.toList := by
  unfold leT
  rw [ltCps_eq]
  simp [List.not_lt]
theorem leT_trans {a b c : Str} (h : leT a b = true) (k : leT b c = true) : leT a c = true := leT_iff.mpr (List.le_trans (leT_iff.mp h) (leT_iff.mp k))
theorem leT_total (a b : Str) : leT a b = true ∨ leT b a = true := by
  rw [leT_iff, leT_iff]
  exact List.le_total _ _
theorem str_ext {a b : Str} (h : a.cps.toList = b.cps.toList) : a = b := by
  cases a
  cases b
  congr 1
  exact Array.toList_inj.mp h
theorem leT_anti {a b : Str} (h : leT a b = true) (k : leT b a = true) : a = b := str_ext (List.le_antisymm (leT_iff.mp h) (leT_iff.mp k))
theorem rising_pw : ∀ (r : List Str) (x : Str), risingS x r = true → List.Pairwise (fun a b => leT a b = true) (x :: r)
  | [], x, _ => List.pairwise_cons.mpr ⟨fun _ h => absurd h List.not_mem_nil, .nil⟩
  | y :: r, x, h => by
    rw [risingS.eq_2, Bool.and_eq_true] at h
    have ih := rising_pw r y h.2
    refine List.pairwise_cons.mpr ⟨fun z hz => ?_, ih⟩
    rcases List.mem_cons.mp hz with rfl | hz
    · exact h.1
    · exact leT_trans h.1 ((List.pairwise_cons.mp ih).1 z hz)
theorem sorted_pw {l : List Str} (h : sortedS l = true) : List.Pairwise (fun a b => leT a b = true) l := by
  cases l with
  | nil => exact .nil
  | cons x r => exact rising_pw r x h
def insT (x : Str) : List Str → List Str
  | [] => [x]
  | y :: r => if leT x y then x :: y :: r else y :: insT x r
def sortT (l : List Str) : List Str := l.foldr insT []
theorem insT_perm (x : Str) : ∀ l, (insT x l).Perm (x :: l)
  | [] => List.Perm.refl _
  | y :: r => by
    unfold insT
    split
    · exact List.Perm.refl _
    · exact ((insT_perm x r).cons y).trans (List.Perm.swap x y r)
theorem sortT_perm : ∀ l, (sortT l).Perm l
  | [] => List.Perm.refl _
  | x :: r => (insT_perm x _).trans ((sortT_perm r).cons x)
theorem insT_pw (x : Str) : ∀ l, List.Pairwise (fun a b => leT a b = true) l → List.Pairwise (fun a b => leT a b = true) (insT x l)
  | [], _ => List.pairwise_cons.mpr ⟨fun _ h => absurd h List.not_mem_nil, .nil⟩
  | y :: r, h => by
    unfold insT
    split
    · rename_i c
      refine List.pairwise_cons.mpr ⟨fun z hz => ?_, h⟩
      rcases List.mem_cons.mp hz with rfl | hz
      · exact c
      · exact leT_trans c ((List.pairwise_cons.mp h).1 z hz)
    · rename_i c
      refine List.pairwise_cons.mpr ⟨fun z hz => ?_, insT_pw x r (List.pairwise_cons.mp h).2⟩
      rcases List.mem_cons.mp ((insT_perm x r).mem_iff.mp hz) with rfl | hz
      · exact (leT_total _ _).resolve_left c
      · exact (List.pairwise_cons.mp h).1 z hz
theorem sortT_pw : ∀ l, List.Pairwise (fun a b => leT a b = true) (sortT l)
  | [] => .nil
  | x :: r => insT_pw x _ (sortT_pw r)
/-- sorted lists of the same texts are the same -/
theorem sortT_one {l ys : List Str} (p : ys.Perm l) (s : sortedS ys = true) : ys = sortT l :=
  List.Perm.eq_of_pairwise (le := fun a b => leT a b = true) (fun _ _ _ _ => leT_anti) (sorted_pw s) (sortT_pw l) (p.trans (sortT_perm l).symm)
end L2

set_option Elab.async false
set_option linter.all false
set_option maxRecDepth 100000
set_option maxHeartbeats 1000000
/-! f(k=v, ..): a def called with keywords alone -/
namespace L2
open PySem PySem.Spec PyProof.Rows
section
variable {X : Cx} {k j : Nat} {x : Str} {sp : Sp} {ks : List Str} {gV : List V → List V → List V} {p pos : Pos} {kws : List Keyword} {tk : TA}
end
end L2

set_option Elab.async false
set_option linter.all false
set_option maxRecDepth 100000
set_option maxHeartbeats 1000000
/-! the row's statements -/
namespace E4
open PySem PySem.Spec PyProof.Rows L2
open C8 (Cal Mak Met InsC pe_c pe_mt pe_mt0 call_isC clsBody)
def top (i : Nat) : Stmt := PySem.Challenge.pw_cellplaces_k54_whole_cells_told_back.main.body.getD i (.Pass ⟨0, 0, 0, 0⟩)
abbrev sIsWhole : Stmt := top 9
abbrev sIsCount : Stmt := top 10
abbrev sIsLetter : Stmt := top 11
abbrev sIsValues : Stmt := top 12
abbrev sCheckValues : Stmt := top 13
abbrev sProductAt : Stmt := top 15
abbrev sPlain : Stmt := top 17
abbrev sOwnOrder : Stmt := top 18
abbrev sCellOf : Stmt := top 19
abbrev sCheckTable : Stmt := top 20
abbrev sCheckOwn : Stmt := top 21
abbrev sIsSides : Stmt := top 22
abbrev sIsSide : Stmt := top 23
abbrev sIsProduct : Stmt := top 24
abbrev sNamesOf : Stmt := top 25
abbrev sOrdered : Stmt := top 26
abbrev sMisfit : Stmt := top 27
abbrev sLeftOf : Stmt := top 28
def meth (i : Nat) : Stmt := (clsBody sPlain).getD i (.Pass ⟨0, 0, 0, 0⟩)
abbrev sInit : Stmt := meth 0
abbrev sEq : Stmt := meth 1
abbrev sSides : Stmt := meth 3
abbrev sSizes : Stmt := meth 4
end E4

set_option Elab.async false
set_option linter.all false
set_option maxRecDepth 100000
set_option maxHeartbeats 1000000
/-! is_whole, is_count, is_letter, is_product, is_side -/
namespace E4
open PySem PySem.Spec PyProof.Rows L2
open C8 (Cal Mak Met InsC pe_c pe_mt pe_mt0 call_isC clsBody)
theorem iteP {p : Prop} [Decidable p] {A B : Prop} (hp : p) (h : B) : if (!decide p) = true then A else B := by
  rw [decide_eq_true hp]
  exact h
theorem iteN {p : Prop} [Decidable p] {A B : Prop} (hp : ¬ p) (h : A) : if (!decide p) = true then A else B := by
  rw [decide_eq_false hp]
  exact h
/-- a letter -/
def LetOk (z : Str) : Prop := 1 ≤ z.length ∧ z.length ≤ 10 ∧ ∀ c ∈ z.cps.toList, 97 ≤ c ∧ c ≤ 122
/-- builtin names that the module leaves alone -/
structure Bl (mg : Str → Option Value) : Prop where
  isi : mg "isinstance" = none
  int_ : mg "int" = none
  bool_ : mg "bool" = none
  str_ : mg "str" = none
  len_ : mg "len" = none
  all_ : mg "all" = none
  any_ : mg "any" = none
  lst_ : mg "list" = none
  tup_ : mg "tuple" = none
  dict_ : mg "dict" = none
  set_ : mg "set" = none
  srt_ : mg "sorted" = none
  zip_ : mg "zip" = none
  rev_ : mg "reversed" = none
  dm_ : mg "divmod" = none
/-- a side: its name, its size, its step -/
abbrev Sd := Str × List Str × List Str
def SdOk (x : Sd) : Prop := LetOk x.1 ∧ (∀ z ∈ x.2.1, LetOk z) ∧ (∀ z ∈ x.2.2, LetOk z) ∧ x.2.1.length ≤ 60 ∧ x.2.2.length ≤ 60
def SdAt (H : Hp) (t : Addr) (x : Sd) : Prop := ∃ a b, H t = some (.tup [.str x.1, .ref a, .ref b]) ∧ H a = some (.lst (x.2.1.map V.str)) ∧ H b = some (.lst (x.2.2.map V.str))
theorem SdAt.same {H H' : Hp} {t : Addr} {x : Sd} (h : SdAt H t x) (S : Same H H') : SdAt H' t x := let ⟨a, b, h1, h2, h3⟩ := h; ⟨a, b, S _ _ h1, S _ _ h2, S _ _ h3⟩
def SdsAt (H : Hp) (ts : List Addr) (xs : List Sd) : Prop := Paired (SdAt H) ts xs
theorem SdsAt.imp {H H' : Hp} {ts : List Addr} {xs : List Sd} (h : SdsAt H ts xs) (k : ∀ t ∈ ts, ∀ x, SdAt H t x → SdAt H' t x) : SdsAt H' ts xs := by
  unfold SdsAt at h ⊢
  induction h with
  | nil => exact .nil
  | cons r t ih => exact .cons (k _ List.mem_cons_self _ r) (ih fun z hz => k z (List.mem_cons_of_mem _ hz))
theorem SdsAt.same {H H' : Hp} {ts : List Addr} {xs : List Sd} (h : SdsAt H ts xs) (S : Same H H') : SdsAt H' ts xs := h.imp fun _ _ _ q => q.same S
theorem paired_ix {α β : Type} {R : α → β → Prop} {as : List α} {bs : List β} (h : Paired R as bs) {i : Nat} {b : β} (e : bs[i]? = some b) : ∃ a, as[i]? = some a ∧ R a b := by
  induction h generalizing i with
  | nil => cases e
  | cons r t ih =>
    cases i with
    | zero => cases e; exact ⟨_, rfl, r⟩
    | succ i => exact ih e
theorem paired_at {α β : Type} {R : α → β → Prop} {as : List α} {bs : List β} (h : Paired R as bs) {i : Nat} {a : α} (e : as[i]? = some a) : ∃ b, bs[i]? = some b ∧ R a b := by
  induction h generalizing i with
  | nil => cases e
  | cons r t ih =>
    cases i with
    | zero => cases e; exact ⟨_, rfl, r⟩
    | succ i => exact ih e
theorem paired_snoc {α β : Type} {R : α → β → Prop} {as : List α} {bs : List β} {a : α} {b : β} (h : Paired R as bs) (r : R a b) : Paired R (as ++ [a]) (bs ++ [b]) := by
  induction h with
  | nil => exact .cons r .nil
  | cons r' t ih => exact .cons r' ih
def spWhole : Sp := fun vs H Q _ => ∃ i : Int, vs = [.int i] ∧ Q (.bl true) H
def spCount : Sp := fun vs H Q _ => ∃ i : Int, vs = [.int i] ∧ 0 ≤ i ∧ Q (.bl true) H
def spIsLet : Sp := fun vs H Q _ => ∃ z : Str, vs = [.str z] ∧ LetOk z ∧ ∀ H', Same H H' → Q (.bl true) H'
def spProdOk : Sp := fun vs H Q _ => ∃ (a : Addr) (xs : List Str), vs = [.ref a] ∧ H a = some (.lst (xs.map V.str)) ∧ (∀ z ∈ xs, LetOk z) ∧ xs.length ≤ 60 ∧ ∀ H', Same H H' → Q (.bl true) H'
def spSideOk : Sp := fun vs H Q _ => ∃ (t : Addr) (x : Sd), vs = [.ref t, .int 2] ∧ SdAt H t x ∧ SdOk x ∧ ∀ H', Same H H' → Q (.bl true) H'
theorem all_true (n : Nat) : (List.replicate n true).all id = true := by simp
section
variable {P : Program} {w : World} {K : PySem.W.Frag} {mg : Str → Option Value} {base : Heap}
theorem kit_ss : PySem.W.kitOne K (.type "str") (.type "str") = some true := by kernel_rfl
theorem kit_ii : PySem.W.kitOne K (.type "int") (.type "int") = some true := by kernel_rfl
theorem kit_ib : PySem.W.kitOne K (.type "int") (.type "bool") = some false := by kernel_rfl
theorem kit_tt : PySem.W.kitOne K (.type "tuple") (.type "tuple") = some true := by kernel_rfl
theorem kit_ll : PySem.W.kitOne K (.type "list") (.type "list") = some true := by kernel_rfl
theorem kit_dd : PySem.W.kitOne K (.type "dict") (.type "dict") = some true := by kernel_rfl
theorem scWhole : FnScope ["value"] ["value"] (defScope sIsWhole) := ⟨rfl, rfl, rfl, by decide +kernel, rfl, by decide +kernel, by decide +kernel⟩
theorem ok_whole {f : Addr} {fd : FuncData} (F : Fun K "is_whole" "is_whole" sIsWhole f fd) (B : Bl mg) : FnOk P w K mg base CX0 1 f fd ["value"] spWhole := by
  refine F.ok scWhole (fun vs H Q E h => ?_) (fun cdv A outer s H vs Q E hr h => ?_)
  · obtain ⟨v, rfl, _⟩ := h
    rfl
  · obtain ⟨i, rfl, q⟩ := h
    refine ⟨_, pss_one (ps_ret (pe_and (pe_callB call_isi (by rfl) B.isi (by decide +kernel) (pa_cons (pv 0) (pa_cons (pe_bltn (v := .ty "int") (by rfl) B.int_ (by decide +kernel) rfl) pa_nil)))
      (pe_one (pe_not (pe_callB call_isi (by rfl) B.isi (by decide +kernel) (pa_cons (pv 0) (pa_cons (pe_bltn (v := .ty "bool") (by rfl) B.bool_ (by decide +kernel) rfl) pa_nil))))))), ?_⟩
    refine ⟨_, rfl, _, _, _, _, true, rfl, .ty "int", .base (.int i), kit_ii, true, rfl, iteT (B := False) ?_⟩
    exact ⟨_, rfl, _, _, _, _, false, rfl, .ty "bool", .base (.int i), kit_ib, false, rfl, q⟩
theorem scCount : FnScope ["value"] ["value"] (defScope sIsCount) := ⟨rfl, rfl, rfl, by decide +kernel, rfl, by decide +kernel, by decide +kernel⟩
theorem ok_count {f : Addr} {fd : FuncData} (F : Fun K "is_count" "is_count" sIsCount f fd) (Wh : Cal P w K mg base 1 "is_whole" spWhole []) : FnOk P w K mg base CX0 2 f fd ["value"] spCount := by
  refine F.ok scCount (fun vs H Q E h => ?_) (fun cdv A outer s H vs Q E hr h => ?_)
  · obtain ⟨v, rfl, _⟩ := h
    rfl
  · obtain ⟨i, rfl, i0, q⟩ := h
    refine ⟨_, pss_one (ps_ret (pe_and (pe_c Wh hr (by decide) rfl (pa_cons (pv 0) pa_nil)) (pe_one (pe_cmpR op_ge (pv 0) pe_int (by rfl))))), ?_⟩
    refine ⟨_, rfl, i, rfl, true, rfl, iteT (B := False) ?_⟩
    refine ⟨_, rfl, i, 0, rfl, rfl, ?_⟩
    show Q (.bl (decide (0 ≤ i))) H
    rw [decide_eq_true i0]
    exact q
theorem scIsLet : FnScope ["name", "sign"] ["name"] (defScope sIsLetter) := ⟨rfl, rfl, rfl, by decide +kernel, rfl, by decide +kernel, by decide +kernel⟩
abbrev rLeS : R2 := fun x y H Q => ∃ i j, x = .str i ∧ y = .str j ∧ Q (.bl (!decide (j.cps.toList < i.cps.toList))) H
theorem ok_isLet {f : Addr} {fd : FuncData} (F : Fun K "is_letter" "is_letter" sIsLetter f fd) (B : Bl mg) : FnOk P w K mg base CX0 1 f fd ["name"] spIsLet := by
  refine F.ok scIsLet (fun vs H Q E h => ?_) (fun cdv A outer s H vs Q E hr h => ?_)
  · obtain ⟨z, rfl, _⟩ := h
    rfl
  · obtain ⟨z, rfl, ⟨l1, l2, hc⟩, k⟩ := h
    refine ⟨_, pss_cons (ps_if (PW.pt (pw_or (pt_not (pt_val (pe_callB call_isi (by rfl) B.isi (by decide +kernel) (pa_cons (pv 0) (pa_cons (pe_bltn (v := .ty "str") (by rfl) B.str_ (by decide +kernel) rfl) pa_nil)))))
        (pw_or1 (pt_not (pt_chain op_le op_le pe_int (pe_callB call_len_str (by rfl) B.len_ PySem.boot_len (pa_cons (pv 0) pa_nil)) pe_int))))) (pss_one (ps_ret pe_bl)) pss_nil)
      (pss_one (ps_ret (pe_callB (cr_all rfl) (by rfl) B.all_ (by decide +kernel) (pa_cons (pe_lc (own := [("sign", 1)]) (g := gName 1) (tt := tYes) (te := tChain rLeS rLeS (tC (.str "a")) (tVar 1) (tC (.str "z"))) rfl scIsLet.nd (pi_str (pv 0))
        (blkOk_by (own := [("sign", 1)]) (N := ["name", "sign"]) (sc := defScope sIsLetter) (by decide +kernel))
        (fun _ _ _ _ _ => pg_name (i := 1) scIsLet.nd rfl (Or.inl rfl)) (fun _ _ _ _ _ => pts_nil) (fun _ _ _ _ _ => by exact pe_chain op_le_str op_le_str pe_str (pv 1) pe_str)) pa_nil)))), ?_⟩
    have hz : z.length ≤ sizeLine := by rw [sizeLine_eq]; omega
    refine ⟨_, rfl, _, _, _, _, true, rfl, .ty "str", .base (.str z), kit_ss, true, rfl, iteF ?_⟩
    refine ⟨_, rfl, z, rfl, hz, _, _, rfl, rfl, _, rfl, iteD (fun _ => ?_) (fun h => absurd (by omega) h)⟩
    refine ⟨_, _, rfl, rfl, _, rfl, iteP (by omega) ?_⟩
    refine ⟨_, rfl, z, rfl, fun D nD => lc_it walk_str (fun i H' => Same H H' ∧ H' D = some (.lst (List.replicate i (V.bl true)))) ⟨Same.upd nD, upd_same⟩ (fun _ _ _ _ => trivial) ?_ ?_⟩
    · rintro i x H1 H1' hi ⟨S, hD⟩ ⟨rfl, c, hcz, rfl⟩
      have hm : c ∈ z.cps.toList := by
        rw [← Array.getElem?_toList] at hcz
        exact List.mem_of_getElem? hcz
      obtain ⟨c1, c2⟩ := hc c hm
      have n1 : ¬ ((⟨#[c]⟩ : Str).cps.toList < ("a" : Str).cps.toList) := by
        show ¬ ([c] < [97])
        rw [List.cons_lt_cons_iff]
        rintro (h | ⟨_, h⟩)
        · omega
        · exact absurd h (by decide)
      have n2 : ¬ (("z" : Str).cps.toList < (⟨#[c]⟩ : Str).cps.toList) := by
        show ¬ ([122] < [c])
        rw [List.cons_lt_cons_iff]
        rintro (h | ⟨_, h⟩)
        · omega
        · exact absurd h (by decide)
      refine ⟨rfl, iteT (B := False) ⟨_, rfl, _, _, rfl, rfl, _, rfl, iteN n1 ⟨_, _, rfl, rfl, _, hD, ?_, ?_, ?_⟩⟩⟩
      · rw [List.length_replicate]
        have : i < z.length := hi
        omega
      · intro b o hb
        rw [upd_ne (ne_of_none hb nD)]
        exact S _ _ hb
      · rw [upd_same, decide_eq_false n2, List.replicate_succ']
        rfl
    · rintro H1 ⟨S, hD⟩
      refine ⟨D, List.replicate z.cps.size true, rfl, SqL.of ?_, ?_⟩
      · rw [List.map_replicate]
        exact hD
      · rw [show (List.replicate z.cps.size true).all id = true by simp]
        exact k H1 S
theorem scProdOk : FnScope ["product", "name"] ["product"] (defScope sIsProduct) := ⟨rfl, rfl, rfl, by decide +kernel, rfl, by decide +kernel, by decide +kernel⟩
theorem ok_prodOk {f : Addr} {fd : FuncData} (F : Fun K "is_product" "is_product" sIsProduct f fd) (B : Bl mg) (L : Cal P w K mg base 1 "is_letter" spIsLet []) : FnOk P w K mg base CX0 2 f fd ["product"] spProdOk := by
  refine F.ok scProdOk (fun vs H Q E h => ?_) (fun cdv A outer s H vs Q E hr h => ?_)
  · obtain ⟨a, xs, rfl, _⟩ := h
    rfl
  · obtain ⟨a, xs, rfl, ha, hx, hz, k⟩ := h
    refine ⟨_, pss_one (ps_ret (pe_and (pe_callB call_isi (by rfl) B.isi (by decide +kernel) (pa_cons (pv 0) (pa_cons (pe_bltn (v := .ty "list") (by rfl) B.lst_ (by decide +kernel) rfl) pa_nil)))
      (pe_one (pe_callB (cr_all rfl) (by rfl) B.all_ (by decide +kernel) (pa_cons (pe_lc (own := [("name", 1)]) (g := gName 1) (tt := tYes) (te := tCall spIsLet [] C8.E0 (tCons (tVar 1) tNil)) rfl scProdOk.nd (pi_list (pv 0))
        (blkOk_by (own := [("name", 1)]) (N := ["product", "name"]) (sc := defScope sIsProduct) (by decide +kernel))
        (fun _ _ _ _ _ => pg_name (i := 1) scProdOk.nd rfl (Or.inl rfl)) (fun _ _ _ _ _ => pts_nil) (fun _ _ _ _ _ => by exact pe_c L hr (by decide) rfl (pa_cons (pv 1) pa_nil))) pa_nil))))), ?_⟩
    refine ⟨_, rfl, _, _, _, _, true, rfl, .ty "list", .base (.lst ha), kit_ll, true, rfl, iteT (B := False) ?_⟩
    refine ⟨_, rfl, a, rfl, ⟨_, SqL.of ha⟩, fun D nD => lc_it (walk_list (xs := xs.map V.str)) (fun i H' => Same H H' ∧ H' D = some (.lst (List.replicate i (V.bl true)))) ⟨Same.upd nD, upd_same⟩ (fun i H' _ q => SqL.of (q.1 _ _ ha)) ?_ ?_⟩
    · rintro i x H2 H3 hi ⟨S, hD⟩ ⟨rfl, hx2⟩
      rw [List.length_map] at hi
      rw [List.getElem?_map] at hx2
      obtain ⟨z, hzz, rfl⟩ := Option.map_eq_some_iff.mp hx2
      refine ⟨rfl, iteT (B := False) ⟨_, rfl, z, rfl, hx z (List.mem_of_getElem? hzz), fun H4 S4 => ⟨_, S4 _ _ hD, ?_, ?_, ?_⟩⟩⟩
      · rw [List.length_replicate, sizeLine_eq]
        omega
      · intro b o hb
        rw [upd_ne (ne_of_none hb nD)]
        exact S4 _ _ (S _ _ hb)
      · rw [upd_same, List.replicate_succ']
    · rintro H2 ⟨S, hD⟩
      refine ⟨D, List.replicate xs.length true, rfl, SqL.of ?_, ?_⟩
      · rw [List.map_replicate]
        rw [List.length_map] at hD
        exact hD
      · rw [all_true]
        exact k H2 S
theorem scSideOk : FnScope ["side", "many", "product"] ["side", "many"] (defScope sIsSide) := ⟨rfl, rfl, rfl, by decide +kernel, rfl, by decide +kernel, by decide +kernel⟩
theorem cut12 (x y z : V) : cutV [x, y, z] (some 1) none = [y, z] := by rfl
theorem ok_sideOk {f : Addr} {fd : FuncData} (F : Fun K "is_side" "is_side" sIsSide f fd) (B : Bl mg) (L : Cal P w K mg base 1 "is_letter" spIsLet []) (Pr : Cal P w K mg base 2 "is_product" spProdOk []) : FnOk P w K mg base CX0 3 f fd ["side", "many"] spSideOk := by
  refine F.ok scSideOk (fun vs H Q E h => ?_) (fun cdv A outer s H vs Q E hr h => ?_)
  · obtain ⟨t, x, rfl, _⟩ := h
    rfl
  · obtain ⟨t, x, rfl, ⟨a, b, ht, ha, hb⟩, ⟨o1, o2, o3, o4, o5⟩, k⟩ := h
    refine ⟨_, pss_cons (ps_if (PW.pt (pw_or (pt_not (pt_val (pe_callB call_isi (by rfl) B.isi (by decide +kernel) (pa_cons (pv 0) (pa_cons (pe_bltn (v := .ty "tuple") (by rfl) B.tup_ (by decide +kernel) rfl) pa_nil)))))
        (pw_or1 (pt_cmpR op_ne (pe_callB call_len_seq (by rfl) B.len_ PySem.boot_len (pa_cons (pv 0) pa_nil)) (pe_op op_add pe_int (pv 1)) (by rfl))))) (pss_one (ps_ret pe_bl)) pss_nil)
      (pss_one (ps_ret (pe_and (pe_c L hr (by decide) rfl (pa_cons (pe_ix ix_tup (pv 0) pe_int (fun _ _ => rfl)) pa_nil))
        (pe_one (pe_callB (cr_all rfl) (by rfl) B.all_ (by decide +kernel) (pa_cons (pe_lc (own := [("product", 2)]) (g := gName 2) (tt := tYes) (te := tCall spProdOk [] C8.E0 (tCons (tVar 2) tNil)) rfl scSideOk.nd (pi_tup (pe_slice sl_tup (pv 0) (po_some pe_int) po_none))
          (blkOk_by (own := [("product", 2)]) (N := ["side", "many", "product"]) (sc := defScope sIsSide) (by decide +kernel))
          (fun _ _ _ _ _ => pg_name (i := 2) scSideOk.nd rfl (Or.inl rfl)) (fun _ _ _ _ _ => pts_nil) (fun _ _ _ _ _ => by exact pe_c Pr hr (by decide) rfl (pa_cons (pv 2) pa_nil))) pa_nil)))))), ?_⟩
    refine ⟨_, rfl, _, _, _, _, true, rfl, .ty "tuple", .base (.tup ht), kit_tt, true, rfl, iteF ?_⟩
    refine ⟨_, rfl, t, _, rfl, .inr (SqT.of ht), _, rfl, 1, 2, rfl, rfl, rfl, _, rfl, ifF rfl ?_⟩
    dsimp only [tNext]
    refine ⟨_, rfl, t, _, 0, _, rfl, rfl, SqT.of ht, rfl, x.1, rfl, o1, fun H1 S1 => ⟨true, rfl, iteT (B := False) ?_⟩⟩
    refine ⟨_, rfl, 1, rfl, t, _, rfl, SqT.of (S1 _ _ ht), (fun h => absurd (show HT.sIx 3 0 (some 1) = 0 from h.1) (by decide)), fun p np => ?_⟩
    rw [cut12]
    have S2 : Same H1 (upd H1 p (.tup [.ref a, .ref b])) := Same.upd np
    have hp : (upd H1 p (.tup [.ref a, .ref b])) p = some (.tup [.ref a, .ref b]) := upd_same
    generalize upd H1 p (.tup [.ref a, .ref b]) = H2 at S2 hp ⊢
    refine ⟨p, rfl, ⟨_, SqT.of hp⟩, fun D nD => lc_it (walk_tup (xs := [.ref a, .ref b])) (fun i H' => Same H2 H' ∧ H' D = some (.lst (List.replicate i (V.bl true)))) ⟨Same.upd nD, upd_same⟩ (fun i H' _ q => SqT.of (q.1 _ _ hp)) ?_ ?_⟩
    · rintro i x1 H3 H4 hi ⟨S, hD⟩ ⟨rfl, hx2⟩
      have key : ∃ (a : Addr) (xs : List Str), [x1] = [V.ref a] ∧ H4 a = some (HO.lst (xs.map V.str)) ∧ (∀ z ∈ xs, LetOk z) ∧ xs.length ≤ 60 := by
        match i, hi with
        | 0, _ => cases hx2; exact ⟨a, x.2.1, rfl, S _ _ (S2 _ _ (S1 _ _ ha)), o2, o4⟩
        | 1, _ => cases hx2; exact ⟨b, x.2.2, rfl, S _ _ (S2 _ _ (S1 _ _ hb)), o3, o5⟩
      obtain ⟨c, zs, e, hc, hl, hz⟩ := key
      refine ⟨rfl, iteT (B := False) ⟨_, rfl, c, zs, e, hc, hl, hz, fun H5 S4 => ⟨_, S4 _ _ hD, ?_, ?_, ?_⟩⟩⟩
      · rw [List.length_replicate, sizeLine_eq]
        have : i < 2 := hi
        omega
      · intro b o hb
        rw [upd_ne (ne_of_none hb nD)]
        exact S4 _ _ (S _ _ hb)
      · rw [upd_same, List.replicate_succ']
    · rintro H3 ⟨S, hD⟩
      refine ⟨D, List.replicate 2 true, rfl, SqL.of hD, ?_⟩
      exact k H3 (S1.trans (S2.trans S))
end
end E4

set_option Elab.async false
set_option linter.all false
set_option maxRecDepth 100000
set_option maxHeartbeats 1000000
/-! names_of, is_sides -/
namespace E4
open PySem PySem.Spec PyProof.Rows L2
open C8 (Cal Mak Met InsC pe_c pe_mt pe_mt0 call_isC clsBody)
/-- good sides -/
structure SdsOk (xs : List Sd) : Prop where
  ne : xs ≠ []
  ok : ∀ x ∈ xs, SdOk x
  nd : (xs.map (·.1)).Nodup
  free : ∀ x ∈ xs, ∀ y ∈ xs, ∀ z, z ∈ x.2.1 ∨ z ∈ x.2.2 → z ≠ y.1
  len : xs.length ≤ 16
def spNames (K : PySem.W.Frag) : Sp := fun vs H Q _ => ∃ (l : Addr) (ts : List Addr) (xs : List Sd), vs = [.ref l] ∧ SqL K H l (ts.map V.ref) ∧ SdsAt H ts xs ∧ xs.length ≤ 60 ∧ ∀ H' p, Same H H' → H p = none → H' p = some (.lst ((xs.map (·.1)).map V.str)) → Q (.ref p) H'
def spSidesOk : Sp := fun vs H Q _ => ∃ (l : Addr) (ts : List Addr) (xs : List Sd), vs = [.ref l, .int 2] ∧ H l = some (.lst (ts.map V.ref)) ∧ SdsAt H ts xs ∧ SdsOk xs ∧ ∀ H', Same H H' → Q (.bl true) H'
theorem any_false (l : List Bool) (h : ∀ b ∈ l, b = false) : l.any id = false := by
  rw [List.any_eq_false]
  intro b hb
  rw [h b hb]
  decide
section
variable {P : Program} {w : World} {K : PySem.W.Frag} {mg : Str → Option Value} {base : Heap}
theorem scNames : FnScope ["sides", "side"] ["sides"] (defScope sNamesOf) := ⟨rfl, rfl, rfl, by decide +kernel, rfl, by decide +kernel, by decide +kernel⟩
theorem ok_names {f : Addr} {fd : FuncData} (F : Fun K "names_of" "names_of" sNamesOf f fd) : FnOk P w K mg base CX0 1 f fd ["sides"] (spNames K) := by
  refine F.ok scNames (fun vs H Q E h => ?_) (fun cdv A outer s H vs Q E hr h => ?_)
  · obtain ⟨l, ts, xs, rfl, _⟩ := h
    rfl
  · obtain ⟨l, ts, xs, rfl, hl, hx, hz, k⟩ := h
    refine ⟨_, pss_one (ps_ret (pe_lc (own := [("side", 1)]) (g := gName 1) (tt := tYes) (te := tOp (rIxT K) (tVar 1) (tC (.int 0))) rfl scNames.nd (pi_list (pv 0))
        (blkOk_by (own := [("side", 1)]) (N := ["sides", "side"]) (sc := defScope sNamesOf) (by decide +kernel))
        (fun _ _ _ _ _ => pg_name (i := 1) scNames.nd rfl (Or.inl rfl)) (fun _ _ _ _ _ => pts_nil) (fun _ _ _ _ _ => by exact pe_ix ix_tup (pv 1) pe_int (fun _ _ => rfl)))), ?_⟩
    have lt := hx.length
    refine ⟨_, rfl, l, rfl, ⟨_, hl⟩, fun D nD => lc_it (walk_list (xs := ts.map V.ref)) (fun i H' => Same H H' ∧ H' D = some (.lst (((xs.take i).map (·.1)).map V.str))) ⟨Same.upd nD, upd_same⟩ (fun i H' _ q => hl.same q.1) ?_ ?_⟩
    · rintro i x H1 H2 hi ⟨S, hD⟩ ⟨rfl, hx2⟩
      rw [List.length_map] at hi
      rw [List.getElem?_map] at hx2
      obtain ⟨t, htt, rfl⟩ := Option.map_eq_some_iff.mp hx2
      obtain ⟨y, hy, a, b, h1, _⟩ := paired_at hx htt
      refine ⟨rfl, iteT (B := False) ⟨_, rfl, t, _, 0, _, rfl, rfl, SqT.of (S _ _ h1), rfl, _, hD, ?_, ?_, ?_⟩⟩
      · rw [List.length_map, List.length_map, List.length_take, sizeLine_eq]
        omega
      · intro c o e
        rw [upd_ne (ne_of_none e nD)]
        exact S _ _ e
      · rw [upd_same, take_snoc hy, List.map_append, List.map_append]
        rfl
    · rintro H1 ⟨S, hD⟩
      rw [List.length_map, lt, List.take_length] at hD
      exact k H1 D S nD hD
theorem scSidesOk : FnScope ["sides", "many", "side", "names", "product", "part"] ["sides", "many"] (defScope sIsSides) := ⟨rfl, rfl, rfl, by decide +kernel, rfl, by decide +kernel, by decide +kernel⟩
theorem ok_sidesOk {f : Addr} {fd : FuncData} (F : Fun K "is_sides" "is_sides" sIsSides f fd) (B : Bl mg) (Sd : Cal P w K mg base 3 "is_side" spSideOk []) (Nm : Cal P w K mg base 1 "names_of" (spNames K) []) : FnOk P w K mg base CX0 4 f fd ["sides", "many"] spSidesOk := by
  refine F.ok scSidesOk (fun vs H Q E h => ?_) (fun cdv A outer s H vs Q E hr h => ?_)
  · obtain ⟨l, ts, xs, rfl, _⟩ := h
    rfl
  · obtain ⟨l, ts, xs, rfl, hl, hx, ok, k⟩ := h
    refine ⟨_, pss_cons (ps_if (PW.pt (pw_or (pt_not (pt_val (pe_callB call_isi (by rfl) B.isi (by decide +kernel) (pa_cons (pv 0) (pa_cons (pe_bltn (v := .ty "list") (by rfl) B.lst_ (by decide +kernel) rfl) pa_nil)))))
        (pw_or1 (pt_cmpR op_eq (pe_callB call_len_seq (by rfl) B.len_ PySem.boot_len (pa_cons (pv 0) pa_nil)) pe_int (by rfl))))) (pss_one (ps_ret pe_bl)) pss_nil)
      (pss_cons (ps_if (pt_not (pt_val (pe_callB (cr_all rfl) (by rfl) B.all_ (by decide +kernel) (pa_cons (pe_lc (own := [("side", 2)]) (g := gName 2) (tt := tYes) (te := tCall spSideOk [] C8.E0 (tCons (tVar 2) (tCons (tVar 1) tNil))) rfl scSidesOk.nd (pi_list (pv 0))
          (blkOk_by (own := [("side", 2)]) (N := ["sides", "many", "side", "names", "product", "part"]) (sc := defScope sIsSides) (by decide +kernel))
          (fun _ _ _ _ _ => pg_name (i := 2) scSidesOk.nd rfl (Or.inl rfl)) (fun _ _ _ _ _ => pts_nil) (fun _ _ _ _ _ => by exact pe_c Sd hr (by decide) rfl (pa_cons (pv 2) (pa_cons (pv 1) pa_nil)))) pa_nil)))) (pss_one (ps_ret pe_bl)) pss_nil)
      (pss_cons (ps_set (i := 3) scSidesOk.nd rfl (Or.inr rfl) (pe_c Nm hr (by decide) rfl (pa_cons (pv 0) pa_nil)))
      (pss_cons (ps_if (pt_cmpR op_lt (pe_callB cr_lenSS (by rfl) B.len_ PySem.boot_len (pa_cons (pe_callTy (cr_setLS rfl) (by rfl) B.set_ (by decide +kernel) (pa_cons (pv 3) pa_nil)) pa_nil)) (pe_callB call_len_seq (by rfl) B.len_ PySem.boot_len (pa_cons (pv 3) pa_nil)) (by rfl)) (pss_one (ps_ret pe_bl)) pss_nil)
      (pss_one (ps_ret (pe_not (pe_callB (cr_any rfl) (by rfl) B.any_ (by decide +kernel) (pa_cons (pe_lc3 (own := [("side", 2), ("product", 4), ("part", 5)]) (v1 := [4, 5]) (v2 := [5]) (g0 := gName 2) (w1 := iTup K (tSl (rSlT K) (tVar 2) (tPart (tC (.int 1))) tNoPart)) (g1 := gName 4) (w2 := iList K (tVar 4)) (g2 := gName 5) (te := tOp (rIn K false) (tVar 5) (tVar 3)) rfl scSidesOk.nd
          (blkOk_by (own := [("side", 2), ("product", 4), ("part", 5)]) (N := ["sides", "many", "side", "names", "product", "part"]) (sc := defScope sIsSides) (by decide +kernel)) (by decide) (by decide) (pi_list (pv 0))
          (fun _ _ _ _ _ => pg_name (i := 2) scSidesOk.nd rfl (Or.inl rfl)) (fun _ _ _ _ _ => by exact pi_tup (pe_slice sl_tup (pv 2) (po_some pe_int) po_none)) (fun _ _ _ _ _ => pg_name (i := 4) scSidesOk.nd rfl (Or.inl rfl))
          (fun _ _ _ _ _ => by exact pi_list (pv 4)) (fun _ _ _ _ _ => pg_name (i := 5) scSidesOk.nd rfl (Or.inl rfl)) (fun _ _ _ _ _ => by exact pe_cmpR op_in_seq (pv 5) (pv 3) (by rfl))) pa_nil)))))))), ?_⟩
    have lt := hx.length
    have zl := ok.len
    refine ⟨_, rfl, _, _, _, _, true, rfl, .ty "list", .base (.lst hl), kit_ll, true, rfl, iteF ?_⟩
    refine ⟨_, rfl, l, _, rfl, .inl (SqL.of hl), ?_⟩
    have hne : (ts.map V.ref).length ≠ 0 := by
      have : xs.length ≠ 0 := fun e => ok.ne (List.length_eq_zero_iff.mp e)
      rw [List.length_map]
      omega
    refine ⟨rfl, _, rfl, ifF (decide_eq_false fun e => hne (Int.ofNat.inj (V.int.inj e))) ?_⟩
    dsimp only [tNext]
    -- the first comprehension
    refine ⟨_, rfl, l, rfl, ⟨_, SqL.of hl⟩, fun D nD => lc_it (walk_list (xs := ts.map V.ref)) (fun i H' => Same H H' ∧ H' D = some (.lst (List.replicate i (V.bl true)))) ⟨Same.upd nD, upd_same⟩ (fun i H' _ q => SqL.of (q.1 _ _ hl)) ?_ ?_⟩
    · rintro i x H2 H3 hi ⟨S, hD⟩ ⟨rfl, hx2⟩
      rw [List.length_map] at hi
      rw [List.getElem?_map] at hx2
      obtain ⟨t, htt, rfl⟩ := Option.map_eq_some_iff.mp hx2
      obtain ⟨y, hy, sy⟩ := paired_at hx htt
      refine ⟨rfl, iteT (B := False) ⟨_, rfl, _, rfl, t, y, rfl, sy.same S, ok.ok y (List.mem_of_getElem? hy), fun H4 S4 => ⟨_, S4 _ _ hD, ?_, ?_, ?_⟩⟩⟩
      · rw [List.length_replicate, sizeLine_eq]
        omega
      · intro b o hb
        rw [upd_ne (ne_of_none hb nD)]
        exact S4 _ _ (S _ _ hb)
      · rw [upd_same, List.replicate_succ']
    rintro H2 ⟨S2, hD⟩
    refine ⟨D, List.replicate ts.length true, rfl, SqL.of (by rw [List.map_replicate]; rw [List.length_map] at hD; exact hD), true, by rw [all_true], iteF ?_⟩
    dsimp only [tNext]
    refine seq_asg ⟨_, rfl, l, ts, xs, rfl, SqL.of (S2 _ _ hl), hx.same S2, by omega, fun H3 p S3 np hp => ?_⟩
    -- the names
    have S03 := S2.trans S3
    refine ⟨_, rfl, p, xs.map (·.1), rfl, SqL.of hp, fun i => ?_, fun sa nsa => ?_⟩
    · have h1 := len_putAll ((xs.map (·.1)).take i) []
      rw [List.length_take, List.length_map] at h1
      have : (0 : Nat) + 60 + 1 < scanBound := by decide
      simp only [List.length_nil] at h1
      omega
    have S34 : Same H3 (upd H3 sa (SetSO P w sa (putAll [] (xs.map (·.1))))) := Same.upd nsa
    refine ⟨sa, _, rfl, upd_same, ?_⟩
    refine ⟨_, rfl, p, _, rfl, .inl (SqL.of (S34 _ _ hp)), ?_⟩
    have e1 := putAll_nodup (ks := []) ok.nd fun _ _ h => absurd h List.not_mem_nil
    refine ⟨_, _, rfl, rfl, _, rfl, ifF (decide_eq_false ?_) ?_⟩
    · rw [e1, List.length_map]
      simp
    dsimp only [tNext]
    show tRet _ _ _ (upd H3 sa (SetSO P w sa (putAll [] (xs.map (·.1)))))
    generalize upd H3 sa (SetSO P w sa (putAll [] (xs.map (·.1)))) = H4 at S34 ⊢
    have S04 := S03.trans S34
    have hp4 := S34 _ _ hp
    -- the last comprehension
    have big : ∀ m : Nat, m ≤ 120 * 60 → m < sizeLine := fun m h => by rw [sizeLine_eq]; omega
    refine ⟨_, rfl, l, rfl, ⟨_, SqL.of (S04 _ _ hl)⟩, fun D2 nD2 => ?_⟩
    have up : ∀ {H' : Hp} {v : HO}, Same H4 H' → Same H4 (upd H' D2 v) := fun S c o e => by
      rw [upd_ne (ne_of_none e nD2)]
      exact S _ _ e
    refine cl_it (walk_list (xs := ts.map V.ref)) (fun i H' => Same H4 H' ∧ ∃ m, m ≤ 120 * i ∧ H' D2 = some (.lst (List.replicate m (V.bl false)))) ⟨Same.upd nD2, 0, Nat.le_refl _, upd_same⟩ (fun i H' _ q => SqL.of (q.1 _ _ (S04 _ _ hl))) ?_ ?_
    · rintro i x H5 H6 hi ⟨S5, m, hm, hD⟩ ⟨rfl, hx2⟩
      rw [List.length_map] at hi
      rw [List.getElem?_map] at hx2
      obtain ⟨t, htt, rfl⟩ := Option.map_eq_some_iff.mp hx2
      obtain ⟨y, hy, a, b, h1, h2, h3⟩ := paired_at hx htt
      have ym := List.mem_of_getElem? hy
      obtain ⟨o1, o2, o3, o4, o5⟩ := ok.ok y ym
      have S45 := S04.trans S5
      refine ⟨rfl, _, rfl, 1, rfl, t, _, rfl, SqT.of (S45 _ _ h1), (fun h => absurd (show HT.sIx 3 0 (some 1) = 0 from h.1) (by decide)), fun q nq => ?_⟩
      rw [cut12]
      have nqD : q ≠ D2 := (ne_of_none hD nq).symm
      refine ⟨q, rfl, ⟨_, SqT.of upd_same⟩, ?_⟩
      refine cl_it (walk_tup (xs := [.ref a, .ref b])) (fun j H' => Same H4 H' ∧ H' q = some (.tup [.ref a, .ref b]) ∧ ∃ m, m ≤ 120 * i + 60 * j ∧ H' D2 = some (.lst (List.replicate m (V.bl false)))) ⟨S5.trans (Same.upd nq), upd_same, m, hm, by rw [upd_ne nqD.symm]; exact hD⟩ (fun j H' _ q => SqT.of q.2.1) ?_ ?_
      · rintro j x2 H7 H8 hj ⟨S7, hq7, m7, hm7, hD7⟩ ⟨rfl, hx3⟩
        have S47 := S04.trans S7
        have key : ∃ (c : Addr) (zs : List Str), x2 = .ref c ∧ H8 c = some (.lst (zs.map V.str)) ∧ zs.length ≤ 60 ∧ c ≠ D2 ∧ ∀ z ∈ zs, z ∈ y.2.1 ∨ z ∈ y.2.2 := by
          match j, hj with
          | 0, _ => cases hx3; exact ⟨a, y.2.1, rfl, S47 _ _ h2, o4, ne_of_none (S04 _ _ h2) nD2, fun z hz => .inl hz⟩
          | 1, _ => cases hx3; exact ⟨b, y.2.2, rfl, S47 _ _ h3, o5, ne_of_none (S04 _ _ h3) nD2, fun z hz => .inr hz⟩
        obtain ⟨c, zs, rfl, hc, hz, ncD, hzs⟩ := key
        refine ⟨rfl, _, rfl, c, rfl, ⟨_, SqL.of hc⟩, ?_⟩
        refine cl_it (walk_list (xs := zs.map V.str)) (fun k H' => Same H4 H' ∧ H' q = some (.tup [.ref a, .ref b]) ∧ H' c = some (.lst (zs.map V.str)) ∧ H' D2 = some (.lst (List.replicate (m7 + k) (V.bl false)))) ⟨S7, hq7, hc, hD7⟩ (fun k H' _ q => SqL.of q.2.2.1) ?_ ?_
        · rintro k x3 H9 H10 hk ⟨S9, hq9, hc9, hD9⟩ ⟨rfl, hx4⟩
          rw [List.length_map] at hk
          rw [List.getElem?_map] at hx4
          obtain ⟨z, hzz, rfl⟩ := Option.map_eq_some_iff.mp hx4
          have nin : inV (.str z) ((xs.map (·.1)).map V.str) = false := by
            unfold inV
            rw [List.any_eq_false]
            intro v hv
            obtain ⟨n, hn, rfl⟩ := List.mem_map.mp hv
            obtain ⟨y2, hy2, rfl⟩ := List.mem_map.mp hn
            have := ok.free y ym y2 hy2 z (hzs z (List.mem_of_getElem? hzz))
            simp [eqV, Ne.symm this]
          have fl : ((xs.map (·.1)).map V.str).all flatV = true := by
            rw [List.all_eq_true]
            intro v hv
            obtain ⟨n, hn, rfl⟩ := List.mem_map.mp hv
            rfl
          refine ⟨rfl, _, rfl, _, rfl, p, _, rfl, .inl (SqL.of (S9 _ _ hp4)), rfl, fl, ?_⟩
          have hi2 : i < 60 := by omega
          have hj2 : j < 2 := hj
          refine ⟨_, hD9, by rw [List.length_replicate]; exact big _ (by omega), up S9, ?_, ?_, ?_⟩
          · rw [upd_ne nqD]; exact hq9
          · rw [upd_ne ncD]; exact hc9
          · rw [upd_same, ← Nat.add_assoc, List.replicate_succ']
            show some (HO.lst (_ ++ [V.bl (inV _ _)])) = _
            rw [nin]
        · rintro H9 ⟨S9, hq9, hc9, hD9⟩
          rw [List.length_map] at hD9
          exact ⟨S9, hq9, m7 + zs.length, by omega, hD9⟩
      · rintro H7 ⟨S7, hq7, m7, hm7, hD7⟩
        exact ⟨S7, m7, by simp only [List.length_cons, List.length_nil] at hm7; omega, hD7⟩
    · rintro H5 ⟨S5, m, hm, hD⟩
      refine ⟨D2, List.replicate m false, rfl, SqL.of (by rw [List.map_replicate]; exact hD), ?_⟩
      rw [any_false _ fun b hb => (List.mem_replicate.mp hb).2]
      exact ⟨false, rfl, k _ (S04.trans S5)⟩
end
end E4

set_option Elab.async false
set_option linter.all false
set_option maxRecDepth 100000
set_option maxHeartbeats 1000000
/-! Plain: the constructor, sides(), sizes() -/
namespace E4
open PySem PySem.Spec PyProof.Rows L2
open C8 (Cal Mak Met InsC pe_c pe_mt pe_mt0 call_isC clsBody)
/-- a side with sorted products -/
def norm (x : Sd) : Sd := (x.1, sortT x.2.1, sortT x.2.2)
/-- the table at a: its sides, their products in order -/
def PlAt (C : Addr) (H : Hp) (a : Addr) (ss : List Sd) : Prop := ∃ dx l ts, H a = some (.ins C dx [("_sides", .ref l)]) ∧ H l = some (.lst (ts.map V.ref)) ∧ SdsAt H ts ss
theorem PlAt.same {C : Addr} {H H' : Hp} {a : Addr} {ss : List Sd} (h : PlAt C H a ss) (S : Same H H') : PlAt C H' a ss := let ⟨dx, l, ts, h1, h2, h3⟩ := h; ⟨dx, l, ts, S _ _ h1, S _ _ h2, h3.same S⟩
theorem str_ref {xs : List Str} {ts : List Addr} (h : xs.map V.str = ts.map V.ref) : ts = [] := by
  cases ts with
  | nil => rfl
  | cons t r =>
    cases xs with
    | nil => cases h
    | cons x y => cases (List.cons.inj h).1
/-- sides stay when a list of refs grows -/
theorem SdsAt.off {H H' : Hp} {D : Addr} {ts : List Addr} {xs : List Sd} {v : HO} (h : SdsAt H ts xs) (hD : H D = some (.lst (ts.map V.ref))) (hn : ∀ t ∈ ts, t ≠ D) (S : ∀ c o, c ≠ D → H c = some o → H' c = some o) : SdsAt H' ts xs := by
  refine h.imp fun t ht x hx => ?_
  obtain ⟨a, b, h1, h2, h3⟩ := hx
  have no : ∀ (c : Addr) (zs : List Str), H c = some (.lst (zs.map V.str)) → c ≠ D := fun c zs e z => by
    rw [z, hD] at e
    have := str_ref (HO.lst.inj (Option.some.inj e)).symm
    rw [this] at ht
    cases ht
  exact ⟨a, b, S _ _ (hn t ht) h1, S _ _ (no _ _ h2) h2, S _ _ (no _ _ h3) h3⟩
theorem length_sortT (l : List Str) : (sortT l).length = l.length := (sortT_perm l).length_eq
theorem SdOk.norm {x : Sd} (h : SdOk x) : SdOk (norm x) := by
  obtain ⟨h1, h2, h3, h4, h5⟩ := h
  exact ⟨h1, fun z hz => h2 z ((sortT_perm _).mem_iff.mp hz), fun z hz => h3 z ((sortT_perm _).mem_iff.mp hz), by show (sortT _).length ≤ 60; rw [length_sortT]; exact h4, by show (sortT _).length ≤ 60; rw [length_sortT]; exact h5⟩
theorem SdsOk.norm {xs : List Sd} (h : SdsOk xs) : SdsOk (xs.map norm) := by
  refine ⟨fun e => h.ne (List.map_eq_nil_iff.mp e), fun y hy => ?_, ?_, fun y hy z hz u hu => ?_, by rw [List.length_map]; exact h.len⟩
  · obtain ⟨x, hx, rfl⟩ := List.mem_map.mp hy
    exact (h.ok x hx).norm
  · rw [List.map_map]
    exact h.nd
  · obtain ⟨x, hx, rfl⟩ := List.mem_map.mp hy
    obtain ⟨x2, hx2, rfl⟩ := List.mem_map.mp hz
    refine h.free x hx x2 hx2 u ?_
    rcases hu with hu | hu
    · exact .inl ((sortT_perm _).mem_iff.mp hu)
    · exact .inr ((sortT_perm _).mem_iff.mp hu)
structure Px (P : Program) (w : World) (K : PySem.W.Frag) (mg : Str → Option Value) (base : Heap) (C : Addr) : Prop where
  cl : Cls K C
  na : NoAttr K C "_sides"
def spInit (C : Addr) : Sp := fun vs H Q _ => ∃ (a dx l : Addr) (ts : List Addr) (xs : List Sd), vs = [.ref a, .ref l] ∧ H a = some (.ins C dx []) ∧ H l = some (.lst (ts.map V.ref)) ∧ SdsAt H ts xs ∧ SdsOk xs ∧
  ∀ H' l' ts', SameB a H H' → H' a = some (.ins C dx [("_sides", .ref l')]) → H' l' = some (.lst (ts'.map V.ref)) → SdsAt H' ts' (xs.map norm) → Q .non H'
def spSides (C : Addr) : Sp := fun vs H Q _ => ∃ (a : Addr) (ss : List Sd), vs = [.ref a] ∧ PlAt C H a ss ∧ SdsOk ss ∧
  ∀ H' p ts', Same H H' → H p = none → H' p = some (.lst (ts'.map V.ref)) → SdsAt H' ts' ss → Q (.ref p) H'
section
variable {P : Program} {w : World} {K : PySem.W.Frag} {mg : Str → Option Value} {base : Heap} {C : Addr}
theorem scInit : FnScope ["self", "sides", "name", "size", "step"] ["self", "sides"] (defScope sInit) := ⟨rfl, rfl, rfl, by decide +kernel, rfl, by decide +kernel, by decide +kernel⟩
theorem ok_init {f : Addr} {fd : FuncData} (F : Fun K "__init__" "Plain.__init__" sInit f fd) (B : Bl mg) (T : Px P w K mg base C) (Is : Cal P w K mg base 4 "is_sides" spSidesOk []) : FnOk P w K mg base CX0 5 f fd ["self", "sides"] (spInit C) := by
  refine F.ok scInit (fun vs H Q E h => ?_) (fun cdv A outer s H vs Q E hr h => ?_)
  · obtain ⟨a, dx, l, ts, xs, rfl, _⟩ := h
    rfl
  · obtain ⟨a, dx, l, ts, xs, rfl, ha, hl, hx, ok, k⟩ := h
    refine ⟨_, pss_cons (ps_if (pt_not (pt_val (pe_c Is hr (by decide) rfl (pa_cons (pv 1) (pa_cons pe_int pa_nil))))) (pss_one ps_never) pss_nil)
      (pss_one (ps_fld (pv 0) (pe_lc (own := [("name", 2), ("size", 3), ("step", 4)]) (g := gTup K 3 (gCons (gName 2) (gCons (gName 3) (gCons (gName 4) gNil)))) (tt := tYes) (te := tTupS (tCons (tVar 2) (tCons (tCB (rSortedS K) (tCons (tVar 3) tNil)) (tCons (tCB (rSortedS K) (tCons (tVar 4) tNil)) tNil)))) rfl scInit.nd (pi_list (pv 1))
        (blkOk_by (own := [("name", 2), ("size", 3), ("step", 4)]) (N := ["self", "sides", "name", "size", "step"]) (sc := defScope sInit) (by decide +kernel))
        (fun _ _ _ _ _ => pg_tup rfl (pgs_cons (pg_name (i := 2) scInit.nd rfl (Or.inl rfl)) (pgs_cons (pg_name (i := 3) scInit.nd rfl (Or.inl rfl)) (pgs_cons (pg_name (i := 4) scInit.nd rfl (Or.inl rfl)) pgs_nil)))) (fun _ _ _ _ _ => pts_nil)
        (fun _ _ _ _ _ => by exact pe_tupS (pa_cons (pv 2) (pa_cons (pe_callB cr_sortedS (by rfl) B.srt_ (by decide +kernel) (pa_cons (pv 3) pa_nil)) (pa_cons (pe_callB cr_sortedS (by rfl) B.srt_ (by decide +kernel) (pa_cons (pv 4) pa_nil)) pa_nil))))) rfl)), ?_⟩
    have lt := hx.length
    have zl := ok.len
    refine ⟨_, rfl, l, ts, xs, rfl, hl, hx, ok, fun H1 S1 => ⟨true, rfl, iteF ?_⟩⟩
    dsimp only [tNext]
    have ha1 := S1 _ _ ha
    have hl1 := S1 _ _ hl
    have hx1 := hx.same S1
    refine ⟨_, rfl, l, rfl, ⟨_, SqL.of hl1⟩, fun D nD => ?_⟩
    refine lc_it (walk_list (xs := ts.map V.ref)) (fun i H' => Same H1 H' ∧ ∃ ts' : List Addr, H' D = some (.lst (ts'.map V.ref)) ∧ ts'.length = i ∧ SdsAt H' ts' ((xs.take i).map norm) ∧ ∀ t ∈ ts', t ≠ D) ⟨Same.upd nD, [], upd_same, rfl, .nil, fun _ h => absurd h List.not_mem_nil⟩ (fun i H' _ q => SqL.of (q.1 _ _ hl1)) ?_ ?_
    · rintro i x H2 H3 hi ⟨S2, ts', hD, lt', hs, ht'⟩ ⟨rfl, hx2⟩
      rw [List.length_map] at hi
      rw [List.getElem?_map] at hx2
      obtain ⟨t, htt, rfl⟩ := Option.map_eq_some_iff.mp hx2
      obtain ⟨y, hy, u, v, h1, h2, h3⟩ := paired_at hx1 htt
      obtain ⟨o1, o2, o3, o4, o5⟩ := ok.ok y (List.mem_of_getElem? hy)
      refine ⟨t, _, rfl, SqT.of (S2 _ _ h1), rfl, _, _, rfl, _, _, rfl, _, _, rfl, rfl, rfl, iteT (B := False) ?_⟩
      refine ⟨_, rfl, _, rfl, u, y.2.1, rfl, SqL.of (S2 _ _ h2), by omega, fun ys p pm so np => ?_⟩
      have ep : ∀ v : HO, Same H3 (upd H3 p v) := fun v => Same.upd np
      have S4 := S2.trans (ep (.lst (ys.map V.str)))
      have hp4 : (upd H3 p (.lst (ys.map V.str))) p = some (.lst (ys.map V.str)) := upd_same
      have hD4 := ep (.lst (ys.map V.str)) _ _ hD
      have S34 := ep (.lst (ys.map V.str))
      generalize upd H3 p (.lst (ys.map V.str)) = H4 at S4 hp4 hD4 S34 ⊢
      refine ⟨_, rfl, v, y.2.2, rfl, SqL.of (S4 _ _ h3), by omega, fun zs q pm2 so2 nq => ?_⟩
      have eq : ∀ v : HO, Same H4 (upd H4 q v) := fun v => Same.upd nq
      refine ⟨by show 3 ≤ sizeLine; decide, fun t6 H6 S6 n6 h6 => ?_⟩
      have S46 := (eq (.lst (zs.map V.str))).trans S6
      have S16 := S4.trans S46
      have hD6 := S46 _ _ hD4
      have hp6 := S46 _ _ hp4
      have hq6 := S6 _ _ (upd_same (H := H4) (a := q) (o := .lst (zs.map V.str)))
      have off : ∀ {c : Addr} {o u : HO}, c ≠ D → H6 c = some o → (upd H6 D u) c = some o := fun n e => by rw [upd_ne n]; exact e
      have npD : p ≠ D := (ne_of_none hD np).symm
      have nqD : q ≠ D := (ne_of_none hD4 nq).symm
      have n6D : t6 ≠ D := ne_of h6 hD6 (by intro z; cases z)
      refine ⟨_, hD6, by rw [List.length_map, lt', sizeLine_eq]; omega, fun c o e => off (ne_of_none e nD) (S16 _ _ e), ts' ++ [t6], by rw [upd_same, List.map_append]; rfl, by rw [List.length_append, lt']; rfl, ?_, ?_⟩
      · rw [take_snoc hy, List.map_append]
        refine paired_snoc (SdsAt.off (v := .lst []) hs hD ht' fun c o n e => off n (S46 _ _ (S34 _ _ e))) ⟨p, q, off n6D (by rw [h6]; rfl), off npD (by rw [hp6, sortT_one pm so]; rfl), off nqD (by rw [hq6, sortT_one pm2 so2]; rfl)⟩
      · intro t3 h3
        rcases List.mem_append.mp h3 with h | h
        · exact ht' t3 h
        · rw [List.mem_singleton.mp h]
          exact n6D
    · rintro H2 ⟨S2, ts', hD, lt', hs, _⟩
      rw [List.length_map, lt, List.take_length] at hs
      refine ⟨_, rfl, a, C, dx, [], rfl, S2 _ _ ha1, T.cl, T.na, by decide, ?_⟩
      have nDa : D ≠ a := (ne_of_none ha1 nD).symm
      refine k _ D ts' (fun c o n e => by rw [upd_ne n]; exact S2 _ _ (S1 _ _ e)) upd_same (by rw [upd_ne nDa]; exact hD) (hs.imp fun t3 _ x3 ⟨a3, b3, r1, r2, r3⟩ => ?_)
      have h5 := S2 _ _ ha1
      exact ⟨a3, b3, by rw [upd_ne (ne_of r1 h5 (by intro z; cases z))]; exact r1, by rw [upd_ne (ne_of r2 h5 (by intro z; cases z))]; exact r2, by rw [upd_ne (ne_of r3 h5 (by intro z; cases z))]; exact r3⟩
end
end E4

set_option Elab.async false
set_option linter.all false
set_option maxRecDepth 100000
set_option maxHeartbeats 1000000
/-! Plain: sides(), sizes() -/
namespace E4
open PySem PySem.Spec PyProof.Rows L2
open C8 (Cal Mak Met InsC pe_c pe_mt pe_mt0 call_isC clsBody)
/-- all letters of the products, one behind the other -/
def letsOf (ss : List Sd) : List Str := ss.flatMap fun x => x.2.1 ++ x.2.2
/-- the size letters in order -/
def sizesOf (ss : List Sd) : List Str := sortT (putAll [] (letsOf ss))
theorem mem_sizesOf {ss : List Sd} {z : Str} : z ∈ sizesOf ss ↔ ∃ x ∈ ss, z ∈ x.2.1 ∨ z ∈ x.2.2 := by
  unfold sizesOf letsOf
  rw [(sortT_perm _).mem_iff, mem_putAll, List.mem_flatMap]
  constructor
  · rintro (h | ⟨x, hx, h⟩)
    · cases h
    · exact ⟨x, hx, List.mem_append.mp h⟩
  · rintro ⟨x, hx, h⟩
    exact .inr ⟨x, hx, List.mem_append.mpr h⟩
theorem length_lets : ∀ {ss : List Sd}, (∀ x ∈ ss, SdOk x) → (letsOf ss).length ≤ 120 * ss.length
  | [], _ => Nat.zero_le _
  | x :: ss, h => by
    have ih := length_lets (ss := ss) fun y hy => h y (List.mem_cons_of_mem _ hy)
    obtain ⟨_, _, _, h4, h5⟩ := h x List.mem_cons_self
    unfold letsOf at ih ⊢
    rw [List.flatMap_cons, List.length_append, List.length_append, List.length_cons]
    omega
theorem length_sizes {ss : List Sd} (h : SdsOk ss) : (sizesOf ss).length ≤ 1920 := by
  unfold sizesOf
  rw [length_sortT]
  have h1 := len_putAll (letsOf ss) []
  have h2 := length_lets h.ok
  have := h.len
  simp only [List.length_nil] at h1
  omega
def spSizes (C : Addr) : Sp := fun vs H Q _ => ∃ (a : Addr) (ss : List Sd), vs = [.ref a] ∧ PlAt C H a ss ∧ SdsOk ss ∧
  ∀ H' p, Same H H' → H p = none → H' p = some (.lst ((sizesOf ss).map V.str)) → Q (.ref p) H'
section
variable {P : Program} {w : World} {K : PySem.W.Frag} {mg : Str → Option Value} {base : Heap} {C : Addr}
theorem scSides : FnScope ["self", "name", "size", "step"] ["self"] (defScope sSides) := ⟨rfl, rfl, rfl, by decide +kernel, rfl, by decide +kernel, by decide +kernel⟩
theorem ok_sides {f : Addr} {fd : FuncData} (F : Fun K "sides" "Plain.sides" sSides f fd) (B : Bl mg) (T : Px P w K mg base C) : FnOk P w K mg base CX0 1 f fd ["self"] (spSides C) := by
  refine F.ok scSides (fun vs H Q E h => ?_) (fun cdv A outer s H vs Q E hr h => ?_)
  · obtain ⟨a, ss, rfl, _⟩ := h
    rfl
  · obtain ⟨a, xs, rfl, ⟨dx, l, ts, ha, hl, hx⟩, ok, k⟩ := h
    refine ⟨_, pss_one (ps_ret (pe_lc (own := [("name", 1), ("size", 2), ("step", 3)]) (g := gTup K 3 (gCons (gName 1) (gCons (gName 2) (gCons (gName 3) gNil)))) (tt := tYes) (te := tTupS (tCons (tVar 1) (tCons (tCB (fun xs H Q => ∃ p ys, xs = [.ref p] ∧ (SqL K H p ys ∨ SqT K H p ys) ∧ ∀ l, H l = none → Q (.ref l) (upd H l (.lst ys))) (tCons (tVar 2) tNil)) (tCons (tCB (fun xs H Q => ∃ p ys, xs = [.ref p] ∧ (SqL K H p ys ∨ SqT K H p ys) ∧ ∀ l, H l = none → Q (.ref l) (upd H l (.lst ys))) (tCons (tVar 3) tNil)) tNil)))) rfl scSides.nd (pi_list (pe_fld (pv 0) rfl))
        (blkOk_by (own := [("name", 1), ("size", 2), ("step", 3)]) (N := ["self", "name", "size", "step"]) (sc := defScope sSides) (by decide +kernel))
        (fun _ _ _ _ _ => pg_tup rfl (pgs_cons (pg_name (i := 1) scSides.nd rfl (Or.inl rfl)) (pgs_cons (pg_name (i := 2) scSides.nd rfl (Or.inl rfl)) (pgs_cons (pg_name (i := 3) scSides.nd rfl (Or.inl rfl)) pgs_nil)))) (fun _ _ _ _ _ => pts_nil)
        (fun _ _ _ _ _ => by exact pe_tupS (pa_cons (pv 1) (pa_cons (pe_callTy call_list_of (by rfl) B.lst_ (by decide +kernel) (pa_cons (pv 2) pa_nil)) (pa_cons (pe_callTy call_list_of (by rfl) B.lst_ (by decide +kernel) (pa_cons (pv 3) pa_nil)) pa_nil)))))), ?_⟩
    have lt := hx.length
    have zl := ok.len
    refine ⟨_, rfl, a, C, dx, _, _, rfl, ha, T.cl, T.na, rfl, l, rfl, ⟨_, SqL.of hl⟩, fun D nD => ?_⟩
    refine lc_it (walk_list (xs := ts.map V.ref)) (fun i H' => Same H H' ∧ ∃ ts' : List Addr, H' D = some (.lst (ts'.map V.ref)) ∧ ts'.length = i ∧ SdsAt H' ts' (xs.take i) ∧ ∀ t ∈ ts', t ≠ D) ⟨Same.upd nD, [], upd_same, rfl, .nil, fun _ h => absurd h List.not_mem_nil⟩ (fun i H' _ q => SqL.of (q.1 _ _ hl)) ?_ ?_
    · rintro i x H2 H3 hi ⟨S2, ts', hD, lt', hs, ht'⟩ ⟨rfl, hx2⟩
      rw [List.length_map] at hi
      rw [List.getElem?_map] at hx2
      obtain ⟨t, htt, rfl⟩ := Option.map_eq_some_iff.mp hx2
      obtain ⟨y, hy, u, v, h1, h2, h3⟩ := paired_at hx htt
      refine ⟨t, _, rfl, SqT.of (S2 _ _ h1), rfl, _, _, rfl, _, _, rfl, _, _, rfl, rfl, rfl, iteT (B := False) ?_⟩
      refine ⟨_, rfl, _, rfl, u, _, rfl, .inl (SqL.of (S2 _ _ h2)), fun p np => ?_⟩
      have ep : ∀ v : HO, Same H3 (upd H3 p v) := fun v => Same.upd np
      have S4 := S2.trans (ep (.lst (y.2.1.map V.str)))
      have S34 := ep (.lst (y.2.1.map V.str))
      have hp4 : (upd H3 p (.lst (y.2.1.map V.str))) p = some (.lst (y.2.1.map V.str)) := upd_same
      have hD4 := ep (.lst (y.2.1.map V.str)) _ _ hD
      generalize upd H3 p (.lst (y.2.1.map V.str)) = H4 at S4 hp4 hD4 S34 ⊢
      refine ⟨_, rfl, v, _, rfl, .inl (SqL.of (S4 _ _ h3)), fun q nq => ?_⟩
      have eq : ∀ v : HO, Same H4 (upd H4 q v) := fun v => Same.upd nq
      refine ⟨by show 3 ≤ sizeLine; decide, fun t6 H6 S6 n6 h6 => ?_⟩
      have S46 := (eq (.lst (y.2.2.map V.str))).trans S6
      have S16 := S4.trans S46
      have hD6 := S46 _ _ hD4
      have hp6 := S46 _ _ hp4
      have hq6 := S6 _ _ (upd_same (H := H4) (a := q) (o := .lst (y.2.2.map V.str)))
      have off : ∀ {c : Addr} {o u : HO}, c ≠ D → H6 c = some o → (upd H6 D u) c = some o := fun n e => by rw [upd_ne n]; exact e
      have npD : p ≠ D := (ne_of_none hD np).symm
      have nqD : q ≠ D := (ne_of_none hD4 nq).symm
      have n6D : t6 ≠ D := ne_of h6 hD6 (by intro z; cases z)
      refine ⟨_, hD6, by rw [List.length_map, lt', sizeLine_eq]; omega, fun c o e => off (ne_of_none e nD) (S16 _ _ e), ts' ++ [t6], by rw [upd_same, List.map_append]; rfl, by rw [List.length_append, lt']; rfl, ?_, ?_⟩
      · rw [take_snoc hy]
        exact paired_snoc (SdsAt.off (v := .lst []) hs hD ht' fun c o n e => off n (S46 _ _ (S34 _ _ e))) ⟨p, q, off n6D h6, off npD hp6, off nqD hq6⟩
      · intro t3 h3
        rcases List.mem_append.mp h3 with h | h
        · exact ht' t3 h
        · rw [List.mem_singleton.mp h]
          exact n6D
    · rintro H2 ⟨S2, ts', hD, lt', hs, _⟩
      rw [List.length_map, lt, List.take_length] at hs
      exact k H2 D ts' S2 nD hD hs
theorem scSizes : FnScope ["self", "side", "product", "part"] ["self"] (defScope sSizes) := ⟨rfl, rfl, rfl, by decide +kernel, rfl, by decide +kernel, by decide +kernel⟩
theorem ok_sizes {f : Addr} {fd : FuncData} (F : Fun K "sizes" "Plain.sizes" sSizes f fd) (B : Bl mg) (T : Px P w K mg base C) : FnOk P w K mg base CX0 1 f fd ["self"] (spSizes C) := by
  refine F.ok scSizes (fun vs H Q E h => ?_) (fun cdv A outer s H vs Q E hr h => ?_)
  · obtain ⟨a, ss, rfl, _⟩ := h
    rfl
  · obtain ⟨a, xs, rfl, ⟨dx, l, ts, ha, hl, hx⟩, ok, k⟩ := h
    refine ⟨_, pss_one (ps_ret (pe_callB (cr_sortedSS rfl) (by rfl) B.srt_ (by decide +kernel) (pa_cons (pe_sc3 (own := [("side", 1), ("product", 2), ("part", 3)]) (v1 := [2, 3]) (v2 := [3]) (g0 := gName 1) (w1 := iTup K (tSl (rSlT K) (tVar 1) (tPart (tC (.int 1))) tNoPart)) (g1 := gName 2) (w2 := iList K (tVar 2)) (g2 := gName 3) (te := tVar 3) rfl scSizes.nd
          (blkOk_by (own := [("side", 1), ("product", 2), ("part", 3)]) (N := ["self", "side", "product", "part"]) (sc := defScope sSizes) (by decide +kernel)) (by decide) (by decide) (pi_list (pe_fld (pv 0) rfl))
          (fun _ _ _ _ _ => pg_name (i := 1) scSizes.nd rfl (Or.inl rfl)) (fun _ _ _ _ _ => by exact pi_tup (pe_slice sl_tup (pv 1) (po_some pe_int) po_none)) (fun _ _ _ _ _ => pg_name (i := 2) scSizes.nd rfl (Or.inl rfl))
          (fun _ _ _ _ _ => by exact pi_list (pv 2)) (fun _ _ _ _ _ => pg_name (i := 3) scSizes.nd rfl (Or.inl rfl)) (fun _ _ _ _ _ => pv 3)) pa_nil))), ?_⟩
    have lt := hx.length
    have zl := ok.len
    have all4 : ∀ l : List Str, l.length ≤ 1920 → (putAll [] l).length + 1 < scanBound := fun l h => by
      have h1 := len_putAll l []
      have : (1920 : Nat) + 1 < scanBound := by decide
      simp only [List.length_nil] at h1
      omega
    have lim : ∀ (i : Nat) (y : Sd) (n : List Str), xs[i]? = some y → n.length ≤ 120 → (letsOf (xs.take i) ++ n).length ≤ 1920 := fun i y n hy hn => by
      have h1 := length_lets (ss := xs.take i) fun x hx => ok.ok x (List.mem_of_mem_take hx)
      have h2 := (List.getElem?_eq_some_iff.mp hy).1
      rw [List.length_take] at h1
      rw [List.length_append]
      omega
    refine ⟨_, rfl, a, C, dx, _, _, rfl, ha, T.cl, T.na, rfl, l, rfl, ⟨_, SqL.of hl⟩, fun D nD => ?_⟩
    have up : ∀ {H' : Hp} {v : HO}, Same H H' → Same H (upd H' D v) := fun S c o e => by
      rw [upd_ne (ne_of_none e nD)]
      exact S _ _ e
    refine cl_it (walk_list (xs := ts.map V.ref)) (fun i H' => Same H H' ∧ H' D = some (SetSO P w D (putAll [] (letsOf (xs.take i))))) ⟨Same.upd nD, upd_same⟩ (fun i H' _ q => SqL.of (q.1 _ _ hl)) ?_ ?_
    · rintro i x H5 H6 hi ⟨S5, hD⟩ ⟨rfl, hx2⟩
      rw [List.length_map] at hi
      rw [List.getElem?_map] at hx2
      obtain ⟨t, htt, rfl⟩ := Option.map_eq_some_iff.mp hx2
      obtain ⟨y, hy, u, v, h1, h2, h3⟩ := paired_at hx htt
      obtain ⟨o1, o2, o3, o4, o5⟩ := ok.ok y (List.mem_of_getElem? hy)
      have lt2 : letsOf (xs.take (i + 1)) = letsOf (xs.take i) ++ (y.2.1 ++ y.2.2) := by
        unfold letsOf
        rw [take_snoc hy, List.flatMap_append, List.flatMap_cons, List.flatMap_nil, List.append_nil]
      refine ⟨rfl, _, rfl, 1, rfl, t, _, rfl, SqT.of (S5 _ _ h1), (fun h => absurd (show HT.sIx 3 0 (some 1) = 0 from h.1) (by decide)), fun q nq => ?_⟩
      rw [cut12]
      have nqD : q ≠ D := (ne_of_none hD nq).symm
      refine ⟨q, rfl, ⟨_, SqT.of upd_same⟩, ?_⟩
      have fa : u ≠ D := ne_of_none h2 nD
      have fb : v ≠ D := ne_of_none h3 nD
      refine cl_it (walk_tup (xs := [.ref u, .ref v])) (fun j H' => Same H H' ∧ H' q = some (.tup [.ref u, .ref v]) ∧ H' D = some (SetSO P w D (putAll [] (letsOf (xs.take i) ++ ([y.2.1, y.2.2].take j).flatten)))) ⟨S5.trans (Same.upd nq), upd_same, by rw [upd_ne nqD.symm, hD]; simp⟩ (fun j H' _ q => SqT.of q.2.1) ?_ ?_
      · rintro j x2 H7 H8 hj ⟨S7, hq7, hD7⟩ ⟨rfl, hx3⟩
        have key : ∃ (c : Addr) (zs ps : List Str), x2 = .ref c ∧ H8 c = some (.lst (zs.map V.str)) ∧ c ≠ D ∧ ps = ([y.2.1, y.2.2].take j).flatten ∧ ([y.2.1, y.2.2].take (j + 1)).flatten = ps ++ zs ∧ ps.length + zs.length ≤ 120 := by
          match j, hj with
          | 0, _ => cases hx3; exact ⟨u, y.2.1, [], rfl, S7 _ _ h2, fa, rfl, by simp, by simp; omega⟩
          | 1, _ => cases hx3; exact ⟨v, y.2.2, y.2.1, rfl, S7 _ _ h3, fb, by simp, by simp, by omega⟩
        obtain ⟨c, zs, ps, rfl, hc, ncD, e1, e2, hz⟩ := key
        rw [← e1] at hD7
        refine ⟨rfl, _, rfl, c, rfl, ⟨_, SqL.of hc⟩, ?_⟩
        refine cl_it (walk_list (xs := zs.map V.str)) (fun k H' => Same H H' ∧ H' q = some (.tup [.ref u, .ref v]) ∧ H' c = some (.lst (zs.map V.str)) ∧ H' D = some (SetSO P w D (putAll [] (letsOf (xs.take i) ++ (ps ++ zs.take k))))) ⟨S7, hq7, hc, by rw [List.take_zero, List.append_nil]; exact hD7⟩ (fun k H' _ q => SqL.of q.2.2.1) ?_ ?_
        · rintro k x3 H9 H10 hk ⟨S9, hq9, hc9, hD9⟩ ⟨rfl, hx4⟩
          rw [List.length_map] at hk
          rw [List.getElem?_map] at hx4
          obtain ⟨z, hzz, rfl⟩ := Option.map_eq_some_iff.mp hx4
          refine ⟨rfl, _, rfl, z, _, rfl, hD9, ?_, up S9, ?_, ?_, ?_⟩
          · refine all4 _ (lim i y _ hy ?_)
            rw [List.length_append, List.length_take]
            omega
          · rw [upd_ne nqD]; exact hq9
          · rw [upd_ne ncD]; exact hc9
          · rw [upd_same, putAllS_snoc, take_snoc hzz, List.append_assoc, List.append_assoc]
            rfl
        · rintro H9 ⟨S9, hq9, hc9, hD9⟩
          rw [List.length_map, List.take_length] at hD9
          exact ⟨S9, hq9, by rw [e2]; exact hD9⟩
      · rintro H7 ⟨S7, hq7, hD7⟩
        refine ⟨S7, ?_⟩
        rw [hD7, lt2]
        simp
    · rintro H5 ⟨S5, hD⟩
      rw [List.length_map, lt, List.take_length] at hD
      refine ⟨D, _, rfl, hD, fun ys pm nd so p H6 S6 np hp => ?_⟩
      rw [sortT_one pm so] at hp
      exact k H6 p (S5.trans S6) (S5.free np) hp
end
end E4

set_option Elab.async false
set_option linter.all false
set_option maxRecDepth 100000
set_option maxHeartbeats 1000000
/-! list.remove of a text -/
namespace L2
open PySem PySem.Spec PyProof.Rows
theorem erase_ix : ∀ {zs : List Str} {k : Str}, k ∈ zs → ∃ j, zs[j]? = some k ∧ (∀ m, m < j → zs[m]? ≠ some k) ∧ zs.eraseIdx j = zs.erase k
  | z :: zs, k, h => by
    by_cases e : z = k
    · subst e
      exact ⟨0, rfl, fun m hm => absurd hm (Nat.not_lt_zero _), by simp⟩
    · have hk : k ∈ zs := by
        rcases List.mem_cons.mp h with q | q
        · exact absurd q.symm e
        · exact q
      obtain ⟨j, h1, h2, h3⟩ := erase_ix hk
      refine ⟨j + 1, h1, fun m hm => ?_, ?_⟩
      · cases m with
        | zero => intro q; exact e (Option.some.inj q)
        | succ m => exact h2 m (by omega)
      · rw [List.eraseIdx_cons_succ, h3, List.erase_cons_tail (by simpa using e)]
theorem erase_mapS : ∀ (l : List Str) (j : Nat), (l.map V.str).eraseIdx j = (l.eraseIdx j).map V.str
  | [], j => by simp
  | a :: r, 0 => by simp
  | a :: r, j + 1 => by
    have ih := erase_mapS r j
    simp [ih]
def rRemS : V → List V → Hp → VK → Prop := fun x xs H Q => ∃ (l : Addr) (zs : List Str) (k : Str), x = .ref l ∧ xs = [.str k] ∧ H l = some (.lst (zs.map V.str)) ∧ k ∈ zs ∧ Q .non (upd H l (.lst ((zs.erase k).map V.str)))
theorem mt_removeS {X : Cx} : MtM X "list.remove" rRemS := by
  intro pins s σ H x xs v us Q I rx rxs h
  obtain ⟨l, zs, k, rfl, rfl, hH, hk, q⟩ := h
  obtain ⟨j, hj, hno, ej⟩ := erase_ix hk
  cases rx
  obtain ⟨u, rfl, ru⟩ := rxs.one
  obtain ⟨t, rfl⟩ := ru
  obtain ⟨z, its, n, r, hl, e⟩ := I.lstM hH
  rw [List.length_map] at hl z
  have hjn : j < zs.length := (List.getElem?_eq_some_iff.mp hj).1
  have hjl : j < its.toArray.size := by rw [List.size_toArray]; omega
  have hi := strsAre_of r
  refine call_meets PySem.F.slot_list_remove ⟨_, e, rfl⟩ PySem.F.entry_list_remove (PySem.F.args_list_remove_2 _ _)
    (SeqAt.list_removeAt l its.toArray n none #[] (.str k t) (eqU (.str k)) j hjl ?_ ?_ (by rw [List.size_toArray]; omega)) ⟨e, fun w hw => mem_eqAt (x := .str k) ⟨t, rfl⟩ rfl r (flat_strs zs) w (by simpa using hw), ?_⟩
  · obtain ⟨tj, hjt⟩ := hi.get j k hj
    obtain ⟨h1, h2⟩ := List.getElem?_eq_some_iff.mp hjt
    have e1 : its.toArray[j] = .str k tj := by simpa using h2
    rw [e1]
    show (k == k) = true
    exact beq_self_eq_true k
  · intro m hm hmj
    have hmn : m < zs.length := by omega
    obtain ⟨tm, hmt⟩ := hi.get m _ (List.getElem?_eq_getElem hmn)
    obtain ⟨h1, h2⟩ := List.getElem?_eq_some_iff.mp hmt
    have e1 : its.toArray[m] = .str zs[m] tm := by simpa using h2
    rw [e1]
    show (zs[m] == k) = false
    refine beq_eq_false_iff_ne.mpr fun e2 => hno m hmj ?_
    rw [List.getElem?_eq_getElem hmn, e2]
  · have rr := r.eraseIdx j
    rw [erase_mapS, ej] at rr
    refine ⟨.non, _, I.lset (its' := its.eraseIdx j) (t' := s.toks) hH e ?_ rr ?_, rfl, q⟩
    · show its.toArray.eraseIdxIfInBounds j = (its.eraseIdx j).toArray
      rw [List.eraseIdxIfInBounds_toArray]
    · rw [List.length_map]
      have := List.length_erase_le (a := k) (l := zs)
      omega
end L2

set_option Elab.async false
set_option linter.all false
set_option maxRecDepth 100000
set_option maxHeartbeats 1000000
/-! left_of, misfit -/
namespace E4
open PySem PySem.Spec PyProof.Rows L2
open C8 (Cal Mak Met InsC pe_c pe_mt pe_mt0 call_isC clsBody)
/-- what is left of p -/
def leftOf (p o : List Str) : List Str := o.foldl (fun l z => l.erase z) p
theorem leftOf_snoc (p o : List Str) (z : Str) : leftOf p (o ++ [z]) = (leftOf p o).erase z := by unfold leftOf; rw [List.foldl_append]; rfl
theorem erase_not {z : Str} {l : List Str} (h : z ∉ l) : l.erase z = l := List.erase_of_not_mem h
def spLeft (K : PySem.W.Frag) : Sp := fun vs H Q _ => ∃ (a b : Addr) (p o : List Str), vs = [.ref a, .ref b] ∧ SqL K H a (p.map V.str) ∧ SqL K H b (o.map V.str) ∧ p.length ≤ 1000 ∧ o.length ≤ 1000 ∧ ∀ H' q, Same H H' → H q = none → H' q = some (.lst ((leftOf p o).map V.str)) → Q (.ref q) H'
section
variable {P : Program} {w : World} {K : PySem.W.Frag} {mg : Str → Option Value} {base : Heap} {C : Addr}
theorem inV_str (z : Str) : ∀ xs : List Str, inV (.str z) (xs.map V.str) = decide (z ∈ xs)
  | [] => by simp [inV]
  | x :: xs => by
    have ih := inV_str z xs
    unfold inV at ih ⊢
    rw [List.map_cons, List.any_cons, ih]
    by_cases e : x = z
    · subst e; simp [eqV]
    · have e2 : ¬ z = x := fun q => e q.symm
      simp [eqV, e, e2]
theorem scLeft : FnScope ["product", "other", "left", "name"] ["product", "other"] (defScope sLeftOf) := ⟨rfl, rfl, rfl, by decide +kernel, rfl, by decide +kernel, by decide +kernel⟩
theorem ok_left {f : Addr} {fd : FuncData} (F : Fun K "left_of" "left_of" sLeftOf f fd) (B : Bl mg) : FnOk P w K mg base CX0 1 f fd ["product", "other"] (spLeft K) := by
  refine F.ok scLeft (fun vs H Q E h => ?_) (fun cdv A outer s H vs Q E hr h => ?_)
  · obtain ⟨a, b, p, o, rfl, _⟩ := h
    rfl
  · obtain ⟨a, b, p, o, rfl, ha, hb, zp, zo, k⟩ := h
    refine ⟨_, pss_cons (ps_set (i := 2) scLeft.nd rfl (Or.inl rfl) (pe_callTy call_list_of (by rfl) B.lst_ (by decide +kernel) (pa_cons (pv 0) pa_nil)))
      (pss_cons (ps_for PassesOwn.never rfl (pi_list (pv 1)) (pg_name (i := 3) scLeft.nd rfl (Or.inl rfl))
        (pss_one (ps_if (pt_cmpR op_in_seq (pv 3) (pv 2) (by rfl)) (pss_one (ps_expr (pe_bm PySem.F.plainAttrs_list PySem.F.slot_list_remove PySem.F.type_list_remove mt_removeS (pv 2) (pa_cons (pv 3) pa_nil)))) pss_nil)))
      (pss_one (ps_ret (pv 2)))), ?_⟩
    refine seq_asg ⟨_, rfl, a, _, rfl, .inl ha, fun q nq => ?_⟩
    have S1 : ∀ v : HO, Same H (upd H q v) := fun v => Same.upd nq
    refine ⟨_, rfl, b, rfl, ⟨_, hb.same (S1 _)⟩, for_it (walk_list (xs := o.map V.str)) (fun i σ' H' => ∃ u, σ' = [some (.ref a), some (.ref b), some (.ref q), u] ∧ Same H H' ∧ H' q = some (.lst ((leftOf p (o.take i)).map V.str))) ⟨none, rfl, S1 _, by rw [upd_same]; rfl⟩ (fun i σ' H' _ h => let ⟨_, _, S, _⟩ := h; hb.same S) ?_ ?_⟩
    · rintro i v σ' H1 H2 hi ⟨u, rfl, S, hq⟩ ⟨rfl, hx⟩
      rw [List.length_map] at hi
      rw [List.getElem?_map] at hx
      obtain ⟨z, hz, rfl⟩ := Option.map_eq_some_iff.mp hx
      have fl : ((leftOf p (o.take i)).map V.str).all flatV = true := flat_strs _
      refine ⟨_, rfl, _, rfl, q, _, rfl, .inl (SqL.of hq), rfl, fl, ?_⟩
      have e := leftOf_snoc p (o.take i) z
      rw [← take_snoc hz] at e
      show ∃ k, V.bl (inV (.str z) ((leftOf p (o.take i)).map V.str)) = V.bl k ∧ _
      rw [inV_str]
      refine ⟨_, rfl, ?_⟩
      refine iteD (fun hm => ?_) (fun hm => ?_)
      · refine ⟨_, rfl, .inl ⟨rfl, _, SqL.of hq⟩, _, rfl, q, _, z, rfl, rfl, hq, hm, ?_⟩
        refine ⟨_, rfl, fun c x ec => by rw [upd_ne (ne_of_none ec nq)]; exact S _ _ ec, ?_⟩
        rw [e, upd_same]
      · refine ⟨_, rfl, S, ?_⟩
        rw [e, erase_not hm]
        exact hq
    · rintro σ' H1 ⟨u, rfl, S, hq⟩
      rw [List.length_map, List.take_length] at hq
      exact ⟨_, rfl, k H1 q S nq hq⟩
end
end E4

set_option Elab.async false
set_option linter.all false
set_option maxRecDepth 100000
set_option maxHeartbeats 1000000
/-! misfit, check_table, ordered, own_order -/
namespace E4
open PySem PySem.Spec PyProof.Rows L2
open C8 (Cal Mak Met InsC pe_c pe_mt pe_mt0 call_isC clsBody)
theorem cut_tail (xs : List V) : cutV xs (some 1) none = xs.drop 1 := by
  unfold cutV
  cases xs with
  | nil => rfl
  | cons x r =>
    have e1 : HT.sIx (x :: r).length 0 (some 1) = 1 := by
      simp [HT.sIx, List.length_cons]
      try omega
    have e2 : HT.sIx (x :: r).length (x :: r).length none = (x :: r).length := by rfl
    rw [e1, e2]
    simp
def Fit (x y : Sd) : Prop := leftOf (x.2.2 ++ x.2.1) y.2.2 = []
instance (x y : Sd) : Decidable (Fit x y) := inferInstanceAs (Decidable (_ = _))
def spMisfit (K : PySem.W.Frag) : Sp := fun vs H Q _ => ∃ (l : Addr) (ts : List Addr) (ss : List Sd), vs = [.ref l] ∧ SqL K H l (ts.map V.ref) ∧ SdsAt H ts ss ∧ (∀ x ∈ ss, SdOk x) ∧ ss.length ≤ 60 ∧
  (∀ i x y a b, ss[i]? = some x → ss[i + 1]? = some y → ts[i]? = some a → ts[i + 1]? = some b → ¬ Fit x y → (∀ j, j < i → ∀ x y, ss[j]? = some x → ss[j + 1]? = some y → Fit x y) → ∀ H' p, Same H H' → H p = none → H' p = some (.tup [.ref a, .ref b]) → Q (.ref p) H') ∧
  ((∀ j x y, ss[j]? = some x → ss[j + 1]? = some y → Fit x y) → ∀ H', Same H H' → Q .non H')
section
variable {P : Program} {w : World} {K : PySem.W.Frag} {mg : Str → Option Value} {base : Heap} {C : Addr}
theorem scMisfit : FnScope ["sides", "inner", "outer"] ["sides"] (defScope sMisfit) := ⟨rfl, rfl, rfl, by decide +kernel, rfl, by decide +kernel, by decide +kernel⟩
theorem ok_misfit {f : Addr} {fd : FuncData} (F : Fun K "misfit" "misfit" sMisfit f fd) (B : Bl mg) (L : Cal P w K mg base 1 "left_of" (spLeft K) []) : FnOk P w K mg base CX0 2 f fd ["sides"] (spMisfit K) := by
  refine F.ok scMisfit (fun vs H Q E h => ?_) (fun cdv A outer s H vs Q E hr h => ?_)
  · obtain ⟨l, ts, ss, rfl, _⟩ := h
    rfl
  · obtain ⟨l, ts, ss, rfl, hl, hx, ok, hz, k1, k2⟩ := h
    refine ⟨_, pss_cons (ps_for PassesOwn.never rfl (pi_zip (by rfl) B.zip_ (pa_cons (pv 0) (pa_cons (pe_slice sl_listS (pv 0) (po_some pe_int) po_none) pa_nil))) (pg_tup rfl (pgs_cons (pg_name (i := 1) scMisfit.nd rfl (Or.inl rfl)) (pgs_cons (pg_name (i := 2) scMisfit.nd rfl (Or.inl rfl)) pgs_nil)))
        (pss_one (ps_if (pt_cmpR op_gt (pe_callB call_len_seq (by rfl) B.len_ PySem.boot_len (pa_cons (pe_c L hr (by decide) rfl (pa_cons (pe_op op_catS (pe_ix ix_tup (pv 1) pe_int (fun _ _ => rfl)) (pe_ix ix_tup (pv 1) pe_int (fun _ _ => rfl))) (pa_cons (pe_ix ix_tup (pv 2) pe_int (fun _ _ => rfl)) pa_nil))) pa_nil)) pe_int (by rfl))
          (pss_one (ps_ret (pe_tupS (pa_cons (pv 1) (pa_cons (pv 2) pa_nil))))) pss_nil)))
      (pss_one (ps_ret pe_non)), ?_⟩
    have lt := hx.length
    refine ⟨_, rfl, _, rfl, 1, rfl, l, _, rfl, hl, fun p H1 S1 np hp => ?_⟩
    rw [cut_tail] at hp
    refine ⟨l, p, _, _, rfl, hl.same S1, SqL.of hp, ?_⟩
    refine for_it (walk_zip (xs := ts.map V.ref) (ys := (ts.map V.ref).drop 1) (n := ss.length - 1) ?_) (fun i σ' H' => Same H1 H' ∧ (∃ u v, σ' = [some (.ref l), u, v]) ∧ ∀ j, j < i → ∀ x y, ss[j]? = some x → ss[j + 1]? = some y → Fit x y) ⟨fun _ _ e => e, ⟨none, none, rfl⟩, fun j hj => absurd hj (Nat.not_lt_zero _)⟩ (fun i σ' H' _ q => ⟨(hl.same S1).same q.1, SqL.of (q.1 _ _ hp)⟩) ?_ ?_
    · rw [List.length_drop, List.length_map, lt]
      omega
    · rintro i v σ' H2 H3 hi ⟨S2, ⟨u1, u2, rfl⟩, hf⟩ ⟨T, xv, yv, rfl, nT, rfl, e1, e2⟩
      replace e1 : (ts.map V.ref)[i]? = some xv := e1
      replace e2 : ((ts.map V.ref).drop 1)[i]? = some yv := e2
      rw [List.getElem?_drop] at e2
      rw [List.getElem?_map] at e1 e2
      obtain ⟨a, ha, rfl⟩ := Option.map_eq_some_iff.mp e1
      obtain ⟨b, hb, rfl⟩ := Option.map_eq_some_iff.mp e2
      rw [Nat.add_comm 1 i] at hb
      obtain ⟨x, hxi, a1, a2, r1, r2, r3⟩ := paired_at hx ha
      obtain ⟨y, hyi, b1, b2, q1, q2, q3⟩ := paired_at hx hb
      have S3 : Same H2 (upd H2 T (.tup [.ref a, .ref b])) := Same.upd nT
      have S03 := S1.trans (S2.trans S3)
      obtain ⟨_, _, _, x4, x5⟩ := ok x (List.mem_of_getElem? hxi)
      obtain ⟨_, _, _, y4, y5⟩ := ok y (List.mem_of_getElem? hyi)
      refine ⟨T, _, rfl, SqT.of upd_same, rfl, _, _, rfl, _, _, rfl, rfl, ?_⟩
      refine ⟨_, rfl, a, _, 2, _, rfl, rfl, SqT.of (S03 _ _ r1), rfl, _, rfl, a, _, 1, _, rfl, rfl, SqT.of (S03 _ _ r1), rfl, a2, a1, _, _, rfl, rfl, S03 _ _ r3, S03 _ _ r2, by rw [List.length_map, List.length_map, sizeLine_eq]; omega, fun c H4 S4 nc hc => ?_⟩
      have S04 := S03.trans S4
      refine ⟨_, rfl, b, _, 2, _, rfl, rfl, SqT.of (S04 _ _ q1), rfl, ?_⟩
      refine ⟨c, b2, x.2.2 ++ x.2.1, y.2.2, rfl, SqL.of (by rw [hc, List.map_append]), SqL.of (S04 _ _ q3), by rw [List.length_append]; omega, by omega, fun H5 q S5 nq hq => ?_⟩
      refine ⟨q, _, rfl, .inl (SqL.of hq), ?_⟩
      have S25 := S3.trans (S4.trans S5)
      have S05 := S04.trans S5
      rw [List.length_map]
      refine ⟨_, _, rfl, rfl, _, rfl, iteD (fun h0 => ?_) (fun h0 => ?_)⟩
      · have nf : ¬ Fit x y := fun e => by
          unfold Fit at e
          rw [e] at h0
          exact absurd h0 (by decide)
        refine ⟨_, rfl, _, rfl, by show 2 ≤ sizeLine; decide, fun t6 H6 S6 n6 h6 => ?_⟩
        exact k1 i x y a b hxi hyi ha hb nf hf H6 t6 (S05.trans S6) (S05.free n6) h6
      · have f : Fit x y := by
          unfold Fit
          rw [← List.length_eq_zero_iff]
          omega
        refine ⟨S2.trans S25, ⟨_, _, rfl⟩, fun j hj x2 y2 hx2 hy2 => ?_⟩
        by_cases e : j = i
        · subst e
          rw [hxi] at hx2
          rw [hyi] at hy2
          cases hx2
          cases hy2
          exact f
        · exact hf j (by omega) x2 y2 hx2 hy2
    · rintro σ' H2 ⟨S2, ⟨u, v, rfl⟩, hf⟩
      refine k2 (fun j x y hj hj1 => hf j ?_ x y hj hj1) H2 (S1.trans S2)
      have := (List.getElem?_eq_some_iff.mp hj1).1
      omega
end
end E4

set_option Elab.async false
set_option linter.all false
set_option maxRecDepth 100000
set_option maxHeartbeats 1000000
/-! check_table, ordered, own_order -/
namespace L2
open PySem PySem.Spec PyProof.Rows
open LamX (Tabs ExtN TabB CodeO)
theorem sortB_map {β γ : Type} {f : β → γ} {ln : γ → Nat} (xs : List β) : (sortB (fun x => ln (f x)) xs).map f = sortB ln (xs.map f) := List.map_mergeSort fun _ _ _ _ => rfl
theorem ret_of {te : TE} {D : Ends} {σ : St} {H : Hp} (h : te σ H D.rt) : tRet te D σ H := h
theorem newT_of {H H2 : Hp} {p : Addr} (ex : ExtN H H2) (n : H2 p = none) : NewT H p := fun o e => Classical.byContradiction fun no => by
  have z := ex _ _ e fun ps e2 => no ⟨ps, e2⟩
  rw [n] at z
  cases z
theorem NewT.none {H : Hp} {p : Addr} (h : NewT H p) {o : HO} (e : H p = some o) (t : ∀ ps, o ≠ .tbl ps) : False := let ⟨ps, q⟩ := h o e; t ps q
/-- a def whose code object is known: its body as a term -/
theorem Fun.okC {P : Program} {w : World} {K : PySem.W.Frag} {mg : Str → Option Value} {base : Heap} {x qual : Str} {st : Stmt} {f c : Addr} {fd : FuncData} {N ps : List Str} {k : Nat} {sp : Sp} (F : Fun K x qual st f fd) (hc : fd.code = .ref c) (S : FnScope N ps (defScope st)) (len : ∀ vs H Q E, sp vs H Q E → vs.length = ps.length)
    (hbody : ∀ (A : Around) (outer : List Env) (s : Shared) (H : Hp) (vs : List V) (Q : VK) (E : XK), Room k (A.deeper (envOfC qual (defScope st) s.heap.objs.size f (.ref c))) → sp vs H Q E →
      ∃ t, PSs (cxOf CX0 P w K mg base N qual (defScope st) f (.ref c) A outer s H E).nox (defBody st) t ∧ t { nx := fun _ H' => Q .non H', rt := Q } (start N vs) H) : FnOk P w K mg base CX0 (k + 1) f fd ps sp := by
  obtain ⟨oc, od, kV, doc, pm, an, cdv, ct, osl, rfl, lk, hcd⟩ := F.ex
  obtain rfl : cdv = .ref c := hc
  refine fn_of lk hcd S len fun A outer s H vs Q E hr hsp => ?_
  obtain ⟨t, h, q⟩ := hbody A outer s H vs Q E hr hsp
  exact ⟨t, h.nox, q⟩
end L2
namespace E4
open PySem PySem.Spec PyProof.Rows L2
open C8 (Cal Mak Met InsC pe_c pe_mt pe_mt0 call_isC clsBody)
open LamX (Tabs ExtN TabB CodeO)
theorem SdAt.ext {H H' : Hp} {t : Addr} {x : Sd} (h : SdAt H t x) (S : ExtN H H') : SdAt H' t x :=
  let ⟨a, b, h1, h2, h3⟩ := h; ⟨a, b, S _ _ h1 (fun _ z => nomatch z), S _ _ h2 (fun _ z => nomatch z), S _ _ h3 (fun _ z => nomatch z)⟩
theorem SdsAt.ext {H H' : Hp} {ts : List Addr} {xs : List Sd} (h : SdsAt H ts xs) (S : ExtN H H') : SdsAt H' ts xs := h.imp fun _ _ _ q => q.ext S
theorem PlAt.ext {C : Addr} {H H' : Hp} {a : Addr} {ss : List Sd} (h : PlAt C H a ss) (S : ExtN H H') : PlAt C H' a ss :=
  let ⟨dx, l, ts, h1, h2, h3⟩ := h; ⟨dx, l, ts, S _ _ h1 (fun _ z => nomatch z), S _ _ h2 (fun _ z => nomatch z), h3.ext S⟩
/-- the sides with two cells or more, those with fewer letters in their step first -/
def ordL (ss : List Sd) : List Sd := sortB (fun x : Sd => x.2.2.length) (ss.filter fun x => decide (0 < x.2.1.length))
theorem mem_ordL {ss : List Sd} {x : Sd} : x ∈ ordL ss ↔ x ∈ ss ∧ 0 < x.2.1.length := by
  unfold ordL sortB
  rw [List.mem_mergeSort, List.mem_filter, decide_eq_true_iff]
theorem length_ordL (ss : List Sd) : (ordL ss).length ≤ ss.length := by
  unfold ordL sortB
  rw [List.length_mergeSort]
  exact List.length_filter_le ..
/-- the class as a value -/
structure Cv (K : PySem.W.Frag) (mg : Str → Option Value) (C : Addr) : Prop where
  ins : InsC K C
  mgP : mg "Plain" = some (.ref C)
def spCheckT (C : Addr) : Sp := fun vs H Q _ => ∃ (a : Addr) (dx : Addr) (fs : List (Str × V)), vs = [.ref a] ∧ H a = some (.ins C dx fs) ∧ Q .non H
def spOrdered (T : List (Addr × Str)) (C : Addr) : Sp := fun vs H Q _ => ∃ (a : Addr) (ss : List Sd), vs = [.ref a] ∧ PlAt C H a ss ∧ SdsOk ss ∧ Tabs T H ∧
  ∀ H' p ts, ExtN H H' → Tabs T H' → NewT H p → H' p = some (.lst (ts.map V.ref)) → SdsAt H' ts (ordL ss) → Q (.ref p) H'
section
variable {P : Program} {w : World} {K : PySem.W.Frag} {mg : Str → Option Value} {base : Heap} {C : Addr}
theorem scCheckT : FnScope ["table"] ["table"] (defScope sCheckTable) := ⟨rfl, rfl, rfl, by decide +kernel, rfl, by decide +kernel, by decide +kernel⟩
theorem ok_checkT {f : Addr} {fd : FuncData} (F : Fun K "check_table" "check_table" sCheckTable f fd) (B : Bl mg) (V : Cv K mg C) : FnOk P w K mg base CX0 1 f fd ["table"] (spCheckT C) := by
  refine F.ok scCheckT (fun vs H Q E h => ?_) (fun cdv A outer s H vs Q E hr h => ?_)
  · obtain ⟨a, dx, fs, rfl, _⟩ := h
    rfl
  · obtain ⟨a, dx, fs, rfl, ha, k⟩ := h
    refine ⟨_, pss_one (ps_if (pt_not (pt_val (pe_callB (call_isC V.ins) (by rfl) B.isi (by decide +kernel) (pa_cons (pv 0) (pa_cons (pe_glob (v := .ref C) (by rfl) V.mgP rfl) pa_nil))))) (pss_one ps_never) pss_nil), ?_⟩
    exact ⟨_, rfl, a, dx, fs, rfl, ha, true, rfl, iteF k⟩
theorem scOrdered : FnScope ["table", "side"] ["table"] (defScope sOrdered) := ⟨rfl, rfl, rfl, by decide +kernel, rfl, by decide +kernel, by decide +kernel⟩
theorem ok_ordered {T : List (Addr × Str)} {f c Pt : Addr} {fd : FuncData} (F : Fun K "ordered" "ordered" sOrdered f fd) (hc : fd.code = .ref c) (B : Bl mg) (TB : TabB base mg c Pt) (hm : (Pt, ("ordered.<locals>.<lambda>" : Str)) ∈ T) (hu : ∀ p ∈ T, p.1 = Pt → p.2 = "ordered.<locals>.<lambda>")
    (Sd_ : Met P w K mg base 1 C "sides" (spSides C) []) : FnOk P w K mg base CX0 2 f fd ["table"] (spOrdered T C) := by
  refine F.okC hc scOrdered (fun vs H Q E h => ?_) (fun A outer s H vs Q E hr h => ?_)
  · obtain ⟨a, ss, rfl, _⟩ := h
    rfl
  · obtain ⟨a, ss, rfl, hp, ok, tb, k⟩ := h
    refine ⟨_, pss_one (ps_ret (pe_sortedP (ad := fun x : Addr × Sd => x.1) (ln := fun x => x.2.2.2.length) (T := T) (c := c) (P := Pt) (hr.mono (by decide)) (by rfl) B.srt_ B.len_ TB rfl hm hu
      (pe_lc (own := [("side", 1)]) (g := gName 1) (tt := tTest (tOp (rI0 fun i j => .bl (decide (j < i))) (tCB (fun xs H Q => ∃ p ys, xs = [.ref p] ∧ (SqL K H p ys ∨ SqT K H p ys) ∧ Q (.int (ys.length : Nat)) H) (tCons (tOp (rIxT K) (tVar 1) (tC (.int 1))) tNil)) (tC (.int 0)))) (te := tVar 1) rfl scOrdered.nd (pi_list (pe_mt0 Sd_ hr (by decide) (pv 0)))
        (blkOk_by (own := [("side", 1)]) (N := ["table", "side"]) (sc := defScope sOrdered) (by decide +kernel))
        (fun _ _ _ _ _ => pg_name (i := 1) scOrdered.nd rfl (Or.inl rfl))
        (fun _ _ _ _ _ => by exact pts_one (pt_cmpR op_gt (pe_callB call_len_seq (by rfl) B.len_ PySem.boot_len (pa_cons (pe_ix ix_tup (pv 1) pe_int (fun _ _ => rfl)) pa_nil)) pe_int (by rfl))) (fun _ _ _ _ _ => pv 1)))), ?_⟩
    have zl := ok.len
    obtain ⟨dx, l0, ts0, ha, hl0, hx0⟩ := id hp
    refine ret_of ?_
    refine ⟨_, rfl, a, dx, _, rfl, ha, rfl, a, ss, rfl, hp, ok, fun H1 p ts S1 np hpp hx => ?_⟩
    have lt := hx.length
    refine ⟨p, rfl, ⟨_, SqL.of hpp⟩, fun D nD => ?_⟩
    have hz : ∀ (i : Nat) (t : Addr) (y : Sd), ts[i]? = some t → ss[i]? = some y → (ts.zip ss)[i]? = some (t, y) := fun i t y h1 h2 => by rw [List.getElem?_zip_eq_some]; exact ⟨h1, h2⟩
    refine lc_it (walk_list (xs := ts.map V.ref)) (fun i H' => Same H1 H' ∧ H' D = some (.lst ((((ts.zip ss).take i).filter fun x => decide (0 < x.2.2.1.length)).map fun x => V.ref x.1))) ⟨Same.upd nD, upd_same⟩ (fun i H' _ q => SqL.of (q.1 _ _ hpp)) ?_ ?_
    · rintro i v H2 H3 hi ⟨S2, hD⟩ ⟨rfl, hx2⟩
      rw [List.length_map] at hi
      rw [List.getElem?_map] at hx2
      obtain ⟨t, htt, rfl⟩ := Option.map_eq_some_iff.mp hx2
      obtain ⟨y, hy, u, v, h1, h2, h3⟩ := paired_at hx htt
      refine ⟨rfl, _, rfl, t, _, 1, _, rfl, rfl, SqT.of (S2 _ _ h1), rfl, u, _, rfl, .inl (SqL.of (S2 _ _ h2)), ?_⟩
      rw [List.length_map]
      refine ⟨_, _, rfl, rfl, _, rfl, ?_⟩
      have e := take_snoc (hz i t y htt hy)
      refine iteD (fun h0 => ?_) (fun h0 => ?_)
      · refine ⟨_, rfl, _, hD, ?_, ?_, ?_⟩
        · rw [List.length_map, sizeLine_eq]
          have := List.length_filter_le (fun x : Addr × Sd => decide (0 < x.2.2.1.length)) ((ts.zip ss).take i)
          rw [List.length_take] at this
          omega
        · intro c o ec
          rw [upd_ne (ne_of_none ec nD)]
          exact S2 _ _ ec
        · rw [upd_same, e, List.filter_append, List.map_append]
          rw [List.filter_cons_of_pos (p := fun x : Addr × Sd => decide (0 < x.2.2.1.length)) (decide_eq_true (by show 0 < y.2.1.length; omega))]
          rfl
      · refine ⟨S2, ?_⟩
        rw [e, List.filter_append]
        rw [List.filter_cons_of_neg (p := fun x : Addr × Sd => decide (0 < x.2.2.1.length)) (by
          rw [decide_eq_true_iff]
          show ¬ 0 < y.2.1.length
          omega), List.filter_nil, List.append_nil]
        exact hD
    · rintro H2 ⟨S2, hD⟩
      rw [List.length_map] at hD
      have e0 : (ts.zip ss).take ts.length = ts.zip ss := List.take_of_length_le (by rw [List.length_zip]; omega)
      rw [e0] at hD
      have e1 : (ts.zip ss).map (·.2) = ss := List.map_snd_zip (by omega)
      have hin : ∀ x ∈ ts.zip ss, SdAt H2 x.1 x.2 := fun x hx1 => by
        obtain ⟨i, hi⟩ := List.mem_iff_getElem?.mp hx1
        rw [List.getElem?_zip_eq_some] at hi
        obtain ⟨y, hy, r⟩ := paired_at hx hi.1
        rw [hi.2] at hy
        cases hy
        exact r.same S2
      generalize hams : (ts.zip ss).filter (fun x => decide (0 < x.2.2.1.length)) = ams at hD
      have lam : ams.length ≤ 60 := by
        have := List.length_filter_le (fun x : Addr × Sd => decide (0 < x.2.2.1.length)) (ts.zip ss)
        rw [hams, List.length_zip] at this
        omega
      have hin2 : ∀ x ∈ ams, SdAt H2 x.1 x.2 := fun x hx1 => hin x (by rw [← hams] at hx1; exact (List.mem_filter.mp hx1).1)
      have em : ams.map (·.2) = ss.filter fun x => decide (0 < x.2.1.length) := by
        rw [← hams]
        have := List.filter_map (f := fun x : Addr × Sd => x.2) (p := fun x : Sd => decide (0 < x.2.1.length)) (l := ts.zip ss)
        rw [e1] at this
        rw [this]
        rfl
      have ex2 : ExtN H H2 := ExtN.of fun b o e => S2 _ _ (S1 _ _ e)
      refine ⟨D, ams, rfl, SqL.of hD, fun x hx1 => ?_, by rw [sizeLine_eq]; omega, tb.ext fun b o e => S2 _ _ (S1 _ _ e), fun H3 q ex tb3 nq hq => ?_⟩
      · obtain ⟨u, v, r1, r2, r3⟩ := hin2 x hx1
        exact ⟨_, _, v, _, SqT.of r1, SqL.of r3, by rw [List.length_map]⟩
      · refine k H3 q ((sortB (fun x : Addr × Sd => x.2.2.2.length) ams).map (·.1)) (ex2.trans ex) tb3 (fun o e => ?_) (by rw [hq, List.map_map]; rfl) ?_
        · exact nq o (S2 _ _ (S1 _ _ e))
        · have e3 : ordL ss = (sortB (fun x : Addr × Sd => x.2.2.2.length) ams).map (·.2) := by
            unfold ordL
            rw [← em]
            exact (sortB_map (f := fun x : Addr × Sd => x.2) (ln := fun x : Sd => x.2.2.length) ams).symm
          rw [e3]
          have all : ∀ x ∈ sortB (fun x : Addr × Sd => x.2.2.2.length) ams, SdAt H3 x.1 x.2 := fun x hx1 => (hin2 x (List.mem_mergeSort.mp hx1)).ext ex
          generalize sortB (fun x : Addr × Sd => x.2.2.2.length) ams = l at all
          clear hq e3
          induction l with
          | nil => exact .nil
          | cons y l ih => exact .cons (all y List.mem_cons_self) (ih fun z hz => all z (List.mem_cons_of_mem _ hz))
end
end E4

set_option Elab.async false
set_option linter.all false
set_option maxRecDepth 100000
set_option maxHeartbeats 1000000
/-! own_order, check_own_places, product_at -/
namespace E4
open PySem PySem.Spec PyProof.Rows L2
open C8 (Cal Mak Met InsC pe_c pe_mt pe_mt0 call_isC clsBody)
open LamX (Tabs ExtN TabB CodeO)
/-- each fits into the step of the next -/
def ChnL (ss : List Sd) : Prop := ∀ (j : Nat) x y, ss[j]? = some x → ss[j + 1]? = some y → Fit x y
/-- the cells have places of their own -/
def Chn (ss : List Sd) : Prop := ChnL (ordL ss)
def spOwn (T : List (Addr × Str)) (C : Addr) : Sp := fun vs H Q _ => ∃ (a : Addr) (ss : List Sd), vs = [.ref a] ∧ PlAt C H a ss ∧ SdsOk ss ∧ Tabs T H ∧
  (Chn ss → ∀ H' p, ExtN H H' → Tabs T H' → NewT H p → H' p = some (.lst (((ordL ss).map (·.1)).map V.str)) → Q (.ref p) H') ∧ (¬ Chn ss → ∀ H', ExtN H H' → Tabs T H' → Q .non H')
def spCheckO (T : List (Addr × Str)) (C : Addr) : Sp := fun vs H Q _ => ∃ (a : Addr) (ss : List Sd), vs = [.ref a] ∧ PlAt C H a ss ∧ SdsOk ss ∧ Tabs T H ∧ Chn ss ∧ ∀ H', ExtN H H' → Tabs T H' → Q .non H'
def prodI (l : List Int) : Int := l.foldr (· * ·) 1
theorem prodI_append (a b : List Int) : prodI (a ++ b) = prodI a * prodI b := by
  unfold prodI
  induction a with
  | nil => simp
  | cons x a ih => rw [List.cons_append, List.foldr_cons, List.foldr_cons, ih, Int.mul_assoc]
def spProd (K : PySem.W.Frag) : Sp := fun vs H Q _ => ∃ (t d : Addr) (m : List Str) (kvs : List (Key × V)) (g : Str → Int), vs = [.ref t, .ref d] ∧ SqL K H t (m.map V.str) ∧ H d = some (.dK kvs) ∧ (∀ x ∈ m, valV kvs (Sum.inr x) = some (.int (g x))) ∧ m.length ≤ 1000 ∧ (∀ x ∈ m, (g x).natAbs < 2 ^ 400) ∧ Q (.int (prodI (m.map g))) H
theorem cmw {i j : Int} {a b : Nat} (ha : i.natAbs < 2 ^ a) (hb : j.natAbs < 2 ^ b) (h0 : 0 < a) (h1 : 0 < b) (h : a + b ≤ 1000000) : CMulW i j := wide_mul ha hb h0 h1 h
theorem prod_lt (g : Str → Int) : ∀ l : List Str, (∀ x ∈ l, (g x).natAbs < 2 ^ 400) → (prodI (l.map g)).natAbs < 2 ^ (1 + l.length * 400)
  | [], _ => by show (1 : Int).natAbs < 2 ^ (1 + 0 * 400); decide
  | x :: l, h => by
    have ih := prod_lt g l fun y hy => h y (List.mem_cons.mpr (.inr hy))
    have hx := h x (List.mem_cons.mpr (.inl rfl))
    have e := wide_lt (a := 400) (b := 1 + l.length * 400) hx ih
    have e2 : 400 + (1 + l.length * 400) = 1 + (x :: l).length * 400 := by rw [List.length_cons, Nat.add_mul]; omega
    rw [e2] at e
    exact e
section
variable {P : Program} {w : World} {K : PySem.W.Frag} {mg : Str → Option Value} {base : Heap} {C : Addr}
theorem scOwn : FnScope ["table", "sides"] ["table"] (defScope sOwnOrder) := ⟨rfl, rfl, rfl, by decide +kernel, rfl, by decide +kernel, by decide +kernel⟩
theorem ok_own {T : List (Addr × Str)} {f : Addr} {fd : FuncData} (F : Fun K "own_order" "own_order" sOwnOrder f fd) (Ct : Cal P w K mg base 1 "check_table" (spCheckT C) []) (Or_ : Cal P w K mg base 2 "ordered" (spOrdered T C) []) (Mf : Cal P w K mg base 2 "misfit" (spMisfit K) []) (Nm : Cal P w K mg base 1 "names_of" (spNames K) []) :
    FnOk P w K mg base CX0 3 f fd ["table"] (spOwn T C) := by
  refine F.ok scOwn (fun vs H Q E h => ?_) (fun cdv A outer s H vs Q E hr h => ?_)
  · obtain ⟨a, ss, rfl, _⟩ := h
    rfl
  · obtain ⟨a, ss, rfl, hp, ok, tb, k1, k2⟩ := h
    refine ⟨_, pss_cons (ps_expr (pe_c Ct hr (by decide) rfl (pa_cons (pv 0) pa_nil)))
      (pss_cons (ps_set (i := 1) scOwn.nd rfl (Or.inl rfl) (pe_c Or_ hr (by decide) rfl (pa_cons (pv 0) pa_nil)))
      (pss_one (ps_ret (pe_ifExp (pt_cmp (pc_isN (pe_c Mf hr (by decide) rfl (pa_cons (pv 1) pa_nil)))) (pe_c Nm hr (by decide) rfl (pa_cons (pv 1) pa_nil)) pe_non)))), ?_⟩
    obtain ⟨dx, l0, ts0, ha, hl0, hx0⟩ := id hp
    refine ⟨_, rfl, a, dx, _, rfl, ha, ?_⟩
    dsimp only
    refine seq_asg ⟨_, rfl, a, ss, rfl, hp, ok, tb, fun H1 p ts ex tb1 np hpp hx => ?_⟩
    have lo : (ordL ss).length ≤ 60 := Nat.le_trans (length_ordL ss) (by have := ok.len; omega)
    have oko : ∀ x ∈ ordL ss, SdOk x := fun x hx1 => ok.ok x (mem_ordL.mp hx1).1
    refine ret_of ?_
    refine ⟨_, rfl, p, ts, ordL ss, rfl, SqL.of hpp, hx, oko, lo, fun i x y ta tb' h1 h2 h3 h4 nf hf H2 q S2 nq hq => ?_, fun hall H2 S2 => ?_⟩
    · refine ⟨_, rfl, ifF rfl ?_⟩
      exact k2 (fun c => nf (c i x y h1 h2)) H2 (ex.trans (ExtN.of S2)) (tb1.ext S2)
    · refine ⟨_, rfl, ifT rfl ?_⟩
      refine ⟨_, rfl, p, ts, ordL ss, rfl, SqL.of (S2 _ _ hpp), hx.same S2, lo, fun H3 q S3 nq hq => ?_⟩
      have ex3 := ex.trans (ExtN.of (S2.trans S3))
      refine k1 hall H3 q ex3 ((tb1.ext S2).ext S3) (fun o e => ?_) hq
      exact newT_of (ex.trans (ExtN.of S2)) nq o e
theorem scCheckO : FnScope ["table"] ["table"] (defScope sCheckOwn) := ⟨rfl, rfl, rfl, by decide +kernel, rfl, by decide +kernel, by decide +kernel⟩
theorem ok_checkO {T : List (Addr × Str)} {f : Addr} {fd : FuncData} (F : Fun K "check_own_places" "check_own_places" sCheckOwn f fd) (Ow : Cal P w K mg base 3 "own_order" (spOwn T C) []) : FnOk P w K mg base CX0 4 f fd ["table"] (spCheckO T C) := by
  refine F.ok scCheckO (fun vs H Q E h => ?_) (fun cdv A outer s H vs Q E hr h => ?_)
  · obtain ⟨a, ss, rfl, _⟩ := h
    rfl
  · obtain ⟨a, ss, rfl, hp, ok, tb, hc, k⟩ := h
    refine ⟨_, pss_one (ps_if (pt_cmp (pc_isN (pe_c Ow hr (by decide) rfl (pa_cons (pv 0) pa_nil)))) (pss_one ps_never) pss_nil), ?_⟩
    refine ⟨_, rfl, a, ss, rfl, hp, ok, tb, fun _ H1 p ex tb1 np hpp => ?_, fun no => absurd hc no⟩
    exact ⟨_, rfl, ifF rfl (k H1 ex tb1)⟩
theorem scProd : FnScope ["names", "values", "found", "name"] ["names", "values"] (defScope sProductAt) := ⟨rfl, rfl, rfl, by decide +kernel, rfl, by decide +kernel, by decide +kernel⟩
theorem ok_prod {f : Addr} {fd : FuncData} (F : Fun K "product_at" "product_at" sProductAt f fd) : FnOk P w K mg base CX0 1 f fd ["names", "values"] (spProd K) := by
  refine F.ok scProd (fun vs H Q E h => ?_) (fun cdv A outer s H vs Q E hr h => ?_)
  · obtain ⟨t, d, m, kvs, g, rfl, _⟩ := h
    rfl
  · obtain ⟨t, d, m, kvs, g, rfl, ht, hd, hg, hl, hb, k⟩ := h
    have u1 := Nat.lt_of_le_of_lt (Nat.add_le_add_left (by decide : 1 ≤ 64) _) hr.units
    refine ⟨_, pss_cons (ps_set (i := 2) scProd.nd rfl (Or.inl rfl) pe_int)
      (pss_cons (ps_for PassesOwn.never rfl (pi_list (pv 0)) (pg_name (i := 3) scProd.nd rfl (Or.inl rfl)) (pss_one (ps_set (i := 2) scProd.nd rfl (Or.inl rfl) (pe_op op_mulW (pv 2) (pe_dget u1 (pv 1) (pv 3) (fun _ _ => rfl))))))
      (pss_one (ps_ret (pv 2)))), ?_⟩
    refine seq_asg ⟨_, rfl, t, rfl, ⟨_, ht⟩, for_it (walk_list (xs := m.map V.str)) (fun i σ H' => H' = H ∧ ∃ u, σ = [some (.ref t), some (.ref d), some (.int (prodI ((m.take i).map g))), u]) ⟨rfl, none, rfl⟩ ?_ ?_ ?_⟩
    · rintro i σ H' _ ⟨rfl, _⟩
      exact ht
    · rintro i x σ H1 H2 hi ⟨rfl, u, rfl⟩ ⟨rfl, hx⟩
      rw [List.length_map] at hi
      rw [List.getElem?_map] at hx
      obtain ⟨z, hz, rfl⟩ := Option.map_eq_some_iff.mp hx
      have hm := List.mem_of_getElem? hz
      have p1 := prod_lt g (m.take i) fun y hy => hb y (List.mem_of_mem_take hy)
      have tl : (m.take i).length ≤ 1000 := by rw [List.length_take]; omega
      refine ⟨_, rfl, _, rfl, _, rfl, d, _, rfl, by rw [← hg z hm]; exact DGet.k (k := Sum.inr z) hd, _, _, rfl, rfl, cmw p1 (hb z hm) (by omega) (by decide) (by omega), rfl, some (V.str z), ?_⟩
      rw [take_snoc hz, List.map_append, prodI_append]
      show _ = [_, _, some (V.int (_ * (g z * 1))), _]
      rw [Int.mul_one]
      rfl
    · rintro σ H1 ⟨rfl, u, rfl⟩
      rw [List.length_map, List.take_length]
      exact ⟨_, rfl, k⟩
end
end E4

set_option Elab.async false
set_option linter.all false
set_option maxRecDepth 100000
set_option maxHeartbeats 1000000
/-! is_values, check_values, twos, cell_on -/
namespace E4
open PySem PySem.Spec PyProof.Rows L2
open C8 (Cal Mak Met InsC pe_c pe_mt pe_mt0 call_isC clsBody)
/-- a dict of whole numbers by texts -/
abbrev Vls := List (Str × Int)
def dI (l : Vls) : List (Key × V) := l.map fun x => (Sum.inr x.1, V.int x.2)
def getI (l : Vls) (z : Str) : Option Int := (l.find? fun x => decide (x.1 = z)).map (·.2)
def setI (l : Vls) (z : Str) (n : Int) : Vls := if (l.any fun x => decide (x.1 = z)) = true then l.map (fun x => if x.1 = z then (x.1, n) else x) else l ++ [(z, n)]
theorem valV_dI (z : Str) : ∀ l : Vls, valV (dI l) (Sum.inr z) = (getI l z).map V.int
  | [] => rfl
  | x :: l => by
    have ih := valV_dI z l
    unfold dI getI at ih ⊢
    rw [List.map_cons]
    by_cases e : x.1 = z
    · rw [valV_pos (by rw [e])]
      simp [e]
    · rw [valV_neg (by intro q; exact e (Sum.inr.inj q)), ih]
      simp [e]
theorem any_dI (z : Str) (l : Vls) : ((dI l).any fun kv => decide (kv.1 = Sum.inr z)) = l.any fun x => decide (x.1 = z) := by
  unfold dI
  rw [List.any_map]
  congr 1
  funext x
  simp
theorem putK_dI (l : Vls) (z : Str) (n : Int) : putK (dI l) (Sum.inr z) (V.int n) = dI (setI l z n) := by
  unfold putK setI
  rw [any_dI]
  split
  · unfold dI
    rw [List.map_map, List.map_map]
    refine List.map_congr_left fun x _ => ?_
    by_cases e : x.1 = z
    · simp [e]
    · simp [e]
  · unfold dI
    rw [List.map_append]
    rfl
theorem keys_set_in {l : Vls} {z : Str} {n : Int} (h : z ∈ l.map (·.1)) : (setI l z n).map (·.1) = l.map (·.1) := by
  have : (l.any fun x => decide (x.1 = z)) = true := by
    obtain ⟨x, hx, e⟩ := List.mem_map.mp h
    exact List.any_eq_true.mpr ⟨x, hx, decide_eq_true e⟩
  unfold setI
  rw [if_pos this, List.map_map]
  refine List.map_congr_left fun x _ => ?_
  by_cases e : x.1 = z
  · simp [e]
  · simp [e]
theorem keys_set_new {l : Vls} {z : Str} {n : Int} (h : z ∉ l.map (·.1)) : setI l z n = l ++ [(z, n)] := by
  have : ¬ (l.any fun x => decide (x.1 = z)) = true := fun c => by
    obtain ⟨x, hx, e⟩ := List.any_eq_true.mp c
    exact h (List.mem_map.mpr ⟨x, hx, of_decide_eq_true e⟩)
  unfold setI
  rw [if_neg this]
theorem getI_isSome {l : Vls} {z : Str} (h : z ∈ l.map (·.1)) : ∃ n, getI l z = some n ∧ (z, n) ∈ l := by
  obtain ⟨x, hx, e⟩ := List.mem_map.mp h
  unfold getI
  cases c : l.find? fun x => decide (x.1 = z) with
  | none => exact absurd (decide_eq_true e) (by simpa using List.find?_eq_none.mp c x hx)
  | some y =>
    have h1 := List.find?_some c
    have h2 := List.mem_of_find?_eq_some c
    have h3 : y.1 = z := of_decide_eq_true h1
    exact ⟨y.2, rfl, by rw [← h3]; exact h2⟩
/-- good values -/
def VlsOk (l : Vls) : Prop := (∀ x ∈ l, LetOk x.1 ∧ x.2.natAbs < 2 ^ 400) ∧ l.length ≤ 2000
def spIsVals (K : PySem.W.Frag) : Sp := fun vs H Q _ => ∃ (d l : Addr) (vl : Vls) (xs : List Str), vs = [.ref d, .ref l] ∧ H d = some (.dK (dI vl)) ∧ VlsOk vl ∧ SqL K H l (xs.map V.str) ∧ xs.length ≤ 2000 ∧ (∀ x ∈ xs, x ∈ vl.map (·.1)) ∧ ∀ H', Same H H' → Q (.bl true) H'
def spCheckV (K : PySem.W.Frag) : Sp := fun vs H Q _ => ∃ (d l : Addr) (vl : Vls) (xs : List Str), vs = [.ref d, .ref l] ∧ H d = some (.dK (dI vl)) ∧ VlsOk vl ∧ SqL K H l (xs.map V.str) ∧ xs.length ≤ 2000 ∧ (∀ x ∈ xs, x ∈ vl.map (·.1)) ∧ (∀ x ∈ xs, ∀ n, getI vl x = some n → 1 ≤ n) ∧ ∀ H', Same H H' → Q .non H'
section
variable {P : Program} {w : World} {K : PySem.W.Frag} {mg : Str → Option Value} {base : Heap} {C : Addr}
theorem len_dI (l : Vls) : (dI l).length = l.length := List.length_map ..
theorem scIsVals : FnScope ["values", "names", "name", "value"] ["values", "names"] (defScope sIsValues) := ⟨rfl, rfl, rfl, by decide +kernel, rfl, by decide +kernel, by decide +kernel⟩
theorem ok_isVals {f : Addr} {fd : FuncData} (F : Fun K "is_values" "is_values" sIsValues f fd) (B : Bl mg) (L : Cal P w K mg base 1 "is_letter" spIsLet []) (Wh : Cal P w K mg base 1 "is_whole" spWhole []) : FnOk P w K mg base CX0 2 f fd ["values", "names"] (spIsVals K) := by
  refine F.ok scIsVals (fun vs H Q E h => ?_) (fun cdv A outer s H vs Q E hr h => ?_)
  · obtain ⟨d, l, kvs, xs, rfl, _⟩ := h
    rfl
  · obtain ⟨d, l, vl, xs, rfl, hd, ⟨hv, hk⟩, hl, hx, hin, k⟩ := h
    have u1 := Nat.lt_of_le_of_lt (Nat.add_le_add_left (by decide : 1 ≤ 64) _) hr.units
    refine ⟨_, pss_cons (ps_if (pt_not (pt_val (pe_callB call_isi (by rfl) B.isi (by decide +kernel) (pa_cons (pv 0) (pa_cons (pe_bltn (v := .ty "dict") (by rfl) B.dict_ (by decide +kernel) rfl) pa_nil))))) (pss_one (ps_ret pe_bl)) pss_nil)
      (pss_cons (ps_if (pt_not (pt_val (pe_callB (cr_all rfl) (by rfl) B.all_ (by decide +kernel) (pa_cons (pe_lock (pe_lc (own := [("name", 2), ("value", 3)]) (g := gTup K 2 (gCons (gName 2) (gCons (gName 3) gNil))) (tt := tYes) (te := tAndV (tCall spIsLet [] C8.E0 (tCons (tVar 2) tNil)) (tCall spWhole [] C8.E0 (tCons (tVar 3) tNil))) rfl scIsVals.nd (pi_items (pv 0))
          (blkOk_by (own := [("name", 2), ("value", 3)]) (N := ["values", "names", "name", "value"]) (sc := defScope sIsValues) (by decide +kernel))
          (fun _ _ _ _ _ => pg_tup rfl (pgs_cons (pg_name (i := 2) scIsVals.nd rfl (Or.inl rfl)) (pgs_cons (pg_name (i := 3) scIsVals.nd rfl (Or.inl rfl)) pgs_nil))) (fun _ _ _ _ _ => pts_nil)
          (fun _ _ _ _ _ => by exact pe_and (pe_c L hr (by decide) rfl (pa_cons (pv 2) pa_nil)) (pe_one (pe_c Wh hr (by decide) rfl (pa_cons (pv 3) pa_nil)))))) pa_nil)))) (pss_one (ps_ret pe_bl)) pss_nil)
      (pss_one (ps_ret (pe_callB (cr_all rfl) (by rfl) B.all_ (by decide +kernel) (pa_cons (pe_lc (own := [("name", 2)]) (g := gName 2) (tt := tYes) (te := tDIn (tVar 2) (tVar 0)) rfl scIsVals.nd (pi_list (pv 1))
          (blkOk_by (own := [("name", 2)]) (N := ["values", "names", "name", "value"]) (sc := defScope sIsValues) (by decide +kernel))
          (fun _ _ _ _ _ => pg_name (i := 2) scIsVals.nd rfl (Or.inl rfl)) (fun _ _ _ _ _ => pts_nil) (fun _ _ _ _ _ => by exact pe_cmp (pc_din u1 (pv 2) (pv 0)))) pa_nil))))), ?_⟩
    refine ⟨_, rfl, _, _, _, _, true, rfl, .ty "dict", .base (.dK hd), kit_dd, true, rfl, iteF ?_⟩
    have sz : ∀ n : Nat, n ≤ 2000 → n < sizeLine := fun n h => by rw [sizeLine_eq]; omega
    refine ⟨d, .dK (dI vl), hd, trivial, fun od => ⟨_, rfl, d, od, dI vl, rfl, upd_same, fun D nD => ?_⟩⟩
    have h1 : (upd H d (.frz od (.dK (dI vl)))) d = some (.frz od (.dK (dI vl))) := upd_same
    have neD : D ≠ d := by rintro rfl; rw [upd_same] at nD; cases nD
    have back : ∀ H2, Same (upd H d (.frz od (.dK (dI vl)))) H2 → Same H (upd H2 d (.dK (dI vl))) := fun H2 S => same_back hd S
    generalize upd H d (.frz od (.dK (dI vl))) = H1 at h1 nD back ⊢
    refine lc_it walk_items (fun i H' => Same H1 H' ∧ H' D = some (.lst (List.replicate i (V.bl true)))) ⟨Same.upd nD, upd_same⟩ (fun i H' _ q => q.1 _ _ h1) ?_ ?_
    · rintro i x H2 H3 hi ⟨S, hD⟩ ⟨T, x1, y1, rfl, nT, rfl, e1, e2⟩
      rw [len_dI] at hi
      obtain ⟨kv, hkv⟩ : ∃ kv, vl[i]? = some kv := ⟨vl[i], List.getElem?_eq_getElem hi⟩
      obtain ⟨hz, _⟩ := hv kv (List.mem_of_getElem? hkv)
      have hkv2 : (dI vl)[i]? = some (Sum.inr kv.1, V.int kv.2) := by unfold dI; rw [List.getElem?_map, hkv]; rfl
      replace e1 : ((dI vl)[i]?.map fun kv => kV kv.1) = some x1 := e1
      replace e2 : (dI vl)[i]?.map Prod.snd = some y1 := e2
      rw [hkv2] at e1 e2
      obtain rfl : V.str kv.1 = x1 := Option.some.inj e1
      obtain rfl : V.int kv.2 = y1 := Option.some.inj e2
      have S2 : Same H2 (upd H2 T (.tup [.str kv.1, .int kv.2])) := Same.upd nT
      refine ⟨T, _, rfl, SqT.of upd_same, rfl, _, _, rfl, _, _, rfl, rfl, rfl, iteT (B := False) ?_⟩
      refine ⟨_, rfl, kv.1, rfl, hz, fun H4 S4 => ⟨true, rfl, iteT (B := False) ⟨_, rfl, kv.2, rfl, _, S4 _ _ (S2 _ _ hD), ?_, ?_, ?_⟩⟩⟩
      · rw [List.length_replicate]
        exact sz _ (by omega)
      · intro b o hb
        rw [upd_ne (ne_of_none hb nD)]
        exact S4 _ _ (S2 _ _ (S _ _ hb))
      · rw [upd_same, List.replicate_succ']
    · rintro H2 ⟨S, hD⟩
      refine ⟨S _ _ h1, D, List.replicate (dI vl).length true, rfl, SqL.of ?_, true, by rw [all_true], iteF ?_⟩
      · rw [upd_ne neD, List.map_replicate]
        exact hD
      · have S0 := back H2 S
        generalize upd H2 d (.dK (dI vl)) = H3 at S0 ⊢
        have hl3 := hl.same S0
        refine ⟨_, rfl, l, rfl, ⟨_, hl3⟩, fun D2 nD2 => ?_⟩
        refine lc_it (walk_list (xs := xs.map V.str)) (fun i H' => Same H3 H' ∧ H' D2 = some (.lst (List.replicate i (V.bl true)))) ⟨Same.upd nD2, upd_same⟩ (fun i H' _ q => hl3.same q.1) ?_ ?_
        · rintro i x H4 H5 hi ⟨S4, hD4⟩ ⟨rfl, hx2⟩
          rw [List.length_map] at hi
          rw [List.getElem?_map] at hx2
          obtain ⟨z, hz, rfl⟩ := Option.map_eq_some_iff.mp hx2
          obtain ⟨n, hn, _⟩ := getI_isSome (hin z (List.mem_of_getElem? hz))
          refine ⟨rfl, iteT (B := False) ⟨_, rfl, _, rfl, d, valV (dI vl) (Sum.inr z), rfl, DGet.k (k := Sum.inr z) (S4 _ _ (S0 _ _ hd)), _, hD4, ?_, ?_, ?_⟩⟩
          · rw [List.length_replicate]
            exact sz _ (by omega)
          · intro b o hb
            rw [upd_ne (ne_of_none hb nD2)]
            exact S4 _ _ hb
          · rw [upd_same, valV_dI, hn, List.replicate_succ']
            rfl
        · rintro H4 ⟨S4, hD4⟩
          refine ⟨D2, List.replicate xs.length true, rfl, SqL.of ?_, ?_⟩
          · rw [List.map_replicate]
            rw [List.length_map] at hD4
            exact hD4
          · rw [all_true]
            exact k H4 (S0.trans S4)
theorem scCheckV : FnScope ["values", "sizes", "name"] ["values", "sizes"] (defScope sCheckValues) := ⟨rfl, rfl, rfl, by decide +kernel, rfl, by decide +kernel, by decide +kernel⟩
theorem ok_checkV {f : Addr} {fd : FuncData} (F : Fun K "check_values" "check_values" sCheckValues f fd) (B : Bl mg) (Iv : Cal P w K mg base 2 "is_values" (spIsVals K) []) : FnOk P w K mg base CX0 3 f fd ["values", "sizes"] (spCheckV K) := by
  refine F.ok scCheckV (fun vs H Q E h => ?_) (fun cdv A outer s H vs Q E hr h => ?_)
  · obtain ⟨d, l, kvs, xs, rfl, _⟩ := h
    rfl
  · obtain ⟨d, l, vl, xs, rfl, hd, hv, hl, hx, hin, h1, k⟩ := h
    have u1 := Nat.lt_of_le_of_lt (Nat.add_le_add_left (by decide : 1 ≤ 64) _) hr.units
    refine ⟨_, pss_one (ps_if (PW.pt (pw_or (pt_not (pt_val (pe_c Iv hr (by decide) rfl (pa_cons (pv 0) (pa_cons (pv 1) pa_nil)))))
        (pw_or1 (pt_not (pt_val (pe_callB (cr_all rfl) (by rfl) B.all_ (by decide +kernel) (pa_cons (pe_lc (own := [("name", 2)]) (g := gName 2) (tt := tYes) (te := tOp (rI0 fun i j => .bl (decide (j ≤ i))) (tDGet (tVar 0) (tVar 2)) (tC (.int 1))) rfl scCheckV.nd (pi_list (pv 1))
          (blkOk_by (own := [("name", 2)]) (N := ["values", "sizes", "name"]) (sc := defScope sCheckValues) (by decide +kernel))
          (fun _ _ _ _ _ => pg_name (i := 2) scCheckV.nd rfl (Or.inl rfl)) (fun _ _ _ _ _ => pts_nil) (fun _ _ _ _ _ => by exact pe_cmpR op_ge (pe_dget u1 (pv 0) (pv 2) (fun _ _ => rfl)) pe_int (by rfl))) pa_nil))))))) (pss_one ps_never) pss_nil), ?_⟩
    refine ⟨_, rfl, _, rfl, d, l, vl, xs, rfl, hd, hv, hl, hx, hin, fun H1 S1 => ⟨true, rfl, iteF ?_⟩⟩
    have hl1 := hl.same S1
    refine ⟨_, rfl, l, rfl, ⟨_, hl1⟩, fun D nD => ?_⟩
    refine lc_it (walk_list (xs := xs.map V.str)) (fun i H' => Same H1 H' ∧ H' D = some (.lst (List.replicate i (V.bl true)))) ⟨Same.upd nD, upd_same⟩ (fun i H' _ q => hl1.same q.1) ?_ ?_
    · rintro i x H4 H5 hi ⟨S4, hD4⟩ ⟨rfl, hx2⟩
      rw [List.length_map] at hi
      rw [List.getElem?_map] at hx2
      obtain ⟨z, hz, rfl⟩ := Option.map_eq_some_iff.mp hx2
      obtain ⟨n, hn, hm⟩ := getI_isSome (hin z (List.mem_of_getElem? hz))
      have n1 := h1 z (List.mem_of_getElem? hz) n hn
      have hg : valV (dI vl) (Sum.inr z) = some (.int n) := by rw [valV_dI, hn]; rfl
      refine ⟨rfl, iteT (B := False) ⟨_, rfl, _, rfl, d, _, rfl, by rw [← hg]; exact DGet.k (k := Sum.inr z) (S4 _ _ (S1 _ _ hd)), _, _, rfl, rfl, _, hD4, ?_, ?_, ?_⟩⟩
      · rw [List.length_replicate, sizeLine_eq]
        omega
      · intro b o hb
        rw [upd_ne (ne_of_none hb nD)]
        exact S4 _ _ hb
      · rw [upd_same, List.replicate_succ']
        show some (HO.lst (_ ++ [V.bl (decide (1 ≤ n))])) = _
        rw [decide_eq_true n1]
    · rintro H4 ⟨S4, hD4⟩
      refine ⟨D, List.replicate xs.length true, rfl, SqL.of ?_, ?_⟩
      · rw [List.map_replicate]
        rw [List.length_map] at hD4
        exact hD4
      · rw [all_true]
        exact ⟨true, rfl, iteF (k H4 (S1.trans S4))⟩
end
end E4

set_option Elab.async false
set_option linter.all false
set_option maxRecDepth 100000
set_option maxHeartbeats 1000000
/-! twos, cell_on -/
namespace E4
open PySem PySem.Spec PyProof.Rows L2
open C8 (Cal Mak Met InsC pe_c pe_mt pe_mt0 call_isC clsBody)
section
variable {P : Program} {w : World} {K : PySem.W.Frag} {mg : Str → Option Value} {base : Heap} {C : Addr}
end
end E4

set_option Elab.async false
set_option linter.all false
set_option maxRecDepth 100000
set_option maxHeartbeats 1000000
set_option exponentiation.threshold 500
/-! values_of_clash -/
namespace E4
open PySem PySem.Spec PyProof.Rows L2
open C8 (Cal Mak Met InsC pe_c pe_mt pe_mt0 call_isC clsBody)
theorem count_leftOf (z : Str) : ∀ (o p : List Str), (leftOf p o).count z = p.count z - o.count z
  | [], p => by simp [leftOf]
  | y :: o, p => by
    have ih := count_leftOf z o (p.erase y)
    show (leftOf (p.erase y) o).count z = _
    rw [ih]
    by_cases e : y = z
    · subst e
      rw [List.count_erase_self, List.count_cons_self]
      omega
    · rw [List.count_erase_of_ne (by exact fun q => e q.symm), List.count_cons_of_ne (by exact fun q => e q)]
theorem leftOf_nil {p o : List Str} (h : ∀ z, p.count z ≤ o.count z) : leftOf p o = [] := by
  rw [List.eq_nil_iff_forall_not_mem]
  intro z hz
  have h1 := List.count_pos_iff.mpr hz
  rw [count_leftOf] at h1
  have := h z
  omega
section
variable {P : Program} {w : World} {K : PySem.W.Frag} {mg : Str → Option Value} {base : Heap} {C : Addr}
end
end E4

set_option Elab.async false
set_option linter.all false
set_option maxRecDepth 100000
set_option maxHeartbeats 1000000
set_option exponentiation.threshold 500
/-! clash -/
namespace L2
open PySem PySem.Spec PyProof.Rows
section
variable {X : Cx}
end
end L2
namespace E4
open PySem PySem.Spec PyProof.Rows L2
open C8 (Cal Mak Met InsC pe_c pe_mt pe_mt0 call_isC clsBody)
open LamX (Tabs ExtN TabB CodeO)
/-- the value of a letter -/
def gOf (vl : Vls) (z : Str) : Int := (getI vl z).getD 0
def AllV (p : Int → Prop) (l : Vls) : Prop := ∀ x ∈ l, p x.2
theorem AllV.set {p : Int → Prop} {l : Vls} {z : Str} {n : Int} (h : AllV p l) (hn : p n) : AllV p (setI l z n) := by
  unfold setI
  split
  · intro x hx
    obtain ⟨y, hy, rfl⟩ := List.mem_map.mp hx
    split
    · exact hn
    · exact h y hy
  · intro x hx
    rcases List.mem_append.mp hx with q | q
    · exact h x q
    · rw [List.mem_singleton.mp q]
      exact hn
theorem gOf_at {vl : Vls} {ks : List Str} {p : Int → Prop} (hk : vl.map (·.1) = ks) (ha : AllV p vl) {z : Str} (hz : z ∈ ks) : getI vl z = some (gOf vl z) ∧ p (gOf vl z) := by
  obtain ⟨n, hn, hm⟩ := getI_isSome (l := vl) (z := z) (by rw [hk]; exact hz)
  have e : gOf vl z = n := by unfold gOf; rw [hn]; rfl
  rw [e]
  exact ⟨hn, ha _ hm⟩
section
variable {P : Program} {w : World} {K : PySem.W.Frag} {mg : Str → Option Value} {base : Heap} {C : Addr}
end
end E4

set_option Elab.async false
set_option linter.all false
set_option maxRecDepth 100000
set_option maxHeartbeats 1000000
set_option exponentiation.threshold 500
/-! hole -/
namespace E4
open PySem PySem.Spec PyProof.Rows L2
open C8 (Cal Mak Met InsC pe_c pe_mt pe_mt0 call_isC clsBody)
open LamX (Tabs ExtN TabB CodeO)
theorem strOk_of {z : Str} (h : LetOk z) : PyData.strOk z = true := by
  unfold PyData.strOk
  rw [← Array.all_toList, List.all_eq_true]
  intro c hc
  have := (h.2.2 c hc).2
  exact decide_eq_true (by omega)
theorem canLay_strs (l : List Str) (h : ∀ z ∈ l, PyData.strOk z = true) : PyData.canLayAll0 (l.map PyData.str) = true := by
  induction l with
  | nil => rfl
  | cons b l ih => simpa [PyData.canLayAll0, PyData.canLay0] using ⟨h b (List.mem_cons.mpr (.inl rfl)), ih fun z hz => h z (List.mem_cons.mpr (.inr hz))⟩
theorem depth_strs (l : List Str) : PyData.depthAll (l.map PyData.str) = 0 := by
  induction l with
  | nil => rfl
  | cons b l ih =>
    show max (PyData.depth (.str b)) (PyData.depthAll (l.map PyData.str)) = 0
    rw [ih]
    rfl
theorem shaped_strs (l : List Str) (h : ∀ z ∈ l, PyData.strOk z = true) : SeqAt.shaped (.list (l.map PyData.str)) = true := by
  have h1 : PyData.canLay0 (.list (l.map PyData.str)) = true := by simpa [PyData.canLay0] using canLay_strs l h
  have h2 : PyData.depth (.list (l.map PyData.str)) ≤ 64 := by
    simp only [PyData.depth]
    rw [depth_strs]
    decide
  show (PyData.canLay0 _ && decide (PyData.depth _ ≤ 64)) = true
  rw [h1, decide_eq_true h2]
  rfl
theorem dp_strs {K : PySem.W.Frag} {H : Hp} (l : List Str) : DpAll K H (l.map V.str) (l.map PyData.str) := by
  induction l with
  | nil => exact .nil
  | cons b l ih => exact .cons (.str b) ih
/-- the letters of the sizes of the first i rows -/
def dn (ss : List Sd) (i : Nat) : List Str := (ss.take i).flatMap (·.2.1)
theorem leftOf_len : ∀ (o p : List Str), p.length ≤ (leftOf p o).length + o.length
  | [], p => Nat.le_refl _
  | z :: o, p => by
    have h := leftOf_len o (p.erase z)
    show p.length ≤ (leftOf (p.erase z) o).length + (o.length + 1)
    by_cases c : z ∈ p
    · rw [List.length_erase_of_mem c] at h
      omega
    · rw [List.erase_of_not_mem c] at h ⊢
      omega
section
variable {P : Program} {w : World} {K : PySem.W.Frag} {mg : Str → Option Value} {base : Heap} {C : Addr}
end
end E4

set_option Elab.async false
set_option linter.all false
set_option maxRecDepth 100000
set_option maxHeartbeats 1000000
/-! list(d.values()) -/
namespace L2
open PySem PySem.Spec PyProof.Rows
theorem vals_of_kv {kvs : List (Key × V)} {vs : List (Key × Value)} (rel : KV kvs vs) : Vals (kvs.map (·.2)) (vs.map (·.2)) := by
  unfold KV at rel
  induction rel with
  | nil => exact .nil
  | cons h t ih => exact .cons h.2 ih
section
variable {X : Cx}
def tListV (td : TE) : TE := fun σ H Q => td σ H fun x H1 => ∃ a kvs, x = V.ref a ∧ H1 a = some (.dK kvs) ∧ kvs.length ≤ sizeLine ∧ ∀ p, H1 p = none → Q (.ref p) (upd H1 p (.lst (kvs.map (·.2))))
variable {o : Expr} {p pos apos mpos : Pos} {td : TE}
theorem pe_listVals (hc : X.calm = true) (hg : Gl X "list") (hm : X.mg "list" = none) (hd : PE X o td) (hbase : attributeBase o "values" X.env (eval o X.env) = eval o X.env := by rfl) (hline : (apos.endLine == mpos.line) = true := by rfl)
    (hse : starEach [Expr.Call (.Attribute o "values" apos) [] [] mpos] X.env = [(false, eval (Expr.Call (.Attribute o "values" apos) [] [] mpos) X.env)] := by rfl) :
    PE X (.Call (.Name "list" p) [.Call (.Attribute o "values" apos) [] [] mpos] [] pos) (tListV td) := by
  refine ⟨fun pins s σ H Q I h => ?_⟩
  refine wpAny_Call_Name_kw (ld_blt I hg hm (u := .type "list") (by first | rfl | decide +kernel) ?_ (by first | decide +kernel | decide) (by first | decide +kernel | decide))
  rw [hse]
  refine PySem.callWith_type1 (wpAny_Call_method0_late hbase hline (thn (hd.run pins s σ H _ I h) fun v s1 ⟨x, H1, I1, r1, a, kvs, ex, ha, hz, q⟩ => ?_))
  subst ex
  obtain rfl : v = Value.ref a := r1
  obtain ⟨_, hsys, vs, rel, dof⟩ := dk_of I1.hok ha
  obtain ⟨ep, dat⟩ := dof.dictAt
  have dat' := dat
  obtain ⟨ob, es, ho, ex, hdat, hko, hpr, hnd⟩ := dat'
  refine ⟨"dict", "dict.values", F.plainAttrs_dict, F.slot_dict_values, F.type_dict_values, ⟨ob, ho, ex.1⟩, fun b e => ?_, Calls.callWith_builtin rfl (PySem.evalArgs_none ?_)⟩
  · cases e
    exact ⟨ob, ho, ex.2.1⟩
  refine call_meetsIn F.slot_dict_values ⟨ob, ho, ex.1⟩ F.entry_dict_values (F.args_dict_values_1 _) (meets_dict_values (mixKind X.prog X.w) a hsys) ⟨⟨vs, dof⟩, ?_⟩
  have k1 : ∀ b u, s1.heap.get? b = some u → (s1.heap.push { cls := .type "dict_values", data := .fields #[.ref a] }).get? b = some u := fun b u e => Heap.get?_push_of_some _ e
  have dat1 : (s1.heap.push { cls := .type "dict_values", data := .fields #[.ref a] }).DictAt (mixKind X.prog X.w) a vs ep := dat.keep k1
  have hlv : vs.length = kvs.length := (KV.length rel).symm
  have I2 : Inv X pins σ H1 { s1 with heap := s1.heap.push { cls := .type "dict_values", data := .fields #[.ref a] } } := I1.kept (t' := s1.toks) k1
  have vw : (s1.heap.push { cls := .type "dict_values", data := .fields #[.ref a] }).IsValuesView s1.heap.objs.size a := ⟨_, Heap.get?_push_size _ rfl, rfl, rfl⟩
  generalize hs2 : ({ s1 with heap := s1.heap.push { cls := .type "dict_values", data := .fields #[.ref a] } } : Shared) = s2 at I2
  have eh : s2.heap = s1.heap.push { cls := .type "dict_values", data := .fields #[.ref a] } := by rw [← hs2]
  rw [← eh] at dat1 vw
  refine PySem.W.kdl_call (s := s2) (PySem.W.kdl_values (knd := mixKind X.prog X.w) (kvs := vs) (ep := ep)) (I2.ok.hd hc) ⟨vw, dat1⟩ (by rw [hlv]; exact hz) fun h' tk acc' c' kp e it => ?_
  have ea : acc'.toList = vs.map (·.2) := by
    refine List.ext_getElem? fun j => ?_
    have sz : acc'.toList.length = vs.length := by rw [Array.length_toList, it.1]
    rw [List.getElem?_map]
    rcases Nat.lt_or_ge j vs.length with c | c
    · obtain ⟨u, hj⟩ : ∃ u, acc'.toList[j]? = some u := ⟨_, List.getElem?_eq_getElem (by omega)⟩
      obtain ⟨k, hk⟩ := it.2 j u (by rw [← Array.getElem?_toList]; exact hj)
      rw [hj, hk]
      rfl
    · rw [List.getElem?_eq_none (by omega), List.getElem?_eq_none c]
      rfl
  have hvals := vals_of_kv rel
  have hz2 : (kvs.map (·.2)).length ≤ sizeLine := by rw [List.length_map]; exact hz
  have obk : ObjOk X.prog X.w (upd H1 s2.heap.objs.size (.lst (kvs.map (·.2)))) h' s2.heap.objs.size (.lst (kvs.map (·.2))) :=
    ⟨hz2, acc'.toList, c', by rw [ea]; exact hvals, by rw [Array.toArray_toList]; exact e⟩
  exact ⟨.ref s2.heap.objs.size, _, I2.laid (t' := tk) kp (Nat.le_refl _) obk, rfl, q _ (I2.hok.fresh (Nat.le_refl _))⟩
end
end L2

set_option Elab.async false
set_option linter.all false
set_option maxRecDepth 100000
set_option maxHeartbeats 1000000
/-! name = {k: v for ..} on one line, the name a local -/
namespace L2
open PySem PySem.Spec PyProof.Rows
section
variable {X : Cx}
theorem ps_setDc {i : Nat} {y : Str} {py : Pos} {kx vx tg iter : Expr} {ifs : List Expr} {scope : Scope} {own : List (Str × Nat)} {pos spos : Pos} {wi : TI} {g : TG} {tt : TT} {tk tv : TE} (hc : X.calm = true) (hN : X.N.Nodup) (hy : X.N[i]? = some y) (hyl : X.env.scope.names.lookup y = some .local)
    (hsw : swapsWith (.DictComp kx vx [⟨tg, iter, ifs, 0⟩] scope pos) (some (.Name y py)) spos.line X.env = pure true) (hi : PI X tg iter wi) (ok : BlkOk X.N X.env.scope scope own)
    (hg : ∀ (s : Shared) (H : Hp) (C : Addr) (cl : List (Str × Addr)) (fp : List Addr), PG (X.blk s H scope (compEnvC scope cl C X.env) fp) tg g) (ht : ∀ (s : Shared) (H : Hp) (C : Addr) (cl : List (Str × Addr)) (fp : List Addr), PTs (X.blk s H scope (compEnvC scope cl C X.env) fp) ifs tt)
    (hk : ∀ (s : Shared) (H : Hp) (C : Addr) (cl : List (Str × Addr)) (fp : List Addr), PE (X.blk s H scope (compEnvC scope cl C X.env) fp) kx tk)
    (he : ∀ (s : Shared) (H : Hp) (C : Addr) (cl : List (Str × Addr)) (fp : List Addr), PE (X.blk s H scope (compEnvC scope cl C X.env) fp) vx tv) (hs : ∀ x, foldedSetIterable iter X.env x = pure x := by intro _; rfl) :
    PS X (.Assign [.Name y py] (.DictComp kx vx [⟨tg, iter, ifs, 0⟩] scope pos) spos) (tAsg (tDc wi g tt tk tv (own.map (·.2))) (gName i)) := by
  refine ⟨fun pins s σ H D I h => ?_⟩
  rw [exec_Assign_Name_used _ _ _ _ hsw]
  refine wpAny_bind (wpAny_standAt (wpAny_bind ?_))
  show wpAny _ X.A (do let _ ← comprehension (.DictComp kx vx [⟨tg, iter, ifs, 0⟩] scope pos) scope X.env (firstIterPos [⟨tg, iter, ifs, 0⟩] pos) newDict false (eval iter X.env) (some (assign (.Name y py) X.env))) _ _ s
  have h : tDc wi g tt tk tv (own.map (·.2)) σ H (fun x H1 => gName i x σ H1 D.nx) := h
  refine wpAny_bind (thn (dc_core (Qf := fun _ s' => SP X pins D .next s') hc hN I hi ok hg ht hk he hs h fun L C s' m H' I' q hn f => ?_) fun _ s' hq => wpAny_pure (wpAny_pure hq))
  show wpAny _ _ (assign (.Name y py) X.env (.ref L)) _ _ _
  refine wpAny_assign_Name (store_ok2 (v := V.ref L) I' hN hy (.inl hyl) rfl (fun s2 I2 ⟨a, sb, ha⟩ => ?_) (.inr hyl))
  obtain ⟨f0, f1, f2, f3, f4, f5⟩ := f
  have haC : C ≠ a := by
    rcases ha with z | z
    · rw [z]; exact f1
    · exact fun e => f4 y a z e.symm
  refine ⟨m, hn.sameBut sb haC, fun h3 sb3 => ?_⟩
  exact ⟨_, H', I2.turned (t' := s2.toks) (fun b o hb e => (sb3.2 b hb).trans e) f0 f1 f3 f4 f5, q⟩
end
end L2

set_option Elab.async false
set_option linter.all false
set_option maxRecDepth 100000
set_option maxHeartbeats 1000000
set_option exponentiation.threshold 5000
/-! cell_of -/
namespace E4
open PySem PySem.Spec PyProof.Rows L2
open C8 (Cal Mak Met InsC pe_c pe_mt pe_mt0 call_isC clsBody)
open LamX (Tabs ExtN TabB CodeO)
def stepP (vl : Vls) (x : Sd) : Int := prodI (x.2.2.map (gOf vl))
def sizeP (vl : Vls) (x : Sd) : Int := prodI (x.2.1.map (gOf vl))
/-- the rows from the greatest step to the least -/
def goDown (vl : Vls) : List Sd → Int → Vls → Option (Int × Vls)
  | [], r, f => some (r, f)
  | x :: xs, r, f => if sizeP vl x ≤ r / stepP vl x then none else goDown vl xs (r % stepP vl x) (setI f x.1 (r / stepP vl x))
def cellL (vl : Vls) (ss : List Sd) (pl : Int) : Option (List Int) := match goDown vl (ordL ss).reverse pl (ss.map fun x => (x.1, 0)) with
  | none => none
  | some (r, f) => if r = 0 then some (f.map (·.2)) else none
theorem prod_pos {g : Str → Int} : ∀ {l : List Str}, (∀ z ∈ l, 1 ≤ g z) → 1 ≤ prodI (l.map g)
  | [], _ => by show (1 : Int) ≤ 1; decide
  | z :: l, h => by
    have i1 := prod_pos (l := l) fun y hy => h y (List.mem_cons_of_mem _ hy)
    have a := h z List.mem_cons_self
    show 1 ≤ g z * prodI (l.map g)
    have := Int.mul_le_mul a i1 (by decide) (by omega)
    simpa using this
theorem _root_.Int.emod_le_of_nonneg' {a b : Int} (h : 0 ≤ a) (hb : 1 ≤ b) : a % b ≤ a := by
  have h1 := Int.mul_ediv_add_emod a b
  have h2 : 0 ≤ b * (a / b) := Int.mul_nonneg (by omega) (Int.ediv_nonneg h (by omega))
  omega
theorem bits_le {m : Int} (k : Nat) (h0 : 0 ≤ m) (h : m < 2 ^ k) (hk : 0 < k) : Builtin.Int.intBits m ≤ k := by
  unfold Builtin.Int.intBits
  split
  · exact Nat.zero_le _
  · have h1 : m.natAbs < 2 ^ k := by
      have e : ((m.natAbs : Nat) : Int) = m := Int.natAbs_of_nonneg (by omega)
      have : ((m.natAbs : Nat) : Int) < ((2 ^ k : Nat) : Int) := by rw [e]; exact_mod_cast h
      exact Int.ofNat_lt.mp this
    have := PySem.Flt.log2_lt_of hk h1
    omega
def spCellOf (T : List (Addr × Str)) (C : Addr) : Sp := fun vs H Q _ => ∃ (a d : Addr) (ss : List Sd) (vl : Vls) (pl : Int), vs = [.ref a, .ref d, .int pl] ∧ PlAt C H a ss ∧ SdsOk ss ∧ Tabs T H ∧ Chn ss ∧ H d = some (.dK (dI vl)) ∧ VlsOk vl ∧ (∀ z ∈ sizesOf ss, ∀ n, getI vl z = some n → 1 ≤ n) ∧ (∀ z ∈ sizesOf ss, z ∈ vl.map (·.1)) ∧ 0 ≤ pl ∧ pl < 2 ^ 4000 ∧
  (∀ l, cellL vl ss pl = some l → ∀ H' p, ExtN H H' → Tabs T H' → NewT H p → H' p = some (.lst (l.map V.int)) → Q (.ref p) H') ∧ (cellL vl ss pl = none → ∀ H', ExtN H H' → Tabs T H' → Q .non H')
section
variable {P : Program} {w : World} {K : PySem.W.Frag} {mg : Str → Option Value} {base : Heap} {C : Addr}
theorem tabs_sameD {T : List (Addr × Str)} {D : Addr} {H H' : Hp} {kvs : List (Key × V)} (t : Tabs T H) (S : SameB D H H') (hD : H D = some (.dK kvs)) : Tabs T H' := fun p hp =>
  let ⟨ps, h1, h2, h3⟩ := t p hp
  ⟨ps, S _ _ (ne_of h1 hD (by intro w; cases w)) h1, h2, fun pos cv e => let ⟨c, e1, e2⟩ := h3 pos cv e; ⟨c, e1, S _ _ (ne_of e2 hD (by unfold CodeO; intro w; cases w)) e2⟩⟩
theorem scCellOf : FnScope ["table", "values", "place", "found", "rest", "name", "size", "step", "index"] ["table", "values", "place"] (defScope sCellOf) := ⟨rfl, rfl, rfl, by decide +kernel, rfl, by decide +kernel, by decide +kernel⟩
theorem ok_cellOf {T : List (Addr × Str)} {f : Addr} {fd : FuncData} (F : Fun K "cell_of" "cell_of" sCellOf f fd) (B : Bl mg) (Ct : Cal P w K mg base 1 "check_table" (spCheckT C) []) (Cv_ : Cal P w K mg base 3 "check_values" (spCheckV K) []) (Sz : Met P w K mg base 1 C "sizes" (spSizes C) []) (Cn : Cal P w K mg base 2 "is_count" spCount [])
    (Cw : Cal P w K mg base 4 "check_own_places" (spCheckO T C) []) (Nm : Cal P w K mg base 1 "names_of" (spNames K) []) (Sd_ : Met P w K mg base 1 C "sides" (spSides C) []) (Or_ : Cal P w K mg base 2 "ordered" (spOrdered T C) []) (Pr : Cal P w K mg base 1 "product_at" (spProd K) []) :
    FnOk P w K mg base CX0 5 f fd ["table", "values", "place"] (spCellOf T C) := by
  refine F.ok scCellOf (fun vs H Q E h => ?_) (fun cdv A outer s H vs Q E hr h => ?_)
  · obtain ⟨a, d, ss, vl, pl, rfl, _⟩ := h
    rfl
  · obtain ⟨a, d, ss, vl, pl, rfl, hp, ok, tb, hc, hd, vok, v1, vin, p0, p1, k1, k2⟩ := h
    have ul := Nat.lt_of_le_of_lt (Nat.add_le_add_left (by decide : 1 ≤ 64) _) hr.units
    refine ⟨_, pss_cons (ps_expr (pe_c Ct hr (by decide) rfl (pa_cons (pv 0) pa_nil)))
      (pss_cons (ps_expr (pe_c Cv_ hr (by decide) rfl (pa_cons (pv 1) (pa_cons (pe_mt0 Sz hr (by decide) (pv 0)) pa_nil))))
      (pss_cons (ps_if (pt_not (pt_val (pe_c Cn hr (by decide) rfl (pa_cons (pv 2) pa_nil)))) (pss_one ps_never) pss_nil)
      (pss_cons (ps_expr (pe_c Cw hr (by decide) rfl (pa_cons (pv 0) pa_nil)))
      (pss_cons (ps_setDc (i := 3) (own := [("name", 5)]) (g := gName 5) (tt := tYes) (tk := tVar 5) (tv := tC (.int 0)) (by rfl) scCellOf.nd rfl rfl (by rfl) (pi_list (pe_c Nm hr (by decide) rfl (pa_cons (pe_mt0 Sd_ hr (by decide) (pv 0)) pa_nil)))
          (blkOk_by (own := [("name", 5)]) (N := ["table", "values", "place", "found", "rest", "name", "size", "step", "index"]) (sc := defScope sCellOf) (by decide +kernel))
          (fun _ _ _ _ _ => pg_name (i := 5) scCellOf.nd rfl (Or.inl rfl)) (fun _ _ _ _ _ => pts_nil) (fun _ _ _ _ _ => pv 5) (fun _ _ _ _ _ => by exact pe_int))
      (pss_cons (ps_set (i := 4) scCellOf.nd rfl (Or.inl rfl) (pv 2))
      (pss_cons (ps_for PassesOwn.never rfl (pi_reversed (by rfl) B.rev_ (pa_cons (pe_c Or_ hr (by decide) rfl (pa_cons (pv 0) pa_nil)) pa_nil)) (pg_tup rfl (pgs_cons (pg_name (i := 5) scCellOf.nd rfl (Or.inl rfl)) (pgs_cons (pg_name (i := 6) scCellOf.nd rfl (Or.inl rfl)) (pgs_cons (pg_name (i := 7) scCellOf.nd rfl (Or.inl rfl)) pgs_nil))))
        (pss_cons (ps_asg (pe_callB call_divmodW (by rfl) B.dm_ (by decide +kernel) (pa_cons (pv 4) (pa_cons (pe_c Pr hr (by decide) rfl (pa_cons (pv 7) (pa_cons (pv 1) pa_nil))) pa_nil))) (pg_tup rfl (pgs_cons (pg_name (i := 8) scCellOf.nd rfl (Or.inl rfl)) (pgs_cons (pg_name (i := 4) scCellOf.nd rfl (Or.inl rfl)) pgs_nil))))
        (pss_cons (ps_if (pt_cmpR op_ge (pv 8) (pe_c Pr hr (by decide) rfl (pa_cons (pv 6) (pa_cons (pv 1) pa_nil))) (by rfl)) (pss_one (ps_ret pe_non)) pss_nil)
        (pss_one (ps_dput ul (pv 3) (pv 5) (pv 8) rfl)))))
      (pss_one (ps_ret (pe_ifExp (pt_cmpR op_eq (pv 4) pe_int (by rfl)) (pe_listVals rfl (by rfl) B.lst_ (pv 3)) pe_non))))))))), ?_⟩
    obtain ⟨dx, l0, ts0, ha, hl0, hx0⟩ := id hp
    have zl := ok.len
    have lsz := length_sizes ok
    refine ⟨_, rfl, a, dx, _, rfl, ha, ?_⟩
    dsimp only
    refine ⟨_, rfl, _, rfl, a, dx, _, rfl, ha, rfl, a, ss, rfl, hp, ok, fun H1 q1 S1 n1 hq1 => ?_⟩
    refine ⟨d, q1, vl, sizesOf ss, rfl, S1 _ _ hd, vok, SqL.of hq1, by omega, vin, v1, fun H2 S2 => ?_⟩
    dsimp only
    refine ⟨_, rfl, pl, rfl, p0, true, rfl, iteF ?_⟩
    dsimp only [tNext]
    have S02 := S1.trans S2
    refine ⟨_, rfl, a, ss, rfl, hp.same S02, ok, tb.ext S02, hc, fun H3 ex3 tb3 => ?_⟩
    dsimp only
    have ex03 := (ExtN.of S02).trans ex3
    have hp3 := hp.ext ex03
    obtain ⟨dx3, l3, ts3, ha3, hl3, hx3⟩ := id hp3
    refine seq_asg ⟨_, rfl, a, dx3, _, rfl, ha3, rfl, a, ss, rfl, hp3, ok, fun H4 q4 ts4 S4 n4 hq4 hx4 => ?_⟩
    refine ⟨q4, ts4, ss, rfl, SqL.of hq4, hx4, by omega, fun H5 p5 S5 n5 hp5 => ?_⟩
    refine ⟨p5, rfl, ⟨_, SqL.of hp5⟩, fun D nD => ?_⟩
    have S35 := S4.trans S5
    have nds := ok.nd
    have lzs : (ss.map (·.1)).length ≤ 16 := by rw [List.length_map]; exact zl
    have e0 : (ss.map fun x => (x.1, (0 : Int))) = (ss.map (·.1)).map fun z => (z, (0 : Int)) := by rw [List.map_map]; rfl
    generalize hzs : ss.map (·.1) = zs at hp5 nds lzs e0
    let wk := walk_list (K := K) (a := p5) (xs := zs.map V.str)
    let Pv : Nat → Hp → Prop := fun i H' => Same H5 H' ∧ H' D = some (.dK (dI ((zs.take i).map fun z => (z, (0 : Int)))))
    refine ⟨fun i m H => m = zs.length - i ∧ i ≤ zs.length ∧ Pv i H, ⟨zs.length, by simp, Nat.zero_le _, Same.upd nD, upd_same⟩, ?_⟩
    rintro i m H6 ⟨rfl, hi, S6, hD⟩
    have qq : SqL K H6 p5 (zs.map V.str) := SqL.of (S6 _ _ hp5)
    by_cases hlt : i < zs.length
    · refine .inr ⟨wk.goes i H6 (by rw [List.length_map]; exact hlt) qq, Pv (i + 1), fun H' p' => ⟨zs.length - (i + 1), by omega, rfl, hlt, p'⟩, fun x H' y => ?_⟩
      obtain ⟨rfl, hx⟩ := wk.yields i H6 x H' (by rw [List.length_map]; exact hlt) qq y
      rw [List.getElem?_map] at hx
      obtain ⟨z, hz, rfl⟩ := Option.map_eq_some_iff.mp hx
      have nin : z ∉ ((zs.take i).map fun z => (z, (0 : Int))).map (·.1) := fun c => by
        rw [List.map_map] at c
        have c2 : z ∈ zs.take i := by
          obtain ⟨u, hu, rfl⟩ := List.mem_map.mp c
          exact hu
        obtain ⟨j, hj⟩ := List.mem_iff_getElem?.mp c2
        have hj2 : j < i := by
          have := (List.getElem?_eq_some_iff.mp hj).1
          rw [List.length_take] at this
          omega
        rw [List.getElem?_take_of_lt hj2] at hj
        have := (List.getElem?_inj (i := j) (j := i) (by omega) nds).mp (hj.trans hz.symm)
        omega
      refine ⟨rfl, iteT (B := False) ⟨_, rfl, _, Sum.inr z, rfl, hD, ?_, ?_, ?_⟩⟩
      · rw [len_dI, List.length_map, List.length_take, sizeLine_eq]
        omega
      · intro c o ec
        rw [upd_ne (ne_of_none ec nD)]
        exact S6 _ _ ec
      · rw [upd_same, putK_dI, keys_set_new nin, take_snoc hz, List.map_append]
        rfl
    have ei : i = zs.length := by omega
    subst ei
    rw [List.take_length, ← e0] at hD
    refine .inl ⟨by have := wk.stops H6 qq; rw [List.length_map] at this; exact this, ?_⟩
    have S36 := S35.trans S6
    have ex06 := ex03.trans (ExtN.of S36)
    have tb6 := tb3.ext S36
    dsimp only
    refine seq_asg ⟨_, rfl, ?_⟩
    refine ⟨_, rfl, a, ss, rfl, hp.ext ex06, ok, tb6, fun H7 p ts ex7 tb7 np hpp hx => ?_⟩
    have ex07 := ex06.trans ex7
    have hD7 := ex7 _ _ hD (fun _ z => nomatch z)
    have hd5 : H5 d = some (.dK (dI vl)) := S35 _ _ (ex03 _ _ hd (fun _ z => nomatch z))
    have ndD : d ≠ D := ne_of_none hd5 nD
    have hd7 := ex7 _ _ (S6 _ _ hd5) (fun _ z => nomatch z)
    have lt := hx.length
    have lo : (ordL ss).length ≤ 16 := Nat.le_trans (length_ordL ss) ok.len
    have oko : ∀ x ∈ ordL ss, SdOk x := fun x hx1 => ok.ok x (mem_ordL.mp hx1).1
    have mem1 : ∀ x ∈ ordL ss, x ∈ ss := fun x hx1 => (mem_ordL.mp hx1).1
    have gat : ∀ z ∈ sizesOf ss, valV (dI vl) (Sum.inr z) = some (.int (gOf vl z)) ∧ 1 ≤ gOf vl z ∧ (gOf vl z).natAbs < 2 ^ 400 := fun z hz => by
      obtain ⟨n, hn, hm⟩ := getI_isSome (vin z hz)
      have e : gOf vl z = n := by unfold gOf; rw [hn]; rfl
      rw [e]
      exact ⟨by rw [valV_dI, hn]; rfl, v1 z hz n hn, (vok.1 _ hm).2⟩
    have cl : cellL vl ss pl = match goDown vl (ordL ss).reverse pl (ss.map fun x => (x.1, 0)) with
      | none => none
      | some (r, f) => if r = 0 then some (f.map (·.2)) else none := rfl
    rw [cl] at k1 k2
    generalize hoo : ordL ss = oo at hx lt lo oko mem1 k1 k2
    have backE : ∀ H', SameB D H7 H' → ExtN H H' := fun H' S c o e nt => S c o (ne_of_none (S35 _ _ (ex03 c o e nt)) nD) (ex07 c o e nt)
    have tabE : ∀ H', SameB D H7 H' → Tabs T H' := fun H' S => tabs_sameD tb7 S hD7
    have neL : ∀ {c : Addr} {xs : List V}, H7 c = some (.lst xs) → c ≠ D := fun e => ne_of e hD7 (by intro z; cases z)
    have neT : ∀ {c : Addr} {xs : List V}, H7 c = some (.tup xs) → c ≠ D := fun e => ne_of e hD7 (by intro z; cases z)
    have backN : ∀ H', SameB D H7 H' → ∀ c, H' c = none → NewT H c := fun H' S c n => newT_of (backE H' S) n
    refine ⟨p, _, rfl, SqL.of hpp, for_it (walk_rev (xs := ts.map V.ref)) (fun i σ' H' => ∃ r f u5 u6 u7 u8, σ' = [some (.ref a), some (.ref d), some (.int pl), some (.ref D), some (.int r), u5, u6, u7, u8] ∧ SameB D H7 H' ∧ H' D = some (.dK (dI f)) ∧ f.map (·.1) = ss.map (·.1) ∧ 0 ≤ r ∧ r ≤ pl ∧ goDown vl oo.reverse pl (ss.map fun x => (x.1, 0)) = goDown vl (oo.reverse.drop i) r f) ?_ ?_ ?_ ?_⟩
    · exact ⟨pl, _, none, none, none, none, rfl, SameB.refl _ _, hD7, by rw [List.map_map]; rfl, p0, Int.le_refl _, rfl⟩
    · rintro i σ' H' _ ⟨r, f, u5, u6, u7, u8, _, S, _⟩
      exact SqL.of (S _ _ (ne_of hpp hD7 (by intro z; cases z)) hpp)
    · rintro i v σ' H8 H9 hi ⟨r, f, u5, u6, u7, u8, rfl, S8, hD8, kf, r0, r1, eg⟩ ⟨rfl, hxi⟩
      rw [List.length_map] at hi hxi
      rw [List.getElem?_map] at hxi
      obtain ⟨t, htt, rfl⟩ := Option.map_eq_some_iff.mp hxi
      obtain ⟨x, hxx, c1, c2, t0, t1, t2⟩ := paired_at hx htt
      have xo := List.mem_of_getElem? hxx
      obtain ⟨_, _, _, x4, x5⟩ := oko x xo
      have erev : oo.reverse[i]? = some x := by
        rw [List.getElem?_reverse (by omega), ← lt]
        exact hxx
      have edrop : oo.reverse.drop i = x :: oo.reverse.drop (i + 1) := by
        obtain ⟨hl, e⟩ := List.getElem?_eq_some_iff.mp erev
        rw [List.drop_eq_getElem_cons hl, e]
      rw [edrop] at eg
      have zx : ∀ z ∈ x.2.2, z ∈ sizesOf ss := fun z hz => mem_sizesOf.mpr ⟨x, mem1 x xo, .inr hz⟩
      have zs1 : ∀ z ∈ x.2.1, z ∈ sizesOf ss := fun z hz => mem_sizesOf.mpr ⟨x, mem1 x xo, .inl hz⟩
      have sp := prod_pos (g := gOf vl) (l := x.2.2) fun z hz => (gat z (zx z hz)).2.1
      have cd : CDivP r (stepP vl x) := divp_ok (by show 0 < prodI _; omega) (by
        have := bits_le 4000 r0 (by omega) (by decide)
        omega)
      refine ⟨t, _, rfl, SqT.of (S8 _ _ (neT t0) t0), rfl, _, _, rfl, _, _, rfl, _, _, rfl, rfl, ?_⟩
      refine ⟨_, rfl, _, rfl, _, rfl, c2, d, x.2.2, dI vl, gOf vl, rfl, SqL.of (S8 _ _ (neL t2) t2), S8 _ _ ndD hd7, fun z hz => (gat z (zx z hz)).1, by omega, fun z hz => (gat z (zx z hz)).2.2, ?_⟩
      refine ⟨r, stepP vl x, rfl, cd, fun pr npr => ?_⟩
      have S9 : Same H9 (upd H9 pr (.tup [.int (r / stepP vl x), .int (r % stepP vl x)])) := Same.upd npr
      have S89 : SameB D H7 (upd H9 pr (.tup [.int (r / stepP vl x), .int (r % stepP vl x)])) := S8.to S9
      have hD9 := S9 _ _ hD8
      refine ⟨pr, _, rfl, SqT.of upd_same, rfl, _, _, rfl, _, _, rfl, rfl, ?_⟩
      generalize upd H9 pr (.tup [.int (r / stepP vl x), .int (r % stepP vl x)]) = H10 at S89 hD9 ⊢
      dsimp only
      refine ⟨_, rfl, _, rfl, _, rfl, c1, d, x.2.1, dI vl, gOf vl, rfl, SqL.of (S89 _ _ (neL t1) t1), S89 _ _ ndD hd7, fun z hz => (gat z (zs1 z hz)).1, by omega, fun z hz => (gat z (zs1 z hz)).2.2, ?_⟩
      refine ⟨_, _, rfl, rfl, _, rfl, ?_⟩
      have un : goDown vl (x :: oo.reverse.drop (i + 1)) r f = if sizeP vl x ≤ r / stepP vl x then none else goDown vl (oo.reverse.drop (i + 1)) (r % stepP vl x) (setI f x.1 (r / stepP vl x)) := rfl
      rw [un] at eg
      have sp1 : 1 ≤ stepP vl x := sp
      refine iteD (fun h0 => ?_) (fun h0 => ?_)
      · rw [if_pos (show sizeP vl x ≤ r / stepP vl x from h0)] at eg
        rw [eg] at k2
        exact k2 rfl H10 (backE _ S89) (tabE _ S89)
      · rw [if_neg (show ¬ sizeP vl x ≤ r / stepP vl x from h0)] at eg
        have kl : (dI f).length < sizeLine := by
          rw [len_dI, ← List.length_map (f := (·.1)), kf, List.length_map, sizeLine_eq]
          omega
        refine ⟨_, rfl, _, rfl, _, rfl, D, _, rfl, DPut.k (k := Sum.inr x.1) hD9 kl, ?_⟩
        refine ⟨r % stepP vl x, setI f x.1 (r / stepP vl x), _, _, _, _, rfl, S89.upd, by rw [upd_same, putK_dI], ?_, Int.emod_nonneg _ (by omega), ?_, eg⟩
        · rw [keys_set_in (by rw [kf]; exact List.mem_map.mpr ⟨x, mem1 x xo, rfl⟩), kf]
        · exact Int.le_trans (Int.emod_le_of_nonneg' r0 sp1) r1
    · rintro σ' H8 ⟨r, f, u5, u6, u7, u8, rfl, S8, hD8, kf, r0, r1, eg⟩
      rw [List.length_map, lt] at eg
      have e1 : oo.reverse.drop oo.length = [] := List.drop_of_length_le (by rw [List.length_reverse]; exact Nat.le_refl _)
      rw [e1] at eg
      have eg : goDown vl oo.reverse pl (ss.map fun x => (x.1, 0)) = some (r, f) := eg
      rw [eg] at k1 k2
      dsimp only at k1 k2
      refine ⟨_, rfl, rfl, _, rfl, ?_⟩
      refine iteD (fun e => ?_) (fun e => ?_)
      · have e2 : r = 0 := V.int.inj e
        refine ⟨_, rfl, D, _, rfl, hD8, by rw [len_dI, ← List.length_map (f := (·.1)), kf, List.length_map, sizeLine_eq]; omega, fun q nq => ?_⟩
        rw [if_pos e2] at k1
        have S9 : SameB D H7 (upd H8 q (.lst ((dI f).map (·.2)))) := S8.to (Same.upd nq)
        refine k1 _ rfl _ q (backE _ S9) (tabE _ S9) (backN _ S8 q nq) (by rw [upd_same]; unfold dI; rw [List.map_map, List.map_map]; rfl)
      · rw [if_neg (fun c => e (by rw [c]))] at k2
        exact k2 rfl H8 (backE _ S8) (tabE _ S8)
end
end E4

set_option Elab.async false
set_option linter.all false
set_option maxRecDepth 100000
set_option maxHeartbeats 1000000
/-! Plain(rows), Plain(sides=rows); __eq__ -/
namespace L2
open PySem PySem.Spec PyProof.Rows
open C8 (Cal Mak Met InsC)
/-- C(k=v, ..): keywords alone -/
structure MakK (P : Program) (w : World) (K : PySem.W.Frag) (mg : Str → Option Value) (base : Heap) (k : Nat) (x : Str) (C : Addr) (sp : Sp) (ks : List Str) (gV : List V → List V → List V) : Prop where
  ex : ∃ (f : Addr) (fd : FuncData) (ps : List Str) (g : List Value → List Value → List Value), Mk K C f ∧ FnOk P w K mg base CX0 k f fd ps sp ∧ mg x = some (.ref C) ∧ KBn K fd ps 1 ks g gV
section
variable {X : Cx} {C : Addr} {x : Str} {p pos : Pos} {j k : Nat} {e : Expr} {es : List Expr} {t : TA}
/-- C(e): as it is told of __init__ -/
theorem pe_mk1 {sp : Sp} (c : Mak X.prog X.w X.K X.mg X.base k x C sp []) (hr : Room j X.A) (hk : k + 1 ≤ j) (hg : Gl X x) (ha : PA X (e :: es) t)
    (hdb : (x == ("__debug__" : Str)) = false := by decide) (hs : starEach (e :: es) X.env = (false, eval e X.env) :: starEach es X.env := by rfl) (hpl : (backTo pos (starEach es X.env)).any (·.1) = false := by rfl) :
    PE X (.Call (.Name x p) (e :: es) [] pos) (tMake C sp [] C8.E0 t) := by
  obtain ⟨f, fd, ps, ds, M, F, hm, b, d⟩ := c.ex
  refine ⟨fun pins s σ H Q I h => ?_⟩
  refine wpAny_Call_Name_kw (ld_glob I hg hm ?_ hdb)
  refine PySem.W.callWith_K (h₀ := X.base) I.ok.mod.kin M.kp (thn (ha.run pos pins s σ H _ I h) fun us s1 ⟨vs, H1, I1, r, q⟩ => ⟨I1.kIn, ?_⟩) hs hpl
  exact run_make (E := C8.E0) M F (hr.mono hk) b d pass0 I1 r fun y dx hy hdx ne => q y dx hy hdx ne
end
end L2
namespace E4
open PySem PySem.Spec PyProof.Rows L2
open C8 (Cal Mak Met InsC pe_c pe_mt pe_mt0 call_isC clsBody)
def sdD (x : Sd) : PyData := .tuple [.str x.1, .list (x.2.1.map PyData.str), .list (x.2.2.map PyData.str)]
theorem dp_sds {K : PySem.W.Frag} {H : Hp} {ts : List Addr} {xs : List Sd} (h : SdsAt H ts xs) : DpAll K H (ts.map V.ref) (xs.map sdD) := by
  unfold SdsAt at h
  induction h with
  | nil => exact .nil
  | cons r t ih =>
    obtain ⟨a, b, h1, h2, h3⟩ := r
    exact .cons (.tup (SqT.of h1) (.cons (.str _) (.cons (.lst (SqL.of h2) (dp_strs _)) (.cons (.lst (SqL.of h3) (dp_strs _)) .nil)))) ih
theorem canLay_sds : ∀ {xs : List Sd}, (∀ x ∈ xs, SdOk x) → PyData.canLayAll0 (xs.map sdD) = true
  | [], _ => rfl
  | x :: xs, h => by
    obtain ⟨h1, h2, h3, _, _⟩ := h x List.mem_cons_self
    have ih := canLay_sds (xs := xs) fun y hy => h y (List.mem_cons_of_mem _ hy)
    have c1 := canLay_strs x.2.1 fun z hz => strOk_of (h2 z hz)
    have c2 := canLay_strs x.2.2 fun z hz => strOk_of (h3 z hz)
    have c0 := strOk_of h1
    simp [sdD, PyData.canLayAll0, PyData.canLay0, c0, c1, c2, ih]
theorem depth_sds : ∀ xs : List Sd, PyData.depthAll (xs.map sdD) ≤ 3
  | [] => Nat.zero_le _
  | x :: xs => by
    have ih := depth_sds xs
    have d1 := depth_strs x.2.1
    have d2 := depth_strs x.2.2
    simp [sdD, PyData.depthAll, PyData.depth, d1, d2]
    try omega
theorem shaped_sds {xs : List Sd} (h : ∀ x ∈ xs, SdOk x) : SeqAt.shaped (.list (xs.map sdD)) = true := by
  have h1 : PyData.canLay0 (.list (xs.map sdD)) = true := by simpa [PyData.canLay0] using canLay_sds h
  have h2 : PyData.depth (.list (xs.map sdD)) ≤ 64 := by
    simp only [PyData.depth]
    have := depth_sds xs
    omega
  show (PyData.canLay0 _ && decide (PyData.depth _ ≤ 64)) = true
  rw [h1, decide_eq_true h2]
  rfl
/-- equal tables are equal -/
def spEq (C : Addr) : Sp := fun vs H Q _ => ∃ (a b : Addr) (ss : List Sd), vs = [.ref a, .ref b] ∧ PlAt C H a ss ∧ PlAt C H b ss ∧ SdsOk ss ∧ Q (.bl true) H
section
variable {P : Program} {w : World} {K : PySem.W.Frag} {mg : Str → Option Value} {base : Heap} {C : Addr}
theorem scEq : FnScope ["self", "other"] ["self", "other"] (defScope sEq) := ⟨rfl, rfl, rfl, by decide +kernel, rfl, by decide +kernel, by decide +kernel⟩
theorem ok_eq {f : Addr} {fd : FuncData} (F : Fun K "__eq__" "Plain.__eq__" sEq f fd) (B : Bl mg) (V : Cv K mg C) (T : Px P w K mg base C) : FnOk P w K mg base CX0 1 f fd ["self", "other"] (spEq C) := by
  refine F.ok scEq (fun vs H Q E h => ?_) (fun cdv A outer s H vs Q E hr h => ?_)
  · obtain ⟨a, b, ss, rfl, _⟩ := h
    rfl
  · obtain ⟨a, b, ss, rfl, ⟨dx, l, ts, ha, hl, hx⟩, ⟨dy, m, us, hb, hm, hy⟩, ok, k⟩ := h
    refine ⟨_, pss_one (ps_ret (pe_and (pe_callB (call_isC V.ins) (by rfl) B.isi (by decide +kernel) (pa_cons (pv 1) (pa_cons (pe_glob (v := .ref C) (by rfl) V.mgP rfl) pa_nil)))
      (pe_one (pe_cmpR (op_eqD hr.units) (pe_fld (pv 0) rfl) (pe_fld (pv 1) rfl) (by rfl))))), ?_⟩
    refine ⟨_, rfl, b, dy, _, rfl, hb, true, rfl, iteT (B := False) ?_⟩
    refine ⟨_, rfl, a, C, dx, _, _, rfl, ha, T.cl, T.na, rfl, _, rfl, b, C, dy, _, _, rfl, hb, T.cl, T.na, rfl, _, _, .lst (SqL.of hl) (dp_sds hx), .lst (SqL.of hm) (dp_sds hy), shaped_sds ok.ok, shaped_sds ok.ok, ?_⟩
    rw [SeqAt.eqv_refl _ (by simpa [PyData.canLay0] using canLay_sds ok.ok)]
    exact k
end
end E4

set_option Elab.async false
set_option linter.all false
set_option maxRecDepth 100000
set_option maxHeartbeats 1000000
/-! a != b, both of one own class that has __eq__ alone. -/
namespace PySem.W
open PySem PySem.Calls PyProof.Rows
section
variable {prog : Program} {w : World} {A : Around} {E : Value → Shared → Prop} {s : Shared} {K : Frag} {x y C L f : Addr} {h₀ : Heap} {m : Str → Option Value} {ox : Obj} {od : Option Obj}
/-- what the class says of != -/
structure NoNe (K : Frag) (C f : Addr) : Prop where
  ne : findIn K (.ref C) "__ne__" = some (some (.builtin "object.__ne__"))
  eq : findIn K (.ref C) "__eq__" = some (some (.ref f))
  fn : isFn K (.ref f) = true
  sub : subIn K (.ref C) (.type "object") = some true
end
end PySem.W

set_option Elab.async false
set_option linter.all false
set_option maxRecDepth 100000
set_option maxHeartbeats 1000000
/-! a def called beneath a comparison -/
namespace L2
open PySem PySem.Spec PyProof.Rows
section
variable {X : Cx}
structure SubA (X : Cx) (k : Nat) (A : Around) : Prop where
  room : Room k A
  fr : A.frames = X.A.frames
/-- a def called where the around is deeper -/
theorem run_sub {A : Around} {k : Nat} {f : Addr} {fd : FuncData} {ps : List Str} {sp : Sp} {pins : List (Addr × Obj)} {σ : L2.St} {H : Hp} {s : Shared} {Q : VK} {us : List Value} {vs : List V} (sb : SubA X k A) (F : FnOk X.prog X.w X.K X.mg X.base CX0 k f fd ps sp) (hb : Binds X.K fd ps [])
    (I : Inv X pins σ H s) (r : Vals vs us) (hsp : sp vs H Q E0) : wpAny (model X.prog X.w) A (call (.ref f) us) (EP X pins σ Q) X.xe s := by
  have e0 : Env0 X.prog X.w X.K X.mg X.base A X.stack s H := by
    have e := I.env0
    exact ⟨by rw [sb.fr]; exact e.frames, e.mod, e.bs, e.bsz, e.funs, e.frf, e.hok, e.bare⟩
  have hl := F.len _ _ _ _ hsp
  have hlu : us.length = ps.length := by rw [← r.length]; exact hl
  refine wpAny_call (codeAny_mono (F.run A X.stack s H ⟨us, []⟩ us vs _ E0 sb.room e0 (by
    have := hb s us I.kIn (by simpa using hlu)
    simpa using this) r hsp) fun r s' hq => ?_)
  cases r with
  | error e => exact pass0 pins σ H s e s' I hq
  | ok fl =>
    cases fl with
    | ret w =>
      obtain ⟨z, H', I', rz, q⟩ := I.after hq
      exact ⟨z, H', I', rz, q⟩
    | next => exact False.elim hq
    | brk => exact False.elim hq
    | cont => exact False.elim hq
end

end L2

set_option Elab.async false
set_option linter.all false
set_option maxRecDepth 100000
set_option maxHeartbeats 1000000
/-! a != b, tuples whose items are equal in this program and world (dicts among them) -/
namespace L2
open PySem PySem.Spec PyProof.Rows
open AutoSeq1 (wpAny_loadPart')
def EqIn (prog : Program) (w : World) (A : Around) (s : Shared) (x y : Value) : Prop := ∀ (E : Value → Shared → Prop) (Q : Bool → Shared → Prop), Q true s → wpAny (model prog w) A (eqBool x y) Q E s
theorem EqIn.of {prog : Program} {w : World} {A : Around} {s : Shared} {x y : Value} (h : SeqAt.EqAt A s x y true) : EqIn prog w A s x y := fun E Q q => h prog w E Q q
end L2

set_option Elab.async false
set_option linter.all false
set_option maxRecDepth 100000
set_option maxHeartbeats 1000000
/-! a != b: tuples of data and of dicts, the items equal one by one -/
namespace L2
open PySem PySem.Spec PyProof.Rows
/-- equal data, or dicts with equal entries -/
inductive SamV (K : PySem.W.Frag) (H : Hp) : V → V → Prop where
  | dat {x y : V} {d : PyData} (hx : Dp K H x d) (hy : Dp K H y d) (hl : PyData.canLay0 d = true) (hd : PyData.depth d ≤ 16) : SamV K H x y
  | dict {a b : Addr} {ks ls : List (Key × V)} (ha : H a = some (.dK ks)) (hb : H b = some (.dK ls)) (hn : ks.length = ls.length) (hp : ∀ p ∈ ks, valV ls p.1 = some p.2 ∧ flatB p.2 = true) : SamV K H (.ref a) (.ref b)
section
variable {X : Cx}
end
end L2

set_option Elab.async false
set_option linter.all false
set_option maxRecDepth 100000
set_option maxHeartbeats 1000000
/-! a != b, two equal tables -/
namespace E4
open PySem PySem.Spec PyProof.Rows L2
open C8 (Cal Mak Met InsC pe_c pe_mt pe_mt0 call_isC clsBody)
/-- what != of two tables leans on -/
structure EqP (P : Program) (w : World) (K : PySem.W.Frag) (mg : Str → Option Value) (base : Heap) (k : Nat) (C : Addr) : Prop where
  ex : ∃ (f : Addr) (fd : FuncData) (ps : List Str), PySem.W.NoNe K C f ∧ FnOk P w K mg base CX0 k f fd ps (spEq C) ∧ Binds K fd ps []
end E4

set_option Elab.async false
set_option linter.all false
set_option maxRecDepth 100000
set_option maxHeartbeats 1000000
/-! the draws of stage 3's laws: _law_purse, _law_mixed, _law_draw -/
namespace E3
open PySem PySem.Spec PyProof.Rows L2
open C8 (Cal Mak Met InsC pe_c pe_mt pe_mt0 call_isC clsBody)
def top (i : Nat) : Stmt := PySem.Challenge.pw_cellplaces_k54_whole_cells_told_back.main.body.getD i (.Pass ⟨0, 0, 0, 0⟩)
abbrev sPurse : Stmt := top 30
abbrev sMixed : Stmt := top 31
abbrev sDraw : Stmt := top 32
abbrev sLaw : Stmt := top 46
structure Bt4 (mg : Str → Option Value) : Prop where
  sum_ : mg "sum" = none
  max_ : mg "max" = none
  rng_ : mg "range" = none
  len_ : mg "len" = none
/-- a purse, with so many draws left -/
def PurseAt (H : Hp) (a : Addr) (n : Nat) : Prop := ∃ p0 p1 p2 : Int, H a = some (.lst [.int p0, .int p1, .int p2]) ∧ 0 ≤ p0 ∧ p0 < 10 ^ 480 ∧ 0 ≤ p1 ∧ p1 < 2 ^ 31 ∧ 0 ≤ p2 ∧ p2 + n ≤ 2 ^ 60
theorem PurseAt.same {H H' : Hp} {a : Addr} {n : Nat} (h : PurseAt H a n) (S : Same H H') : PurseAt H' a n :=
  let ⟨p0, p1, p2, h1, h2⟩ := h
  ⟨p0, p1, p2, S _ _ h1, h2⟩
theorem PurseAt.less {H : Hp} {a : Addr} {n m : Nat} (h : PurseAt H a n) (l : m ≤ n) : PurseAt H a m :=
  let ⟨p0, p1, p2, h1, h2, h3, h4, h5, h6, h7⟩ := h
  ⟨p0, p1, p2, h1, h2, h3, h4, h5, h6, by omega⟩
def spPurse (K : PySem.W.Frag) : Sp := fun vs H Q _ => ∃ (sc : Addr) (i : Int) (ns : List Int), vs = [.ref sc, .int i] ∧ SqL K H sc (ns.map V.int) ∧ 0 ≤ i ∧ i < 100 ∧ ∀ H' p, Same H H' → H p = none → PurseAt H' p (2 ^ 59) → Q (.ref p) H'
def spMixed : Sp := fun vs H Q _ => ∃ a b : Int, vs = [.int a, .int b] ∧ 0 ≤ a ∧ a < 2 ^ 31 ∧ 0 ≤ b ∧ b < 2 ^ 61 ∧ ∀ r : Int, 0 ≤ r → r < 2147483587 → Q (.int r) H
def spDraw : Sp := fun vs H Q _ => ∃ (a : Addr) (many : Int) (n : Nat), vs = [.ref a, .int many] ∧ PurseAt H a (n + 4) ∧ 1 ≤ many ∧ many < 2 ^ 100 ∧ ∀ r H', 0 ≤ r → r < many → PurseAt H' a n → SameB a H H' → Q (.int r) H'
theorem bits_100 {m : Int} (h0 : 1 ≤ m) (h : m < 2 ^ 100) : Builtin.Int.intBits m ≤ 100 := by
  unfold Builtin.Int.intBits
  rw [if_neg (by intro e; have := eq_of_beq e; omega)]
  have h1 : m.natAbs < 2 ^ 100 := by
    have e : ((m.natAbs : Nat) : Int) = m := Int.natAbs_of_nonneg (by omega)
    have : ((m.natAbs : Nat) : Int) < ((2 ^ 100 : Nat) : Int) := by rw [e]; exact_mod_cast h
    exact Int.ofNat_lt.mp this
  have := PySem.Flt.log2_lt_of (by decide) h1
  omega
section
variable {P : Program} {w : World} {K : PySem.W.Frag} {mg : Str → Option Value} {base : Heap}
theorem scPurse : FnScope ["_law_script", "_law_at", "_law_cell_here"] ["_law_script", "_law_at"] (defScope sPurse) := ⟨rfl, rfl, rfl, by decide +kernel, rfl, by decide +kernel, by decide +kernel⟩
theorem ok_purse {f : Addr} {fd : FuncData} (F : Fun K "_law_purse" "_law_purse" sPurse f fd) (B : Bt4 mg) : FnOk P w K mg base CX0 1 f fd ["_law_script", "_law_at"] (spPurse K) := by
  refine F.ok scPurse (fun vs H Q E h => ?_) (fun cdv A outer s H vs Q E hr h => ?_)
  · obtain ⟨sc, i, ns, rfl, _⟩ := h
    rfl
  · obtain ⟨sc, i, ns, rfl, hs, i0, i1, k⟩ := h
    refine ⟨_, pss_cons (ps_set (i := 2) scPurse.nd rfl (Or.inl rfl) (pe_callB (cr_sum rfl) (by rfl) B.sum_ (by decide +kernel) (pa_cons (pe_slice sl_listS (pv 0) (po_some (pv 1)) (po_some (pe_op op_add (pv 1) pe_int))) pa_nil)))
      (pss_one (ps_ret (pe_lstS (pa_cons (pe_op op_mod (pe_callB (call_max2 rfl) (by rfl) B.max_ (by decide +kernel) (pa_cons (pe_op op_sub (pv 2) (pe_op op_pow pe_int pe_int)) (pa_cons pe_int pa_nil))) (pe_op op_powX (pe_op op_pow pe_int pe_int) pe_int))
        (pa_cons (pe_op op_mod (pv 2) pe_int) (pa_cons (pe_op op_mul pe_int (pv 1)) pa_nil)))))), ?_⟩
    obtain ⟨ms, hms⟩ := cut_ints ns (some i) (some (i + 1))
    refine ⟨_, rfl, _, rfl, i, rfl, _, rfl, i, 1, rfl, rfl, i + 1, rfl, sc, _, rfl, hs, fun pc H1 S1 n1 h1 => ?_⟩
    rw [hms] at h1
    refine ⟨pc, ms, rfl, SqL.of h1, ?_⟩
    have c1 : CPow 10 18 := ⟨by decide, by decide, by decide⟩
    have c2 : CPow 10 60 := ⟨by decide, by decide, by decide⟩
    have c3 : CPowX ((10 : Int) ^ (60 : Int).toNat) 8 := ⟨by decide, by decide +kernel⟩
    refine ⟨_, rfl, 10, 18, rfl, rfl, c1, _, _, rfl, rfl, _, _, rfl, ?_⟩
    refine ⟨10, 60, rfl, rfl, c2, _, 8, rfl, rfl, c3, _, _, rfl, rfl, (show (0 : Int) < ((10 : Int) ^ (60 : Int).toNat) ^ (8 : Int).toNat by decide +kernel), ?_⟩
    refine ⟨_, rfl, _, _, rfl, rfl, (show (0 : Int) < 2147483629 by decide), _, rfl, _, _, rfl, rfl, .inl (by constructor <;> decide), (by show 3 ≤ sizeLine; decide), fun p H2 S2 np hp => ?_⟩
    refine k H2 p (S1.trans S2) (S1.free np) ⟨_, _, _, hp, Int.emod_nonneg _ (by decide +kernel), ?_, Int.emod_nonneg _ (by decide), ?_, by omega, by omega⟩
    · have e : ((10 : Int) ^ (60 : Int).toNat) ^ (8 : Int).toNat = 10 ^ 480 := by decide +kernel
      rw [e]
      exact Int.emod_lt_of_pos _ (by decide +kernel)
    · exact Int.lt_trans (Int.emod_lt_of_pos _ (by decide)) (by decide)
theorem scMixed : FnScope ["_law_seed", "_law_step", "_law_found"] ["_law_seed", "_law_step"] (defScope sMixed) := ⟨rfl, rfl, rfl, by decide +kernel, rfl, by decide +kernel, by decide +kernel⟩
theorem ok_mixed {f : Addr} {fd : FuncData} (F : Fun K "_law_mixed" "_law_mixed" sMixed f fd) : FnOk P w K mg base CX0 1 f fd ["_law_seed", "_law_step"] spMixed := by
  refine F.ok scMixed (fun vs H Q E h => ?_) (fun cdv A outer s H vs Q E hr h => ?_)
  · obtain ⟨a, b, rfl, _⟩ := h
    rfl
  · obtain ⟨a, b, rfl, a0, a1, b0, b1, k⟩ := h
    refine ⟨_, pss_cons (ps_set (i := 2) scMixed.nd rfl (Or.inl rfl) (pe_op op_mod (pe_op op_add (pe_op op_add (pe_op op_mul (pv 0) pe_int) (pe_op op_mul (pe_op op_mul pe_int (pv 1)) (pv 1))) (pv 1)) pe_int))
      (pss_cons (ps_set (i := 2) scMixed.nd rfl (Or.inl rfl) (pe_op op_mod (pe_op op_add (pe_op op_mul (pv 2) (pv 2)) pe_int) pe_int))
      (pss_one (ps_ret (pe_op op_mod (pe_op op_mul (pv 2) pe_int) pe_int)))), ?_⟩
    refine ⟨_, rfl, _, _, rfl, rfl, .inr (by constructor <;> decide), _, rfl, _, _, rfl, rfl, .inl (by constructor <;> decide), _, rfl, _, _, rfl, rfl, .inr ⟨by omega, by omega⟩, _, _, rfl, rfl, _, rfl, _, _, rfl, rfl, _, _, rfl, rfl, (show (0 : Int) < 2147483647 by decide), ?_⟩
    generalize hm : (a * 69069 + 104729 * b * b + b) % 2147483647 = m
    have m0 : 0 ≤ m := hm ▸ Int.emod_nonneg _ (by decide)
    have m1 : m < 2147483647 := hm ▸ Int.emod_lt_of_pos _ (by decide)
    refine ⟨_, rfl, _, rfl, _, _, rfl, rfl, .inr ⟨by omega, by omega⟩, _, _, rfl, rfl, _, _, rfl, rfl, (show (0 : Int) < 2147483629 by decide), ?_⟩
    refine ⟨_, rfl, _, _, rfl, rfl, .inr (by constructor <;> decide), _, _, rfl, rfl, (show (0 : Int) < 2147483587 by decide), ?_⟩
    exact k _ (Int.emod_nonneg _ (by decide)) (Int.emod_lt_of_pos _ (by decide))
theorem scDraw : FnScope ["_law_purse_here", "_law_many", "_law_drawn", "_law_found", "_law_piece"] ["_law_purse_here", "_law_many"] (defScope sDraw) := ⟨rfl, rfl, rfl, by decide +kernel, rfl, by decide +kernel, by decide +kernel⟩
theorem ok_draw {f : Addr} {fd : FuncData} (F : Fun K "_law_draw" "_law_draw" sDraw f fd) (B : Bt4 mg) (M : Cal P w K mg base 1 "_law_mixed" spMixed []) : FnOk P w K mg base CX0 2 f fd ["_law_purse_here", "_law_many"] spDraw := by
  refine F.ok scDraw (fun vs H Q E h => ?_) (fun cdv A outer s H vs Q E hr h => ?_)
  · obtain ⟨a, many, n, rfl, _⟩ := h
    rfl
  · obtain ⟨a, many, n, rfl, ⟨p0, p1, p2, hp, a0, a1, b0, b1, c0, c1⟩, m1, m2, k⟩ := h
    refine ⟨_, pss_cons (ps_if (pt_cmpR op_gt (pe_ix ix_list (pv 0) pe_int (fun _ _ => rfl)) pe_int (by rfl))
        (pss_cons (ps_set (i := 2) scDraw.nd rfl (Or.inl rfl) (pe_op op_mod (pe_ix ix_list (pv 0) pe_int (fun _ _ => rfl)) (pv 1)))
        (pss_cons (ps_asg (pe_op op_fdivW (pe_ix ix_list (pv 0) pe_int (fun _ _ => rfl)) (pv 1)) (pg_sub (pv 0) pe_int set_list))
        (pss_one (ps_ret (pv 2))))) pss_nil)
      (pss_cons (ps_set (i := 3) scDraw.nd rfl (Or.inl rfl) pe_int)
      (pss_cons (ps_for PassesOwn.never rfl (pi_range1 rfl B.rng_ (pa_cons (pe_op op_add pe_int (pe_op op_fdiv (pe_bits (pv 1)) pe_int)) pa_nil)) (pg_name (i := 4) scDraw.nd rfl (Or.inl rfl))
        (pss_cons (ps_asg (pe_op op_add (pe_ix ix_list (pv 0) pe_int (fun _ _ => rfl)) pe_int) (pg_sub (pv 0) pe_int set_list))
        (pss_one (ps_set (i := 3) scDraw.nd rfl (Or.inl rfl) (pe_op op_add (pe_op op_mul (pv 3) pe_int) (pe_c M hr (by decide) rfl (pa_cons (pe_ix ix_list (pv 0) pe_int (fun _ _ => rfl)) (pa_cons (pe_ix ix_list (pv 0) pe_int (fun _ _ => rfl)) pa_nil))))))))
      (pss_one (ps_ret (pe_op op_mod (pv 3) (pv 1)))))), ?_⟩
    have ml : CDivW p0 many := by
      refine ⟨by omega, ?_⟩
      have h1 := bits_100 m1 m2
      unfold Builtin.Int.intBits at h1
      rw [if_neg (by intro e; have := eq_of_beq e; omega)] at h1
      omega
    refine ⟨_, rfl, a, _, 0, _, rfl, rfl, SqL.of hp, rfl, _, _, rfl, rfl, _, rfl, iteD (fun h => ?_) (fun h => ?_)⟩
    · refine ⟨_, rfl, a, _, 0, _, rfl, rfl, SqL.of hp, rfl, _, rfl, _, _, rfl, rfl, (show 0 < many by omega), ?_⟩
      refine ⟨_, rfl, a, _, 0, _, rfl, rfl, SqL.of hp, rfl, _, rfl, _, _, rfl, rfl, ml, _, rfl, a, _, 0, 0, rfl, rfl, hp, rfl, ?_⟩
      refine ⟨_, rfl, k _ _ (Int.emod_nonneg _ (by omega)) (Int.emod_lt_of_pos _ (by omega)) ⟨p0 / many, p1, p2, upd_same, Int.ediv_nonneg a0 (by omega), Int.lt_of_le_of_lt (Int.ediv_le_self _ a0) a1, b0, b1, c0, by omega⟩ fun c o nc e => by rw [upd_ne nc]; exact e⟩
    · dsimp only [tNext]
      refine seq_asg ?_
      dsimp only [tC]
      have bb := bits_100 m1 m2
      have jn : ((1 + ((Builtin.Int.intBits many : Nat) : Int) / 28)).toNat ≤ 4 := by omega
      refine ⟨_, rfl, many, rfl, _, 28, rfl, rfl, (by constructor <;> decide), _, _, rfl, rfl, _, rfl, ?_⟩
      refine ⟨by omega, by omega, for_it (walk_range (n := (1 + ((Builtin.Int.intBits many : Nat) : Int) / 28).toNat)) (fun i σ' H' => (∃ fnd v, σ' = [some (.ref a), some (.int many), none, some (.int fnd), v]) ∧ SameB a H H' ∧ H' a = some (.lst [.int p0, .int p1, .int (p2 + (i : Nat))])) ⟨⟨0, none, rfl⟩, SameB.refl _ _, by rw [hp]; simp⟩ (fun _ _ _ _ _ => trivial) ?_ ?_⟩
      · rintro i x σ' H1 H2 hi ⟨⟨fnd, v, rfl⟩, S, hp'⟩ ⟨rfl, rfl⟩
        have hi4 : i < 4 := Nat.lt_of_lt_of_le hi jn
        refine ⟨_, rfl, a, _, 2, _, rfl, rfl, SqL.of hp', rfl, _, _, rfl, rfl, _, rfl, a, _, 2, 2, rfl, rfl, hp', rfl, ?_⟩
        have hq : (upd H2 a (.lst [.int p0, .int p1, .int (p2 + (i : Nat) + 1)])) a = some (.lst [.int p0, .int p1, .int (p2 + (i : Nat) + 1)]) := upd_same
        have sq : SqL K (upd H2 a (.lst [.int p0, .int p1, .int (p2 + (i : Nat) + 1)])) a [.int p0, .int p1, .int (p2 + (i : Nat) + 1)] := SqL.of hq
        refine ⟨_, rfl, _, _, rfl, rfl, .inr (by constructor <;> decide), _, rfl, a, _, 1, _, rfl, rfl, sq, rfl, _, rfl, a, _, 2, _, rfl, rfl, sq, rfl, p1, p2 + (i : Nat) + 1, rfl, b0, b1, by omega, by omega, fun r r0 r1 => ⟨_, _, rfl, rfl, ⟨_, _, rfl⟩, S.upd, ?_⟩⟩
        rw [upd_same]
        have e : p2 + ((i + 1 : Nat) : Int) = p2 + (i : Nat) + 1 := by omega
        rw [e]
        rfl
      · rintro σ' H1 ⟨⟨fnd, v, rfl⟩, S, hp'⟩
        dsimp only
        exact ⟨_, rfl, _, rfl, _, _, rfl, rfl, (show 0 < many by omega), k _ _ (Int.emod_nonneg _ (by omega)) (Int.emod_lt_of_pos _ (by omega)) ⟨p0, p1, _, hp', a0, a1, b0, b1, by omega, by omega⟩ S⟩
end
end E3

set_option Elab.async false
set_option linter.all false
set_option maxRecDepth 100000
set_option maxHeartbeats 1000000
/-! the law's draws: one of, shuffled, letters, names -/
namespace E4
open PySem PySem.Spec PyProof.Rows L2
open C8 (Cal Mak Met InsC pe_c pe_mt pe_mt0 call_isC clsBody)
open E3 (PurseAt spPurse spMixed spDraw)
abbrev sOneOf : Stmt := top 33
abbrev sShuffled : Stmt := top 34
abbrev sLetters : Stmt := top 35
abbrev sNamesL : Stmt := top 36
theorem purse_ne {K : PySem.W.Frag} {H : Hp} {p a : Addr} {n : Nat} {xs : List Str} (h : PurseAt H p n) (hl : H a = some (.lst (xs.map V.str))) : a ≠ p := by
  obtain ⟨p0, p1, p2, e, _⟩ := h
  rintro rfl
  rw [e] at hl
  cases xs with
  | nil => cases hl
  | cons x r =>
    have z := HO.lst.inj (Option.some.inj hl)
    cases (List.cons.inj z).1
def spOneOf (K : PySem.W.Frag) : Sp := fun vs H Q _ => ∃ (a l : Addr) (xs : List V) (n : Nat), vs = [.ref a, .ref l] ∧ PurseAt H a (n + 4) ∧ SqL K H l xs ∧ l ≠ a ∧ 1 ≤ xs.length ∧ xs.length ≤ 1000 ∧
  ∀ (i : Nat) (x : V) (H' : Hp), xs[i]? = some x → PurseAt H' a n → SameB a H H' → Q x H'
def spShuf (K : PySem.W.Frag) : Sp := fun vs H Q _ => ∃ (a l : Addr) (xs : List Str) (n : Nat), vs = [.ref a, .ref l] ∧ PurseAt H a (n + 4 * xs.length) ∧ H l = some (.lst (xs.map V.str)) ∧ xs.length ≤ 2000 ∧
  ∀ (ys : List Str) q H', ys.Perm xs → H' q = some (.lst (ys.map V.str)) → H q = none → PurseAt H' a n → SameB a H H' → Q (.ref q) H'
section
variable {P : Program} {w : World} {K : PySem.W.Frag} {mg : Str → Option Value} {base : Heap}
theorem atI_some {xs : List V} {r : Int} (h0 : 0 ≤ r) (h1 : r < xs.length) : ∃ x, atI xs r = some x ∧ xs[r.toNat]? = some x := by
  have hx : xs[r.toNat]? = some xs[r.toNat] := List.getElem?_eq_getElem (by omega)
  refine ⟨_, ?_, hx⟩
  unfold atI ixN
  rw [if_pos h0, if_pos h1]
  exact hx
theorem scOneOf : FnScope ["_law_purse_here", "_law_some"] ["_law_purse_here", "_law_some"] (defScope sOneOf) := ⟨rfl, rfl, rfl, by decide +kernel, rfl, by decide +kernel, by decide +kernel⟩
theorem ok_oneOf {f : Addr} {fd : FuncData} (F : Fun K "_law_one_of" "_law_one_of" sOneOf f fd) (B : Bl mg) (D : Cal P w K mg base 2 "_law_draw" spDraw []) : FnOk P w K mg base CX0 3 f fd ["_law_purse_here", "_law_some"] (spOneOf K) := by
  refine F.ok scOneOf (fun vs H Q E h => ?_) (fun cdv A outer s H vs Q E hr h => ?_)
  · obtain ⟨a, l, xs, n, rfl, _⟩ := h
    rfl
  · obtain ⟨a, l, xs, n, rfl, hp, hl, ne, l1, l2, k⟩ := h
    refine ⟨_, pss_one (ps_ret (pe_ix ix_list (pv 1) (pe_c D hr (by decide) rfl (pa_cons (pv 0) (pa_cons (pe_callB call_len_seq (by rfl) B.len_ PySem.boot_len (pa_cons (pv 1) pa_nil)) pa_nil))) (fun _ _ => rfl))), ?_⟩
    refine ⟨_, rfl, _, rfl, _, rfl, l, xs, rfl, .inl hl, a, (xs.length : Int), n, rfl, hp, by omega, by omega, fun r H1 r0 r1 hp1 S1 => ?_⟩
    obtain ⟨x, e1, e2⟩ := atI_some r0 r1
    exact ⟨l, xs, r, x, rfl, rfl, hl.sameB S1 ne, e1, k _ _ _ e2 hp1 S1⟩
theorem scShuf : FnScope ["_law_purse_here", "_law_some", "_law_found", "_law_item"] ["_law_purse_here", "_law_some"] (defScope sShuffled) := ⟨rfl, rfl, rfl, by decide +kernel, rfl, by decide +kernel, by decide +kernel⟩
theorem ok_shuf {f : Addr} {fd : FuncData} (F : Fun K "_law_shuffled" "_law_shuffled" sShuffled f fd) (B : Bl mg) (D : Cal P w K mg base 2 "_law_draw" spDraw []) : FnOk P w K mg base CX0 3 f fd ["_law_purse_here", "_law_some"] (spShuf K) := by
  refine F.ok scShuf (fun vs H Q E h => ?_) (fun cdv A outer s H vs Q E hr h => ?_)
  · obtain ⟨a, l, xs, n, rfl, _⟩ := h
    rfl
  · obtain ⟨a, l, xs, n, rfl, hp, hl, l2, k⟩ := h
    refine ⟨_, pss_cons (ps_set (i := 2) scShuf.nd rfl (Or.inl rfl) (pe_lstS pa_nil))
      (pss_cons (ps_for PassesOwn.never rfl (pi_list (pv 1)) (pg_name (i := 3) scShuf.nd rfl (Or.inl rfl))
        (pss_one (ps_expr (pe_bm PySem.F.plainAttrs_list PySem.F.slot_list_insert PySem.F.type_list_insert mt_insert (pv 2) (pa_cons (pe_c D hr (by decide) rfl (pa_cons (pv 0) (pa_cons (pe_op op_add (pe_callB call_len_seq (by rfl) B.len_ PySem.boot_len (pa_cons (pv 2) pa_nil)) pe_int) pa_nil))) (pa_cons (pv 3) pa_nil))))))
      (pss_one (ps_ret (pv 2)))), ?_⟩
    refine seq_asg ⟨by show 0 ≤ sizeLine; decide, fun d0 H1 S1 n1 h1 => ?_⟩
    have nla : l ≠ a := purse_ne (K := K) hp hl
    have nda : d0 ≠ a := by
      obtain ⟨p0, p1, p2, e, _⟩ := hp
      exact (ne_of_none e n1).symm
    have ndl : l ≠ d0 := ne_of_none hl n1
    refine ⟨_, rfl, l, rfl, ⟨_, SqL.of (S1 _ _ hl)⟩, for_it (walk_list (xs := xs.map V.str)) (fun i σ' H' => ∃ u ys, σ' = [some (.ref a), some (.ref l), some (.ref d0), u] ∧ ys.Perm (xs.take i) ∧ H' d0 = some (.lst (ys.map V.str)) ∧ PurseAt H' a (n + 4 * (xs.length - i)) ∧ ∀ c o, c ≠ a → c ≠ d0 → H1 c = some o → H' c = some o) ⟨none, [], rfl, List.Perm.refl _, h1, (hp.same S1), fun _ _ _ _ e => e⟩ (fun i σ' H' _ q => let ⟨_, _, _, _, _, _, S⟩ := q; SqL.of (S _ _ nla ndl (S1 _ _ hl))) ?_ ?_⟩
    · rintro i v σ' H2 H3 hi ⟨u, ys, rfl, pm, hd, hpu, S2⟩ ⟨rfl, hxi⟩
      rw [List.length_map] at hi
      rw [List.getElem?_map] at hxi
      obtain ⟨z, hz, rfl⟩ := Option.map_eq_some_iff.mp hxi
      have ly : ys.length = i := by rw [pm.length_eq, List.length_take]; omega
      refine ⟨_, rfl, .inl ⟨rfl, _, SqL.of hd⟩, ?_⟩
      have lm : (ys.map V.str).length = i := by rw [List.length_map, ly]
      refine ⟨_, rfl, _, rfl, d0, _, rfl, .inl (SqL.of hd), _, _, rfl, rfl, a, _, n + 4 * (xs.length - (i + 1)), rfl, hpu.less (by omega), by omega, by rw [lm]; omega, fun r H4 r0 r1 hp4 S4 => ?_⟩
      have hd4 := S4 _ _ nda hd
      refine ⟨_, rfl, d0, _, r, _, rfl, rfl, hd4, by rw [lm, sizeLine_eq]; omega, r0, by rw [lm] at r1; omega, ?_⟩
      refine ⟨_, ys.take r.toNat ++ [z] ++ ys.drop r.toNat, rfl, ?_, ?_, ?_, fun c o nc nd e => ?_⟩
      · rw [take_snoc hz]
        refine List.Perm.trans ?_ (pm.append_right [z])
        rw [List.append_assoc]
        refine List.perm_middle.trans ?_
        show (z :: (List.take r.toNat ys ++ List.drop r.toNat ys)).Perm (ys ++ [z])
        rw [List.take_append_drop]
        exact (List.perm_append_comm (l₁ := [z]) (l₂ := ys))
      · rw [upd_same, List.map_append, List.map_append, List.map_take, List.map_drop]
        rfl
      · obtain ⟨p0, p1, p2, e, r⟩ := hp4
        exact ⟨p0, p1, p2, by rw [upd_ne (Ne.symm nda)]; exact e, r⟩
      · rw [upd_ne nd]
        exact S4 _ _ nc (S2 _ _ nc nd e)
    · rintro σ' H2 ⟨u, ys, rfl, pm, hd, hpu, S2⟩
      rw [List.length_map, List.take_length] at pm
      rw [List.length_map] at hpu
      refine ⟨_, rfl, k ys d0 H2 pm hd n1 (hpu.less (by omega)) fun c o nc e => S2 c o nc (ne_of_none e n1) (S1 _ _ e)⟩
def L8a : List Str := ["m", "n", "n", "mn", "p", "abc", "height", "nm"]
def L8 : List Str := L8a ++ (["x", "y"] : List Str)
def N8 : List Str := ["r", "c", "z", "kk", "a", "page", "columnes", "abcdefghij"]
def spLetters : Sp := fun vs H Q _ => ∃ (a : Addr) (m n : Nat), vs = [.ref a, .int (m : Int)] ∧ m ≤ 3 ∧ PurseAt H a (n + 20) ∧
  ∀ (zs : List Str) q H', (∀ z ∈ zs, z ∈ L8) → zs.length ≤ m → H' q = some (.lst (zs.map V.str)) → H q = none → PurseAt H' a n → SameB a H H' → Q (.ref q) H'
def spNamesL : Sp := fun vs H Q _ => ∃ (a : Addr) (m n : Nat), vs = [.ref a, .int (m : Int)] ∧ 1 ≤ m ∧ m ≤ 8 ∧ PurseAt H a (n + 40) ∧
  ∀ (zs : List Str) q H', (∀ z ∈ zs, z ∈ N8) → zs.Nodup → zs.length = m → H' q = some (.lst (zs.map V.str)) → H q = none → PurseAt H' a n → SameB a H H' → Q (.ref q) H'
theorem scLetters : FnScope ["_law_purse_here", "_law_most", "_law_found", "_law_turn"] ["_law_purse_here", "_law_most"] (defScope sLetters) := ⟨rfl, rfl, rfl, by decide +kernel, rfl, by decide +kernel, by decide +kernel⟩
theorem ok_letters {f : Addr} {fd : FuncData} (F : Fun K "_law_letters" "_law_letters" sLetters f fd) (B4 : E3.Bt4 mg) (D : Cal P w K mg base 2 "_law_draw" spDraw []) (O : Cal P w K mg base 3 "_law_one_of" (spOneOf K) []) : FnOk P w K mg base CX0 4 f fd ["_law_purse_here", "_law_most"] spLetters := by
  refine F.ok scLetters (fun vs H Q E h => ?_) (fun cdv A outer s H vs Q E hr h => ?_)
  · obtain ⟨a, m, n, rfl, _⟩ := h
    rfl
  · obtain ⟨a, m, n, rfl, lm, hp, k⟩ := h
    refine ⟨_, pss_cons (ps_set (i := 2) scLetters.nd rfl (Or.inl rfl) (pe_lstS pa_nil))
      (pss_cons (ps_for PassesOwn.never rfl (pi_range1 rfl B4.rng_ (pa_cons (pe_c D hr (by decide) rfl (pa_cons (pv 0) (pa_cons (pe_op op_add (pv 1) pe_int) pa_nil))) pa_nil)) (pg_name (i := 3) scLetters.nd rfl (Or.inl rfl))
        (pss_one (ps_expr (pe_bm PySem.F.plainAttrs_list PySem.F.slot_list_append PySem.F.type_list_append mt_append (pv 2) (pa_cons (pe_c O hr (by decide) rfl (pa_cons (pv 0) (pa_cons (pe_lstS (pa_cons pe_str (pa_cons pe_str (pa_cons pe_str (pa_cons pe_str (pa_cons pe_str (pa_cons pe_str (pa_cons pe_str (pa_cons pe_str pa_nil))))))))) pa_nil))) pa_nil)))))
      (pss_one (ps_ret (pv 2)))), ?_⟩
    refine seq_asg ⟨by show 0 ≤ sizeLine; decide, fun d0 H1 S1 n1 h1 => ?_⟩
    have nda : d0 ≠ a := by
      obtain ⟨p0, p1, p2, e, _⟩ := hp
      exact (ne_of_none e n1).symm
    refine ⟨_, rfl, _, rfl, _, _, rfl, rfl, a, _, n + 16, rfl, (hp.same S1).less (by omega), by omega, by omega, fun r H2 r0 r1 hp2 S2 => ?_⟩
    have hd2 := S2 _ _ nda h1
    refine ⟨r, rfl, by omega, by omega, for_it (walk_range (n := r.toNat)) (fun i σ' H' => ∃ u zs, σ' = [some (.ref a), some (.int m), some (.ref d0), u] ∧ (∀ z ∈ zs, z ∈ L8) ∧ zs.length = i ∧ H' d0 = some (.lst (zs.map V.str)) ∧ PurseAt H' a (n + 4 * (r.toNat - i)) ∧ ∀ c o, c ≠ a → c ≠ d0 → H1 c = some o → H' c = some o) ⟨none, [], rfl, fun _ h => absurd h List.not_mem_nil, rfl, hd2, hp2.less (by omega), fun c o nc _ e => S2 _ _ nc e⟩ (fun _ _ _ _ _ => trivial) ?_ ?_⟩
    · rintro i x σ' H3 H4 hi ⟨u, zs, rfl, hz, lz, hd, hpu, S3⟩ ⟨rfl, rfl⟩
      refine ⟨_, rfl, .inl ⟨rfl, _, SqL.of hd⟩, ?_⟩
      refine ⟨_, rfl, by show 8 ≤ sizeLine; decide, fun p H5 S5 n5 h5 => ?_⟩
      have npa : p ≠ a := by
        obtain ⟨p0, p1, p2, e, _⟩ := hpu
        exact (ne_of_none e n5).symm
      refine ⟨a, p, L8a.map V.str, n + 4 * (r.toNat - (i + 1)), rfl, (hpu.same S5).less (by omega), SqL.of h5, npa, by decide, by decide, fun j x H6 hx hp6 S6 => ?_⟩
      rw [List.getElem?_map] at hx
      obtain ⟨z, hzj, rfl⟩ := Option.map_eq_some_iff.mp hx
      have hd6 := S6 _ _ nda (S5 _ _ hd)
      refine ⟨d0, _, _, rfl, rfl, hd6, by rw [List.length_map, lz, sizeLine_eq]; omega, ?_⟩
      refine ⟨_, zs ++ [z], rfl, ?_, by rw [List.length_append, lz]; rfl, by rw [upd_same, List.map_append]; rfl, ?_, fun c o nc nd e => ?_⟩
      · intro y hy
        rcases List.mem_append.mp hy with q | q
        · exact hz y q
        · rw [List.mem_singleton.mp q]
          exact List.mem_append.mpr (.inl (List.mem_of_getElem? hzj))
      · obtain ⟨p0, p1, p2, e, r⟩ := hp6
        exact ⟨p0, p1, p2, by rw [upd_ne (Ne.symm nda)]; exact e, r⟩
      · rw [upd_ne nd]
        exact S6 _ _ nc (S5 _ _ (S3 _ _ nc nd e))
    · rintro σ' H3 ⟨u, zs, rfl, hz, lz, hd, hpu, S3⟩
      exact ⟨_, rfl, k zs d0 H3 hz (by omega) hd n1 (hpu.less (by omega)) fun c o nc e => S3 c o nc (ne_of_none e n1) (S1 _ _ e)⟩
theorem scNamesL : FnScope ["_law_purse_here", "_law_many"] ["_law_purse_here", "_law_many"] (defScope sNamesL) := ⟨rfl, rfl, rfl, by decide +kernel, rfl, by decide +kernel, by decide +kernel⟩
theorem ok_namesL {f : Addr} {fd : FuncData} (F : Fun K "_law_names" "_law_names" sNamesL f fd) (Sh : Cal P w K mg base 3 "_law_shuffled" (spShuf K) []) : FnOk P w K mg base CX0 4 f fd ["_law_purse_here", "_law_many"] spNamesL := by
  refine F.ok scNamesL (fun vs H Q E h => ?_) (fun cdv A outer s H vs Q E hr h => ?_)
  · obtain ⟨a, m, n, rfl, _⟩ := h
    rfl
  · obtain ⟨a, m, n, rfl, l1, lm, hp, k⟩ := h
    refine ⟨_, pss_one (ps_ret (pe_slice sl_listS (pe_c Sh hr (by decide) rfl (pa_cons (pv 0) (pa_cons (pe_lstS (pa_cons pe_str (pa_cons pe_str (pa_cons pe_str (pa_cons pe_str (pa_cons pe_str (pa_cons pe_str (pa_cons pe_str (pa_cons pe_str pa_nil))))))))) pa_nil))) po_none (po_some (pv 1)))), ?_⟩
    refine ⟨_, rfl, by show 8 ≤ sizeLine; decide, fun p H1 S1 n1 h1 => ?_⟩
    refine ⟨a, p, N8, n, rfl, (hp.same S1).less (by show n + 32 ≤ n + 40; omega), h1, by decide, fun ys q H2 pm hq nq hp2 S2 => ?_⟩
    have ly : ys.length = 8 := pm.length_eq
    refine ⟨_, rfl, m, rfl, q, _, rfl, SqL.of hq, fun t H3 S3 n3 h3 => ?_⟩
    have ec : cutV (ys.map V.str) none (some (m : Int)) = (ys.take m).map V.str := by
      unfold cutV
      rw [HT.sIx_nat, HT.sIx_none, List.length_map, ly, Nat.min_eq_left lm, List.map_take]
      rfl
    rw [ec] at h3
    have SB : SameB a H H2 := fun c o nc e => S2 _ _ nc (S1 _ _ e)
    have hn : H t = none := by
      cases e : H t with
      | none => rfl
      | some o =>
        by_cases c : t = a
        · subst c
          obtain ⟨p0, p1, p2, e1, _⟩ := hp2
          rw [n3] at e1
          cases e1
        · have := SB _ _ c e
          rw [n3] at this
          cases this
    refine k (ys.take m) t H3 (fun z hz => pm.mem_iff.mp (List.mem_of_mem_take hz)) ((pm.nodup_iff.mpr (by decide)).sublist (List.take_sublist _ _)) (by rw [List.length_take]; omega) h3 hn (hp2.same S3) fun c o nc e => S3 _ _ (SB _ _ nc e)
end
end E4

set_option Elab.async false
set_option linter.all false
set_option maxRecDepth 100000
set_option maxHeartbeats 1000000
/-! _law_chain -/
namespace E4
open PySem PySem.Spec PyProof.Rows L2
open C8 (Cal Mak Met InsC pe_c pe_mt pe_mt0 call_isC clsBody)
open E3 (PurseAt spPurse spMixed spDraw)
abbrev sChain : Stmt := top 37
theorem purse_ref {H : Hp} {p a : Addr} {n : Nat} {ts : List Addr} (h : PurseAt H p n) (hl : H a = some (.lst (ts.map V.ref))) : a ≠ p := by
  obtain ⟨p0, p1, p2, e, _⟩ := h
  rintro rfl
  rw [e] at hl
  cases ts with
  | nil => cases hl
  | cons x r =>
    have z := HO.lst.inj (Option.some.inj hl)
    cases (List.cons.inj z).1
theorem purse_str {H : Hp} {p a : Addr} {n : Nat} {xs : List Str} (h : PurseAt H p n) (hl : H a = some (.lst (xs.map V.str))) : a ≠ p := by
  obtain ⟨p0, p1, p2, e, _⟩ := h
  rintro rfl
  rw [e] at hl
  cases xs with
  | nil => cases hl
  | cons x r =>
    have z := HO.lst.inj (Option.some.inj hl)
    cases (List.cons.inj z).1
theorem purse_none {H : Hp} {p a : Addr} {n : Nat} (h : PurseAt H p n) (hn : H a = none) : a ≠ p := by
  obtain ⟨p0, p1, p2, e, _⟩ := h
  exact (ne_of_none e hn).symm
theorem purse_upd {H : Hp} {p D : Addr} {n : Nat} {o : HO} (h : PurseAt H p n) (ne : D ≠ p) : PurseAt (upd H D o) p n := by
  obtain ⟨p0, p1, p2, e, r⟩ := h
  exact ⟨p0, p1, p2, by rw [upd_ne (Ne.symm ne)]; exact e, r⟩
theorem purse_tup {H : Hp} {p a : Addr} {n : Nat} {xs : List V} (h : PurseAt H p n) (hl : H a = some (.tup xs)) : a ≠ p := by
  obtain ⟨p0, p1, p2, e, _⟩ := h
  rintro rfl
  rw [e] at hl
  cases hl
theorem SdAt.purse {H H' : Hp} {p t : Addr} {n : Nat} {x : Sd} (h : SdAt H t x) (hp : PurseAt H p n) (S : SameB p H H') : SdAt H' t x :=
  let ⟨a, b, h1, h2, h3⟩ := h
  ⟨a, b, S _ _ (purse_tup hp h1) h1, S _ _ (purse_str hp h2) h2, S _ _ (purse_str hp h3) h3⟩
theorem SdsAt.purse {H H' : Hp} {p : Addr} {n : Nat} {ts : List Addr} {xs : List Sd} (h : SdsAt H ts xs) (hp : PurseAt H p n) (S : SameB p H H') : SdsAt H' ts xs := h.imp fun _ _ _ q => q.purse hp S
/-- what the law's sides are made of -/
def RowOk (x : Sd) : Prop := (∀ z ∈ x.2.1, z ∈ L8) ∧ (∀ z ∈ x.2.2, z ∈ L8) ∧ x.2.1.length ≤ 3 ∧ x.2.2.length ≤ 10
theorem let_L8 : ∀ z ∈ L8, LetOk z := by
  intro z hz
  have : (L8.all fun z => decide (1 ≤ z.length) && decide (z.length ≤ 10) && z.cps.toList.all fun c => decide (97 ≤ c) && decide (c ≤ 122)) = true := by decide +kernel
  have h := List.all_eq_true.mp this z hz
  simp only [Bool.and_eq_true, decide_eq_true_eq, List.all_eq_true] at h
  exact ⟨h.1.1, h.1.2, h.2⟩
theorem let_N8 : ∀ z ∈ N8, LetOk z := by
  intro z hz
  have : (N8.all fun z => decide (1 ≤ z.length) && decide (z.length ≤ 10) && z.cps.toList.all fun c => decide (97 ≤ c) && decide (c ≤ 122)) = true := by decide +kernel
  have h := List.all_eq_true.mp this z hz
  simp only [Bool.and_eq_true, decide_eq_true_eq, List.all_eq_true] at h
  exact ⟨h.1.1, h.1.2, h.2⟩
theorem apart : ∀ z ∈ L8, z ∉ N8 := by decide +kernel
theorem rows_ok {xs : List Sd} {names : List Str} (h1 : xs.map (·.1) = names) (h2 : ∀ z ∈ names, z ∈ N8) (nd : names.Nodup) (hr : ∀ x ∈ xs, RowOk x) (ne : xs ≠ []) (hl : xs.length ≤ 8) : SdsOk xs := by
  have nm : ∀ x ∈ xs, x.1 ∈ N8 := fun x hx => h2 _ (by rw [← h1]; exact List.mem_map.mpr ⟨x, hx, rfl⟩)
  refine ⟨ne, fun x hx => ?_, by rw [h1]; exact nd, fun x hx y hy z hz e => ?_, by omega⟩
  · obtain ⟨a, b, c, d⟩ := hr x hx
    exact ⟨let_N8 _ (nm x hx), fun z hz => let_L8 _ (a z hz), fun z hz => let_L8 _ (b z hz), by omega, by omega⟩
  · obtain ⟨a, b, _, _⟩ := hr x hx
    have : z ∈ L8 := hz.elim (a z) (b z)
    exact apart z this (by rw [e]; exact nm y hy)
def spChain : Sp := fun vs H Q _ => ∃ (a : Addr) (many : Nat) (often : Int) (n : Nat), vs = [.ref a, .int (many : Int), .int often] ∧ 1 ≤ many ∧ many ≤ 8 ∧ 1 ≤ often ∧ often < 2 ^ 100 ∧ PurseAt H a (n + 4000) ∧
  ∀ l ts xs H', H' l = some (.lst (ts.map V.ref)) → SdsAt H' ts xs → SdsOk xs → (∀ x ∈ xs, RowOk x) → xs.length = many → (∀ x ∈ xs, x.1 ∈ N8) → H l = none → PurseAt H' a n → SameB a H H' → Q (.ref l) H'
section
variable {P : Program} {w : World} {K : PySem.W.Frag} {mg : Str → Option Value} {base : Heap}
theorem scChain : FnScope ["_law_purse_here", "_law_many", "_law_often", "_law_rows", "_law_due", "_law_word", "_law_extra", "_law_span", "_law_step"] ["_law_purse_here", "_law_many", "_law_often"] (defScope sChain) := ⟨rfl, rfl, rfl, by decide +kernel, rfl, by decide +kernel, by decide +kernel⟩
theorem ok_chain {f : Addr} {fd : FuncData} (F : Fun K "_law_chain" "_law_chain" sChain f fd) (B : Bl mg) (D : Cal P w K mg base 2 "_law_draw" spDraw []) (Sh : Cal P w K mg base 3 "_law_shuffled" (spShuf K) []) (Le : Cal P w K mg base 4 "_law_letters" spLetters []) (Na : Cal P w K mg base 4 "_law_names" spNamesL []) :
    FnOk P w K mg base CX0 5 f fd ["_law_purse_here", "_law_many", "_law_often"] spChain := by
  refine F.ok scChain (fun vs H Q E h => ?_) (fun cdv A outer s H vs Q E hr h => ?_)
  · obtain ⟨a, m, o, n, rfl, _⟩ := h
    rfl
  · obtain ⟨a, many, often, n, rfl, m1, m8, o1, o2, hp, k⟩ := h
    refine ⟨_, pss_cons (ps_par (i := 3) (j := 4) (by rfl) scChain.nd rfl rfl (by decide) rfl rfl (pa_cons (pe_lstS pa_nil) (pa_cons (pe_lstS pa_nil) pa_nil)) (by rfl))
      (pss_cons (ps_for PassesOwn.never rfl (pi_list (pe_c Na hr (by decide) rfl (pa_cons (pv 0) (pa_cons (pv 1) pa_nil)))) (pg_name (i := 5) scChain.nd rfl (Or.inl rfl))
        (pss_cons (ps_set (i := 6) scChain.nd rfl (Or.inl rfl) (pe_ifExp (pt_cmpR op_eq (pe_c D hr (by decide) rfl (pa_cons (pv 0) (pa_cons (pv 2) pa_nil))) pe_int (by rfl)) (pe_c Le hr (by decide) rfl (pa_cons (pv 0) (pa_cons pe_int pa_nil))) (pe_lstS pa_nil)))
        (pss_cons (ps_set (i := 7) scChain.nd rfl (Or.inl rfl) (pe_c Le hr (by decide) rfl (pa_cons (pv 0) (pa_cons (pe_ix ix_list (pe_lstS (pa_cons pe_int (pa_cons pe_int (pa_cons pe_int pa_nil)))) (pe_c D hr (by decide) rfl (pa_cons (pv 0) (pa_cons pe_int pa_nil))) (fun _ _ => rfl)) pa_nil))))
        (pss_cons (ps_set (i := 8) scChain.nd rfl (Or.inl rfl) (pe_c Sh hr (by decide) rfl (pa_cons (pv 0) (pa_cons (pe_op op_catS (pv 4) (pv 6)) pa_nil))))
        (pss_cons (ps_if (pt_cmpR op_gt (pe_callB call_len_seq (by rfl) B.len_ PySem.boot_len (pa_cons (pv 8) pa_nil)) pe_int (by rfl)) (pss_one (ps_par (i := 7) (j := 8) (by rfl) scChain.nd rfl rfl (by decide) rfl rfl (pa_cons (pe_lstS pa_nil) (pa_cons (pe_lstS pa_nil) pa_nil)) (by rfl))) pss_nil)
        (pss_cons (ps_expr (pe_bm PySem.F.plainAttrs_list PySem.F.slot_list_append PySem.F.type_list_append mt_append (pv 3) (pa_cons (pe_tupS (pa_cons (pv 5) (pa_cons (pv 7) (pa_cons (pv 8) pa_nil)))) pa_nil)))
        (pss_one (ps_set (i := 4) scChain.nd rfl (Or.inl rfl) (pe_ifExp (pt_cmpR (op_neD hr.units) (pv 7) (pe_lstS pa_nil) (by rfl)) (pe_slice sl_listS (pe_op op_catS (pv 8) (pv 7)) po_none (po_some pe_int)) (pv 4))))))))))
      (pss_one (ps_ret (pv 3)))), ?_⟩
    refine ⟨by show 0 ≤ sizeLine; decide, fun rl H1 S1 n1 h1 => ⟨by show 0 ≤ sizeLine; decide, fun du0 H2 S2 n2 h2 => ?_⟩⟩
    refine ⟨_, _, rfl, ?_⟩
    dsimp only
    have hp2 := (hp.same S1).same S2
    have hrl2 := S2 _ _ h1
    have nra : rl ≠ a := purse_none hp n1
    refine ⟨_, rfl, _, rfl, a, many, n + 3900, rfl, m1, m8, hp2.less (by omega), fun names nl H3 hn nd ln hnl nnl hp3 S3 => ?_⟩
    have nnr : nl ≠ rl := (ne_of_none hrl2 nnl).symm
    have nnd : du0 ≠ rl := (ne_of_none h1 n2).symm
    have hd3 := S3 _ _ (purse_str (xs := []) hp2 h2) h2
    have hrl3 := S3 _ _ nra hrl2
    refine ⟨nl, rfl, ⟨_, SqL.of hnl⟩, for_it (walk_list (xs := names.map V.str)) (fun i σ' H' => ∃ du dz ts xs u5 u6 u7 u8, σ' = [some (.ref a), some (.int many), some (.int often), some (.ref rl), some (.ref du), u5, u6, u7, u8] ∧ H' du = some (.lst (dz.map V.str)) ∧ (∀ z ∈ dz, z ∈ L8) ∧ dz.length ≤ 6 ∧ du ≠ rl ∧
        H' rl = some (.lst (ts.map V.ref)) ∧ SdsAt H' ts xs ∧ (∀ t ∈ ts, t ≠ rl) ∧ xs.map (·.1) = names.take i ∧ (∀ x ∈ xs, RowOk x) ∧ PurseAt H' a (n + 200 * (many - i)) ∧ ∀ c o, c ≠ a → c ≠ rl → H3 c = some o → H' c = some o)
      ⟨du0, [], [], [], none, none, none, none, rfl, hd3, fun _ h => absurd h List.not_mem_nil, by decide, nnd, hrl3, .nil, fun _ h => absurd h List.not_mem_nil, rfl, fun _ h => absurd h List.not_mem_nil, hp3.less (by omega), fun _ _ _ _ e => e⟩
      (fun i σ' H' _ q => let ⟨_, _, _, _, _, _, _, _, _, _, _, _, _, _, _, _, _, _, _, S⟩ := q; SqL.of (S _ _ (purse_str hp3 hnl) nnr hnl)) ?_ ?_⟩
    · rintro i v σ' H4 H5 hi ⟨du, dz, ts, xs, u5, u6, u7, u8, rfl, hdu, hdz, ldz, ndr, hrl, hs, hts, hnm, hro, hpu, S4⟩ ⟨rfl, hxi⟩
      rw [List.length_map] at hi
      rw [List.getElem?_map] at hxi
      obtain ⟨nm, hnmi, rfl⟩ := Option.map_eq_some_iff.mp hxi
      dsimp only
      -- extra
      refine seq_asg (te_mid (fun x H' => ∃ (e : Addr) (ez : List Str), x = .ref e ∧ (∀ z ∈ ez, z ∈ L8) ∧ ez.length ≤ 2 ∧ H' e = some (.lst (ez.map V.str)) ∧ PurseAt H' a (n + 200 * (many - (i + 1)) + 150) ∧ SameB a H5 H' ∧ H5 e = none) (fun R hR => ?_) ?_)
      · refine ⟨_, rfl, _, rfl, a, often, n + 200 * (many - (i + 1)) + 190, rfl, hpu.less (by omega), o1, o2, fun r H6 r0 r1 hp6 S6 => ⟨rfl, _, rfl, iteD (fun c => ?_) (fun c => ?_)⟩⟩
        · refine ⟨_, rfl, a, 2, n + 200 * (many - (i + 1)) + 150, rfl, by decide, hp6.less (by omega), fun zs q H7 hz lz hq nq hp7 S7 => hR _ _ ⟨q, zs, rfl, hz, lz, hq, hp7, S6.trans S7, ?_⟩⟩
          cases eq : H5 q with
          | none => rfl
          | some o =>
            by_cases c2 : q = a
            · exact absurd c2 (purse_none hp6 nq)
            · rw [S6 _ _ c2 eq] at nq
              cases nq
        · refine ⟨by show 0 ≤ sizeLine; decide, fun q H7 S7 nq hq => hR _ _ ⟨q, [], rfl, fun _ h => absurd h List.not_mem_nil, by decide, hq, (hp6.same S7).less (by omega), S6.to S7, ?_⟩⟩
          cases eq : H5 q with
          | none => rfl
          | some o =>
            by_cases c2 : q = a
            · exact absurd c2 (purse_none hp6 nq)
            · rw [S6 _ _ c2 eq] at nq
              cases nq
      rintro x H6 ⟨e, ez, rfl, hez, lez, he, hp6, S6, ne6⟩
      have nea : e ≠ a := purse_none hpu ne6
      have ner : e ≠ rl := (ne_of_none hrl ne6).symm
      have hrl6 := S6 _ _ nra hrl
      have hdu6 := S6 _ _ (purse_str hpu hdu) hdu
      -- span
      refine seq_asg ⟨_, rfl, by show 3 ≤ sizeLine; decide, fun p H7 S7 np hp7 => ⟨_, rfl, a, 3, n + 200 * (many - (i + 1)) + 140, rfl, (hp6.same S7).less (by omega), by decide, by decide, fun r H8 r0 r1 hp8 S8 => ?_⟩⟩
      obtain ⟨m, em, lm⟩ : ∃ m : Nat, atI [V.int 2, V.int 2, V.int 3] r = some (V.int (m : Int)) ∧ m ≤ 3 := by
        have : r = 0 ∨ r = 1 ∨ r = 2 := by omega
        rcases this with rfl | rfl | rfl
        · exact ⟨2, rfl, by decide⟩
        · exact ⟨2, rfl, by decide⟩
        · exact ⟨3, rfl, by decide⟩
      have npa : p ≠ a := purse_none hp6 np
      refine ⟨p, _, r, _, rfl, rfl, SqL.of (S8 _ _ npa hp7), em, a, m, n + 200 * (many - (i + 1)) + 110, rfl, lm, hp8.less (by omega), fun sz sp H9 hsz lsz hsp nsp hp9 S9 => ?_⟩
      have S69 : SameB a H6 H9 := fun c o nc ec => S9 _ _ nc (S8 _ _ nc (S7 _ _ ec))
      have hrl9 := S69 _ _ nra hrl6
      have hdu9 := S69 _ _ (purse_str hp6 hdu6) hdu6
      have he9 := S69 _ _ nea he
      have hrl8 := S8 _ _ nra (S7 _ _ hrl6)
      have nsr : sp ≠ rl := (ne_of_none hrl8 nsp).symm
      have nsa : sp ≠ a := purse_none hp8 nsp
      -- step
      refine seq_asg ⟨_, rfl, _, rfl, _, rfl, du, e, _, _, rfl, rfl, hdu9, he9, by rw [List.length_map, List.length_map, sizeLine_eq]; omega, fun c H10 S10 nc hc => ?_⟩
      rw [← List.map_append] at hc
      refine ⟨a, c, dz ++ ez, n + 200 * (many - (i + 1)) + 70, rfl, (hp9.same S10).less (by rw [List.length_append]; omega), hc, by rw [List.length_append]; omega, fun tz st H11 pm hst nst hp11 S11 => ?_⟩
      have S911 : SameB a H9 H11 := fun c o nc ec => S11 _ _ nc (S10 _ _ ec)
      have hrl11 := S911 _ _ nra hrl9
      have hdu11 := S911 _ _ (purse_str hp9 hdu9) hdu9
      have hsp11 := S911 _ _ nsa hsp
      have ntr : st ≠ rl := (ne_of_none (S10 _ _ hrl9) nst).symm
      have nta : st ≠ a := purse_none (hp9.same S10) nst
      have htz : ∀ z ∈ tz, z ∈ L8 := fun z hz => (List.mem_append.mp (pm.mem_iff.mp hz)).elim (hdz z) (hez z)
      have ltz : tz.length ≤ 8 := by rw [pm.length_eq, List.length_append]; omega
      have Sall : SameB a H5 H11 := (S6.trans S69).trans S911
      have hs11 := hs.purse hpu Sall
      refine ts_mid (fun σ' H' => ∃ (s' t' : Addr) (sz' tz' : List Str), σ' = [some (.ref a), some (.int many), some (.int often), some (.ref rl), some (.ref du), some (.str nm), some (.ref e), some (.ref s'), some (.ref t')] ∧ H' s' = some (.lst (sz'.map V.str)) ∧ H' t' = some (.lst (tz'.map V.str)) ∧
          (∀ z ∈ sz', z ∈ L8) ∧ (∀ z ∈ tz', z ∈ L8) ∧ sz'.length ≤ 3 ∧ tz'.length ≤ 8 ∧ s' ≠ rl ∧ t' ≠ rl ∧ Same H11 H') (fun N hN => ?_) ?_
      · refine ⟨_, rfl, st, _, rfl, .inl (SqL.of hst), _, _, rfl, rfl, _, rfl, iteD (fun _ => ?_) (fun _ => ?_)⟩
        · refine ⟨by show 0 ≤ sizeLine; decide, fun q1 H12 S12 n12 h12 => ⟨by show 0 ≤ sizeLine; decide, fun q2 H13 S13 n13 h13 => ⟨_, _, rfl, ?_⟩⟩⟩
          exact hN _ _ ⟨q1, q2, [], [], rfl, S13 _ _ h12, h13, fun _ h => absurd h List.not_mem_nil, fun _ h => absurd h List.not_mem_nil, by decide, by decide, (ne_of_none hrl11 n12).symm, (ne_of_none (S12 _ _ hrl11) n13).symm, S12.trans S13⟩
        · exact hN _ _ ⟨sp, st, sz, tz, rfl, hsp11, hst, hsz, htz, by omega, ltz, nsr, ntr, fun _ _ e => e⟩
      rintro σ' H12 ⟨s', t', sz', tz', rfl, hs', ht', hsz', htz', lsz', ltz', ns', nt', S12⟩
      have hrl12 := S12 _ _ hrl11
      have hp12 := hp11.same S12
      have hs12 := hs11.same S12
      have hdu12 := S12 _ _ hdu11
      have lts : ts.length = i := by
        have h1 := hs.length
        have h2 := congrArg List.length hnm
        rw [List.length_map, List.length_take] at h2
        omega
      refine ⟨_, rfl, .inl ⟨rfl, _, SqL.of hrl12⟩, ?_⟩
      refine ⟨_, rfl, _, rfl, _, rfl, by show 3 ≤ sizeLine; decide, fun rw_ H13 S13 n13 h13 => ?_⟩
      have hrl13 := S13 _ _ hrl12
      have nwr : rw_ ≠ rl := (ne_of_none hrl12 n13).symm
      refine ⟨rl, _, _, rfl, rfl, hrl13, by rw [List.length_map, lts, sizeLine_eq]; omega, ?_⟩
      dsimp only
      have off : ∀ {c : Addr} {o u : HO}, c ≠ rl → H13 c = some o → (upd H13 rl u) c = some o := fun n e => by rw [upd_ne n]; exact e
      have rows14 : SdsAt (upd H13 rl (.lst (ts.map V.ref ++ [V.ref rw_]))) (ts ++ [rw_]) (xs ++ [(nm, sz', tz')]) :=
        paired_snoc (SdsAt.off (v := .lst []) hs12 hrl12 hts fun c o n e => off n (S13 _ _ e)) ⟨s', t', off nwr h13, off ns' (S13 _ _ hs'), off nt' (S13 _ _ ht')⟩
      have rl14 : (upd H13 rl (.lst (ts.map V.ref ++ [V.ref rw_]))) rl = some (.lst ((ts ++ [rw_]).map V.ref)) := by rw [upd_same, List.map_append]; rfl
      have hp14 : PurseAt (upd H13 rl (.lst (ts.map V.ref ++ [V.ref rw_]))) a (n + 200 * (many - (i + 1)) + 70) := purse_upd ((hp12.same S13)) nra
      have hp14 : PurseAt (upd H13 rl (.lst (ts.map V.ref ++ [V.ref rw_]))) a (n + 200 * (many - (i + 1))) := hp14.less (by omega)
      have s14 : (upd H13 rl (.lst (ts.map V.ref ++ [V.ref rw_]))) s' = some (.lst (sz'.map V.str)) := off ns' (S13 _ _ hs')
      have t14 : (upd H13 rl (.lst (ts.map V.ref ++ [V.ref rw_]))) t' = some (.lst (tz'.map V.str)) := off nt' (S13 _ _ ht')
      have du14 : (upd H13 rl (.lst (ts.map V.ref ++ [V.ref rw_]))) du = some (.lst (dz.map V.str)) := off ndr (S13 _ _ hdu12)
      have fr14 : ∀ c o, c ≠ a → c ≠ rl → H3 c = some o → (upd H13 rl (.lst (ts.map V.ref ++ [V.ref rw_]))) c = some o := fun c o nc nr ec => off nr (S13 _ _ (S12 _ _ (Sall _ _ nc (S4 _ _ nc nr ec))))
      generalize upd H13 rl (.lst (ts.map V.ref ++ [V.ref rw_])) = H14 at rows14 rl14 hp14 s14 t14 du14 fr14 ⊢
      have hts' : ∀ t ∈ ts ++ [rw_], t ≠ rl := fun t ht => (List.mem_append.mp ht).elim (hts t) fun q => by rw [List.mem_singleton.mp q]; exact nwr
      have hnm' : (xs ++ [(nm, sz', tz')]).map (·.1) = names.take (i + 1) := by rw [List.map_append, hnm, take_snoc hnmi]; rfl
      have hro' : ∀ x ∈ xs ++ [(nm, sz', tz')], RowOk x := fun x hx => (List.mem_append.mp hx).elim (hro x) fun q => by
        rw [List.mem_singleton.mp q]
        exact ⟨hsz', htz', lsz', by show tz'.length ≤ 10; omega⟩
      refine ⟨_, rfl, by show 0 ≤ sizeLine; decide, fun q1 H15 S15 n15 h15 => ⟨.list (sz'.map PyData.str), .list [], .lst (SqL.of (S15 _ _ s14)) (dp_strs _), .lst (SqL.of h15) .nil, shaped_strs _ (fun z hz => strOk_of (let_L8 z (hsz' z hz))), by decide, _, rfl, ?_⟩⟩
      have fin : ∀ (H' : Hp) (d : Addr) (dz' : List Str), Same H14 H' → H' d = some (.lst (dz'.map V.str)) → (∀ z ∈ dz', z ∈ L8) → dz'.length ≤ 6 → d ≠ rl → _ := fun H' d dz' S hd hz hl hn =>
        (⟨d, dz', ts ++ [rw_], xs ++ [(nm, sz', tz')], _, _, _, _, rfl, hd, hz, hl, hn, S _ _ rl14, rows14.same S, hts', hnm', hro', hp14.same S, fun c o nc nr ec => S _ _ (fr14 c o nc nr ec)⟩ :
          ∃ (du : Addr) (dz : List Str) (ts : List Addr) (xs : List Sd) (u5 u6 u7 u8 : Option V), [some (V.ref a), some (.int many), some (.int often), some (.ref rl), some (.ref d), some (.str nm), some (.ref e), some (.ref s'), some (.ref t')] = [some (.ref a), some (.int many), some (.int often), some (.ref rl), some (.ref du), u5, u6, u7, u8] ∧ H' du = some (.lst (dz.map V.str)) ∧ (∀ z ∈ dz, z ∈ L8) ∧ dz.length ≤ 6 ∧ du ≠ rl ∧
        H' rl = some (.lst (ts.map V.ref)) ∧ SdsAt H' ts xs ∧ (∀ t ∈ ts, t ≠ rl) ∧ xs.map (·.1) = names.take (i + 1) ∧ (∀ x ∈ xs, RowOk x) ∧ PurseAt H' a (n + 200 * (many - (i + 1))) ∧ ∀ c o, c ≠ a → c ≠ rl → H3 c = some o → H' c = some o)
      cases hb : (!PyData.eqv (.list (sz'.map PyData.str)) (.list [])) with
      | false => exact iteF ⟨_, rfl, fin H15 du dz S15 (S15 _ _ du14) hdz ldz ndr⟩
      | true =>
        refine iteT (B := False) ⟨_, rfl, _, rfl, t', s', _, _, rfl, rfl, S15 _ _ t14, S15 _ _ s14, by rw [List.length_map, List.length_map, sizeLine_eq]; omega, fun c H16 S16 n16 h16 => ?_⟩
        rw [← List.map_append] at h16
        refine ⟨6, rfl, c, _, rfl, SqL.of h16, fun d H17 S17 n17 h17 => ?_⟩
        have ec : cutV ((tz' ++ sz').map V.str) none (some 6) = ((tz' ++ sz').take 6).map V.str := by
          unfold cutV
          rw [show (some (6 : Int)) = some ((6 : Nat) : Int) from rfl, HT.sIx_nat, HT.sIx_none, List.map_take, List.drop_zero]
          refine List.take_eq_take_iff.mpr ?_
          omega
        rw [ec] at h17
        refine fin H17 d _ (S15.trans (S16.trans S17)) h17 (fun z hz => (List.mem_append.mp (List.mem_of_mem_take hz)).elim (htz' z) (hsz' z)) (by rw [List.length_take]; omega) (ne_of_none (S16 _ _ (S15 _ _ rl14)) n17).symm
    · rintro σ' H4 ⟨du, dz, ts, xs, u5, u6, u7, u8, rfl, hdu, hdz, ldz, ndr, hrl, hs, hts, hnm, hro, hpu, S4⟩
      rw [List.length_map, List.take_length] at hnm
      have lx : xs.length = many := by rw [← ln, ← hnm, List.length_map]
      have ne : xs ≠ [] := fun c => by rw [c] at lx; simp at lx; omega
      refine ⟨_, rfl, k rl ts xs H4 hrl hs (rows_ok hnm hn nd hro ne (by omega)) hro lx (fun x hx => hn _ (by rw [← hnm]; exact List.mem_map.mpr ⟨x, hx, rfl⟩)) n1 (hpu.less (by omega)) fun c o nc e => ?_⟩
      exact S4 _ _ nc (ne_of_none e n1) (S3 _ _ nc (S2 _ _ (S1 _ _ e)))
end
end E4

set_option Elab.async false
set_option linter.all false
set_option maxRecDepth 100000
set_option maxHeartbeats 1000000
/-! _law_used, _law_sizes -/
namespace E4
open PySem PySem.Spec PyProof.Rows L2
open C8 (Cal Mak Met InsC pe_c pe_mt pe_mt0 call_isC clsBody)
open E3 (PurseAt spPurse spMixed spDraw)
abbrev sUsed : Stmt := top 39
abbrev sSizesL : Stmt := top 40
/-- z stands in a product of these sides -/
def InLets (xs : List Sd) (z : Str) : Prop := ∃ x ∈ xs, z ∈ x.2.1 ∨ z ∈ x.2.2
def spUsed (K : PySem.W.Frag) : Sp := fun vs H Q _ => ∃ (l : Addr) (ts : List Addr) (xs : List Sd), vs = [.ref l] ∧ SqL K H l (ts.map V.ref) ∧ SdsAt H ts xs ∧ (∀ x ∈ xs, RowOk x) ∧ xs.length ≤ 8 ∧
  ∀ (us : List Str) q H', us.Nodup → sortedS us = true → us.length ≤ 110 → (∀ z, z ∈ us ↔ InLets xs z) → H' q = some (.lst (us.map V.str)) → H q = none → Same H H' → Q (.ref q) H'
section
variable {P : Program} {w : World} {K : PySem.W.Frag} {mg : Str → Option Value} {base : Heap}
theorem scUsed : FnScope ["_law_rows", "_law_found", "_law_word", "_law_span", "_law_step", "_law_one"] ["_law_rows"] (defScope sUsed) := ⟨rfl, rfl, rfl, by decide +kernel, rfl, by decide +kernel, by decide +kernel⟩
theorem ok_used {f : Addr} {fd : FuncData} (F : Fun K "_law_used" "_law_used" sUsed f fd) (B : Bl mg) : FnOk P w K mg base CX0 1 f fd ["_law_rows"] (spUsed K) := by
  refine F.ok scUsed (fun vs H Q E h => ?_) (fun cdv A outer s H vs Q E hr h => ?_)
  · obtain ⟨l, ts, xs, rfl, _⟩ := h
    rfl
  · obtain ⟨l, ts, xs, rfl, hl, hx, ok, l8, k⟩ := h
    refine ⟨_, pss_cons (ps_set (i := 1) scUsed.nd rfl (Or.inr rfl) (pe_lstS pa_nil))
      (pss_cons (ps_for PassesOwn.never rfl (pi_list (pv 0)) (pg_tup rfl (pgs_cons (pg_name (i := 2) scUsed.nd rfl (Or.inl rfl)) (pgs_cons (pg_name (i := 3) scUsed.nd rfl (Or.inl rfl)) (pgs_cons (pg_name (i := 4) scUsed.nd rfl (Or.inl rfl)) pgs_nil))))
        (pss_one (ps_set (i := 1) scUsed.nd rfl (Or.inr rfl) (pe_op op_catS (pv 1) (pe_lc (own := [("_law_one", 5)]) (g := gName 5) (tt := tTest (tOp (rIn K true) (tVar 5) (tVar 1))) (te := tVar 5) rfl scUsed.nd (pi_list (pe_op op_catS (pv 3) (pv 4)))
          (blkOk_by (own := [("_law_one", 5)]) (N := ["_law_rows", "_law_found", "_law_word", "_law_span", "_law_step", "_law_one"]) (sc := defScope sUsed) (by decide +kernel))
          (fun _ _ _ _ _ => pg_name (i := 5) scUsed.nd rfl (Or.inl rfl)) (fun _ _ _ _ _ => by exact pts_one (pt_cmpR op_notIn_seq (pv 5) (pv 1) (by rfl))) (fun _ _ _ _ _ => pv 5))))))
      (pss_one (ps_ret (pe_callB (cr_sortedSS rfl) (by rfl) B.srt_ (by decide +kernel) (pa_cons (pe_callTy (cr_setLS rfl) (by rfl) B.set_ (by decide +kernel) (pa_cons (pv 1) pa_nil)) pa_nil))))), ?_⟩
    have lt := hx.length
    refine seq_asg ⟨by show 0 ≤ sizeLine; decide, fun d0 H1 S1 n1 h1 => ?_⟩
    refine ⟨_, rfl, l, rfl, ⟨_, hl.same S1⟩, for_it (walk_list (xs := ts.map V.ref)) (fun i σ' H' => ∃ d fz u2 u3 u4 u5, σ' = [some (.ref l), some (.ref d), u2, u3, u4, u5] ∧ Same H H' ∧ H' d = some (.lst (fz.map V.str)) ∧ fz.length ≤ 13 * i ∧ ∀ z, z ∈ fz ↔ InLets (xs.take i) z) ⟨d0, [], none, none, none, none, rfl, S1, h1, by decide, fun z => ⟨fun h => absurd h List.not_mem_nil, fun ⟨x, hx, _⟩ => absurd hx List.not_mem_nil⟩⟩ (fun i σ' H' _ q => let ⟨_, _, _, _, _, _, _, S, _⟩ := q; hl.same S) ?_ ?_⟩
    · rintro i v σ' H2 H3 hi ⟨d, fz, u2, u3, u4, u5, rfl, S2, hd, lf, hf⟩ ⟨rfl, hxi⟩
      rw [List.length_map] at hi
      rw [List.getElem?_map] at hxi
      obtain ⟨t, htt, rfl⟩ := Option.map_eq_some_iff.mp hxi
      obtain ⟨y, hy, c1, c2, r0, r1, r2⟩ := paired_at hx htt
      obtain ⟨y1, y2, y3, y4⟩ := ok y (List.mem_of_getElem? hy)
      refine ⟨t, _, rfl, SqT.of (S2 _ _ r0), rfl, _, _, rfl, _, _, rfl, _, _, rfl, rfl, ?_⟩
      refine ⟨_, rfl, _, rfl, _, rfl, c1, c2, _, _, rfl, rfl, S2 _ _ r1, S2 _ _ r2, by rw [List.length_map, List.length_map, sizeLine_eq]; omega, fun c H4 S4 nc hc => ?_⟩
      rw [← List.map_append] at hc
      have hd4 := S4 _ _ hd
      refine ⟨c, rfl, ⟨_, SqL.of hc⟩, fun D nD => ?_⟩
      refine lc_it (walk_list (xs := (y.2.1 ++ y.2.2).map V.str)) (fun j H' => Same H4 H' ∧ H' D = some (.lst ((((y.2.1 ++ y.2.2).take j).filter fun p => decide (p ∉ fz)).map V.str))) ⟨Same.upd nD, upd_same⟩ (fun j H' _ q => SqL.of (q.1 _ _ hc)) ?_ ?_
      · rintro j v H5 H6 hj ⟨S5, hD⟩ ⟨rfl, hxj⟩
        rw [List.length_map] at hj
        rw [List.getElem?_map] at hxj
        obtain ⟨p, hp2, rfl⟩ := Option.map_eq_some_iff.mp hxj
        have e := take_snoc hp2
        refine ⟨rfl, _, rfl, _, rfl, d, _, rfl, .inl (SqL.of (S5 _ _ hd4)), rfl, flat_strs _, ?_⟩
        show ∃ k, V.bl (!inV (.str p) (fz.map V.str)) = V.bl k ∧ _
        rw [inV_str]
        refine ⟨_, rfl, ?_⟩
        by_cases cc : p ∈ fz
        · refine ifF (by rw [decide_eq_true cc]; rfl) ⟨S5, ?_⟩
          rw [e, List.filter_append, List.filter_cons_of_neg (by simp [cc]), List.filter_nil, List.append_nil]
          exact hD
        · refine ifT (by rw [decide_eq_false cc]; rfl) ⟨_, rfl, _, hD, ?_, ?_, ?_⟩
          · have := List.length_filter_le (fun p => decide (p ∉ fz)) ((y.2.1 ++ y.2.2).take j)
            rw [List.length_take] at this
            rw [List.length_append] at hj
            rw [List.length_map, sizeLine_eq]
            omega
          · intro c o ec
            rw [upd_ne (ne_of_none ec nD)]
            exact S5 _ _ ec
          · rw [upd_same, e, List.filter_append, List.filter_cons_of_pos (by simp [cc]), List.filter_nil, List.map_append]
            rfl
      · rintro H5 ⟨S5, hD⟩
        rw [List.length_map, List.take_length] at hD
        have lfl := List.length_filter_le (fun p => decide (p ∉ fz)) (y.2.1 ++ y.2.2)
        rw [List.length_append] at lfl
        refine ⟨d, D, _, _, rfl, rfl, S5 _ _ hd4, hD, by rw [List.length_map, List.length_map, sizeLine_eq]; omega, fun e H6 S6 ne he => ?_⟩
        rw [← List.map_append] at he
        refine ⟨e, _, _, _, _, _, rfl, S2.trans (S4.trans (S5.trans S6)), he, by rw [List.length_append]; omega, fun z => ?_⟩
        rw [List.mem_append, List.mem_filter, take_snoc hy]
        constructor
        · rintro (h | ⟨h, _⟩)
          · obtain ⟨x, hx1, h⟩ := (hf z).mp h
            exact ⟨x, List.mem_append.mpr (.inl hx1), h⟩
          · exact ⟨y, List.mem_append.mpr (.inr List.mem_cons_self), List.mem_append.mp h⟩
        · rintro ⟨x, hx1, h⟩
          by_cases cc : z ∈ fz
          · exact .inl cc
          · rcases List.mem_append.mp hx1 with q | q
            · exact .inl ((hf z).mpr ⟨x, q, h⟩)
            · rw [List.mem_singleton.mp q] at h
              exact .inr ⟨List.mem_append.mpr h, by simp [cc]⟩
    · rintro σ' H2 ⟨d, fz, u2, u3, u4, u5, rfl, S2, hd, lf, hf⟩
      rw [List.length_map, lt, List.take_length] at hf
      rw [List.length_map, lt] at lf
      have sb : ∀ i, (putAll [] (fz.take i)).length + 1 < scanBound := fun i => by
        have h1 := len_putAll (fz.take i) []
        rw [List.length_take] at h1
        have : (104 : Nat) + 1 < scanBound := by decide
        simp only [List.length_nil] at h1
        omega
      refine ⟨_, rfl, d, fz, rfl, SqL.of hd, sb, fun sa nsa => ?_⟩
      refine ⟨sa, _, rfl, upd_same, fun ys pm nd so p H3 S3 np hp => ?_⟩
      have S23 : Same H2 H3 := (Same.upd nsa).trans S3
      have h1 := len_putAll fz []
      simp only [List.length_nil] at h1
      refine k ys p H3 (pm.nodup_iff.mpr nd) so (by rw [pm.length_eq]; omega) (fun z => ?_) hp ((S2.trans (Same.upd nsa)).free np) (S2.trans S23)
      rw [pm.mem_iff, mem_putAll, ← hf z]
      exact ⟨fun h => h.elim (fun q => absurd q List.not_mem_nil) id, .inr⟩
def spSizesL (K : PySem.W.Frag) : Sp := fun vs H Q _ => ∃ (a l : Addr) (ts : List Addr) (xs : List Sd) (most : Int) (n : Nat), vs = [.ref a, .ref l, .int most] ∧ PurseAt H a (n + 1000) ∧ H l = some (.lst (ts.map V.ref)) ∧ SdsAt H ts xs ∧ (∀ x ∈ xs, RowOk x) ∧ xs.length ≤ 8 ∧ 1 ≤ most ∧ most ≤ 1000 ∧
  ∀ (vl : Vls) q H', (∀ z, z ∈ vl.map (·.1) ↔ InLets xs z) → (∀ x ∈ vl, 1 ≤ x.2 ∧ x.2 ≤ most) → vl.length ≤ 110 → H' q = some (.dK (dI vl)) → H q = none → PurseAt H' a n → SameB a H H' → Q (.ref q) H'
theorem scSizesL : FnScope ["_law_purse_here", "_law_rows", "_law_most", "_law_found", "_law_one"] ["_law_purse_here", "_law_rows", "_law_most"] (defScope sSizesL) := ⟨rfl, rfl, rfl, by decide +kernel, rfl, by decide +kernel, by decide +kernel⟩
theorem ok_sizesL {f : Addr} {fd : FuncData} (F : Fun K "_law_sizes" "_law_sizes" sSizesL f fd) (D : Cal P w K mg base 2 "_law_draw" spDraw []) (Sh : Cal P w K mg base 3 "_law_shuffled" (spShuf K) []) (Us : Cal P w K mg base 1 "_law_used" (spUsed K) []) : FnOk P w K mg base CX0 4 f fd ["_law_purse_here", "_law_rows", "_law_most"] (spSizesL K) := by
  refine F.ok scSizesL (fun vs H Q E h => ?_) (fun cdv A outer s H vs Q E hr h => ?_)
  · obtain ⟨a, l, ts, xs, most, n, rfl, _⟩ := h
    rfl
  · obtain ⟨a, l, ts, xs, most, n, rfl, hp, hl, hx, ok, l8, m1, m2, k⟩ := h
    have ul := Nat.lt_of_le_of_lt (Nat.add_le_add_left (by decide : 1 ≤ 64) _) hr.units
    refine ⟨_, pss_cons (ps_set (i := 3) scSizesL.nd rfl (Or.inl rfl) pe_dnewS)
      (pss_cons (ps_for PassesOwn.never rfl (pi_list (pe_c Sh hr (by decide) rfl (pa_cons (pv 0) (pa_cons (pe_c Us hr (by decide) rfl (pa_cons (pv 1) pa_nil)) pa_nil)))) (pg_name (i := 4) scSizesL.nd rfl (Or.inl rfl))
        (pss_one (ps_dput ul (pv 3) (pv 4) (pe_op op_add pe_int (pe_c D hr (by decide) rfl (pa_cons (pv 0) (pa_cons (pv 2) pa_nil)))) rfl)))
      (pss_one (ps_ret (pv 3)))), ?_⟩
    refine seq_asg fun d0 H1 S1 n1 h1 => ?_
    have nda : d0 ≠ a := purse_none hp n1
    have hp1 := hp.same S1
    refine ⟨_, rfl, _, rfl, l, ts, xs, rfl, SqL.of (S1 _ _ hl), hx.same S1, ok, l8, fun us u0 H2 ndu _ lu hu h2 n2 S2 => ?_⟩
    refine ⟨a, u0, us, n + 440, rfl, (hp1.same S2).less (by omega), h2, by omega, fun ys y0 H3 pm h3 n3 hp3 S3 => ?_⟩
    have hd2 := S2 _ _ h1
    have hd3 := S3 _ _ nda hd2
    have ny : y0 ≠ d0 := (ne_of_none hd2 n3).symm
    have nya : y0 ≠ a := purse_str hp3 h3
    have ly : ys.length ≤ 110 := by rw [pm.length_eq]; exact lu
    refine ⟨y0, rfl, ⟨_, SqL.of h3⟩, for_it (walk_list (xs := ys.map V.str)) (fun i σ' H' => ∃ u vl, σ' = [some (.ref a), some (.ref l), some (.int most), some (.ref d0), u] ∧ H' d0 = some (.dK (dI vl)) ∧ vl.map (·.1) = ys.take i ∧ (∀ x ∈ vl, 1 ≤ x.2 ∧ x.2 ≤ most) ∧ PurseAt H' a (n + 4 * (110 - i)) ∧ ∀ c o, c ≠ a → c ≠ d0 → H3 c = some o → H' c = some o) ⟨none, [], rfl, hd3, rfl, fun _ h => absurd h List.not_mem_nil, hp3.less (by omega), fun _ _ _ _ e => e⟩ (fun i σ' H' _ q => let ⟨_, _, _, _, _, _, _, S⟩ := q; SqL.of (S _ _ nya ny h3)) ?_ ?_⟩
    · rintro i v σ' H4 H5 hi ⟨u, vl, rfl, hd, hk, hv, hpu, S4⟩ ⟨rfl, hxi⟩
      rw [List.length_map] at hi
      rw [List.getElem?_map] at hxi
      obtain ⟨z, hz, rfl⟩ := Option.map_eq_some_iff.mp hxi
      refine ⟨_, rfl, _, rfl, a, most, n + 4 * (110 - (i + 1)), rfl, hpu.less (by omega), m1, by omega, fun r H6 r0 r1 hp6 S6 => ⟨_, _, rfl, rfl, ?_⟩⟩
      have hd6 := S6 _ _ nda hd
      have ndy : ys.Nodup := pm.nodup_iff.mpr ndu
      have nin : z ∉ vl.map (·.1) := fun c => by
        rw [hk] at c
        obtain ⟨j, hj⟩ := List.mem_iff_getElem?.mp c
        have hj2 : j < i := by
          have := (List.getElem?_eq_some_iff.mp hj).1
          rw [List.length_take] at this
          omega
        rw [List.getElem?_take_of_lt hj2] at hj
        have := (List.getElem?_inj (i := j) (j := i) (by omega) ndy).mp (hj.trans hz.symm)
        omega
      have lv : vl.length = i := by
        have := congrArg List.length hk
        rw [List.length_map, List.length_take] at this
        omega
      refine ⟨_, rfl, _, rfl, d0, _, rfl, DPut.k (k := Sum.inr z) hd6 (by rw [len_dI, lv, sizeLine_eq]; omega), ?_⟩
      refine ⟨_, setI vl z (1 + r), rfl, by rw [upd_same, putK_dI], ?_, ?_, purse_upd hp6 nda, fun c o nc nd e => by rw [upd_ne nd]; exact S6 _ _ nc (S4 _ _ nc nd e)⟩
      · rw [keys_set_new nin, List.map_append, hk, take_snoc hz]
        rfl
      · rw [keys_set_new nin]
        intro x hx1
        rcases List.mem_append.mp hx1 with q | q
        · exact hv x q
        · rw [List.mem_singleton.mp q]
          show 1 ≤ 1 + r ∧ 1 + r ≤ most
          omega
    · rintro σ' H4 ⟨u, vl, rfl, hd, hk, hv, hpu, S4⟩
      rw [List.length_map, List.take_length] at hk
      refine ⟨_, rfl, k vl d0 H4 (fun z => ?_) hv ?_ hd n1 (hpu.less (by omega)) fun c o nc e => ?_⟩
      · rw [hk, pm.mem_iff]
        exact hu z
      · have := congrArg List.length hk
        rw [List.length_map] at this
        omega
      · exact S4 _ _ nc (ne_of_none e n1) (S3 _ _ nc (S2 _ _ (S1 _ _ e)))
end
end E4

set_option Elab.async false
set_option linter.all false
set_option maxRecDepth 100000
set_option maxHeartbeats 1000000
/-! list.count of a text -/
namespace L2
open PySem PySem.Spec PyProof.Rows
def rCntS (K : PySem.W.Frag) : V → List V → Hp → VK → Prop := fun x xs H Q => ∃ (p : Addr) (zs : List Str) (k : Str), x = .ref p ∧ xs = [.str k] ∧ SqL K H p (zs.map V.str) ∧ Q (.int (zs.count k : Nat)) H
theorem eqU_count {k : Str} : ∀ {us : List Value} {zs : List Str}, StrsAre us zs → us.countP (eqU (.str k)) = zs.count k
  | _, _, .nil => rfl
  | _, _, .cons z t h => by
    have ih := eqU_count (k := k) h
    rw [List.countP_cons, List.count_cons, ih]
    rfl
theorem mt_countS {X : Cx} : MtR X "list.count" (rCntS X.K) := by
  intro pins s σ H x xs v us Q I rx rxs h
  obtain ⟨p, zs, k, rfl, rfl, hs, q⟩ := h
  cases rx
  obtain ⟨u, rfl, ru⟩ := rxs.one
  obtain ⟨t, rfl⟩ := ru
  obtain ⟨its, rv, ⟨⟨cls, dd, data, sl⟩, n, ho, hc, hdn, hd⟩, hlen⟩ := I.list hs
  simp only at hc hd
  subst hc hd
  have hi := strsAre_of rv
  refine call_meets PySem.F.slot_list_count ⟨_, ho, rfl⟩ PySem.F.entry_list_count (PySem.F.args_list_count_2 _ _)
    (SeqAt.list_countAt p its.toArray n dd sl (.str k t) (eqU (.str k))) ⟨ho, fun w hw => mem_eqAt (x := .str k) ⟨t, rfl⟩ rfl rv (flat_strs zs) w (by simpa using hw), ?_⟩
  have ec : its.toArray.toList.countP (eqU (.str k)) = zs.count k := by rw [List.toList_toArray]; exact eqU_count hi
  refine ⟨.int (zs.count k : Nat), H, I.tok _, ⟨s.toks, ?_⟩, q⟩
  show Value.int ((its.toArray.toList.countP (eqU (.str k)) : Nat) : Int) s.toks = Value.int ((zs.count k : Nat) : Int) s.toks
  rw [ec]
end L2

set_option Elab.async false
set_option linter.all false
set_option maxRecDepth 100000
set_option maxHeartbeats 1000000
/-! _law_fits, _law_chained -/
namespace E4
open PySem PySem.Spec PyProof.Rows L2
open C8 (Cal Mak Met InsC pe_c pe_mt pe_mt0 call_isC clsBody)
abbrev sFits : Stmt := top 42
abbrev sChained : Stmt := top 43
/-- each letter of a stands in b as often at least -/
def fitsB (a b : List Str) : Bool := (a.filter fun z => decide (b.count z < a.count z)).isEmpty
theorem fitsB_iff {a b : List Str} : fitsB a b = true ↔ leftOf a b = [] := by
  unfold fitsB
  rw [List.isEmpty_iff, List.filter_eq_nil_iff]
  constructor
  · intro h
    refine leftOf_nil fun z => ?_
    by_cases c : z ∈ a
    · have := h z c
      simp only [decide_eq_true_eq] at this
      omega
    · rw [List.count_eq_zero.mpr c]
      exact Nat.zero_le _
  · intro h z _
    have h1 : (leftOf a b).count z = 0 := by rw [h]; rfl
    rw [count_leftOf] at h1
    simp only [decide_eq_true_eq]
    omega
theorem eqv_nilS (l : List Str) : PyData.eqv (.list (l.map PyData.str)) (.list []) = l.isEmpty := by
  cases l with
  | nil => rfl
  | cons b l => rfl
def spFits (K : PySem.W.Frag) : Sp := fun vs H Q _ => ∃ (a b : Addr) (x y : List Str), vs = [.ref a, .ref b] ∧ SqL K H a (x.map V.str) ∧ SqL K H b (y.map V.str) ∧ (∀ z ∈ x, z ∈ L8) ∧ x.length ≤ 100 ∧ ∀ H', Same H H' → Q (.bl (fitsB x y)) H'
section
variable {P : Program} {w : World} {K : PySem.W.Frag} {mg : Str → Option Value} {base : Heap}
theorem scFits : FnScope ["_law_first", "_law_second", "_law_one"] ["_law_first", "_law_second"] (defScope sFits) := ⟨rfl, rfl, rfl, by decide +kernel, rfl, by decide +kernel, by decide +kernel⟩
theorem ok_fits {f : Addr} {fd : FuncData} (F : Fun K "_law_fits" "_law_fits" sFits f fd) : FnOk P w K mg base CX0 1 f fd ["_law_first", "_law_second"] (spFits K) := by
  refine F.ok scFits (fun vs H Q E h => ?_) (fun cdv A outer s H vs Q E hr h => ?_)
  · obtain ⟨a, b, x, y, rfl, _⟩ := h
    rfl
  · obtain ⟨a, b, x, y, rfl, ha, hb, hx, lx, k⟩ := h
    refine ⟨_, pss_one (ps_ret (pe_cmpR (op_eqD hr.units) (pe_lc (own := [("_law_one", 2)]) (g := gName 2) (tt := tTest (tOp (rI0 fun i j => .bl (decide (j < i))) (tBM K "list" (rCntS K) (tVar 0) (tCons (tVar 2) tNil)) (tBM K "list" (rCntS K) (tVar 1) (tCons (tVar 2) tNil)))) (te := tVar 2) rfl scFits.nd (pi_list (pv 0))
        (blkOk_by (own := [("_law_one", 2)]) (N := ["_law_first", "_law_second", "_law_one"]) (sc := defScope sFits) (by decide +kernel))
        (fun _ _ _ _ _ => pg_name (i := 2) scFits.nd rfl (Or.inl rfl))
        (fun _ _ _ _ _ => by exact pts_one (pt_cmpR op_gt (pe_bm PySem.F.plainAttrs_list PySem.F.slot_list_count PySem.F.type_list_count mt_countS (pv 0) (pa_cons (pv 2) pa_nil)) (pe_bm PySem.F.plainAttrs_list PySem.F.slot_list_count PySem.F.type_list_count mt_countS (pv 1) (pa_cons (pv 2) pa_nil)) (by rfl)))
        (fun _ _ _ _ _ => pv 2)) (pe_lstS pa_nil) (by rfl))), ?_⟩
    refine ⟨_, rfl, a, rfl, ⟨_, ha⟩, fun D nD => ?_⟩
    refine lc_it (walk_list (xs := x.map V.str)) (fun i H' => Same H H' ∧ H' D = some (.lst (((x.take i).filter fun z => decide (y.count z < x.count z)).map V.str))) ⟨Same.upd nD, upd_same⟩ (fun i H' _ q => ha.same q.1) ?_ ?_
    · rintro i v H5 H6 hi ⟨S5, hD⟩ ⟨rfl, hxi⟩
      rw [List.length_map] at hi
      rw [List.getElem?_map] at hxi
      obtain ⟨z, hz, rfl⟩ := Option.map_eq_some_iff.mp hxi
      have e := take_snoc hz
      refine ⟨rfl, _, rfl, .inl ⟨rfl, _, ha.same S5⟩, _, rfl, a, x, z, rfl, rfl, ha.same S5, ?_⟩
      refine ⟨_, rfl, .inl ⟨rfl, _, hb.same S5⟩, _, rfl, b, y, z, rfl, rfl, hb.same S5, ?_⟩
      refine ⟨_, _, rfl, rfl, _, rfl, iteD (fun c => ?_) (fun c => ?_)⟩
      · refine ⟨_, rfl, _, hD, ?_, ?_, ?_⟩
        · have := List.length_filter_le (fun z => decide (y.count z < x.count z)) (x.take i)
          rw [List.length_take] at this
          rw [List.length_map, sizeLine_eq]
          omega
        · intro c o ec
          rw [upd_ne (ne_of_none ec nD)]
          exact S5 _ _ ec
        · rw [upd_same, e, List.filter_append, List.filter_cons_of_pos (p := fun z => decide (y.count z < x.count z)) (decide_eq_true (by omega)), List.filter_nil, List.map_append]
          rfl
      · refine ⟨S5, ?_⟩
        rw [e, List.filter_append, List.filter_cons_of_neg (p := fun z => decide (y.count z < x.count z)) (by rw [decide_eq_true_iff]; omega), List.filter_nil, List.append_nil]
        exact hD
    · rintro H5 ⟨S5, hD⟩
      rw [List.length_map, List.take_length] at hD
      refine ⟨by show 0 ≤ sizeLine; decide, fun p H6 S6 np hp => ⟨_, .list [], .lst (SqL.of (S6 _ _ hD)) (dp_strs _), .lst (SqL.of hp) .nil, shaped_strs _ (fun z hz => strOk_of (let_L8 z (hx z (List.mem_filter.mp hz).1))), by decide, ?_⟩⟩
      rw [eqv_nilS]
      exact k H6 (S5.trans S6)
/-- any two sides with two cells or more: the one goes into the other -/
def ChdB (xs : List Sd) : Prop := ∀ (i j : Nat) x y, (xs.filter fun x => decide (x.2.1 ≠ []))[i]? = some x → (xs.filter fun x => decide (x.2.1 ≠ []))[j]? = some y → i < j → leftOf (x.2.1 ++ x.2.2) y.2.2 = [] ∨ leftOf (y.2.1 ++ y.2.2) x.2.2 = []
def spChained (K : PySem.W.Frag) : Sp := fun vs H Q _ => ∃ (l : Addr) (ts : List Addr) (xs : List Sd), vs = [.ref l] ∧ SqL K H l (ts.map V.ref) ∧ SdsAt H ts xs ∧ (∀ x ∈ xs, RowOk x) ∧ xs.length ≤ 8 ∧
  (ChdB xs → ∀ H', Same H H' → Q (.bl true) H') ∧ (¬ ChdB xs → ∀ H', Same H H' → Q (.bl false) H')
theorem cut_drop (xs : List V) (k : Nat) : cutV xs (some ((k : Nat) : Int)) none = xs.drop k := by
  unfold cutV
  rw [HT.sIx_nat, HT.sIx_none]
  rcases Nat.lt_or_ge k xs.length with h | h
  · rw [Nat.min_eq_left (by omega), List.take_of_length_le (by rw [List.length_drop]; exact Nat.le_refl _)]
  · rw [Nat.min_eq_right h, List.drop_of_length_le (Nat.le_refl _), List.drop_of_length_le h, List.take_nil]
theorem scChained : FnScope ["_law_rows", "_law_some", "_law_row", "_law_at", "_law_one", "_law_other"] ["_law_rows"] (defScope sChained) := ⟨rfl, rfl, rfl, by decide +kernel, rfl, by decide +kernel, by decide +kernel⟩
theorem ok_chained {f : Addr} {fd : FuncData} (F : Fun K "_law_chained" "_law_chained" sChained f fd) (hen : mg "enumerate" = none) (Fi : Cal P w K mg base 1 "_law_fits" (spFits K) []) : FnOk P w K mg base CX0 2 f fd ["_law_rows"] (spChained K) := by
  refine F.ok scChained (fun vs H Q E h => ?_) (fun cdv A outer s H vs Q E hr h => ?_)
  · obtain ⟨l, ts, xs, rfl, _⟩ := h
    rfl
  · obtain ⟨l, ts, xs, rfl, hl, hx, ok, l8, k1, k2⟩ := h
    refine ⟨_, pss_cons (ps_setLc (i := 1) (own := [("_law_row", 2)]) (g := gName 2) (tt := tTest (tOp (rNeD K) (tOp (rIxT K) (tVar 2) (tC (.int 1))) (tLstS tNil))) (te := tVar 2) (by rfl) scChained.nd rfl rfl (by rfl) (pi_list (pv 0))
        (blkOk_by (own := [("_law_row", 2)]) (N := ["_law_rows", "_law_some", "_law_row", "_law_at", "_law_one", "_law_other"]) (sc := defScope sChained) (by decide +kernel))
        (fun _ _ _ _ _ => pg_name (i := 2) scChained.nd rfl (Or.inl rfl))
        (fun _ _ _ _ _ => by exact pts_one (pt_cmpR (op_neD hr.units) (pe_ix ix_tup (pv 2) pe_int (fun _ _ => rfl)) (pe_lstS pa_nil) (by rfl))) (fun _ _ _ _ _ => pv 2))
      (pss_cons (ps_for PassesOwn.never rfl (pi_enum (by rfl) hen (pa_cons (pv 1) pa_nil)) (pg_tup rfl (pgs_cons (pg_name (i := 3) scChained.nd rfl (Or.inl rfl)) (pgs_cons (pg_name (i := 4) scChained.nd rfl (Or.inl rfl)) pgs_nil)))
        (pss_one (ps_for PassesOwn.never rfl (pi_list (pe_slice sl_listS (pv 1) (po_some (pe_op op_add (pv 3) pe_int)) po_none)) (pg_name (i := 5) scChained.nd rfl (Or.inl rfl))
          (pss_one (ps_if (PW.pt (pw_and (pt_not (pt_val (pe_c Fi hr (by decide) rfl (pa_cons (pe_op op_catS (pe_ix ix_tup (pv 4) pe_int (fun _ _ => rfl)) (pe_ix ix_tup (pv 4) pe_int (fun _ _ => rfl))) (pa_cons (pe_ix ix_tup (pv 5) pe_int (fun _ _ => rfl)) pa_nil)))))
              (pw_and1 (pt_not (pt_val (pe_c Fi hr (by decide) rfl (pa_cons (pe_op op_catS (pe_ix ix_tup (pv 5) pe_int (fun _ _ => rfl)) (pe_ix ix_tup (pv 5) pe_int (fun _ _ => rfl))) (pa_cons (pe_ix ix_tup (pv 4) pe_int (fun _ _ => rfl)) pa_nil)))))))) (pss_one (ps_ret pe_bl)) pss_nil)))))
      (pss_one (ps_ret pe_bl))), ?_⟩
    have lt := hx.length
    have hz : ∀ (i : Nat) (t : Addr) (y : Sd), ts[i]? = some t → xs[i]? = some y → (ts.zip xs)[i]? = some (t, y) := fun i t y h1 h2 => by rw [List.getElem?_zip_eq_some]; exact ⟨h1, h2⟩
    refine seq_asg ⟨_, rfl, l, rfl, ⟨_, hl⟩, fun D nD => ?_⟩
    refine lc_it (walk_list (xs := ts.map V.ref)) (fun i H' => Same H H' ∧ H' D = some (.lst ((((ts.zip xs).take i).filter fun q => decide (q.2.2.1 ≠ [])).map fun q => V.ref q.1))) ⟨Same.upd nD, upd_same⟩ (fun i H' _ q => hl.same q.1) ?_ ?_
    · rintro i v H2 H3 hi ⟨S2, hD⟩ ⟨rfl, hx2⟩
      rw [List.length_map] at hi
      rw [List.getElem?_map] at hx2
      obtain ⟨t, htt, rfl⟩ := Option.map_eq_some_iff.mp hx2
      obtain ⟨y, hy, u, v, h1, h2, h3⟩ := paired_at hx htt
      obtain ⟨y1, y2, y3, y4⟩ := ok y (List.mem_of_getElem? hy)
      have e := take_snoc (hz i t y htt hy)
      refine ⟨rfl, _, rfl, t, _, 1, _, rfl, rfl, SqT.of (S2 _ _ h1), rfl, by show 0 ≤ sizeLine; decide, fun p H4 S4 np hp4 => ⟨.list (y.2.1.map PyData.str), .list [], .lst (SqL.of (S4 _ _ (S2 _ _ h2))) (dp_strs _), .lst (SqL.of hp4) .nil, shaped_strs _ (fun z hz => strOk_of (let_L8 z (y1 z hz))), by decide, _, rfl, ?_⟩⟩
      have hD4 := S4 _ _ hD
      have up4 : ∀ (o : HO), Same H (upd H4 D o) := fun o c w ec => by
        rw [upd_ne (ne_of_none ec nD)]
        exact S4 _ _ (S2 _ _ ec)
      by_cases cc : y.2.1 = []
      · refine ifF (by rw [eqv_nilS, cc]; rfl) ⟨S2.trans S4, ?_⟩
        rw [e, List.filter_append, List.filter_cons_of_neg (p := fun q : Addr × Sd => decide (q.2.2.1 ≠ [])) (by simp [cc]), List.filter_nil, List.append_nil]
        exact hD4
      · refine ifT (by rw [eqv_nilS]; simpa using cc) ⟨_, rfl, _, hD4, ?_, up4 _, ?_⟩
        · rw [List.length_map, sizeLine_eq]
          have := List.length_filter_le (fun q : Addr × Sd => decide (q.2.2.1 ≠ [])) ((ts.zip xs).take i)
          rw [List.length_take] at this
          omega
        · rw [upd_same, e, List.filter_append, List.map_append, List.filter_cons_of_pos (p := fun q : Addr × Sd => decide (q.2.2.1 ≠ [])) (by simp [cc])]
          rfl
    rintro H2 ⟨S2, hD⟩
    rw [List.length_map] at hD
    have e0 : (ts.zip xs).take ts.length = ts.zip xs := List.take_of_length_le (by rw [List.length_zip]; omega)
    rw [e0] at hD
    have e1 : (ts.zip xs).map (·.2) = xs := List.map_snd_zip (by omega)
    have hin : ∀ q ∈ ts.zip xs, SdAt H q.1 q.2 ∧ q.2 ∈ xs := fun q hq => by
      obtain ⟨i, hi⟩ := List.mem_iff_getElem?.mp hq
      rw [List.getElem?_zip_eq_some] at hi
      obtain ⟨y, hy, r⟩ := paired_at hx hi.1
      rw [hi.2] at hy
      cases hy
      exact ⟨r, List.mem_of_getElem? hi.2⟩
    have em : ((ts.zip xs).filter fun q => decide (q.2.2.1 ≠ [])).map (·.2) = xs.filter fun x => decide (x.2.1 ≠ []) := by
      have := List.filter_map (f := fun q : Addr × Sd => q.2) (p := fun x : Sd => decide (x.2.1 ≠ [])) (l := ts.zip xs)
      rw [e1] at this
      rw [this]
      rfl
    have hin2 : ∀ q ∈ (ts.zip xs).filter (fun q => decide (q.2.2.1 ≠ [])), SdAt H q.1 q.2 ∧ RowOk q.2 := fun q hq => by
      obtain ⟨a, b⟩ := hin q (List.mem_filter.mp hq).1
      exact ⟨a, ok _ b⟩
    unfold ChdB at k1 k2
    rw [← em] at k1 k2
    generalize (ts.zip xs).filter (fun q => decide (q.2.2.1 ≠ [])) = A at hD hin2 k1 k2
    dsimp only
    refine ⟨_, rfl, D, _, rfl, SqL.of hD, for_it (walk_enum (xs := A.map fun q => V.ref q.1)) (fun i σ' H' => (∃ u2 u3 u4 u5, σ' = [some (.ref l), some (.ref D), u2, u3, u4, u5]) ∧ Same H2 H' ∧ ∀ (i' j : Nat) (x y : Sd), i' < i → (A.map (·.2))[i']? = some x → (A.map (·.2))[j]? = some y → i' < j → leftOf (x.2.1 ++ x.2.2) y.2.2 = [] ∨ leftOf (y.2.1 ++ y.2.2) x.2.2 = []) ⟨⟨none, none, none, none, rfl⟩, fun _ _ e => e, fun i' j x y h => absurd h (Nat.not_lt_zero _)⟩ (fun i σ' H' _ q => SqL.of (q.2.1 _ _ hD)) ?_ ?_⟩
    · rintro i v σ' H3 H4 hi ⟨⟨u2, u3, u4, u5, rfl⟩, S3, hf⟩ ⟨T, xv, yv, rfl, nT, rfl, ex, ey⟩
      replace ex : some (V.int (i : Nat)) = some xv := ex
      replace ey : (A.map fun q => V.ref q.1)[i]? = some yv := ey
      obtain rfl := Option.some.inj ex
      rw [List.getElem?_map] at ey
      obtain ⟨q, hq, rfl⟩ := Option.map_eq_some_iff.mp ey
      obtain ⟨⟨c1, c2, r0, r1, r2⟩, qr⟩ := hin2 q (List.mem_of_getElem? hq)
      have S34 : Same H3 (upd H3 T (.tup [.int (i : Nat), .ref q.1])) := Same.upd nT
      have S24 := S3.trans S34
      refine ⟨T, _, rfl, SqT.of upd_same, rfl, _, _, rfl, _, _, rfl, rfl, ?_⟩
      generalize upd H3 T (.tup [.int (i : Nat), .ref q.1]) = H4 at S34 S24 ⊢
      refine ⟨_, rfl, _, rfl, (i : Int), 1, rfl, rfl, (i : Int) + 1, rfl, D, _, rfl, SqL.of (S24 _ _ hD), fun p H5 S5 np hp5 => ?_⟩
      have ec : cutV (A.map fun q => V.ref q.1) (some ((i : Int) + 1)) none = (A.map fun q => V.ref q.1).drop (i + 1) := by
        rw [← cut_drop]
        rfl
      rw [ec] at hp5
      have S25 := S24.trans S5
      refine ⟨p, rfl, ⟨_, SqL.of hp5⟩, for_it (walk_list (xs := (A.map fun q => V.ref q.1).drop (i + 1))) (fun j σ' H' => (∃ u5, σ' = [some (.ref l), some (.ref D), u2, some (.int i), some (.ref q.1), u5]) ∧ Same H5 H' ∧ ∀ (j' : Nat) (y : Sd), j' < j → (A.map (·.2))[i + 1 + j']? = some y → leftOf (q.2.2.1 ++ q.2.2.2) y.2.2 = [] ∨ leftOf (y.2.1 ++ y.2.2) q.2.2.2 = []) ⟨⟨_, rfl⟩, fun _ _ e => e, fun j' y h => absurd h (Nat.not_lt_zero _)⟩ (fun j σ' H' _ w => SqL.of (w.2.1 _ _ hp5)) ?_ ?_⟩
      · rintro j v σ' H6 H7 hj ⟨⟨u5, rfl⟩, S6, hg⟩ ⟨rfl, hv⟩
        rw [List.getElem?_drop, List.getElem?_map] at hv
        obtain ⟨q2, hq2, rfl⟩ := Option.map_eq_some_iff.mp hv
        obtain ⟨⟨d1, d2, w0, w1, w2⟩, qr2⟩ := hin2 q2 (List.mem_of_getElem? hq2)
        have S06 := S2.trans (S25.trans S6)
        obtain ⟨a1, a2, a3, a4⟩ := qr
        obtain ⟨b1, b2, b3, b4⟩ := qr2
        refine ⟨_, rfl, q.1, _, 1, _, rfl, rfl, SqT.of (S06 _ _ r0), rfl, _, rfl, q.1, _, 2, _, rfl, rfl, SqT.of (S06 _ _ r0), rfl, c1, c2, _, _, rfl, rfl, S06 _ _ r1, S06 _ _ r2, by rw [List.length_map, List.length_map, sizeLine_eq]; omega, fun c H8 S8 nc hc => ?_⟩
        rw [← List.map_append] at hc
        have S08 := S06.trans S8
        refine ⟨_, rfl, q2.1, _, 2, _, rfl, rfl, SqT.of (S08 _ _ w0), rfl, c, d2, _, q2.2.2.2, rfl, SqL.of hc, SqL.of (S08 _ _ w2), fun z hz => (List.mem_append.mp hz).elim (a1 z) (a2 z), by rw [List.length_append]; omega, fun H9 S9 => ⟨_, rfl, ?_⟩⟩
        have S09 := S08.trans S9
        have step : ∀ (H' : Hp), Same H7 H' → (leftOf (q.2.2.1 ++ q.2.2.2) q2.2.2.2 = [] ∨ leftOf (q2.2.2.1 ++ q2.2.2.2) q.2.2.2 = []) → Same H5 H' ∧ ∀ (j' : Nat) (y : Sd), j' < j + 1 → (A.map (·.2))[i + 1 + j']? = some y → leftOf (q.2.2.1 ++ q.2.2.2) y.2.2 = [] ∨ leftOf (y.2.1 ++ y.2.2) q.2.2.2 = [] := fun H' S h => by
          refine ⟨S6.trans S, fun j' y hj' hy => ?_⟩
          by_cases ej : j' = j
          · subst ej
            rw [List.getElem?_map, hq2] at hy
            cases hy
            exact h
          · exact hg j' y (by omega) hy
        cases hb : fitsB (q.2.2.1 ++ q.2.2.2) q2.2.2.2 with
        | true =>
          refine ifF rfl ?_
          exact ⟨⟨_, rfl⟩, step H9 (S8.trans S9) (.inl (fitsB_iff.mp hb))⟩
        | false =>
          refine ifT rfl ?_
          refine ⟨_, rfl, q2.1, _, 1, _, rfl, rfl, SqT.of (S09 _ _ w0), rfl, _, rfl, q2.1, _, 2, _, rfl, rfl, SqT.of (S09 _ _ w0), rfl, d1, d2, _, _, rfl, rfl, S09 _ _ w1, S09 _ _ w2, by rw [List.length_map, List.length_map, sizeLine_eq]; omega, fun c' H10 S10 nc' hc' => ?_⟩
          rw [← List.map_append] at hc'
          have S010 := S09.trans S10
          refine ⟨_, rfl, q.1, _, 2, _, rfl, rfl, SqT.of (S010 _ _ r0), rfl, c', c2, _, q.2.2.2, rfl, SqL.of hc', SqL.of (S010 _ _ r2), fun z hz => (List.mem_append.mp hz).elim (b1 z) (b2 z), by rw [List.length_append]; omega, fun H11 S11 => ⟨_, rfl, ?_⟩⟩
          cases hb2 : fitsB (q2.2.2.1 ++ q2.2.2.2) q.2.2.2 with
          | true =>
            refine ifF rfl ?_
            exact ⟨⟨_, rfl⟩, step H11 (S8.trans (S9.trans (S10.trans S11))) (.inr (fitsB_iff.mp hb2))⟩
          | false =>
            refine ifT rfl (k2 (fun c => ?_) H11 (S010.trans S11))
            have m1 : (A.map (·.2))[i]? = some q.2 := by rw [List.getElem?_map, hq]; rfl
            have m2 : (A.map (·.2))[i + 1 + j]? = some q2.2 := by rw [List.getElem?_map, hq2]; rfl
            rcases c i (i + 1 + j) _ _ m1 m2 (by omega) with g | g
            · rw [fitsB_iff.mpr g] at hb; cases hb
            · rw [fitsB_iff.mpr g] at hb2; cases hb2
      · rintro σ' H6 ⟨⟨u5, rfl⟩, S6, hg⟩
        refine ⟨⟨_, _, _, _, rfl⟩, S25.trans S6, fun i' j x y hi' hx1 hy1 hij => ?_⟩
        by_cases ei : i' = i
        · subst ei
          rw [List.getElem?_map, hq] at hx1
          cases hx1
          have hl2 := (List.getElem?_eq_some_iff.mp hy1).1
          rw [List.length_map] at hl2
          refine hg (j - (i' + 1)) y ?_ (by rw [show i' + 1 + (j - (i' + 1)) = j by omega]; exact hy1)
          rw [List.length_drop, List.length_map]
          omega
        · exact hf i' j x y (by omega) hx1 hy1 hij
    · rintro σ' H3 ⟨⟨u2, u3, u4, u5, rfl⟩, S3, hf⟩
      rw [List.length_map] at hf
      refine k1 (fun i j x y h1 h2 hij => hf i j x y ?_ h1 h2 hij) H3 (S2.trans S3)
      have := (List.getElem?_eq_some_iff.mp h1).1
      rw [List.length_map] at this
      exact this
end
end E4

set_option Elab.async false
set_option linter.all false
set_option maxRecDepth 100000
set_option maxHeartbeats 1000000
/-! rows any two of which go one into the other: their cells have places of their own -/
namespace E4
open PySem PySem.Spec PyProof.Rows L2
open PySem.W (dataLe)
theorem left_iff {p o : List Str} : leftOf p o = [] ↔ ∀ z, p.count z ≤ o.count z := by
  constructor
  · intro h z
    have h1 : (leftOf p o).count z = 0 := by rw [h]; rfl
    rw [count_leftOf] at h1
    omega
  · exact leftOf_nil
theorem fit_norm {x y : Sd} (h : leftOf (x.2.1 ++ x.2.2) y.2.2 = []) : Fit (norm x) (norm y) := by
  rw [left_iff] at h
  refine leftOf_nil fun z => ?_
  have h1 := h z
  show (sortT x.2.2 ++ sortT x.2.1).count z ≤ (sortT y.2.2).count z
  rw [List.count_append, (sortT_perm x.2.2).count_eq, (sortT_perm x.2.1).count_eq, (sortT_perm y.2.2).count_eq]
  rw [List.count_append] at h1
  omega
theorem le_int {β : Type} (ln : β → Nat) (a b : β) (h : dataLe false (fun x => PyData.int (ln x : Int)) a b = true) : ln a ≤ ln b := by
  simp [dataLe, PySem.W.sortLe, PySem.W.keyToks, PyProof.Rows.lexLt, PyProof.Rows.itemLt] at h
  omega
theorem sortB_pw {β : Type} (ln : β → Nat) (l : List β) : (sortB ln l).Pairwise fun a b => ln a ≤ ln b := by
  have T : PySem.W.TotalLe (dataLe false fun x : β => PyData.int (ln x : Int)) := PySem.W.sortLe_total _ _ _
  have h : (sortB ln l).Pairwise fun a b => dataLe false (fun x : β => PyData.int (ln x : Int)) a b = true := List.pairwise_mergeSort T.trans (fun a b => by rcases T.total a b with h | h <;> simp [h]) l
  exact h.imp fun {a b} q => le_int ln a b q
theorem chn_of {xs : List Sd} (ok : SdsOk xs) (h : ChdB xs) : Chn (xs.map norm) := by
  intro j x y hx hy
  have pm : (ordL (xs.map norm)).Perm ((xs.map norm).filter fun x => decide (0 < x.2.1.length)) := List.mergeSort_perm _ _
  have pw := sortB_pw (fun x : Sd => x.2.2.length) ((xs.map norm).filter fun x => decide (0 < x.2.1.length))
  have hl : x.2.2.length ≤ y.2.2.length := by
    obtain ⟨a1, a2⟩ := List.getElem?_eq_some_iff.mp hx
    obtain ⟨b1, b2⟩ := List.getElem?_eq_some_iff.mp hy
    have := List.pairwise_iff_getElem.mp pw j (j + 1) a1 b1 (by omega)
    rw [← a2, ← b2]
    exact this
  have ndo : ((ordL (xs.map norm)).map (·.1)).Nodup := by
    have h1 : (((xs.map norm).filter fun x => decide (0 < x.2.1.length)).map (·.1)).Nodup := by
      have := ok.norm.nd
      exact this.sublist ((List.filter_sublist).map _)
    exact (pm.map (·.1)).nodup_iff.mpr h1
  have ne : x.1 ≠ y.1 := fun e => by
    have hx1 : ((ordL (xs.map norm)).map (·.1))[j]? = some x.1 := by rw [List.getElem?_map, hx]; rfl
    have hy1 : ((ordL (xs.map norm)).map (·.1))[j + 1]? = some x.1 := by rw [List.getElem?_map, hy, e]; rfl
    have hj := (List.getElem?_eq_some_iff.mp hx1).1
    have := (List.getElem?_inj (i := j) (j := j + 1) hj ndo).mp (hx1.trans hy1.symm)
    omega
  have from_ : ∀ u ∈ ordL (xs.map norm), ∃ u' ∈ xs.filter (fun x => decide (x.2.1 ≠ [])), u = norm u' := fun u hu => by
    obtain ⟨h1, h2⟩ := mem_ordL.mp hu
    obtain ⟨u', hu', rfl⟩ := List.mem_map.mp h1
    refine ⟨u', List.mem_filter.mpr ⟨hu', ?_⟩, rfl⟩
    refine decide_eq_true fun c => ?_
    have h3 : 0 < (sortT u'.2.1).length := h2
    rw [length_sortT, c] at h3
    exact absurd h3 (by decide)
  obtain ⟨x', hx', rfl⟩ := from_ x (List.mem_of_getElem? hx)
  obtain ⟨y', hy', rfl⟩ := from_ y (List.mem_of_getElem? hy)
  have hlx : (norm x').2.2.length = x'.2.2.length := length_sortT _
  have hly : (norm y').2.2.length = y'.2.2.length := length_sortT _
  rw [hlx, hly] at hl
  have hys : y'.2.1 ≠ [] := of_decide_eq_true (List.mem_filter.mp hy').2
  have no2 : ¬ leftOf (y'.2.1 ++ y'.2.2) x'.2.2 = [] := fun c => by
    have := leftOf_len x'.2.2 (y'.2.1 ++ y'.2.2)
    rw [c, List.length_append] at this
    have h0 : 0 < y'.2.1.length := List.length_pos_iff.mpr hys
    simp only [List.length_nil] at this
    omega
  obtain ⟨i1, hi1⟩ := List.mem_iff_getElem?.mp hx'
  obtain ⟨i2, hi2⟩ := List.mem_iff_getElem?.mp hy'
  have nei : i1 ≠ i2 := fun e => by
    subst e
    rw [hi1] at hi2
    cases hi2
    exact ne rfl
  refine fit_norm ?_
  rcases Nat.lt_or_ge i1 i2 with c | c
  · exact (h i1 i2 x' y' hi1 hi2 c).resolve_right no2
  · exact (h i2 i1 y' x' hi2 hi1 (by omega)).resolve_left no2
end E4

set_option Elab.async false
set_option linter.all false
set_option maxRecDepth 100000
set_option maxHeartbeats 1000000
/-! law_k55's law -/
namespace E4
open PySem PySem.Spec PyProof.Rows L2
open C8 (Cal Mak Met InsC pe_c pe_mt pe_mt0 call_isC clsBody)
open E3 (PurseAt spPurse spMixed spDraw)
open LamX (Tabs ExtN TabB CodeO)
abbrev sLaw : Stmt := top 46
def spLaw (T : List (Addr × Str)) (K : PySem.W.Frag) : Sp := fun vs H Q _ => ∃ (sc : Addr) (ns : List Int), vs = [.ref sc] ∧ SqL K H sc (ns.map V.int) ∧ ns.length ≤ 63 ∧ Tabs T H ∧ ∀ H', Q (.bl true) H'
theorem tabsP {T : List (Addr × Str)} {p : Addr} {n : Nat} {H H' : Hp} (t : Tabs T H) (hp : PurseAt H p n) (S : SameB p H H') : Tabs T H' := fun u hu => by
  obtain ⟨p0, p1, p2, hD, _⟩ := hp
  obtain ⟨ps, h1, h2, h3⟩ := t u hu
  exact ⟨ps, S _ _ (ne_of h1 hD (by intro w; cases w)) h1, h2, fun pos cv e => let ⟨c, e1, e2⟩ := h3 pos cv e; ⟨c, e1, S _ _ (ne_of e2 hD (by unfold CodeO; intro w; cases w)) e2⟩⟩
theorem PurseAt.ext {p : Addr} {n : Nat} {H H' : Hp} (h : PurseAt H p n) (S : ExtN H H') : PurseAt H' p n :=
  let ⟨p0, p1, p2, h1, r⟩ := h; ⟨p0, p1, p2, S _ _ h1 (fun _ z => nomatch z), r⟩
theorem dp_ints {K : PySem.W.Frag} {H : Hp} : ∀ l : List Int, DpAll K H (l.map V.int) (l.map PyData.int)
  | [] => .nil
  | _ :: l => .cons (.int _) (dp_ints l)
theorem lay_ints : ∀ l : List Int, PyData.canLayAll0 (l.map PyData.int) = true
  | [] => rfl
  | _ :: l => by simpa [PyData.canLayAll0, PyData.canLay0] using lay_ints l
theorem dep_ints : ∀ l : List Int, PyData.depthAll (l.map PyData.int) = 0
  | [] => rfl
  | x :: l => by
    show max (PyData.depth (.int x)) (PyData.depthAll (l.map PyData.int)) = 0
    rw [dep_ints l]
    rfl
end E4

set_option Elab.async false
set_option linter.all false
set_option maxRecDepth 100000
set_option maxHeartbeats 1000000
/-! _law_times, _law_spot -/
namespace E4
open PySem PySem.Spec PyProof.Rows L2
open C8 (Cal Mak Met InsC pe_c pe_mt pe_mt0 call_isC clsBody)
open E3 (PurseAt spPurse spMixed spDraw)
abbrev sTimes : Stmt := top 38
abbrev sSpot : Stmt := top 41
/-- values of letters: small whole numbers from 1 on -/
structure ValsOk (vl : Vls) (xs : List Sd) : Prop where
  mem : ∀ x ∈ xs, ∀ z, z ∈ x.2.1 ∨ z ∈ x.2.2 → z ∈ vl.map (·.1)
  bd : AllV (fun n => 1 ≤ n ∧ n.natAbs < 2 ^ 400) vl
abbrev tm (vl : Vls) (m : List Str) : Int := prodI (m.map (gOf vl))
theorem val_at {vl : Vls} {p : Int → Prop} (ha : AllV p vl) {z : Str} (hz : z ∈ vl.map (·.1)) : valV (dI vl) (Sum.inr z) = some (.int (gOf vl z)) ∧ p (gOf vl z) := by
  obtain ⟨e1, e2⟩ := gOf_at rfl ha hz
  exact ⟨by rw [valV_dI, e1]; rfl, e2⟩
theorem tm_lt {vl : Vls} {m : List Str} (ha : AllV (fun n => 1 ≤ n ∧ n.natAbs < 2 ^ 400) vl) (h : ∀ z ∈ m, z ∈ vl.map (·.1)) : (tm vl m).natAbs < 2 ^ (1 + m.length * 400) := prod_lt _ _ fun z hz => (val_at ha (h z hz)).2.2
theorem tm_append (vl : Vls) (a b : List Str) : tm vl (a ++ b) = tm vl a * tm vl b := by unfold tm; rw [List.map_append, prodI_append]
/-- the place of a cell -/
def spotI (vl : Vls) (xs : List Sd) (cs : List Int) : Int := ((xs.zip cs).map fun p => p.2 * tm vl p.1.2.2).sum
section
variable {P : Program} {w : World} {K : PySem.W.Frag} {mg : Str → Option Value} {base : Heap}
theorem atI_get {xs : List V} {i : Nat} {v : V} (h : xs[i]? = some v) : atI xs (i : Int) = some v := by
  have hl := (List.getElem?_eq_some_iff.mp h).1
  unfold atI ixN
  rw [if_pos (by omega), if_pos (by omega)]
  exact h
end
end E4

set_option Elab.async false
set_option linter.all false
set_option maxRecDepth 100000
set_option maxHeartbeats 1000000
/-! _law_times, _law_spot where other letters may have any values -/
namespace E4
open PySem PySem.Spec PyProof.Rows L2
open C8 (Cal Mak Met InsC pe_c pe_mt pe_mt0 call_isC clsBody)
open E3 (PurseAt spPurse spMixed spDraw)
/-- letters with good values -/
abbrev GdV (vl : Vls) (m : List Str) : Prop := ∀ z ∈ m, z ∈ vl.map (·.1) ∧ 1 ≤ gOf vl z ∧ (gOf vl z).natAbs < 2 ^ 400
abbrev GdR (vl : Vls) (xs : List Sd) : Prop := ∀ x ∈ xs, GdV vl x.2.1 ∧ GdV vl x.2.2
theorem valG {vl : Vls} {z : Str} (h : z ∈ vl.map (·.1)) : valV (dI vl) (Sum.inr z) = some (.int (gOf vl z)) := by
  obtain ⟨n, hn, hm⟩ := getI_isSome h
  have e : gOf vl z = n := by unfold gOf; rw [hn]; rfl
  rw [valV_dI, hn, e]
  rfl
theorem tm_posG {vl : Vls} {m : List Str} (h : GdV vl m) : 1 ≤ tm vl m := prod_pos fun z hz => (h z hz).2.1
theorem tm_ltG {vl : Vls} {m : List Str} (h : GdV vl m) : (tm vl m).natAbs < 2 ^ (1 + m.length * 400) := prod_lt _ _ fun z hz => (h z hz).2.2
def spTimesG (K : PySem.W.Frag) : Sp := fun vs H Q _ => ∃ (t d : Addr) (m : List Str) (vl : Vls), vs = [.ref t, .ref d] ∧ SqL K H t (m.map V.str) ∧ H d = some (.dK (dI vl)) ∧ GdV vl m ∧ m.length ≤ 1000 ∧ Q (.int (tm vl m)) H
def spSpotG (K : PySem.W.Frag) : Sp := fun vs H Q _ => ∃ (l d c : Addr) (ts : List Addr) (xs : List Sd) (vl : Vls) (cs : List Int), vs = [.ref l, .ref d, .ref c] ∧ SqL K H l (ts.map V.ref) ∧ SdsAt H ts xs ∧ H d = some (.dK (dI vl)) ∧ GdR vl xs ∧ (∀ x ∈ xs, RowOk x) ∧ xs.length ≤ 8 ∧
  SqL K H c (cs.map V.int) ∧ cs.length = xs.length ∧ (∀ i ∈ cs, i.natAbs < 2 ^ 4000) ∧ ∀ H', Same H H' → Q (.int (spotI vl xs cs)) H'
section
variable {P : Program} {w : World} {K : PySem.W.Frag} {mg : Str → Option Value} {base : Heap}
theorem scTimesG : FnScope ["_law_product", "_law_sizes_here", "_law_found", "_law_one"] ["_law_product", "_law_sizes_here"] (defScope sTimes) := ⟨rfl, rfl, rfl, by decide +kernel, rfl, by decide +kernel, by decide +kernel⟩
theorem ok_timesG {f : Addr} {fd : FuncData} (F : Fun K "_law_times" "_law_times" sTimes f fd) : FnOk P w K mg base CX0 1 f fd ["_law_product", "_law_sizes_here"] (spTimesG K) := by
  refine F.ok scTimesG (fun vs H Q E h => ?_) (fun cdv A outer s H vs Q E hr h => ?_)
  · obtain ⟨t, d, m, vl, rfl, _⟩ := h
    rfl
  · obtain ⟨t, d, m, vl, rfl, ht, hd, hb, hl, k⟩ := h
    have u1 := Nat.lt_of_le_of_lt (Nat.add_le_add_left (by decide : 1 ≤ 64) _) hr.units
    refine ⟨_, pss_cons (ps_set (i := 2) scTimesG.nd rfl (Or.inl rfl) pe_int)
      (pss_cons (ps_for PassesOwn.never rfl (pi_list (pv 0)) (pg_name (i := 3) scTimesG.nd rfl (Or.inl rfl)) (pss_one (ps_set (i := 2) scTimesG.nd rfl (Or.inl rfl) (pe_op op_mulW (pv 2) (pe_dget u1 (pv 1) (pv 3) (fun _ _ => rfl))))))
      (pss_one (ps_ret (pv 2)))), ?_⟩
    refine seq_asg ⟨_, rfl, t, rfl, ⟨_, ht⟩, for_it (walk_list (xs := m.map V.str)) (fun i σ H' => H' = H ∧ ∃ u, σ = [some (.ref t), some (.ref d), some (.int (tm vl (m.take i))), u]) ⟨rfl, none, rfl⟩ ?_ ?_ ?_⟩
    · rintro i σ H' _ ⟨rfl, _⟩
      exact ht
    · rintro i x σ H1 H2 hi ⟨rfl, u, rfl⟩ ⟨rfl, hx⟩
      rw [List.length_map] at hi
      rw [List.getElem?_map] at hx
      obtain ⟨z, hz, rfl⟩ := Option.map_eq_some_iff.mp hx
      obtain ⟨hm, _, hg⟩ := hb z (List.mem_of_getElem? hz)
      have p1 := tm_ltG (vl := vl) (m := m.take i) fun y hy => hb y (List.mem_of_mem_take hy)
      have tl : (m.take i).length ≤ 1000 := by rw [List.length_take]; omega
      refine ⟨_, rfl, _, rfl, _, rfl, d, _, rfl, by rw [← valG hm]; exact DGet.k (k := Sum.inr z) hd, _, _, rfl, rfl, cmw p1 hg (by omega) (by decide) (by omega), rfl, some (V.str z), ?_⟩
      rw [take_snoc hz, tm_append]
      show _ = [_, _, some (V.int (_ * (gOf vl z * 1))), _]
      rw [Int.mul_one]
      rfl
    · rintro σ H1 ⟨rfl, u, rfl⟩
      rw [List.length_map, List.take_length]
      exact ⟨_, rfl, k⟩
theorem scSpotG : FnScope ["_law_rows", "_law_sizes_here", "_law_cell_here", "_law_at"] ["_law_rows", "_law_sizes_here", "_law_cell_here"] (defScope sSpot) := ⟨rfl, rfl, rfl, by decide +kernel, rfl, by decide +kernel, by decide +kernel⟩
theorem ok_spotG {f : Addr} {fd : FuncData} (F : Fun K "_law_spot" "_law_spot" sSpot f fd) (B : E3.Bt4 mg) (Tm : Cal P w K mg base 1 "_law_times" (spTimesG K) []) : FnOk P w K mg base CX0 2 f fd ["_law_rows", "_law_sizes_here", "_law_cell_here"] (spSpotG K) := by
  refine F.ok scSpotG (fun vs H Q E h => ?_) (fun cdv A outer s H vs Q E hr h => ?_)
  · obtain ⟨l, d, c, ts, xs, vl, cs, rfl, _⟩ := h
    rfl
  · obtain ⟨l, d, c, ts, xs, vl, cs, rfl, hl, hx, hd, vok, ok, l8, hc, lc, cb, k⟩ := h
    refine ⟨_, pss_one (ps_ret (pe_callB (cr_sum rfl) (by rfl) B.sum_ (by decide +kernel) (pa_cons (pe_lc (own := [("_law_at", 3)]) (g := gName 3) (tt := tYes)
        (te := tOp (rI CMulW fun i j => .int (i * j)) (tOp (rIxL K) (tVar 2) (tVar 3)) (tCall (spTimesG K) [] C8.E0 (tCons (tOp (rIxT K) (tOp (rIxL K) (tVar 0) (tVar 3)) (tC (.int 2))) (tCons (tVar 1) tNil)))) rfl scSpotG.nd
        (pi_range1 rfl B.rng_ (pa_cons (pe_callB call_len_seq (by rfl) B.len_ PySem.boot_len (pa_cons (pv 0) pa_nil)) pa_nil))
        (blkOk_by (own := [("_law_at", 3)]) (N := ["_law_rows", "_law_sizes_here", "_law_cell_here", "_law_at"]) (sc := defScope sSpot) (by decide +kernel))
        (fun _ _ _ _ _ => pg_name (i := 3) scSpotG.nd rfl (Or.inl rfl)) (fun _ _ _ _ _ => pts_nil)
        (fun _ _ _ _ _ => by exact pe_op op_mulW (pe_ix ix_list (pv 2) (pv 3) (fun _ _ => rfl)) (pe_c Tm hr (by decide) rfl (pa_cons (pe_ix ix_tup (pe_ix ix_list (pv 0) (pv 3) (fun _ _ => rfl)) pe_int (fun _ _ => rfl)) (pa_cons (pv 1) pa_nil))))) pa_nil))), ?_⟩
    have lt := hx.length
    have lx : (ts.map V.ref).length = xs.length := by rw [List.length_map]; exact lt
    refine ⟨_, rfl, l, _, rfl, .inl hl, _, rfl, by rw [lx]; omega, by rw [lx]; omega, fun D nD => ?_⟩
    rw [lx, Int.toNat_natCast]
    refine lc_it (walk_range (n := xs.length)) (fun i H' => Same H H' ∧ H' D = some (.lst ((((xs.zip cs).map fun p => p.2 * tm vl p.1.2.2).take i).map V.int))) ⟨Same.upd nD, upd_same⟩ (fun _ _ _ _ => trivial) ?_ ?_
    · rintro i x H2 H3 hi ⟨S2, hD⟩ ⟨rfl, rfl⟩
      have hxi : xs[i]? = some xs[i] := List.getElem?_eq_getElem hi
      have hci : cs[i]? = some cs[i] := List.getElem?_eq_getElem (by omega)
      generalize xs[i] = y at hxi
      generalize cs[i] = n at hci
      obtain ⟨t, ht, c1, c2, r0, r1, r2⟩ := paired_ix hx hxi
      obtain ⟨a1, a2, a3, a4⟩ := ok y (List.mem_of_getElem? hxi)
      have ym := (vok y (List.mem_of_getElem? hxi)).2
      have hz : ((xs.zip cs).map fun p => p.2 * tm vl p.1.2.2)[i]? = some (n * tm vl y.2.2) := by rw [List.getElem?_map, show (xs.zip cs)[i]? = some (y, n) from List.getElem?_zip_eq_some.mpr ⟨hxi, hci⟩]; rfl
      refine ⟨rfl, iteT (B := False) ⟨_, rfl, _, rfl, c, _, (0 : Int) + (i : Nat), _, rfl, rfl, hc.same S2, by rw [Int.zero_add]; exact atI_get (by rw [List.getElem?_map, hci]; rfl), ?_⟩⟩
      refine ⟨_, rfl, _, rfl, l, _, (0 : Int) + (i : Nat), _, rfl, rfl, hl.same S2, by rw [Int.zero_add]; exact atI_get (by rw [List.getElem?_map, ht]; rfl), t, _, 2, _, rfl, rfl, SqT.of (S2 _ _ r0), rfl, _, rfl, c2, d, y.2.2, vl, rfl, SqL.of (S2 _ _ r2), S2 _ _ hd, ym, by omega, ?_⟩
      refine ⟨_, _, rfl, rfl, cmw (cb n (List.mem_of_getElem? hci)) (tm_ltG ym) (by decide) (by omega) (by omega), _, hD, ?_, ?_, ?_⟩
      · rw [List.length_map, List.length_take, sizeLine_eq]
        omega
      · intro b o e
        rw [upd_ne (ne_of_none e nD)]
        exact S2 _ _ e
      · rw [upd_same, take_snoc hz, List.map_append]
        rfl
    · rintro H2 ⟨S2, hD⟩
      have e : ((xs.zip cs).map fun p => p.2 * tm vl p.1.2.2).take xs.length = (xs.zip cs).map fun p => p.2 * tm vl p.1.2.2 := List.take_of_length_le (by rw [List.length_map, List.length_zip]; omega)
      rw [e] at hD
      exact ⟨D, _, rfl, SqL.of hD, k H2 S2⟩
end
end E4

set_option Elab.async false
set_option linter.all false
set_option maxRecDepth 100000
set_option maxHeartbeats 1000000
/-! _law_cells -/
namespace E4
open PySem PySem.Spec PyProof.Rows L2
open C8 (Cal Mak Met InsC pe_c pe_mt pe_mt0 call_isC clsBody)
theorem ValsOk.take {vl : Vls} {xs : List Sd} (v : ValsOk vl xs) (i : Nat) : ValsOk vl (xs.take i) := ⟨fun x hx => v.mem x (List.mem_of_mem_take hx), v.bd⟩
/-- lists of whole numbers -/
def CsAt (H : Hp) (as : List Addr) (cs : List (List Int)) : Prop := Paired (fun (a : Addr) (c : List Int) => H a = some (.lst (c.map V.int))) as cs
theorem CsAt.imp {H H' : Hp} {as : List Addr} {cs : List (List Int)} (h : CsAt H as cs) (k : ∀ a ∈ as, ∀ o, H a = some o → H' a = some o) : CsAt H' as cs := by
  unfold CsAt at h ⊢
  induction h with
  | nil => exact .nil
  | cons r t ih => exact .cons (k _ List.mem_cons_self _ r) (ih fun z hz => k z (List.mem_cons_of_mem _ hz))
theorem CsAt.same {H H' : Hp} {as : List Addr} {cs : List (List Int)} (h : CsAt H as cs) (S : Same H H') : CsAt H' as cs := h.imp fun a _ o e => S _ _ e
theorem CsAt.there {H : Hp} {as : List Addr} {cs : List (List Int)} (h : CsAt H as cs) : ∀ a ∈ as, H a ≠ none := by
  unfold CsAt at h
  induction h with
  | nil => exact fun _ h => absurd h List.not_mem_nil
  | cons r t ih =>
    intro a ha
    rcases List.mem_cons.mp ha with rfl | q
    · rw [r]; exact fun z => nomatch z
    · exact ih a q
section
variable {P : Program} {w : World} {K : PySem.W.Frag} {mg : Str → Option Value} {base : Heap}
end
end E4

set_option Elab.async false
set_option linter.all false
set_option maxRecDepth 100000
set_option maxHeartbeats 1000000
/-! sorted(d), d a dict with whole numbers as keys -/
namespace L2
open PySem PySem.Spec PyProof.Rows
section
variable {prog : Program} {w : World} {A : Around} {E : Value → Shared → Prop} {s : Shared} {T : String} {r d : Addr} {n : Nat} {P : Nat → Value → Prop} {OK : Heap → Prop}
end
end L2

set_option Elab.async false
set_option linter.all false
set_option maxRecDepth 100000
/-! set(xs), xs a list of whole numbers; sorted of such a set, of any size -/
namespace L2
open PySem PySem.Spec PyProof.Rows
section
variable {P : Program} {w : World} {A : Around} {E : Value → Shared → Prop} {s : Shared} {l : Addr} {items : Array Value} {ns : List Int}
end
end L2

set_option Elab.async false
set_option linter.all false
set_option maxRecDepth 100000
/-! len of a set of whole numbers -/
namespace L2
open PySem PySem.Spec PyProof.Rows
end L2

set_option Elab.async false
set_option linter.all false
set_option maxRecDepth 100000
set_option maxHeartbeats 1000000
set_option exponentiation.threshold 5000
/-! _law_apart -/
namespace E4
open PySem PySem.Spec PyProof.Rows L2
open C8 (Cal Mak Met InsC pe_c pe_mt pe_mt0 call_isC clsBody)
/-- a cell's indices -/
def CellIn (vl : Vls) (xs : List Sd) (cs : List Int) : Prop := Paired (fun (x : Sd) (i : Int) => 0 ≤ i ∧ i < tm vl x.2.1) xs cs
theorem CellIn.small {vl : Vls} {xs : List Sd} {cs : List Int} (h : CellIn vl xs cs) (v : ValsOk vl xs) (ok : ∀ x ∈ xs, RowOk x) : ∀ i ∈ cs, i.natAbs < 2 ^ 4000 := by
  intro i hi
  obtain ⟨j, hj⟩ := List.mem_iff_getElem?.mp hi
  obtain ⟨x, hx, h0, h1⟩ := paired_ix h hj
  have xm := List.mem_of_getElem? hx
  have h2 := tm_lt (m := x.2.1) v.bd fun z hz => v.mem x xm z (.inl hz)
  have h3 := (ok x xm).2.2.1
  have h4 : (tm vl x.2.1).natAbs < 2 ^ 4000 := Nat.lt_of_lt_of_le h2 (Nat.pow_le_pow_right (by decide) (by omega))
  omega
section
variable {P : Program} {w : World} {K : PySem.W.Frag} {mg : Str → Option Value} {base : Heap}
end
end E4

set_option Elab.async false
set_option linter.all false
set_option maxRecDepth 100000
set_option maxHeartbeats 1000000
/-! _law_ordered -/
namespace E4
open PySem PySem.Spec PyProof.Rows L2
open C8 (Cal Mak Met InsC pe_c pe_mt pe_mt0 call_isC clsBody)
section
variable {P : Program} {w : World} {K : PySem.W.Frag} {mg : Str → Option Value} {base : Heap}
end
end E4

set_option Elab.async false
set_option linter.all false
set_option maxRecDepth 100000
set_option maxHeartbeats 1000000
/-! the places of chained rows are apart -/
namespace E4
open PySem PySem.Spec PyProof.Rows L2
theorem prodI_perm {a b : List Int} (h : a.Perm b) : prodI a = prodI b := by
  unfold prodI
  induction h with
  | nil => rfl
  | cons x _ ih => rw [List.foldr_cons, List.foldr_cons, ih]
  | swap x y l => rw [List.foldr_cons, List.foldr_cons, List.foldr_cons, List.foldr_cons, Int.mul_left_comm]
  | trans _ _ h1 h2 => exact h1.trans h2
theorem tm_perm {vl : Vls} {a b : List Str} (h : a.Perm b) : tm vl a = tm vl b := prodI_perm (h.map _)
theorem sumI_perm {a b : List Int} (h : a.Perm b) : a.sum = b.sum := by
  induction h with
  | nil => rfl
  | cons x _ ih => rw [List.sum_cons, List.sum_cons, ih]
  | swap x y l => rw [List.sum_cons, List.sum_cons, List.sum_cons, List.sum_cons, Int.add_left_comm]
  | trans _ _ h1 h2 => exact h1.trans h2
/-- what goes into another product, and what is left of it -/
theorem left_perm {p o : List Str} (h : leftOf p o = []) : (p ++ leftOf o p).Perm o := by
  rw [List.perm_iff_count]
  intro z
  have := left_iff.mp h z
  rw [List.count_append, count_leftOf]
  omega
theorem tm_dvd {vl : Vls} {p o : List Str} (h : leftOf p o = []) : tm vl p ∣ tm vl o := by
  rw [← tm_perm (left_perm h), tm_append]
  exact Int.dvd_mul_right _ _
/-- two rows of which one goes into the other -/
def FitE (x y : Sd) : Prop := leftOf (x.2.1 ++ x.2.2) y.2.2 = []
theorem FitE.len {x y : Sd} (h : FitE x y) : x.2.1.length + x.2.2.length ≤ y.2.2.length := by
  have := leftOf_len y.2.2 (x.2.1 ++ x.2.2)
  unfold FitE at h
  rw [h, List.length_append] at this
  simpa using this
theorem FitE.dvd {vl : Vls} {x y : Sd} (h : FitE x y) : tm vl x.2.1 * tm vl x.2.2 ∣ tm vl y.2.2 := by
  rw [← tm_append]
  exact tm_dvd h
/-- any two rows with two cells or more -/
theorem chd_pw {xs : List Sd} : ChdB xs ↔ (xs.filter fun x => decide (x.2.1 ≠ [])).Pairwise fun x y => FitE x y ∨ FitE y x := by
  unfold ChdB
  rw [List.pairwise_iff_getElem]
  constructor
  · intro h i j hi hj hij
    exact h i j _ _ (List.getElem?_eq_getElem hi) (List.getElem?_eq_getElem hj) hij
  · intro h i j x y hx hy hij
    obtain ⟨h1, rfl⟩ := List.getElem?_eq_some_iff.mp hx
    obtain ⟨h2, rfl⟩ := List.getElem?_eq_some_iff.mp hy
    exact h i j h1 h2 hij
theorem sortB_perm {β : Type} (ln : β → Nat) (l : List β) : (sortB ln l).Perm l := List.mergeSort_perm _ _
theorem spot_cons (vl : Vls) (x : Sd) (xs : List Sd) (i : Int) (cs : List Int) : spotI vl (x :: xs) (i :: cs) = i * tm vl x.2.2 + spotI vl xs cs := by unfold spotI; rw [List.zip_cons_cons, List.map_cons, List.sum_cons]
end E4

set_option Elab.async false
set_option linter.all false
set_option maxRecDepth 100000
set_option maxHeartbeats 1000000
/-! rows put in order by what fits into what -/
namespace E4
open PySem PySem.Spec PyProof.Rows L2
abbrev sl (x : Sd) : Nat := x.2.2.length
/-- rows with two cells or more of which any two go one into the other, laid one by one -/
structure OrdOk (acc src : List Sd) : Prop where
  pm : acc.Perm src
  pw : acc.Pairwise fun a b => sl a < sl b
theorem fitE_norm {x y : Sd} : FitE (norm x) (norm y) ↔ FitE x y := by
  unfold FitE
  rw [left_iff, left_iff]
  have : ∀ z, ((norm x).2.1 ++ (norm x).2.2).count z ≤ (norm y).2.2.count z ↔ (x.2.1 ++ x.2.2).count z ≤ y.2.2.count z := fun z => by
    show (sortT x.2.1 ++ sortT x.2.2).count z ≤ (sortT y.2.2).count z ↔ _
    rw [List.count_append, List.count_append, (sortT_perm x.2.1).count_eq, (sortT_perm x.2.2).count_eq, (sortT_perm y.2.2).count_eq]
  exact ⟨fun h z => (this z).mp (h z), fun h z => (this z).mpr (h z)⟩
theorem filter_norm (xs : List Sd) : (xs.map norm).filter (fun x => decide (0 < x.2.1.length)) = (xs.filter fun x => decide (x.2.1 ≠ [])).map norm := by
  rw [List.filter_map]
  congr 1
  refine List.filter_congr fun x _ => ?_
  show decide (0 < (sortT x.2.1).length) = decide (x.2.1 ≠ [])
  rw [length_sortT, decide_eq_decide]
  exact List.length_pos_iff
theorem ordL_perm (xs : List Sd) : (ordL (xs.map norm)).Perm ((xs.filter fun x => decide (x.2.1 ≠ [])).map norm) := by
  rw [← filter_norm]
  exact sortB_perm _ _
end E4

set_option Elab.async false
set_option linter.all false
set_option maxRecDepth 100000
set_option maxHeartbeats 1000000
/-! what clash tells is right -/
namespace E4
open PySem PySem.Spec PyProof.Rows L2
theorem getI_cons (x : Str × Int) (l : Vls) (z : Str) : getI (x :: l) z = if x.1 = z then some x.2 else getI l z := by
  unfold getI
  rw [List.find?_cons]
  by_cases c : x.1 = z
  · simp [c]
  · simp [c]
theorem getI_set {l : Vls} {z : Str} {n : Int} (hz : z ∈ l.map (·.1)) (y : Str) : getI (setI l z n) y = if y = z then some n else getI l y := by
  have ha : (l.any fun x => decide (x.1 = z)) = true := by
    rw [List.any_eq_true]
    obtain ⟨x, hx, e⟩ := List.mem_map.mp hz
    exact ⟨x, hx, decide_eq_true e⟩
  unfold setI
  rw [if_pos ha]
  clear ha
  induction l with
  | nil => exact absurd hz List.not_mem_nil
  | cons x l ih =>
    rw [List.map_cons, getI_cons, getI_cons]
    by_cases c : x.1 = z
    · rw [if_pos c]
      dsimp only
      by_cases d : y = z
      · subst d
        rw [if_pos c, if_pos rfl]
      · have d2 : ¬ x.1 = y := fun e => d (e.symm.trans c)
        rw [if_neg d2, if_neg d, if_neg d2]
        by_cases m : z ∈ l.map (·.1)
        · rw [ih m, if_neg d]
        · have : l.map (fun x => if x.1 = z then (x.1, n) else x) = l := by
            have : l.map (fun x => if x.1 = z then (x.1, n) else x) = l.map id := List.map_congr_left fun u hu => by
              rw [if_neg fun e => m (List.mem_map.mpr ⟨u, hu, e⟩)]
              rfl
            rw [this, List.map_id]
          rw [this]
    · rw [if_neg c]
      have m : z ∈ l.map (·.1) := by
        rcases List.mem_cons.mp hz with e | q
        · exact absurd e.symm c
        · exact q
      by_cases d : x.1 = y
      · rw [if_pos d, if_pos d, if_neg fun e => c (d.trans e)]
      · rw [if_neg d, if_neg d, ih m]
theorem gOf_set {l : Vls} {z : Str} {n : Int} (hz : z ∈ l.map (·.1)) (y : Str) : gOf (setI l z n) y = if y = z then n else gOf l y := by
  unfold gOf
  rw [getI_set hz]
  split <;> rfl
/-- what clash's indices are -/
structure ClOk (vl : Vls) (x y : Sd) (i j : Int) : Prop where
  i1 : 1 ≤ i
  j1 : 1 ≤ j
  i2 : i < tm vl x.2.1
  j2 : j < tm vl y.2.1
  e : i * tm vl x.2.2 = j * tm vl y.2.2
end E4

set_option Elab.async false
set_option linter.all false
set_option maxRecDepth 100000
set_option maxHeartbeats 1000000
/-! mathematics of cells told back: both ways of taking a place apart find the cell that stands there -/
namespace E4
open PySem PySem.Spec PyProof.Rows L2
abbrev SS (vl : Vls) (x : Sd) : Int := tm vl x.2.1
abbrev TT (vl : Vls) (x : Sd) : Int := tm vl x.2.2
abbrev PosV (vl : Vls) (L : List Sd) : Prop := ∀ y ∈ L, 1 ≤ SS vl y ∧ 1 ≤ TT vl y
theorem gd_pos {vl : Vls} {xs : List Sd} (g : GdR vl xs) : PosV vl xs := fun x hx => ⟨tm_posG (g x hx).1, tm_posG (g x hx).2⟩
theorem mul_ge {a b : Int} (h : 0 ≤ a) (hb : 1 ≤ b) : a ≤ a * b := by
  have := Int.mul_le_mul_of_nonneg_left hb h
  rwa [Int.mul_one] at this
theorem sum_lt {vl : Vls} : ∀ (L : List Sd) (B : Int), 1 ≤ B → (∀ y ∈ L, SS vl y * TT vl y ≤ B) → L.Pairwise (fun a b => SS vl b * TT vl b ≤ TT vl a ∨ SS vl a = 1) → PosV vl L → (L.map fun x => (SS vl x - 1) * TT vl x).sum < B
  | [], B, h, _, _, _ => by show (0 : Int) < B; omega
  | y :: L, B, h, hb, pw, ps => by
    obtain ⟨p1, p2⟩ := List.pairwise_cons.mp pw
    obtain ⟨s1, t1⟩ := ps y List.mem_cons_self
    rw [List.map_cons, List.sum_cons]
    by_cases e : SS vl y = 1
    · have := sum_lt L B h (fun z hz => hb z (List.mem_cons_of_mem _ hz)) p2 fun z hz => ps z (List.mem_cons_of_mem _ hz)
      rw [e]
      omega
    · have := sum_lt L (TT vl y) t1 (fun z hz => (p1 z hz).resolve_right e) p2 fun z hz => ps z (List.mem_cons_of_mem _ hz)
      have hy := hb y List.mem_cons_self
      rw [Int.sub_mul, Int.one_mul]
      omega
theorem sum_le {α : Type} {f g : α → Int} : ∀ (L : List α), (∀ x ∈ L, 0 ≤ f x ∧ f x ≤ g x) → 0 ≤ (L.map f).sum ∧ (L.map f).sum ≤ (L.map g).sum
  | [], _ => ⟨Int.le_refl _, Int.le_refl _⟩
  | x :: L, h => by
    have ih := sum_le L fun y hy => h y (List.mem_cons_of_mem _ hy)
    have hx := h x List.mem_cons_self
    rw [List.map_cons, List.map_cons, List.sum_cons, List.sum_cons]
    omega
theorem cell_le {vl : Vls} {c : Int} {x : Sd} (p : 1 ≤ TT vl x) (h0 : 0 ≤ c) (h1 : c < SS vl x) : 0 ≤ c * TT vl x ∧ c * TT vl x ≤ (SS vl x - 1) * TT vl x :=
  ⟨Int.mul_nonneg h0 (by omega), Int.mul_le_mul_of_nonneg_right (by omega) (by omega)⟩
theorem digit {c t r : Int} (ht : 1 ≤ t) (r0 : 0 ≤ r) (r1 : r < t) : (c * t + r) / t = c ∧ (c * t + r) % t = r := by
  have h1 : c * t + r = r + c * t := Int.add_comm _ _
  rw [h1, Int.add_mul_ediv_right _ _ (by omega), Int.ediv_eq_zero_of_lt r0 r1, Int.zero_add]
  refine ⟨rfl, ?_⟩
  rw [Int.add_mul_emod_self_right]
  exact Int.emod_eq_of_lt r0 r1
theorem down_cons (vl : Vls) (x : Sd) (xs : List Sd) (r : Int) (f : Vls) : goDown vl (x :: xs) r f = if SS vl x ≤ r / TT vl x then none else goDown vl xs (r % TT vl x) (setI f x.1 (r / TT vl x)) := rfl
theorem goDown_of {vl : Vls} (c : Str → Int) : ∀ (L : List Sd) (f : Vls), L.Pairwise (fun a b => SS vl b * TT vl b ≤ TT vl a) → PosV vl L → (∀ x ∈ L, 0 ≤ c x.1 ∧ c x.1 < SS vl x) →
    goDown vl L ((L.map fun x => c x.1 * TT vl x).sum) f = some (0, L.foldl (fun f x => setI f x.1 (c x.1)) f)
  | [], f, _, _, _ => rfl
  | x :: L, f, pw, ps, h => by
    obtain ⟨p1, p2⟩ := List.pairwise_cons.mp pw
    obtain ⟨s1, t1⟩ := ps x List.mem_cons_self
    have psL : PosV vl L := fun z hz => ps z (List.mem_cons_of_mem _ hz)
    have hL : ∀ y ∈ L, 0 ≤ c y.1 ∧ c y.1 < SS vl y := fun y hy => h y (List.mem_cons_of_mem _ hy)
    have lt := sum_lt L (TT vl x) t1 p1 (p2.imp fun z => .inl z) psL
    have le := sum_le (f := fun x => c x.1 * TT vl x) (g := fun x => (SS vl x - 1) * TT vl x) L fun y hy => cell_le (psL y hy).2 (hL y hy).1 (hL y hy).2
    have hx := h x List.mem_cons_self
    rw [List.map_cons, List.sum_cons, down_cons]
    obtain ⟨d1, d2⟩ := digit (c := c x.1) t1 le.1 (by omega)
    rw [d1, d2, if_neg (by omega), goDown_of c L _ p2 psL hL]
    rfl
theorem fold_congr {c d : Str → Int} : ∀ (L : List Sd) (f : Vls), (∀ x ∈ L, c x.1 = d x.1) → L.foldl (fun f x => setI f x.1 (c x.1)) f = L.foldl (fun f x => setI f x.1 (d x.1)) f
  | [], _, _ => rfl
  | x :: L, f, h => by
    show L.foldl _ (setI f x.1 (c x.1)) = L.foldl _ (setI f x.1 (d x.1))
    rw [h x List.mem_cons_self]
    exact fold_congr L _ fun y hy => h y (List.mem_cons_of_mem _ hy)
theorem goDown_some {vl : Vls} : ∀ (L : List Sd) (r : Int) (f : Vls) (r' : Int) (f' : Vls), 0 ≤ r → (∀ x ∈ L, 1 ≤ TT vl x) → (L.map (·.1)).Nodup → goDown vl L r f = some (r', f') →
    ∃ c : Str → Int, (∀ x ∈ L, 0 ≤ c x.1 ∧ c x.1 < SS vl x) ∧ (L.map fun x => c x.1 * TT vl x).sum + r' = r ∧ f' = L.foldl (fun f x => setI f x.1 (c x.1)) f
  | [], r, f, r', f', _, _, _, e => by
    cases e
    exact ⟨fun _ => 0, fun _ h => absurd h List.not_mem_nil, Int.zero_add _, rfl⟩
  | x :: L, r, f, r', f', r0, ht, nd, e => by
    have t1 := ht x List.mem_cons_self
    rw [List.map_cons, List.nodup_cons] at nd
    rw [down_cons] at e
    by_cases g : SS vl x ≤ r / TT vl x
    · rw [if_pos g] at e
      cases e
    · rw [if_neg g] at e
      obtain ⟨c, h1, h2, h3⟩ := goDown_some L _ _ r' f' (Int.emod_nonneg _ (by omega)) (fun y hy => ht y (List.mem_cons_of_mem _ hy)) nd.2 e
      have ne : ∀ y ∈ L, y.1 ≠ x.1 := fun y hy z => nd.1 (by rw [← z]; exact List.mem_map.mpr ⟨y, hy, rfl⟩)
      have q0 : 0 ≤ r / TT vl x := Int.ediv_nonneg r0 (by omega)
      let d : Str → Int := fun z => if z = x.1 then r / TT vl x else c z
      have dx : d x.1 = r / TT vl x := if_pos rfl
      have dy : ∀ y ∈ L, d y.1 = c y.1 := fun y hy => if_neg (ne y hy)
      refine ⟨d, fun y hy => ?_, ?_, ?_⟩
      · rcases List.mem_cons.mp hy with rfl | hy
        · rw [dx]
          exact ⟨q0, by omega⟩
        · rw [dy y hy]
          exact h1 y hy
      · rw [List.map_cons, List.sum_cons, dx, List.map_congr_left (g := fun y => c y.1 * TT vl y) fun y hy => by rw [dy y hy]]
        have := Int.mul_ediv_add_emod r (TT vl x)
        rw [Int.mul_comm] at this
        omega
      · rw [h3]
        show _ = L.foldl _ (setI f x.1 (d x.1))
        rw [dx]
        exact fold_congr L _ fun y hy => (dy y hy).symm
theorem setI_in {f : Vls} {z : Str} {n : Int} (h : z ∈ f.map (·.1)) : setI f z n = f.map fun kv => (kv.1, if kv.1 = z then n else kv.2) := by
  unfold setI
  obtain ⟨u, hu, e⟩ := List.mem_map.mp h
  rw [if_pos (List.any_eq_true.mpr ⟨u, hu, decide_eq_true e⟩)]
  refine List.map_congr_left fun kv _ => ?_
  split <;> rfl
theorem fold_set {c : Str → Int} : ∀ (L : List Sd) (f : Vls), (∀ x ∈ L, x.1 ∈ f.map (·.1)) → L.foldl (fun f x => setI f x.1 (c x.1)) f = f.map fun kv => (kv.1, if kv.1 ∈ L.map (·.1) then c kv.1 else kv.2)
  | [], f, _ => by
    show f = _
    conv => lhs; rw [← List.map_id f]
    refine List.map_congr_left fun kv _ => ?_
    show kv = (kv.1, if kv.1 ∈ ([] : List Str) then c kv.1 else kv.2)
    rw [if_neg List.not_mem_nil]
  | x :: L, f, h => by
    have h1 := setI_in (n := c x.1) (h x List.mem_cons_self)
    have hk : (setI f x.1 (c x.1)).map (·.1) = f.map (·.1) := by rw [h1, List.map_map]; rfl
    show L.foldl _ (setI f x.1 (c x.1)) = _
    rw [fold_set L _ fun y hy => by rw [hk]; exact h y (List.mem_cons_of_mem _ hy), h1, List.map_map]
    refine List.map_congr_left fun kv _ => ?_
    show (kv.1, if kv.1 ∈ L.map (·.1) then c kv.1 else if kv.1 = x.1 then c x.1 else kv.2) = _
    rw [List.map_cons]
    by_cases a : kv.1 ∈ L.map (·.1)
    · rw [if_pos a, if_pos (List.mem_cons_of_mem _ a)]
    · rw [if_neg a]
      by_cases b : kv.1 = x.1
      · rw [if_pos b, if_pos (by rw [b]; exact List.mem_cons_self), b]
      · rw [if_neg b, if_neg fun z => (List.mem_cons.mp z).elim b a]
theorem sum_filter {α : Type} {g : α → Int} {p : α → Bool} : ∀ (L : List α), (∀ x ∈ L, p x = false → g x = 0) → (L.map g).sum = ((L.filter p).map g).sum
  | [], _ => rfl
  | x :: L, h => by
    have ih := sum_filter L fun y hy => h y (List.mem_cons_of_mem _ hy)
    rw [List.map_cons, List.sum_cons, ih]
    cases e : p x with
    | true => rw [List.filter_cons_of_pos e, List.map_cons, List.sum_cons]
    | false => rw [List.filter_cons_of_neg (by rw [e]; decide), h x List.mem_cons_self e, Int.zero_add]
theorem spot_map (vl : Vls) (g : Sd → Int) : ∀ xs : List Sd, spotI vl xs (xs.map g) = (xs.map fun x => g x * TT vl x).sum
  | [] => rfl
  | x :: xs => by rw [List.map_cons, spot_cons, spot_map vl g xs, List.map_cons, List.sum_cons]
theorem norm_tm (vl : Vls) (x : Sd) : SS vl (norm x) = SS vl x ∧ TT vl (norm x) = TT vl x := ⟨tm_perm (sortT_perm _), tm_perm (sortT_perm _)⟩
/-- the rows of a chain, the greatest step first -/
theorem down_pw {vl : Vls} {xs : List Sd} (hc : ChdB xs) (g : PosV vl xs) : (ordL (xs.map norm)).reverse.Pairwise (fun a b => SS vl b * TT vl b ≤ TT vl a) ∧ PosV vl (ordL (xs.map norm)).reverse := by
  have pm := ordL_perm xs
  have inx : ∀ y ∈ ordL (xs.map norm), ∃ x ∈ xs, y = norm x ∧ x.2.1 ≠ [] := fun y hy => by
    obtain ⟨x, hx, rfl⟩ := List.mem_map.mp (pm.mem_iff.mp hy)
    obtain ⟨a, b⟩ := List.mem_filter.mp hx
    exact ⟨x, a, rfl, of_decide_eq_true b⟩
  have ps : PosV vl (ordL (xs.map norm)) := fun y hy => by
    obtain ⟨x, hx, rfl, _⟩ := inx y hy
    obtain ⟨a, b⟩ := norm_tm vl x
    rw [a, b]
    exact g x hx
  have fe : (ordL (xs.map norm)).Pairwise fun x y => FitE x y ∨ FitE y x := by
    have h1 := chd_pw.mp hc
    have h2 : ((xs.filter fun x => decide (x.2.1 ≠ [])).map norm).Pairwise fun x y => FitE x y ∨ FitE y x := List.pairwise_map.mpr (h1.imp fun {a b} h => h.imp fitE_norm.mpr fitE_norm.mpr)
    exact h2.perm pm.symm fun {x y} h => h.symm
  have ln : (ordL (xs.map norm)).Pairwise fun a b => a.2.2.length ≤ b.2.2.length := sortB_pw (fun x : Sd => x.2.2.length) _
  have both := fe.and ln
  refine ⟨List.pairwise_reverse.mpr (both.imp_of_mem fun {a b} ha hb h => ?_), fun y hy => ps y (List.mem_reverse.mp hy)⟩
  obtain ⟨h1, h2⟩ := h
  have fab : FitE a b := h1.resolve_right fun z => by
    have := z.len
    obtain ⟨x, hx, rfl, ne⟩ := inx b hb
    have : 0 < (norm x).2.1.length := by
      show 0 < (sortT x.2.1).length
      rw [length_sortT]
      exact List.length_pos_iff.mpr ne
    omega
  exact Int.le_of_dvd (by have := (ps b hb).2; omega) fab.dvd
theorem in_map {vl : Vls} {g : Sd → Int} : ∀ {xs : List Sd}, (∀ x ∈ xs, 0 ≤ g x ∧ g x < SS vl x) → CellIn vl xs (xs.map g)
  | [], _ => .nil
  | x :: xs, h => .cons (h x List.mem_cons_self) (in_map fun y hy => h y (List.mem_cons_of_mem _ hy))
/-- a cell is told by the rows' names -/
theorem cell_names {vl : Vls} : ∀ {xs : List Sd} {cs : List Int}, (xs.map (·.1)).Nodup → CellIn vl xs cs → ∃ c : Str → Int, cs = xs.map (fun x => c x.1) ∧ ∀ x ∈ xs, 0 ≤ c x.1 ∧ c x.1 < SS vl x := by
  intro xs cs nd h
  unfold CellIn at h
  induction h with
  | nil => exact ⟨fun _ => 0, rfl, fun _ h => absurd h List.not_mem_nil⟩
  | @cons x i xs cs r _ ih =>
    rw [List.map_cons, List.nodup_cons] at nd
    obtain ⟨c, h1, h2⟩ := ih nd.2
    have ne : ∀ y ∈ xs, y.1 ≠ x.1 := fun y hy z => nd.1 (by rw [← z]; exact List.mem_map.mpr ⟨y, hy, rfl⟩)
    refine ⟨fun z => if z = x.1 then i else c z, ?_, fun y hy => ?_⟩
    · rw [List.map_cons, h1]
      have e1 : (if x.1 = x.1 then i else c x.1) = i := if_pos rfl
      show _ = (if x.1 = x.1 then i else c x.1) :: _
      rw [e1]
      congr 1
      exact List.map_congr_left fun y hy => (if_neg (ne y hy)).symm
    · rcases List.mem_cons.mp hy with rfl | hy
      · dsimp only
        rw [if_pos rfl]
        exact r
      · dsimp only
        rw [if_neg (ne y hy)]
        exact h2 y hy
theorem tm_nil (vl : Vls) {x : Sd} (h : x.2.1 = []) : SS vl x = 1 := by
  show tm vl x.2.1 = 1
  rw [h]
  rfl
theorem ord_sum {vl : Vls} {xs : List Sd} {c : Str → Int} (hz : ∀ x ∈ xs, x.2.1 = [] → c x.1 = 0) : (((ordL (xs.map norm)).reverse).map fun x => c x.1 * TT vl x).sum = spotI vl xs (xs.map fun x => c x.1) := by
  rw [spot_map vl (fun x => c x.1) xs, sum_filter (p := fun x : Sd => decide (x.2.1 ≠ [])) xs fun x hx h => by rw [hz x hx (by simpa using h), Int.zero_mul]]
  have pm : ((ordL (xs.map norm)).reverse).Perm ((xs.filter fun x => decide (x.2.1 ≠ [])).map norm) := (List.reverse_perm _).trans (ordL_perm xs)
  rw [sumI_perm (pm.map _), List.map_map]
  congr 1
  refine List.map_congr_left fun x _ => ?_
  show c x.1 * TT vl (norm x) = _
  rw [(norm_tm vl x).2]
theorem cell_of_in {vl : Vls} {xs : List Sd} {cs : List Int} (g : PosV vl xs) (hc : ChdB xs) (nd : (xs.map (·.1)).Nodup) (h : CellIn vl xs cs) : cellL vl (xs.map norm) (spotI vl xs cs) = some cs := by
  obtain ⟨c, rfl, hb⟩ := cell_names nd h
  obtain ⟨pw, ps⟩ := down_pw hc g
  have hz : ∀ x ∈ xs, x.2.1 = [] → c x.1 = 0 := fun x hx e => by
    have := hb x hx
    rw [tm_nil vl e] at this
    omega
  have ino : ∀ y ∈ (ordL (xs.map norm)).reverse, ∃ x ∈ xs, y = norm x := fun y hy => by
    obtain ⟨x, hx, e⟩ := List.mem_map.mp (mem_ordL.mp (List.mem_reverse.mp hy)).1
    exact ⟨x, hx, e.symm⟩
  have k1 : ∀ y ∈ (ordL (xs.map norm)).reverse, 0 ≤ c y.1 ∧ c y.1 < SS vl y := fun y hy => by
    obtain ⟨x, hx, rfl⟩ := ino y hy
    rw [(norm_tm vl x).1]
    exact hb x hx
  have hf : ∀ y ∈ (ordL (xs.map norm)).reverse, y.1 ∈ ((xs.map norm).map fun x => (x.1, (0 : Int))).map (·.1) := fun y hy => by
    obtain ⟨x, hx, rfl⟩ := ino y hy
    rw [List.map_map]
    exact List.mem_map.mpr ⟨norm x, List.mem_map.mpr ⟨x, hx, rfl⟩, rfl⟩
  unfold cellL
  rw [← ord_sum hz, goDown_of c _ _ pw ps k1, fold_set _ _ hf]
  show (if (0 : Int) = 0 then _ else _) = _
  rw [if_pos rfl, List.map_map, List.map_map, List.map_map]
  congr 1
  refine List.map_congr_left fun x hx => ?_
  show (if x.1 ∈ ((ordL (xs.map norm)).reverse).map (·.1) then c x.1 else 0) = c x.1
  by_cases e : x.2.1 = []
  · rw [hz x hx e]
    split <;> rfl
  · rw [if_pos]
    refine List.mem_map.mpr ⟨norm x, List.mem_reverse.mpr (mem_ordL.mpr ⟨List.mem_map.mpr ⟨x, hx, rfl⟩, ?_⟩), rfl⟩
    show 0 < (sortT x.2.1).length
    rw [length_sortT]
    exact List.length_pos_iff.mpr e
theorem in_of_cell {vl : Vls} {xs : List Sd} {cs : List Int} {pl : Int} (p0 : 0 ≤ pl) (g : PosV vl xs) (hc : ChdB xs) (nd : (xs.map (·.1)).Nodup) (h : cellL vl (xs.map norm) pl = some cs) : CellIn vl xs cs ∧ spotI vl xs cs = pl := by
  obtain ⟨pw, ps⟩ := down_pw hc g
  unfold cellL at h
  cases e : goDown vl (ordL (xs.map norm)).reverse pl ((xs.map norm).map fun x => (x.1, 0)) with
  | none => rw [e] at h; cases h
  | some q =>
    obtain ⟨r, f⟩ := q
    rw [e] at h
    have h : (if r = 0 then some (f.map (·.2)) else none) = some cs := h
    by_cases z : r = 0
    · rw [if_pos z] at h
      cases h
      subst z
      have ndo : (((ordL (xs.map norm)).reverse).map (·.1)).Nodup := by
        have pm : (((ordL (xs.map norm)).reverse).map (·.1)).Perm (((xs.filter fun x => decide (x.2.1 ≠ [])).map norm).map (·.1)) := ((List.reverse_perm _).trans (ordL_perm xs)).map _
        rw [pm.nodup_iff, List.map_map]
        exact nd.sublist ((List.filter_sublist (l := xs)).map (fun x : Sd => x.1))
      obtain ⟨c, k1, k2, k3⟩ := goDown_some _ pl _ 0 f p0 (fun x hx => (ps x hx).2) ndo e
      have ino : ∀ y ∈ (ordL (xs.map norm)).reverse, ∃ x ∈ xs, y = norm x := fun y hy => by
        obtain ⟨x, hx, e⟩ := List.mem_map.mp (mem_ordL.mp (List.mem_reverse.mp hy)).1
        exact ⟨x, hx, e.symm⟩
      have hf : ∀ y ∈ (ordL (xs.map norm)).reverse, y.1 ∈ ((xs.map norm).map fun x => (x.1, (0 : Int))).map (·.1) := fun y hy => by
        obtain ⟨x, hx, rfl⟩ := ino y hy
        rw [List.map_map]
        exact List.mem_map.mpr ⟨norm x, List.mem_map.mpr ⟨x, hx, rfl⟩, rfl⟩
      rw [k3, fold_set _ _ hf, List.map_map, List.map_map, List.map_map]
      let d : Str → Int := fun z => if z ∈ ((ordL (xs.map norm)).reverse).map (·.1) then c z else 0
      have mem : ∀ x ∈ xs, x.2.1 ≠ [] → norm x ∈ (ordL (xs.map norm)).reverse := fun x hx e => by
        refine List.mem_reverse.mpr (mem_ordL.mpr ⟨List.mem_map.mpr ⟨x, hx, rfl⟩, ?_⟩)
        show 0 < (sortT x.2.1).length
        rw [length_sortT]
        exact List.length_pos_iff.mpr e
      have nin : ∀ x ∈ xs, x.2.1 = [] → x.1 ∉ ((ordL (xs.map norm)).reverse).map (·.1) := fun x hx e z => by
        obtain ⟨y, hy, ey⟩ := List.mem_map.mp z
        obtain ⟨u, hu, rfl⟩ := List.mem_map.mp (mem_ordL.mp (List.mem_reverse.mp hy)).1
        have eq : u = x := by
          have ey : u.1 = x.1 := ey
          obtain ⟨i, hi⟩ := List.mem_iff_getElem?.mp hu
          obtain ⟨j, hj⟩ := List.mem_iff_getElem?.mp hx
          have hij : i = j := by
            refine (List.getElem?_inj (by rw [List.length_map]; exact (List.getElem?_eq_some_iff.mp hi).1) nd).mp ?_
            rw [List.getElem?_map, List.getElem?_map, hi, hj]
            show some u.1 = some x.1
            rw [ey]
          subst hij
          rw [hi] at hj
          exact Option.some.inj hj
        subst eq
        have := (mem_ordL.mp (List.mem_reverse.mp hy)).2
        have h2 : (norm u).2.1.length = u.2.1.length := length_sortT _
        rw [h2, e] at this
        exact absurd this (by decide)
      have dz : ∀ x ∈ xs, x.2.1 = [] → d x.1 = 0 := fun x hx e => if_neg (nin x hx e)
      have dn : ∀ x ∈ xs, x.2.1 ≠ [] → d x.1 = c x.1 := fun x hx e => if_pos (List.mem_map.mpr ⟨norm x, mem x hx e, rfl⟩)
      refine ⟨in_map (g := fun x => d x.1) fun x hx => ?_, ?_⟩
      · by_cases e : x.2.1 = []
        · rw [dz x hx e, tm_nil vl e]
          decide
        · rw [dn x hx e]
          have := k1 _ (mem x hx e)
          rw [(norm_tm vl x).1] at this
          exact this
      · show spotI vl xs (xs.map fun x => d x.1) = pl
        rw [← ord_sum dz, ← k2, Int.add_zero]
        congr 1
        refine List.map_congr_left fun y hy => ?_
        show (if y.1 ∈ _ then c y.1 else 0) * _ = _
        rw [if_pos (List.mem_map.mpr ⟨y, hy, rfl⟩)]
    · rw [if_neg z] at h
      cases h
end E4

set_option Elab.async false
set_option linter.all false
set_option maxRecDepth 100000
set_option maxHeartbeats 1000000
/-! the law's own way of taking a place apart -/
namespace E4
open PySem PySem.Spec PyProof.Rows L2
def mI (s t r : Int) : Int := if s - 1 < r / t then s - 1 else r / t
def stL (vl : Vls) (xs : List Sd) (st : List Int × Int) (i : Nat) : List Int × Int := match xs[i]? with
  | none => st
  | some x => if x.2.1 = [] then st else (st.1.set i (mI (SS vl x) (TT vl x) st.2), st.2 - TT vl x * mI (SS vl x) (TT vl x) st.2)
def lawF (vl : Vls) (xs : List Sd) (A : List Nat) (pl : Int) : List Int × Int := A.foldl (stL vl xs) (List.replicate xs.length 0, pl)
theorem mI_bd {s t r : Int} (hs : 1 ≤ s) (ht : 1 ≤ t) (hr : 0 ≤ r) : 0 ≤ mI s t r ∧ mI s t r < s ∧ t * mI s t r ≤ r := by
  unfold mI
  have d0 : 0 ≤ r / t := Int.ediv_nonneg hr (by omega)
  have d1 : t * (r / t) ≤ r := Int.mul_ediv_self_le (by omega)
  by_cases c : s - 1 < r / t
  · rw [if_pos c]
    refine ⟨by omega, by omega, Int.le_trans (Int.mul_le_mul_of_nonneg_left (by omega) (by omega)) d1⟩
  · rw [if_neg c]
    exact ⟨d0, by omega, d1⟩
theorem spot_set {vl : Vls} {m : Int} : ∀ {xs : List Sd} {cs : List Int} {i : Nat} {x : Sd}, xs[i]? = some x → cs[i]? = some 0 → spotI vl xs (cs.set i m) = spotI vl xs cs + m * TT vl x
  | y :: xs, c :: cs, 0, x, hx, hc => by
    cases hx
    cases hc
    rw [List.set_cons_zero, spot_cons, spot_cons, Int.zero_mul, Int.zero_add, Int.add_comm]
  | y :: xs, c :: cs, i + 1, x, hx, hc => by
    rw [List.set_cons_succ, spot_cons, spot_cons, spot_set (i := i) (by simpa using hx) (by simpa using hc)]
    omega
  | [], _, _, _, hx, _ => by simp at hx
  | _ :: _, [], _, _, _, hc => by simp at hc
theorem in_len {vl : Vls} {xs : List Sd} {cs : List Int} (h : CellIn vl xs cs) : cs.length = xs.length := (Paired.length h).symm
theorem in_set {vl : Vls} {m : Int} {xs : List Sd} {cs : List Int} {i : Nat} {x : Sd} (h : CellIn vl xs cs) (hx : xs[i]? = some x) (hm : 0 ≤ m ∧ m < SS vl x) : CellIn vl xs (cs.set i m) := by
  unfold CellIn at h ⊢
  induction h generalizing i with
  | nil => simp at hx
  | @cons y c xs cs r _ ih =>
    cases i with
    | zero =>
      cases hx
      exact .cons hm (by assumption)
    | succ i => exact .cons r (ih (by simpa using hx))
theorem in_zero {vl : Vls} : ∀ {xs : List Sd}, PosV vl xs → CellIn vl xs (List.replicate xs.length 0)
  | [], _ => .nil
  | x :: xs, h => .cons ⟨Int.le_refl _, by have : 1 ≤ tm vl x.2.1 := (h x List.mem_cons_self).1; omega⟩ (in_zero fun y hy => h y (List.mem_cons_of_mem _ hy))
theorem spot_zero (vl : Vls) : ∀ xs : List Sd, spotI vl xs (List.replicate xs.length 0) = 0
  | [] => rfl
  | x :: xs => by
    rw [List.length_cons, List.replicate_succ, spot_cons, spot_zero vl xs, Int.zero_mul]
    rfl
theorem law_sound {vl : Vls} {xs : List Sd} (g : PosV vl xs) : ∀ (A : List Nat) (st : List Int × Int), A.Nodup → (∀ i ∈ A, st.1[i]? = some 0) → CellIn vl xs st.1 → 0 ≤ st.2 →
    CellIn vl xs (A.foldl (stL vl xs) st).1 ∧ spotI vl xs (A.foldl (stL vl xs) st).1 + (A.foldl (stL vl xs) st).2 = spotI vl xs st.1 + st.2 ∧ 0 ≤ (A.foldl (stL vl xs) st).2 ∧ (A.foldl (stL vl xs) st).2 ≤ st.2
  | [], st, _, _, h, r0 => ⟨h, rfl, r0, Int.le_refl _⟩
  | i :: A, st, nd, hz, h, r0 => by
    rw [List.nodup_cons] at nd
    rw [List.foldl_cons]
    have step : stL vl xs st i = st ∨ ∃ x, xs[i]? = some x ∧ x.2.1 ≠ [] ∧ stL vl xs st i = (st.1.set i (mI (SS vl x) (TT vl x) st.2), st.2 - TT vl x * mI (SS vl x) (TT vl x) st.2) := by
      unfold stL
      cases e : xs[i]? with
      | none => exact .inl rfl
      | some x =>
        by_cases c : x.2.1 = []
        · exact .inl (if_pos c)
        · exact .inr ⟨x, rfl, c, if_neg c⟩
    rcases step with e | ⟨x, hx, c, e⟩
    · rw [e]
      exact law_sound g A st nd.2 (fun j hj => hz j (List.mem_cons_of_mem _ hj)) h r0
    · rw [e]
      obtain ⟨s1, t1⟩ := g x (List.mem_of_getElem? hx)
      obtain ⟨m0, m1, m2⟩ := mI_bd s1 t1 r0
      have ss := spot_set (vl := vl) (m := mI (SS vl x) (TT vl x) st.2) hx (hz i List.mem_cons_self)
      obtain ⟨q1, q2, q3, q4⟩ := law_sound g A (st.1.set i (mI (SS vl x) (TT vl x) st.2), st.2 - TT vl x * mI (SS vl x) (TT vl x) st.2) nd.2 (fun j hj => by
        show (st.1.set i _)[j]? = some 0
        rw [List.getElem?_set_ne (fun z : i = j => nd.1 (by rw [z]; exact hj))]
        exact hz j (List.mem_cons_of_mem _ hj)) (in_set h hx ⟨m0, m1⟩) (by show 0 ≤ _; omega)
      have mm : 0 ≤ TT vl x * mI (SS vl x) (TT vl x) st.2 := Int.mul_nonneg (by omega) m0
      refine ⟨q1, ?_, q3, by dsimp only at q4; omega⟩
      rw [q2]
      show spotI vl xs (st.1.set i _) + (st.2 - _) = _
      rw [ss, Int.mul_comm (TT vl x)]
      omega
abbrev rwN (xs : List Sd) (i : Nat) : Sd := (xs[i]?).getD ("", [], [])
abbrev lN (l : List Int) (i : Nat) : Int := (l[i]?).getD 0
theorem law_comp {vl : Vls} {xs : List Sd} {l : List Int} (g : PosV vl xs) (h : CellIn vl xs l) : ∀ (A : List Nat) (st : List Int × Int), A.Nodup → (∀ i ∈ A, i < xs.length) →
    A.Pairwise (fun i j => SS vl (rwN xs j) * TT vl (rwN xs j) ≤ TT vl (rwN xs i) ∨ SS vl (rwN xs i) = 1) → st.1.length = xs.length → (∀ j, j < xs.length → lN st.1 j = if j ∈ A then 0 else lN l j) → st.2 = (A.map fun i => lN l i * TT vl (rwN xs i)).sum → A.foldl (stL vl xs) st = (l, 0)
  | [], st, _, _, _, hln, hf, hs => by
    obtain ⟨f, r⟩ := st
    have e2 : r = 0 := hs
    have ll := in_len h
    have e1 : f = l := by
      refine List.ext_getElem? fun j => ?_
      by_cases c : j < xs.length
      · have := hf j c
        rw [if_neg List.not_mem_nil] at this
        unfold lN at this
        have hlen : f.length = xs.length := hln
        rw [List.getElem?_eq_getElem (by omega), List.getElem?_eq_getElem (by omega)] at this ⊢
        exact congrArg some this
      · have hlen : f.length = xs.length := hln
        rw [List.getElem?_eq_none (by omega), List.getElem?_eq_none (by omega)]
    rw [e1, e2]
    rfl
  | i :: A, st, nd, hA, pw, hln, hf, hs => by
    rw [List.nodup_cons] at nd
    obtain ⟨p1, p2⟩ := List.pairwise_cons.mp pw
    have hi := hA i List.mem_cons_self
    obtain ⟨x, hx⟩ : ∃ x, xs[i]? = some x := ⟨_, List.getElem?_eq_getElem hi⟩
    have ex : rwN xs i = x := by show (xs[i]?).getD _ = x; rw [hx]; rfl
    obtain ⟨c, hc, c0, c1⟩ := paired_at h hx
    have ec : lN l i = c := by show (l[i]?).getD 0 = c; rw [hc]; rfl
    obtain ⟨s1, t1⟩ := g x (List.mem_of_getElem? hx)
    have inA : ∀ j ∈ A, ∃ y d, rwN xs j = y ∧ lN l j = d ∧ y ∈ xs ∧ 0 ≤ d ∧ d < SS vl y := fun j hj => by
      have hj2 := hA j (List.mem_cons_of_mem _ hj)
      obtain ⟨y, hy⟩ : ∃ y, xs[j]? = some y := ⟨_, List.getElem?_eq_getElem hj2⟩
      obtain ⟨d, hd, d0, d1⟩ := paired_at h hy
      exact ⟨y, d, by show (xs[j]?).getD _ = y; rw [hy]; rfl, by show (l[j]?).getD 0 = d; rw [hd]; rfl, List.mem_of_getElem? hy, d0, d1⟩
    rw [List.map_cons, List.sum_cons, ex, ec] at hs
    have low : 0 ≤ (A.map fun i => lN l i * TT vl (rwN xs i)).sum ∧ (A.map fun i => lN l i * TT vl (rwN xs i)).sum ≤ (A.map fun i => (SS vl (rwN xs i) - 1) * TT vl (rwN xs i)).sum := sum_le A fun j hj => by
      obtain ⟨y, d, e1, e2, hy, d0, d1⟩ := inA j hj
      rw [e1, e2]
      exact cell_le (g y hy).2 d0 d1
    rw [List.foldl_cons]
    have next : ∀ st' : List Int × Int, st'.1.length = xs.length → lN st'.1 i = c → (∀ j, j ≠ i → lN st'.1 j = lN st.1 j) → st'.2 = (A.map fun i => lN l i * TT vl (rwN xs i)).sum → A.foldl (stL vl xs) st' = (l, 0) := fun st' z1 z2 z3 z4 => by
      refine law_comp g h A st' nd.2 (fun j hj => hA j (List.mem_cons_of_mem _ hj)) p2 z1 (fun j hj => ?_) z4
      by_cases e : j = i
      · subst e
        rw [z2, if_neg nd.1, ec]
      · rw [z3 j e, hf j hj]
        by_cases m : j ∈ A
        · rw [if_pos m, if_pos (List.mem_cons_of_mem _ m)]
        · rw [if_neg m, if_neg fun z => (List.mem_cons.mp z).elim e m]
    have h0 : lN st.1 i = 0 := by rw [hf i hi, if_pos List.mem_cons_self]
    by_cases em : x.2.1 = []
    · have cz : c = 0 := by
        have := tm_nil vl em
        have c1 : c < SS vl x := c1
        omega
      have e1 : stL vl xs st i = st := by
        unfold stL
        rw [hx]
        exact if_pos em
      rw [e1]
      exact next st hln (by rw [h0, cz]) (fun _ _ => rfl) (by rw [hs, cz, Int.zero_mul, Int.zero_add])
    · have e1 : stL vl xs st i = (st.1.set i (mI (SS vl x) (TT vl x) st.2), st.2 - TT vl x * mI (SS vl x) (TT vl x) st.2) := by
        unfold stL
        rw [hx]
        exact if_neg em
      have emi : mI (SS vl x) (TT vl x) st.2 = c := by
        have c1 : c < SS vl x := c1
        by_cases s : SS vl x = 1
        · have r0 : 0 ≤ st.2 := by
            have := Int.mul_nonneg c0 (show 0 ≤ TT vl x by omega)
            omega
          obtain ⟨m0, m1, _⟩ := mI_bd s1 t1 r0
          omega
        · have lt : (A.map fun i => (SS vl (rwN xs i) - 1) * TT vl (rwN xs i)).sum < TT vl x := by
            have := sum_lt (vl := vl) (A.map (rwN xs)) (TT vl x) t1 (fun y hy => by
              obtain ⟨j, hj, rfl⟩ := List.mem_map.mp hy
              have := p1 j hj
              rw [ex] at this
              exact this.resolve_right s) (List.pairwise_map.mpr p2) fun y hy => by
                obtain ⟨j, hj, rfl⟩ := List.mem_map.mp hy
                obtain ⟨y, d, e1, _, hy, _⟩ := inA j hj
                rw [e1]
                exact g y hy
            rw [List.map_map] at this
            exact this
          obtain ⟨d1, _⟩ := digit (c := c) t1 low.1 (by omega)
          unfold mI
          rw [hs, d1, if_neg (by omega)]
      rw [e1, emi]
      refine next _ (by rw [List.length_set]; exact hln) ?_ (fun j hj => ?_) ?_
      · show ((st.1.set i c)[i]?).getD 0 = c
        rw [List.getElem?_set_self (by omega)]
        rfl
      · show ((st.1.set i c)[j]?).getD 0 = _
        rw [List.getElem?_set_ne (Ne.symm hj)]
      · show st.2 - TT vl x * c = _
        rw [hs, Int.mul_comm (TT vl x)]
        omega
end E4

set_option Elab.async false
set_option linter.all false
set_option maxRecDepth 100000
set_option maxHeartbeats 1000000
/-! sorted(xs, key=f), f's calls giving whole numbers and doing what an invariant J of ours stands: J kS e1 keys e says that the list of keys at kS and the emptied list at a are as they are -/
namespace L2
open PySem PySem.Spec PySem.Calls PyProof.Rows PySem.W
section
variable {prog : Program} {w : World} {A : Around} {E : Value → Shared → Prop} {s : Shared} {β : Type} {R : Value → β → Prop} {bs : List β} {vs : List Value}
/-- a whole number -/
def IsI (v : Value) (k : Int) : Prop := ∃ t, v = .int k t
structure JOk (a kS : Addr) (e1 : Nat) (J : Array Value → Nat → Shared → Prop) : Prop where
  at_ : ∀ kA e s', J kA e s' → s'.heap.get? kS = some (seqObj "list" kA e) ∧ s'.heap.get? a = some (seqObj "list" #[] e1)
  up : ∀ kA e c2 s' v, J kA e s' → (s'.heap.update kS (Obj.mapSeq (·.push v))).get? kS = some (seqObj "list" (kA.push v) c2) → J (kA.push v) c2 { s' with heap := s'.heap.update kS (Obj.mapSeq (·.push v)) }
theorem keyJ_rest {f : Value} {a kS : Addr} {b : Bool} {e1 : Nat} {k : β → Int} {P : PySem.Fin → Shared → Prop} {J : Array Value → Nat → Shared → Prop} (O : JOk a kS e1 J)
    (hka : kS ≠ a) (e : EachIs R vs bs) (hZ : vs.length ≤ sizeLine) (hu : A.units < cLine)
    (turn : ∀ kA e v x s', J kA e s' → R v x → x ∈ bs → wpAny (model prog w) A (call f [v]) (fun u s2 => IsI u (k x) ∧ J kA e s2) (fun _ _ => False) s')
    (h0 : J #[] 0 s)
    (h : ∀ kA e s' h' tk out c, J kA e s' → (∀ b o, b ≠ a → b ≠ kS → s'.heap.get? b = some o → h'.get? b = some o) → h'.get? a = some (seqObj "list" (List.toArray out) c) → KeyedOut b (bs.map fun x => PyData.int (k x)) vs out → P (.done (.ret .none)) { s' with heap := h', toks := tk }) :
    wpAny (model prog w) A (ksk_rest a f b vs.toArray e1 (.ref kS)) P E s := by
  unfold ksk_rest
  refine wpAny_bind (wpAny_rule ?_)
  first
    | rw [List.forIn_toArray]
    | (rw [← Array.forIn_toList]; simp only [List.toList_toArray])
    | rw [← Array.forIn_toList]
  refine wpAny_bind (ksk_fold (fun i s' => ∃ kA e, J kA e s' ∧ EachIs IsI kA.toList ((bs.map k).take i)) vs 0 s
    ⟨#[], 0, h0, by rw [List.take_zero]; exact EachIs.nil⟩ ?step ?done)
  case step =>
    rintro j x s' hx ⟨kA, e2, hj, hk⟩
    simp only [Nat.zero_add] at hk ⊢
    have hjl : j < vs.length := (List.getElem?_eq_some_iff.mp hx).1
    have hl := e.length
    obtain ⟨y, hy⟩ : ∃ y, bs[j]? = some y := ⟨_, List.getElem?_eq_getElem (by omega)⟩
    have hR : R x y := e.zip (x, y) (List.mem_of_getElem? (i := j) (by rw [List.getElem?_zip_eq_some]; exact ⟨hx, hy⟩))
    have hz : kA.size ≤ vs.length := by
      have h1 := hk.length
      rw [Array.length_toList, List.length_take] at h1
      omega
    refine wpAny_bind (wpAny_attempt (wpAny_mono (turn kA e2 x y s' hj hR (List.mem_of_getElem? hy)) (fun v s'' he => ?_) fun _ _ hF => hF.elim))
    obtain ⟨⟨t, rfl⟩, hj2⟩ := he
    try dsimp only
    obtain ⟨nk2, na2⟩ := O.at_ _ _ _ hj2
    obtain ⟨c2, hc2⟩ : ∃ c2, (s''.heap.update kS (Obj.mapSeq (·.push (.int (k y) t)))).get? kS = some (seqObj "list" (kA.push (.int (k y) t)) c2) := ⟨_, get?_update_seq nk2 (·.push (.int (k y) t))⟩
    have ek : (bs.map k).take (j + 1) = (bs.map k).take j ++ [k y] := by
      have : (bs.map k)[j]? = some (k y) := by rw [List.getElem?_map, hy]; rfl
      rw [List.take_add_one, this]; simp
    have ea : (kA.push (.int (k y) t)).toList = kA.toList ++ [.int (k y) t] := by simp
    refine wpAny_bind (listUpdate_at nk2 rfl ?_ (Nat.le_trans hz hZ) (Nat.le_trans (Nat.le_of_eq (Array.size_push ..)) (Nat.succ_le_succ (Nat.le_trans hz hZ))))
    refine wpAny_pure ⟨rfl, kA.push (.int (k y) t), c2, O.up _ _ _ _ _ hj2 hc2, ?_⟩
    rw [ea, ek]
    exact each_snoc ⟨t, rfl⟩ hk
  case done =>
    rintro s' ⟨kA, e2, hj, hk⟩
    have hl := e.length
    have e3 : (bs.map k).take (0 + vs.length) = bs.map k := List.take_of_length_le (by rw [List.length_map]; omega)
    rw [e3] at hk
    have hk' : EachIs (fun v d => ∃ as, Reads s'.heap v d as) kA.toList (bs.map fun x => PyData.int (k x)) := by
      have : ∀ {us : List Value} {cs : List β}, EachIs IsI us (cs.map k) → EachIs (fun v d => ∃ as, Reads s'.heap v d as) us (cs.map fun x => PyData.int (k x)) := by
        intro us cs
        induction cs generalizing us with
        | nil => intro q; cases q; exact .nil
        | cons x cs ih =>
          intro q
          cases q with
          | cons q1 q2 => obtain ⟨t, rfl⟩ := q1; exact .cons ⟨[], .int _ _⟩ (ih q2)
      exact this hk
    have hsz : kA.size = vs.length := by
      have h1 := hk.length
      rw [Array.length_toList, List.length_map] at h1
      omega
    obtain ⟨nk', na'⟩ := O.at_ _ _ _ hj
    have hal : AllAlike (bs.map fun x => PyData.int (k x)) := AllAlike.of fun _ _ => rfl
    have hsk : Sortable (bs.map fun x => PyData.int (k x)) := .inr fun d hd => by
      obtain ⟨x, _, rfl⟩ := List.mem_map.mp hd
      exact ⟨nofun, fun _ => nofun⟩
    have hud : ∀ d, d ∈ (bs.map fun x => PyData.int (k x)) → A.units + d.depth < cLine := fun d hd => by
      obtain ⟨x, _, rfl⟩ := List.mem_map.mp hd
      simpa [PyData.depth] using hu
    try dsimp only
    refine wpAny_bind (listItems_at nk' rfl ?_)
    obtain ⟨G, g1, g2⟩ := L2.restrict s'.heap fun b => !decide (b = kS)
    have hG : KeepsBut a G s'.heap := fun b o hb q => by
      by_cases hbk : b = kS
      · rw [g2 b (by simp [hbk])] at q
        cases q
      · rw [← g1 b (by simp [hbk])]
        exact q
    have hGk : G.get? kS = none := g2 kS (by simp)
    refine keyH_end (κ := dataKind s'.heap (bs.map fun x => PyData.int (k x))) (h₁ := G) hG hGk nk' na' hka (SortsAt.data (s := s') hk' hal hsk hud) hsz hZ fun h3 tk3 c k3 n3 => ?_
    refine h kA e2 s' h3 tk3 _ c hj (fun b o hb hbk q => k3 b o hb (by rw [g1 b (by simp [hbk])]; exact q)) n3 ⟨s'.heap, kA.toList, hal, rfl, hk'⟩
theorem keyJ_tree {f : Value} {a : Addr} {b : Bool} {n : Nat} {k : β → Int} {P : PySem.Fin → Shared → Prop} {J : Addr → Nat → Array Value → Nat → Shared → Prop} (ho : s.heap.get? a = some (seqObj "list" vs.toArray n))
    (O : ∀ kS e1, s.heap.objs.size ≤ kS → JOk a kS e1 (J kS e1)) (e : EachIs R vs bs) (hZ : vs.length ≤ sizeLine) (hu : A.units < cLine)
    (turn : ∀ kS e1 kA e v x s', s.heap.objs.size ≤ kS → J kS e1 kA e s' → R v x → x ∈ bs → wpAny (model prog w) A (call f [v]) (fun u s2 => IsI u (k x) ∧ J kS e1 kA e s2) (fun _ _ => False) s')
    (h0 : ∀ kS e1 h', (∀ b o, b ≠ a → s.heap.get? b = some o → h'.get? b = some o) → s.heap.objs.size ≤ kS → h'.get? kS = some (seqObj "list" #[] 0) → h'.get? a = some (seqObj "list" #[] e1) → J kS e1 #[] 0 { s with heap := h' })
    (h : ∀ kS e1 kA e s' h' tk out c, s.heap.objs.size ≤ kS → J kS e1 kA e s' → (∀ b o, b ≠ a → b ≠ kS → s'.heap.get? b = some o → h'.get? b = some o) → h'.get? a = some (seqObj "list" (List.toArray out) c) → KeyedOut b (bs.map fun x => PyData.int (k x)) vs out → P (.done (.ret .none)) { s' with heap := h', toks := tk }) :
    wpAny (model prog w) A (ksk_tree a f b) P E s := by
  have ha : a < s.heap.objs.size := Heap.lt_size ho
  obtain ⟨e1, ho1⟩ : ∃ e1, (s.heap.update a (Obj.mapSeq fun _ => (#[] : Array Value))).get? a = some (seqObj "list" #[] e1) := ⟨_, get?_update_seq ho fun _ => #[]⟩
  have hkS : ((s.heap.update a (Obj.mapSeq fun _ => (#[] : Array Value))).push (seqObj "tuple" vs.toArray 0)).objs.size = s.heap.objs.size + 1 := by rw [size_push', Heap.size_update]
  unfold ksk_tree
  refine wpAny_bind (listItems_at ho rfl ?_)
  refine wpAny_bind (listUpdate_at ho rfl ?_ (by rw [List.size_toArray]; exact hZ) (Nat.zero_le _))
  refine wpAny_bind (seqEpoch_at ho1 rfl ?_)
  refine wpAny_bind (wpAny_newTuple ?_ (by show vs.length ≤ _; exact hZ))
  refine wpAny_bind (wpAny_newList ?_ (Nat.zero_le _))
  refine wpAny_holding ?_
  have le : s.heap.objs.size ≤ ((s.heap.update a (Obj.mapSeq fun _ => (#[] : Array Value))).push (seqObj "tuple" vs.toArray 0)).objs.size := by rw [hkS]; exact Nat.le_succ _
  refine keyJ_rest (a := a) (kS := ((s.heap.update a (Obj.mapSeq fun _ => (#[] : Array Value))).push (seqObj "tuple" vs.toArray 0)).objs.size) (s := { s with heap := ((s.heap.update a (Obj.mapSeq fun _ => (#[] : Array Value))).push (seqObj "tuple" vs.toArray 0)).push (seqObj "list" #[] 0) })
    (O _ e1 le) (by rw [hkS]; exact Nat.ne_of_gt (Nat.lt_succ_of_lt ha)) e hZ hu (fun kA e2 v x s' => turn _ e1 kA e2 v x s' le) ?_ (fun kA e2 s' h' tk out c => h _ e1 kA e2 s' h' tk out c le)
  exact h0 _ e1 (((s.heap.update a (Obj.mapSeq fun _ => (#[] : Array Value))).push (seqObj "tuple" vs.toArray 0)).push (seqObj "list" #[] 0)) (fun b o hb q => sortingHeap_old hb q) le (Heap.get?_push_size _ rfl) (Heap.get?_push_of_some _ (Heap.get?_push_of_some _ ho1))
end
end L2

set_option Elab.async false
set_option linter.all false
set_option maxRecDepth 100000
set_option maxHeartbeats 1000000
/-! a lambda of one parameter par that captures one name fr: its body's context; sorted by it -/
namespace L2
open PySem PySem.Spec PySem.Calls PyProof.Rows PySem.W
open LamX (Tabs ExtN TabB CodeO lamEnv)
structure Lam1 (sc scope : Scope) (par fr : Str) : Prop where
  kind : scope.kind = .function
  co : scope.isCoroutine = false
  gen : scope.isGenerator = false
  own : ∀ y ∈ scope.names, y.2 ≠ .cell ∧ (y.2 = .local → y.1 = par) ∧ (y.2 = .free → y.1 = fr)
  lc : scope.names.lookup par = some .local
  fre : scope.names.lookup fr = some .free
  ne : par ≠ fr
  has : sc.names.lookup fr = some .cell ∨ sc.names.lookup fr = some .free
section
variable {X : Cx} {pins : List (Addr × Obj)} {σ : L2.St} {H : Hp} {s : Shared} {par fr : Str}
end
section
variable {X : Cx} {e body : Expr} {te tb : TE} {T : List (Addr × Str)} {c P : Addr} {p6 q kpos pos : Pos} {β : Type} {ad : β → Addr} {kf : β → Int} {params : Arguments} {scope : Scope} {par fr : Str} {i k : Nat}
end
end L2

set_option Elab.async false
set_option linter.all false
set_option maxRecDepth 100000
set_option maxHeartbeats 1000000
/-! a lambda of one parameter par that captures two names fr, fr2: its body's context; sorted of a range by it -/
namespace L2
open PySem PySem.Spec PySem.Calls PyProof.Rows PySem.W
open LamX (Tabs ExtN TabB CodeO lamEnv)
structure Lam2 (sc scope : Scope) (par fr fr2 : Str) : Prop where
  kind : scope.kind = .function
  co : scope.isCoroutine = false
  gen : scope.isGenerator = false
  own : ∀ y ∈ scope.names, y.2 ≠ .cell ∧ (y.2 = .local → y.1 = par) ∧ (y.2 = .free → y.1 = fr ∨ y.1 = fr2)
  lc : scope.names.lookup par = some .local
  fre : scope.names.lookup fr = some .free
  fre2 : scope.names.lookup fr2 = some .free
  has : sc.names.lookup fr = some .cell ∨ sc.names.lookup fr = some .free
  has2 : sc.names.lookup fr2 = some .cell ∨ sc.names.lookup fr2 = some .free
def lamCx2 (X : Cx) (A : Around) (outer : List Env) (s : Shared) (H : Hp) (scope : Scope) (f c' : Addr) (par fr fr2 : Str) : Cx where
  prog := X.prog
  w := X.w
  K := X.K
  mg := X.mg
  base := X.base
  A := A.deeper (lamEnv X scope s.heap.objs.size f c')
  N := [par, fr, fr2]
  s_0 := s
  H_0 := H
  env := lamEnv X scope s.heap.objs.size f c'
  outer := outer
  stack := lamEnv X scope s.heap.objs.size f c' :: outer
  ex := []
  fn := fun _ => false
  calm := true
  pn := []
  xe := fun _ _ => False
section
variable {X : Cx} {pins : List (Addr × Obj)} {σ : L2.St} {H : Hp} {s : Shared} {par fr fr2 : Str}
theorem lam_start2 {A : Around} {scope : Scope} {f c' : Addr} {h₁ : Heap} {tk : Nat} {i i2 : Nat} {v fv fv2 : V} {u : Value} (I : Inv X pins σ H s) (L : Lam2 X.env.scope scope par fr fr2) (e0 : Env0 X.prog X.w X.K X.mg X.base A X.stack s H) (hd : A.handled = none)
    (hN : X.N[i]? = some fr) (hσ : σ[i]? = some (some fv)) (hN2 : X.N[i2]? = some fr2) (hσ2 : σ[i2]? = some (some fv2)) (rv : RelV v u)
    (hns : h₁.Ns s.heap.objs.size fun y => ([(par, u)] : List (Str × Value)).reverse.lookup y) (kp : ∀ b o, s.heap.get? b = some o → h₁.get? b = some o) :
    Inv (lamCx2 X A X.stack s H scope f c' par fr fr2) [] [some v, some fv, some fv2] H { s with heap := h₁, toks := tk } := by
  have hvis : Vis X.env.scope fr := .inr (L.has)
  have hvis2 : Vis X.env.scope fr2 := .inr (L.has2)
  have hfree : ∀ y ∈ scope.names, y.2 = .free → ∃ c, X.env.cells.lookup y.1 = some c := fun y hy e => by
    rcases (L.own y hy).2.2 e with z | z <;> rw [z]
    · exact I.ok.has _ L.has
    · exact I.ok.has _ L.has2
  have cm : ∀ {y c}, (cloFrom X.env.cells scope.names []).lookup y = some c → X.env.cells.lookup y = some c := fun {y c} e => by
    rcases cloFrom_mem (PySem.mem_of_lookup e) with hm | ⟨h1, h2⟩
    · cases hm
    · obtain ⟨c1, hc⟩ := hfree _ h1 rfl
      have hc : X.env.cells.lookup y = some c1 := hc
      have e2 : c = c1 := by
        rw [h2, hc] <;> rfl
      rw [e2]
      exact hc
  have look : ∀ {y}, scope.names.lookup y = some .free → ∃ c, (cloFrom X.env.cells scope.names []).lookup y = some c := fun {y} hl => by
    have hy : (y, NameKind.free) ∈ scope.names := PySem.mem_of_lookup hl
    exact mem_lookup (cloFrom_has (cells := X.env.cells) (acc := []) hy)
  have cellK : ∀ {c : Addr} {v : Option Value}, s.heap.IsCell c v → h₁.IsCell c v := fun {c v} ⟨o, ho, hd⟩ => ⟨_, kp _ _ ho, hd⟩
  have noA : ∀ b : Addr, b ∉ (lamCx2 X A X.stack s H scope f c' par fr fr2).ex := fun b z => absurd (show b ∈ ([] : List Addr) from z) (by simp)
  refine ⟨⟨e0.mod, L.kind, rfl, rfl, Nat.le_refl _, fun y z c e1 e2 => I.ok.inj y z c (cm e1) (cm e2), fun y hy => ?_, fun y c z _ => ?_, fun _ => hd, Around.frames_deeper e0.frames, .inr ⟨rfl, rfl⟩, fun b z => absurd z (noA b), e0.bs, e0.bsz, fun b _ _ => noA b,
      fun b z => absurd z (noA b), e0.funs, e0.frf⟩,
    rfl, e0.bare, Un.kept kp, ⟨_, hns, fun j y v2 e1 e2 e3 => ?_⟩, fun y c e => ?_, e0.hok.fresh (Nat.le_refl _), fun y c e => ?_, fun q hq => absurd (show q ∈ ([] : List (Addr × Obj)) ++ [] from hq) (by simp), e0.hok.kept kp, rfl⟩
  · have hy : scope.names.lookup y = some .cell ∨ scope.names.lookup y = some .free := hy
    rcases hy with hy | hy
    · exact absurd rfl (L.own _ (PySem.mem_of_lookup hy)).1
    · exact look hy
  · have z : false = true := z
    cases z
  · have e3 : Vis scope y := e3
    rcases j with _ | _ | _ | j
    · cases e1
      cases e2
      exact ⟨u, rv, .inl ⟨L.lc, by simp⟩⟩
    · cases e1
      cases e2
      obtain ⟨m, hn, hl⟩ := I.loc
      obtain ⟨w', r, q⟩ := hl i fr fv hN hσ hvis
      obtain ⟨c2, h2⟩ := look L.fre
      refine ⟨w', r, .inr ⟨.inr L.fre, c2, h2, ?_⟩⟩
      have c1 := cm h2
      rcases q with ⟨k', _⟩ | ⟨_, c3, e', z⟩
      · have k' : X.env.scope.names.lookup fr = some .local := k'
        rcases L.has with k2 | k2 <;> rw [k2] at k' <;> cases k'
      · rw [c1] at e'
        cases e'
        exact cellK z
    · cases e1
      cases e2
      obtain ⟨m, hn, hl⟩ := I.loc
      obtain ⟨w', r, q⟩ := hl i2 fr2 fv2 hN2 hσ2 hvis2
      obtain ⟨c2, h2⟩ := look L.fre2
      refine ⟨w', r, .inr ⟨.inr L.fre2, c2, h2, ?_⟩⟩
      have c1 := cm h2
      rcases q with ⟨k', _⟩ | ⟨_, c3, e', z⟩
      · have k' : X.env.scope.names.lookup fr2 = some .local := k'
        rcases L.has2 with k2 | k2 <;> rw [k2] at k' <;> cases k'
      · rw [c1] at e'
        cases e'
        exact cellK z
    · cases e1
  · obtain ⟨w', z⟩ := I.cell y c (cm e)
    exact ⟨w', cellK z⟩
  · exact I.freeC y c (cm e)
/-- a call of it -/
theorem lam_turn2 {A : Around} {params : Arguments} {body : Expr} {scope : Scope} {f c' : Addr} {pm ctv : Value} {i i2 : Nat} {v fv fv2 : V} {u : Value} {Q : VK} {tb : TE} (I : Inv X pins σ H s) (L : Lam2 X.env.scope scope par fr fr2) (e0 : Env0 X.prog X.w X.K X.mg X.base A X.stack s H) (hd : A.handled = none) (hdep : A.depth < recursionLimit)
    (hf : s.heap.get? f = some (PySem.W.kla_obj "<lambda>" (X.env.qual ++ "<lambda>") params body scope (cloFrom X.env.cells scope.names []) pm c' ctv)) (hc : H c' = some (CodeO c' (X.env.qual ++ "<lambda>")))
    (hbind : ∀ u, bindArgs (PySem.W.kla_fn "<lambda>" (X.env.qual ++ "<lambda>") params body scope (cloFrom X.env.cells scope.names []) pm (.ref c') ctv) ⟨[u], []⟩ = pure [(par, u)])
    (hN : X.N[i]? = some fr) (hσ : σ[i]? = some (some fv)) (hN2 : X.N[i2]? = some fr2) (hσ2 : σ[i2]? = some (some fv2)) (rv : RelV v u) (hbody : PE (lamCx2 X A X.stack s H scope f c' par fr fr2) body tb) (ht : tb [some v, some fv, some fv2] H Q) :
    wpAny (model X.prog X.w) A (call (.ref f) [u]) (EP X pins σ Q) (fun _ _ => False) s := by
  obtain ⟨⟨oc, vs, t, hoc, hdc, hvc⟩, _, _⟩ := I.hok c' _ hc
  have rc : codeAny (model X.prog X.w) A (.call (.ref f) ⟨[u], []⟩) (CR CX0 X.stack X.prog X.w H s Q E0) s := by
    refine PySem.W.kla_callFunE hdep hf rfl L.co L.gen rfl ⟨c', oc, vs, t, rfl, hoc, hdc, hvc⟩ ?_
    rw [hbind]
    refine wpAny_pure (wpAny_newFunctionEnv (fun y hy => (L.own y hy).1) (fun y hy => by rw [List.mem_singleton.mp hy]; exact L.lc) (fun h₁ hns hsb => ⟨I.nolimit.fresh _ hsb, ?_⟩) L.kind)
    show codeAny _ _ (.expr body (lamEnv X scope s.heap.objs.size f c')) _ _
    have kp : ∀ b o, s.heap.get? b = some o → h₁.get? b = some o := fun b o e => hsb.extBut b o (Nat.ne_of_lt (Heap.lt_size e)) (Heap.get?_push_of_some _ e)
    have J : Inv (lamCx2 X A X.stack s H scope f c' par fr fr2) [] [some v, some fv, some fv2] H { s with heap := h₁, toks := s.toks + ([(par, u)] : List (Str × Value)).length } :=
      lam_start2 I L e0 hd hN hσ hN2 hσ2 rv hns kp
    refine PySem.W.kla_codeExpr (wpAny_mono (hbody.run [] _ _ H Q J ht) (fun v s' hq => ?_) fun e s' hq => hq.elim)
    obtain ⟨w', H', J', rv, q⟩ := hq
    exact ⟨w', H', J'.os, J'.bare, J'.base, J'.hok, rv, q⟩
  refine wpAny_call (codeAny_mono rc fun r s' hq => ?_)
  cases r with
  | error e => exact False.elim hq
  | ok fl =>
    cases fl with
    | ret u => exact I.after hq
    | next => exact False.elim hq
    | brk => exact False.elim hq
    | cont => exact False.elim hq
end
theorem each_rg {a b : Int} {vs : List Value} (h : ItemsOf (fun i v => ∃ t, v = .int (a + i * 1) t) vs.toArray (b - a).toNat) : EachIs IsI vs ((List.range (b - a).toNat).map fun i => a + (i : Nat)) := by
  have e : vs.length = (b - a).toNat := by have := h.1; rwa [List.size_toArray] at this
  have go : ∀ (us : List Value) (f : Nat → Int), (∀ j u, us[j]? = some u → IsI u (f j)) → EachIs IsI us ((List.range us.length).map f) := by
    intro us
    induction us with
    | nil => intro f _; exact .nil
    | cons u r ih =>
      intro f h
      rw [List.length_cons, List.range_succ_eq_map, List.map_cons, List.map_map]
      exact .cons (h 0 u rfl) (ih (f ∘ Nat.succ) fun j v e => h (j + 1) v e)
  rw [← e]
  refine go vs _ fun j u hj => ?_
  obtain ⟨t, rfl⟩ := h.2 j u (by rw [← hj, List.getElem?_toArray])
  exact ⟨t, by rw [Int.mul_one]⟩
section
variable {prog : Program} {w : World} {A : Around} {E : Value → Shared → Prop} {s : Shared}
/-- sorted(range) is list.sort on a new list -/
theorem sorted_of_range {r : Addr} {a b : Int} {t u v : Tok} {n : Nat} {kw : List (Str × Value)} {Q : Value → Shared → Prop} (hh : A.handled = none) (hr : IsRange s.heap r a b 1 t u v) (hsmall : Builtin.Range.small a b 1 = true) (hn : Builtin.Range.rangeSize a b 1 = n) (hlen : n ≤ 2 ^ 24)
    (ha1 : argsOk "sorted" ⟨[.ref r], kw⟩) (ha2 : ∀ x, argsOk "list.sort" ⟨[.ref x], kw⟩)
    (body : ∀ (h' : Heap) (tk : Nat) (vs : List Value) (E' : Value → Shared → Prop), (∀ b o, s.heap.get? b = some o → h'.get? b = some o) → ItemsOf (fun i v => ∃ t, v = .int (a + i * 1) t) vs.toArray n →
      wpAny (model prog w) A.in1.in1 (Builtin.«list.sort» ⟨[.ref h'.objs.size], kw⟩) (fun f s' => f = .done (.ret .none) ∧ Q (.ref h'.objs.size) s') E' { s with heap := h'.push (seqObj "list" vs.toArray 0), toks := tk }) :
    wpAny (model prog w) A (call (.builtin "sorted") [.ref r] kw) Q E s := by
  refine call_function_entry_kw kind_sorted plain_sorted entry_sorted ha1 ?_
  unfold Builtin.«sorted»
  refine wpAny_bind (m := checkCount "sorted" 1 1 _) (wpAny_pure ?_)
  refine wpAny_bind (collect_range (A := A.in1) hh hr hsmall hn hlen fun h' tk acc hk hi => ?_)
  have hL : acc.toList.length ≤ sizeLine := by
    rw [Array.length_toList, hi.1, sizeLine_eq]
    omega
  refine wpAny_bind (wpAny_newList ?_ hL)
  show wpAny _ _ _ _ _ { s with heap := h'.push (seqObj "list" acc.toList.toArray 0), toks := tk }
  refine wpAny_bind (wpAny_holding (wpAny_call_entry_kw slot_list_sort ⟨_, Heap.get?_push_size _ rfl, rfl⟩ entry_list_sort ?body (ha2 _)))
  case body =>
    show wpAny (model prog w) A.in1.in1 (Builtin.«list.sort» ⟨[.ref h'.objs.size], kw⟩) _ _ _
    refine wpAny_mono (body h' tk acc.toList _ hk (by rw [Array.toArray_toList]; exact hi)) (fun f s' hf => ?_) fun _ _ e => e
    obtain ⟨rfl, hq⟩ := hf
    exact ⟨_, rfl, wpAny_pure ⟨_, rfl, hq⟩⟩
end
end L2

set_option Elab.async false
set_option linter.all false
set_option maxRecDepth 100000
set_option maxHeartbeats 1000000
/-! sorted of a range by a lambda that captures two names -/
namespace L2
open PySem PySem.Spec PySem.Calls PyProof.Rows PySem.W
open LamX (Tabs ExtN TabB CodeO lamEnv)
abbrev rgL (n : Int) : List Int := (List.range (n - 0).toNat).map fun i => 0 + ((i : Nat) : Int)
def tSortRg (kf : Int → Int) (T : List (Addr × Str)) (i i2 : Nat) (tb ta : TE) : TE := fun σ H Q => ta σ H fun v H1 => ∃ (n : Int) (fv fv2 : V), v = .int n ∧ RgOk 0 n ∧ σ[i]? = some (some fv) ∧ σ[i2]? = some (some fv2) ∧ Tabs T H1 ∧
  (∀ H2, ExtN H1 H2 → Tabs T H2 → ∀ x ∈ rgL n, tb [some (.int x), some fv, some fv2] H2 fun v H3 => H3 = H2 ∧ v = .int (kf x)) ∧
  ∀ (H2 : Hp) (p : Addr), ExtN H1 H2 → Tabs T H2 → NewT H1 p → H2 p = some (.lst (((rgL n).mergeSort (dataLe false fun x => PyData.int (kf x))).map V.int)) → Q (.ref p) H2
theorem vals_isI {out : List Value} : ∀ {ns : List Int}, EachIs IsI out ns → Vals (ns.map V.int) out := by
  induction out with
  | nil => intro ns e; cases e; exact .nil
  | cons v out ih =>
    intro ns e
    cases e with
    | cons h r => exact .cons h (ih r)
section
variable {X : Cx} {a body : Expr} {ta tb : TE} {T : List (Addr × Str)} {c P : Addr} {p6 q q2 kpos pos pos2 : Pos} {kf : Int → Int} {params : Arguments} {scope : Scope} {par fr fr2 : Str} {i i2 k : Nat}
theorem pe_sortedRg (L : Lam2 X.env.scope scope par fr fr2) (hr : Room (k + 1) X.A) (hg : Gl X "sorted") (hm : X.mg "sorted" = none) (hgr : Gl X "range") (hmr : X.mg "range" = none) (TB : TabB X.base X.mg c P) (hcode : X.env.code = .ref c) (hmT : (P, X.env.qual ++ "<lambda>") ∈ T) (hu : ∀ p ∈ T, p.1 = P → p.2 = X.env.qual ++ "<lambda>") (hN : X.N[i]? = some fr) (hN2 : X.N[i2]? = some fr2) (he : PE X a ta)
    (hbody : ∀ s H f c', Room k (lamCx2 X X.A.in1.in1 X.stack s H scope f c' par fr fr2).A → PE (lamCx2 X X.A.in1.in1 X.stack s H scope f c' par fr fr2) body tb) (na : starEach [a] X.env = (false, eval a X.env) :: starEach [] X.env := by rfl)
    (hdef : defaultsOf params X.env = ([], []) := by rfl) (hbind : ∀ (qual : Str) (cl : List (Str × Addr)) (pm cd ctv u : Value), bindArgs (PySem.W.kla_fn "<lambda>" qual params body scope cl pm cd ctv) ⟨[u], []⟩ = pure [(par, u)] := by intros; rfl)
    (hes : backTo pos (starEach [.Call (.Name "range" q2) [a] [] pos2] X.env) = (false, eval (.Call (.Name "range" q2) [a] [] pos2) X.env) :: backTo pos (starEach [] X.env) := by rfl) (hpl : (backTo pos (starEach [.Call (.Name "range" q2) [a] [] pos2] X.env)).any (·.1) = false := by rfl) :
    PE X (.Call (.Name "sorted" q) [.Call (.Name "range" q2) [a] [] pos2] [⟨some "key", .Lambda params body scope p6, kpos⟩] pos) (tSortRg kf T i i2 tb ta) := by
  refine ⟨fun pins s σ H Q I h => ?_⟩
  refine wpAny_Call_Name_kw (ld_blt (u := .builtin "sorted") I hg hm (by decide +kernel) ?_)
  refine callWith_kw ?_ hes hpl rfl rfl
  rw [hes]
  refine spliced_cons (Call_ (ld_blt I hgr hmr boot_range (PyProof.Rows.callWith_type1 (one_arg he I h (fun v s0 x H1 I0 r0 q0 => ?_) na) na)))
  obtain ⟨n, fv, fv2, rfl, ok, hσ, hσ2, tb0, hk, q⟩ := q0
  obtain ⟨t, rfl⟩ := r0
  refine call_range_1 (spliced_nil ?_)
  obtain ⟨o1, o2, o3, o4, o5⟩ := ok
  -- the range, pinned
  have hra : IsRange (s0.heap.push { cls := .type "range", data := .fields #[.int 0 s0.toks, .int n t, .int 1 (s0.toks + 1)] }) s0.heap.objs.size 0 n 1 s0.toks t (s0.toks + 1) := IsRange.new _ _ _ _ _ _ _
  have J1 : Inv X pins σ H1 { s0 with heap := s0.heap.push { cls := .type "range", data := .fields #[.int 0 s0.toks, .int n t, .int 1 (s0.toks + 1)] }, toks := s0.toks + 1 + 1 } := I0.kept fun b u e => Heap.get?_push_of_some _ e
  have I1 : Inv X ((s0.heap.objs.size, { cls := .type "range", dict := none, data := .fields #[.int 0 s0.toks, .int n t, .int 1 (s0.toks + 1)], slots := #[] }) :: pins) σ H1 { s0 with heap := s0.heap.push { cls := .type "range", data := .fields #[.int 0 s0.toks, .int n t, .int 1 (s0.toks + 1)] }, toks := s0.toks + 1 + 1 } := by
    refine J1.pins_of fun p hp => ?_
    rcases List.mem_cons.mp hp with z | z
    · rw [z]
      refine ⟨hra, I0.hok.fresh (Nat.le_refl _), fun z2 => ?_, I0.nofs (Nat.le_refl _), fun v z2 => nomatch z2⟩
      have := I0.lt
      have z2 : s0.heap.objs.size = X.env.locals := z2
      rw [← z2] at this
      exact Nat.lt_irrefl _ this
    · exact J1.pin p (List.mem_append_right _ z)
  clear hra J1
  generalize s0.heap.objs.size = ra at I1
  generalize ({ s0 with heap := s0.heap.push { cls := .type "range", data := .fields #[.int 0 s0.toks, .int n t, .int 1 (s0.toks + 1)] }, toks := s0.toks + 1 + 1 } : Shared) = s1 at I1
  generalize s0.toks = t0 at I1
  show wpAny _ _ (evalAll [do let v ← eval (.Lambda params body scope p6) X.env; standAt pos; pure v]) _ _ s1
  have hfree : ∀ y ∈ scope.names, y.2 = .free → ∃ c, X.env.cells.lookup y.1 = some c := fun y hy e => by
    rcases (L.own y hy).2.2 e with z | z <;> rw [z]
    · exact I.ok.has _ L.has
    · exact I.ok.has _ L.has2
  refine wpAny_evalAll_cons (wpAny_bind (LamX.lam_make2 I1 TB hcode hmT hu tb0 hdef hfree fun f c' pm ctv H2 s2 I2' ex tb2 hf nf nfr hc => wpAny_bind (wpAny_standAt (wpAny_pure (wpAny_evalAll_nil ?_)))))
  show wpAny _ _ (call (.builtin "sorted") [.ref ra] [(Str.ofString "key", .ref f)]) _ _ s2
  have hra2 : IsRange s2.heap ra 0 n 1 t0 t (t0 + 1) := (I2'.pin _ (List.mem_append_right _ List.mem_cons_self)).1
  have I2'' : Inv X pins σ H2 s2 := I2'.pins_of fun p hp => I2'.pin p (List.mem_append_right _ (List.mem_cons_of_mem _ hp))
  clear I2'
  have ehd : X.A.in1.handled = none := hr.hd
  refine sorted_of_range (n := (n - 0).toNat) hr.hd hra2 (small_one o1 o2 o3 o4) (rangeSize_nat 0 n) o5 (PyProof.Rows.ksk_s1 _ _) (fun x => PyProof.Rows.ksk_l1 _ _) fun h' tk vs E' kp0 hi => ?_
  rw [PyProof.Rows.ksk_t1]
  replace hf := kp0 _ _ hf
  have I2 : Inv X pins σ H2 { s2 with heap := h', toks := tk } := I2''.kept kp0
  clear I2'' hra2
  obtain ⟨s2h, s2g, s2d, s2t, s2o⟩ := s2
  dsimp only at I2 hf kp0 ⊢
  have eo := each_rg hi
  have le0 := eo.length
  have fs2 : ∀ b, b ∉ frs X.stack → b ∉ X.fs := fun b hb z => hb (by
    rcases I2.ok.stk with e1 | ⟨e1, _⟩
    · rw [e1]; exact z
    · rw [e1]
      have z : b ∈ frs X.outer := z
      unfold frs at z ⊢
      obtain ⟨x, hx, hx2⟩ := List.mem_filterMap.mp z
      exact List.mem_filterMap.mpr ⟨x, List.mem_cons_of_mem _ hx, hx2⟩)
  have fl : f ≠ X.env.locals := fun z => by
    obtain ⟨m, ⟨o, es, ep, ho, hd, _⟩, _⟩ := I2.loc
    rw [z, ho] at hf
    cases hf
    cases hd
  have big : ∀ b, h'.objs.size ≤ b → H2 b = none ∧ b ≠ X.env.locals ∧ b ∉ X.fs ∧ X.s_0.heap.objs.size ≤ b ∧ (∀ x c, X.env.cells.lookup x = some c → c ≠ b) ∧ (∀ p ∈ X.pn ++ pins, p.1 ≠ b) ∧ f ≠ b := fun b hb => by
    have lt : ∀ {c o}, h'.get? c = some o → c ≠ b := fun {c o} q z => by
      have := Heap.lt_size q
      rw [z] at this
      exact Nat.lt_irrefl _ (Nat.lt_of_lt_of_le this hb)
    refine ⟨I2.hok.fresh hb, fun z => ?_, I2.nofs hb, Nat.le_trans I2.sz hb, fun x c e => ?_, fun p hp => lt (I2.pin p hp).1, lt hf⟩
    · have := I2.lt
      rw [← z] at this
      exact Nat.lt_irrefl _ (Nat.lt_of_lt_of_le this hb)
    · obtain ⟨v, o, ho, _⟩ := I2.cell x c e
      exact lt ho
  have ha := big h'.objs.size (Nat.le_refl _)
  have zs : (h'.push (seqObj "list" vs.toArray 0)).objs.size = h'.objs.size + 1 := size_push' _ _
  have hz : (rgL n).length ≤ sizeLine := by
    rw [List.length_map, List.length_range, sizeLine_eq]
    omega
  refine keyJ_tree (b := false) (k := kf) (R := IsI) (bs := rgL n) (s := { heap := h'.push (seqObj "list" vs.toArray 0), gens := s2g, drawn := s2d, toks := tk, os := s2o })
    (J := fun kS e1 kA e s' => Inv X ((kS, seqObj "list" kA e) :: (h'.objs.size, seqObj "list" #[] e1) :: (f, PySem.W.kla_obj "<lambda>" (X.env.qual ++ "<lambda>") params body scope (cloFrom X.env.cells scope.names []) pm c' ctv) :: pins) σ H2 s')
    (Heap.get?_push_size _ rfl) (fun kS e1 hkS => ?_) eo (by rw [le0]; exact hz) (by have := hr.un; show X.A.units + 1 + 1 < _; omega) (fun kS e1 kA e v x s' hkS hj hR hx => ?_) (fun kS e1 hh' kp hkS h1 h2 => ?_) fun kS e1 kA e s' hh' tk2 out cc hkS hj kp hp ko => ⟨rfl, ?_⟩
  · have hkS' : h'.objs.size < kS := by rw [zs] at hkS; omega
    have hS := big kS (by omega)
    refine ⟨fun kA e s' hj => ⟨(hj.pin _ (List.mem_append_right _ List.mem_cons_self)).1, (hj.pin _ (List.mem_append_right _ (List.mem_cons_of_mem _ List.mem_cons_self))).1⟩, fun kA e c2 s' v hj hc2 => ?_⟩
    have j1 := hj.pins_of fun p hp => hj.pin p (List.mem_append_right _ (List.mem_cons_of_mem _ hp))
    have j2 := j1.turned (h' := s'.heap.update kS (Obj.mapSeq (·.push v))) (t' := s'.toks) (it := kS) (fun b o hb q => ((Heap.SameBut.update s'.heap kS (Obj.mapSeq (·.push v))).2 b hb).trans q) hS.1 hS.2.1.symm.symm (.inr hS.2.2.2.1) hS.2.2.2.2.1 (fun p hp => by
      rcases List.mem_append.mp hp with z | z
      · exact hS.2.2.2.2.2.1 p (List.mem_append_left _ z)
      · rcases List.mem_cons.mp z with z | z
        · rw [z]; exact Nat.ne_of_lt hkS'
        · rcases List.mem_cons.mp z with z | z
          · rw [z]; exact hS.2.2.2.2.2.2
          · exact hS.2.2.2.2.2.1 p (List.mem_append_right _ z))
    refine j2.pins_of fun p hp => ?_
    rcases List.mem_cons.mp hp with z | z
    · rw [z]
      exact ⟨hc2, hS.1, hS.2.1, hS.2.2.1, fun v z => nomatch z⟩
    · exact j2.pin p (List.mem_append_right _ z)
  · obtain ⟨tv, rfl⟩ := hR
    have ho := hj.pin _ (List.mem_append_right _ (List.mem_cons_of_mem _ (List.mem_cons_of_mem _ List.mem_cons_self)))
    have hr2 : Room k (lamCx2 X X.A.in1.in1 X.stack s' H2 scope f c' par fr fr2).A := ⟨hr.hd, by have := hr.dp; show X.A.depth + 1 + 3 * k + 5 < _; omega, by have := hr.un; show X.A.units + 1 + 1 + 3 + 16 * k + 200 < _; omega⟩
    refine wpAny_mono (lam_turn2 (v := .int x) hj L hj.env0.in1.in1 hr.hd hr.depth ho.1 hc (fun u => hbind _ _ _ _ _ u) hN hσ hN2 hσ2 ⟨tv, rfl⟩ (hbody s' H2 f c' hr2) (hk H2 ex tb2 x hx)) (fun u s3 hq => ?_) fun _ _ z => z
    obtain ⟨v, H3, I3, r3, rfl, rfl⟩ := hq
    exact ⟨r3, I3⟩
  · have hkS' : h'.objs.size < kS := by rw [zs] at hkS; omega
    have hS := big kS (by omega)
    have kp : ∀ b o, h'.get? b = some o → hh'.get? b = some o := fun b o e => kp b o (Nat.ne_of_lt (Heap.lt_size e)) (Heap.get?_push_of_some _ e)
    have j1 : Inv X pins σ H2 { heap := hh', gens := s2g, drawn := s2d, toks := tk, os := s2o } := I2.kept kp
    refine j1.pins_of fun p hp => ?_
    rcases List.mem_cons.mp hp with z | z
    · rw [z]
      exact ⟨h1, hS.1, hS.2.1, hS.2.2.1, fun v z => nomatch z⟩
    · rcases List.mem_cons.mp z with z | z
      · rw [z]
        exact ⟨h2, ha.1, ha.2.1, ha.2.2.1, fun v z => nomatch z⟩
      · rcases List.mem_cons.mp z with z | z
        · rw [z]
          exact ⟨kp _ _ hf, nf, fl, fs2 f nfr, fun v z => nomatch z⟩
        · exact j1.pin p (List.mem_append_right _ z)
  · have hkS' : h'.objs.size < kS := by rw [zs] at hkS; omega
    have hS := big kS (by omega)
    have eo2 := keyedOut_each (fun x => PyData.int (kf x)) ko eo
    have lo2 : ((rgL n).mergeSort (dataLe false fun x => PyData.int (kf x))).length ≤ sizeLine := by rw [List.length_mergeSort]; exact hz
    have j1 := hj.pins_of (pins' := pins) fun p hp => hj.pin p (List.mem_append_right _ (List.mem_cons_of_mem _ (List.mem_cons_of_mem _ (List.mem_cons_of_mem _ hp))))
    have nb : ∀ b u, H2 b = some u → b ≠ h'.objs.size ∧ b ≠ kS := fun b u e => ⟨ne_of_none e ha.1, ne_of_none e hS.1⟩
    have hok : HOk X.prog X.w (upd H2 (h'.objs.size) (.lst (((rgL n).mergeSort (dataLe false fun x => PyData.int (kf x))).map V.int))) hh' := fun b u e => by
      by_cases hb : b = h'.objs.size
      · subst hb
        rw [upd_same] at e
        cases e
        exact ⟨by rw [List.length_map]; exact lo2, _, cc, vals_isI eo2, hp⟩
      · rw [upd_ne hb] at e
        refine (j1.hok b u e).stay (fun d v hd q => ?_) (fun d q => by rw [upd_ne (nb d _ q).1]; exact q) fun d xs q => by rw [upd_ne (nb d _ q).1]; exact q
        have hd2 : d ≠ h'.objs.size ∧ d ≠ kS := by
          rcases hd with z | z
          · rw [z]; exact nb b _ e
          · exact nb d _ z
        exact kp d v hd2.1 hd2.2 q
    have hch : ∀ b ∈ [h'.objs.size, kS], (b ∈ X.ex ∨ X.s_0.heap.objs.size ≤ b) ∧ b ≠ X.env.locals ∧ (∀ x c, X.env.cells.lookup x = some c → c ≠ b) ∧ ∀ p ∈ X.pn ++ pins, p.1 ≠ b := fun b hb => by
      simp only [List.mem_cons, List.not_mem_nil, or_false] at hb
      rcases hb with rfl | rfl
      · exact ⟨.inr ha.2.2.2.1, ha.2.1, ha.2.2.2.2.1, ha.2.2.2.2.2.1⟩
      · exact ⟨.inr hS.2.2.2.1, hS.2.1, hS.2.2.2.2.1, hS.2.2.2.2.2.1⟩
    have nch : ∀ b, b ∉ [h'.objs.size, kS] → b ≠ h'.objs.size ∧ b ≠ kS := fun b hb => ⟨fun z => hb (by simp [z]), fun z => hb (by simp [z])⟩
    have un : Un (frs X.stack) [h'.objs.size, kS] H2 (upd H2 (h'.objs.size) (.lst (((rgL n).mergeSort (dataLe false fun x => PyData.int (kf x))).map V.int))) s'.heap hh' :=
      ⟨fun b o q n _ hx => kp b o (nch b hx).1 (nch b hx).2 q, fun b o q n _ hx => ⟨o.slots, kp b o (nch b hx).1 (nch b hx).2 q⟩, fun b o q n hx => by rw [upd_ne (nch b hx).1]; exact n, fun b o q hx => ⟨o, kp b o (nch b hx).1 (nch b hx).2 q⟩,
        fun b xs q => by rw [upd_ne (nb b _ q).1]; exact q, fun b o u q => by rw [upd_ne (nb b _ q).1]; exact q, fun b ps q => ⟨#[], by rw [upd_ne (nb b _ q).1, q]; simp⟩⟩
    refine ⟨.ref (h'.objs.size), _, j1.call (t' := tk2) (g' := s'.gens) (d' := s'.drawn) un hok j1.bare hch, rfl, ?_⟩
    have up : ExtN H2 (upd H2 (h'.objs.size) (.lst (((rgL n).mergeSort (dataLe false fun x => PyData.int (kf x))).map V.int))) := ExtN.of fun b o e => by rw [upd_ne (ne_of_none e ha.1)]; exact e
    refine q _ _ (ex.trans up) (tb2.ext fun b o e => by rw [upd_ne (ne_of_none e ha.1)]; exact e) ?_ upd_same
    intro o e1
    apply Classical.byContradiction
    intro no
    have z := ex _ _ e1 fun ps e2 => no ⟨ps, e2⟩
    rw [ha.1] at z
    cases z
end
end L2

set_option Elab.async false
set_option linter.all false
set_option maxRecDepth 100000
set_option maxHeartbeats 1000000
/-! both ways find the same -/
namespace E4
open PySem PySem.Spec PySem.W PyProof.Rows L2
theorem spot_range (vl : Vls) {xs : List Sd} {cs : List Int} (h : cs.length = xs.length) : spotI vl xs cs = ((List.range xs.length).map fun i => lN cs i * TT vl (rwN xs i)).sum := by
  unfold spotI
  congr 1
  refine List.ext_getElem? fun i => ?_
  rw [List.getElem?_map, List.getElem?_map]
  by_cases c : i < xs.length
  · rw [List.getElem?_range c]
    have h1 : xs[i]? = some xs[i] := List.getElem?_eq_getElem c
    have h2 : cs[i]? = some cs[i] := List.getElem?_eq_getElem (by omega)
    rw [show (xs.zip cs)[i]? = some (xs[i], cs[i]) from List.getElem?_zip_eq_some.mpr ⟨h1, h2⟩]
    show some (cs[i] * tm vl xs[i].2.2) = some (lN cs i * TT vl (rwN xs i))
    have e1 : lN cs i = cs[i] := by show (cs[i]?).getD 0 = _; rw [h2]; rfl
    have e2 : rwN xs i = xs[i] := by show (xs[i]?).getD _ = _; rw [h1]; rfl
    rw [e1, e2]
  · rw [List.getElem?_eq_none (by rw [List.length_zip]; omega), List.getElem?_eq_none (by rw [List.length_range]; omega)]
    rfl
theorem fit_two {xs : List Sd} (hc : ChdB xs) {i j : Nat} (ne : i ≠ j) {x y : Sd} (hx : xs[i]? = some x) (hy : xs[j]? = some y) (nx : x.2.1 ≠ []) (ny : y.2.1 ≠ []) : FitE x y ∨ FitE y x := by
  have h1 := List.pairwise_filter.mp (chd_pw.mp hc)
  have h2 := List.pairwise_iff_getElem.mp h1
  obtain ⟨hi, e1⟩ := List.getElem?_eq_some_iff.mp hx
  obtain ⟨hj, e2⟩ := List.getElem?_eq_some_iff.mp hy
  rcases Nat.lt_or_gt_of_ne ne with q | q
  · have := h2 i j hi hj q
    rw [e1, e2] at this
    exact this (decide_eq_true nx) (decide_eq_true ny)
  · have := h2 j i hj hi q
    rw [e1, e2] at this
    exact (this (decide_eq_true ny) (decide_eq_true nx)).symm
theorem law_pw {vl : Vls} {xs : List Sd} (g : PosV vl xs) (hc : ChdB xs) {A : List Nat} (nd : A.Nodup) (hA : ∀ i ∈ A, i < xs.length) (pw : A.Pairwise fun i j => TT vl (rwN xs j) ≤ TT vl (rwN xs i)) :
    A.Pairwise (fun i j => SS vl (rwN xs j) * TT vl (rwN xs j) ≤ TT vl (rwN xs i) ∨ SS vl (rwN xs i) = 1) := by
  refine (pw.and nd).imp_of_mem fun {i j} hi hj h => ?_
  obtain ⟨h, ne⟩ := h
  have row : ∀ i ∈ A, ∃ x, xs[i]? = some x ∧ rwN xs i = x ∧ x ∈ xs := fun i hi => by
    have e := List.getElem?_eq_getElem (hA i hi)
    exact ⟨_, e, by show (xs[i]?).getD _ = _; rw [e]; rfl, List.mem_of_getElem? e⟩
  obtain ⟨x, hx, ex, mx⟩ := row i hi
  obtain ⟨y, hy, ey, my⟩ := row j hj
  rw [ex, ey] at h ⊢
  obtain ⟨sx, tx⟩ := g x mx
  obtain ⟨sy, ty⟩ := g y my
  by_cases c : x.2.1 = []
  · exact .inr (tm_nil vl c)
  · by_cases d : y.2.1 = []
    · rw [tm_nil vl d, Int.one_mul]
      exact .inl h
    · rcases fit_two hc ne hx hy c d with f | f
      · refine .inr ?_
        have h1 : SS vl x * TT vl x ≤ TT vl y := Int.le_of_dvd (show 0 < TT vl y by omega) (f.dvd (vl := vl))
        by_cases s : SS vl x = 1
        · exact s
        · have : 2 * TT vl x ≤ SS vl x * TT vl x := Int.mul_le_mul_of_nonneg_right (by omega) (by omega)
          omega
      · exact .inl (Int.le_of_dvd (show 0 < TT vl x by omega) (f.dvd (vl := vl)))
theorem law_cellL {vl : Vls} {xs : List Sd} {A : List Nat} {pl : Int} (p0 : 0 ≤ pl) (g : PosV vl xs) (hc : ChdB xs) (nd : (xs.map (·.1)).Nodup) (pm : A.Perm (List.range xs.length)) (pw : A.Pairwise fun i j => TT vl (rwN xs j) ≤ TT vl (rwN xs i)) :
    (if (lawF vl xs A pl).2 = 0 then some (lawF vl xs A pl).1 else none) = cellL vl (xs.map norm) pl := by
  have ndA : A.Nodup := pm.nodup_iff.mpr List.nodup_range
  have hA : ∀ i ∈ A, i < xs.length := fun i hi => List.mem_range.mp (pm.mem_iff.mp hi)
  cases e : cellL vl (xs.map norm) pl with
  | some cs =>
    obtain ⟨h1, h2⟩ := in_of_cell p0 g hc nd e
    have hl := in_len h1
    have : lawF vl xs A pl = (cs, 0) := by
      refine law_comp g h1 A _ ndA hA (law_pw g hc ndA hA pw) (by rw [List.length_replicate]) (fun j hj => ?_) ?_
      · rw [if_pos (pm.mem_iff.mpr (List.mem_range.mpr hj))]
        show ((List.replicate xs.length (0 : Int))[j]?).getD 0 = 0
        rw [List.getElem?_replicate, if_pos hj]
        rfl
      · show pl = _
        rw [← h2, spot_range vl hl]
        exact (sumI_perm (pm.map _)).symm
    rw [this, if_pos rfl]
  | none =>
    by_cases z : (lawF vl xs A pl).2 = 0
    · obtain ⟨h1, h2, _⟩ := law_sound g A (List.replicate xs.length 0, pl) ndA (fun i hi => by rw [List.getElem?_replicate, if_pos (hA i hi)]) (in_zero g) p0
      have h2 : spotI vl xs (lawF vl xs A pl).1 + (lawF vl xs A pl).2 = spotI vl xs (List.replicate xs.length 0) + pl := h2
      rw [z, spot_zero, Int.add_zero, Int.zero_add] at h2
      have := cell_of_in g hc nd h1
      have h3 : spotI vl xs (A.foldl (stL vl xs) (List.replicate xs.length 0, pl)).1 = pl := h2
      rw [h3, e] at this
      cases this
    · rw [if_neg z]
theorem le_intI {β : Type} (kf : β → Int) (a b : β) (h : dataLe false (fun x => PyData.int (kf x)) a b = true) : kf a ≤ kf b := by
  simp [dataLe, PySem.W.sortLe, PySem.W.keyToks, PyProof.Rows.lexLt, PyProof.Rows.itemLt] at h
  omega
/-- what the sort of the range gives -/
theorem sort_rg {n : Nat} (kf : Int → Int) : ∃ A : List Nat, A.Perm (List.range n) ∧ A.Pairwise (fun i j => kf (i : Nat) ≤ kf (j : Nat)) ∧ ((rgL (n : Nat)).mergeSort (dataLe false fun x => PyData.int (kf x))) = A.map fun i => ((i : Nat) : Int) := by
  have e0 : rgL (n : Nat) = (List.range n).map fun i => ((i : Nat) : Int) := by
    show (List.range (((n : Nat) : Int) - 0).toNat).map _ = _
    rw [Int.sub_zero, Int.toNat_natCast]
    exact List.map_congr_left fun i _ => Int.zero_add _
  have T : PySem.W.TotalLe (dataLe false fun x : Int => PyData.int (kf x)) := PySem.W.sortLe_total _ _ _
  have h : ((rgL (n : Nat)).mergeSort (dataLe false fun x => PyData.int (kf x))).Pairwise fun a b => dataLe false (fun x : Int => PyData.int (kf x)) a b = true := List.pairwise_mergeSort T.trans (fun a b => by rcases T.total a b with h | h <;> simp [h]) _
  have pm : ((rgL (n : Nat)).mergeSort (dataLe false fun x => PyData.int (kf x))).Perm (rgL (n : Nat)) := List.mergeSort_perm _ _
  generalize ((rgL (n : Nat)).mergeSort (dataLe false fun x => PyData.int (kf x))) = S at h pm
  rw [e0] at pm
  have back : S = (S.map Int.toNat).map fun i => ((i : Nat) : Int) := by
    rw [List.map_map]
    conv => lhs; rw [← List.map_id S]
    refine List.map_congr_left fun x hx => ?_
    obtain ⟨i, _, rfl⟩ := List.mem_map.mp (pm.mem_iff.mp hx)
    rfl
  refine ⟨S.map Int.toNat, ?_, ?_, back⟩
  · have := pm.map Int.toNat
    rw [List.map_map] at this
    refine this.trans (List.Perm.of_eq ?_)
    conv => rhs; rw [← List.map_id (List.range n)]
    exact List.map_congr_left fun i _ => rfl
  · rw [back] at h
    rw [List.pairwise_map] at h
    exact h.imp fun {a b} q => le_intI kf _ _ q
end E4

set_option Elab.async false
set_option linter.all false
set_option maxRecDepth 100000
set_option maxHeartbeats 2000000
set_option exponentiation.threshold 5000
/-! _law_cell -/
namespace E4
open PySem PySem.Spec PyProof.Rows L2
open C8 (Cal Mak Met InsC pe_c pe_mt pe_mt0 call_isC clsBody)
open LamX (Tabs ExtN TabB CodeO)
abbrev sCellW : Stmt := top 44
def spCellW (T : List (Addr × Str)) (K : PySem.W.Frag) : Sp := fun vs H Q _ => ∃ (l d : Addr) (ts : List Addr) (xs : List Sd) (vl : Vls) (pl : Int), vs = [.ref l, .ref d, .int pl] ∧ H l = some (.lst (ts.map V.ref)) ∧ SdsAt H ts xs ∧ H d = some (.dK (dI vl)) ∧ GdR vl xs ∧ SdsOk xs ∧ (∀ x ∈ xs, RowOk x) ∧ xs.length ≤ 8 ∧ ChdB xs ∧ 0 ≤ pl ∧ pl.natAbs < 2 ^ 4000 ∧ Tabs T H ∧
  (∀ cs, cellL vl (xs.map norm) pl = some cs → ∀ H' p, ExtN H H' → Tabs T H' → NewT H p → H' p = some (.lst (cs.map V.int)) → Q (.ref p) H') ∧ (cellL vl (xs.map norm) pl = none → ∀ H', ExtN H H' → Tabs T H' → Q .non H')
theorem tabs_lst0 {T : List (Addr × Str)} {D : Addr} {H H' : Hp} {xs : List V} (t : Tabs T H) (S : SameB D H H') (hD : H D = some (.lst xs)) : Tabs T H' := fun p hp =>
  let ⟨ps, h1, h2, h3⟩ := t p hp
  ⟨ps, S _ _ (ne_of h1 hD (by intro w; cases w)) h1, h2, fun pos cv e => let ⟨c, e1, e2⟩ := h3 pos cv e; ⟨c, e1, S _ _ (ne_of e2 hD (by unfold CodeO; intro w; cases w)) e2⟩⟩
section
variable {P : Program} {w : World} {K : PySem.W.Frag} {mg : Str → Option Value} {base : Heap}
abbrev NCW : List Str := ["_law_rows", "_law_sizes_here", "_law_spot_here", "_law_found", "_law_row", "_law_at", "_law_step"]
theorem scCellW : FnScope NCW ["_law_rows", "_law_sizes_here", "_law_spot_here"] (defScope sCellW) := ⟨rfl, rfl, rfl, by decide +kernel, rfl, by decide +kernel, by decide +kernel⟩
theorem ok_cellW {T : List (Addr × Str)} {f c Pt : Addr} {fd : FuncData} (F : Fun K "_law_cell" "_law_cell" sCellW f fd) (hc : fd.code = .ref c) (B : Bl mg) (B4 : E3.Bt4 mg) (hmin : mg "min" = none) (TB : TabB base mg c Pt) (hm : (Pt, ("_law_cell.<locals>.<lambda>" : Str)) ∈ T) (hu : ∀ p ∈ T, p.1 = Pt → p.2 = "_law_cell.<locals>.<lambda>")
    (Tm : Cal P w K mg base 1 "_law_times" (spTimesG K) []) : FnOk P w K mg base CX0 3 f fd ["_law_rows", "_law_sizes_here", "_law_spot_here"] (spCellW T K) := by
  refine F.okC hc scCellW (fun vs H Q E h => ?_) (fun A outer s H vs Q E hr h => ?_)
  · obtain ⟨l, d, ts, xs, vl, s0, rfl, _⟩ := h
    rfl
  · obtain ⟨l, d, ts, xs, vl, pl, rfl, hl0, hx, hd, gd, oks, ok, l8, hch, p0, p1, tb, k1, k2⟩ := h
    refine ⟨_, pss_cons (ps_setLc (i := 3) (own := [("_law_row", 4)]) (g := gName 4) (tt := tYes) (te := tC (.int 0)) (by rfl) scCellW.nd rfl rfl (by rfl) (pi_list (pv 0))
        (blkOk_by (own := [("_law_row", 4)]) (N := NCW) (sc := defScope sCellW) (by decide +kernel))
        (fun _ _ _ _ _ => pg_name (i := 4) scCellW.nd rfl (Or.inl rfl)) (fun _ _ _ _ _ => pts_nil) (fun _ _ _ _ _ => by exact pe_int))
      (pss_cons (ps_for PassesOwn.never rfl (pi_list (pe_sortedRg (i := 0) (i2 := 1) (k := 1) (par := "_law_at") (fr := "_law_rows") (fr2 := "_law_sizes_here") (kf := fun x => 0 - tm vl (rwN xs x.toNat).2.2) (T := T) (c := c) (P := Pt)
          (tb := tOp (rI0 fun i j => .int (i - j)) (tC (.int 0)) (tCall (spTimesG K) [] C8.E0 (tCons (tOp (rIxT K) (tOp (rIxL K) (tVar 1) (tVar 0)) (tC (.int 2))) (tCons (tVar 2) tNil))))
          ⟨rfl, rfl, rfl, by decide +kernel, rfl, rfl, rfl, .inl rfl, .inl rfl⟩ hr (by rfl) B.srt_ (by rfl) B4.rng_ TB rfl hm hu rfl rfl (pe_callB call_len_seq (by rfl) B.len_ PySem.boot_len (pa_cons (pv 0) pa_nil))
          (fun s H f c' hr' => by exact pe_op op_sub pe_int (pe_c Tm hr' (by decide) rfl (pa_cons (pe_ix ix_tup (pe_ix ix_list (pv 1) (pv 0) (fun _ _ => rfl)) pe_int (fun _ _ => rfl)) (pa_cons (pv 2) pa_nil)))))) (pg_name (i := 5) scCellW.nd rfl (Or.inl rfl))
        (pss_one (ps_if (pt_cmpR (op_neD hr.units) (pe_ix ix_tup (pe_ix ix_list (pv 0) (pv 5) (fun _ _ => rfl)) pe_int (fun _ _ => rfl)) (pe_lstS pa_nil) (by rfl))
          (pss_cons (ps_set (i := 6) scCellW.nd rfl (Or.inl rfl) (pe_c Tm hr (by decide) rfl (pa_cons (pe_ix ix_tup (pe_ix ix_list (pv 0) (pv 5) (fun _ _ => rfl)) pe_int (fun _ _ => rfl)) (pa_cons (pv 1) pa_nil))))
          (pss_cons (ps_asg (pe_callB (call_min2 rfl) (by rfl) hmin (by decide +kernel) (pa_cons (pe_op op_fdivW (pv 2) (pv 6)) (pa_cons (pe_op op_sub (pe_c Tm hr (by decide) rfl (pa_cons (pe_ix ix_tup (pe_ix ix_list (pv 0) (pv 5) (fun _ _ => rfl)) pe_int (fun _ _ => rfl)) (pa_cons (pv 1) pa_nil))) pe_int) pa_nil))) (pg_sub (pv 3) (pv 5) set_list))
          (pss_one (ps_set (i := 2) scCellW.nd rfl (Or.inl rfl) (pe_op op_sub (pv 2) (pe_op op_mulW (pv 6) (pe_ix ix_list (pv 3) (pv 5) (fun _ _ => rfl)))))))) pss_nil)))
      (pss_one (ps_ret (pe_ifExp (pt_cmpR op_eq (pv 2) pe_int (by rfl)) (pv 3) pe_non)))), ?_⟩
    have lt := hx.length
    have hl : SqL K H l (ts.map V.ref) := SqL.of hl0
    have ln : (ts.map V.ref).length = xs.length := by rw [List.length_map]; exact lt
    have rowat : ∀ i, i < xs.length → ∃ x t c1 c2, xs[i]? = some x ∧ rwN xs i = x ∧ x ∈ xs ∧ (ts.map V.ref)[i]? = some (.ref t) ∧ H t = some (.tup [.str x.1, .ref c1, .ref c2]) ∧ H c1 = some (.lst (x.2.1.map V.str)) ∧ H c2 = some (.lst (x.2.2.map V.str)) := fun i hi => by
      have e := List.getElem?_eq_getElem hi
      obtain ⟨t, ht, c1, c2, g0, g1, g2⟩ := paired_ix hx e
      exact ⟨_, t, c1, c2, e, by show (xs[i]?).getD _ = _; rw [e]; rfl, List.mem_of_getElem? e, by rw [List.getElem?_map, ht]; rfl, g0, g1, g2⟩
    refine seq_asg ⟨_, rfl, l, rfl, ⟨_, hl⟩, fun D nD => ?_⟩
    refine lc_it (walk_list (xs := ts.map V.ref)) (fun i H' => Same H H' ∧ H' D = some (.lst (List.replicate i (V.int 0)))) ⟨Same.upd nD, upd_same⟩ (fun i H' _ q => hl.same q.1) ?_ ?_
    · rintro i v H2 H3 hi ⟨S2, hD⟩ ⟨rfl, _⟩
      rw [List.length_map] at hi
      refine ⟨rfl, iteT (B := False) ⟨_, hD, ?_, ?_, ?_⟩⟩
      · rw [List.length_replicate, sizeLine_eq]
        omega
      · intro b o e
        rw [upd_ne (ne_of_none e nD)]
        exact S2 _ _ e
      · rw [upd_same, List.replicate_succ']
    rintro H2 ⟨S2, hD⟩
    rw [ln] at hD
    have nlD : l ≠ D := ne_of_none hl0 nD
    have ndD : d ≠ D := ne_of_none hd nD
    dsimp only
    refine ⟨_, rfl, l, _, rfl, .inl (hl.same S2), ?_⟩
    rw [ln]
    have one : ∀ H3, ExtN H2 H3 → ∀ (b : Addr) (o : HO), H b = some o → (∀ ps, o ≠ .tbl ps) → H3 b = some o := fun H3 X b o e nt => X b o (S2 _ _ e) nt
    refine ⟨((xs.length : Nat) : Int), .ref l, .ref d, rfl, ⟨by decide, by decide, by omega, by omega, by omega⟩, rfl, rfl, tb.ext S2, fun H3 X3 T3 x hx1 => ?_, fun H3 p X3 T3 np hp => ?_⟩
    · obtain ⟨i, hi, rfl⟩ := List.mem_map.mp hx1
      have hi : i < xs.length := by
        have := List.mem_range.mp hi
        omega
      obtain ⟨x, t, c1, c2, ex, er, mx, ht, g0, g1, g2⟩ := rowat i hi
      have e0 : (0 + ((i : Nat) : Int)).toNat = i := by omega
      obtain ⟨_, _, _, x4⟩ := ok x mx
      refine ⟨_, rfl, _, rfl, l, _, 0 + ((i : Nat) : Int), _, rfl, rfl, SqL.of (one H3 X3 _ _ hl0 fun _ z => nomatch z), by rw [Int.zero_add]; exact atI_get ht, t, _, 2, _, rfl, rfl, SqT.of (one H3 X3 _ _ g0 fun _ z => nomatch z), rfl, _, rfl, c2, d, x.2.2, vl, rfl, SqL.of (one H3 X3 _ _ g2 fun _ z => nomatch z), one H3 X3 _ _ hd (fun _ z => nomatch z), (gd x mx).2, by omega, _, _, rfl, rfl, rfl, ?_⟩
      show V.int (0 - tm vl x.2.2) = V.int (0 - tm vl (rwN xs (0 + ((i : Nat) : Int)).toNat).2.2)
      rw [e0, er]
    obtain ⟨A0, pmA, pwA, eA⟩ := sort_rg (n := xs.length) (fun x => 0 - tm vl (rwN xs x.toNat).2.2)
    rw [eA] at hp
    have g : PosV vl xs := gd_pos gd
    have hA : ∀ i ∈ A0, i < xs.length := fun i hi => List.mem_range.mp (pmA.mem_iff.mp hi)
    have ndA : A0.Nodup := pmA.nodup_iff.mpr List.nodup_range
    have key := law_cellL p0 g hch oks.nd pmA (pwA.imp fun {i j} h => by
      have h : 0 - tm vl (rwN xs ((i : Nat) : Int).toNat).2.2 ≤ 0 - tm vl (rwN xs ((j : Nat) : Int).toNat).2.2 := h
      rw [Int.toNat_natCast, Int.toNat_natCast] at h
      show tm vl (rwN xs j).2.2 ≤ tm vl (rwN xs i).2.2
      omega)
    have X03 : ExtN H H3 := (ExtN.of S2).trans X3
    have hD3 := X3 _ _ hD fun _ z => nomatch z
    have hl3 := X03 _ _ hl0 fun _ z => nomatch z
    have hd3 := X03 _ _ hd fun _ z => nomatch z
    have npD : p ≠ D := fun z => by
      rw [z] at np
      obtain ⟨ps, e⟩ := np _ hD
      cases e
    have er0 : (List.replicate xs.length (V.int 0)) = (List.replicate xs.length (0 : Int)).map V.int := by rw [List.map_replicate]
    rw [er0] at hD3
    have soundp : ∀ k, CellIn vl xs ((A0.take k).foldl (stL vl xs) (List.replicate xs.length 0, pl)).1 ∧ 0 ≤ ((A0.take k).foldl (stL vl xs) (List.replicate xs.length 0, pl)).2 ∧ ((A0.take k).foldl (stL vl xs) (List.replicate xs.length 0, pl)).2 ≤ pl := fun k => by
      obtain ⟨q1, q2, q3, q4⟩ := law_sound g (A0.take k) (List.replicate xs.length 0, pl) (ndA.sublist (List.take_sublist _ _)) (fun i hi => by rw [List.getElem?_replicate, if_pos (hA i (List.mem_of_mem_take hi))]) (in_zero g) p0
      exact ⟨q1, q3, q4⟩
    refine ⟨p, rfl, ⟨_, SqL.of hp⟩, for_it (walk_list (xs := (A0.map fun i => ((i : Nat) : Int)).map V.int)) (fun k σ' H' => (∃ u4 u5 u6, σ' = [some (.ref l), some (.ref d), some (.int ((A0.take k).foldl (stL vl xs) (List.replicate xs.length 0, pl)).2), some (.ref D), u4, u5, u6]) ∧ SameB D H3 H' ∧ H' D = some (.lst (((A0.take k).foldl (stL vl xs) (List.replicate xs.length 0, pl)).1.map V.int))) ⟨⟨none, none, none, rfl⟩, SameB.refl _ _, hD3⟩ (fun k σ' H' _ q => SqL.of (q.2.1 _ _ npD hp)) ?_ ?_⟩
    · rintro k v σ' H4 H5 hk ⟨⟨u4, u5, u6, rfl⟩, S4, hD4⟩ ⟨rfl, hxk⟩
      rw [List.length_map, List.length_map] at hk
      rw [List.getElem?_map, List.getElem?_map] at hxk
      obtain ⟨a, ha, hxa⟩ := Option.map_eq_some_iff.mp hxk
      subst hxa
      obtain ⟨i, hiA, rfl⟩ := Option.map_eq_some_iff.mp ha
      have hi := hA i (List.mem_of_getElem? hiA)
      obtain ⟨x, t, c1, c2, ex, er, mx, ht, g0, g1, g2⟩ := rowat i hi
      obtain ⟨x1, x2, x3, x4⟩ := ok x mx
      obtain ⟨s1, t1⟩ := g x mx
      have etk := take_snoc hiA
      have fold1 : (A0.take (k + 1)).foldl (stL vl xs) (List.replicate xs.length 0, pl) = stL vl xs ((A0.take k).foldl (stL vl xs) (List.replicate xs.length 0, pl)) i := by
        rw [etk, List.foldl_append]
        rfl
      rw [fold1]
      obtain ⟨q1, q2, q3⟩ := soundp k
      generalize hst : (A0.take k).foldl (stL vl xs) (List.replicate xs.length 0, pl) = st at q1 q2 q3 hD4
      have one4 : ∀ (b : Addr) (o : HO), H b = some o → (∀ ps, o ≠ .tbl ps) → b ≠ D → H5 b = some o := fun b o e nt nb => S4 b o nb (X03 b o e nt)
      have ltup : ∀ {b : Addr} {o : HO}, H b = some o → b ≠ D := fun e => ne_of_none e nD
      refine ⟨_, rfl, _, rfl, l, _, ((i : Nat) : Int), _, rfl, rfl, SqL.of (one4 _ _ hl0 (fun _ z => nomatch z) nlD), atI_get ht, t, _, 1, _, rfl, rfl, SqT.of (one4 _ _ g0 (fun _ z => nomatch z) (ltup g0)), rfl, by show 0 ≤ sizeLine; decide, fun p4 H6 S6 np4 hp4 => ⟨.list (x.2.1.map PyData.str), .list [], .lst (SqL.of (S6 _ _ (one4 _ _ g1 (fun _ z => nomatch z) (ltup g1)))) (dp_strs _), .lst (SqL.of hp4) .nil, shaped_strs _ (fun z hz => strOk_of (let_L8 z (x1 z hz))), by decide, _, rfl, ?_⟩⟩
      have one6 : ∀ (b : Addr) (o : HO), H b = some o → (∀ ps, o ≠ .tbl ps) → H6 b = some o := fun b o e nt => S6 _ _ (one4 b o e nt (ltup e))
      have S46 : SameB D H3 H6 := S4.to S6
      have hD6 := S6 _ _ hD4
      have un : stL vl xs st i = if x.2.1 = [] then st else (st.1.set i (mI (SS vl x) (TT vl x) st.2), st.2 - TT vl x * mI (SS vl x) (TT vl x) st.2) := by
        unfold stL
        rw [ex]
      rw [un]
      by_cases cc : x.2.1 = []
      · rw [if_pos cc]
        exact ifF (by rw [eqv_nilS, cc]; rfl) ⟨⟨_, _, _, rfl⟩, S46, hD6⟩
      rw [if_neg cc]
      refine ifT (by rw [eqv_nilS]; simpa using cc) ?_
      have mm := mI_bd s1 t1 q2
      have tl := tm_ltG (gd x mx).2
      refine seq_asg ⟨_, rfl, _, rfl, l, _, ((i : Nat) : Int), _, rfl, rfl, SqL.of (one6 _ _ hl0 fun _ z => nomatch z), atI_get ht, t, _, 2, _, rfl, rfl, SqT.of (one6 _ _ g0 fun _ z => nomatch z), rfl, _, rfl, c2, d, x.2.2, vl, rfl, SqL.of (one6 _ _ g2 fun _ z => nomatch z), one6 _ _ hd (fun _ z => nomatch z), (gd x mx).2, by omega, ?_⟩
      have cd : CDivW st.2 (tm vl x.2.2) := ⟨show 0 < tm vl x.2.2 from t1, by
        have h2 : (tm vl x.2.2).natAbs < 2 ^ 4001 := Nat.lt_of_lt_of_le tl (Nat.pow_le_pow_right (by decide) (by omega))
        have h3 : (tm vl x.2.2).natAbs.log2 < 4001 := (Nat.log2_lt (by have : 1 ≤ tm vl x.2.2 := t1; omega)).mpr h2
        omega⟩
      dsimp only
      refine ⟨_, rfl, _, rfl, _, _, rfl, rfl, cd, _, rfl, _, rfl, l, _, ((i : Nat) : Int), _, rfl, rfl, SqL.of (one6 _ _ hl0 fun _ z => nomatch z), atI_get ht, t, _, 1, _, rfl, rfl, SqT.of (one6 _ _ g0 fun _ z => nomatch z), rfl, _, rfl, c1, d, x.2.1, vl, rfl, SqL.of (one6 _ _ g1 fun _ z => nomatch z), one6 _ _ hd (fun _ z => nomatch z), (gd x mx).1, by omega, _, _, rfl, rfl, _, _, rfl, _, rfl, _, rfl, D, _, ((i : Nat) : Int), i, rfl, rfl, hD6, ?_, ?_⟩
      · rw [List.length_map, in_len q1]
        unfold ixN
        rw [if_pos (by omega), if_pos (by omega)]
        rfl
      have em : (if tm vl x.2.1 - 1 < st.2 / tm vl x.2.2 then tm vl x.2.1 - 1 else st.2 / tm vl x.2.2) = mI (SS vl x) (TT vl x) st.2 := rfl
      rw [em]
      have hln : i < st.1.length := by rw [in_len q1]; exact hi
      have hDn : ((st.1.map V.int).set i (V.int (mI (SS vl x) (TT vl x) st.2))) = (st.1.set i (mI (SS vl x) (TT vl x) st.2)).map V.int := (List.map_set ..).symm
      rw [hDn]
      have at_ : ((st.1.set i (mI (SS vl x) (TT vl x) st.2)).map V.int)[i]? = some (V.int (mI (SS vl x) (TT vl x) st.2)) := by
        rw [List.getElem?_map, List.getElem?_set_self hln]
        rfl
      have mle : (mI (SS vl x) (TT vl x) st.2).natAbs < 2 ^ 4000 := by
        have e1 : mI (SS vl x) (TT vl x) st.2 ≤ TT vl x * mI (SS vl x) (TT vl x) st.2 := by
          have := mul_ge mm.1 t1
          rwa [Int.mul_comm] at this
        have m0 := mm.1
        have m2 := mm.2.2
        omega
      refine ⟨_, rfl, _, rfl, _, rfl, _, rfl, D, _, ((i : Nat) : Int), _, rfl, rfl, SqL.of upd_same, atI_get at_, _, _, rfl, rfl, cmw tl mle (by omega) (by decide) (by omega), _, _, rfl, rfl, ⟨_, _, _, rfl⟩, ?_, upd_same⟩
      intro b o nb e
      rw [upd_ne nb]
      exact S46 _ _ nb e
    · rintro σ' H4 ⟨⟨u4, u5, u6, rfl⟩, S4, hD4⟩
      rw [List.length_map, List.length_map, List.take_length] at hD4 ⊢
      have backE : ExtN H H4 := fun b o e nt => S4 b o (ne_of_none e nD) (X03 b o e nt)
      have backT : Tabs T H4 := tabs_lst0 T3 S4 hD3
      have hst : (A0.foldl (stL vl xs) (List.replicate xs.length 0, pl)) = lawF vl xs A0 pl := rfl
      rw [hst] at hD4 ⊢
      refine ⟨_, rfl, rfl, _, rfl, ?_⟩
      by_cases z : (lawF vl xs A0 pl).2 = 0
      · rw [if_pos z] at key
        refine ifT (by rw [z]; rfl) ⟨_, rfl, k1 _ key.symm H4 D backE backT (fun o e => by rw [nD] at e; cases e) hD4⟩
      · rw [if_neg z] at key
        refine ifF (decide_eq_false fun w => z (by injection w)) (k2 key.symm H4 backE backT)
end
end E4

set_option Elab.async false
set_option linter.all false
set_option maxRecDepth 100000
set_option maxHeartbeats 1000000
/-! repr of a list of data without dicts -/
namespace L2
open PySem PySem.Spec PyProof.Rows
end L2

set_option Elab.async false
set_option linter.all false
set_option maxRecDepth 100000
set_option maxHeartbeats 1000000
/-! repr of None, of a list of data, of a dict of whole numbers by texts -/
namespace L2
open PySem PySem.Spec PyProof.Rows
open E4 (Vls dI)
inductive ShwV (K : PySem.W.Frag) (H : Hp) : V → PyData → Prop where
  | non : ShwV K H .non .none
  | lst {p : Addr} {vs : List V} {ds : List PyData} (h : H p = some (.lst vs)) (hv : DpAll K H vs ds) (n : PyData.hasDictAll ds = false) : ShwV K H (.ref p) (.list ds)
  | dct {q : Addr} {vl : Vls} (h : H q = some (.dK (dI vl))) : ShwV K H (.ref q) (.dict (vl.map fun x => (.str x.1, .int x.2)))
def rReprV (K : PySem.W.Frag) : List V → Hp → VK → Prop := fun xs H Q => ∃ (v : V) (d : PyData), xs = [v] ∧ ShwV K H v d ∧ d.showable = true ∧ d.depth ≤ 20 ∧ d.shown.length ≤ sizeLine ∧ Q (.str d.shown) H
theorem pairs_paired {P : Program} {w : World} : ∀ {es : List DictEntry} {vs : List (Key × Value)}, Pairs (mixKind P w) es vs → Paired (fun (e : DictEntry) (p : Key × Value) => keyIs p.1 e.key = true ∧ e.val = p.2) es vs
  | _, _, .nil => .nil
  | _, _, .cons a b r => .cons ⟨a, b⟩ (pairs_paired r)
section
variable {X : Cx} {pins : List (Addr × Obj)} {σ : St} {H : Hp} {s : Shared}
theorem dictI_reads {h : Heap} : ∀ {vl : Vls} {vs : List (Key × Value)} {es : List DictEntry}, KV (dI vl) vs → Paired (fun (e : DictEntry) (p : Key × Value) => keyIs p.1 e.key = true ∧ e.val = p.2) es vs →
    ReadsAll h (es.map (·.key)) (vl.map fun x => .str x.1) [] ∧ ReadsAll h (es.map (·.val)) (vl.map fun x => .int x.2) []
  | [], vs, es, kv, ps => by
    cases kv
    cases ps
    exact ⟨.nil, .nil⟩
  | x :: vl, vs, es, kv, ps => by
    have kv : KV ((Sum.inr x.1, V.int x.2) :: dI vl) vs := kv
    cases kv with
    | @cons _ q _ vs' hk kt =>
      cases ps with
      | @cons e _ es' _ k1 ps' =>
        obtain ⟨k, w'⟩ := q
        obtain ⟨ek, ri⟩ := hk
        dsimp only at ek ri k1
        subst ek
        obtain ⟨t', rfl⟩ := (show ∃ t, w' = Value.int x.2 t from ri)
        obtain ⟨a, b⟩ := dictI_reads kt ps'
        obtain ⟨k2, k3⟩ := k1
        rcases keyIs_shape (show keyIs (.inr x.1) e.key = true from k2) with ⟨_, _, z, _⟩ | ⟨y, ty, z, e2⟩
        · cases z
        · cases z
          refine ⟨?_, ?_⟩
          · rw [List.map_cons, List.map_cons, e2]
            exact .cons (as := []) (bs := []) (.str x.1 ty) a
          · rw [List.map_cons, List.map_cons, k3]
            exact .cons (as := []) (bs := []) (.int x.2 t') b
end
theorem call_reprV {X : Cx} (hg : X.A.guards = some []) (hu : X.A.units + 64 < cLine) : CallR X (.builtin "repr") (rReprV X.K) := by
  rintro pins s σ H xs us Q I r ⟨v, d, rfl, hv, hs, hd, hz, q⟩
  cases hv with
  | non =>
    obtain ⟨u, rfl, rv⟩ := vals1 r
    obtain rfl : u = Value.none := rv
    have e : (PyData.none).shown = ("None" : Str) := by simp only [PyData.shown]
    rw [e] at q
    exact PySem.P.repr_of_none ⟨.str _, H, I.tok _, ⟨_, rfl⟩, q⟩
  | @lst p vs ds hp hv n =>
    rw [Vals.ref1 r]
    obtain ⟨_, its, m, rv, _, he⟩ := I.lstM hp
    obtain ⟨as, ra⟩ := Dp.readsAll I ds vs its hv rv
    have ro : Reads s.heap (.ref p) (.list ds) _ := .list he rfl rfl ra
    exact repr_of_reads' ro hs (fun z => by simp only [PyData.hasDict] at z; rw [n] at z; cases z) hg (by omega) (fun _ _ e => e) (fun h' u tk k => ⟨.str _, H, I.kept (t' := tk) k, ⟨u, rfl⟩, q⟩) hz
  | @dct p vl h =>
    rw [Vals.ref1 r]
    obtain ⟨_, ne, vs, kv, o, es, ep, ho, ex, hd2, _, ps, _⟩ := dk_of I.hok h
    have rd : ReadsAll s.heap (es.toList.map (·.key)) (vl.map fun x => .str x.1) [] ∧ ReadsAll s.heap (es.toList.map (·.val)) (vl.map fun x => .int x.2) [] := dictI_reads kv (pairs_paired ps)
    have ro : Reads s.heap (.ref p) (.dict (vl.map fun x => (PyData.str x.1, PyData.int x.2))) (p :: [] ++ []) := .dict ho ex.1 hd2 (by rw [List.map_map]; exact rd.1) (by rw [List.map_map]; exact rd.2)
    exact repr_of_reads' ro hs (fun _ hm => by
      have e : sysModules = p := by simpa using hm
      rw [← e] at ne
      exact absurd ne (by decide)) hg (by omega) (fun _ _ e => e) (fun h' u tk k => ⟨.str _, H, I.kept (t' := tk) k, ⟨u, rfl⟩, q⟩) hz
end L2

set_option Elab.async false
set_option linter.all false
set_option maxRecDepth 100000
set_option maxHeartbeats 1000000
/-! how long what repr shows is -/
namespace L2
open PySem PySem.Spec PyProof.Rows
theorem listText_le (ts : List Str) : (listText ts).length ≤ piled ts + 2 := by
  cases ts with
  | nil => rw [listText_nil]; decide
  | cons t r =>
    have h := textFrom_length_pos r 1 (("[" : Str) ++ (if (0 : Nat) > 0 then ", " else "" : String) ++ t) (Nat.succ_pos 0)
    have e : ((("[" : Str) ++ (if (0 : Nat) > 0 then ", " else "" : String) ++ t)).length = 1 + t.length := by
      rw [strLen_append, strLen_append]; rfl
    have hX : (listText (t :: r)).length = (textFrom 0 "[" (t :: r)).length + 1 := by
      show (textFrom 0 "[" (t :: r) ++ "]").length = _
      rw [strLen_append]; rfl
    have hY : (textFrom 0 "[" (t :: r)).length = (textFrom 1 (("[" : Str) ++ (if (0 : Nat) > 0 then ", " else "" : String) ++ t) r).length := rfl
    rw [hX, hY, h, e, piled_cons]; omega
theorem dictText_le (ps : List Str) : (dictText ps).length ≤ piled ps + 2 := by
  have e : (dictText ps).length = 1 + (Str.join ", " ps).length + 1 := by
    unfold dictText
    rw [strLen_append, strLen_append]
    rfl
  rw [e]
  by_cases h : ps = []
  · subst h
    have : (Str.join ", " []).length = 0 := rfl
    omega
  · have := join_length_add ps h
    omega
end L2
namespace E4
open PySem PySem.Spec PyProof.Rows L2
theorem str_len {z : Str} (hz : LetOk z) : (PyData.str z).shown.length ≤ 102 := by
  have h := PySem.StrLaws.reprText_len z fun c hc => by have := (hz.2.2 c hc).2; exact Nat.lt_of_le_of_lt this (by decide)
  have e : (PyData.str z).shown = reprText z := by unfold PyData.shown; rfl
  rw [e]
  have := hz.2.1
  omega
theorem int_len {i : Int} (h : i.natAbs < 2 ^ 500) : (PyData.int i).shown.length ≤ 501 ∧ (PyData.int i).showable = true := by
  have lg : i.natAbs.log2 < 500 := by
    by_cases z : i.natAbs = 0
    · rw [z]; decide
    · exact (Nat.log2_lt z).mpr h
  have e : (PyData.int i).shown = Str.ofString (toString i) := by unfold PyData.shown; rfl
  refine ⟨?_, ?_⟩
  · rw [e, PySem.ofString_length]
    exact int_text_length_le (by decide) lg
  · simp only [PyData.showable, decide_eq_true_eq]
    omega
theorem ints_shown : ∀ {l : List Int}, (∀ i ∈ l, i.natAbs < 2 ^ 500) → PyData.showableAll (l.map PyData.int) = true ∧ PyData.hasDictAll (l.map PyData.int) = false ∧ PyData.depthAll (l.map PyData.int) ≤ 5 ∧ piled (PyData.shownAll (l.map PyData.int)) ≤ 503 * l.length
  | [], _ => ⟨rfl, rfl, by decide, Nat.le_refl _⟩
  | i :: l, h => by
    obtain ⟨a, b, c, d⟩ := ints_shown (l := l) fun j hj => h j (List.mem_cons_of_mem _ hj)
    obtain ⟨h1, h2⟩ := int_len (h i List.mem_cons_self)
    rw [List.map_cons]
    refine ⟨by simp only [PyData.showableAll, h2, a, Bool.and_self], by simp only [PyData.hasDictAll, PyData.hasDict, b, Bool.or_self], ?_, ?_⟩
    · simp only [PyData.depthAll, PyData.depth]
      omega
    · simp only [PyData.shownAll, piled_cons, List.length_cons]
      omega
theorem vals_shown : ∀ {vl : Vls}, (∀ x ∈ vl, LetOk x.1 ∧ x.2.natAbs < 2 ^ 400) → PyData.showableKv (vl.map fun x => (PyData.str x.1, PyData.int x.2)) = true ∧ PyData.depthKv (vl.map fun x => (PyData.str x.1, PyData.int x.2)) ≤ 5 ∧ piled (PyData.shownKv (vl.map fun x => (PyData.str x.1, PyData.int x.2))) ≤ 700 * vl.length
  | [], _ => ⟨rfl, by decide, Nat.le_refl _⟩
  | x :: l, h => by
    obtain ⟨a, b, c⟩ := vals_shown (vl := l) fun j hj => h j (List.mem_cons_of_mem _ hj)
    obtain ⟨k1, k2⟩ := h x List.mem_cons_self
    obtain ⟨h1, h2⟩ := int_len (i := x.2) (Nat.lt_of_lt_of_le k2 (Nat.pow_le_pow_right (by decide) (by decide)))
    have h3 := str_len k1
    rw [List.map_cons]
    have h2' : decide (x.2.natAbs.log2 < 1920) = true := by simpa only [PyData.showable] using h2
    refine ⟨by simp only [PyData.showableKv, PyData.showable, h2', a, Bool.and_self], ?_, ?_⟩
    · simp only [PyData.depthKv, PyData.depth]
      omega
    · simp only [PyData.shownKv, piled_cons, List.length_cons]
      rw [strLen_append, strLen_append]
      have : (((": " : String) : Str)).length = 2 := rfl
      omega
/-- repr of a list of whole numbers -/
theorem shw_ints {K : PySem.W.Frag} {H : Hp} {p : Addr} {l : List Int} {Q : VK} (hp : H p = some (.lst (l.map V.int))) (h : ∀ i ∈ l, i.natAbs < 2 ^ 500) (hl : l.length ≤ 100) (q : Q (.str (PyData.list (l.map PyData.int)).shown) H) : rReprV K [.ref p] H Q := by
  obtain ⟨a, b, c, d⟩ := ints_shown h
  refine ⟨.ref p, .list (l.map PyData.int), rfl, .lst hp (dp_ints l) b, by simpa only [PyData.showable] using a, by simp only [PyData.depth]; omega, ?_, q⟩
  simp only [PyData.shown]
  have := listText_le (PyData.shownAll (l.map PyData.int))
  rw [sizeLine_eq]
  omega
theorem shw_non {K : PySem.W.Frag} {H : Hp} {Q : VK} (q : Q (.str PyData.none.shown) H) : rReprV K [.non] H Q :=
  ⟨.non, .none, rfl, .non, by simp only [PyData.showable], by simp only [PyData.depth]; decide, by simp only [PyData.shown]; decide, q⟩
/-- repr of a dict -/
theorem shw_vals {K : PySem.W.Frag} {H : Hp} {p : Addr} {vl : Vls} {Q : VK} (hp : H p = some (.dK (dI vl))) (h : ∀ x ∈ vl, LetOk x.1 ∧ x.2.natAbs < 2 ^ 400) (hl : vl.length ≤ 200) (q : Q (.str (PyData.dict (vl.map fun x => (.str x.1, .int x.2))).shown) H) : rReprV K [.ref p] H Q := by
  obtain ⟨a, c, d⟩ := vals_shown h
  refine ⟨.ref p, .dict _, rfl, .dct hp, by simpa only [PyData.showable] using a, by simp only [PyData.depth]; omega, ?_, q⟩
  simp only [PyData.shown]
  have := dictText_le (PyData.shownKv (vl.map fun x => (PyData.str x.1, PyData.int x.2)))
  rw [sizeLine_eq]
  omega
end E4

set_option Elab.async false
set_option linter.all false
set_option maxRecDepth 100000
set_option maxHeartbeats 1000000
/-! a == b, two equal tables -/
namespace E4
open PySem PySem.Spec PyProof.Rows L2
open C8 (Cal Mak Met InsC)
def rEqP (C : Addr) : R2 := fun x y H Q => ∃ a b ss, x = .ref a ∧ y = .ref b ∧ PlAt C H a ss ∧ PlAt C H b ss ∧ SdsOk ss ∧ Q (.bl true) H
theorem op_eqP {X : Cx} {C : Addr} {k j : Nat} (O : EqP X.prog X.w X.K X.mg X.base k C) (hr : Room j X.A) (hk : k ≤ j) : OpR X (compareOp .Eq) (rEqP C) := by
  obtain ⟨f, fd, ps, N, F, hb⟩ := O.ex
  intro pins s σ H x y v u Q I rx ry h
  obtain ⟨a, b, ss, rfl, rfl, ha, hb2, ok, q⟩ := h
  obtain rfl : v = Value.ref a := rx
  obtain rfl : u = Value.ref b := ry
  obtain ⟨dx, l, ts, ea, _⟩ := id ha
  obtain ⟨dy, m, us, eb, _⟩ := id hb2
  obtain ⟨ox, od, J⟩ := inst_of I ea
  obtain ⟨oy, oe, J2⟩ := inst_of I eb
  obtain ⟨m, fr⟩ := I.fr
  have hrk := hr.mono hk
  refine PySem.W.cmp_K (op := .Eq) (tb := .ref C) hrk.units0 fr I.ok.mod.kin J J2.type (by simp [PySem.W.notFirst]) N.eq N.fn ?_
  exact thn (run_sub ⟨hrk, rfl⟩ (vs := [V.ref a, V.ref b]) F hb I (.cons rfl (.cons rfl .nil)) ⟨a, b, ss, rfl, ha, hb2, ok, q⟩) fun _ _ z => back_of z
end E4

set_option Elab.async false
set_option linter.all false
set_option maxRecDepth 100000
set_option maxHeartbeats 1000000
/-! sorted(d), d a dict with texts as keys -/
namespace L2
open PySem PySem.Spec PyProof.Rows
end L2

set_option Elab.async false
set_option linter.all false
set_option maxRecDepth 100000
set_option maxHeartbeats 1000000
/-! _law_cell_right, _law_clash_right -/
namespace E4
open PySem PySem.Spec PyProof.Rows L2
open C8 (Cal Mak Met InsC pe_c pe_mt pe_mt0 call_isC clsBody)
theorem eqv_ints : ∀ xs ys : List Int, PyData.eqvAll (xs.map PyData.int) (ys.map PyData.int) = decide (xs = ys)
  | [], [] => rfl
  | [], y :: ys => by simp [PyData.eqvAll]
  | x :: xs, [] => by simp [PyData.eqvAll]
  | x :: xs, y :: ys => by
    rw [List.map_cons, List.map_cons]
    simp only [PyData.eqvAll, PyData.eqv]
    rw [eqv_ints xs ys]
    by_cases a : x = y
    · subst a; simp
    · simp [a]
theorem eqv_listI (xs ys : List Int) : PyData.eqv (.list (xs.map PyData.int)) (.list (ys.map PyData.int)) = decide (xs = ys) := by rw [← eqv_ints]; simp [PyData.eqv]
theorem shaped_ints (l : List Int) : SeqAt.shaped (.list (l.map PyData.int)) = true := by
  have c : PyData.canLay0 (.list (l.map PyData.int)) = true := by simpa [PyData.canLay0] using lay_ints l
  show (PyData.canLay0 _ && decide (PyData.depth _ ≤ 64)) = true
  rw [c, decide_eq_true (by simp only [PyData.depth]; rw [dep_ints]; decide)]
  rfl
section
variable {P : Program} {w : World} {K : PySem.W.Frag} {mg : Str → Option Value} {base : Heap}
end
end E4

set_option Elab.async false
set_option linter.all false
set_option maxRecDepth 100000
set_option maxHeartbeats 1000000
set_option exponentiation.threshold 500
/-! _law_shuffled of rows; what clash tells of rows is right -/
namespace E4
open PySem PySem.Spec PyProof.Rows L2
open C8 (Cal Mak Met InsC pe_c pe_mt pe_mt0 call_isC clsBody)
open E3 (PurseAt spPurse spMixed spDraw)
def spShufV : Sp := fun vs H Q _ => ∃ (a l : Addr) (xs : List V) (n : Nat), vs = [.ref a, .ref l] ∧ PurseAt H a (n + 4 * xs.length) ∧ H l = some (.lst xs) ∧ l ≠ a ∧ xs.length ≤ 2000 ∧
  ∀ (ys : List V) q H', ys.Perm xs → H' q = some (.lst ys) → H q = none → PurseAt H' a n → SameB a H H' → Q (.ref q) H'
section
variable {P : Program} {w : World} {K : PySem.W.Frag} {mg : Str → Option Value} {base : Heap}
theorem ok_shufV {f : Addr} {fd : FuncData} (F : Fun K "_law_shuffled" "_law_shuffled" sShuffled f fd) (B : Bl mg) (D : Cal P w K mg base 2 "_law_draw" spDraw []) : FnOk P w K mg base CX0 3 f fd ["_law_purse_here", "_law_some"] spShufV := by
  refine F.ok scShuf (fun vs H Q E h => ?_) (fun cdv A outer s H vs Q E hr h => ?_)
  · obtain ⟨a, l, xs, n, rfl, _⟩ := h
    rfl
  · obtain ⟨a, l, xs, n, rfl, hp, hl, nla, l2, k⟩ := h
    refine ⟨_, pss_cons (ps_set (i := 2) scShuf.nd rfl (Or.inl rfl) (pe_lstS pa_nil))
      (pss_cons (ps_for PassesOwn.never rfl (pi_list (pv 1)) (pg_name (i := 3) scShuf.nd rfl (Or.inl rfl))
        (pss_one (ps_expr (pe_bm PySem.F.plainAttrs_list PySem.F.slot_list_insert PySem.F.type_list_insert mt_insert (pv 2) (pa_cons (pe_c D hr (by decide) rfl (pa_cons (pv 0) (pa_cons (pe_op op_add (pe_callB call_len_seq (by rfl) B.len_ PySem.boot_len (pa_cons (pv 2) pa_nil)) pe_int) pa_nil))) (pa_cons (pv 3) pa_nil))))))
      (pss_one (ps_ret (pv 2)))), ?_⟩
    refine seq_asg ⟨by show 0 ≤ sizeLine; decide, fun d0 H1 S1 n1 h1 => ?_⟩
    have nda : d0 ≠ a := purse_none hp n1
    have ndl : l ≠ d0 := ne_of_none hl n1
    refine ⟨_, rfl, l, rfl, ⟨_, SqL.of (S1 _ _ hl)⟩, for_it (walk_list (xs := xs)) (fun i σ' H' => ∃ u ys, σ' = [some (.ref a), some (.ref l), some (.ref d0), u] ∧ ys.Perm (xs.take i) ∧ H' d0 = some (.lst ys) ∧ PurseAt H' a (n + 4 * (xs.length - i)) ∧ ∀ c o, c ≠ a → c ≠ d0 → H1 c = some o → H' c = some o) ⟨none, [], rfl, List.Perm.refl _, h1, (hp.same S1), fun _ _ _ _ e => e⟩ (fun i σ' H' _ q => let ⟨_, _, _, _, _, _, S⟩ := q; SqL.of (S _ _ nla ndl (S1 _ _ hl))) ?_ ?_⟩
    · rintro i z σ' H2 H3 hi ⟨u, ys, rfl, pm, hd, hpu, S2⟩ ⟨rfl, hz⟩
      have ly : ys.length = i := by rw [pm.length_eq, List.length_take]; omega
      refine ⟨_, rfl, .inl ⟨rfl, _, SqL.of hd⟩, ?_⟩
      refine ⟨_, rfl, _, rfl, d0, _, rfl, .inl (SqL.of hd), _, _, rfl, rfl, a, _, n + 4 * (xs.length - (i + 1)), rfl, hpu.less (by omega), by omega, by rw [ly]; omega, fun r H4 r0 r1 hp4 S4 => ?_⟩
      have hd4 := S4 _ _ nda hd
      refine ⟨_, rfl, d0, _, r, _, rfl, rfl, hd4, by rw [ly, sizeLine_eq]; omega, r0, by rw [ly] at r1; omega, ?_⟩
      refine ⟨_, ys.take r.toNat ++ z :: ys.drop r.toNat, rfl, ?_, ?_, ?_, fun c o nc nd e => ?_⟩
      · rw [take_snoc hz]
        refine List.Perm.trans ?_ (pm.append_right [z])
        refine List.perm_middle.trans ?_
        show (z :: (List.take r.toNat ys ++ List.drop r.toNat ys)).Perm (ys ++ [z])
        rw [List.take_append_drop]
        exact (List.perm_append_comm (l₁ := [z]) (l₂ := ys))
      · rw [upd_same]
        try simp
      · obtain ⟨p0, p1, p2, e, r⟩ := hp4
        exact ⟨p0, p1, p2, by rw [upd_ne (Ne.symm nda)]; exact e, r⟩
      · rw [upd_ne nd]
        exact S4 _ _ nc (S2 _ _ nc nd e)
    · rintro σ' H2 ⟨u, ys, rfl, pm, hd, hpu, S2⟩
      rw [List.take_length] at pm
      exact ⟨_, rfl, k ys d0 H2 pm hd n1 (hpu.less (by omega)) fun c o nc e => S2 c o nc (ne_of_none e n1) (S1 _ _ e)⟩
end
theorem perm_refs {ts : List Addr} {ys : List V} (h : ys.Perm (ts.map V.ref)) : ∃ us : List Addr, us.Perm ts ∧ ys = us.map V.ref := by
  have : ∀ (a b : List V), a.Perm b → ∀ ts : List Addr, b = ts.map V.ref → ∃ us : List Addr, us.Perm ts ∧ a = us.map V.ref := by
    intro a b h
    induction h with
    | nil =>
      intro ts e
      cases ts with
      | nil => exact ⟨[], List.Perm.refl _, rfl⟩
      | cons _ _ => cases e
    | cons x _ ih =>
      intro ts e
      cases ts with
      | nil => cases e
      | cons t ts =>
        obtain ⟨e1, e2⟩ := List.cons.inj e
        obtain ⟨us, h1, h2⟩ := ih ts e2
        exact ⟨t :: us, h1.cons _, by rw [List.map_cons, h2, e1]⟩
    | swap x y l =>
      intro ts e
      match ts, e with
      | t :: t2 :: ts, e =>
        obtain ⟨e1, e2⟩ := List.cons.inj e
        obtain ⟨e3, e4⟩ := List.cons.inj e2
        exact ⟨t2 :: t :: ts, .swap _ _ _, by rw [List.map_cons, List.map_cons, e1, e3, e4]⟩
    | trans _ _ i1 i2 =>
      intro ts e
      obtain ⟨us, h1, h2⟩ := i2 ts e
      obtain ⟨ws, h3, h4⟩ := i1 us h2
      exact ⟨ws, h3.trans h1, h4⟩
  exact this _ _ h ts rfl
theorem paired_perm {α β : Type} {R : α → β → Prop} {as bs : List α} (h : as.Perm bs) : ∀ {xs : List β}, Paired R bs xs → ∃ ys : List β, ys.Perm xs ∧ Paired R as ys := by
  induction h with
  | nil => intro xs p; exact ⟨xs, .refl _, p⟩
  | cons x _ ih =>
    intro xs p
    cases p with
    | cons r t =>
      obtain ⟨ys, h1, h2⟩ := ih t
      exact ⟨_ :: ys, h1.cons _, .cons r h2⟩
  | swap x y l =>
    intro xs p
    match xs, p with
    | _ :: _ :: _, .cons r1 (.cons r2 t) => exact ⟨_ :: _ :: _, .swap _ _ _, .cons r2 (.cons r1 t)⟩
  | trans _ _ i1 i2 =>
    intro xs p
    obtain ⟨ys, h1, h2⟩ := i2 p
    obtain ⟨zs, h3, h4⟩ := i1 h2
    exact ⟨zs, h3.trans h1, h4⟩
theorem SdsOk.perm {xs ys : List Sd} (h : SdsOk xs) (p : ys.Perm xs) : SdsOk ys :=
  ⟨fun e => h.ne (by rw [e] at p; exact List.nil_perm.mp p), fun x hx => h.ok x (p.mem_iff.mp hx), (p.map _).nodup_iff.mpr h.nd, fun x hx y hy => h.free x (p.mem_iff.mp hx) y (p.mem_iff.mp hy), by rw [p.length_eq]; exact h.len⟩
/-- what _law_clash_right asks of what clash tells -/
structure ToldOk (vl : Vls) (xs : List Sd) (cs1 cs2 : List Int) : Prop where
  nd : (vl.map (·.1)).Nodup
  mem : ∀ z, z ∈ vl.map (·.1) ↔ InLets xs z
  bd : AllV (fun n => 1 ≤ n ∧ n.natAbs < 2 ^ 400) vl
  in1 : CellIn vl xs cs1
  in2 : CellIn vl xs cs2
  ne : cs1 ≠ cs2
  eq : spotI vl xs cs1 = spotI vl xs cs2
end E4

set_option Elab.async false
set_option linter.all false
set_option maxRecDepth 100000
set_option maxHeartbeats 1000000
/-! _law_fixed_right -/
namespace E4
open PySem PySem.Spec PyProof.Rows L2
open C8 (Cal Mak Met InsC pe_c pe_mt pe_mt0 call_isC clsBody)
open E3 (PurseAt spPurse spMixed spDraw)
open LamX (Tabs ExtN TabB CodeO)
section
variable {X : Cx} {k j : Nat} {x : Str} {sp : Sp} {p pos : Pos}
end
theorem mk_plainR {C : Addr} {H : Hp} {l : Addr} {ts : List Addr} {xs : List Sd} {R : VK} {E : XK} {x dx : Addr} (hl : H l = some (.lst (ts.map V.ref))) (hx : SdsAt H ts xs) (ok : SdsOk xs) (nx : H x = none) (nd : H dx = none) (ne : dx ≠ x)
    (k : ∀ H', Same H H' → PlAt C H' x (xs.map norm) → R .non H') : spInit C [.ref x, .ref l] (upd (upd H dx (.own x)) x (.ins C dx [])) R E := by
  have S : Same H (upd (upd H dx (.own x)) x (.ins C dx [])) := fun c o e => by
    rw [upd_ne (ne_of_none e nx), upd_ne (ne_of_none e nd)]
    exact e
  exact ⟨x, dx, l, ts, xs, rfl, upd_same, S _ _ hl, hx.same S, ok, fun H' l' ts' S' h1 h2 h3 => k H' (fun c o e => S' c o (ne_of_none e nx) (S _ _ e)) ⟨dx, l', ts', h1, h2, h3⟩⟩
theorem rc_names {xs : List Sd} (h : xs.map (·.1) = (["r", "c"] : List Str) ∨ xs.map (·.1) = (["r"] : List Str)) (hr : ∀ x ∈ xs, RowOk x) : SdsOk xs := by
  have ne : xs ≠ [] := fun e => by rw [e] at h; rcases h with h | h <;> cases h
  have ln : xs.length ≤ 2 := by
    rcases h with h | h
    · have := congrArg List.length h; rw [List.length_map] at this; simp at this; omega
    · have := congrArg List.length h; rw [List.length_map] at this; simp at this; omega
  rcases h with h | h
  · exact rows_ok h (by decide +kernel) (by decide +kernel) hr ne (by omega)
  · exact rows_ok h (by decide +kernel) (by decide +kernel) hr ne (by omega)
theorem SdsAt2 {H : Hp} {t1 t2 a1 b1 a2 b2 : Addr} {x y : Sd} (h1 : H t1 = some (.tup [.str x.1, .ref a1, .ref b1])) (h2 : H a1 = some (.lst (x.2.1.map V.str))) (h3 : H b1 = some (.lst (x.2.2.map V.str))) (g1 : H t2 = some (.tup [.str y.1, .ref a2, .ref b2])) (g2 : H a2 = some (.lst (y.2.1.map V.str))) (g3 : H b2 = some (.lst (y.2.2.map V.str))) : SdsAt H [t1, t2] [x, y] :=
  .cons ⟨a1, b1, h1, h2, h3⟩ (.cons ⟨a2, b2, g1, g2, g3⟩ .nil)
section
variable {P : Program} {w : World} {K : PySem.W.Frag} {mg : Str → Option Value} {base : Heap} {C : Addr}
end
end E4

set_option Elab.async false
set_option linter.all false
set_option maxRecDepth 100000
set_option maxHeartbeats 1000000
/-! frames: a purse drawn from, new things changed -/
namespace E4
open PySem PySem.Spec PyProof.Rows L2
open C8 (Cal Mak Met InsC pe_c pe_mt pe_mt0 call_isC clsBody)
open E3 (PurseAt spPurse spMixed spDraw)
open LamX (Tabs ExtN TabB CodeO)
/-- all but the purse (and tables) stays -/
def FrP (p : Addr) (H H' : Hp) : Prop := ∀ c o, c ≠ p → H c = some o → (∀ ps, o ≠ .tbl ps) → H' c = some o
theorem FrP.refl (p : Addr) (H : Hp) : FrP p H H := fun _ _ _ e _ => e
theorem FrP.trans {p : Addr} {H1 H2 H3 : Hp} (a : FrP p H1 H2) (b : FrP p H2 H3) : FrP p H1 H3 := fun c o n e t => b c o n (a c o n e t) t
theorem FrP.ofX {p : Addr} {H H' : Hp} (h : ExtN H H') : FrP p H H' := fun c o _ e t => h c o e t
theorem FrP.ofS {p : Addr} {H H' : Hp} (h : Same H H') : FrP p H H' := fun c o _ e _ => h c o e
theorem FrP.ofB {p : Addr} {H H' : Hp} (h : SameB p H H') : FrP p H H' := fun c o n e _ => h c o n e
/-- this address was not taken there -/
def Frsh (p : Addr) (H : Hp) (D : Addr) : Prop := D ≠ p ∧ ∀ o, H D = some o → ∃ ps, o = .tbl ps
theorem FrP.upd {p D : Addr} {H H' : Hp} {v : HO} (h : FrP p H H') (f : Frsh p H D) : FrP p H (upd H' D v) := fun c o n e t => by
  have nD : c ≠ D := fun q => by
    subst q
    obtain ⟨ps, e2⟩ := f.2 o e
    exact t ps e2
  rw [upd_ne nD]
  exact h c o n e t
theorem Frsh.of {p D : Addr} {n : Nat} {H H' : Hp} (h : FrP p H H') (hp : PurseAt H' p n) (nt : NewT H' D) : Frsh p H D := by
  have ne : D ≠ p := fun q => by
    subst q
    obtain ⟨p0, p1, p2, e, _⟩ := hp
    obtain ⟨ps, e2⟩ := nt _ e
    cases e2
  refine ⟨ne, fun o e => ?_⟩
  by_cases t : ∀ ps, o ≠ .tbl ps
  · exact nt o (h D o ne e t)
  · exact Classical.byContradiction fun no => t fun ps e2 => no ⟨ps, e2⟩
theorem SdAt.frP {p : Addr} {n : Nat} {H H' : Hp} {t : Addr} {x : Sd} (h : SdAt H t x) (hp : PurseAt H p n) (S : FrP p H H') : SdAt H' t x :=
  let ⟨a, b, h1, h2, h3⟩ := h
  ⟨a, b, S _ _ (purse_tup hp h1) h1 (fun _ z => nomatch z), S _ _ (purse_str hp h2) h2 (fun _ z => nomatch z), S _ _ (purse_str hp h3) h3 (fun _ z => nomatch z)⟩
theorem SdsAt.frP {p : Addr} {n : Nat} {H H' : Hp} {ts : List Addr} {xs : List Sd} (h : SdsAt H ts xs) (hp : PurseAt H p n) (S : FrP p H H') : SdsAt H' ts xs := h.imp fun _ _ _ q => q.frP hp S
theorem PlAt.frP {C p : Addr} {n : Nat} {H H' : Hp} {a : Addr} {ss : List Sd} (h : PlAt C H a ss) (hp : PurseAt H p n) (S : FrP p H H') : PlAt C H' a ss := by
  obtain ⟨dx, l, ts, h1, h2, h3⟩ := h
  have ne : a ≠ p := by
    obtain ⟨p0, p1, p2, e, _⟩ := hp
    exact ne_of h1 e (by intro z; cases z)
  exact ⟨dx, l, ts, S _ _ ne h1 (fun _ z => nomatch z), S _ _ (purse_ref hp h2) h2 (fun _ z => nomatch z), h3.frP hp S⟩
theorem tabs_lst {T : List (Addr × Str)} {D : Addr} {H : Hp} {l : List V} {v : HO} (t : Tabs T H) (hD : H D = some (.lst l)) : Tabs T (upd H D v) := fun p hp =>
  let ⟨ps, h1, h2, h3⟩ := t p hp
  ⟨ps, by rw [upd_ne (ne_of h1 hD (by intro w; cases w))]; exact h1, h2, fun pos cv e => let ⟨c, e1, e2⟩ := h3 pos cv e; ⟨c, e1, by rw [upd_ne (ne_of e2 hD (by unfold CodeO; intro w; cases w))]; exact e2⟩⟩
theorem tabs_dct {T : List (Addr × Str)} {D : Addr} {H : Hp} {l : List (Key × V)} {v : HO} (t : Tabs T H) (hD : H D = some (.dK l)) : Tabs T (upd H D v) := fun p hp =>
  let ⟨ps, h1, h2, h3⟩ := t p hp
  ⟨ps, by rw [upd_ne (ne_of h1 hD (by intro w; cases w))]; exact h1, h2, fun pos cv e => let ⟨c, e1, e2⟩ := h3 pos cv e; ⟨c, e1, by rw [upd_ne (ne_of e2 hD (by unfold CodeO; intro w; cases w))]; exact e2⟩⟩
end E4

set_option Elab.async false
set_option linter.all false
set_option maxRecDepth 100000
set_option maxHeartbeats 4000000
set_option exponentiation.threshold 5000
/-! law_k54: _law_right -/
namespace E4
open PySem PySem.Spec PyProof.Rows L2
open C8 (Cal Mak Met InsC pe_c pe_mt pe_mt0 call_isC clsBody)
open LamX (Tabs ExtN TabB CodeO)
open E3 (PurseAt spPurse spMixed spDraw)
abbrev sRightC : Stmt := top 45
/-- the letters of the rows have small values -/
abbrev GdS (vl : Vls) (xs : List Sd) : Prop := ∀ x ∈ xs, ∀ z, z ∈ x.2.1 ∨ z ∈ x.2.2 → z ∈ vl.map (·.1) ∧ 1 ≤ gOf vl z ∧ gOf vl z ≤ 2 ^ 20
def spRightC (T : List (Addr × Str)) (C : Addr) : Sp := fun vs H Q _ => ∃ (p y l d : Addr) (ts : List Addr) (xs : List Sd) (vl : Vls) (n : Nat), vs = [.ref p, .ref y, .ref l, .ref d] ∧ PurseAt H p (n + 400) ∧ PlAt C H y (xs.map norm) ∧ H l = some (.lst (ts.map V.ref)) ∧ SdsAt H ts xs ∧ SdsOk xs ∧ (∀ x ∈ xs, RowOk x) ∧ xs.length ≤ 8 ∧ ChdB xs ∧
  H d = some (.dK (dI vl)) ∧ VlsOk vl ∧ vl.length ≤ 200 ∧ GdS vl xs ∧ Tabs T H ∧ ∀ H', FrP p H H' → PurseAt H' p n → Tabs T H' → Q (.bl true) H'
theorem GdS.gd {vl : Vls} {xs : List Sd} (h : GdS vl xs) : GdR vl xs := fun x hx => ⟨fun z hz => by
  obtain ⟨a, b, c⟩ := h x hx z (.inl hz)
  exact ⟨a, b, Nat.lt_of_lt_of_le (show (gOf vl z).natAbs < 2 ^ 21 by omega) (Nat.pow_le_pow_right (by decide) (by decide))⟩, fun z hz => by
  obtain ⟨a, b, c⟩ := h x hx z (.inr hz)
  exact ⟨a, b, Nat.lt_of_lt_of_le (show (gOf vl z).natAbs < 2 ^ 21 by omega) (Nat.pow_le_pow_right (by decide) (by decide))⟩⟩
theorem tm_20 {vl : Vls} : ∀ {m : List Str}, (∀ z ∈ m, 1 ≤ gOf vl z ∧ gOf vl z ≤ 2 ^ 20) → tm vl m ≤ 2 ^ (20 * m.length) ∧ 1 ≤ tm vl m
  | [], _ => ⟨by show (1 : Int) ≤ 2 ^ 0; decide, by show (1 : Int) ≤ 1; decide⟩
  | z :: m, h => by
    obtain ⟨a, b⟩ := tm_20 (m := m) fun y hy => h y (List.mem_cons_of_mem _ hy)
    obtain ⟨c, d⟩ := h z List.mem_cons_self
    show gOf vl z * tm vl m ≤ 2 ^ (20 * (m.length + 1)) ∧ 1 ≤ gOf vl z * tm vl m
    have e : (2 : Int) ^ (20 * (m.length + 1)) = 2 ^ 20 * 2 ^ (20 * m.length) := by rw [← Int.pow_add]; congr 1; omega
    rw [e]
    exact ⟨Int.mul_le_mul d a (by omega) (by decide), by have := Int.mul_le_mul c b (by decide) (by omega); simpa using this⟩
section
variable {P : Program} {w : World} {K : PySem.W.Frag} {mg : Str → Option Value} {base : Heap} {C : Addr}
abbrev NRC : List Str := ["_law_purse_here", "_law_table", "_law_rows", "_law_sizes_here", "_law_kept_sizes", "_law_drawn", "_law_row", "_law_spot_here", "_law_more", "_law_due", "_law_told"]
theorem scRightC : FnScope NRC ["_law_purse_here", "_law_table", "_law_rows", "_law_sizes_here"] (defScope sRightC) := ⟨rfl, rfl, rfl, by decide +kernel, rfl, by decide +kernel, by decide +kernel⟩
theorem ok_rightC {T : List (Addr × Str)} {f : Addr} {fd : FuncData} (F : Fun K "_law_right" "_law_right" sRightC f fd) (B : Bl mg) (B4 : E3.Bt4 mg) (hrep : mg "repr" = none) (D : Cal P w K mg base 2 "_law_draw" spDraw []) (Tm : Cal P w K mg base 1 "_law_times" (spTimesG K) []) (Spt : Cal P w K mg base 2 "_law_spot" (spSpotG K) []) (Co : Cal P w K mg base 5 "cell_of" (spCellOf T C) []) (Cw : Cal P w K mg base 3 "_law_cell" (spCellW T K) [])
    (M1 : Mak P w K mg base 5 "Plain" C (spInit C) []) (O : EqP P w K mg base 1 C) : FnG P w K mg base 7 f fd ["_law_purse_here", "_law_table", "_law_rows", "_law_sizes_here"] (spRightC T C) := by
  refine F.okG scRightC (fun vs H Q E h => ?_) (fun cdv A outer s H vs Q E gA hr h => ?_)
  · obtain ⟨p, y, l, d, ts, xs, vl, n, rfl, _⟩ := h
    rfl
  · obtain ⟨p, y, l, d, ts, xs, vl, n, rfl, hp, hy, hl, hx, oks, ok, l8, hch, hd, vok, v100, gs, tb, q⟩ := h
    refine ⟨_, pss_cons (ps_par (i := 4) (j := 5) (by rfl) scRightC.nd rfl rfl (by decide) rfl rfl (pa_cons (pe_callB (call_reprV gA hr.units) (by rfl) hrep (by decide +kernel) (pa_cons (pv 3) pa_nil))
        (pa_cons (pe_lc (own := [("_law_row", 6)]) (g := gName 6) (tt := tYes) (te := tCall spDraw [] C8.E0 (tCons (tVar 0) (tCons (tCall (spTimesG K) [] C8.E0 (tCons (tOp (rIxT K) (tVar 6) (tC (.int 1))) (tCons (tVar 3) tNil))) tNil))) rfl scRightC.nd (pi_list (pv 2))
          (blkOk_by (own := [("_law_row", 6)]) (N := NRC) (sc := defScope sRightC) (by decide +kernel))
          (fun _ _ _ _ _ => pg_name (i := 6) scRightC.nd rfl (Or.inl rfl)) (fun _ _ _ _ _ => pts_nil)
          (fun _ _ _ _ _ => by exact pe_c D hr (by decide) rfl (pa_cons (pv 0) (pa_cons (pe_c Tm hr (by decide) rfl (pa_cons (pe_ix ix_tup (pv 6) pe_int (fun _ _ => rfl)) (pa_cons (pv 3) pa_nil))) pa_nil)))) pa_nil)) (by rfl))
      (pss_cons (ps_set (i := 7) scRightC.nd rfl (Or.inl rfl) (pe_c Spt hr (by decide) rfl (pa_cons (pv 2) (pa_cons (pv 3) (pa_cons (pv 5) pa_nil)))))
      (pss_cons (ps_if (pt_cmpR (op_neD hr.units) (pe_c Co hr (by decide) rfl (pa_cons (pv 1) (pa_cons (pv 3) (pa_cons (pv 7) pa_nil)))) (pv 5) (by rfl)) (pss_one (ps_ret pe_bl)) pss_nil)
      (pss_cons (ps_for PassesOwn.never rfl (pi_list (pe_lstS (pa_cons pe_int (pa_cons pe_int (pa_cons (pe_op op_add (pv 7) pe_int) (pa_cons (pe_callB (call_max2 rfl) (by rfl) B4.max_ (by decide +kernel) (pa_cons (pe_op op_sub (pv 7) pe_int) (pa_cons pe_int pa_nil))) (pa_cons (pe_op op_mulW (pv 7) pe_int)
            (pa_cons (pe_c D hr (by decide) rfl (pa_cons (pv 0) (pa_cons (pe_op op_pow pe_int pe_int) pa_nil))) (pa_cons (pe_op op_add pe_int (pe_c D hr (by decide) rfl (pa_cons (pv 0) (pa_cons pe_int pa_nil)))) pa_nil))))))))) (pg_name (i := 8) scRightC.nd rfl (Or.inl rfl))
        (pss_cons (ps_set (i := 9) scRightC.nd rfl (Or.inl rfl) (pe_c Cw hr (by decide) rfl (pa_cons (pv 2) (pa_cons (pv 3) (pa_cons (pv 8) pa_nil)))))
        (pss_cons (ps_set (i := 10) scRightC.nd rfl (Or.inl rfl) (pe_c Co hr (by decide) rfl (pa_cons (pv 1) (pa_cons (pv 3) (pa_cons (pv 8) pa_nil)))))
        (pss_cons (ps_if (pt_cmpR op_ne (pe_callB (call_reprV gA hr.units) (by rfl) hrep (by decide +kernel) (pa_cons (pv 10) pa_nil)) (pe_callB (call_reprV gA hr.units) (by rfl) hrep (by decide +kernel) (pa_cons (pv 9) pa_nil)) (by rfl)) (pss_one (ps_ret pe_bl)) pss_nil)
        (pss_one (ps_if (pt_cmp (pc_notN (pv 10))) (pss_cons (ps_expr (pe_bm PySem.F.plainAttrs_list PySem.F.slot_list_append PySem.F.type_list_append mt_append (pv 10) (pa_cons pe_str pa_nil)))
            (pss_one (ps_if (pt_cmpR (op_neD hr.units) (pe_c Co hr (by decide) rfl (pa_cons (pv 1) (pa_cons (pv 3) (pa_cons (pv 8) pa_nil)))) (pv 9) (by rfl)) (pss_one (ps_ret pe_bl)) pss_nil))) pss_nil))))))
      (pss_one (ps_ret (pe_and (pe_cmpR op_eq (pe_callB (call_reprV gA hr.units) (by rfl) hrep (by decide +kernel) (pa_cons (pv 3) pa_nil)) (pv 4) (by rfl)) (pe_one (pe_cmpR (op_eqP O hr (by decide)) (pv 1) (pe_mk1 M1 hr (by decide) rfl (pa_cons (pv 2) pa_nil)) (by rfl))))))))), ?_⟩
    have gd := gs.gd
    have g : PosV vl xs := gd_pos gd
    have lt := hx.length
    have hl' : SqL K H l (ts.map V.ref) := SqL.of hl
    have chn := chn_of oks hch
    have okn := oks.norm
    have inl : ∀ z ∈ sizesOf (xs.map norm), z ∈ vl.map (·.1) ∧ 1 ≤ gOf vl z := fun z hz => by
      obtain ⟨u, hu, h⟩ := mem_sizesOf.mp hz
      obtain ⟨x, hx1, rfl⟩ := List.mem_map.mp hu
      have h2 : z ∈ x.2.1 ∨ z ∈ x.2.2 := h.imp (fun q => (sortT_perm _).mem_iff.mp q) fun q => (sortT_perm _).mem_iff.mp q
      obtain ⟨a, b, _⟩ := gs x hx1 z h2
      exact ⟨a, b⟩
    have v1 : ∀ z ∈ sizesOf (xs.map norm), ∀ n, getI vl z = some n → 1 ≤ n := fun z hz n e => by
      have := (inl z hz).2
      unfold gOf at this
      rw [e] at this
      exact this
    have vin : ∀ z ∈ sizesOf (xs.map norm), z ∈ vl.map (·.1) := fun z hz => (inl z hz).1
    have vk : ∀ x ∈ vl, LetOk x.1 ∧ x.2.natAbs < 2 ^ 400 := vok.1
    have sb : ∀ x ∈ xs, SS vl x ≤ 2 ^ 60 ∧ TT vl x ≤ 2 ^ 200 := fun x hx1 => by
      obtain ⟨_, _, a3, a4⟩ := ok x hx1
      obtain ⟨h1, h2⟩ := tm_20 (vl := vl) (m := x.2.1) fun z hz => ⟨(gs x hx1 z (.inl hz)).2.1, (gs x hx1 z (.inl hz)).2.2⟩
      obtain ⟨h3, h4⟩ := tm_20 (vl := vl) (m := x.2.2) fun z hz => ⟨(gs x hx1 z (.inr hz)).2.1, (gs x hx1 z (.inr hz)).2.2⟩
      refine ⟨Int.le_trans h1 ?_, Int.le_trans h3 ?_⟩
      · exact_mod_cast Nat.pow_le_pow_right (show 0 < 2 by decide) (show 20 * x.2.1.length ≤ 60 by omega)
      · exact_mod_cast Nat.pow_le_pow_right (show 0 < 2 by decide) (show 20 * x.2.2.length ≤ 200 by omega)
    have csm : ∀ {cs : List Int}, CellIn vl xs cs → (∀ i ∈ cs, i.natAbs < 2 ^ 61) ∧ 0 ≤ spotI vl xs cs ∧ spotI vl xs cs ≤ 8 * 2 ^ 260 := fun {cs} h => by
      have lc := in_len h
      refine ⟨fun i hi => ?_, ?_⟩
      · obtain ⟨j, hj⟩ := List.mem_iff_getElem?.mp hi
        obtain ⟨x, hx1, h1, h2⟩ := paired_ix h hj
        have := (sb x (List.mem_of_getElem? hx1)).1
        have h2 : i < SS vl x := h2
        omega
      · have := sum_le (f := fun i => lN cs i * TT vl (rwN xs i)) (g := fun _ => (2 : Int) ^ 260) (List.range xs.length) fun i hi => by
          have hi := List.mem_range.mp hi
          have ex := List.getElem?_eq_getElem hi
          obtain ⟨c, hc, h1, h2⟩ := paired_at h ex
          have e1 : lN cs i = c := by show (cs[i]?).getD 0 = c; rw [hc]; rfl
          have e2 : rwN xs i = xs[i] := by show (xs[i]?).getD _ = _; rw [ex]; rfl
          rw [e1, e2]
          obtain ⟨s1, s2⟩ := sb _ (List.mem_of_getElem? ex)
          have t1 := (g _ (List.mem_of_getElem? ex)).2
          have h2 : c < SS vl xs[i] := h2
          refine ⟨Int.mul_nonneg h1 (by omega), ?_⟩
          have := Int.mul_le_mul (show c ≤ 2 ^ 60 by omega) s2 (by omega) (by decide)
          rwa [show (2 : Int) ^ 60 * 2 ^ 200 = 2 ^ 260 by decide] at this
        rw [← spot_range vl lc] at this
        have e3 : ((List.range xs.length).map fun _ => (2 : Int) ^ 260).sum = xs.length * 2 ^ 260 := by
          generalize (2 : Int) ^ 260 = M
          clear this
          induction xs.length with
          | zero => simp
          | succ k ih => rw [List.range_succ, List.map_append, List.sum_append, ih]; simp [Int.add_mul]
        rw [e3] at this
        refine ⟨this.1, Int.le_trans this.2 (Int.mul_le_mul_of_nonneg_right (by omega) (by decide))⟩
    refine ⟨_, rfl, ?_⟩
    dsimp only [tNil]
    refine shw_vals hd vk v100 ?_
    refine ⟨_, rfl, l, rfl, ⟨_, hl'⟩, fun D nD => ?_⟩
    have nDp : D ≠ p := purse_none hp nD
    have frD : Frsh p H D := ⟨nDp, fun o e => by rw [nD] at e; cases e⟩
    have nlp : l ≠ p := purse_ref hp hl
    have ndp : d ≠ p := fun z => by
      rw [z] at hd
      obtain ⟨_, _, _, e, _⟩ := hp
      rw [hd] at e
      cases e
    refine lc_it (walk_list (xs := ts.map V.ref)) (fun i H' => FrP p H H' ∧ PurseAt H' p (n + 100 + 10 * (8 - i)) ∧ Tabs T H' ∧ ∃ cs, H' D = some (.lst (cs.map V.int)) ∧ CellIn vl (xs.take i) cs)
      ⟨(FrP.refl p H).upd frD, (purse_upd hp nDp).less (by omega), tb.ext (Same.upd nD), [], upd_same, .nil⟩ (fun i H' _ q => SqL.of (q.1 _ _ nlp hl fun _ z => nomatch z)) ?_ ?_
    · rintro i v H1 H2 hi ⟨F1, hp1, tb1, cs, hD1, hin⟩ ⟨rfl, hxi⟩
      rw [List.length_map] at hi
      rw [List.getElem?_map] at hxi
      obtain ⟨t, ht, rfl⟩ := Option.map_eq_some_iff.mp hxi
      obtain ⟨x, hxx, c1, c2, g0, g1, g2⟩ := paired_at hx ht
      have mx := List.mem_of_getElem? hxx
      obtain ⟨x1, x2, x3, x4⟩ := ok x mx
      have s1 := (g x mx).1
      have sz := (sb x mx).1
      have lc : cs.length ≤ 8 := by
        have := in_len hin
        rw [List.length_take] at this
        omega
      refine ⟨rfl, iteT (B := False) ⟨_, rfl, _, rfl, t, _, 1, _, rfl, rfl, SqT.of (F1 _ _ (purse_tup hp g0) g0 fun _ z => nomatch z), rfl, _, rfl, c1, d, x.2.1, vl, rfl, SqL.of (F1 _ _ (purse_str hp g1) g1 fun _ z => nomatch z), F1 _ _ ndp hd (fun _ z => nomatch z), (gd x mx).1, by omega, p, _, n + 100 + 10 * (8 - (i + 1)), rfl, hp1.less (by omega), s1, by have : tm vl x.2.1 ≤ 2 ^ 60 := sz; omega, fun r H3 r0 r1 hp3 S3 => ?_⟩⟩
      have hD3 := S3 _ _ nDp hD1
      refine ⟨_, hD3, by rw [List.length_map, sizeLine_eq]; omega, (F1.trans (FrP.ofB S3)).upd frD, purse_upd hp3 nDp, tabs_lst (tabsP tb1 hp1 S3) hD3, cs ++ [r], by rw [upd_same, List.map_append]; rfl, ?_⟩
      rw [take_snoc hxx]
      exact paired_snoc hin ⟨r0, r1⟩
    rintro H1 ⟨F1, hp1, tb1, cs, hD1, hin⟩
    rw [List.length_map, lt, List.take_length] at hin
    obtain ⟨cs1, sp0, sp1⟩ := csm hin
    have lcs := in_len hin
    refine ⟨_, _, rfl, ?_⟩
    have hlA : H1 l = some (.lst (ts.map V.ref)) := F1 _ _ nlp hl fun _ z => nomatch z
    have hdA : H1 d = some (.dK (dI vl)) := F1 _ _ ndp hd fun _ z => nomatch z
    -- the place
    refine seq_asg ⟨_, rfl, _, rfl, _, rfl, l, d, D, ts, xs, vl, cs, rfl, SqL.of hlA, ?_, hdA, gd, ok, l8, SqL.of hD1, lcs, fun i hi => Nat.lt_of_lt_of_le (cs1 i hi) (Nat.pow_le_pow_right (by decide) (by decide)), fun H2 S2 => ?_⟩
    · exact hx.frP hp F1
    have F2 := F1.trans (FrP.ofS S2)
    have hp2 := hp1.same S2
    have tb2 := tb1.ext S2
    have hD2 := S2 _ _ hD1
    generalize hsp : spotI vl xs cs = sp at sp0 sp1
    dsimp only
    have told0 := cell_of_in g hch oks.nd hin
    rw [hsp] at told0
    refine ⟨_, rfl, _, rfl, _, rfl, y, d, xs.map norm, vl, sp, rfl, ?_, okn, tb2, chn, S2 _ _ hdA, vok, v1, vin, sp0, ?_, fun l2 e2 H3 p3 X3 tb3 np3 hp3 => ?_, fun e2 => by rw [told0] at e2; cases e2⟩
    · exact (hy.frP hp F1).same S2
    · exact Int.lt_of_le_of_lt sp1 (by decide +kernel)
    rw [told0] at e2
    cases e2
    have F3 := F2.trans (FrP.ofX X3)
    have hpu3 := E4.PurseAt.ext hp2 X3
    have hD3 := X3 _ _ hD2 fun _ z => nomatch z
    refine ⟨_, rfl, .list (cs.map PyData.int), .list (cs.map PyData.int), .lst (SqL.of hp3) (dp_ints _), .lst (SqL.of hD3) (dp_ints _), ?_, ?_, _, rfl, ifF ?_ ?_⟩
    · exact shaped_ints _
    · exact shaped_ints _
    · rw [eqv_listI, decide_eq_true rfl]
      rfl
    dsimp only [tNext]
    have sp300 : sp < 2 ^ 300 := Int.lt_of_le_of_lt sp1 (by decide)
    have spn : sp.natAbs < 2 ^ 300 := by omega
    have cm2 : CMulW sp 2 := cmw (a := 300) (b := 2) spn (by decide) (by decide) (by decide) (by decide)
    have pw29 : CPow 10 29 := ⟨by decide, by decide, by decide⟩
    refine ⟨_, rfl, _, _, rfl, rfl, _, rfl, _, _, rfl, rfl, _, _, rfl, _, rfl, _, _, rfl, rfl, cm2, _, rfl, 10, 29, rfl, rfl, pw29, p, _, n + 50, rfl, hpu3.less (by omega), by decide +kernel, by decide +kernel, fun r1 H4 r10 r11 hp4 S4 => ⟨_, rfl, p, 50, n, rfl, hp4.less (by omega), by decide, by decide, fun r2 H5 r20 r21 hp5 S5 => ⟨_, _, rfl, rfl, ?_⟩⟩⟩
    have e29 : (10 : Int) ^ (29 : Int).toNat = 10 ^ 29 := rfl
    rw [e29] at r11
    refine ⟨by show 7 ≤ sizeLine; decide, fun lb H6 S6 nb6 hb6 => ?_⟩
    have nlb : lb ≠ p := purse_none hp5 nb6
    have F6 := ((F3.trans (FrP.ofB S4)).trans (FrP.ofB S5)).trans (FrP.ofS S6)
    have hp6 := hp5.same S6
    have tb6 : Tabs T H6 := (tabsP (tabsP tb3 hpu3 S4) hp4 S5).ext S6
    clear S4 S5 S6 hp4 hp5 hpu3 F3 tb3 hD3 hp3 np3 X3 F2 hp2 tb2 hD2 S2 F1 hp1 tb1 hD1 hlA hdA
    have hl6 : H6 l = some (.lst (ts.map V.ref)) := F6 _ _ nlp hl fun _ z => nomatch z
    have hd6 : H6 d = some (.dK (dI vl)) := F6 _ _ ndp hd fun _ z => nomatch z
    have hx6 := hx.frP hp F6
    have hy6 := hy.frP hp F6
    refine ⟨lb, rfl, ⟨_, SqL.of hb6⟩, for_it (walk_list (xs := [V.int 0, V.int 1, V.int (sp + 1), V.int (if (0 : Int) > sp - 1 then 0 else sp - 1), V.int (sp * 2), V.int r1, V.int (1 + r2)])) (fun k σ' H' => (∃ u6 u8 u9 u10, σ' = [some (.ref p), some (.ref y), some (.ref l), some (.ref d), some (.str (PyData.dict (vl.map fun x => (.str x.1, .int x.2))).shown), some (.ref D), u6, some (.int sp), u8, u9, u10]) ∧ FrP p H6 H' ∧ PurseAt H' p n ∧ Tabs T H') ⟨⟨_, _, _, _, rfl⟩, FrP.refl _ _, hp6, tb6⟩ (fun k σ' H' _ q => SqL.of (q.2.1 _ _ nlb hb6 fun _ z => nomatch z)) ?_ ?_⟩
    · rintro k v σ' H7 H8 hk ⟨⟨u6, u8, u9, u10, rfl⟩, F7, hp7, tb7⟩ ⟨rfl, hxk⟩
      obtain ⟨pl, rfl, p0, p1⟩ : ∃ pl : Int, v = .int pl ∧ 0 ≤ pl ∧ pl < 2 ^ 400 := by
        have b1 : (2 : Int) ^ 300 * 2 + 2 ≤ 2 ^ 400 := by decide
        have b2 : (10 : Int) ^ 29 ≤ 2 ^ 400 := by decide
        match k, hk, hxk with
        | 0, _, h => exact ⟨0, (Option.some.inj h).symm, by decide, by decide⟩
        | 1, _, h => exact ⟨1, (Option.some.inj h).symm, by decide, by decide⟩
        | 2, _, h => exact ⟨_, (Option.some.inj h).symm, by omega, by omega⟩
        | 3, _, h => exact ⟨_, (Option.some.inj h).symm, by split <;> omega, by split <;> omega⟩
        | 4, _, h => exact ⟨_, (Option.some.inj h).symm, by omega, by omega⟩
        | 5, _, h => exact ⟨_, (Option.some.inj h).symm, r10, by omega⟩
        | 6, _, h => exact ⟨_, (Option.some.inj h).symm, by omega, by omega⟩
      clear hxk
      have hl8 : H8 l = some (.lst (ts.map V.ref)) := F7 _ _ nlp hl6 fun _ z => nomatch z
      have hd8 : H8 d = some (.dK (dI vl)) := F7 _ _ ndp hd6 fun _ z => nomatch z
      have hx8 := hx6.frP hp6 F7
      have hy8 := hy6.frP hp6 F7
      have p4000 : pl < 2 ^ 4000 := Int.lt_of_lt_of_le p1 (by decide +kernel)
      have p4n : pl.natAbs < 2 ^ 4000 := Nat.lt_of_lt_of_le (show pl.natAbs < 2 ^ 400 by omega) (Nat.pow_le_pow_right (by decide) (by decide))
      cases ce : cellL vl (xs.map norm) pl with
      | none =>
        refine seq_asg ⟨_, rfl, _, rfl, _, rfl, l, d, ts, xs, vl, pl, rfl, hl8, hx8, hd8, gd, oks, ok, l8, hch, p0, p4n, tb7, fun cs2 e2 => (by rw [ce] at e2; cases e2), fun e2 Ha Xa tba => ?_⟩
        dsimp only
        refine seq_asg ⟨_, rfl, _, rfl, _, rfl, y, d, xs.map norm, vl, pl, rfl, hy8.ext Xa, okn, tba, chn, Xa _ _ hd8 (fun _ z => nomatch z), vok, v1, vin, p0, p4000, fun l2 e3 => (by rw [ce] at e3; cases e3), fun e3 Hb Xb tbb => ?_⟩
        dsimp only
        refine ⟨_, rfl, ?_⟩
        dsimp only [tNil]
        refine shw_non ?_
        refine ⟨_, rfl, ?_⟩
        dsimp only [tNil]
        refine shw_non ⟨rfl, _, rfl, ifF (by rw [decide_eq_true rfl]; rfl) ?_⟩
        dsimp only [tNext]
        have Fb := (F7.trans (FrP.ofX Xa)).trans (FrP.ofX Xb)
        refine ⟨_, rfl, _, rfl, ifF (by rw [decide_eq_true rfl]; rfl) ⟨⟨_, _, _, _, rfl⟩, Fb, E4.PurseAt.ext (E4.PurseAt.ext hp7 Xa) Xb, tbb⟩⟩
      | some cs2 =>
        obtain ⟨cin2, cin3⟩ := in_of_cell p0 g hch oks.nd ce
        obtain ⟨csm2, _⟩ := csm cin2
        have lcs2 := in_len cin2
        have csm5 : ∀ i ∈ cs2, i.natAbs < 2 ^ 500 := fun i hi => Nat.lt_of_lt_of_le (csm2 i hi) (Nat.pow_le_pow_right (by decide) (by decide))
        refine seq_asg ⟨_, rfl, _, rfl, _, rfl, l, d, ts, xs, vl, pl, rfl, hl8, hx8, hd8, gd, oks, ok, l8, hch, p0, p4n, tb7, fun cs3 e2 Ha pa Xa tba npa hpa => ?_, fun e2 => (by rw [ce] at e2; cases e2)⟩
        rw [ce] at e2
        cases e2
        dsimp only
        refine seq_asg ⟨_, rfl, _, rfl, _, rfl, y, d, xs.map norm, vl, pl, rfl, hy8.ext Xa, okn, tba, chn, Xa _ _ hd8 (fun _ z => nomatch z), vok, v1, vin, p0, p4000, fun l2 e3 Hb pb Xb tbb npb hpb => ?_, fun e3 => (by rw [ce] at e3; cases e3)⟩
        rw [ce] at e3
        cases e3
        have hpab : Hb pa = some (.lst (cs2.map V.int)) := Xb _ _ hpa fun _ z => nomatch z
        have nab : pa ≠ pb := fun z => by
          obtain ⟨ps, e⟩ := npb _ (z ▸ hpa)
          cases e
        have hpB := E4.PurseAt.ext (E4.PurseAt.ext hp7 Xa) Xb
        have Fb := (F7.trans (FrP.ofX Xa)).trans (FrP.ofX Xb)
        have npb1 : pb ≠ p := fun z => by
          obtain ⟨_, _, _, e, _⟩ := E4.PurseAt.ext hp7 Xa
          obtain ⟨ps, e2⟩ := npb _ (by rw [z]; exact e)
          cases e2
        have npbH : Frsh p H8 pb := by
          refine ⟨npb1, fun o e => ?_⟩
          by_cases nt : ∃ ps, o = .tbl ps
          · exact nt
          · exact npb _ (Xa _ _ e fun ps z => nt ⟨ps, z⟩)
        have FbX : FrP p H8 Hb := (FrP.ofX Xa).trans (FrP.ofX Xb)
        refine ⟨_, rfl, ?_⟩
        dsimp only [tNil]
        refine shw_ints hpb csm5 (by omega) ?_
        refine ⟨_, rfl, ?_⟩
        dsimp only [tNil]
        refine shw_ints hpab csm5 (by omega) ⟨rfl, _, rfl, ifF (by rw [decide_eq_true rfl]; rfl) ?_⟩
        dsimp only [tNext]
        refine ⟨_, rfl, _, rfl, ifT (by rw [decide_eq_false (fun z => by cases z)]; rfl) ?_⟩
        refine ⟨_, rfl, .inl ⟨rfl, _, SqL.of hpb⟩, pb, _, _, rfl, rfl, hpb, by rw [List.length_map, sizeLine_eq]; omega, ?_⟩
        have Fc : FrP p H8 (upd Hb pb (.lst (cs2.map V.int ++ [V.str "spoilt"]))) := FbX.upd npbH
        have hpC : PurseAt (upd Hb pb (.lst (cs2.map V.int ++ [V.str "spoilt"]))) p n := purse_upd hpB npbH.1
        have tbC : Tabs T (upd Hb pb (.lst (cs2.map V.int ++ [V.str "spoilt"]))) := tabs_lst tbb hpb
        have hpaC : (upd Hb pb (.lst (cs2.map V.int ++ [V.str "spoilt"]))) pa = some (.lst (cs2.map V.int)) := by rw [upd_ne nab]; exact hpab
        generalize upd Hb pb (.lst (cs2.map V.int ++ [V.str "spoilt"])) = Hc at Fc hpC tbC hpaC ⊢
        refine ⟨_, rfl, _, rfl, _, rfl, y, d, xs.map norm, vl, pl, rfl, hy8.frP hp7 Fc, okn, tbC, chn, Fc _ _ ndp hd8 (fun _ z => nomatch z), vok, v1, vin, p0, p4000, fun l2 e3 Hd pd Xd tbd npd hpd => ?_, fun e3 => (by rw [ce] at e3; cases e3)⟩
        rw [ce] at e3
        cases e3
        refine ⟨_, rfl, .list (cs2.map PyData.int), .list (cs2.map PyData.int), .lst (SqL.of hpd) (dp_ints _), .lst (SqL.of (Xd _ _ hpaC fun _ z => nomatch z)) (dp_ints _), shaped_ints _, shaped_ints _, _, rfl, ifF ?_ ⟨⟨_, _, _, _, rfl⟩, (F7.trans Fc).trans (FrP.ofX Xd), E4.PurseAt.ext hpC Xd, tbd⟩⟩
        rw [eqv_listI, decide_eq_true rfl]
        rfl
    · rintro σ' H7 ⟨⟨u6, u8, u9, u10, rfl⟩, F7, hp7, tb7⟩
      have hl7 : H7 l = some (.lst (ts.map V.ref)) := F7 _ _ nlp hl6 fun _ z => nomatch z
      have hd7 : H7 d = some (.dK (dI vl)) := F7 _ _ ndp hd6 fun _ z => nomatch z
      refine ⟨_, rfl, ?_⟩
      dsimp only [tNil]
      refine shw_vals hd7 vk v100 ?_
      refine ⟨_, rfl, rfl, ?_⟩
      rw [decide_eq_true rfl]
      refine ⟨true, rfl, ?_⟩
      rw [if_pos rfl]
      have hy7 := hy6.frP hp6 F7
      have hx7 := hx6.frP hp6 F7
      refine ⟨_, rfl, _, rfl, fun yp dx nyp ndx nex => ?_⟩
      refine mk_plainR hl7 hx7 oks nyp ndx nex fun H9 S9 hyp => ⟨rfl, y, yp, _, rfl, rfl, hy7.same S9, hyp, okn, ?_⟩
      exact q H9 ((F6.trans F7).trans (FrP.ofS S9)) (hp7.same S9) (tb7.ext S9)
end
end E4

set_option Elab.async false
set_option linter.all false
set_option maxRecDepth 100000
set_option maxHeartbeats 1000000
/-! d.update(d2) -/
namespace L2
open PySem PySem.Spec PyProof.Rows
def rDUpd : V → List V → Hp → VK → Prop := fun x vs H Q => ∃ (a b : Addr) (kvs more : List (Key × V)), x = .ref a ∧ vs = [.ref b] ∧ a ≠ b ∧ H a = some (.dK kvs) ∧ H b = some (.dK more) ∧ kvs.length + more.length ≤ sizeLine ∧ Q .non (upd H a (.dK (mergeK kvs more)))
theorem mtd_update {X : Cx} : MtR X "dict.update" rDUpd := by
  intro pins s σ H x vs v us Q I rx rv h
  obtain ⟨a, b, kvs, more, ex, ev, ne, e, e2, hz, q⟩ := h
  subst ex
  subst ev
  obtain rfl : v = Value.ref a := rx
  obtain ⟨u, rfl, ru⟩ := rv.one
  obtain rfl : u = Value.ref b := ru
  obtain ⟨z, hd, vs1, rel, dd⟩ := dk_of I.hok e
  obtain ⟨z2, hd2, vs2, rel2, dd2⟩ := dk_of I.hok e2
  refine call_meetsIn PySem.F.slot_dict_update dd.typeIs PySem.F.entry_dict_update (PySem.F.args_dict_update_2 _ _) (meets_dict_update (mixKind X.prog X.w) a b ne hd2) ⟨vs1, vs2, dd, dd2, by rw [← rel.length, ← rel2.length]; exact hz, fun h' dd' _ hs => ?_⟩
  have he : ∃ q, h'.get? a = some q := let ⟨q, _, _, hq, _⟩ := dd'; ⟨q, hq⟩
  have hln : (mergeK kvs more).length ≤ sizeLine := Nat.le_trans (length_mergeK more kvs) hz
  exact ⟨.non, _, d_write (t' := s.toks) I (by rw [e]; exact True.intro) hs he (dk_new hln hd (KV.merge rel2 rel) dd'), rfl, q⟩
end L2

set_option Elab.async false
set_option linter.all false
set_option maxRecDepth 100000
set_option maxHeartbeats 1000000
set_option exponentiation.threshold 5000
/-! the sizes that law_k54 lays: dicts that are put to -/
namespace E4
open PySem PySem.Spec PyProof.Rows L2
theorem keys_put {f : Vls} {z y : Str} {n : Int} : y ∈ (setI f z n).map (·.1) ↔ y = z ∨ y ∈ f.map (·.1) := by
  by_cases h : z ∈ f.map (·.1)
  · rw [setI_in h, List.map_map]
    show y ∈ f.map (·.1) ↔ _
    constructor
    · exact .inr
    · rintro (rfl | q)
      · exact h
      · exact q
  · rw [keys_set_new h, List.map_append, List.mem_append, List.map_cons, List.map_nil, List.mem_singleton]
    exact Or.comm
theorem mem_put {f : Vls} {z : Str} {n : Int} {x : Str × Int} (h : x ∈ setI f z n) : x = (z, n) ∨ x ∈ f := by
  by_cases c : z ∈ f.map (·.1)
  · rw [setI_in c] at h
    obtain ⟨u, hu, rfl⟩ := List.mem_map.mp h
    by_cases e : u.1 = z
    · rw [if_pos e, e]
      exact .inl rfl
    · rw [if_neg e]
      exact .inr hu
  · rw [keys_set_new c] at h
    rcases List.mem_append.mp h with q | q
    · exact .inr q
    · exact .inl (List.mem_singleton.mp q)
theorem len_put {f : Vls} {z : Str} {n : Int} : (setI f z n).length ≤ f.length + 1 := by
  by_cases c : z ∈ f.map (·.1)
  · rw [setI_in c, List.length_map]
    omega
  · rw [keys_set_new c, List.length_append, List.length_singleton]
    omega
theorem getI_app {f : Vls} {z y : Str} {n : Int} (h : z ∉ f.map (·.1)) : getI (f ++ [(z, n)]) y = if y = z then some n else getI f y := by
  unfold getI
  rw [List.find?_append]
  by_cases e : y = z
  · subst e
    have : f.find? (fun x => decide (x.1 = y)) = none := by
      rw [List.find?_eq_none]
      intro x hx c
      exact h (List.mem_map.mpr ⟨x, hx, of_decide_eq_true c⟩)
    rw [this, if_pos rfl]
    simp
  · rw [if_neg e]
    cases c : f.find? fun x => decide (x.1 = y) with
    | some u => rfl
    | none =>
      have : ¬ z = y := fun q => e q.symm
      simp [this]
theorem gOf_put {f : Vls} {z y : Str} {n : Int} : gOf (setI f z n) y = if y = z then n else gOf f y := by
  by_cases c : z ∈ f.map (·.1)
  · exact gOf_set c y
  · unfold gOf
    rw [keys_set_new c, getI_app c]
    split <;> rfl
def mergeV (f vl : Vls) : Vls := vl.foldl (fun f x => setI f x.1 x.2) f
theorem merge_dI : ∀ (vl f : Vls), mergeK (dI f) (dI vl) = dI (mergeV f vl)
  | [], f => rfl
  | x :: vl, f => by
    show mergeK (putK (dI f) (Sum.inr x.1) (V.int x.2)) (dI vl) = dI (mergeV (setI f x.1 x.2) vl)
    rw [putK_dI, merge_dI vl]
theorem mergeV_keys : ∀ (vl f : Vls) (y : Str), y ∈ (mergeV f vl).map (·.1) ↔ y ∈ f.map (·.1) ∨ y ∈ vl.map (·.1)
  | [], f, y => by
    show y ∈ f.map (·.1) ↔ _
    simp
  | x :: vl, f, y => by
    show y ∈ (mergeV (setI f x.1 x.2) vl).map (·.1) ↔ _
    rw [mergeV_keys vl, keys_put, List.map_cons, List.mem_cons]
    constructor
    · rintro ((h | h) | h)
      · exact .inr (.inl h)
      · exact .inl h
      · exact .inr (.inr h)
    · rintro (h | h | h)
      · exact .inl (.inr h)
      · exact .inl (.inl h)
      · exact .inr h
theorem mergeV_mem : ∀ (vl f : Vls) {x : Str × Int}, x ∈ mergeV f vl → x ∈ f ∨ x ∈ vl
  | [], f, x, h => .inl h
  | u :: vl, f, x, h => by
    have h : x ∈ mergeV (setI f u.1 u.2) vl := h
    rcases mergeV_mem vl _ h with q | q
    · rcases mem_put q with rfl | q
      · exact .inr List.mem_cons_self
      · exact .inl q
    · exact .inr (List.mem_cons_of_mem _ q)
theorem mergeV_len : ∀ (vl f : Vls), (mergeV f vl).length ≤ f.length + vl.length
  | [], f => Nat.le_refl _
  | u :: vl, f => by
    have h1 := mergeV_len vl (setI f u.1 u.2)
    have h2 := len_put (f := f) (z := u.1) (n := u.2)
    show (mergeV (setI f u.1 u.2) vl).length ≤ _
    rw [List.length_cons]
    omega
theorem mergeV_gOf : ∀ (vl f : Vls) (y : Str), gOf (mergeV f vl) y = gOf f y ∨ ∃ x ∈ vl, gOf (mergeV f vl) y = x.2
  | [], f, y => .inl rfl
  | u :: vl, f, y => by
    show gOf (mergeV (setI f u.1 u.2) vl) y = _ ∨ ∃ x ∈ u :: vl, gOf (mergeV (setI f u.1 u.2) vl) y = x.2
    rcases mergeV_gOf vl (setI f u.1 u.2) y with q | ⟨x, hx, q⟩
    · rw [q, gOf_put]
      by_cases e : y = u.1
      · rw [if_pos e]
        exact .inr ⟨u, List.mem_cons_self, rfl⟩
      · rw [if_neg e]
        exact .inl rfl
    · exact .inr ⟨x, List.mem_cons_of_mem _ hx, q⟩
theorem mergeV_val : ∀ (vl f : Vls) (y : Str), y ∈ vl.map (·.1) → ∃ x ∈ vl, gOf (mergeV f vl) y = x.2
  | u :: vl, f, y, h => by
    show ∃ x ∈ u :: vl, gOf (mergeV (setI f u.1 u.2) vl) y = x.2
    by_cases c : y ∈ vl.map (·.1)
    · obtain ⟨x, hx, e⟩ := mergeV_val vl (setI f u.1 u.2) y c
      exact ⟨x, List.mem_cons_of_mem _ hx, e⟩
    · have e : y = u.1 := by
        rw [List.map_cons, List.mem_cons] at h
        exact h.resolve_right c
      rcases mergeV_gOf vl (setI f u.1 u.2) y with q | ⟨x, hx, q⟩
      · rw [q, gOf_put, if_pos e]
        exact ⟨u, List.mem_cons_self, rfl⟩
      · exact ⟨x, List.mem_cons_of_mem _ hx, q⟩
  | [], _, _, h => absurd h List.not_mem_nil
/-- good sizes: texts and small numbers, the rows' letters from 1 to M -/
structure VG (vl : Vls) (xs : List Sd) (M : Int) (n : Nat) : Prop where
  ok : ∀ x ∈ vl, LetOk x.1 ∧ x.2.natAbs < 2 ^ 400
  len : vl.length ≤ n
  val : ∀ x ∈ xs, ∀ z, z ∈ x.2.1 ∨ z ∈ x.2.2 → z ∈ vl.map (·.1) ∧ 1 ≤ gOf vl z ∧ gOf vl z ≤ M
theorem VG.put {vl : Vls} {xs : List Sd} {M : Int} {n : Nat} (g : VG vl xs M n) {z : Str} {i : Int} (hz : LetOk z) (hi : i.natAbs < 2 ^ 400) (nz : ∀ x ∈ xs, ∀ y, y ∈ x.2.1 ∨ y ∈ x.2.2 → y ≠ z) : VG (setI vl z i) xs M (n + 1) := by
  refine ⟨fun x hx => ?_, Nat.le_trans len_put (Nat.add_le_add_right g.len 1), fun x hx y hy => ?_⟩
  · rcases mem_put hx with rfl | q
    · exact ⟨hz, hi⟩
    · exact g.ok x q
  · obtain ⟨a, b, c⟩ := g.val x hx y hy
    rw [gOf_put, if_neg (nz x hx y hy)]
    exact ⟨keys_put.mpr (.inr a), b, c⟩
theorem VG.up {vl : Vls} {xs : List Sd} {M : Int} {n : Nat} (g : VG vl xs M n) {z : Str} {x0 : Sd} (hx0 : x0 ∈ xs) (hz : z ∈ x0.2.1 ∨ z ∈ x0.2.2) (hM : M < 2 ^ 300) : VG (setI vl z (gOf vl z + 1)) xs (M + 1) n := by
  obtain ⟨kz, z1, z2⟩ := g.val x0 hx0 z hz
  refine ⟨fun x hx => ?_, ?_, fun x hx y hy => ?_⟩
  · rcases mem_put hx with rfl | q
    · obtain ⟨u, hu, e⟩ := List.mem_map.mp kz
      refine ⟨by rw [← e]; exact (g.ok u hu).1, ?_⟩
      show (gOf vl z + 1).natAbs < 2 ^ 400
      have : gOf vl z + 1 < 2 ^ 301 := by omega
      have b : (2 : Int) ^ 301 ≤ 2 ^ 400 := by decide
      omega
    · exact g.ok x q
  · rw [setI_in kz, List.length_map]
    exact g.len
  · obtain ⟨a, b, c⟩ := g.val x hx y hy
    rw [gOf_put]
    refine ⟨keys_put.mpr (.inr a), ?_, ?_⟩
    · split <;> omega
    · split <;> omega
theorem VG.gs {vl : Vls} {xs : List Sd} {M : Int} {n : Nat} (g : VG vl xs M n) (h : M ≤ 2 ^ 20) (hn : n ≤ 200) : VlsOk vl ∧ vl.length ≤ 200 ∧ GdS vl xs :=
  ⟨⟨g.ok, by have := g.len; omega⟩, by have := g.len; omega, fun x hx z hz => let ⟨a, b, c⟩ := g.val x hx z hz; ⟨a, b, by omega⟩⟩
end E4

set_option Elab.async false
set_option linter.all false
set_option maxRecDepth 100000
set_option maxHeartbeats 1000000
/-! a call where no repr is under way -/
namespace L2
open PySem PySem.Spec PyProof.Rows
structure CalG (P : Program) (w : World) (K : PySem.W.Frag) (mg : Str → Option Value) (base : Heap) (k : Nat) (x : Str) (sp : Sp) : Prop where
  ex : ∃ (f : Addr) (fd : FuncData) (ps : List Str), FnG P w K mg base k f fd ps sp ∧ mg x = some (.ref f) ∧ PySem.W.keepIn K (.ref f) = true ∧ Binds K fd ps []
section
variable {X : Cx} {k j : Nat} {x : Str} {sp : Sp} {p pos : Pos} {e : Expr} {es : List Expr} {t : TA}
theorem pe_cG (gA : X.A.guards = some []) (c : CalG X.prog X.w X.K X.mg X.base k x sp) (hr : Room j X.A) (hk : k ≤ j) (hg : Gl X x) (ha : PA X (e :: es) t)
    (hdb : (x == ("__debug__" : Str)) = false := by decide) (he : starEach (e :: es) X.env = (false, eval e X.env) :: starEach es X.env := by rfl) (hpl : (backTo pos (starEach es X.env)).any (·.1) = false := by rfl) :
    PE X (.Call (.Name x p) (e :: es) [] pos) (tCall sp [] C8.E0 t) := by
  obtain ⟨f, fd, ps, F, hm, kp, hb⟩ := c.ex
  refine ⟨fun pins s σ H Q I h => ?_⟩
  refine wpAny_Call_Name_kw (ld_glob I hg hm ?_ hdb)
  refine PySem.W.callWith_K (h₀ := X.base) I.ok.mod.kin kp (thn (ha.run pos pins s σ H _ I h) fun us s1 ⟨vs, H1, I1, r, h1⟩ => ⟨I1.kIn, ?_⟩) he hpl
  have r2 : Vals (vs ++ []) (us ++ []) := r.append .nil
  have hl : (us ++ []).length = ps.length := by rw [← r2.length]; exact F.len _ _ _ _ h1
  refine wpAny_call (codeAny_mono (F.go X.A X.stack s1 H1 ⟨us, []⟩ (us ++ []) (vs ++ []) Q C8.E0 gA (hr.mono hk) I1.env0 (hb s1 us I1.kIn hl) r2 h1) fun r s' hq => ?_)
  cases r with
  | error e => exact pass0 pins σ H1 s1 e s' I1 hq
  | ok fl =>
    cases fl with
    | ret u => exact I1.after hq
    | next => exact False.elim hq
    | brk => exact False.elim hq
    | cont => exact False.elim hq
end
end L2

set_option Elab.async false
set_option linter.all false
set_option maxRecDepth 100000
set_option maxHeartbeats 4000000
set_option exponentiation.threshold 5000
/-! law_k54's law -/
namespace E4
open PySem PySem.Spec PyProof.Rows L2
open C8 (Cal Mak Met InsC pe_c pe_mt pe_mt0 call_isC clsBody)
open LamX (Tabs ExtN TabB CodeO)
open E3 (PurseAt spPurse spMixed spDraw)
theorem let_two : ∀ z ∈ (["aa", "unused"] : List Str), LetOk z := by
  intro z hz
  have : ((["aa", "unused"] : List Str).all fun z => decide (1 ≤ z.length) && decide (z.length ≤ 10) && z.cps.toList.all fun c => decide (97 ≤ c) && decide (c ≤ 122)) = true := by decide +kernel
  have h := List.all_eq_true.mp this z hz
  simp only [Bool.and_eq_true, decide_eq_true_eq, List.all_eq_true] at h
  exact ⟨h.1.1, h.1.2, h.2⟩
theorem let_aa : LetOk "aa" := let_two _ (by simp)
theorem let_unused : LetOk "unused" := let_two _ (by simp)
theorem chd_perm' {xs ys : List Sd} (h : ChdB xs) (p : ys.Perm xs) : ChdB ys := chd_pw.mpr (((p.filter _).pairwise_iff fun {a b} q => q.symm).mpr (chd_pw.mp h))
/-- the fixed table -/
def fxG : List Sd := [("r", ["m"], ["n"]), ("c", ["n"], [])]
def vlG : Vls := [("m", 2), ("n", 3)]
theorem fxG_row : ∀ x ∈ fxG, RowOk x := by
  intro x hx
  have : (fxG.all fun x => (x.2.1.all fun z => decide (z ∈ L8)) && (x.2.2.all fun z => decide (z ∈ L8)) && decide (x.2.1.length ≤ 3) && decide (x.2.2.length ≤ 10)) = true := by decide +kernel
  have := List.all_eq_true.mp this x hx
  simp only [Bool.and_eq_true, decide_eq_true_eq, List.all_eq_true] at this
  exact ⟨this.1.1.1, this.1.1.2, this.1.2, this.2⟩
theorem fxG_ok : SdsOk fxG := rc_names (.inl rfl) fxG_row
theorem fxG_chd : ChdB fxG := by
  refine chd_pw.mpr ?_
  have e : (fxG.filter fun x => decide (x.2.1 ≠ [])) = fxG := by rfl
  rw [e]
  refine List.pairwise_cons.mpr ⟨fun y hy => ?_, List.pairwise_cons.mpr ⟨fun y hy => absurd hy List.not_mem_nil, .nil⟩⟩
  rw [List.mem_singleton.mp hy]
  right
  show leftOf ((["n"] : List Str) ++ []) ["n"] = []
  decide +kernel
theorem fxG_gs : GdS vlG fxG := by
  intro x hx z hz
  have : (fxG.all fun x => (x.2.1 ++ x.2.2).all fun z => decide (z ∈ vlG.map (·.1)) && decide (1 ≤ gOf vlG z) && decide (gOf vlG z ≤ 2 ^ 20)) = true := by decide +kernel
  have := List.all_eq_true.mp (List.all_eq_true.mp this x hx) z (List.mem_append.mpr hz)
  simp only [Bool.and_eq_true, decide_eq_true_eq] at this
  exact ⟨this.1.1, this.1.2, this.2⟩
theorem vlG_ok : VlsOk vlG := by
  refine ⟨fun x hx => ?_, by decide⟩
  have : (vlG.all fun x => decide (x.1 ∈ L8) && decide (x.2.natAbs < 2 ^ 400)) = true := by decide +kernel
  have := List.all_eq_true.mp this x hx
  simp only [Bool.and_eq_true, decide_eq_true_eq] at this
  exact ⟨let_L8 _ this.1, this.2⟩
def resK (k : Nat) : Option (List Int) := if k < 6 then some [((k / 3 : Nat) : Int), ((k % 3 : Nat) : Int)] else none
theorem tmG : SS vlG ("r", ["m"], ["n"]) = 2 ∧ SS vlG ("c", ["n"], []) = 3 ∧ TT vlG ("r", ["m"], ["n"]) = 3 ∧ TT vlG ("c", ["n"], []) = 1 := by
  refine ⟨?_, ?_, ?_, ?_⟩ <;> decide +kernel
theorem cellG (k : Nat) (hk : k < 7) : cellL vlG (fxG.map norm) (k : Int) = resK k := by
  obtain ⟨a, b, c, d⟩ := tmG
  have g : PosV vlG fxG := gd_pos fxG_gs.gd
  unfold resK
  by_cases h : k < 6
  · rw [if_pos h]
    have hin : CellIn vlG fxG [((k / 3 : Nat) : Int), ((k % 3 : Nat) : Int)] := .cons ⟨by omega, by show _ < SS vlG ("r", ["m"], ["n"]); rw [a]; omega⟩ (.cons ⟨by omega, by show _ < SS vlG ("c", ["n"], []); rw [b]; omega⟩ .nil)
    have e : spotI vlG fxG [((k / 3 : Nat) : Int), ((k % 3 : Nat) : Int)] = (k : Int) := by
      show spotI vlG (("r", ["m"], ["n"]) :: ("c", ["n"], []) :: []) _ = _
      rw [spot_cons, spot_cons]
      show _ * TT vlG ("r", ["m"], ["n"]) + (_ * TT vlG ("c", ["n"], []) + 0) = _
      rw [c, d]
      omega
    rw [← e]
    exact cell_of_in g fxG_chd fxG_ok.nd hin
  · rw [if_neg h]
    cases ce : cellL vlG (fxG.map norm) (k : Int) with
    | none => rfl
    | some cs =>
      obtain ⟨h1, h2⟩ := in_of_cell (by omega) g fxG_chd fxG_ok.nd ce
      have h1 : CellIn vlG [("r", ["m"], ["n"]), ("c", ["n"], [])] cs := h1
      unfold CellIn at h1
      cases h1 with
      | @cons _ i _ cs' q1 r1 =>
        cases r1 with
        | @cons _ j _ cs'' q2 r2 =>
          cases r2
          have q1 : 0 ≤ i ∧ i < SS vlG ("r", ["m"], ["n"]) := q1
          have q2 : 0 ≤ j ∧ j < SS vlG ("c", ["n"], []) := q2
          have h2 : spotI vlG (("r", ["m"], ["n"]) :: ("c", ["n"], []) :: []) [i, j] = (k : Int) := h2
          rw [spot_cons, spot_cons] at h2
          have h2 : i * TT vlG ("r", ["m"], ["n"]) + (j * TT vlG ("c", ["n"], []) + 0) = (k : Int) := h2
          rw [c, d] at h2
          rw [a] at q1
          rw [b] at q2
          omega
def rsD : Option (List Int) → PyData
  | none => .none
  | some l => .list (l.map PyData.int)
/-- the results that stand in a list -/
def RsAt (H : Hp) (D : Addr) (vs : List V) (os : List (Option (List Int))) : Prop := Paired (fun (v : V) (o : Option (List Int)) => match o with
  | none => v = .non
  | some l => ∃ p, v = .ref p ∧ p ≠ D ∧ H p = some (.lst (l.map V.int))) vs os
theorem RsAt.imp {H H' : Hp} {D : Addr} {vs : List V} {os : List (Option (List Int))} (h : RsAt H D vs os) (S : ∀ (p : Addr) (xs : List V), p ≠ D → H p = some (.lst xs) → H' p = some (.lst xs)) : RsAt H' D vs os := by
  unfold RsAt at h ⊢
  induction h with
  | nil => exact .nil
  | @cons v o vs os r _ ih =>
    refine .cons ?_ ih
    cases o with
    | none => exact r
    | some l =>
      obtain ⟨p, e, n, hp⟩ := r
      exact ⟨p, e, n, S _ _ n hp⟩
theorem RsAt.dp {K : PySem.W.Frag} {H : Hp} {D : Addr} {vs : List V} {os : List (Option (List Int))} (h : RsAt H D vs os) : DpAll K H vs (os.map rsD) := by
  unfold RsAt at h
  induction h with
  | nil => exact .nil
  | @cons v o vs os r _ ih =>
    refine .cons ?_ ih
    cases o with
    | none =>
      have r : v = .non := r
      rw [r]
      exact .non
    | some l =>
      obtain ⟨p, e, n, hp⟩ := r
      rw [e]
      exact .lst (SqL.of hp) (dp_ints l)
section
variable {P : Program} {w : World} {K : PySem.W.Frag} {mg : Str → Option Value} {base : Heap} {C : Addr}
abbrev NL : List Str := ["_law_script", "_law_cell_here", "_law_purse_here", "_law_rows", "_law_table", "_law_most", "_law_sizes_here", "_law_one", "_law_spot_here"]
theorem scLaw : FnScope NL ["_law_script"] (defScope sLaw) := ⟨rfl, rfl, rfl, by decide +kernel, rfl, by decide +kernel, by decide +kernel⟩
theorem ok_law {T : List (Addr × Str)} {f : Addr} {fd : FuncData} (F : Fun K "law" "law" sLaw f fd) (B4 : E3.Bt4 mg) (B : Bl mg) (Pu : Cal P w K mg base 1 "_law_purse" (spPurse K) []) (D : Cal P w K mg base 2 "_law_draw" spDraw []) (Ch : Cal P w K mg base 5 "_law_chain" spChain []) (Sh : Cal P w K mg base 3 "_law_shuffled" spShufV []) (Cd : Cal P w K mg base 2 "_law_chained" (spChained K) [])
    (M1 : Mak P w K mg base 5 "Plain" C (spInit C) []) (Us : Cal P w K mg base 1 "_law_used" (spUsed K) []) (Sz : Cal P w K mg base 4 "_law_sizes" (spSizesL K) []) (Ri : CalG P w K mg base 7 "_law_right" (spRightC T C)) (Co : Cal P w K mg base 5 "cell_of" (spCellOf T C) []) :
    FnG P w K mg base 8 f fd ["_law_script"] (spLaw T K) := by
  refine F.okG scLaw (fun vs H Q E h => ?_) (fun cdv A outer s H vs Q E gA hr h => ?_)
  · obtain ⟨sc, ns, rfl, _⟩ := h
    rfl
  · obtain ⟨sc, ns, rfl, hs, hl, tb, q⟩ := h
    have u1 := Nat.lt_of_le_of_lt (Nat.add_le_add_left (by decide : 1 ≤ 64) _) hr.units
    refine ⟨_, (pss_cons (ps_for PassesOwn.never rfl (pi_range1 rfl B4.rng_ (pa_cons (pe_callB (call_max2 rfl) (by rfl) B4.max_ (by decide +kernel) (pa_cons pe_int (pa_cons (pe_callB call_len_seq (by rfl) B.len_ PySem.boot_len (pa_cons (pe_slice sl_listS (pv 0) po_none (po_some pe_int)) pa_nil)) pa_nil))) pa_nil)) (pg_name (i := 1) scLaw.nd rfl (Or.inl rfl))
      (pss_cons (ps_set (i := 2) scLaw.nd rfl (Or.inl rfl) (pe_c Pu hr (by decide) rfl (pa_cons (pv 0) (pa_cons (pv 1) pa_nil))))
      (pss_cons (ps_set (i := 3) scLaw.nd rfl (Or.inl rfl) (pe_c Ch hr (by decide) rfl (pa_cons (pv 2) (pa_cons (pe_op op_add pe_int (pe_c D hr (by decide) rfl (pa_cons (pv 2) (pa_cons pe_int pa_nil)))) (pa_cons (pe_ix ix_list (pe_lstS (pa_cons pe_int (pa_cons pe_int (pa_cons (pe_op op_pow pe_int pe_int) pa_nil)))) (pe_c D hr (by decide) rfl (pa_cons (pv 2) (pa_cons pe_int pa_nil))) (fun _ _ => rfl)) pa_nil)))))
      (pss_one (ps_if (pt_val (pe_c Cd hr (by decide) rfl (pa_cons (pv 3) pa_nil))) (pss_cons (ps_set (i := 3) scLaw.nd rfl (Or.inl rfl) (pe_c Sh hr (by decide) rfl (pa_cons (pv 2) (pa_cons (pv 3) pa_nil))))
      (pss_cons (ps_set (i := 4) scLaw.nd rfl (Or.inr rfl) (pe_mk1 M1 hr (by decide) rfl (pa_cons (pv 3) pa_nil)))
      (pss_one (ps_for PassesOwn.never rfl (pi_tup (pe_tupS (pa_cons pe_int (pa_cons pe_int (pa_cons pe_int (pa_cons pe_int pa_nil)))))) (pg_name (i := 5) scLaw.nd rfl (Or.inl rfl))
        (pss_cons (ps_set (i := 6) scLaw.nd rfl (Or.inl rfl) (pe_disp (pps_cons pe_str (pe_un un_neg pe_int) pps_nil) rfl rfl (by simp) (by decide)))
        (pss_cons (ps_expr (pe_bm PySem.F.plainAttrs_dict PySem.F.slot_dict_update PySem.F.type_dict_update mtd_update (pv 6) (pa_cons (pe_c Sz hr (by decide) rfl (pa_cons (pv 2) (pa_cons (pv 3) (pa_cons (pv 5) pa_nil)))) pa_nil)))
        (pss_cons (ps_dput u1 (pv 6) pe_str (pe_op op_sub pe_int (pe_c D hr (by decide) rfl (pa_cons (pv 2) (pa_cons pe_int pa_nil)))) rfl)
        (pss_cons (ps_dput u1 (pv 6) (pe_ix ix_tup (pe_ix ix_list (pv 3) pe_int (fun _ _ => rfl)) pe_int (fun _ _ => rfl)) (pe_un un_neg pe_int) rfl)
        (pss_cons (ps_if (pt_not (pt_val (pe_cG gA Ri hr (by decide) rfl (pa_cons (pv 2) (pa_cons (pv 4) (pa_cons (pv 3) (pa_cons (pv 6) pa_nil))))))) (pss_one (ps_ret pe_bl)) pss_nil)
        (pss_cons (ps_for PassesOwn.never rfl (pi_list (pe_c Us hr (by decide) rfl (pa_cons (pv 3) pa_nil))) (pg_name (i := 7) scLaw.nd rfl (Or.inl rfl)) (pss_one (ps_dput u1 (pv 6) (pv 7) (pe_op op_add (pe_dget u1 (pv 6) (pv 7) (fun _ _ => rfl)) pe_int) rfl)))
        (pss_one (ps_if (pt_not (pt_val (pe_cG gA Ri hr (by decide) rfl (pa_cons (pv 2) (pa_cons (pv 4) (pa_cons (pv 3) (pa_cons (pv 6) pa_nil))))))) (pss_one (ps_ret pe_bl)) pss_nil))))))))))) ) pss_nil)))))
      (pss_cons (ps_set (i := 4) scLaw.nd rfl (Or.inr rfl) (pe_mk1 M1 hr (by decide) rfl (pa_cons (pe_lstS (pa_cons (pe_tupS (pa_cons pe_str (pa_cons (pe_lstS (pa_cons pe_str pa_nil)) (pa_cons (pe_lstS (pa_cons pe_str pa_nil)) pa_nil)))) (pa_cons (pe_tupS (pa_cons pe_str (pa_cons (pe_lstS (pa_cons pe_str pa_nil)) (pa_cons (pe_lstS pa_nil) pa_nil)))) pa_nil))) pa_nil)))
      (pss_one (ps_ret (pe_cmpR (op_eqD hr.units) (pe_lc (own := [("_law_spot_here", 8)]) (g := gName 8) (tt := tYes) (te := tCall (spCellOf T C) [] C8.E0 (tCons (tVar 4) (tCons (tDisp [(tC (.str "m"), tC (.int 2)), (tC (.str "n"), tC (.int 3))]) (tCons (tVar 8) tNil)))) rfl scLaw.nd (pi_range1 rfl B4.rng_ (pa_cons pe_int pa_nil))
          (blkOk_by (own := [("_law_spot_here", 8)]) (N := NL) (sc := defScope sLaw) (by decide +kernel))
          (fun _ _ _ _ _ => pg_name (i := 8) scLaw.nd rfl (Or.inl rfl)) (fun _ _ _ _ _ => pts_nil)
          (fun _ _ _ _ _ => by exact pe_c Co hr (by decide) rfl (pa_cons (pv 4) (pa_cons (pe_disp (pps_cons pe_str pe_int (pps_cons pe_str pe_int pps_nil)) rfl rfl (by simp) (by decide)) (pa_cons (pv 8) pa_nil)))))
        (pe_lstS (pa_cons (pe_lstS (pa_cons pe_int (pa_cons pe_int pa_nil))) (pa_cons (pe_lstS (pa_cons pe_int (pa_cons pe_int pa_nil))) (pa_cons (pe_lstS (pa_cons pe_int (pa_cons pe_int pa_nil))) (pa_cons (pe_lstS (pa_cons pe_int (pa_cons pe_int pa_nil))) (pa_cons (pe_lstS (pa_cons pe_int (pa_cons pe_int pa_nil))) (pa_cons (pe_lstS (pa_cons pe_int (pa_cons pe_int pa_nil))) (pa_cons pe_non pa_nil)))))))) (by rfl)))))), ?_⟩
    have lcut : (cutV (ns.map V.int) none (some 16)).length ≤ 63 := by
      unfold cutV
      refine Nat.le_trans (List.length_take_le' _ _) ?_
      rw [List.length_drop, List.length_map]
      omega
    refine ⟨_, rfl, 16, rfl, sc, _, rfl, hs, fun pc H1 S1 n1 h1 => ?_⟩
    refine ⟨pc, _, rfl, .inl (SqL.of h1), 1, _, rfl, _, rfl, ?_⟩
    generalize hm : (if (((cutV (ns.map V.int) none (some 16)).length : Nat) : Int) > 1 then (((cutV (ns.map V.int) none (some 16)).length : Nat) : Int) else 1) = m
    have m0 : 0 ≤ m ∧ m ≤ 63 := by
      rw [← hm]
      split <;> omega
    refine ⟨by omega, by omega, for_it (walk_range (n := m.toNat)) (fun i σ' H' => (∃ u1 u2 u3 u4 u5 u6 u7 u8, σ' = [some (.ref sc), u1, u2, u3, u4, u5, u6, u7, u8]) ∧ ExtN H H' ∧ Tabs T H') ⟨⟨none, none, none, none, none, none, none, none, rfl⟩, ExtN.of S1, tb.ext S1⟩ (fun _ _ _ _ _ => trivial) ?_ ?_⟩
    · rintro i x σ' H2 H3 hi ⟨⟨u1, u2, u3, u4, u5, u6, u7, u8, rfl⟩, X2, tb2⟩ ⟨rfl, rfl⟩
      refine seq_asg ⟨_, rfl, _, rfl, sc, _, ns, rfl, hs.extN X2, by omega, by omega, fun H4 p S4 np hp => ?_⟩
      have tb4 := tb2.ext S4
      have back : ∀ {H' : Hp}, FrP p H4 H' → ExtN H H' := fun Fr c o e nt => Fr c o (ne_of_none (X2 _ _ e nt) np) (S4 _ _ (X2 _ _ e nt)) nt
      clear X2 tb2 S4
      -- the rows
      refine seq_asg ⟨_, rfl, _, rfl, p, 6, 2 ^ 50, rfl, hp.less (by decide), by decide, by decide, fun r H5 r0 r1 hp5 S5 => ⟨_, _, rfl, rfl, 10, 9, rfl, rfl, ⟨by decide, by decide, by decide⟩, by show 3 ≤ sizeLine; decide, fun lx H6 S6 n6 h6 => ⟨_, rfl, p, 3, 2 ^ 49, rfl, (hp5.same S6).less (by decide), by decide, by decide, fun r2 H7 r20 r21 hp7 S7 => ?_⟩⟩⟩
      obtain ⟨mo, em, mo1, mo2⟩ : ∃ mo : Int, atI [V.int 2, V.int 4, V.int (10 ^ (9 : Int).toNat)] r2 = some (V.int mo) ∧ 1 ≤ mo ∧ mo ≤ 10 ^ 9 := by
        have : r2 = 0 ∨ r2 = 1 ∨ r2 = 2 := by omega
        rcases this with rfl | rfl | rfl
        · exact ⟨2, rfl, by decide, by decide⟩
        · exact ⟨4, rfl, by decide, by decide⟩
        · exact ⟨10 ^ (9 : Int).toNat, rfl, by decide, by decide⟩
      refine ⟨lx, _, r2, _, rfl, rfl, SqL.of (S7 _ _ (purse_none hp5 n6) h6), em, p, (1 + r).toNat, mo, 2 ^ 48, by rw [Int.toNat_of_nonneg (by omega)]; rfl, by omega, by omega, mo1, Int.lt_of_le_of_lt mo2 (by decide), hp7.less (by decide), fun l2 ts2 xs2 H8 hl2 hx2 ok2 ro2 len nm nl hp8 S8 => ?_⟩
      have F7 : FrP p H4 H7 := (FrP.ofB S5).trans ((FrP.ofS S6).trans (FrP.ofB S7))
      have F8 := F7.trans (FrP.ofB S8)
      have tb8 := tabsP (tabsP ((tabsP tb4 hp S5).ext S6) (hp5.same S6) S7) hp7 S8
      have l82 : xs2.length ≤ 8 := by omega
      clear S5 S6 n6 h6 S7 S8 tb4 len F7 nl hp5 hp7
      dsimp only
      refine ⟨_, rfl, l2, ts2, xs2, rfl, SqL.of hl2, hx2, ro2, l82, fun chd H9 S9 => ⟨true, rfl, iteT ?_⟩, fun nchd H9 S9 => ⟨false, rfl, iteF ?_⟩⟩
      · -- turned about
        have hp9 := hp8.same S9
        have hl9 := S9 _ _ hl2
        refine seq_asg ⟨_, rfl, _, rfl, p, l2, ts2.map V.ref, 2 ^ 39, rfl, hp9.less (by rw [List.length_map, hx2.length]; omega), hl9, purse_ref hp9 hl9, by rw [List.length_map, hx2.length]; omega, fun ys l H6 pm hl nl hp6 S6 => ?_⟩
        obtain ⟨ts, pt, rfl⟩ := perm_refs pm
        obtain ⟨xs, px, hx⟩ := paired_perm pt ((hx2.same S9).purse hp9 S6)
        have hx : SdsAt H6 ts xs := hx
        have ok := ok2.perm px
        have ro : ∀ x ∈ xs, RowOk x := fun x hx => ro2 x (px.mem_iff.mp hx)
        have l8 : xs.length ≤ 8 := by rw [px.length_eq]; exact l82
        have chx : ChdB xs := chd_perm' chd px
        have tb6 := tabsP (tb8.ext S9) hp9 S6
        have F6 := (F8.trans (FrP.ofS S9)).trans (FrP.ofB S6)
        clear hl2 hx2 ok2 ro2 l82 pm nl S6 F8 tb8 px pt hp8 hp9 hl9 S9 chd nm
        -- the table
        refine seq_asg ⟨_, rfl, fun y dx ny nd ne => ?_⟩
        refine mk_plainR hl hx ok ny nd ne fun H7 S7 hy => ⟨rfl, ?_⟩
        have hl7 := S7 _ _ hl
        have hx7 := hx.same S7
        have hp7 := hp6.same S7
        have tb7 := tb6.ext S7
        have F7 := F6.trans (FrP.ofS S7)
        have back7 : ∀ {H' : Hp}, FrP p H7 H' → ExtN H H' := fun Fr => back (F7.trans Fr)
        have nlp : l ≠ p := purse_ref hp7 hl7
        clear hl hx tb6 F6 S7 hp6 F7 back
        dsimp only
        have nlet : ∀ (w : Str), w ∉ L8 → ∀ x ∈ xs, ∀ z, z ∈ x.2.1 ∨ z ∈ x.2.2 → z ≠ w := fun w hw x hx z hz e => hw (by
          rw [← e]
          exact hz.elim ((ro x hx).1 z) ((ro x hx).2.1 z))
        obtain ⟨x0, hx0⟩ : ∃ x0, xs[0]? = some x0 := by
          cases e : xs with
          | nil => exact absurd e ok.ne
          | cons a b => exact ⟨a, rfl⟩
        have mx0 := List.mem_of_getElem? hx0
        refine ⟨by show 4 ≤ sizeLine; decide, fun pt4 H8 S8 n8 h8 => ⟨pt4, rfl, ⟨_, SqT.of h8⟩, for_it (walk_tup (xs := [V.int 3, V.int 10, V.int 100, V.int 1000])) (fun k σ' H' => (∃ u5 u6 u7 u8, σ' = [some (.ref sc), some (.int (0 + (i : Nat))), some (.ref p), some (.ref l), some (.ref y), u5, u6, u7, u8]) ∧ FrP p H8 H' ∧ PurseAt H' p (10000 * (5 - k)) ∧ Tabs T H') ⟨⟨_, _, _, _, rfl⟩, FrP.refl _ _, (hp7.same S8).less (by decide), tb7.ext S8⟩ (fun k σ' H' _ q => SqT.of (q.2.1 _ _ (purse_tup (hp7.same S8) h8) h8 fun _ z => nomatch z)) ?_ ?_⟩⟩
        · rintro k v σ' H9 Ha hk ⟨⟨u5, u6, u7, u8, rfl⟩, F9, hp9, tb9⟩ ⟨rfl, hxk⟩
          have k4 : k < 4 := hk
          obtain ⟨mo, rfl, mo0, mo3⟩ : ∃ mo : Int, v = .int mo ∧ 1 ≤ mo ∧ mo ≤ 1000 := by
            match k, hk, hxk with
            | 0, _, h => exact ⟨3, (Option.some.inj h).symm, by decide, by decide⟩
            | 1, _, h => exact ⟨10, (Option.some.inj h).symm, by decide, by decide⟩
            | 2, _, h => exact ⟨100, (Option.some.inj h).symm, by decide, by decide⟩
            | 3, _, h => exact ⟨1000, (Option.some.inj h).symm, by decide, by decide⟩
          clear hxk
          have F79 : FrP p H7 Ha := (FrP.ofS S8).trans F9
          have hl9 : Ha l = some (.lst (ts.map V.ref)) := F79 _ _ nlp hl7 fun _ z => nomatch z
          have hx9 := hx7.frP hp7 F79
          have hy9 := hy.frP hp7 F79
          -- the sizes
          refine seq_asg fun d nd => ?_
          have ndp : d ≠ p := purse_none hp9 nd
          have Sd : Same Ha (upd Ha d (.dK [])) := Same.upd nd
          refine ⟨_, rfl, upd_same, [(Sum.inr "aa", V.int (-5))], rfl, by decide, ?_⟩
          have e0 : mergeK [] [((Sum.inr "aa" : Key), V.int (-5))] = dI [("aa", -5)] := rfl
          rw [e0]
          have frd : Frsh p Ha d := ⟨ndp, fun o e => by rw [nd] at e; cases e⟩
          have hdB : (upd (upd Ha d (.dK [])) d (.dK (dI [("aa", -5)]))) d = some (.dK (dI [("aa", -5)])) := upd_same
          have FB : FrP p Ha (upd (upd Ha d (.dK [])) d (.dK (dI [("aa", -5)]))) := ((FrP.refl p Ha).upd frd).upd frd
          have hpB : PurseAt (upd (upd Ha d (.dK [])) d (.dK (dI [("aa", -5)]))) p (10000 * (5 - k)) := purse_upd (purse_upd hp9 ndp) ndp
          have tbB : Tabs T (upd (upd Ha d (.dK [])) d (.dK (dI [("aa", -5)]))) := tabs_dct (l := []) (tb9.ext Sd) upd_same
          generalize upd (upd Ha d (.dK [])) d (.dK (dI [("aa", -5)])) = HB at hdB FB hpB tbB ⊢
          clear Sd
          have hlB : HB l = some (.lst (ts.map V.ref)) := FB _ _ nlp hl9 fun _ z => nomatch z
          refine ⟨_, rfl, .inr (.inr (.inl ⟨rfl, .inl ⟨_, hdB⟩⟩)), _, rfl, _, rfl, _, rfl, p, l, ts, xs, mo, 10000 * (5 - k) - 1000, rfl, hpB.less (by omega), hlB, hx9.frP hp9 FB, ro, l8, mo0, mo3, fun vl q1 Hc kv vb vlen hq1 nq1 hpC SC => ?_⟩
          have hdC := SC _ _ ndp hdB
          have ndq : d ≠ q1 := ne_of_none hdB nq1
          refine ⟨d, q1, _, _, rfl, rfl, ndq, hdC, hq1, by rw [len_dI, len_dI, sizeLine_eq]; show 1 + vl.length ≤ _; omega, ?_⟩
          rw [merge_dI]
          have g1 : VG (mergeV [("aa", -5)] vl) xs mo 111 := by
            refine ⟨fun x hx => ?_, by have := mergeV_len vl [("aa", -5)]; show (mergeV _ vl).length ≤ 111; have e : ([("aa", -5)] : Vls).length = 1 := rfl; omega, fun x hx z hz => ?_⟩
            · rcases mergeV_mem vl _ hx with q | q
              · rw [List.mem_singleton.mp q]
                exact ⟨let_aa, by decide +kernel⟩
              · obtain ⟨u, hu, h⟩ := (kv x.1).mp (List.mem_map.mpr ⟨x, q, rfl⟩)
                obtain ⟨b1, b2⟩ := vb x q
                exact ⟨let_L8 _ (h.elim ((ro u hu).1 _) ((ro u hu).2.1 _)), Nat.lt_of_lt_of_le (show x.2.natAbs < 2 ^ 10 by omega) (Nat.pow_le_pow_right (by decide) (by decide))⟩
            · have kz := (kv z).mpr ⟨x, hx, hz⟩
              obtain ⟨u, hu, e⟩ := mergeV_val vl [("aa", -5)] z kz
              rw [e]
              exact ⟨(mergeV_keys vl _ z).mpr (.inr kz), vb u hu⟩
          generalize mergeV [("aa", -5)] vl = V1 at g1 ⊢
          have FD : FrP p Ha (upd Hc d (.dK (dI V1))) := (FB.trans (FrP.ofB SC)).upd frd
          have hpD : PurseAt (upd Hc d (.dK (dI V1))) p (10000 * (5 - k) - 1000) := purse_upd hpC ndp
          have tbD : Tabs T (upd Hc d (.dK (dI V1))) := tabs_dct (tabsP tbB hpB SC) hdC
          have hdD : (upd Hc d (.dK (dI V1))) d = some (.dK (dI V1)) := upd_same
          generalize upd Hc d (.dK (dI V1)) = HD at FD hpD tbD hdD ⊢
          clear FB hpB tbB hlB hdB SC hpC hdC hq1 nq1 ndq kv vb vlen
          dsimp only
          refine ⟨_, rfl, p, 9, 10000 * (5 - k) - 1100, rfl, hpD.less (by omega), by decide, by decide, fun rr HE rr0 rr1 hpE SE => ⟨_, _, rfl, rfl, _, rfl, d, _, rfl, DPut.k (k := Sum.inr "unused") (SE _ _ ndp hdD) (by rw [len_dI, sizeLine_eq]; have := g1.len; omega), ?_⟩⟩
          rw [putK_dI]
          have g2 : VG (setI V1 "unused" (0 - rr)) xs mo 112 := g1.put let_unused (Nat.lt_of_lt_of_le (show (0 - rr).natAbs < 2 ^ 10 by omega) (Nat.pow_le_pow_right (by decide) (by decide))) (nlet _ (by decide))
          generalize setI V1 "unused" (0 - rr) = V2 at g2 ⊢
          have FF : FrP p Ha (upd HE d (.dK (dI V2))) := (FD.trans (FrP.ofB SE)).upd frd
          have hpF : PurseAt (upd HE d (.dK (dI V2))) p (10000 * (5 - k) - 1100) := purse_upd hpE ndp
          have tbF : Tabs T (upd HE d (.dK (dI V2))) := tabs_dct (tabsP tbD hpD SE) (SE _ _ ndp hdD)
          have hdF : (upd HE d (.dK (dI V2))) d = some (.dK (dI V2)) := upd_same
          generalize upd HE d (.dK (dI V2)) = HF at FF hpF tbF hdF ⊢
          clear SE hpE FD hpD tbD hdD g1
          obtain ⟨t0, ht0, ca, cb, w0, w1, w2⟩ := paired_ix (hx9.frP hp9 FF) hx0
          have hlF : HF l = some (.lst (ts.map V.ref)) := FF _ _ nlp hl9 fun _ z => nomatch z
          refine ⟨_, rfl, _, rfl, _, rfl, l, _, 0, _, rfl, rfl, SqL.of hlF, atI_get (i := 0) (by rw [List.getElem?_map, ht0]; rfl), t0, _, 0, _, rfl, rfl, SqT.of w0, rfl, d, _, rfl, DPut.k (k := Sum.inr x0.1) hdF (by rw [len_dI, sizeLine_eq]; have := g2.len; omega), ?_⟩
          rw [putK_dI]
          have g3 : VG (setI V2 x0.1 (-7)) xs mo 113 := g2.put (ok.ok x0 mx0).1 (by decide +kernel) (fun x hx z hz => ok.free x hx x0 mx0 z hz)
          generalize setI V2 x0.1 (-7) = V3 at g3 ⊢
          have FG : FrP p Ha (upd HF d (.dK (dI V3))) := FF.upd frd
          have hpG : PurseAt (upd HF d (.dK (dI V3))) p (10000 * (5 - k) - 1100) := purse_upd hpF ndp
          have tbG : Tabs T (upd HF d (.dK (dI V3))) := tabs_dct tbF hdF
          have hdG : (upd HF d (.dK (dI V3))) d = some (.dK (dI V3)) := upd_same
          generalize upd HF d (.dK (dI V3)) = HG at FG hpG tbG hdG ⊢
          clear FF hpF tbF hdF g2 hlF w0 w1 w2 ht0
          dsimp only
          obtain ⟨vk3, vl3, gs3⟩ := g3.gs (by omega) (by decide)
          refine ⟨_, rfl, _, rfl, _, rfl, _, rfl, p, y, l, d, ts, xs, V3, 10000 * (5 - k) - 1600, rfl, hpG.less (by omega), hy9.frP hp9 FG, FG _ _ nlp hl9 (fun _ z => nomatch z), hx9.frP hp9 FG, ok, ro, l8, chx, hdG, vk3, vl3, gs3, tbG, fun HH FH hpH tbH => ⟨true, rfl, iteF ?_⟩⟩
          dsimp only [tNext]
          have hdH := FH _ _ ndp hdG fun _ z => nomatch z
          have FaH := FG.trans FH
          clear FG hpG tbG hdG FH vk3 vl3 gs3
          -- the letters grow
          have hlH : HH l = some (.lst (ts.map V.ref)) := FaH _ _ nlp hl9 fun _ z => nomatch z
          refine ⟨_, rfl, l, ts, xs, rfl, SqL.of hlH, hx9.frP hp9 FaH, ro, l8, fun us q1 HI und uso ulen ukv hq1 nq1 SI => ?_⟩
          have ndq : d ≠ q1 := ne_of_none hdH nq1
          have nqp : q1 ≠ p := purse_none hpH nq1
          have hdI := SI _ _ hdH
          have FaI := FaH.trans (FrP.ofS SI)
          refine ⟨q1, rfl, ⟨_, SqL.of hq1⟩, for_it (walk_list (xs := us.map V.str)) (fun j σ' H' => (∃ u7, σ' = [some (.ref sc), some (.int (0 + (i : Nat))), some (.ref p), some (.ref l), some (.ref y), some (.int mo), some (.ref d), u7, u8]) ∧ FrP p Ha H' ∧ PurseAt H' p (10000 * (5 - k) - 1600) ∧ Tabs T H' ∧ H' q1 = some (.lst (us.map V.str)) ∧ ∃ vl, H' d = some (.dK (dI vl)) ∧ VG vl xs (mo + (j : Nat)) 113) ⟨⟨_, rfl⟩, FaI, hpH.same SI, tbH.ext SI, hq1, V3, hdI, by rw [show mo + ((0 : Nat) : Int) = mo by omega]; exact g3⟩ (fun j σ' H' _ q => SqL.of q.2.2.2.2.1) ?_ ?_⟩
          · rintro j v σ' HJ HK hj ⟨⟨u7, rfl⟩, FJ, hpJ, tbJ, hqJ, vl, hdJ, gJ⟩ ⟨rfl, hxj⟩
            rw [List.length_map] at hj
            rw [List.getElem?_map] at hxj
            obtain ⟨z, hz, rfl⟩ := Option.map_eq_some_iff.mp hxj
            obtain ⟨xz, hxz, hzz⟩ := (ukv z).mp (List.mem_of_getElem? hz)
            have kz := (gJ.val xz hxz z hzz).1
            refine ⟨_, rfl, _, rfl, d, _, rfl, by rw [← valG kz]; exact DGet.k (k := Sum.inr z) hdJ, _, _, rfl, rfl, _, rfl, _, rfl, d, _, rfl, DPut.k (k := Sum.inr z) hdJ (by rw [len_dI, sizeLine_eq]; have := gJ.len; omega), ?_⟩
            rw [putK_dI]
            refine ⟨⟨_, rfl⟩, FJ.upd frd, purse_upd hpJ ndp, tabs_dct tbJ hdJ, by rw [upd_ne (Ne.symm ndq)]; exact hqJ, _, upd_same, ?_⟩
            have := gJ.up hxz hzz (by have : mo + (j : Nat) < 2 ^ 20 := by omega
                                      have b : (2 : Int) ^ 20 < 2 ^ 300 := by decide
                                      omega)
            rw [show mo + ((j + 1 : Nat) : Int) = mo + (j : Nat) + 1 by omega]
            exact this
          · rintro σ' HJ ⟨⟨u7, rfl⟩, FJ, hpJ, tbJ, hqJ, vl, hdJ, gJ⟩
            rw [List.length_map] at gJ
            obtain ⟨vk4, vl4, gs4⟩ := gJ.gs (by omega) (by decide)
            refine ⟨_, rfl, _, rfl, _, rfl, _, rfl, p, y, l, d, ts, xs, vl, 10000 * (5 - (k + 1)), rfl, hpJ.less (by omega), hy9.frP hp9 FJ, FJ _ _ nlp hl9 (fun _ z => nomatch z), hx9.frP hp9 FJ, ok, ro, l8, chx, hdJ, vk4, vl4, gs4, tbJ, fun HL FL hpL tbL => ⟨true, rfl, iteF ⟨⟨_, _, _, _, rfl⟩, F9.trans (FJ.trans FL), hpL, tbL⟩⟩⟩
        · rintro σ' H9 ⟨⟨u5, u6, u7, u8, rfl⟩, F9, hp9, tb9⟩
          exact ⟨⟨_, _, _, _, _, _, _, _, rfl⟩, back7 ((FrP.ofS S8).trans F9), tb9⟩
      · exact ⟨⟨_, _, _, _, _, _, _, _, rfl⟩, back (F8.trans (FrP.ofS S9)), tb8.ext S9⟩
    · rintro σ' H2 ⟨⟨u1, u2, u3, u4, u5, u6, u7, u8, rfl⟩, X2, tb2⟩
      dsimp only
      have one : (1 : Nat) ≤ sizeLine := by decide
      have zer : (0 : Nat) ≤ sizeLine := by decide
      have thr : (3 : Nat) ≤ sizeLine := by decide
      have two : (2 : Nat) ≤ sizeLine := by decide
      refine seq_asg ⟨one, fun a1 J1 S1 n1 h1 => ⟨one, fun a2 J2 S2 n2 h2 => ⟨thr, fun t1 J3 S3 n3 h3 => ⟨one, fun b1 J4 S4 n4 h4 => ⟨zer, fun b2 J5 S5 n5 h5 => ⟨thr, fun t2 J6 S6 n6 h6 => ⟨two, fun l J7 S7 n7 h7 => ?_⟩⟩⟩⟩⟩⟩⟩
      have S57 := S6.trans S7
      have S47 := S5.trans S57
      have S37 := S4.trans S47
      have S27 := S3.trans S37
      have S17 := S2.trans S27
      have S07 := S1.trans S17
      have hx : SdsAt J7 [t1, t2] fxG := SdsAt2 (x := ("r", ["m"], ["n"])) (y := ("c", ["n"], [])) (S37 _ _ h3) (S17 _ _ h1) (S27 _ _ h2) (S7 _ _ h6) (S47 _ _ h4) (S57 _ _ h5)
      have tb7 := tb2.ext S07
      refine fun y dx ny nd ne => ?_
      refine mk_plainR (ts := [t1, t2]) h7 hx fxG_ok ny nd ne fun J8 S8 hy => ⟨rfl, ?_⟩
      have tb8 := tb7.ext S8
      have X8 : ExtN H J8 := X2.trans (ExtN.of (S07.trans S8))
      have okn := fxG_ok.norm
      have chn := chn_of fxG_ok fxG_chd
      have inl : ∀ z ∈ sizesOf (fxG.map norm), z ∈ vlG.map (·.1) ∧ 1 ≤ gOf vlG z := fun z hz => by
        obtain ⟨u, hu, h⟩ := mem_sizesOf.mp hz
        obtain ⟨x, hx1, rfl⟩ := List.mem_map.mp hu
        obtain ⟨a, b, _⟩ := fxG_gs x hx1 z (h.imp (fun q => (sortT_perm _).mem_iff.mp q) fun q => (sortT_perm _).mem_iff.mp q)
        exact ⟨a, b⟩
      have v1 : ∀ z ∈ sizesOf (fxG.map norm), ∀ n, getI vlG z = some n → 1 ≤ n := fun z hz n e => by
        have := (inl z hz).2
        unfold gOf at this
        rw [e] at this
        exact this
      clear h1 h2 h3 h4 h5 h6 h7 S17 S27 S37 S47 S57 S07 hx S1 S2 S3 S4 S5 S6 S7 S8
      dsimp only
      refine ⟨7, rfl, by decide, by decide, fun D nD => ?_⟩
      refine lc_it (walk_range (n := 7)) (fun i H' => ExtN J8 H' ∧ Tabs T H' ∧ ∃ vs, H' D = some (.lst vs) ∧ RsAt H' D vs ((List.range i).map resK)) ⟨ExtN.of (Same.upd nD), tb8.ext (Same.upd nD), [], upd_same, .nil⟩ (fun _ _ _ _ => trivial) ?_ ?_
      · rintro i x H5 H6 hi ⟨X5, tb5, vs, hD, hrs⟩ ⟨rfl, rfl⟩
        have fold : ∀ (v : V) (Hn : Hp), ExtN H6 Hn → Tabs T Hn → (match resK i with | none => v = .non | some l => ∃ p, v = .ref p ∧ NewT H6 p ∧ Hn p = some (.lst (l.map V.int))) →
            Hn D = some (.lst vs) ∧ vs.length < sizeLine ∧ ExtN J8 (upd Hn D (.lst (vs ++ [v]))) ∧ Tabs T (upd Hn D (.lst (vs ++ [v]))) ∧ ∃ vs', (upd Hn D (.lst (vs ++ [v]))) D = some (.lst vs') ∧ RsAt (upd Hn D (.lst (vs ++ [v]))) D vs' ((List.range (i + 1)).map resK) := fun v Hn Xn tbn hv => by
          have hDn := Xn _ _ hD fun _ z => nomatch z
          have lv : vs.length = i := by
            have := Paired.length hrs
            rw [List.length_map, List.length_range] at this
            exact this
          refine ⟨hDn, by rw [lv, sizeLine_eq]; omega, fun c o e nt => ?_, tabs_lst tbn hDn, vs ++ [v], upd_same, ?_⟩
          · rw [upd_ne (ne_of_none e nD)]
            exact Xn _ _ (X5 _ _ e nt) nt
          · rw [List.range_succ, List.map_append]
            refine paired_snoc (RsAt.imp hrs fun p xs np hp => by rw [upd_ne np]; exact Xn _ _ hp fun _ z => nomatch z) ?_
            cases er : resK i with
            | none =>
              rw [er] at hv
              exact hv
            | some l =>
              rw [er] at hv
              obtain ⟨p, e, np, hp⟩ := hv
              have npD : p ≠ D := fun z => by
                obtain ⟨ps, e⟩ := np _ (by rw [z]; exact hD)
                cases e
              exact ⟨p, e, npD, by rw [upd_ne npD]; exact hp⟩
        refine ⟨rfl, iteT (B := False) ⟨_, rfl, fun q nq => ⟨upd_same, [(Sum.inr "m", V.int 2), (Sum.inr "n", V.int 3)], rfl, by decide, ?_⟩⟩⟩
        have e0 : mergeK [] [((Sum.inr "m" : Key), V.int 2), (Sum.inr "n", V.int 3)] = dI vlG := rfl
        rw [e0]
        have SQ : Same H6 (upd (upd H6 q (.dK [])) q (.dK (dI vlG))) := fun c o e => by
          rw [upd_ne (ne_of_none e nq), upd_ne (ne_of_none e nq)]
          exact e
        have hq : (upd (upd H6 q (.dK [])) q (.dK (dI vlG))) q = some (.dK (dI vlG)) := upd_same
        generalize upd (upd H6 q (.dK [])) q (.dK (dI vlG)) = H7 at SQ hq ⊢
        have ec := cellG i hi
        have X67 : ExtN H6 H7 := ExtN.of SQ
        refine ⟨_, rfl, y, q, fxG.map norm, vlG, 0 + (i : Nat), rfl, (hy.ext X5).ext X67, okn, tb5.ext SQ, chn, hq, vlG_ok, v1, fun z hz => (inl z hz).1, by omega, Int.lt_trans (show (0 : Int) + (i : Nat) < 2 ^ 10 by omega) (by decide +kernel), fun l2 e2 Hn p Xn tbn np hp => ?_, fun e2 Hn Xn tbn => ?_⟩
        · rw [Int.zero_add, ec] at e2
          exact fold (.ref p) Hn (X67.trans Xn) tbn (by rw [e2]; exact ⟨p, rfl, fun o e => np o (SQ _ _ e), hp⟩) |> fun z => ⟨_, z⟩
        · rw [Int.zero_add, ec] at e2
          exact fold .non Hn (X67.trans Xn) tbn (by rw [e2]) |> fun z => ⟨_, z⟩
      · rintro H5 ⟨X5, tb5, vs, hD, hrs⟩
        have lv : vs.length = 7 := Paired.length hrs
        refine ⟨two, fun c1 J1 S1 n1 h1 => ⟨two, fun c2 J2 S2 n2 h2 => ⟨two, fun c3 J3 S3 n3 h3 => ⟨two, fun c4 J4 S4 n4 h4 => ⟨two, fun c5 J5 S5 n5 h5 => ⟨two, fun c6 J6 S6 n6 h6 => ⟨by show 7 ≤ sizeLine; decide, fun l J7 S7 n7 h7 => ?_⟩⟩⟩⟩⟩⟩⟩
        have T6 := S7
        have T5 := S6.trans T6
        have T4 := S5.trans T5
        have T3 := S4.trans T4
        have T2 := S3.trans T3
        have T1 := S2.trans T2
        have T0 := S1.trans T1
        have hrs7 : RsAt J7 D vs ((List.range 7).map resK) := RsAt.imp hrs fun p xs _ e => T0 _ _ e
        refine ⟨.list (((List.range 7).map resK).map rsD), .list (((List.range 7).map resK).map rsD), .lst (SqL.of (T0 _ _ hD)) hrs7.dp, .lst (SqL.of h7) ?_, by decide +kernel, by decide +kernel, ?_⟩
        · exact .cons (.lst (SqL.of (T1 _ _ h1)) (dp_ints [0, 0])) (.cons (.lst (SqL.of (T2 _ _ h2)) (dp_ints [0, 1])) (.cons (.lst (SqL.of (T3 _ _ h3)) (dp_ints [0, 2])) (.cons (.lst (SqL.of (T4 _ _ h4)) (dp_ints [1, 0])) (.cons (.lst (SqL.of (T5 _ _ h5)) (dp_ints [1, 1])) (.cons (.lst (SqL.of (T6 _ _ h6)) (dp_ints [1, 2])) (.cons .non .nil))))))
        · have e : PyData.eqv (.list (((List.range 7).map resK).map rsD)) (.list (((List.range 7).map resK).map rsD)) = true := by decide +kernel
          rw [e]
          exact q J7
end
end E4

set_option Elab.async false
set_option linter.all false
set_option maxRecDepth 100000
set_option maxHeartbeats 1000000
/-! A head by facts: one Bool of the law's own, and the defs. -/
namespace Hb
open PySem PySem.Spec PyProof.Rows L2 He
abbrev AlB : Type := Bool × List FnV
def obsB (ex : PySem.W.Frag → Bool) (fn : List FnD) (K : PySem.W.Frag) : AlB := (ex K && fn.all fun d => (Fa.code d.at_ d.qual).ok K && PySem.W.keepIn K (.ref (fAd K d.at_)), fn.map fun d => fnObs K d.at_)
def valB (fn : List FnD) : AlB := (true, fn.map FnD.val)
def SaysB (ex : PySem.W.Frag → Bool) (fn : List FnD) (K : PySem.W.Frag) : Prop := obsB ex fn K = valB fn
section
variable {ex : PySem.W.Frag → Bool} {fn : List FnD} {K : PySem.W.Frag}
theorem SaysB.bool (c : SaysB ex fn K) : ex K = true := (ba (show (ex K && fn.all fun d => (Fa.code d.at_ d.qual).ok K && PySem.W.keepIn K (.ref (fAd K d.at_))) = true from congrArg (fun z : AlB => z.1) c)).1
end
theorem bindsA {K : PySem.W.Frag} {x qual : Str} {st : Stmt} {f : Addr} {fd : FuncData} {ps : List Str} (F : L2.Fun K x qual st f fd)
    (h : ∀ (kV doc pm : Value) (an : Option Addr) (cdv ct : Value) (us : List Value), us.length = ps.length → bindArgs (PySem.W.fnOf x qual (defArgs st) (defBody st) (defScope st) .none kV doc pm an cdv ct) ⟨us, []⟩ = pure (ps.zip us)) (s : Shared) (us : List Value) (hl : us.length = ps.length) : BindsTo s fd ⟨us, []⟩ (ps.zip us) := by
  obtain ⟨oc, od, kV, doc, pm, an, cdv, ct, osl, rfl, lk, hcd⟩ := F.ex
  exact .of_eq (h kV doc pm an cdv ct us hl)
/-! own operators, isinstance, as Bools -/
section
variable {K : PySem.W.Frag} {C : Addr}
def insB (K : PySem.W.Frag) (C : Addr) : Bool := eqO (PySem.W.findIn K (.ref C) "__class__") (some (some (.builtin "object.__class__"))) && (eqO (PySem.W.specialIn K (.builtin "object.__class__") "__get__") (some (some (.builtin "getset_descriptor.__get__"))) &&
  (decide (PySem.W.takesIn K (.builtin "object.__class__") = some true) && (decide (PySem.W.mroIn K C (.type "object") = some true) && decide (PySem.W.kitOne K (.ref C) (.ref C) = some true))))
theorem insB_ok (c : Cls K C) (h : insB K C = true) : C8.InsC K C := by
  obtain ⟨h1, h⟩ := ba h
  obtain ⟨h2, h⟩ := ba h
  obtain ⟨h3, h⟩ := ba h
  obtain ⟨h4, h5⟩ := ba h
  exact ⟨c, eqO_ok h1, eqO_ok h2, of_decide_eq_true h3, of_decide_eq_true h4, of_decide_eq_true h5⟩
theorem bool_ok {l : List Bool} (h : (l.all id) = true) (i : Nat) {b : Bool} (hi : l[i]? = some b := by rfl) : b = true := List.all_eq_true.mp h b (List.mem_of_getElem? hi)
end
end Hb

set_option Elab.async false
set_option linter.all false
set_option maxRecDepth 100000
set_option maxHeartbeats 1000000
/-! the end of a row whose law calls repr and whose program makes functions: tables of code objects beside the script -/
namespace L2
open PySem PySem.Spec PyProof.Rows
open LamX (TabB)
section
variable {P : Program} {w : World} {K : PySem.W.Frag} {mg mb : Str → Option Value} {k : Nat} {fa a : Addr} {cs : List (Addr × Addr)} {fd : FuncData} {x : Str} {sp : Sp} {s₁ : Shared} {vs : List Value} {ns : List Int}
theorem call_lawGT (KX : K.In s₁.heap) (hns : s₁.heap.Ns mainGlobals mg) (hb : s₁.heap.Ns builtinsNs mb) (hbb : ∀ x : Str, x ≠ "__name__" → mb x = bootBuiltins x) (hlim : s₁.heap.NoLimit) (hg : s₁.gens = #[])
    (tabs : ∀ p ∈ cs, s₁.heap.get? p.2 = some { cls := .none, data := .fields #[] }) (free : ∀ p ∈ cs, K.lookup p.2 = none) (heads : ∀ p ∈ cs, PySem.W.CodeHd s₁.heap p.1 p.2)
    (bmod : ∃ (bm : Addr) (ob : Obj), mg "__builtins__" = some (.ref bm) ∧ bm ≠ builtinsNs ∧ s₁.heap.get? bm = some ob ∧ ob.cls = .type "module" ∧ ob.dict = some builtinsNs ∧ ob.data = .plain)
    (ha : s₁.heap.get? a = some { cls := .type "list", data := .seq vs.toArray }) (hi : IntsAre vs ns) (hl : ns.length ≤ sizeLine) (hr : Room k callerA)
    (F : ∀ base : Heap, K.In base → base.Ns mainGlobals mg → (∀ p ∈ cs, TabB base mg p.1 p.2) → FnG P w K mg base k fa fd [x] sp) (hbind : ∀ (s : Shared) (u : Value), BindsTo s fd ⟨[u], []⟩ [(x, u)])
    (hsp : ∀ H : Hp, (∀ p ∈ cs, H p.2 = some (.tbl #[])) → SqL K H a (ns.map V.int) → sp [.ref a] H (fun v _ => v = .bl true) fun _ _ _ => False) :
    codeAny (model P w) callerA (.call (.ref fa) ⟨[.ref a], []⟩) (fun r s' => r = .ok (.ret (.bool true)) ∧ OldK s₁.heap s'.heap ∧ s'.os = s₁.os ∧ AllBare s'.gens) s₁ := by
  have rv := vals_ints hi
  have notA : ∀ p ∈ cs, p.2 ≠ a := fun p hp e => by
    have h := tabs p hp
    rw [e, ha] at h
    exact nomatch congrArg Obj.data (Option.some.inj h)
  -- whatever is tracked: the script, or a table
  have go : ∀ H : Hp, SqL K H a (ns.map V.int) → HOk P w H s₁.heap → (∀ p ∈ cs, H p.2 = some (.tbl #[])) → (∀ b u, H b = some u → (b = a ∧ K.lookup a = none ∧ ∃ o ys, u = .frz o (.lst ys)) ∨ ∃ p ∈ cs, p.2 = b) →
      codeAny (model P w) callerA (.call (.ref fa) ⟨[.ref a], []⟩) (fun r s' => r = .ok (.ret (.bool true)) ∧ OldK s₁.heap s'.heap ∧ s'.os = s₁.os ∧ AllBare s'.gens) s₁ := by
    intro H hS hok hH only
    have unseen : ∀ (b : Addr) (o : Obj), s₁.heap.get? b = some o → o.data ≠ .fields #[] → (∀ ys n, o.data ≠ .seq ys n) → H b = none := fun b o e nf nq => by
      rcases q : H b with _ | u
      · rfl
      · rcases only b u q with ⟨rfl, _⟩ | ⟨p, hp, rfl⟩
        · rw [ha] at e
          exact absurd (congrArg Obj.data (Option.some.inj e)).symm (nq _ _)
        · rw [tabs p hp] at e
          exact absurd (congrArg Obj.data (Option.some.inj e)).symm nf
    have shown : ∀ {b : Addr} {o : Obj}, s₁.heap.get? b = some o → o.data ≠ .fields #[] → (∀ ys n, o.data ≠ .seq ys n) → (hidT s₁.heap H).get? b = some o := fun e nf nq => hidT_get e (unseen _ _ e nf nq)
    have names : ∀ {b : Addr} {m : Str → Option Value}, s₁.heap.Ns b m → (hidT s₁.heap H).Ns b m := fun {b m} hn => by
      obtain ⟨o, es, ep, e, dd, r⟩ := hn
      exact ⟨o, es, ep, shown e (by rw [dd]; intro z; cases z) (by rw [dd]; intro ys n z; cases z), dd, r⟩
    have inK : K.In (hidT s₁.heap H) := fun b o e => hidT_get (KX b o e) (by
      rcases q : H b with _ | u
      · rfl
      · rcases only b u q with ⟨rfl, n, _⟩ | ⟨p, hp, rfl⟩
        · rw [n] at e; cases e
        · rw [free p hp] at e; cases e)
    obtain ⟨mc, c1, c2⟩ := hlim
    have env : Env0 P w K mg (hidT s₁.heap H) callerA [] s₁ H :=
      ⟨rfl, ⟨inK, names hns, ⟨mb, names hb, hbb⟩, ⟨mc, names c1, c2⟩⟩, fun b o e => of_hidT e, Nat.le_of_eq (hidT_size _ _), trivial, fun b z => (List.not_mem_nil z).elim, hok, .of_eq hg⟩
    have known : ∀ p ∈ cs, TabB (hidT s₁.heap H) mg p.1 p.2 := fun p hp => by
      obtain ⟨oc, ys, f1, f2, f3, f4, f5, f6, f7, e1, e2, e3, e4, rest⟩ := heads p hp
      have full : ys ≠ #[] := by
        rintro rfl
        simp at e4
      obtain ⟨bm, ob, m1, m2, m3, m4, m5, m6⟩ := bmod
      obtain ⟨og, es, ep, g1, g2, _⟩ := hns
      refine ⟨⟨oc, ys, f1, f2, f3, f4, f5, f6, f7, shown e1 (by rw [e3]; intro z; exact full (Data.fields.inj z)) (by rw [e3]; intro a b z; cases z), e2, e3, e4, rest⟩, ⟨bm, ob, m1, m2, ?_, ?_, shown m3 (by rw [m6]; intro z; cases z) (by rw [m6]; intro a b z; cases z), m4, m5, m6⟩, ?_⟩
      · rintro rfl
        rw [g1] at m3
        rw [Option.some.inj m3, m6] at g2
        cases g2
      · rintro rfl
        rw [tabs p hp] at m3
        exact nomatch (congrArg Obj.data (Option.some.inj m3)).trans m6
      · rintro e
        rw [e, tabs p hp] at g1
        exact nomatch (congrArg Obj.data (Option.some.inj g1)).trans g2
    refine codeAny_mono ((F _ inK (names hns) known).go callerA [] s₁ H ⟨[.ref a], []⟩ [.ref a] [.ref a] _ _ rfl hr env (hbind s₁ (.ref a)) (.cons rfl .nil) (hsp H hH hS)) fun r s' h => ?_
    match r, h with
    | .ok (.ret u), ⟨v, H', os, bare, un, hok', r', q⟩ =>
      obtain rfl : v = .bl true := q
      obtain rfl : u = Value.bool true := r'
      -- a table has grown, all else is as it was
      have still : ∀ b o, s₁.heap.get? b = some o → (¬ ∃ p ∈ cs, p.2 = b) → s'.heap.get? b = some o := fun b o e nt => by
        rcases z : H b with _ | u
        · exact un.keep b o e z (fun y => List.not_mem_nil y) (fun y => List.not_mem_nil y)
        · rcases only b u z with ⟨_, _, ob, ys, rfl⟩ | t
          · have e1 := (hok b _ z).1
            rw [e] at e1
            obtain rfl := Option.some.inj e1
            exact (hok' b _ (un.frzs b o _ z)).1
          · exact absurd t nt
      have more : ∀ p ∈ cs, ∃ ys : Array Value, s'.heap.get? p.2 = some { cls := .none, data := .fields ys } := fun p hp => by
        obtain ⟨ys, z⟩ := un.tbls p.2 #[] (hH p hp)
        exact ⟨_, hok' p.2 _ z⟩
      refine ⟨rfl, ⟨fun b o e => ?_, fun b o e => ?_⟩, os, bare⟩
      · by_cases t : ∃ p ∈ cs, p.2 = b
        · obtain ⟨p, hp, rfl⟩ := t
          obtain ⟨ys, hy⟩ := more p hp
          rw [tabs p hp] at e
          obtain rfl := Option.some.inj e
          exact .inr (.inl ⟨((heads p hp).tab (tabs p hp)).isCodeTable, rfl, #[], ys, rfl, by rw [Array.empty_append]; exact hy⟩)
        · exact .inl (still b o e t)
      · by_cases t : ∃ p ∈ cs, p.2 = b
        · obtain ⟨p, hp, rfl⟩ := t
          obtain ⟨ys, hy⟩ := more p hp
          exact ⟨_, hy⟩
        · exact ⟨o, still b o e t⟩
  have dec : ∀ b : Addr, (∃ p ∈ cs, p.2 = b) ∨ ¬ ∃ p ∈ cs, p.2 = b := fun b => Classical.em _
  haveI : ∀ b : Addr, Decidable (∃ p ∈ cs, p.2 = b) := fun b => Classical.propDecidable _
  have notT : ¬ ∃ p ∈ cs, p.2 = a := fun ⟨p, hp, e⟩ => notA p hp e
  rcases hk : K.lookup a with _ | o
  · refine go (fun b => if b = a then some (.frz { cls := .type "list", data := .seq vs.toArray } (.lst (ns.map V.int))) else if ∃ p ∈ cs, p.2 = b then some (.tbl #[]) else none) (.inl (.inr ⟨_, if_pos rfl⟩)) (fun b u z => ?_) (fun p hp => ?_) fun b u z => ?_
    · by_cases n : b = a
      · subst n
        obtain rfl := Option.some.inj ((if_pos rfl).symm.trans z)
        exact ⟨ha, by rw [List.length_map]; exact hl, vs, _, rv, ha⟩
      · have z := (if_neg n).symm.trans z
        by_cases t : ∃ p ∈ cs, p.2 = b
        · obtain rfl := Option.some.inj ((if_pos t).symm.trans z)
          obtain ⟨p, hp, rfl⟩ := t
          exact tabs p hp
        · exact nomatch (if_neg t).symm.trans z
    · show (if p.2 = a then _ else _) = _
      rw [if_neg (notA p hp), if_pos ⟨p, hp, rfl⟩]
    · by_cases n : b = a
      · subst n
        obtain rfl := Option.some.inj ((if_pos rfl).symm.trans z)
        exact .inl ⟨rfl, hk, _, _, rfl⟩
      · have z := (if_neg n).symm.trans z
        by_cases t : ∃ p ∈ cs, p.2 = b
        · exact .inr t
        · exact nomatch (if_neg t).symm.trans z
  · have e := KX a o hk
    rw [ha] at e
    obtain rfl := Option.some.inj e
    refine go (fun b => if ∃ p ∈ cs, p.2 = b then some (.tbl #[]) else none) (.inr ⟨_, vs.toArray, _, hk, rfl, rfl, rfl, by rw [List.size_toArray, hi.length]; exact hl, by simpa using rv⟩) (fun b u z => ?_) (fun p hp => if_pos ⟨p, hp, rfl⟩) fun b u z => ?_
    · by_cases t : ∃ p ∈ cs, p.2 = b
      · obtain rfl := Option.some.inj ((if_pos t).symm.trans z)
        obtain ⟨p, hp, rfl⟩ := t
        exact tabs p hp
      · exact nomatch (if_neg t).symm.trans z
    · by_cases t : ∃ p ∈ cs, p.2 = b
      · exact .inr t
      · exact nomatch (if_neg t).symm.trans z
end
/-- the goal that the head leaves -/
theorem walk_ofTsG {l : PySem.W.OpenLaw} {n k : Nat} {q : Program} {loose : List Str} {XP : (Str → Option Value) → Heap → Prop} {YP : World → Heap → Prop} {d : DefRec} {x : Str}
    (hn : l.most = some n) (hn2 : n ≤ sizeLine) (hdf : d.params.defaults = []) (hr : Room k callerA)
    (F : ∀ (w : World) (mg : Str → Option Value) (fa : Addr) (h : Heap), YP w h → h.Ns mainGlobals mg → mg d.name = some (.ref fa) →
      ∃ (K : PySem.W.Frag) (fd : FuncData) (cs : List (Addr × Addr)) (sp : Sp), K.In h ∧ (∀ p ∈ cs, h.get? p.2 = some { cls := .none, data := .fields #[] }) ∧ (∀ p ∈ cs, K.lookup p.2 = none) ∧ (∀ p ∈ cs, PySem.W.CodeHd h p.1 p.2) ∧ (∀ (s : Shared) (u : Value), BindsTo s fd ⟨[u], []⟩ [(x, u)]) ∧
        (∀ (H : Hp) (a : Addr) (ns : List Int), ns.length ≤ n → (∀ p ∈ cs, H p.2 = some (.tbl #[])) → SqL K H a (ns.map V.int) → sp [.ref a] H (fun v _ => v = .bl true) fun _ _ _ => False) ∧
        ∀ base : Heap, K.In base → base.Ns mainGlobals mg → (∀ p ∈ cs, TabB base mg p.1 p.2) → FnG l.prog w K mg base k fa fd [x] sp) :
    PySem.W.WalkO q loose XP YP l.row.toRowW d [] (fun f vs => PySem.call f vs) := by
  refine Att.attach_callB hn hdf fun w s₀ s₁ mg mb fa o pm cd doc a vs ns G Y ho hd hcd hmg hobj hints hlen hbits hg => ?_
  obtain ⟨K, fd, cs, sp, X, t1, t2, t3, b, s, O⟩ := F w mg fa _ Y G.T.g hmg
  exact call_lawGT X G.T.g G.T.b G.T.builtins G.T.nolimit hg t1 t2 t3 G.T.bmain hobj hints (Nat.le_trans hlen hn2) hr O b fun H hH hS => s H a ns hlen hH hS
end L2

set_option Elab.async false
set_option linter.all false
set_option maxRecDepth 100000
set_option maxHeartbeats 1000000
/-! what the top left: each def with its promise -/
namespace E4
open PySem PySem.Spec PyProof.Rows L2 He Hb
open C8 (Cal Mak Met InsC)
open LamX (Tabs ExtN TabB CodeO TabS)
/-- a def of the text, by its statement -/
def dX (at_ : Str × Option Str) (name qual : Str) (st : Stmt) : DefD := { at_ := at_, name := name, qual := qual, params := defArgs st, body := defBody st, scope := defScope st, dfl := [] }
theorem plainD {K : PySem.W.Frag} {x qual : Str} {st : Stmt} {f : Addr} {fd : FuncData} (F : FunD K x qual (defArgs st) (defBody st) (defScope st) [] [] f fd) : L2.Fun K x qual st f fd := by
  obtain ⟨oc, od, dV, kV, doc, pm, an, cdv, ct, osl, rfl, lk, hcd, hD, hK⟩ := F.ex
  rcases hD with ⟨_, rfl⟩ | ⟨e, _⟩
  · exact ⟨⟨oc, od, kV, doc, pm, an, cdv, ct, osl, rfl, lk, hcd⟩, F.kp⟩
  · exact absurd rfl e
theorem funX {fa : List Fa} {fn : List DefD} {K : PySem.W.Frag} (c : SaysD fa fn K) (i : Nat) {at_ : Str × Option Str} {name qual : Str} {st : Stmt} (h : fn[i]? = some (dX at_ name qual st) := by rfl) : ∃ fd, L2.Fun K name qual st (fAd K at_) fd :=
  let ⟨fd, F⟩ := c.def_ i h
  ⟨fd, plainD F⟩
def neB (K : PySem.W.Frag) (C : Addr) : Bool := eqO (PySem.W.findIn K (.ref C) "__ne__") (some (some (.builtin "object.__ne__"))) && (eqO (PySem.W.findIn K (.ref C) "__eq__") (some (some (.ref (ma K C "__eq__")))) && (PySem.W.isFn K (.ref (ma K C "__eq__")) && decide (PySem.W.subIn K (.ref C) (.type "object") = some true)))
theorem neB_ok {K : PySem.W.Frag} {C : Addr} (h : neB K C = true) : PySem.W.NoNe K C (ma K C "__eq__") := by
  obtain ⟨h1, h⟩ := ba h
  obtain ⟨h2, h⟩ := ba h
  obtain ⟨h3, h4⟩ := ba h
  exact ⟨eqO_ok h1, eqO_ok h2, h3, of_decide_eq_true h4⟩
def fnR : List DefD := [dX ("is_whole", none) "is_whole" "is_whole" sIsWhole,
  dX ("is_count", none) "is_count" "is_count" sIsCount,
  dX ("is_letter", none) "is_letter" "is_letter" sIsLetter,
  dX ("is_values", none) "is_values" "is_values" sIsValues,
  dX ("check_values", none) "check_values" "check_values" sCheckValues,
  dX ("product_at", none) "product_at" "product_at" sProductAt,
  dX ("own_order", none) "own_order" "own_order" sOwnOrder,
  dX ("cell_of", none) "cell_of" "cell_of" sCellOf,
  dX ("check_table", none) "check_table" "check_table" sCheckTable,
  dX ("check_own_places", none) "check_own_places" "check_own_places" sCheckOwn,
  dX ("is_sides", none) "is_sides" "is_sides" sIsSides,
  dX ("is_side", none) "is_side" "is_side" sIsSide,
  dX ("is_product", none) "is_product" "is_product" sIsProduct,
  dX ("names_of", none) "names_of" "names_of" sNamesOf,
  dX ("ordered", none) "ordered" "ordered" sOrdered,
  dX ("misfit", none) "misfit" "misfit" sMisfit,
  dX ("left_of", none) "left_of" "left_of" sLeftOf,
  dX ("_law_purse", none) "_law_purse" "_law_purse" E3.sPurse,
  dX ("_law_mixed", none) "_law_mixed" "_law_mixed" E3.sMixed,
  dX ("_law_draw", none) "_law_draw" "_law_draw" E3.sDraw,
  dX ("_law_one_of", none) "_law_one_of" "_law_one_of" sOneOf,
  dX ("_law_shuffled", none) "_law_shuffled" "_law_shuffled" sShuffled,
  dX ("_law_letters", none) "_law_letters" "_law_letters" sLetters,
  dX ("_law_names", none) "_law_names" "_law_names" sNamesL,
  dX ("_law_chain", none) "_law_chain" "_law_chain" sChain,
  dX ("_law_times", none) "_law_times" "_law_times" sTimes,
  dX ("_law_used", none) "_law_used" "_law_used" sUsed,
  dX ("_law_sizes", none) "_law_sizes" "_law_sizes" sSizesL,
  dX ("_law_spot", none) "_law_spot" "_law_spot" sSpot,
  dX ("_law_fits", none) "_law_fits" "_law_fits" sFits,
  dX ("_law_chained", none) "_law_chained" "_law_chained" sChained,
  dX ("_law_cell", none) "_law_cell" "_law_cell" sCellW,
  dX ("_law_right", none) "_law_right" "_law_right" sRightC,
  dX ("law", none) "law" "law" sLaw,
  dX ("Plain", some "__init__") "__init__" "Plain.__init__" sInit,
  dX ("Plain", some "__eq__") "__eq__" "Plain.__eq__" sEq,
  dX ("Plain", some "sides") "sides" "Plain.sides" sSides,
  dX ("Plain", some "sizes") "sizes" "Plain.sizes" sSizes]
def faR : List Fa := [.glo "is_whole", .glo "is_count", .glo "is_letter", .glo "is_values", .glo "check_values", .glo "product_at", .glo "own_order", .glo "cell_of", .glo "check_table", .glo "check_own_places", .glo "is_sides", .glo "is_side", .glo "is_product", .glo "names_of", .glo "ordered", .glo "misfit", .glo "left_of", .glo "_law_purse", .glo "_law_mixed", .glo "_law_draw", .glo "_law_one_of", .glo "_law_shuffled", .glo "_law_letters", .glo "_law_names", .glo "_law_chain", .glo "_law_times", .glo "_law_used", .glo "_law_sizes", .glo "_law_spot", .glo "_law_fits", .glo "_law_chained", .glo "_law_cell", .glo "_law_right", .glo "law", .glo "Plain", .free "isinstance", .free "int", .free "bool", .free "str", .free "len", .free "all", .free "any", .free "list", .free "tuple", .free "dict", .free "set", .free "sorted", .free "zip", .free "reversed", .free "divmod", .free "enumerate", .free "sum", .free "max", .free "min", .free "range", .free "repr", .cls "Plain", .noat "Plain" "_sides", .mkr "Plain", .meth "Plain" "sides", .meth "Plain" "sizes"]
def bsR (K : PySem.W.Frag) : List Bool := [insB K (ga K "Plain"), neB K (ga K "Plain"), decide ((cT K (("ordered", none) : Defn)).2 ≠ (cT K (("_law_cell", none) : Defn)).2)]
def exR (K : PySem.W.Frag) : Bool := (bsR K).all id
def tsR : List Tab := []
def pT0 : Defn := ("ordered", none)
def qT0 : Str := "ordered.<locals>.<lambda>"
def pT1 : Defn := ("_law_cell", none)
def qT1 : Str := "_law_cell.<locals>.<lambda>"
section
variable {P : Program} {w : World} {K : PySem.W.Frag} {mg : Str → Option Value} {base : Heap}
theorem cal_of {x : Str} {f : Addr} {fd : FuncData} {ps : List Str} {k : Nat} {sp : Sp} (kp : PySem.W.keepIn K (.ref f) = true) (g : mg x = some (.ref f)) (b : Binds K fd ps []) (O : FnOk P w K mg base CX0 k f fd ps sp) : Cal P w K mg base k x sp [] := ⟨f, fd, ps, [], O, g, kp, b, .nil⟩
end
theorem code_of {K : PySem.W.Frag} {x qual : Str} {st : Stmt} {p : Defn} {fd : FuncData} (F : L2.Fun K x qual st (fAd K p) fd) : fd.code = .ref (cT K p).1 := by
  obtain ⟨oc, od, kV, doc, pm, an, cdv, ct, osl, rfl, lk, hcd⟩ := F.ex
  obtain ⟨c, rfl⟩ := codeIn_ref hcd
  show Value.ref c = Value.ref (codeOf K p)
  rw [codeOf_eq lk rfl]
theorem facts {P : Program} {w : World} {K : PySem.W.Frag} {h : Heap} {mg : Str → Option Value} {fl : Addr} (X : K.In h) (G : h.Ns mainGlobals mg) (hfa : mg "law" = some (.ref fl)) (c : SaysX faR fnR tsR [pT0, pT1] exR w h K) :
    ∃ fd : FuncData, (∀ (s : Shared) (u : Value), BindsTo s fd ⟨[u], []⟩ [("_law_script", u)]) ∧ ∀ base : Heap, K.In base → base.Ns mainGlobals mg → (∀ p ∈ [cT K pT0, cT K pT1], TabB base mg p.1 p.2) → FnG P w K mg base 8 fl fd ["_law_script"] (spLaw [((cT K pT0).2, qT0), ((cT K pT1).2, qT1)] K) := by
  have cd := c.t.d
  have cc : ((bsR K).all id) = true := c.more
  obtain ⟨d_is_whole, F_is_whole⟩ := funX cd 0 (at_ := ("is_whole", none)) (name := "is_whole") (qual := "is_whole") (st := sIsWhole) rfl
  have g_is_whole : mg "is_whole" = some (.ref (ga K "is_whole")) := glo_ok X G (cd.fact 0 (f := .glo "is_whole") rfl)
  have b_is_whole := F_is_whole.binds (ps := ["value"]) fun _ _ _ _ _ _ us hl => match us, hl with | [_], _ => rfl
  obtain ⟨d_is_count, F_is_count⟩ := funX cd 1 (at_ := ("is_count", none)) (name := "is_count") (qual := "is_count") (st := sIsCount) rfl
  have g_is_count : mg "is_count" = some (.ref (ga K "is_count")) := glo_ok X G (cd.fact 1 (f := .glo "is_count") rfl)
  have b_is_count := F_is_count.binds (ps := ["value"]) fun _ _ _ _ _ _ us hl => match us, hl with | [_], _ => rfl
  obtain ⟨d_is_letter, F_is_letter⟩ := funX cd 2 (at_ := ("is_letter", none)) (name := "is_letter") (qual := "is_letter") (st := sIsLetter) rfl
  have g_is_letter : mg "is_letter" = some (.ref (ga K "is_letter")) := glo_ok X G (cd.fact 2 (f := .glo "is_letter") rfl)
  have b_is_letter := F_is_letter.binds (ps := ["name"]) fun _ _ _ _ _ _ us hl => match us, hl with | [_], _ => rfl
  obtain ⟨d_is_values, F_is_values⟩ := funX cd 3 (at_ := ("is_values", none)) (name := "is_values") (qual := "is_values") (st := sIsValues) rfl
  have g_is_values : mg "is_values" = some (.ref (ga K "is_values")) := glo_ok X G (cd.fact 3 (f := .glo "is_values") rfl)
  have b_is_values := F_is_values.binds (ps := ["values", "names"]) fun _ _ _ _ _ _ us hl => match us, hl with | [_, _], _ => rfl
  obtain ⟨d_check_values, F_check_values⟩ := funX cd 4 (at_ := ("check_values", none)) (name := "check_values") (qual := "check_values") (st := sCheckValues) rfl
  have g_check_values : mg "check_values" = some (.ref (ga K "check_values")) := glo_ok X G (cd.fact 4 (f := .glo "check_values") rfl)
  have b_check_values := F_check_values.binds (ps := ["values", "sizes"]) fun _ _ _ _ _ _ us hl => match us, hl with | [_, _], _ => rfl
  obtain ⟨d_product_at, F_product_at⟩ := funX cd 5 (at_ := ("product_at", none)) (name := "product_at") (qual := "product_at") (st := sProductAt) rfl
  have g_product_at : mg "product_at" = some (.ref (ga K "product_at")) := glo_ok X G (cd.fact 5 (f := .glo "product_at") rfl)
  have b_product_at := F_product_at.binds (ps := ["names", "values"]) fun _ _ _ _ _ _ us hl => match us, hl with | [_, _], _ => rfl
  obtain ⟨d_own_order, F_own_order⟩ := funX cd 6 (at_ := ("own_order", none)) (name := "own_order") (qual := "own_order") (st := sOwnOrder) rfl
  have g_own_order : mg "own_order" = some (.ref (ga K "own_order")) := glo_ok X G (cd.fact 6 (f := .glo "own_order") rfl)
  have b_own_order := F_own_order.binds (ps := ["table"]) fun _ _ _ _ _ _ us hl => match us, hl with | [_], _ => rfl
  obtain ⟨d_cell_of, F_cell_of⟩ := funX cd 7 (at_ := ("cell_of", none)) (name := "cell_of") (qual := "cell_of") (st := sCellOf) rfl
  have g_cell_of : mg "cell_of" = some (.ref (ga K "cell_of")) := glo_ok X G (cd.fact 7 (f := .glo "cell_of") rfl)
  have b_cell_of := F_cell_of.binds (ps := ["table", "values", "place"]) fun _ _ _ _ _ _ us hl => match us, hl with | [_, _, _], _ => rfl
  obtain ⟨d_check_table, F_check_table⟩ := funX cd 8 (at_ := ("check_table", none)) (name := "check_table") (qual := "check_table") (st := sCheckTable) rfl
  have g_check_table : mg "check_table" = some (.ref (ga K "check_table")) := glo_ok X G (cd.fact 8 (f := .glo "check_table") rfl)
  have b_check_table := F_check_table.binds (ps := ["table"]) fun _ _ _ _ _ _ us hl => match us, hl with | [_], _ => rfl
  obtain ⟨d_check_own_places, F_check_own_places⟩ := funX cd 9 (at_ := ("check_own_places", none)) (name := "check_own_places") (qual := "check_own_places") (st := sCheckOwn) rfl
  have g_check_own_places : mg "check_own_places" = some (.ref (ga K "check_own_places")) := glo_ok X G (cd.fact 9 (f := .glo "check_own_places") rfl)
  have b_check_own_places := F_check_own_places.binds (ps := ["table"]) fun _ _ _ _ _ _ us hl => match us, hl with | [_], _ => rfl
  obtain ⟨d_is_sides, F_is_sides⟩ := funX cd 10 (at_ := ("is_sides", none)) (name := "is_sides") (qual := "is_sides") (st := sIsSides) rfl
  have g_is_sides : mg "is_sides" = some (.ref (ga K "is_sides")) := glo_ok X G (cd.fact 10 (f := .glo "is_sides") rfl)
  have b_is_sides := F_is_sides.binds (ps := ["sides", "many"]) fun _ _ _ _ _ _ us hl => match us, hl with | [_, _], _ => rfl
  obtain ⟨d_is_side, F_is_side⟩ := funX cd 11 (at_ := ("is_side", none)) (name := "is_side") (qual := "is_side") (st := sIsSide) rfl
  have g_is_side : mg "is_side" = some (.ref (ga K "is_side")) := glo_ok X G (cd.fact 11 (f := .glo "is_side") rfl)
  have b_is_side := F_is_side.binds (ps := ["side", "many"]) fun _ _ _ _ _ _ us hl => match us, hl with | [_, _], _ => rfl
  obtain ⟨d_is_product, F_is_product⟩ := funX cd 12 (at_ := ("is_product", none)) (name := "is_product") (qual := "is_product") (st := sIsProduct) rfl
  have g_is_product : mg "is_product" = some (.ref (ga K "is_product")) := glo_ok X G (cd.fact 12 (f := .glo "is_product") rfl)
  have b_is_product := F_is_product.binds (ps := ["product"]) fun _ _ _ _ _ _ us hl => match us, hl with | [_], _ => rfl
  obtain ⟨d_names_of, F_names_of⟩ := funX cd 13 (at_ := ("names_of", none)) (name := "names_of") (qual := "names_of") (st := sNamesOf) rfl
  have g_names_of : mg "names_of" = some (.ref (ga K "names_of")) := glo_ok X G (cd.fact 13 (f := .glo "names_of") rfl)
  have b_names_of := F_names_of.binds (ps := ["sides"]) fun _ _ _ _ _ _ us hl => match us, hl with | [_], _ => rfl
  obtain ⟨d_ordered, F_ordered⟩ := funX cd 14 (at_ := ("ordered", none)) (name := "ordered") (qual := "ordered") (st := sOrdered) rfl
  have g_ordered : mg "ordered" = some (.ref (ga K "ordered")) := glo_ok X G (cd.fact 14 (f := .glo "ordered") rfl)
  have b_ordered := F_ordered.binds (ps := ["table"]) fun _ _ _ _ _ _ us hl => match us, hl with | [_], _ => rfl
  obtain ⟨d_misfit, F_misfit⟩ := funX cd 15 (at_ := ("misfit", none)) (name := "misfit") (qual := "misfit") (st := sMisfit) rfl
  have g_misfit : mg "misfit" = some (.ref (ga K "misfit")) := glo_ok X G (cd.fact 15 (f := .glo "misfit") rfl)
  have b_misfit := F_misfit.binds (ps := ["sides"]) fun _ _ _ _ _ _ us hl => match us, hl with | [_], _ => rfl
  obtain ⟨d_left_of, F_left_of⟩ := funX cd 16 (at_ := ("left_of", none)) (name := "left_of") (qual := "left_of") (st := sLeftOf) rfl
  have g_left_of : mg "left_of" = some (.ref (ga K "left_of")) := glo_ok X G (cd.fact 16 (f := .glo "left_of") rfl)
  have b_left_of := F_left_of.binds (ps := ["product", "other"]) fun _ _ _ _ _ _ us hl => match us, hl with | [_, _], _ => rfl
  obtain ⟨d__law_purse, F__law_purse⟩ := funX cd 17 (at_ := ("_law_purse", none)) (name := "_law_purse") (qual := "_law_purse") (st := E3.sPurse) rfl
  have g__law_purse : mg "_law_purse" = some (.ref (ga K "_law_purse")) := glo_ok X G (cd.fact 17 (f := .glo "_law_purse") rfl)
  have b__law_purse := F__law_purse.binds (ps := ["_law_script", "_law_at"]) fun _ _ _ _ _ _ us hl => match us, hl with | [_, _], _ => rfl
  obtain ⟨d__law_mixed, F__law_mixed⟩ := funX cd 18 (at_ := ("_law_mixed", none)) (name := "_law_mixed") (qual := "_law_mixed") (st := E3.sMixed) rfl
  have g__law_mixed : mg "_law_mixed" = some (.ref (ga K "_law_mixed")) := glo_ok X G (cd.fact 18 (f := .glo "_law_mixed") rfl)
  have b__law_mixed := F__law_mixed.binds (ps := ["_law_seed", "_law_step"]) fun _ _ _ _ _ _ us hl => match us, hl with | [_, _], _ => rfl
  obtain ⟨d__law_draw, F__law_draw⟩ := funX cd 19 (at_ := ("_law_draw", none)) (name := "_law_draw") (qual := "_law_draw") (st := E3.sDraw) rfl
  have g__law_draw : mg "_law_draw" = some (.ref (ga K "_law_draw")) := glo_ok X G (cd.fact 19 (f := .glo "_law_draw") rfl)
  have b__law_draw := F__law_draw.binds (ps := ["_law_purse_here", "_law_many"]) fun _ _ _ _ _ _ us hl => match us, hl with | [_, _], _ => rfl
  obtain ⟨d__law_one_of, F__law_one_of⟩ := funX cd 20 (at_ := ("_law_one_of", none)) (name := "_law_one_of") (qual := "_law_one_of") (st := sOneOf) rfl
  have g__law_one_of : mg "_law_one_of" = some (.ref (ga K "_law_one_of")) := glo_ok X G (cd.fact 20 (f := .glo "_law_one_of") rfl)
  have b__law_one_of := F__law_one_of.binds (ps := ["_law_purse_here", "_law_some"]) fun _ _ _ _ _ _ us hl => match us, hl with | [_, _], _ => rfl
  obtain ⟨d__law_shuffled, F__law_shuffled⟩ := funX cd 21 (at_ := ("_law_shuffled", none)) (name := "_law_shuffled") (qual := "_law_shuffled") (st := sShuffled) rfl
  have g__law_shuffled : mg "_law_shuffled" = some (.ref (ga K "_law_shuffled")) := glo_ok X G (cd.fact 21 (f := .glo "_law_shuffled") rfl)
  have b__law_shuffled := F__law_shuffled.binds (ps := ["_law_purse_here", "_law_some"]) fun _ _ _ _ _ _ us hl => match us, hl with | [_, _], _ => rfl
  obtain ⟨d__law_letters, F__law_letters⟩ := funX cd 22 (at_ := ("_law_letters", none)) (name := "_law_letters") (qual := "_law_letters") (st := sLetters) rfl
  have g__law_letters : mg "_law_letters" = some (.ref (ga K "_law_letters")) := glo_ok X G (cd.fact 22 (f := .glo "_law_letters") rfl)
  have b__law_letters := F__law_letters.binds (ps := ["_law_purse_here", "_law_most"]) fun _ _ _ _ _ _ us hl => match us, hl with | [_, _], _ => rfl
  obtain ⟨d__law_names, F__law_names⟩ := funX cd 23 (at_ := ("_law_names", none)) (name := "_law_names") (qual := "_law_names") (st := sNamesL) rfl
  have g__law_names : mg "_law_names" = some (.ref (ga K "_law_names")) := glo_ok X G (cd.fact 23 (f := .glo "_law_names") rfl)
  have b__law_names := F__law_names.binds (ps := ["_law_purse_here", "_law_many"]) fun _ _ _ _ _ _ us hl => match us, hl with | [_, _], _ => rfl
  obtain ⟨d__law_chain, F__law_chain⟩ := funX cd 24 (at_ := ("_law_chain", none)) (name := "_law_chain") (qual := "_law_chain") (st := sChain) rfl
  have g__law_chain : mg "_law_chain" = some (.ref (ga K "_law_chain")) := glo_ok X G (cd.fact 24 (f := .glo "_law_chain") rfl)
  have b__law_chain := F__law_chain.binds (ps := ["_law_purse_here", "_law_many", "_law_often"]) fun _ _ _ _ _ _ us hl => match us, hl with | [_, _, _], _ => rfl
  obtain ⟨d__law_times, F__law_times⟩ := funX cd 25 (at_ := ("_law_times", none)) (name := "_law_times") (qual := "_law_times") (st := sTimes) rfl
  have g__law_times : mg "_law_times" = some (.ref (ga K "_law_times")) := glo_ok X G (cd.fact 25 (f := .glo "_law_times") rfl)
  have b__law_times := F__law_times.binds (ps := ["_law_product", "_law_sizes_here"]) fun _ _ _ _ _ _ us hl => match us, hl with | [_, _], _ => rfl
  obtain ⟨d__law_used, F__law_used⟩ := funX cd 26 (at_ := ("_law_used", none)) (name := "_law_used") (qual := "_law_used") (st := sUsed) rfl
  have g__law_used : mg "_law_used" = some (.ref (ga K "_law_used")) := glo_ok X G (cd.fact 26 (f := .glo "_law_used") rfl)
  have b__law_used := F__law_used.binds (ps := ["_law_rows"]) fun _ _ _ _ _ _ us hl => match us, hl with | [_], _ => rfl
  obtain ⟨d__law_sizes, F__law_sizes⟩ := funX cd 27 (at_ := ("_law_sizes", none)) (name := "_law_sizes") (qual := "_law_sizes") (st := sSizesL) rfl
  have g__law_sizes : mg "_law_sizes" = some (.ref (ga K "_law_sizes")) := glo_ok X G (cd.fact 27 (f := .glo "_law_sizes") rfl)
  have b__law_sizes := F__law_sizes.binds (ps := ["_law_purse_here", "_law_rows", "_law_most"]) fun _ _ _ _ _ _ us hl => match us, hl with | [_, _, _], _ => rfl
  obtain ⟨d__law_spot, F__law_spot⟩ := funX cd 28 (at_ := ("_law_spot", none)) (name := "_law_spot") (qual := "_law_spot") (st := sSpot) rfl
  have g__law_spot : mg "_law_spot" = some (.ref (ga K "_law_spot")) := glo_ok X G (cd.fact 28 (f := .glo "_law_spot") rfl)
  have b__law_spot := F__law_spot.binds (ps := ["_law_rows", "_law_sizes_here", "_law_cell_here"]) fun _ _ _ _ _ _ us hl => match us, hl with | [_, _, _], _ => rfl
  obtain ⟨d__law_fits, F__law_fits⟩ := funX cd 29 (at_ := ("_law_fits", none)) (name := "_law_fits") (qual := "_law_fits") (st := sFits) rfl
  have g__law_fits : mg "_law_fits" = some (.ref (ga K "_law_fits")) := glo_ok X G (cd.fact 29 (f := .glo "_law_fits") rfl)
  have b__law_fits := F__law_fits.binds (ps := ["_law_first", "_law_second"]) fun _ _ _ _ _ _ us hl => match us, hl with | [_, _], _ => rfl
  obtain ⟨d__law_chained, F__law_chained⟩ := funX cd 30 (at_ := ("_law_chained", none)) (name := "_law_chained") (qual := "_law_chained") (st := sChained) rfl
  have g__law_chained : mg "_law_chained" = some (.ref (ga K "_law_chained")) := glo_ok X G (cd.fact 30 (f := .glo "_law_chained") rfl)
  have b__law_chained := F__law_chained.binds (ps := ["_law_rows"]) fun _ _ _ _ _ _ us hl => match us, hl with | [_], _ => rfl
  obtain ⟨d__law_cell, F__law_cell⟩ := funX cd 31 (at_ := ("_law_cell", none)) (name := "_law_cell") (qual := "_law_cell") (st := sCellW) rfl
  have g__law_cell : mg "_law_cell" = some (.ref (ga K "_law_cell")) := glo_ok X G (cd.fact 31 (f := .glo "_law_cell") rfl)
  have b__law_cell := F__law_cell.binds (ps := ["_law_rows", "_law_sizes_here", "_law_spot_here"]) fun _ _ _ _ _ _ us hl => match us, hl with | [_, _, _], _ => rfl
  obtain ⟨d__law_right, F__law_right⟩ := funX cd 32 (at_ := ("_law_right", none)) (name := "_law_right") (qual := "_law_right") (st := sRightC) rfl
  have g__law_right : mg "_law_right" = some (.ref (ga K "_law_right")) := glo_ok X G (cd.fact 32 (f := .glo "_law_right") rfl)
  have b__law_right := F__law_right.binds (ps := ["_law_purse_here", "_law_table", "_law_rows", "_law_sizes_here"]) fun _ _ _ _ _ _ us hl => match us, hl with | [_, _, _, _], _ => rfl
  obtain ⟨d_law, F_law⟩ := funX cd 33 (at_ := ("law", none)) (name := "law") (qual := "law") (st := sLaw) rfl
  have g_law : mg "law" = some (.ref (ga K "law")) := glo_ok X G (cd.fact 33 (f := .glo "law") rfl)
  have b_law := F_law.binds (ps := ["_law_script"]) fun _ _ _ _ _ _ us hl => match us, hl with | [_], _ => rfl
  obtain ⟨d_Plain___init__, F_Plain___init__⟩ := funX cd 34 (at_ := ("Plain", some "__init__")) (name := "__init__") (qual := "Plain.__init__") (st := sInit) rfl
  have b_Plain___init__ := F_Plain___init__.binds (ps := ["self", "sides"]) fun _ _ _ _ _ _ us hl => match us, hl with | [_, _], _ => rfl
  obtain ⟨d_Plain___eq__, F_Plain___eq__⟩ := funX cd 35 (at_ := ("Plain", some "__eq__")) (name := "__eq__") (qual := "Plain.__eq__") (st := sEq) rfl
  have b_Plain___eq__ := F_Plain___eq__.binds (ps := ["self", "other"]) fun _ _ _ _ _ _ us hl => match us, hl with | [_, _], _ => rfl
  obtain ⟨d_Plain_sides, F_Plain_sides⟩ := funX cd 36 (at_ := ("Plain", some "sides")) (name := "sides") (qual := "Plain.sides") (st := sSides) rfl
  have b_Plain_sides := F_Plain_sides.binds (ps := ["self"]) fun _ _ _ _ _ _ us hl => match us, hl with | [_], _ => rfl
  obtain ⟨d_Plain_sizes, F_Plain_sizes⟩ := funX cd 37 (at_ := ("Plain", some "sizes")) (name := "sizes") (qual := "Plain.sizes") (st := sSizes) rfl
  have b_Plain_sizes := F_Plain_sizes.binds (ps := ["self"]) fun _ _ _ _ _ _ us hl => match us, hl with | [_], _ => rfl
  have g_Plain : mg "Plain" = some (.ref (ga K "Plain")) := glo_ok X G (cd.fact 34 (f := .glo "Plain") rfl)
  have z_isinstance : mg "isinstance" = none := free_ok X G (cd.fact 35 (f := .free "isinstance") rfl)
  have z_int : mg "int" = none := free_ok X G (cd.fact 36 (f := .free "int") rfl)
  have z_bool : mg "bool" = none := free_ok X G (cd.fact 37 (f := .free "bool") rfl)
  have z_str : mg "str" = none := free_ok X G (cd.fact 38 (f := .free "str") rfl)
  have z_len : mg "len" = none := free_ok X G (cd.fact 39 (f := .free "len") rfl)
  have z_all : mg "all" = none := free_ok X G (cd.fact 40 (f := .free "all") rfl)
  have z_any : mg "any" = none := free_ok X G (cd.fact 41 (f := .free "any") rfl)
  have z_list : mg "list" = none := free_ok X G (cd.fact 42 (f := .free "list") rfl)
  have z_tuple : mg "tuple" = none := free_ok X G (cd.fact 43 (f := .free "tuple") rfl)
  have z_dict : mg "dict" = none := free_ok X G (cd.fact 44 (f := .free "dict") rfl)
  have z_set : mg "set" = none := free_ok X G (cd.fact 45 (f := .free "set") rfl)
  have z_sorted : mg "sorted" = none := free_ok X G (cd.fact 46 (f := .free "sorted") rfl)
  have z_zip : mg "zip" = none := free_ok X G (cd.fact 47 (f := .free "zip") rfl)
  have z_reversed : mg "reversed" = none := free_ok X G (cd.fact 48 (f := .free "reversed") rfl)
  have z_divmod : mg "divmod" = none := free_ok X G (cd.fact 49 (f := .free "divmod") rfl)
  have z_enumerate : mg "enumerate" = none := free_ok X G (cd.fact 50 (f := .free "enumerate") rfl)
  have z_sum : mg "sum" = none := free_ok X G (cd.fact 51 (f := .free "sum") rfl)
  have z_max : mg "max" = none := free_ok X G (cd.fact 52 (f := .free "max") rfl)
  have z_min : mg "min" = none := free_ok X G (cd.fact 53 (f := .free "min") rfl)
  have z_range : mg "range" = none := free_ok X G (cd.fact 54 (f := .free "range") rfl)
  have z_repr : mg "repr" = none := free_ok X G (cd.fact 55 (f := .free "repr") rfl)
  have cl : Cls K (ga K "Plain") := cls_ok (cd.fact 56 (f := .cls "Plain") rfl)
  have na : NoAttr K (ga K "Plain") "_sides" := noat_ok (cd.fact 57 (f := .noat "Plain" "_sides") rfl)
  have mk : Mk K (ga K "Plain") (ma K (ga K "Plain") "__init__") := mkr_ok (cd.fact 58 (f := .mkr "Plain") rfl)
  have m_sides := meth_ok (cd.fact 59 (f := .meth "Plain" "sides") rfl)
  have m_sizes := meth_ok (cd.fact 60 (f := .meth "Plain" "sizes") rfl)
  have ins := insB_ok cl (bool_ok cc 0 (b := insB K (ga K "Plain")) rfl)
  have none_ := neB_ok (bool_ok cc 1 (b := neB K (ga K "Plain")) rfl)
  have tne : (cT K pT0).2 ≠ (cT K pT1).2 := of_decide_eq_true (bool_ok cc 2 (b := decide ((cT K (("ordered", none) : Defn)).2 ≠ (cT K (("_law_cell", none) : Defn)).2)) rfl)
  have e := hfa.symm.trans g_law
  cases e
  have hcode0 := code_of (p := pT0) F_ordered
  have hcode1 := code_of (p := pT1) F__law_cell
  refine ⟨d_law, fun s u => bindsA (ps := ["_law_script"]) F_law (fun _ _ _ _ _ _ us hl => match us, hl with | [_], _ => rfl) s [u] rfl, fun base _ _ TBs => ?_⟩
  have TB0 := TBs (cT K pT0) (by simp)
  have TB1 := TBs (cT K pT1) (by simp)
  have B : Bl mg := ⟨z_isinstance, z_int, z_bool, z_str, z_len, z_all, z_any, z_list, z_tuple, z_dict, z_set, z_sorted, z_zip, z_reversed, z_divmod⟩
  have B4 : E3.Bt4 mg := ⟨z_sum, z_max, z_range, z_len⟩
  have V : Cv K mg (ga K "Plain") := ⟨ins, g_Plain⟩
  have T : Px P w K mg base (ga K "Plain") := ⟨cl, na⟩
  have hu0 : ∀ p ∈ ([((cT K pT0).2, qT0), ((cT K pT1).2, qT1)] : List (Addr × Str)), p.1 = (cT K pT0).2 → p.2 = ("ordered.<locals>.<lambda>" : Str) := fun p hp e => by
    rcases List.mem_cons.mp hp with rfl | hp
    · rfl
    · rw [List.mem_singleton.mp hp] at e
      exact absurd e.symm tne
  have hu1 : ∀ p ∈ ([((cT K pT0).2, qT0), ((cT K pT1).2, qT1)] : List (Addr × Str)), p.1 = (cT K pT1).2 → p.2 = ("_law_cell.<locals>.<lambda>" : Str) := fun p hp e => by
    rcases List.mem_cons.mp hp with rfl | hp
    · exact absurd e tne
    · rw [List.mem_singleton.mp hp]
      rfl
  have Wh : Cal P w K mg base 1 "is_whole" spWhole [] := cal_of F_is_whole.kp g_is_whole b_is_whole (ok_whole F_is_whole B)
  have Cn : Cal P w K mg base 2 "is_count" spCount [] := cal_of F_is_count.kp g_is_count b_is_count (ok_count F_is_count Wh)
  have Il : Cal P w K mg base 1 "is_letter" spIsLet [] := cal_of F_is_letter.kp g_is_letter b_is_letter (ok_isLet F_is_letter B)
  have Iv : Cal P w K mg base 2 "is_values" (spIsVals K) [] := cal_of F_is_values.kp g_is_values b_is_values (ok_isVals F_is_values B Il Wh)
  have Cv_ : Cal P w K mg base 3 "check_values" (spCheckV K) [] := cal_of F_check_values.kp g_check_values b_check_values (ok_checkV F_check_values B Iv)
  have Ip : Cal P w K mg base 2 "is_product" spProdOk [] := cal_of F_is_product.kp g_is_product b_is_product (ok_prodOk F_is_product B Il)
  have Is : Cal P w K mg base 3 "is_side" spSideOk [] := cal_of F_is_side.kp g_is_side b_is_side (ok_sideOk F_is_side B Il Ip)
  have Nm : Cal P w K mg base 1 "names_of" (spNames K) [] := cal_of F_names_of.kp g_names_of b_names_of (ok_names F_names_of)
  have Ss : Cal P w K mg base 4 "is_sides" spSidesOk [] := cal_of F_is_sides.kp g_is_sides b_is_sides (ok_sidesOk F_is_sides B Is Nm)
  have fIn := ok_init (P := P) (w := w) (base := base) F_Plain___init__ B T Ss
  have M1 : Mak P w K mg base 5 "Plain" (ga K "Plain") (spInit (ga K "Plain")) [] := ⟨_, d_Plain___init__, _, [], mk, fIn, g_Plain, b_Plain___init__, .nil⟩
  have Sd_ : Met P w K mg base 1 (ga K "Plain") "sides" (spSides (ga K "Plain")) [] := ⟨_, d_Plain_sides, _, [], cl, m_sides, ok_sides F_Plain_sides B T, b_Plain_sides, .nil⟩
  have Sz : Met P w K mg base 1 (ga K "Plain") "sizes" (spSizes (ga K "Plain")) [] := ⟨_, d_Plain_sizes, _, [], cl, m_sizes, ok_sizes F_Plain_sizes B T, b_Plain_sizes, .nil⟩
  have O : EqP P w K mg base 1 (ga K "Plain") := ⟨_, d_Plain___eq__, _, none_, ok_eq F_Plain___eq__ B V T, b_Plain___eq__⟩
  have Ct : Cal P w K mg base 1 "check_table" (spCheckT (ga K "Plain")) [] := cal_of F_check_table.kp g_check_table b_check_table (ok_checkT F_check_table B V)
  have Lf : Cal P w K mg base 1 "left_of" (spLeft K) [] := cal_of F_left_of.kp g_left_of b_left_of (ok_left F_left_of B)
  have Mf : Cal P w K mg base 2 "misfit" (spMisfit K) [] := cal_of F_misfit.kp g_misfit b_misfit (ok_misfit F_misfit B Lf)
  have Or_ : Cal P w K mg base 2 "ordered" (spOrdered [((cT K pT0).2, qT0), ((cT K pT1).2, qT1)] (ga K "Plain")) [] := cal_of F_ordered.kp g_ordered b_ordered (ok_ordered F_ordered hcode0 B TB0 List.mem_cons_self hu0 Sd_)
  have Ow : Cal P w K mg base 3 "own_order" (spOwn [((cT K pT0).2, qT0), ((cT K pT1).2, qT1)] (ga K "Plain")) [] := cal_of F_own_order.kp g_own_order b_own_order (ok_own F_own_order Ct Or_ Mf Nm)
  have Cw : Cal P w K mg base 4 "check_own_places" (spCheckO [((cT K pT0).2, qT0), ((cT K pT1).2, qT1)] (ga K "Plain")) [] := cal_of F_check_own_places.kp g_check_own_places b_check_own_places (ok_checkO F_check_own_places Ow)
  have Pr : Cal P w K mg base 1 "product_at" (spProd K) [] := cal_of F_product_at.kp g_product_at b_product_at (ok_prod F_product_at)
  have Co : Cal P w K mg base 5 "cell_of" (spCellOf [((cT K pT0).2, qT0), ((cT K pT1).2, qT1)] (ga K "Plain")) [] := cal_of F_cell_of.kp g_cell_of b_cell_of (ok_cellOf F_cell_of B Ct Cv_ Sz Cn Cw Nm Sd_ Or_ Pr)
  have Pu : Cal P w K mg base 1 "_law_purse" (E3.spPurse K) [] := cal_of F__law_purse.kp g__law_purse b__law_purse (E3.ok_purse F__law_purse B4)
  have Mi : Cal P w K mg base 1 "_law_mixed" E3.spMixed [] := cal_of F__law_mixed.kp g__law_mixed b__law_mixed (E3.ok_mixed F__law_mixed)
  have D : Cal P w K mg base 2 "_law_draw" E3.spDraw [] := cal_of F__law_draw.kp g__law_draw b__law_draw (E3.ok_draw F__law_draw B4 Mi)
  have Oo : Cal P w K mg base 3 "_law_one_of" (spOneOf K) [] := cal_of F__law_one_of.kp g__law_one_of b__law_one_of (ok_oneOf F__law_one_of B D)
  have Sh : Cal P w K mg base 3 "_law_shuffled" (spShuf K) [] := cal_of F__law_shuffled.kp g__law_shuffled b__law_shuffled (ok_shuf F__law_shuffled B D)
  have ShV : Cal P w K mg base 3 "_law_shuffled" spShufV [] := cal_of F__law_shuffled.kp g__law_shuffled b__law_shuffled (ok_shufV F__law_shuffled B D)
  have Le : Cal P w K mg base 4 "_law_letters" spLetters [] := cal_of F__law_letters.kp g__law_letters b__law_letters (ok_letters F__law_letters B4 D Oo)
  have Na : Cal P w K mg base 4 "_law_names" spNamesL [] := cal_of F__law_names.kp g__law_names b__law_names (ok_namesL F__law_names Sh)
  have Ch : Cal P w K mg base 5 "_law_chain" spChain [] := cal_of F__law_chain.kp g__law_chain b__law_chain (ok_chain F__law_chain B D Sh Le Na)
  have Us : Cal P w K mg base 1 "_law_used" (spUsed K) [] := cal_of F__law_used.kp g__law_used b__law_used (ok_used F__law_used B)
  have SzL : Cal P w K mg base 4 "_law_sizes" (spSizesL K) [] := cal_of F__law_sizes.kp g__law_sizes b__law_sizes (ok_sizesL F__law_sizes D Sh Us)
  have Tm : Cal P w K mg base 1 "_law_times" (spTimesG K) [] := cal_of F__law_times.kp g__law_times b__law_times (ok_timesG F__law_times)
  have Spt : Cal P w K mg base 2 "_law_spot" (spSpotG K) [] := cal_of F__law_spot.kp g__law_spot b__law_spot (ok_spotG F__law_spot B4 Tm)
  have Fi : Cal P w K mg base 1 "_law_fits" (spFits K) [] := cal_of F__law_fits.kp g__law_fits b__law_fits (ok_fits F__law_fits)
  have Cd : Cal P w K mg base 2 "_law_chained" (spChained K) [] := cal_of F__law_chained.kp g__law_chained b__law_chained (ok_chained F__law_chained z_enumerate Fi)
  have CWl : Cal P w K mg base 3 "_law_cell" (spCellW [((cT K pT0).2, qT0), ((cT K pT1).2, qT1)] K) [] := cal_of F__law_cell.kp g__law_cell b__law_cell (ok_cellW F__law_cell hcode1 B B4 z_min TB1 (List.mem_cons_of_mem _ List.mem_cons_self) hu1 Tm)
  have Ri : CalG P w K mg base 7 "_law_right" (spRightC [((cT K pT0).2, qT0), ((cT K pT1).2, qT1)] (ga K "Plain")) := ⟨_, _, _, ok_rightC F__law_right B B4 z_repr D Tm Spt Co CWl M1 O, g__law_right, F__law_right.kp, b__law_right⟩
  exact ok_law F_law B4 B Pu D Ch ShV Cd M1 Us SzL Ri Co
end E4

set_option Elab.async false
set_option linter.all false
set_option maxRecDepth 100000
set_option maxHeartbeats 0
/-! the head: the top's run, and the law -/
namespace E4
open PySem PySem.Spec PyProof.Rows L2 He
abbrev R : PySem.W.OpenRow := PySem.W.OpenLaw.row PySem.Challenge.rw_cellplaces_k54_whole_cells_told_back
abbrev hk : PySem.W.Hook := He.hookX 6 faR fnR tsR [pT0, pT1] exR
def ob (s : PySem.W.SharedT) : He.AlX := He.obsX 6 faR fnR tsR [pT0, pT1] exR (HandSHeadRun.getT s)
theorem ob_eq (s : PySem.W.SharedT) : ob s = hk.obs s.abs := He.obsX_eq (HandSHeadRun.getT_eq s)
def loose0 : List PySem.Str := ["_wall", "CellError", "InvalidNumber", "InvalidValues", "InvalidSides", "InvalidTable", "SharedPlaces", "is_whole", "is_count", "is_letter", "is_values", "check_values"]
def loose1 : List PySem.Str := ["product_at", "Plain", "own_order", "cell_of", "check_table", "check_own_places", "is_sides", "is_side", "is_product", "names_of", "ordered", "misfit"]
def loose2 : List PySem.Str := ["left_of", "_law_purse", "_law_mixed", "_law_draw", "_law_one_of", "_law_shuffled", "_law_letters", "_law_names", "_law_chain", "_law_times", "_law_used", "_law_sizes"]
def loose3 : List PySem.Str := ["_law_spot", "_law_fits", "_law_chained", "_law_cell", "_law_right"]
def looseAll : List PySem.Str := loose0 ++ loose1 ++ loose2 ++ loose3
theorem run (w : World) : HandSHeadRun.RunEqI R (PySem.W.view R.prog [46]) hk ob 20000 looseAll w := by
  unfold HandSHeadRun.RunEqI; kernel_rfl
end E4
open PySem PySem.W PySem.Calls PyProof.Rows
set_option maxRecDepth 100000 in
set_option maxHeartbeats 0 in
theorem PySem.Challenge.cw_cellplaces_k54_whole_cells_told_back_holds : PySem.Challenge.rw_cellplaces_k54_whole_cells_told_back.Holds := by
  w_on; o_law
  refine HandSHeadRun.head_imp (r := OpenLaw.row PySem.Challenge.rw_cellplaces_k54_whole_cells_told_back) (q := view (OpenLaw.row PySem.Challenge.rw_cellplaces_k54_whole_cells_told_back).prog [46]) (H := E4.hk) (ob := E4.ob) (M := 20000) (loose := E4.looseAll) (d := HandSHeadRun.topDef (OpenLaw.row PySem.Challenge.rw_cellplaces_k54_whole_cells_told_back).prog 46) (kwd := []) E4.ob_eq
    E4.run (by kernel_rfl) (by kernel_rfl) (by kernel_rfl) (by rfl) (by first | assumption | decide +kernel) (by decide +kernel) ⟨rfl, rfl, rfl, rfl, rfl, by decide +kernel⟩ ?hw ?hc
  case hw => w_witness2
  case hc =>
    refine L2.walk_ofTsG (l := PySem.Challenge.rw_cellplaces_k54_whole_cells_told_back) (n := 63) (k := 8) (x := "_law_script") rfl (by decide) (by kernel_rfl) ⟨rfl, by decide, by decide⟩ ?F
    intro w mg fa h Y G hmg0
    obtain ⟨K, KX, c⟩ := Y
    have hmg : mg ("law" : PySem.Str) = some (.ref fa) := by
      have e : (HandSHeadRun.topDef (OpenLaw.row PySem.Challenge.rw_cellplaces_k54_whole_cells_told_back).prog 46).name = ("law" : PySem.Str) := by kernel_rfl
      rw [← e]
      exact hmg0
    obtain ⟨fd, hb, hF⟩ := E4.facts (P := (PySem.Challenge.rw_cellplaces_k54_whole_cells_told_back).prog) (w := w) KX G hmg c
    have one : ∀ p ∈ [He.cT K E4.pT0, He.cT K E4.pT1], ∃ d ∈ ([E4.pT0, E4.pT1] : List He.Defn), p = He.cT K d := fun p hp => by
      simp only [List.mem_cons, List.not_mem_nil, or_false] at hp ⊢
      first | exact ⟨_, rfl, hp⟩ | (rcases hp with h | h <;> exact ⟨_, by simp, h⟩)
    refine ⟨K, fd, [He.cT K E4.pT0, He.cT K E4.pT1], E4.spLaw [((He.cT K E4.pT0).2, E4.qT0), ((He.cT K E4.pT1).2, E4.qT1)] K, KX, fun p hp => ?_, fun p hp => ?_, fun p hp => ?_, hb, fun H a ns hl hT hS => ⟨a, ns, rfl, hS, hl, fun p hp => ?_, fun _ => rfl⟩, hF⟩
    · obtain ⟨d, hd, rfl⟩ := one p hp; exact c.empty _ hd
    · obtain ⟨d, hd, rfl⟩ := one p hp; exact c.out _ hd
    · obtain ⟨d, hd, rfl⟩ := one p hp; exact PySem.W.codeHd_of_K KX (c.hd _ hd)
    · simp only [List.mem_cons, List.not_mem_nil, or_false] at hp
      first | (subst hp; exact ⟨#[], hT _ (by simp), trivial, fun pos cv e => by cases e⟩) | (rcases hp with h | h <;> subst h <;> exact ⟨#[], hT _ (by simp), trivial, fun pos cv e => by cases e⟩)
