import PyProof.Rows.All
import Wide.All
import OpenK.AllK
import Wide.FinOn
import HandS.ForExc
import HandS.ExcInit
import HandS.ExcIs
import HandS.ExcField
import HandS.Defaults
import HandS.IsInst
import HandS.ExcValue
import HandS.ForMost
import KE.KOpsOwn
import HandS.Wide
import HandS.WideBits
import HandS.Conv
import HandS.Codes
import HandS.Walk
import HandS.Comp
import HandS.Gcd
import HandS.Steps
import KE.KMathG
import HandS.Ends
import HandS.Words
import HandS.Head0
import HandS.Head1
import HandS.Head2
import HandS.HeadEnd
import HandS.HeadHook1
import HandS.New
import HandS.SortInts
import HandS.Dict
import KE.KDictList
import HandS.SetFor
import HandS.Strs
import HandS.HeadHook2
import KE.KStateDown
import HandS.Head3
import PySem.Challenge.RW_cellplaces_k71_whole_turns
set_option linter.all false
set_option maxHeartbeats 400000
/-! rings: the mirrors -/
namespace E3
def pw (b e m : Nat) : Nat := if e = 0 then 1 else b ^ e % m
theorem pw_step {b e m f c x : Nat} (hx : 0 < x) (h : (f * c ^ x) % m = b ^ e % m ∧ 0 < e) :
    (x / 2 = 0 → (if x % 2 = 1 then f * c % m else f) = pw b e m) ∧ (0 < x / 2 → ((if x % 2 = 1 then f * c % m else f) * (c * c % m) ^ (x / 2)) % m = b ^ e % m ∧ 0 < e) := by
  obtain ⟨h1, h2⟩ := h
  refine ⟨fun z => ?_, fun z => ⟨?_, h2⟩⟩
  · have : x = 1 := by omega
    subst this
    rw [if_pos rfl]
    unfold pw
    rw [if_neg (by omega), ← h1, Nat.pow_one]
  · have k : (c * c % m) ^ (x / 2) % m = c ^ (2 * (x / 2)) % m := by
      rw [← Nat.pow_mod, Nat.pow_mul, Nat.pow_two]
    by_cases o : x % 2 = 1
    · rw [if_pos o, Nat.mul_mod, k, Nat.mod_mod, ← Nat.mul_mod, ← h1, Nat.mul_assoc]
      have e1 : x = 2 * (x / 2) + 1 := by omega
      have e2 : c * c ^ (2 * (x / 2)) = c ^ x := by
        conv => rhs; rw [e1, Nat.pow_succ, Nat.mul_comm]
      rw [e2]
    · rw [if_neg o, Nat.mul_mod, k, ← Nat.mul_mod, ← h1]
      have e1 : 2 * (x / 2) = x := by omega
      rw [e1]
/-! powers taken out -/
def stripGo : Nat → Nat → Nat → Nat → Nat × Nat
  | 0, _, v, e => (v, e)
  | n + 1, p, v, e => if v % p = 0 then stripGo n p (v / p) (e + 1) else (v, e)
def facFin (v : Nat) (acc : List (Nat × Nat)) : List (Nat × Nat) := if 1 < v then acc ++ [(v, 1)] else acc
def facGo : Nat → Nat → Nat → List (Nat × Nat) → List (Nat × Nat)
  | 0, _, v, acc => facFin v acc
  | n + 1, p, v, acc => if p * p ≤ v then facGo n (p + 1) (stripGo v p v 0).1 (if 0 < (stripGo v p v 0).2 then acc ++ [(p, (stripGo v p v 0).2)] else acc) else facFin v acc
def facM (v : Nat) : List (Nat × Nat) := facGo v 2 v []
def prodF (l : List (Nat × Nat)) : Nat := l.foldr (fun x r => x.1 ^ x.2 * r) 1
theorem prodF_app (l m : List (Nat × Nat)) : prodF (l ++ m) = prodF l * prodF m := by
  induction l with
  | nil => simp [prodF]
  | cons x l ih =>
    have : prodF (x :: l ++ m) = x.1 ^ x.2 * prodF (l ++ m) := rfl
    rw [this, ih, ← Nat.mul_assoc]; rfl
theorem strip_ok : ∀ (n p v e : Nat), 2 ≤ p → 1 ≤ v → (stripGo n p v e).1 * p ^ (stripGo n p v e).2 = v * p ^ e ∧ 1 ≤ (stripGo n p v e).1 ∧ (stripGo n p v e).1 ≤ v ∧ e ≤ (stripGo n p v e).2
  | 0, p, v, e, h, h1 => ⟨rfl, h1, Nat.le_refl _, Nat.le_refl _⟩
  | n + 1, p, v, e, h, h1 => by
    unfold stripGo
    by_cases z : v % p = 0
    · rw [if_pos z]
      have d := Nat.div_add_mod v p
      rw [z, Nat.add_zero] at d
      have hv : 1 ≤ v / p := Nat.pos_of_ne_zero fun q => by rw [q, Nat.mul_zero] at d; omega
      obtain ⟨a, b, c, g⟩ := strip_ok n p (v / p) (e + 1) h hv
      refine ⟨?_, b, Nat.le_trans c (Nat.div_le_self _ _), by omega⟩
      rw [a, Nat.pow_succ]
      conv => rhs; rw [← d]
      rw [Nat.mul_comm (p ^ e) p, ← Nat.mul_assoc, Nat.mul_comm (v / p) p]
    · rw [if_neg z]
      exact ⟨rfl, h1, Nat.le_refl _, Nat.le_refl _⟩
def Good (l : List (Nat × Nat)) : Prop := ∀ x ∈ l, 2 ≤ x.1 ∧ 1 ≤ x.2
theorem fin_ok {v : Nat} {acc : List (Nat × Nat)} (hv : 1 ≤ v) (g : Good acc) : Good (facFin v acc) ∧ prodF (facFin v acc) = prodF acc * v := by
  unfold facFin
  by_cases z : 1 < v
  · rw [if_pos z]
    refine ⟨fun x hx => ?_, ?_⟩
    · rcases List.mem_append.mp hx with h | h
      · exact g x h
      · obtain rfl := List.mem_singleton.mp h
        exact ⟨z, Nat.le_refl _⟩
    · rw [prodF_app]; simp [prodF]
  · rw [if_neg z]
    have : v = 1 := by omega
    subst this
    exact ⟨g, by simp⟩
theorem facGo_ok : ∀ (n p v : Nat) (acc : List (Nat × Nat)), 2 ≤ p → 1 ≤ v → Good acc → Good (facGo n p v acc) ∧ prodF (facGo n p v acc) = prodF acc * v
  | 0, p, v, acc, h, hv, g => fin_ok hv g
  | n + 1, p, v, acc, h, hv, g => by
    unfold facGo
    by_cases z : p * p ≤ v
    · rw [if_pos z]
      obtain ⟨a, b, c, d⟩ := strip_ok v p v 0 h hv
      generalize stripGo v p v 0 = s at a b c d
      have g2 : Good (if 0 < s.2 then acc ++ [(p, s.2)] else acc) := by
        by_cases y : 0 < s.2
        · rw [if_pos y]
          intro x hx
          rcases List.mem_append.mp hx with h' | h'
          · exact g x h'
          · obtain rfl := List.mem_singleton.mp h'
            exact ⟨h, y⟩
        · rw [if_neg y]; exact g
      obtain ⟨r1, r2⟩ := facGo_ok n (p + 1) s.1 _ (by omega) b g2
      refine ⟨r1, r2.trans ?_⟩
      by_cases y : 0 < s.2
      · rw [if_pos y, prodF_app]
        have : prodF [(p, s.2)] = p ^ s.2 := by simp [prodF]
        rw [this, Nat.mul_assoc, Nat.mul_comm (p ^ s.2), a]; simp
      · rw [if_neg y]
        have : s.2 = 0 := by omega
        rw [this] at a
        simp at a
        rw [a]
    · rw [if_neg z]
      exact fin_ok hv g
theorem facM_ok {v : Nat} (hv : 1 ≤ v) : Good (facM v) ∧ prodF (facM v) = v := by
  obtain ⟨a, b⟩ := facGo_ok v 2 v [] (by decide) hv (fun x hx => by cases hx)
  exact ⟨a, by unfold facM; rw [b]; simp [prodF]⟩
theorem prodF_pos {l : List (Nat × Nat)} (g : Good l) : 1 ≤ prodF l := by
  induction l with
  | nil => exact Nat.le_refl _
  | cons x l ih =>
    have h1 := ih fun y hy => g y (List.mem_cons_of_mem _ hy)
    have h2 : 0 < x.1 ^ x.2 := Nat.pow_pos (by have := (g x (List.mem_cons_self ..)).1; omega)
    exact Nat.mul_pos h2 h1
theorem prodF_take_le {l : List (Nat × Nat)} (g : Good l) (i : Nat) : prodF (l.take i) ≤ prodF l := by
  have e : prodF l = prodF (l.take i) * prodF (l.drop i) := by rw [← prodF_app, List.take_append_drop]
  rw [e]
  exact Nat.le_mul_of_pos_right _ (prodF_pos fun y hy => g y (List.mem_of_mem_drop hy))
theorem prodF_take_succ {l : List (Nat × Nat)} {i : Nat} {x : Nat × Nat} (h : l[i]? = some x) : prodF (l.take (i + 1)) = prodF (l.take i) * x.1 ^ x.2 := by
  rw [List.take_succ, h, prodF_app]; simp [prodF]
theorem prodF_mem_le {l : List (Nat × Nat)} (g : Good l) {x : Nat × Nat} (h : x ∈ l) : x.1 ^ x.2 ≤ prodF l := by
  induction l with
  | nil => cases h
  | cons y l ih =>
    have gl : Good l := fun z hz => g z (List.mem_cons_of_mem _ hz)
    have p1 := prodF_pos gl
    have p2 : 0 < y.1 ^ y.2 := Nat.pow_pos (by have := (g y (List.mem_cons_self ..)).1; omega)
    rcases List.mem_cons.mp h with rfl | h
    · exact Nat.le_mul_of_pos_right _ p1
    · exact Nat.le_trans (ih gl h) (Nat.le_mul_of_pos_left _ p2)
/-! orders -/
def unitsM (p e : Nat) : Nat := (p - 1) * p ^ (e - 1)
def ordLoop : Nat → Nat → Nat → Nat → Nat → Nat
  | 0, _, _, _, f => f
  | n + 1, b, m, q, f => if f % q = 0 ∧ pw b (f / q) m = 1 then ordLoop n b m q (f / q) else f
def ordM (b p e : Nat) : Nat := (facM (unitsM p e)).foldl (fun f x => ordLoop f b (p ^ e) x.1 f) (unitsM p e)
theorem units_pos {p e : Nat} (hp : 2 ≤ p) : 1 ≤ unitsM p e := Nat.mul_pos (by omega) (Nat.pow_pos (by omega))
theorem units_le {p e : Nat} (hp : 2 ≤ p) (he : 1 ≤ e) : unitsM p e ≤ p ^ e := by
  unfold unitsM
  have : e = (e - 1) + 1 := by omega
  conv => rhs; rw [this, Nat.pow_succ, Nat.mul_comm]
  exact Nat.mul_le_mul_right _ (by omega)
theorem units_div {p e : Nat} (hp : 2 ≤ p) (he : 1 ≤ e) : unitsM p e / (p - 1) * p = p ^ e := by
  unfold unitsM
  rw [Nat.mul_div_cancel_left _ (by omega : 0 < p - 1), ← Nat.pow_succ]
  congr 1; omega
theorem div_pos' {f q : Nat} (hf : 1 ≤ f) (h : f % q = 0) : 1 ≤ f / q := Nat.pos_of_ne_zero fun z => by
  have d := Nat.div_add_mod f q
  rw [h, z, Nat.mul_zero] at d
  omega
theorem ordLoop_ok : ∀ (n b m q f : Nat), 1 ≤ f → 1 ≤ ordLoop n b m q f ∧ ordLoop n b m q f ≤ f
  | 0, _, _, _, f, h => ⟨h, Nat.le_refl _⟩
  | n + 1, b, m, q, f, h => by
    unfold ordLoop
    by_cases z : f % q = 0 ∧ pw b (f / q) m = 1
    · rw [if_pos z]
      obtain ⟨a, c⟩ := ordLoop_ok n b m q (f / q) (div_pos' h z.1)
      exact ⟨a, Nat.le_trans c (Nat.div_le_self _ _)⟩
    · rw [if_neg z]
      exact ⟨h, Nat.le_refl _⟩
theorem ordFold_ok (b m : Nat) : ∀ (l : List (Nat × Nat)) (f : Nat), 1 ≤ f → 1 ≤ l.foldl (fun f x => ordLoop f b m x.1 f) f ∧ l.foldl (fun f x => ordLoop f b m x.1 f) f ≤ f
  | [], f, h => ⟨h, Nat.le_refl _⟩
  | x :: l, f, h => by
    obtain ⟨a, c⟩ := ordLoop_ok f b m x.1 f h
    obtain ⟨a2, c2⟩ := ordFold_ok b m l _ a
    exact ⟨a2, Nat.le_trans c2 c⟩
theorem ordM_ok {b p e : Nat} (hp : 2 ≤ p) : 1 ≤ ordM b p e ∧ ordM b p e ≤ unitsM p e := ordFold_ok b (p ^ e) _ _ (units_pos hp)
/-! rings -/
def lcmF (r : Nat) (l : List (Nat × Nat)) : Nat := l.foldl (fun f x => Nat.lcm f (ordM r x.1 x.2)) 1
theorem lcm_le {a b : Nat} (ha : 1 ≤ a) (hb : 1 ≤ b) : 1 ≤ Nat.lcm a b ∧ Nat.lcm a b ≤ a * b := by
  refine ⟨Nat.lcm_pos ha hb, ?_⟩
  exact Nat.le_of_dvd (Nat.mul_pos ha hb) (Nat.lcm_dvd (Nat.dvd_mul_right a b) (Nat.dvd_mul_left b a))
theorem lcmF_take {r : Nat} {l : List (Nat × Nat)} {i : Nat} {x : Nat × Nat} (h : l[i]? = some x) : lcmF r (l.take (i + 1)) = Nat.lcm (lcmF r (l.take i)) (ordM r x.1 x.2) := by
  unfold lcmF
  rw [List.take_succ, h, List.foldl_append]; rfl
theorem lcmF_ok {r : Nat} {l : List (Nat × Nat)} (g : Good l) : ∀ i, 1 ≤ lcmF r (l.take i) ∧ lcmF r (l.take i) ≤ prodF (l.take i)
  | 0 => ⟨Nat.le_refl _, Nat.le_refl _⟩
  | i + 1 => by
    obtain ⟨a, b⟩ := lcmF_ok g (r := r) i
    by_cases h : i < l.length
    · have e := List.getElem?_eq_getElem h
      have gx := g _ (List.getElem_mem h)
      rw [lcmF_take e, prodF_take_succ e]
      obtain ⟨o1, o2⟩ := ordM_ok (b := r) (e := l[i].2) gx.1
      obtain ⟨c, d⟩ := lcm_le a o1
      exact ⟨c, Nat.le_trans d (Nat.mul_le_mul b (Nat.le_trans o2 (units_le gx.1 gx.2)))⟩
    · rw [List.take_of_length_le (by omega)] at a b ⊢
      exact ⟨a, b⟩
def ringM (r last p : Nat) : Nat := if p = last then 1 else lcmF r (facM (last / Nat.gcd p last))
def turnM (r last p t : Nat) : Nat := if p = last then p else p * pw r t last % last
end E3
namespace E3
theorem two_pow_len : ∀ {l : List (Nat × Nat)}, Good l → 2 ^ l.length ≤ prodF l
  | [], _ => Nat.le_refl _
  | x :: l, g => by
    have h1 := two_pow_len (l := l) fun y hy => g y (List.mem_cons_of_mem _ hy)
    obtain ⟨a, b⟩ := g x (List.mem_cons_self ..)
    have h2 : 2 ≤ x.1 ^ x.2 := Nat.le_trans a (Nat.le_self_pow (by omega) _)
    show 2 ^ (l.length + 1) ≤ x.1 ^ x.2 * prodF l
    rw [Nat.pow_succ, Nat.mul_comm]
    exact Nat.mul_le_mul h2 h1
theorem len_lt {l : List (Nat × Nat)} (g : Good l) {V : Nat} (h : prodF l ≤ V) (hV : V < 2 ^ 40) : l.length < 40 := by
  have := two_pow_len g
  exact (Nat.pow_lt_pow_iff_right (by decide : 1 < 2)).mp (Nat.lt_of_le_of_lt (Nat.le_trans this h) hV)
theorem fac_step {p v : Nat} {acc : List (Nat × Nat)} (h : 2 ≤ p) (hv : 1 ≤ v) (g : Good acc) : Good (if 0 < (stripGo v p v 0).2 then acc ++ [(p, (stripGo v p v 0).2)] else acc) ∧
    prodF (if 0 < (stripGo v p v 0).2 then acc ++ [(p, (stripGo v p v 0).2)] else acc) * (stripGo v p v 0).1 = prodF acc * v ∧ 1 ≤ (stripGo v p v 0).1 ∧ (stripGo v p v 0).1 ≤ v := by
  obtain ⟨a, b, c, d⟩ := strip_ok v p v 0 h hv
  generalize stripGo v p v 0 = s at a b c d
  refine ⟨?_, ?_, b, c⟩
  · by_cases y : 0 < s.2
    · rw [if_pos y]
      intro x hx
      rcases List.mem_append.mp hx with h' | h'
      · exact g x h'
      · obtain rfl := List.mem_singleton.mp h'
        exact ⟨h, y⟩
    · rw [if_neg y]; exact g
  · by_cases y : 0 < s.2
    · rw [if_pos y, prodF_app]
      have : prodF [(p, s.2)] = p ^ s.2 := by simp [prodF]
      rw [this, Nat.mul_assoc, Nat.mul_comm (p ^ s.2), a]; simp
    · rw [if_neg y]
      have : s.2 = 0 := by omega
      rw [this] at a
      simp at a
      rw [a]
theorem exp_lt {l : List (Nat × Nat)} (g : Good l) {V : Nat} (h : prodF l ≤ V) (hV : V < 2 ^ 40) {x : Nat × Nat} (hx : x ∈ l) : x.1 < 2 ^ 40 ∧ x.2 < 40 ∧ x.1 ^ x.2 < 2 ^ 40 := by
  obtain ⟨a, b⟩ := g x hx
  have h1 : x.1 ^ x.2 < 2 ^ 40 := Nat.lt_of_le_of_lt (Nat.le_trans (prodF_mem_le g hx) h) hV
  refine ⟨Nat.lt_of_le_of_lt (Nat.le_self_pow (by omega) _) h1, ?_, h1⟩
  exact (Nat.pow_lt_pow_iff_right (by decide : 1 < 2)).mp (Nat.lt_of_le_of_lt (Nat.pow_le_pow_left a _) h1)
end E3

set_option linter.all false
set_option maxHeartbeats 400000
/-! rings: the mirrors of the dicts -/
namespace E3
end E3

set_option linter.all false
set_option maxHeartbeats 400000
/-! primes, powers, Euler's theorem for powers of a prime -/
namespace E3
def Pr (p : Nat) : Prop := 2 ≤ p ∧ ∀ d, d ∣ p → d = 1 ∨ d = p
theorem Pr.cop {p : Nat} (h : Pr p) (x : Nat) (n : ¬ p ∣ x) : Nat.Coprime p x := by
  rcases h.2 _ (Nat.gcd_dvd_left p x) with e | e
  · exact e
  · exact absurd (e ▸ Nat.gcd_dvd_right p x) n
theorem Pr.mul {p a b : Nat} (h : Pr p) (d : p ∣ a * b) : p ∣ a ∨ p ∣ b := by
  by_cases n : p ∣ a
  · exact .inl n
  · exact .inr ((h.cop a n).dvd_of_dvd_mul_left d)
theorem Pr.pow {p a : Nat} (h : Pr p) : ∀ n : Nat, p ∣ a ^ n → p ∣ a
  | 0, d => by
    rw [Nat.pow_zero] at d
    have := Nat.le_of_dvd (by decide) d
    have := h.1
    omega
  | n + 1, d => (h.mul (Nat.pow_succ a n ▸ d)).elim (Pr.pow h n) id
theorem Pr.same {p q : Nat} (hp : Pr p) (hq : Pr q) (d : p ∣ q) : p = q := (hq.2 p d).elim (fun e => absurd e (by have := hp.1; omega)) id
theorem pr_div : ∀ n, 2 ≤ n → ∃ q, Pr q ∧ q ∣ n := by
  intro n
  induction n using Nat.strongRecOn with
  | _ n ih =>
    intro h
    by_cases p : Pr n
    · exact ⟨n, p, Nat.dvd_refl n⟩
    · have : ∃ d, d ∣ n ∧ d ≠ 1 ∧ d ≠ n := by
        refine Classical.byContradiction fun z => p ⟨h, fun d hd => ?_⟩
        by_cases e : d = 1
        · exact .inl e
        · by_cases e2 : d = n
          · exact .inr e2
          · exact absurd ⟨d, hd, e, e2⟩ z
      obtain ⟨d, hd, d1, d2⟩ := this
      have dl := Nat.le_of_dvd (by omega) hd
      have d0 : d ≠ 0 := fun z => by subst z; have := Nat.eq_zero_of_zero_dvd hd; omega
      obtain ⟨q, hq, hqd⟩ := ih d (by omega) (by omega)
      exact ⟨q, hq, Nat.dvd_trans hqd hd⟩
/-! a list mapped into itself -/
theorem perm_of : ∀ {a b : List Nat}, a.Nodup → b.length ≤ a.length → (∀ x ∈ a, x ∈ b) → a.Perm b
  | [], b, _, h, _ => by
    have : b = [] := List.length_eq_zero_iff.mp (by simpa using h)
    rw [this]
  | x :: a, b, n, h, s => by
    have hx := s x (List.mem_cons_self ..)
    have nn := List.nodup_cons.mp n
    have p := List.perm_cons_erase hx
    refine (List.Perm.cons x (perm_of nn.2 ?_ fun y hy => ?_)).trans p.symm
    · rw [List.length_erase_of_mem hx]
      simp at h
      omega
    · have hne : y ≠ x := fun e => nn.1 (e ▸ hy)
      exact (List.mem_erase_of_ne hne).mpr (s y (List.mem_cons_of_mem _ hy))
theorem map_perm {l : List Nat} {f : Nat → Nat} (n : l.Nodup) (i : ∀ x ∈ l, ∀ y ∈ l, f x = f y → x = y) (s : ∀ x ∈ l, f x ∈ l) : (l.map f).Perm l := by
  refine perm_of ?_ (by rw [List.length_map]; exact Nat.le_refl _) fun y hy => ?_
  · rw [List.Nodup, List.pairwise_map]
    exact List.Pairwise.imp_of_mem (fun {a b} ha hb hab e => hab (i a ha b hb e)) n
  · obtain ⟨x, hx, e⟩ := List.mem_map.mp hy
    exact e ▸ s x hx
def prodL (l : List Nat) : Nat := l.foldr (· * ·) 1
theorem prodL_perm {a b : List Nat} (p : a.Perm b) : prodL a = prodL b := by
  induction p with
  | nil => rfl
  | cons x _ ih => show x * prodL _ = x * prodL _; rw [ih]
  | swap x y l => show y * (x * prodL l) = x * (y * prodL l); rw [← Nat.mul_assoc, ← Nat.mul_assoc, Nat.mul_comm y x]
  | trans _ _ h1 h2 => rw [h1, h2]
theorem prodL_map (r m : Nat) : ∀ l : List Nat, prodL (l.map fun x => r * x % m) % m = r ^ l.length * prodL l % m
  | [] => by simp [prodL]
  | x :: l => by
    show (r * x % m * prodL (l.map fun x => r * x % m)) % m = r ^ (l.length + 1) * (x * prodL l) % m
    rw [Nat.mul_mod, prodL_map r m l, Nat.mod_mod, ← Nat.mul_mod]
    congr 1
    rw [Nat.pow_succ]
    simp only [Nat.mul_assoc, Nat.mul_left_comm, Nat.mul_comm]
theorem prodL_cop {m : Nat} : ∀ {l : List Nat}, (∀ x ∈ l, Nat.Coprime m x) → Nat.Coprime m (prodL l)
  | [], _ => Nat.coprime_one_right m
  | x :: l, h => (h x (List.mem_cons_self ..)).mul_right (prodL_cop fun y hy => h y (List.mem_cons_of_mem _ hy))
def unitsL (p k : Nat) : List Nat := (List.range (p * k)).filter fun x => decide (¬ x % p = 0)
theorem unitsL_len {p : Nat} (hp : 2 ≤ p) : ∀ k, (unitsL p k).length = (p - 1) * k
  | 0 => rfl
  | k + 1 => by
    have e : unitsL p (k + 1) = unitsL p k ++ ((List.range p).map (p * k + ·)).filter fun x => decide (¬ x % p = 0) := by
      unfold unitsL
      rw [Nat.mul_succ, List.range_add, List.filter_append]
    rw [e, List.length_append, unitsL_len hp k, List.filter_map, List.length_map]
    have e2 : (List.range p).filter ((fun x => decide (¬ x % p = 0)) ∘ fun x => p * k + x) = (List.range p).filter (fun x => decide (¬ x = 0)) := by
      refine List.filter_congr fun x hx => ?_
      have hx := List.mem_range.mp hx
      simp only [Function.comp, Nat.mul_add_mod, Nat.mod_eq_of_lt hx]
    rw [e2]
    have e3 : ∀ n, ((List.range (n + 1)).filter (fun x => decide (¬ x = 0))).length = n := by
      intro n
      induction n with
      | zero => rfl
      | succ n ih => rw [List.range_succ, List.filter_append, List.length_append, ih]; simp
    have := e3 (p - 1)
    rw [show p - 1 + 1 = p by omega] at this
    rw [this, Nat.mul_succ]
theorem euler {p r j : Nat} (hp : Pr p) (hr : ¬ p ∣ r) (hj : 1 ≤ j) : r ^ unitsM p j % p ^ j = 1 % p ^ j := by
  have p2 := hp.1
  obtain ⟨k, hk⟩ : ∃ k, k = p ^ (j - 1) := ⟨_, rfl⟩
  have em : p ^ j = p * k := by rw [hk, ← Nat.pow_succ']; congr 1; omega
  have kp : 0 < k := hk ▸ Nat.pow_pos (by omega)
  have eu : unitsM p j = (unitsL p k).length := by rw [unitsL_len p2]; unfold unitsM; rw [hk]
  rw [eu]
  have cop : ∀ x, ¬ p ∣ x → Nat.Coprime (p ^ j) x := fun x hx => Nat.Coprime.pow_left j (hp.cop x hx)
  have mem : ∀ x, x ∈ unitsL p k ↔ x < p * k ∧ ¬ p ∣ x := fun x => by
    unfold unitsL
    rw [List.mem_filter, List.mem_range, decide_eq_true_eq, Nat.dvd_iff_mod_eq_zero]
  generalize hm : p ^ j = m at em cop
  have m0 : 0 < m := by rw [em]; exact Nat.mul_pos (by omega) kp
  have pm : p ∣ m := em ▸ Nat.dvd_mul_right p k
  have nd : (unitsL p k).Nodup := List.Pairwise.filter _ List.nodup_range
  have ps : ∀ x ∈ unitsL p k, r * x % m ∈ unitsL p k := fun x hx => by
    obtain ⟨_, h2⟩ := (mem x).mp hx
    refine (mem _).mpr ⟨em ▸ Nat.mod_lt _ m0, fun d => ?_⟩
    have : p ∣ r * x := (Nat.dvd_mod_iff pm).mp d
    exact (hp.mul this).elim hr h2
  have inj : ∀ x ∈ unitsL p k, ∀ y ∈ unitsL p k, r * x % m = r * y % m → x = y := fun x hx y hy e => by
    have hx1 := ((mem x).mp hx).1
    have hy1 := ((mem y).mp hy).1
    have key : ∀ a b : Nat, a < m → b ≤ a → r * a % m = r * b % m → a = b := fun a b ha hab e => by
      have h := Nat.sub_mod_eq_zero_of_mod_eq e
      rw [← Nat.mul_sub] at h
      have h2 : m ∣ a - b := (cop r hr).dvd_of_dvd_mul_left (Nat.dvd_of_mod_eq_zero h)
      have := Nat.eq_zero_of_dvd_of_lt h2 (by omega)
      omega
    rcases Nat.le_total x y with h | h
    · exact (key y x (em ▸ hy1) h e.symm).symm
    · exact key x y (em ▸ hx1) h e
  have pe := prodL_perm (map_perm nd inj ps)
  have h1 := prodL_map r m (unitsL p k)
  rw [pe] at h1
  have c := prodL_cop (m := m) (l := unitsL p k) fun x hx => cop x ((mem x).mp hx).2
  have r1 : 1 ≤ r ^ (unitsL p k).length := Nat.pow_pos (Nat.pos_of_ne_zero fun z => hr (z ▸ Nat.dvd_zero p))
  have h2 : (r ^ (unitsL p k).length * prodL (unitsL p k)) % m = (1 * prodL (unitsL p k)) % m := by rw [Nat.one_mul]; exact h1.symm
  have h3 := Nat.sub_mod_eq_zero_of_mod_eq h2
  rw [← Nat.sub_mul] at h3
  have h4 : m ∣ r ^ (unitsL p k).length - 1 := c.dvd_of_dvd_mul_right (Nat.dvd_of_mod_eq_zero h3)
  have h5 : r ^ (unitsL p k).length = 1 + (r ^ (unitsL p k).length - 1) := by omega
  rw [h5, Nat.add_mod, Nat.mod_eq_zero_of_dvd h4, Nat.add_zero, Nat.mod_mod]
end E3

set_option linter.all false
set_option maxHeartbeats 400000
/-! the factors are primes; the order -/
namespace E3
theorem strip_nd : ∀ (n p v e : Nat), 2 ≤ p → 1 ≤ v → v ≤ n → ¬ p ∣ (stripGo n p v e).1
  | 0, p, v, e, h, h1, h2 => by omega
  | n + 1, p, v, e, h, h1, h2 => by
    unfold stripGo
    by_cases z : v % p = 0
    · rw [if_pos z]
      have := Nat.div_lt_self (show 0 < v by omega) (show 1 < p by omega)
      exact strip_nd n p (v / p) (e + 1) h (div_pos' h1 z) (by omega)
    · rw [if_neg z]
      exact fun d => z (Nat.mod_eq_zero_of_dvd d)
theorem strip_pos {p v : Nat} (h : 2 ≤ p) (h1 : 1 ≤ v) (h2 : 0 < (stripGo v p v 0).2) : p ∣ v := by
  by_cases z : v % p = 0
  · exact Nat.dvd_of_mod_eq_zero z
  · exfalso
    have e : stripGo v p v 0 = (v, 0) := by
      match v, h1 with
      | k + 1, _ => exact if_neg z
    rw [e] at h2
    exact absurd h2 (Nat.lt_irrefl 0)
def Asc (l : List (Nat × Nat)) : Prop := (∀ x ∈ l, Pr x.1) ∧ l.Pairwise (fun x y => x.1 < y.1)
theorem pr_min {p : Nat} (h : 2 ≤ p) {v : Nat} (d : p ∣ v) (hq : ∀ q, 2 ≤ q → q < p → ¬ q ∣ v) : Pr p := by
  refine ⟨h, fun q hqp => ?_⟩
  have ql := Nat.le_of_dvd (by omega) hqp
  have q0 : q ≠ 0 := fun z => by rw [z] at hqp; have := Nat.eq_zero_of_zero_dvd hqp; omega
  by_cases e : q = 1
  · exact .inl e
  · by_cases e2 : q = p
    · exact .inr e2
    · exact absurd (Nat.dvd_trans hqp d) (hq q (by omega) (by omega))
theorem fin_pr {p v : Nat} {acc : List (Nat × Nat)} (h : 2 ≤ p) (hv : 1 ≤ v) (hq : ∀ q, 2 ≤ q → q < p → ¬ q ∣ v) (pv : v < p * p) (ha : Asc acc) (hl : ∀ x ∈ acc, x.1 < p) : Asc (facFin v acc) := by
  unfold facFin
  by_cases z : 1 < v
  · rw [if_pos z]
    have pl : p ≤ v := Nat.le_of_not_lt fun c => hq v z c (Nat.dvd_refl v)
    have vp : Pr v := by
      refine ⟨z, fun d hd => ?_⟩
      obtain ⟨e, rfl⟩ := hd
      by_cases d1 : d = 1
      · exact .inl d1
      · have d0 : d ≠ 0 := fun c => by subst c; simp at z
        have dp : p ≤ d := Nat.le_of_not_lt fun c => hq d (by omega) c (Nat.dvd_mul_right d e)
        by_cases e1 : e = 1
        · exact .inr (by rw [e1, Nat.mul_one])
        · have e0 : e ≠ 0 := fun c => by subst c; simp at z
          have ep : p ≤ e := Nat.le_of_not_lt fun c => hq e (by omega) c (Nat.dvd_mul_left e d)
          have := Nat.mul_le_mul dp ep
          omega
    refine ⟨fun x hx => ?_, List.pairwise_append.mpr ⟨ha.2, List.pairwise_singleton _ _, fun x hx y hy => ?_⟩⟩
    · rcases List.mem_append.mp hx with c | c
      · exact ha.1 x c
      · obtain rfl := List.mem_singleton.mp c
        exact vp
    · obtain rfl := List.mem_singleton.mp hy
      have := hl x hx
      show x.1 < v
      omega
  · rw [if_neg z]
    exact ha
theorem facGo_pr : ∀ (n p v : Nat) (acc : List (Nat × Nat)), v + 2 ≤ n + p → 2 ≤ p → 1 ≤ v → (∀ q, 2 ≤ q → q < p → ¬ q ∣ v) → Asc acc → (∀ x ∈ acc, x.1 < p) → Asc (facGo n p v acc)
  | 0, p, v, acc, hf, h, hv, hq, ha, hl => fin_pr h hv hq (by
      have : p ≤ p * p := Nat.le_mul_of_pos_left p (by omega)
      omega) ha hl
  | n + 1, p, v, acc, hf, h, hv, hq, ha, hl => by
    unfold facGo
    by_cases z : p * p ≤ v
    · rw [if_pos z]
      obtain ⟨a, b, c, d⟩ := strip_ok v p v 0 h hv
      have nd := strip_nd v p v 0 h hv (Nat.le_refl _)
      have sp := strip_pos (v := v) h hv
      have pv : p ≤ v := Nat.le_trans (Nat.le_mul_of_pos_left p (by omega)) z
      generalize stripGo v p v 0 = s at a b c d nd sp
      have sv : s.1 ∣ v := ⟨p ^ s.2, by rw [a]; simp⟩
      refine facGo_pr n (p + 1) s.1 _ (by omega) (by omega) b (fun q q2 ql hd => ?_) ?_ ?_
      · by_cases e : q = p
        · subst e; exact nd hd
        · exact hq q q2 (by omega) (Nat.dvd_trans hd sv)
      · by_cases y : 0 < s.2
        · rw [if_pos y]
          refine ⟨fun x hx => ?_, List.pairwise_append.mpr ⟨ha.2, List.pairwise_singleton _ _, fun x hx y hy => ?_⟩⟩
          · rcases List.mem_append.mp hx with c | c
            · exact ha.1 x c
            · obtain rfl := List.mem_singleton.mp c
              exact pr_min h (sp y) hq
          · obtain rfl := List.mem_singleton.mp hy
            exact hl x hx
        · rw [if_neg y]; exact ha
      · by_cases y : 0 < s.2
        · rw [if_pos y]
          intro x hx
          rcases List.mem_append.mp hx with c | c
          · have := hl x c; omega
          · obtain rfl := List.mem_singleton.mp c
            exact Nat.lt_succ_self p
        · rw [if_neg y]
          intro x hx
          have := hl x hx; omega
    · rw [if_neg z]
      exact fin_pr h hv hq (by omega) ha hl
theorem facM_pr {v : Nat} (hv : 1 ≤ v) : Asc (facM v) := facGo_pr v 2 v [] (Nat.le_refl _) (Nat.le_refl _) hv (fun q a b => by omega) ⟨fun x hx => (by cases hx), List.Pairwise.nil⟩ (fun x hx => by cases hx)
/-! powers that leave 1 -/
section
variable {r m : Nat}
def Ex (r m a : Nat) : Prop := r ^ a % m = 1
theorem Ex.zero (h : 2 ≤ m) : Ex r m 0 := by unfold Ex; rw [Nat.pow_zero]; exact Nat.mod_eq_of_lt h
theorem Ex.add (h : 2 ≤ m) {a b : Nat} (ha : Ex r m a) : Ex r m (a + b) ↔ Ex r m b := by
  unfold Ex at *
  rw [Nat.pow_add, Nat.mul_mod, ha, Nat.one_mul, Nat.mod_mod]
theorem Ex.mul (h : 2 ≤ m) {a : Nat} (ha : Ex r m a) : ∀ k, Ex r m (a * k)
  | 0 => Ex.zero h
  | k + 1 => by rw [Nat.mul_succ, Nat.add_comm]; exact (Ex.add h ha).mpr (Ex.mul h ha k)
theorem Ex.mod (h : 2 ≤ m) {a b : Nat} (ha : Ex r m a) (hb : Ex r m b) : Ex r m (b % a) := by
  have e := Nat.div_add_mod b a
  rw [← e] at hb
  have := (Ex.add h (Ex.mul h ha (b / a)) (b := b % a)).mp hb
  exact this
theorem Ex.gcd (h : 2 ≤ m) : ∀ (a b : Nat), Ex r m a → Ex r m b → Ex r m (Nat.gcd a b) := by
  intro a b
  induction a, b using Nat.gcd.induction with
  | H0 n => intro _ hb; rw [Nat.gcd_zero_left]; exact hb
  | H1 a b ha ih => intro h1 h2; rw [Nat.gcd_rec]; exact ih (Ex.mod h h1 h2) h1
theorem Ex.order (h : 2 ≤ m) {f : Nat} (f1 : 1 ≤ f) (hf : Ex r m f) (hq : ∀ q, Pr q → q ∣ f → ¬ Ex r m (f / q)) (k : Nat) : Ex r m k ↔ f ∣ k := by
  refine ⟨fun hk => ?_, fun ⟨c, e⟩ => e ▸ Ex.mul h hf c⟩
  have hg := Ex.gcd h f k hf hk
  obtain ⟨c, hc⟩ := Nat.gcd_dvd_left f k
  by_cases e : c = 1
  · rw [e, Nat.mul_one] at hc
    rw [hc]; exact Nat.gcd_dvd_right f k
  · have c0 : c ≠ 0 := fun z => by rw [z] at hc; omega
    obtain ⟨q, pq, d, hd⟩ := pr_div c (by omega)
    have q0 : 0 < q := by have := pq.1; omega
    have e1 : f = q * (Nat.gcd f k * d) := by
      conv => lhs; rw [hc, hd]
      simp only [Nat.mul_left_comm]
    have e2 : f / q = Nat.gcd f k * d := Nat.div_eq_of_eq_mul_right q0 e1
    exact absurd (e2 ▸ Ex.mul h hg d) (hq q pq ⟨_, e1⟩)
end
theorem pw_ex {r m a : Nat} (h : 1 ≤ a) : pw r a m = 1 ↔ Ex r m a := by unfold pw Ex; rw [if_neg (by omega)]
theorem ordLoop_ex {r m q : Nat} (h : 2 ≤ m) (q2 : 2 ≤ q) : ∀ (n f : Nat), 1 ≤ f → f ≤ n → Ex r m f → Ex r m (ordLoop n r m q f) ∧ ordLoop n r m q f ∣ f ∧ ¬ (q ∣ ordLoop n r m q f ∧ Ex r m (ordLoop n r m q f / q))
  | 0, f, h1, h2, _ => by omega
  | n + 1, f, h1, h2, he => by
    unfold ordLoop
    by_cases z : f % q = 0 ∧ pw r (f / q) m = 1
    · rw [if_pos z]
      have p1 := div_pos' h1 z.1
      have dl := Nat.div_lt_self (show 0 < f by omega) (show 1 < q by omega)
      obtain ⟨a, b, c⟩ := ordLoop_ex h q2 n (f / q) p1 (by omega) ((pw_ex p1).mp z.2)
      exact ⟨a, Nat.dvd_trans b (Nat.div_dvd_of_dvd (Nat.dvd_of_mod_eq_zero z.1)), c⟩
    · rw [if_neg z]
      refine ⟨he, Nat.dvd_refl f, fun w => z ⟨Nat.mod_eq_zero_of_dvd w.1, (pw_ex (div_pos' h1 (Nat.mod_eq_zero_of_dvd w.1))).mpr w.2⟩⟩
theorem keep_nd {r m q f g : Nat} (h : 2 ≤ m) (q2 : 2 ≤ q) (d : g ∣ f) (f1 : 1 ≤ f) (n : ¬ (q ∣ f ∧ Ex r m (f / q))) : ¬ (q ∣ g ∧ Ex r m (g / q)) := fun ⟨a, b⟩ => by
  obtain ⟨c, hc⟩ := d
  obtain ⟨e, he⟩ := a
  refine n ⟨Nat.dvd_trans ⟨e, he⟩ ⟨c, hc⟩, ?_⟩
  have q0 : 0 < q := by omega
  have e1 : g / q = e := Nat.div_eq_of_eq_mul_right q0 he
  have e2 : f / q = e * c := Nat.div_eq_of_eq_mul_right q0 (by rw [hc, he, Nat.mul_assoc])
  rw [e2]
  exact Ex.mul h (e1 ▸ b) c
theorem ordFold_ex {r m : Nat} (h : 2 ≤ m) : ∀ (l : List (Nat × Nat)), Good l → ∀ f, 1 ≤ f → Ex r m f → Ex r m (l.foldl (fun f x => ordLoop f r m x.1 f) f) ∧ l.foldl (fun f x => ordLoop f r m x.1 f) f ∣ f ∧ ∀ x ∈ l, ¬ (x.1 ∣ l.foldl (fun f x => ordLoop f r m x.1 f) f ∧ Ex r m (l.foldl (fun f x => ordLoop f r m x.1 f) f / x.1))
  | [], _, f, h1, he => ⟨he, Nat.dvd_refl f, fun x hx => by cases hx⟩
  | y :: l, g, f, h1, he => by
    have gy := g y (List.mem_cons_self ..)
    obtain ⟨a, b, c⟩ := ordLoop_ex h gy.1 f f h1 (Nat.le_refl _) he
    have p1 := (ordLoop_ok f r m y.1 f h1).1
    obtain ⟨a2, b2, c2⟩ := ordFold_ex h l (fun z hz => g z (List.mem_cons_of_mem _ hz)) (ordLoop f r m y.1 f) p1 a
    refine ⟨a2, Nat.dvd_trans b2 b, fun x hx => ?_⟩
    rcases List.mem_cons.mp hx with rfl | hx
    · exact keep_nd h gy.1 b2 p1 c
    · exact c2 x hx
theorem pr_in : ∀ {l : List (Nat × Nat)} {q : Nat}, Pr q → q ∣ prodF l → Asc l → ∃ x ∈ l, x.1 = q
  | [], q, hq, d, _ => by
    have := Nat.le_of_dvd (by decide) d
    have := hq.1
    simp [prodF] at *
    omega
  | x :: l, q, hq, d, a => by
    have d2 : q ∣ x.1 ^ x.2 * prodF l := d
    rcases hq.mul d2 with e | e
    · exact ⟨x, List.mem_cons_self .., (hq.same (a.1 x (List.mem_cons_self ..)) (hq.pow _ e)).symm⟩
    · obtain ⟨y, hy, e2⟩ := pr_in hq e ⟨fun z hz => a.1 z (List.mem_cons_of_mem _ hz), (List.pairwise_cons.mp a.2).2⟩
      exact ⟨y, List.mem_cons_of_mem _ hy, e2⟩
/-- the order -/
theorem ord_iff {r p e : Nat} (hp : Pr p) (he : 1 ≤ e) (hr : ¬ p ∣ r) (k : Nat) : Ex r (p ^ e) k ↔ ordM r p e ∣ k := by
  have p2 := hp.1
  have m2 : 2 ≤ p ^ e := Nat.le_trans p2 (Nat.le_self_pow (by omega) _)
  have u1 := units_pos (e := e) p2
  have eu : Ex r (p ^ e) (unitsM p e) := by
    have := euler hp hr he
    rw [Nat.mod_eq_of_lt m2] at this
    exact this
  obtain ⟨g, hpd⟩ := facM_ok u1
  obtain ⟨a, b, c⟩ := ordFold_ex m2 (facM (unitsM p e)) g (unitsM p e) u1 eu
  refine Ex.order m2 (ordM_ok p2).1 a (fun q hq hd => ?_) k
  obtain ⟨x, hx, ex⟩ := pr_in hq (by rw [hpd]; exact Nat.dvd_trans hd b) (facM_pr u1)
  have := c x hx
  rw [ex] at this
  exact fun z => this ⟨hd, z⟩
end E3

set_option linter.all false
set_option maxHeartbeats 400000
/-! sums over the dict of the lengths -/
namespace E3
theorem cop_prod {p : Nat} (hp : Pr p) : ∀ {l : List (Nat × Nat)}, Asc l → (∀ x ∈ l, p ≠ x.1) → ¬ p ∣ prodF l
  | [], _, _, d => by
    have := Nat.le_of_dvd (by decide) d
    have := hp.1
    simp [prodF] at *
    omega
  | x :: l, a, n, d => by
    have d2 : p ∣ x.1 ^ x.2 * prodF l := d
    rcases hp.mul d2 with e | e
    · exact n x (List.mem_cons_self ..) (hp.same (a.1 x (List.mem_cons_self ..)) (hp.pow _ e))
    · exact cop_prod hp ⟨fun z hz => a.1 z (List.mem_cons_of_mem _ hz), (List.pairwise_cons.mp a.2).2⟩ (fun z hz => n z (List.mem_cons_of_mem _ hz)) e
theorem asc_tail {x : Nat × Nat} {l : List (Nat × Nat)} (a : Asc (x :: l)) : Asc l := ⟨fun z hz => a.1 z (List.mem_cons_of_mem _ hz), (List.pairwise_cons.mp a.2).2⟩
theorem asc_ne {x : Nat × Nat} {l : List (Nat × Nat)} (a : Asc (x :: l)) : ∀ y ∈ l, x.1 ≠ y.1 := fun y hy => Nat.ne_of_lt ((List.pairwise_cons.mp a.2).1 y hy)
end E3

set_option linter.all false
set_option maxHeartbeats 400000
/-! few divisors; Euclid's steps; the rings of small tables, turn by turn -/
namespace E3
/-! Euclid's steps -/
/-! turn by turn; m: the places seen, as bits -/
def nxN (r c p : Nat) : Nat := p % c * r + p / c
end E3

set_option linter.all false
set_option maxHeartbeats 400000
/-! what rings tells -/
namespace E3
/-- rows, columns, the last place -/
structure Rc (r c L : Nat) : Prop where
  r1 : 1 ≤ r
  c1 : 1 ≤ c
  e : r * c = L + 1
theorem Rc.swap {r c L : Nat} (h : Rc r c L) : Rc c r L := ⟨h.c1, h.r1, by rw [Nat.mul_comm]; exact h.e⟩
theorem Rc.nd {r c L : Nat} (h : Rc r c L) {p : Nat} (hp : 2 ≤ p) (d : p ∣ L) : ¬ p ∣ r := fun z => by
  have h1 : p ∣ L + 1 := h.e ▸ Nat.dvd_trans z (Nat.dvd_mul_right r c)
  have h2 : p ∣ 1 := (Nat.dvd_add_right d).mp h1
  have := Nat.le_of_dvd (by decide) h2
  omega
theorem fac_dvd {l : List (Nat × Nat)} {x : Nat × Nat} (h : x ∈ l) : x.1 ^ x.2 ∣ prodF l := by
  induction l with
  | nil => cases h
  | cons y l ih =>
    rcases List.mem_cons.mp h with rfl | h
    · exact Nat.dvd_mul_right _ _
    · exact Nat.dvd_trans (ih h) (Nat.dvd_mul_left _ _)
theorem fac_dvd1 {l : List (Nat × Nat)} {x : Nat × Nat} (b : 1 ≤ x.2) (h : x ∈ l) : x.1 ∣ prodF l := by
  have e : x.1 ∣ x.1 ^ x.2 := by
    have := Nat.pow_dvd_pow x.1 b
    rw [Nat.pow_one] at this
    exact this
  exact Nat.dvd_trans e (fac_dvd h)
/-! the ring of a place -/
theorem ord_iff0 {r p : Nat} (hp : Pr p) (hr : ¬ p ∣ r) (v t : Nat) : (if v = 0 then 1 else ordM r p v) ∣ t ↔ p ^ v ∣ r ^ t - 1 := by
  by_cases z : v = 0
  · rw [if_pos z, z, Nat.pow_zero]
    exact ⟨fun _ => Nat.one_dvd _, fun _ => Nat.one_dvd _⟩
  · rw [if_neg z, ← ord_iff hp (by omega) hr]
    have p2 := hp.1
    have m2 : 2 ≤ p ^ v := Nat.le_trans p2 (Nat.le_self_pow (by omega) _)
    have r1 : 1 ≤ r ^ t := Nat.pow_pos (Nat.pos_of_ne_zero fun z => hr (z ▸ Nat.dvd_zero p))
    unfold Ex
    constructor
    · intro h
      exact Nat.dvd_of_mod_eq_zero (Nat.sub_mod_eq_zero_of_mod_eq (h.trans (Nat.mod_eq_of_lt m2).symm))
    · intro h
      have h5 : r ^ t = 1 + (r ^ t - 1) := by omega
      rw [h5, Nat.add_mod, Nat.mod_eq_zero_of_dvd h, Nat.add_zero, Nat.mod_mod, Nat.mod_eq_of_lt m2]
theorem lcm_iff (a b t : Nat) : Nat.lcm a b ∣ t ↔ a ∣ t ∧ b ∣ t := ⟨fun h => ⟨Nat.dvd_trans (Nat.dvd_lcm_left _ _) h, Nat.dvd_trans (Nat.dvd_lcm_right _ _) h⟩, fun h => Nat.lcm_dvd h.1 h.2⟩
theorem mul_iff {a b x : Nat} (c : Nat.Coprime a b) : a * b ∣ x ↔ a ∣ x ∧ b ∣ x := ⟨fun h => ⟨Nat.dvd_trans (Nat.dvd_mul_right _ _) h, Nat.dvd_trans (Nat.dvd_mul_left _ _) h⟩, fun h => c.mul_dvd_of_dvd_of_dvd h.1 h.2⟩
theorem lcmF_iff {r : Nat} : ∀ (l : List (Nat × Nat)) (f : Nat), Good l → Asc l → (∀ x ∈ l, ¬ x.1 ∣ r) → ∀ t, l.foldl (fun f x => Nat.lcm f (ordM r x.1 x.2)) f ∣ t ↔ f ∣ t ∧ prodF l ∣ r ^ t - 1
  | [], f, _, _, _, t => ⟨fun h => ⟨h, Nat.one_dvd _⟩, fun h => h.1⟩
  | x :: l, f, g, a, hr, t => by
    have px := a.1 x (List.mem_cons_self ..)
    have c : Nat.Coprime (x.1 ^ x.2) (prodF l) := Nat.Coprime.pow_left _ (px.cop _ (cop_prod px (asc_tail a) (asc_ne a)))
    have o := ord_iff0 px (hr x (List.mem_cons_self ..)) x.2 t
    rw [if_neg (by have := (g x (List.mem_cons_self ..)).2; omega)] at o
    show l.foldl (fun f x => Nat.lcm f (ordM r x.1 x.2)) (Nat.lcm f (ordM r x.1 x.2)) ∣ t ↔ f ∣ t ∧ x.1 ^ x.2 * prodF l ∣ r ^ t - 1
    rw [lcmF_iff l _ (fun y hy => g y (List.mem_cons_of_mem _ hy)) (asc_tail a) (fun y hy => hr y (List.mem_cons_of_mem _ hy)) t, lcm_iff, mul_iff c, o]
    exact and_assoc
/-! squares, single rows -/
end E3

set_option Elab.async false
set_option linter.all false
set_option maxRecDepth 100000
set_option maxHeartbeats 4000000
/-! An own exception class called with one keyword: the maker takes it and lets it be, the own __init__ gets it. -/
namespace KwE
open PySem PySem.W PySem.Calls PyProof.Rows PySem.HandSPX
section
variable {prog : Program} {w : World} {A : Around} {E : Value → Shared → Prop} {R : Result → Shared → Prop} {hp : Heap} {gs : Array GenState} {dr : Drawn} {tk : Nat} {os : OsState}
variable {nm q : Str} {C N fI : Addr} {bs bm bmB : List Value} {hd : Bool} {sn : List Str} {sub : List Value} {ab : Bool} {col : Option Bool} {dd : Option Addr} {k0 k1 k2 k3 k5 : Option Value} {B new_ init_ : String} {us : List Value} {kn : Str} {kv : Value}
/-- what the class's line says of the base's names -/
structure Line (B : String) (C : Addr) (bm : List Value) : Prop where
  b : (Value.ref C :: bm).contains (.type B) = true
  a : (Value.ref C :: bm).contains (.type "AttributeError") = false
  n : (Value.ref C :: bm).contains (.type "NameError") = false
theorem Line.of (F : ExcBaseFacts B new_ init_ bmB) (same : ∀ X : String, bm.contains (.type X) = bmB.contains (.type X)) : Line B C bm := by
  constructor <;> rw [List.contains_cons, same]
  · rw [F.hasB, Bool.or_true]
  · rw [F.noAttr]; rfl
  · rw [F.noName]; rfl
end
end KwE

set_option Elab.async false
set_option linter.all false
set_option maxRecDepth 100000
set_option maxHeartbeats 4000000
namespace PySem.W
open PySem PySem.Spec PySem.Calls PyProof.Rows
section
variable {prog : Program} {w : World} {A : Around} {E : Value → Shared → Prop} {s : Shared} {K : Frag} {x D : Addr} {ox : Obj} {od : Option Obj}
end
end PySem.W
namespace L2
open PySem PySem.Spec PyProof.Rows
/-- an exception object of the own class at C: with its attributes, or bare -/
inductive ExT (H : Hp) (e C : Addr) : List (Str × V) → Prop where
  | own {d : Addr} {fs : List (Str × V)} (h1 : H e = some (exo e C (some d))) (h2 : H d = some (exd d fs)) : ExT H e C fs
  | bare (h : H e = some (ExO (.ref C) e)) : ExT H e C []
theorem ExT.same {H H' : Hp} {e C : Addr} {fs : List (Str × V)} (S : Same H H') : ExT H e C fs → ExT H' e C fs
  | .own h1 h2 => .own (S _ _ h1) (S _ _ h2)
  | .bare h => .bare (S _ _ h)
section
variable {X : Cx} {pins : List (Addr × Obj)} {σ : St} {H : Hp} {s : Shared} {e C : Addr} {fs : List (Str × V)}
end
/-- __init__(self, f): self.f = f -/
def spExI (K : PySem.W.Frag) (f : Str) : Sp := fun vs H Q _ => ∃ (a C : Addr) (y : V), vs = [.ref a, y] ∧ OexC K C ∧ PySem.W.findIn K (.ref C) f = some none ∧ H a = some (exo a C none) ∧
  ∀ dx, H dx = none → dx ≠ a → Q .non (upd (upd H dx (exd dx [(f, y)])) a (exo a C (some dx)))
end L2

set_option Elab.async false
set_option linter.all false
set_option maxRecDepth 100000
set_option maxHeartbeats 4000000
namespace L2
open PySem PySem.Spec PyProof.Rows
/-- an own exception class at C, called x, whose __init__ sets the one attribute f (None where it is not given) -/
structure ExM (P : Program) (w : World) (K : PySem.W.Frag) (mg : Str → Option Value) (base : Heap) (x : Str) (C : Addr) (f : Str) : Prop where
  mgC : mg x = some (.ref C)
  oex : OexC K C
  xc : ExcC K C
  noF : PySem.W.findIn K (.ref C) f = some none
  hmk : ∃ (fI : Addr) (fd : FuncData) (ps : List Str), PySem.W.findIn K (.ref C) "__init__" = some (some (.ref fI)) ∧ PySem.W.typeIn K (.ref fI) = some (.type "function") ∧ FnOk P w K mg base CX0 1 fI fd ps (spExI K f) ∧
    (∀ (self u : Value) (s' : Shared), K.In s'.heap → BindsTo s' fd ⟨[self, u], []⟩ (ps.zip [self, u])) ∧ (∀ (self u : Value) (s' : Shared), K.In s'.heap → BindsTo s' fd ⟨[self], [(f, u)]⟩ (ps.zip [self, u])) ∧
    (∀ (self : Value) (s' : Shared), K.In s'.heap → BindsTo s' fd ⟨[self], []⟩ (ps.zip [self, .none]))
/-- an own exception class at C, called x, without an __init__ of its own -/
structure ExB (K : PySem.W.Frag) (mg : Str → Option Value) (x : Str) (C : Addr) : Prop where
  mgC : mg x = some (.ref C)
  xc : ExcC K C
  kC : PySem.W.keepIn K (.ref C) = true
  is : ∃ bmB, ExcBaseFacts "ValueError" "ValueError.__new__" "ValueError.__init__" bmB ∧ PySem.W.excIn K C bmB "ValueError.__new__" = true
section
variable {X : Cx} {x f : Str} {C : Addr} {e : Expr} {te : TE} {p pos kpos : Pos}
end

end L2

set_option Elab.async false
set_option linter.all false
set_option maxRecDepth 100000
set_option maxHeartbeats 400000
namespace L2
open PySem PySem.Spec PyProof.Rows
section
variable {P : Program} {w : World} {K : PySem.W.Frag} {mg : Str → Option Value} {base : Heap} {x qual : Str} {C fI : Addr} {fd : FuncData} {p1 p2 p3 q1 q2 q3 q4 : Pos}
end
end L2

set_option Elab.async false
set_option linter.all false
set_option maxRecDepth 100000
set_option maxHeartbeats 1000000
namespace L2
open PySem PySem.Spec PyProof.Rows
/-- a def's promise where no repr is under way around it -/
structure FnG (P : Program) (w : World) (K : PySem.W.Frag) (mg : Str → Option Value) (base : Heap) (k : Nat) (f : Addr) (fd : FuncData) (ps : List Str) (sp : Sp) : Prop where
  len : ∀ vs H Q E, sp vs H Q E → vs.length = ps.length
  go : ∀ (A : Around) (outer : List Env) (s : Shared) (H : Hp) (args : Args) (us : List Value) (vs : List V) (Q : VK) (E : XK), A.guards = some [] → Room k A → Env0 P w K mg base A outer s H → BindsTo s fd args (ps.zip us) → Vals vs us →
    sp vs H Q E → codeAny (model P w) A (.call (.ref f) args) (CR CX0 outer P w H s Q E) s
section
variable {P : Program} {w : World} {K : PySem.W.Frag} {mg : Str → Option Value} {base : Heap}
end
end L2

set_option Elab.async false
set_option linter.all false
set_option maxRecDepth 100000
set_option maxHeartbeats 1000000
namespace L2
open PySem PySem.Spec PyProof.Rows
theorem Same.upd {H : Hp} {p : Addr} {o : HO} (h : H p = none) : Same H (L2.upd H p o) := fun b u q => by
  rw [upd_ne (ne_of_none q h)]
  exact q
section
variable {X : Cx} {x y : Str} {C : Addr} {p q r pos : Pos} {i : Nat}
end
end L2

set_option Elab.async false
set_option linter.all false
set_option maxRecDepth 100000
set_option maxHeartbeats 1000000
namespace L2
open PySem PySem.Spec PyProof.Rows
/-- v shows as the data d: data without dicts, or a flat dict -/
inductive Shw (K : PySem.W.Frag) (H : Hp) : V → PyData → Prop where
  | dp {v : V} {d : PyData} (h : Dp K H v d) (n : d.hasDict = false) : Shw K H v d
  | d0 {q : Addr} (h : H q = some (.dK [])) : Shw K H (.ref q) (.dict [])
  | d1 {q : Addr} {x : Str} {i : Int} (h : H q = some (.dK [(.inr x, .int i)])) : Shw K H (.ref q) (.dict [(.str x, .int i)])
section
variable {X : Cx} {pins : List (Addr × Obj)} {σ : St} {H : Hp} {s : Shared}
end
end L2

set_option Elab.async false
set_option linter.all false
set_option maxRecDepth 100000
set_option maxHeartbeats 1000000
namespace L2
open PySem PySem.Spec PyProof.Rows
/-- a new object at p, all else as it was: what is wanted of it -/
def NewQ (H : Hp) (o : HO) (Q : VK) : Prop := ∀ p H', Same H H' → H p = none → H' p = some o → Q (.ref p) H'
theorem NewQ.at {H : Hp} {o : HO} {Q : VK} (h : NewQ H o Q) {p : Addr} (n : H p = none) : Q (.ref p) (L2.upd H p o) := h p _ (Same.upd n) n upd_same
def tLstS (t : TA) : TE := fun σ H Q => t σ H fun xs H1 => xs.length ≤ sizeLine ∧ NewQ H1 (.lst xs) Q
def tTupS (t : TA) : TE := fun σ H Q => t σ H fun xs H1 => xs.length ≤ sizeLine ∧ NewQ H1 (.tup xs) Q
def rSlW (K : PySem.W.Frag) : V → Option Int → Option Int → Hp → VK → Prop := fun x lo hi H Q => ∃ a xs, x = .ref a ∧ SqL K H a xs ∧ NewQ H (.lst (cutV xs lo hi)) Q
section
variable {X : Cx} {es : List Expr} {t : TA} {pos : Pos}
theorem pe_lstS (h : PA X es t) : PE X (.List es pos) (tLstS t) :=
  ⟨fun pins s σ H Q I hq => wpAny_List_spliced (thn (h.run pos pins s σ H _ I hq) fun us s1 ⟨xs, H1, I1, r, z, q⟩ => ⟨by rw [← r.length]; exact z,
    .ref s1.heap.objs.size, _, I1.laid (t' := s1.toks) (o := .lst xs) (fun _ _ e => Heap.get?_push_of_some _ e) (Nat.le_refl _) ⟨z, us, 0, r, Heap.get?_push_size _ rfl⟩, rfl, q.at I1.fresh⟩)⟩
theorem pe_tupS {x1} (h : PA X es t) : PE X (.Tuple es x1 pos) (tTupS t) :=
  ⟨fun pins s σ H Q I hq => wpAny_Tuple_spliced (thn (h.run pos pins s σ H _ I hq) fun us s1 ⟨xs, H1, I1, r, z, q⟩ => ⟨by rw [← r.length]; exact z,
    .ref s1.heap.objs.size, _, I1.laid (t' := s1.toks) (o := .tup xs) (fun _ _ e => Heap.get?_push_of_some _ e) (Nat.le_refl _) ⟨z, us, r, ⟨_, Heap.get?_push_size _ rfl, rfl, _, rfl⟩⟩, rfl, q.at I1.fresh⟩)⟩
theorem sl_listS : SlR X (rSlW X.K) := fun pins s σ H x v vl vu lo hi sl Q I rx hs hl hh ⟨a, xs, e, h, q⟩ => sl_list pins s σ H x v vl vu lo hi sl Q I rx hs hl hh ⟨a, xs, e, h, fun _ n => q.at n⟩
end
theorem Same.lst {H H' : Hp} {a : Addr} {o : HO} (S : Same H H') (h : H a = some o) : H' a = some o := S _ _ h
end L2

set_option Elab.async false
set_option linter.all false
set_option maxRecDepth 100000
set_option maxHeartbeats 1000000
/-! a + b, a * b, -a where a is an instance of an own class that says what they are. -/
namespace L2
open PySem PySem.Spec PyProof.Rows
/-- what the class says of an operator's method -/
structure OwnOp (K : PySem.W.Frag) (C : Addr) (name : Str) (f : Addr) : Prop where
  first : PySem.W.selfFirst K C = true
  has : PySem.W.findIn K (.ref C) name = some (some (.ref f))
  fn : PySem.W.isFn K (.ref f) = true
/-- the same where the right side is a whole number: int's own slots, and no reflected method of the class's -/
structure OwnOpI (K : PySem.W.Frag) (C : Addr) (name : String) (f : Addr) : Prop where
  one : OwnOp K C (PySem.dunder name) f
  refl : ∃ rc, PySem.W.findIn K (.ref C) (dunderR name) = some rc ∧ (rc = none ∨ ∃ g : Addr, rc = some (.ref g))
  i1 : ∃ fo, PySem.W.findIn K (.type "int") (PySem.dunder name) = some fo
  i2 : ∃ ro, PySem.W.findIn K (.type "int") (dunderR name) = some ro
  sub : PySem.W.subIn K (.type "int") (.ref C) = some false
section
variable {X : Cx} {op : Operator} {C f : Addr} {fd : FuncData} {ps : List Str} {sp : Sp} {k : Nat}
end
end L2

set_option Elab.async false
set_option linter.all false
set_option maxRecDepth 100000
set_option maxHeartbeats 1000000
/-! rows without forms: what is said of heaps, tests, powers -/
namespace L2
open PySem PySem.Spec PyProof.Rows
theorem iteD {p : Prop} [Decidable p] {A B : Prop} (h1 : p → A) (h2 : ¬ p → B) : if decide p = true then A else B := by
  by_cases h : p
  · rw [if_pos (decide_eq_true h)]; exact h1 h
  · rw [if_neg (by simpa using h)]; exact h2 h
theorem ifT {b : Bool} {A B : Prop} (h : b = true) (x : A) : if b = true then A else B := by rw [if_pos h]; exact x
theorem ifF {b : Bool} {A B : Prop} (h : b = false) (x : B) : if b = true then A else B := by rw [if_neg (by rw [h]; exact Bool.false_ne_true)]; exact x
def CPowX (i j : Int) : Prop := 0 ≤ j ∧ (Builtin.Int.intBits i : Int) * j ≤ 2 ^ 27
theorem op_powX {X : Cx} : OpR X (binaryOp .Pow) (rI CPowX fun i j => .int (i ^ j.toNat)) := opI fun _ _ _ _ _ _ _ hc q => pow_int hc.1 hc.2 q
/-- all but D as it was -/
def SameB (D : Addr) (H H' : Hp) : Prop := ∀ b o, b ≠ D → H b = some o → H' b = some o
theorem SameB.refl (D : Addr) (H : Hp) : SameB D H H := fun _ _ _ h => h
theorem SameB.to {D : Addr} {H H1 H2 : Hp} (S : SameB D H H1) (T : Same H1 H2) : SameB D H H2 := fun b o n h => T b o (S b o n h)
theorem SameB.trans {D : Addr} {H H1 H2 : Hp} (S : SameB D H H1) (T : SameB D H1 H2) : SameB D H H2 := fun b o n h => T b o n (S b o n h)
theorem SameB.upd {D : Addr} {H H1 : Hp} {o : HO} (S : SameB D H H1) : SameB D H (L2.upd H1 D o) := fun b u n h => by rw [upd_ne n]; exact S b u n h
theorem SqL.same {K : PySem.W.Frag} {H H' : Hp} {a : Addr} {xs : List V} (h : SqL K H a xs) (S : Same H H') : SqL K H' a xs := by
  rcases h with (h | ⟨o, h⟩) | h
  · exact .inl (.inl (S _ _ h))
  · exact .inl (.inr ⟨o, S _ _ h⟩)
  · exact .inr h
theorem seq_asg {te : TE} {i : Nat} {u : TS} {D : Ends} {σ : St} {H : Hp} (h : te σ H fun x H1 => u D (σ.set i (some x)) H1) : tSeq (tAsg te (gName i)) u D σ H := h
theorem te_mid {t : TE} {σ : St} {H : Hp} {Q : VK} (G : V → Hp → Prop) (h : ∀ R : VK, (∀ x H', G x H' → R x H') → t σ H R) (k : ∀ x H', G x H' → Q x H') : t σ H Q := h Q k
theorem ts_mid {t u : TS} {D : Ends} {σ : St} {H : Hp} (G : St → Hp → Prop) (h : ∀ N : St → Hp → Prop, (∀ σ' H', G σ' H' → N σ' H') → t { D with nx := N } σ H) (k : ∀ σ' H', G σ' H' → u D σ' H') : tSeq t u D σ H := h _ k
theorem cut_ints (ns : List Int) (lo hi : Option Int) : ∃ ms : List Int, cutV (ns.map V.int) lo hi = ms.map V.int :=
  ⟨(ns.drop (HT.sIx (ns.map V.int).length 0 lo)).take (HT.sIx (ns.map V.int).length (ns.map V.int).length hi - HT.sIx (ns.map V.int).length 0 lo), by unfold cutV; rw [← List.map_drop, ← List.map_take]⟩
end L2

set_option Elab.async false
set_option linter.all false
set_option maxRecDepth 100000
set_option maxHeartbeats 1000000
/-! the draws of stage 3's laws: _law_purse, _law_mixed, _law_draw -/
namespace E3
open PySem PySem.Spec PyProof.Rows L2
open C8 (Cal Mak Met InsC pe_c pe_mt pe_mt0 call_isC clsBody)
def top (i : Nat) : Stmt := PySem.Challenge.pw_cellplaces_k71_whole_turns.main.body.getD i (.Pass ⟨0, 0, 0, 0⟩)
abbrev sPurse : Stmt := top 17
abbrev sMixed : Stmt := top 18
abbrev sDraw : Stmt := top 19
abbrev sLaw : Stmt := top 24
structure Bt4 (mg : Str → Option Value) : Prop where
  sum_ : mg "sum" = none
  max_ : mg "max" = none
  rng_ : mg "range" = none
  len_ : mg "len" = none
/-- a purse, with so many draws left -/
def PurseAt (H : Hp) (a : Addr) (n : Nat) : Prop := ∃ p0 p1 p2 : Int, H a = some (.lst [.int p0, .int p1, .int p2]) ∧ 0 ≤ p0 ∧ p0 < 10 ^ 480 ∧ 0 ≤ p1 ∧ p1 < 2 ^ 31 ∧ 0 ≤ p2 ∧ p2 + n ≤ 2 ^ 60
theorem PurseAt.same {H H' : Hp} {a : Addr} {n : Nat} (h : PurseAt H a n) (S : Same H H') : PurseAt H' a n :=
  let ⟨p0, p1, p2, h1, h2⟩ := h
  ⟨p0, p1, p2, S _ _ h1, h2⟩
theorem PurseAt.less {H : Hp} {a : Addr} {n m : Nat} (h : PurseAt H a n) (l : m ≤ n) : PurseAt H a m :=
  let ⟨p0, p1, p2, h1, h2, h3, h4, h5, h6, h7⟩ := h
  ⟨p0, p1, p2, h1, h2, h3, h4, h5, h6, by omega⟩
def spPurse (K : PySem.W.Frag) : Sp := fun vs H Q _ => ∃ (sc : Addr) (i : Int) (ns : List Int), vs = [.ref sc, .int i] ∧ SqL K H sc (ns.map V.int) ∧ 0 ≤ i ∧ i < 100 ∧ ∀ H' p, Same H H' → H p = none → PurseAt H' p (2 ^ 59) → Q (.ref p) H'
def spMixed : Sp := fun vs H Q _ => ∃ a b : Int, vs = [.int a, .int b] ∧ 0 ≤ a ∧ a < 2 ^ 31 ∧ 0 ≤ b ∧ b < 2 ^ 61 ∧ ∀ r : Int, 0 ≤ r → r < 2147483587 → Q (.int r) H
def spDraw : Sp := fun vs H Q _ => ∃ (a : Addr) (many : Int) (n : Nat), vs = [.ref a, .int many] ∧ PurseAt H a (n + 4) ∧ 1 ≤ many ∧ many < 2 ^ 100 ∧ ∀ r H', 0 ≤ r → r < many → PurseAt H' a n → SameB a H H' → Q (.int r) H'
theorem bits_100 {m : Int} (h0 : 1 ≤ m) (h : m < 2 ^ 100) : Builtin.Int.intBits m ≤ 100 := by
  unfold Builtin.Int.intBits
  rw [if_neg (by intro e; have := eq_of_beq e; omega)]
  have h1 : m.natAbs < 2 ^ 100 := by
    have e : ((m.natAbs : Nat) : Int) = m := Int.natAbs_of_nonneg (by omega)
    have : ((m.natAbs : Nat) : Int) < ((2 ^ 100 : Nat) : Int) := by rw [e]; exact_mod_cast h
    exact Int.ofNat_lt.mp this
  have := PySem.Flt.log2_lt_of (by decide) h1
  omega
section
variable {P : Program} {w : World} {K : PySem.W.Frag} {mg : Str → Option Value} {base : Heap}
theorem scPurse : FnScope ["_law_script", "_law_at", "_law_cell"] ["_law_script", "_law_at"] (defScope sPurse) := ⟨rfl, rfl, rfl, by decide +kernel, rfl, by decide +kernel, by decide +kernel⟩
theorem ok_purse {f : Addr} {fd : FuncData} (F : Fun K "_law_purse" "_law_purse" sPurse f fd) (B : Bt4 mg) : FnOk P w K mg base CX0 1 f fd ["_law_script", "_law_at"] (spPurse K) := by
  refine F.ok scPurse (fun vs H Q E h => ?_) (fun cdv A outer s H vs Q E hr h => ?_)
  · obtain ⟨sc, i, ns, rfl, _⟩ := h
    rfl
  · obtain ⟨sc, i, ns, rfl, hs, i0, i1, k⟩ := h
    refine ⟨_, pss_cons (ps_set (i := 2) scPurse.nd rfl (Or.inl rfl) (pe_callB (cr_sum rfl) (by rfl) B.sum_ (by decide +kernel) (pa_cons (pe_slice sl_listS (pv 0) (po_some (pv 1)) (po_some (pe_op op_add (pv 1) pe_int))) pa_nil)))
      (pss_one (ps_ret (pe_lstS (pa_cons (pe_op op_mod (pe_callB (call_max2 rfl) (by rfl) B.max_ (by decide +kernel) (pa_cons (pe_op op_sub (pv 2) (pe_op op_pow pe_int pe_int)) (pa_cons pe_int pa_nil))) (pe_op op_powX (pe_op op_pow pe_int pe_int) pe_int))
        (pa_cons (pe_op op_mod (pv 2) pe_int) (pa_cons (pe_op op_mul pe_int (pv 1)) pa_nil)))))), ?_⟩
    obtain ⟨ms, hms⟩ := cut_ints ns (some i) (some (i + 1))
    refine ⟨_, rfl, _, rfl, i, rfl, _, rfl, i, 1, rfl, rfl, i + 1, rfl, sc, _, rfl, hs, fun pc H1 S1 n1 h1 => ?_⟩
    rw [hms] at h1
    refine ⟨pc, ms, rfl, SqL.of h1, ?_⟩
    have c1 : CPow 10 18 := ⟨by decide, by decide, by decide⟩
    have c2 : CPow 10 60 := ⟨by decide, by decide, by decide⟩
    have c3 : CPowX ((10 : Int) ^ (60 : Int).toNat) 8 := ⟨by decide, by decide +kernel⟩
    refine ⟨_, rfl, 10, 18, rfl, rfl, c1, _, _, rfl, rfl, _, _, rfl, ?_⟩
    refine ⟨10, 60, rfl, rfl, c2, _, 8, rfl, rfl, c3, _, _, rfl, rfl, (show (0 : Int) < ((10 : Int) ^ (60 : Int).toNat) ^ (8 : Int).toNat by decide +kernel), ?_⟩
    refine ⟨_, rfl, _, _, rfl, rfl, (show (0 : Int) < 2147483629 by decide), _, rfl, _, _, rfl, rfl, .inl (by constructor <;> decide), (by show 3 ≤ sizeLine; decide), fun p H2 S2 np hp => ?_⟩
    refine k H2 p (S1.trans S2) (S1.free np) ⟨_, _, _, hp, Int.emod_nonneg _ (by decide +kernel), ?_, Int.emod_nonneg _ (by decide), ?_, by omega, by omega⟩
    · have e : ((10 : Int) ^ (60 : Int).toNat) ^ (8 : Int).toNat = 10 ^ 480 := by decide +kernel
      rw [e]
      exact Int.emod_lt_of_pos _ (by decide +kernel)
    · exact Int.lt_trans (Int.emod_lt_of_pos _ (by decide)) (by decide)
theorem scMixed : FnScope ["_law_seed", "_law_step", "_law_found"] ["_law_seed", "_law_step"] (defScope sMixed) := ⟨rfl, rfl, rfl, by decide +kernel, rfl, by decide +kernel, by decide +kernel⟩
theorem ok_mixed {f : Addr} {fd : FuncData} (F : Fun K "_law_mixed" "_law_mixed" sMixed f fd) : FnOk P w K mg base CX0 1 f fd ["_law_seed", "_law_step"] spMixed := by
  refine F.ok scMixed (fun vs H Q E h => ?_) (fun cdv A outer s H vs Q E hr h => ?_)
  · obtain ⟨a, b, rfl, _⟩ := h
    rfl
  · obtain ⟨a, b, rfl, a0, a1, b0, b1, k⟩ := h
    refine ⟨_, pss_cons (ps_set (i := 2) scMixed.nd rfl (Or.inl rfl) (pe_op op_mod (pe_op op_add (pe_op op_add (pe_op op_mul (pv 0) pe_int) (pe_op op_mul (pe_op op_mul pe_int (pv 1)) (pv 1))) (pv 1)) pe_int))
      (pss_cons (ps_set (i := 2) scMixed.nd rfl (Or.inl rfl) (pe_op op_mod (pe_op op_add (pe_op op_mul (pv 2) (pv 2)) pe_int) pe_int))
      (pss_one (ps_ret (pe_op op_mod (pe_op op_mul (pv 2) pe_int) pe_int)))), ?_⟩
    refine ⟨_, rfl, _, _, rfl, rfl, .inr (by constructor <;> decide), _, rfl, _, _, rfl, rfl, .inl (by constructor <;> decide), _, rfl, _, _, rfl, rfl, .inr ⟨by omega, by omega⟩, _, _, rfl, rfl, _, rfl, _, _, rfl, rfl, _, _, rfl, rfl, (show (0 : Int) < 2147483647 by decide), ?_⟩
    generalize hm : (a * 69069 + 104729 * b * b + b) % 2147483647 = m
    have m0 : 0 ≤ m := hm ▸ Int.emod_nonneg _ (by decide)
    have m1 : m < 2147483647 := hm ▸ Int.emod_lt_of_pos _ (by decide)
    refine ⟨_, rfl, _, rfl, _, _, rfl, rfl, .inr ⟨by omega, by omega⟩, _, _, rfl, rfl, _, _, rfl, rfl, (show (0 : Int) < 2147483629 by decide), ?_⟩
    refine ⟨_, rfl, _, _, rfl, rfl, .inr (by constructor <;> decide), _, _, rfl, rfl, (show (0 : Int) < 2147483587 by decide), ?_⟩
    exact k _ (Int.emod_nonneg _ (by decide)) (Int.emod_lt_of_pos _ (by decide))
theorem scDraw : FnScope ["_law_purse_here", "_law_many", "_law_drawn", "_law_found", "_law_piece"] ["_law_purse_here", "_law_many"] (defScope sDraw) := ⟨rfl, rfl, rfl, by decide +kernel, rfl, by decide +kernel, by decide +kernel⟩
theorem ok_draw {f : Addr} {fd : FuncData} (F : Fun K "_law_draw" "_law_draw" sDraw f fd) (B : Bt4 mg) (M : Cal P w K mg base 1 "_law_mixed" spMixed []) : FnOk P w K mg base CX0 2 f fd ["_law_purse_here", "_law_many"] spDraw := by
  refine F.ok scDraw (fun vs H Q E h => ?_) (fun cdv A outer s H vs Q E hr h => ?_)
  · obtain ⟨a, many, n, rfl, _⟩ := h
    rfl
  · obtain ⟨a, many, n, rfl, ⟨p0, p1, p2, hp, a0, a1, b0, b1, c0, c1⟩, m1, m2, k⟩ := h
    refine ⟨_, pss_cons (ps_if (pt_cmpR op_gt (pe_ix ix_list (pv 0) pe_int (fun _ _ => rfl)) pe_int (by rfl))
        (pss_cons (ps_set (i := 2) scDraw.nd rfl (Or.inl rfl) (pe_op op_mod (pe_ix ix_list (pv 0) pe_int (fun _ _ => rfl)) (pv 1)))
        (pss_cons (ps_asg (pe_op op_fdivW (pe_ix ix_list (pv 0) pe_int (fun _ _ => rfl)) (pv 1)) (pg_sub (pv 0) pe_int set_list))
        (pss_one (ps_ret (pv 2))))) pss_nil)
      (pss_cons (ps_set (i := 3) scDraw.nd rfl (Or.inl rfl) pe_int)
      (pss_cons (ps_for PassesOwn.never rfl (pi_range1 rfl B.rng_ (pa_cons (pe_op op_add pe_int (pe_op op_fdiv (pe_bits (pv 1)) pe_int)) pa_nil)) (pg_name (i := 4) scDraw.nd rfl (Or.inl rfl))
        (pss_cons (ps_asg (pe_op op_add (pe_ix ix_list (pv 0) pe_int (fun _ _ => rfl)) pe_int) (pg_sub (pv 0) pe_int set_list))
        (pss_one (ps_set (i := 3) scDraw.nd rfl (Or.inl rfl) (pe_op op_add (pe_op op_mul (pv 3) pe_int) (pe_c M hr (by decide) rfl (pa_cons (pe_ix ix_list (pv 0) pe_int (fun _ _ => rfl)) (pa_cons (pe_ix ix_list (pv 0) pe_int (fun _ _ => rfl)) pa_nil))))))))
      (pss_one (ps_ret (pe_op op_mod (pv 3) (pv 1)))))), ?_⟩
    have ml : CDivW p0 many := by
      refine ⟨by omega, ?_⟩
      have h1 := bits_100 m1 m2
      unfold Builtin.Int.intBits at h1
      rw [if_neg (by intro e; have := eq_of_beq e; omega)] at h1
      omega
    refine ⟨_, rfl, a, _, 0, _, rfl, rfl, SqL.of hp, rfl, _, _, rfl, rfl, _, rfl, iteD (fun h => ?_) (fun h => ?_)⟩
    · refine ⟨_, rfl, a, _, 0, _, rfl, rfl, SqL.of hp, rfl, _, rfl, _, _, rfl, rfl, (show 0 < many by omega), ?_⟩
      refine ⟨_, rfl, a, _, 0, _, rfl, rfl, SqL.of hp, rfl, _, rfl, _, _, rfl, rfl, ml, _, rfl, a, _, 0, 0, rfl, rfl, hp, rfl, ?_⟩
      refine ⟨_, rfl, k _ _ (Int.emod_nonneg _ (by omega)) (Int.emod_lt_of_pos _ (by omega)) ⟨p0 / many, p1, p2, upd_same, Int.ediv_nonneg a0 (by omega), Int.lt_of_le_of_lt (Int.ediv_le_self _ a0) a1, b0, b1, c0, by omega⟩ fun c o nc e => by rw [upd_ne nc]; exact e⟩
    · dsimp only [tNext]
      refine seq_asg ?_
      dsimp only [tC]
      have bb := bits_100 m1 m2
      have jn : ((1 + ((Builtin.Int.intBits many : Nat) : Int) / 28)).toNat ≤ 4 := by omega
      refine ⟨_, rfl, many, rfl, _, 28, rfl, rfl, (by constructor <;> decide), _, _, rfl, rfl, _, rfl, ?_⟩
      refine ⟨by omega, by omega, for_it (walk_range (n := (1 + ((Builtin.Int.intBits many : Nat) : Int) / 28).toNat)) (fun i σ' H' => (∃ fnd v, σ' = [some (.ref a), some (.int many), none, some (.int fnd), v]) ∧ SameB a H H' ∧ H' a = some (.lst [.int p0, .int p1, .int (p2 + (i : Nat))])) ⟨⟨0, none, rfl⟩, SameB.refl _ _, by rw [hp]; simp⟩ (fun _ _ _ _ _ => trivial) ?_ ?_⟩
      · rintro i x σ' H1 H2 hi ⟨⟨fnd, v, rfl⟩, S, hp'⟩ ⟨rfl, rfl⟩
        have hi4 : i < 4 := Nat.lt_of_lt_of_le hi jn
        refine ⟨_, rfl, a, _, 2, _, rfl, rfl, SqL.of hp', rfl, _, _, rfl, rfl, _, rfl, a, _, 2, 2, rfl, rfl, hp', rfl, ?_⟩
        have hq : (upd H2 a (.lst [.int p0, .int p1, .int (p2 + (i : Nat) + 1)])) a = some (.lst [.int p0, .int p1, .int (p2 + (i : Nat) + 1)]) := upd_same
        have sq : SqL K (upd H2 a (.lst [.int p0, .int p1, .int (p2 + (i : Nat) + 1)])) a [.int p0, .int p1, .int (p2 + (i : Nat) + 1)] := SqL.of hq
        refine ⟨_, rfl, _, _, rfl, rfl, .inr (by constructor <;> decide), _, rfl, a, _, 1, _, rfl, rfl, sq, rfl, _, rfl, a, _, 2, _, rfl, rfl, sq, rfl, p1, p2 + (i : Nat) + 1, rfl, b0, b1, by omega, by omega, fun r r0 r1 => ⟨_, _, rfl, rfl, ⟨_, _, rfl⟩, S.upd, ?_⟩⟩
        rw [upd_same]
        have e : p2 + ((i + 1 : Nat) : Int) = p2 + (i : Nat) + 1 := by omega
        rw [e]
        rfl
      · rintro σ' H1 ⟨⟨fnd, v, rfl⟩, S, hp'⟩
        dsimp only
        exact ⟨_, rfl, _, rfl, _, _, rfl, rfl, (show 0 < many by omega), k _ _ (Int.emod_nonneg _ (by omega)) (Int.emod_lt_of_pos _ (by omega)) ⟨p0, p1, _, hp', a0, a1, b0, b1, by omega, by omega⟩ S⟩
end
end E3

set_option Elab.async false
set_option linter.all false
set_option maxRecDepth 100000
set_option maxHeartbeats 1000000
/-! law_k71: _law_next, _law_spot_right, _law_primes -/
namespace E3
open PySem PySem.Spec PyProof.Rows L2
open C8 (Cal Mak Met InsC pe_c pe_mt pe_mt0 call_isC clsBody)
abbrev sNext : Stmt := top 20
abbrev sSpot : Stmt := top 21
abbrev sPrimes : Stmt := top 22
abbrev sRingR : Stmt := top 23
/-- one turn -/
def nx (r c p : Int) : Int := p % c * r + p / c
def itn (r c : Int) : Nat → Int → Int
  | 0, p => p
  | n + 1, p => nx r c (itn r c n p)
def Tbl3 (r c p : Int) : Prop := 1 ≤ r ∧ r ≤ 30000 ∧ 1 ≤ c ∧ c ≤ 30000 ∧ 0 ≤ p ∧ p < r * c
theorem nx_in {r c p : Int} (h : Tbl3 r c p) : 0 ≤ nx r c p ∧ nx r c p < r * c := by
  obtain ⟨r1, _, c1, _, p0, p1⟩ := h
  have m0 : 0 ≤ p % c := Int.emod_nonneg _ (by omega)
  have m1 : p % c < c := Int.emod_lt_of_pos _ (by omega)
  have q0 : 0 ≤ p / c := Int.ediv_nonneg p0 (by omega)
  have q1 : p / c < r := Int.ediv_lt_of_lt_mul (by omega) p1
  have a1 : 0 ≤ p % c * r := Int.mul_nonneg m0 (by omega)
  have a2 : (p % c + 1) * r ≤ c * r := Int.mul_le_mul_of_nonneg_right (by omega) (by omega)
  have a3 : (p % c + 1) * r = p % c * r + r := by rw [Int.add_mul, Int.one_mul]
  have a4 : c * r = r * c := Int.mul_comm _ _
  unfold nx
  omega
theorem itn_in {r c p : Int} (h : Tbl3 r c p) : ∀ n, 0 ≤ itn r c n p ∧ itn r c n p < r * c
  | 0 => ⟨h.2.2.2.2.1, h.2.2.2.2.2⟩
  | n + 1 => by
    obtain ⟨r1, r2, c1, c2, p0, p1⟩ := h
    obtain ⟨i0, i1⟩ := itn_in ⟨r1, r2, c1, c2, p0, p1⟩ n
    exact nx_in ⟨r1, r2, c1, c2, i0, i1⟩
theorem nx_back {r c p : Int} (h : Tbl3 r c p) : nx c r (nx r c p) = p := by
  obtain ⟨r1, _, c1, _, p0, p1⟩ := h
  have q0 : 0 ≤ p / c := Int.ediv_nonneg p0 (by omega)
  have q1 : p / c < r := Int.ediv_lt_of_lt_mul (by omega) p1
  unfold nx
  have e1 : (p % c * r + p / c) % r = p / c := by
    rw [Int.add_comm, Int.add_mul_emod_self_right]
    exact Int.emod_eq_of_lt q0 q1
  have e2 : (p % c * r + p / c) / r = p % c := by
    rw [Int.add_comm, Int.add_mul_ediv_right _ _ (by omega), Int.ediv_eq_zero_of_lt q0 q1]
    omega
  rw [e1, e2, Int.mul_comm]
  exact Int.mul_ediv_add_emod p c
theorem itn_add (r c : Int) (m : Nat) (p : Int) : ∀ n, itn r c (n + m) p = itn r c n (itn r c m p)
  | 0 => by rw [Nat.zero_add]; rfl
  | n + 1 => by
    rw [Nat.add_right_comm]
    show nx r c (itn r c (n + m) p) = nx r c (itn r c n (itn r c m p))
    rw [itn_add r c m p n]
def spNext : Sp := fun vs H Q _ => ∃ r c p : Int, vs = [.int r, .int c, .int p] ∧ Tbl3 r c p ∧ Q (.int (nx r c p)) H
/-- what the document says of turned -/
def spTurned : Sp := fun vs H Q _ => ∃ r c p t : Int, vs = [.int r, .int c, .int p, .int t] ∧ Tbl3 r c p ∧ 0 ≤ t ∧ t < 10 ^ 30 ∧ ∀ H', Same H H' → Q (.int (itn r c t.toNat p)) H'
def spSpot : Sp := fun vs H Q _ => ∃ r c p : Int, vs = [.int r, .int c, .int p] ∧ Tbl3 r c p ∧ ∀ H', Same H H' → Q (.bl true) H'
section
variable {P : Program} {w : World} {K : PySem.W.Frag} {mg : Str → Option Value} {base : Heap}
theorem scNext : FnScope ["_law_high", "_law_wide", "_law_spot"] ["_law_high", "_law_wide", "_law_spot"] (defScope sNext) := ⟨rfl, rfl, rfl, by decide +kernel, rfl, by decide +kernel, by decide +kernel⟩
theorem ok_next {f : Addr} {fd : FuncData} (F : Fun K "_law_next" "_law_next" sNext f fd) : FnOk P w K mg base CX0 1 f fd ["_law_high", "_law_wide", "_law_spot"] spNext := by
  refine F.ok scNext (fun vs H Q E h => ?_) (fun cdv A outer s H vs Q E hr h => ?_)
  · obtain ⟨r, c, p, rfl, _⟩ := h
    rfl
  · obtain ⟨r, c, p, rfl, ⟨r1, r2, c1, c2, p0, p1⟩, k⟩ := h
    refine ⟨_, pss_one (ps_ret (pe_op op_add (pe_op op_mul (pe_op op_mod (pv 2) (pv 1)) (pv 0)) (pe_op op_fdivW (pv 2) (pv 1)))), ?_⟩
    have m0 : 0 ≤ p % c := Int.emod_nonneg _ (by omega)
    have m1 : p % c < c := Int.emod_lt_of_pos _ (by omega)
    have dv : CDivW p c := ⟨by omega, by
      have : c.natAbs < 2 ^ 20 := by omega
      have := PySem.Flt.log2_lt_of (k := 20) (by decide) this
      omega⟩
    exact ⟨_, rfl, _, rfl, _, _, rfl, rfl, (show 0 < c by omega), _, rfl, _, _, rfl, rfl, .inl ⟨by omega, by omega⟩, _, rfl, _, rfl, _, _, rfl, rfl, dv, _, _, rfl, rfl, k⟩
theorem scSpot : FnScope ["_law_high", "_law_wide", "_law_spot", "_law_here", "_law_times"] ["_law_high", "_law_wide", "_law_spot"] (defScope sSpot) := ⟨rfl, rfl, rfl, by decide +kernel, rfl, by decide +kernel, by decide +kernel⟩
theorem ok_spot {f : Addr} {fd : FuncData} (F : Fun K "_law_spot_right" "_law_spot_right" sSpot f fd) (B : Bt4 mg) (k : Nat) (hk : 1 ≤ k) (N : Cal P w K mg base 1 "_law_next" spNext []) (T : Cal P w K mg base k "turned" spTurned []) (T1 : Cal P w K mg base k "turned" spTurned [.int 1]) : FnOk P w K mg base CX0 (k + 1) f fd ["_law_high", "_law_wide", "_law_spot"] spSpot := by
  refine F.ok scSpot (fun vs H Q E h => ?_) (fun cdv A outer s H vs Q E hr h => ?_)
  · obtain ⟨r, c, p, rfl, _⟩ := h
    rfl
  · obtain ⟨r, c, p, rfl, hT, q⟩ := h
    refine ⟨_, pss_cons (ps_set (i := 3) scSpot.nd rfl (Or.inl rfl) (pv 2))
      (pss_cons (ps_for PassesOwn.never rfl (pi_range1 rfl B.rng_ (pa_cons pe_int pa_nil)) (pg_name (i := 4) scSpot.nd rfl (Or.inl rfl))
        (pss_cons (ps_if (pt_cmpR op_ne (pe_c T hr (Nat.le_refl _) rfl (pa_cons (pv 0) (pa_cons (pv 1) (pa_cons (pv 2) (pa_cons (pv 4) pa_nil))))) (pv 3) (nomark _)) (pss_one (ps_ret pe_bl)) pss_nil)
        (pss_one (ps_set (i := 3) scSpot.nd rfl (Or.inl rfl) (pe_c N hr hk rfl (pa_cons (pv 0) (pa_cons (pv 1) (pa_cons (pv 3) pa_nil))))))))
      (pss_cons (ps_if (pt_cmpR op_ne (pe_c T1 hr (Nat.le_refl _) rfl (pa_cons (pv 0) (pa_cons (pv 1) (pa_cons (pv 2) pa_nil)))) (pe_c N hr hk rfl (pa_cons (pv 0) (pa_cons (pv 1) (pa_cons (pv 2) pa_nil)))) (nomark _)) (pss_one (ps_ret pe_bl)) pss_nil)
      (pss_one (ps_ret (pe_cmpR op_eq (pe_c T1 hr (Nat.le_refl _) rfl (pa_cons (pv 1) (pa_cons (pv 0) (pa_cons (pe_c T1 hr (Nat.le_refl _) rfl (pa_cons (pv 0) (pa_cons (pv 1) (pa_cons (pv 2) pa_nil)))) pa_nil)))) (pv 2) (nomark _)))))), ?_⟩
    obtain ⟨r1, r2, c1, c2, p0, p1⟩ := hT
    have hT : Tbl3 r c p := ⟨r1, r2, c1, c2, p0, p1⟩
    have one : itn r c (1 : Int).toNat p = nx r c p := rfl
    refine ⟨_, rfl, ?_⟩
    refine ⟨13, rfl, by decide, by decide, for_it (walk_range (n := 13)) (fun i σ' H' => (∃ u, σ' = [some (.int r), some (.int c), some (.int p), some (.int (itn r c i p)), u]) ∧ Same H H') ⟨⟨none, rfl⟩, Same.refl H⟩ (fun _ _ _ _ _ => trivial) ?_ ?_⟩
    · rintro i x σ' H2 H3 hi ⟨⟨u, rfl⟩, S2⟩ ⟨rfl, rfl⟩
      have ti : (0 + (i : Int)).toNat = i := by omega
      refine ⟨_, rfl, _, rfl, _, rfl, _, rfl, r, c, p, _, rfl, hT, by omega, by omega, fun H4 S4 => ⟨_, rfl, rfl, _, rfl, ?_⟩⟩
      have i2 := itn_in hT i
      refine ifF ?_ ⟨_, rfl, _, rfl, _, rfl, r, c, _, rfl, ⟨r1, r2, c1, c2, i2.1, i2.2⟩, ⟨_, rfl⟩, S2.trans S4⟩
      first
        | rw [decide_eq_true rfl]; rfl
        | (rw [decide_eq_true (by rw [ti])]; rfl)
        | (rw [decide_eq_true (by rw [Int.toNat_natCast])]; rfl)
    · rintro σ' H2 ⟨⟨u, rfl⟩, S2⟩
      refine ⟨_, rfl, _, rfl, _, rfl, r, c, p, 1, rfl, hT, by decide, by decide, fun H4 S4 => ⟨_, rfl, _, rfl, _, rfl, r, c, p, rfl, hT, rfl, _, rfl, ifF (by rw [one, decide_eq_true rfl]; rfl) ?_⟩⟩
      dsimp only [tNext]
      have i2 := nx_in hT
      refine ⟨_, rfl, _, rfl, _, rfl, _, rfl, _, rfl, r, c, p, 1, rfl, hT, by decide, by decide, fun H5 S5 => ⟨c, r, nx r c p, 1, rfl, ⟨c1, c2, r1, r2, i2.1, by rw [Int.mul_comm]; exact i2.2⟩, by decide, by decide, fun H6 S6 => ⟨_, rfl, rfl, ?_⟩⟩⟩
      have e : itn c r (1 : Int).toNat (nx r c p) = p := nx_back hT
      rw [e, decide_eq_true rfl]
      exact q H6 (((S2.trans S4).trans S5).trans S6)
end
end E3

set_option Elab.async false
set_option linter.all false
set_option maxRecDepth 100000
set_option maxHeartbeats 1000000
/-! law_k71: _law_primes -/
namespace E3
open PySem PySem.Spec PyProof.Rows L2
open C8 (Cal Mak Met InsC pe_c pe_mt pe_mt0 call_isC clsBody)
def FacI (n : Int) (qs : List Int) (m : Int) : Prop := 1 ≤ m ∧ (2 : Int) ^ qs.length * m ≤ n ∧ ∀ q ∈ qs, 2 ≤ q ∧ q ≤ n
theorem pow_pos2 (k : Nat) : (1 : Int) ≤ 2 ^ k := by
  induction k with
  | zero => decide
  | succ k ih => rw [Int.pow_succ]; omega
theorem FacI.le {n m : Int} {qs : List Int} (h : FacI n qs m) : m ≤ n := by
  obtain ⟨h1, h2, _⟩ := h
  have := pow_pos2 qs.length
  have : 1 * m ≤ 2 ^ qs.length * m := Int.mul_le_mul_of_nonneg_right this (by omega)
  omega
theorem FacI.len {n m : Int} {qs : List Int} (h : FacI n qs m) (hn : n ≤ 900000000) : qs.length < 30 := by
  obtain ⟨h1, h2, _⟩ := h
  have p := pow_pos2 qs.length
  have h3 : (2 : Int) ^ qs.length * 1 ≤ 2 ^ qs.length * m := Int.mul_le_mul_of_nonneg_left h1 (by omega)
  have h4 : (2 : Int) ^ qs.length ≤ 900000000 := by omega
  rcases Nat.lt_or_ge qs.length 30 with h | h
  · exact h
  · have e : (2 : Int) ^ qs.length = 2 ^ 30 * 2 ^ (qs.length - 30) := by rw [← Int.pow_add]; congr 1; omega
    have p2 := pow_pos2 (qs.length - 30)
    have : (2 : Int) ^ 30 = 1073741824 := by decide
    rw [e, this] at h4
    omega
theorem FacI.step {n m q : Int} {qs : List Int} (h : FacI n qs m) (h2 : 2 ≤ q) (hm : q ≤ m) (hd : m % q = 0) : FacI n (qs ++ [q]) (m / q) := by
  have hle := h.le
  obtain ⟨a, b, c⟩ := h
  have e : q * (m / q) = m := by
    have := Int.mul_ediv_add_emod m q
    omega
  have m1 : 1 ≤ m / q := by
    rcases Int.lt_or_le 0 (m / q) with z | z
    · exact z
    · have : q * (m / q) ≤ q * 0 := Int.mul_le_mul_of_nonneg_left z (by omega)
      omega
  refine ⟨m1, ?_, fun x hx => ?_⟩
  · rw [List.length_append, List.length_singleton, Int.pow_succ]
    have h3 : 2 * (m / q) ≤ q * (m / q) := Int.mul_le_mul_of_nonneg_right h2 (by omega)
    have p := pow_pos2 qs.length
    have h4 : (2 : Int) ^ qs.length * (2 * (m / q)) ≤ 2 ^ qs.length * m := Int.mul_le_mul_of_nonneg_left (by omega) (by omega)
    rw [Int.mul_assoc]
    omega
  · rcases List.mem_append.mp hx with hx | hx
    · exact c x hx
    · rw [List.mem_singleton.mp hx]
      omega
def spPrimes : Sp := fun vs H Q _ => ∃ n : Int, vs = [.int n] ∧ 1 ≤ n ∧ n ≤ 900000000 ∧ ∀ H' p (qs : List Int), Same H H' → H p = none → H' p = some (.lst (qs.map V.int)) → qs.length < 31 → (∀ q ∈ qs, 2 ≤ q ∧ q ≤ n) → Q (.ref p) H'
section
variable {P : Program} {w : World} {K : PySem.W.Frag} {mg : Str → Option Value} {base : Heap}
theorem scPrimes : FnScope ["_law_many", "_law_found", "_law_prime", "_law_turn"] ["_law_many"] (defScope sPrimes) := ⟨rfl, rfl, rfl, by decide +kernel, rfl, by decide +kernel, by decide +kernel⟩
theorem ok_primes {f : Addr} {fd : FuncData} (F : Fun K "_law_primes" "_law_primes" sPrimes f fd) (B : Bt4 mg) : FnOk P w K mg base CX0 1 f fd ["_law_many"] spPrimes := by
  refine F.ok scPrimes (fun vs H Q E h => ?_) (fun cdv A outer s H vs Q E hr h => ?_)
  · obtain ⟨n, rfl, _⟩ := h
    rfl
  · obtain ⟨n, rfl, n0, n1, k⟩ := h
    refine ⟨_, pss_cons (ps_par (i := 1) (j := 2) (by rfl) scPrimes.nd rfl rfl (by decide) rfl rfl (pa_cons (pe_lst pa_nil) (pa_cons pe_int pa_nil)) (by rfl))
      (pss_cons (ps_for PassesOwn.never rfl (pi_range1 rfl B.rng_ (pa_cons pe_int pa_nil)) (pg_name (i := 3) scPrimes.nd rfl (Or.inl rfl))
        (pss_cons (ps_if (pt_cmpR op_gt (pe_op op_mul (pv 2) (pv 2)) (pv 0) (nomark _)) (pss_one ps_break) pss_nil)
        (pss_one (ps_if (pt_cmpR op_eq (pe_op op_mod (pv 0) (pv 2)) pe_int (nomark _))
          (pss_cons (ps_set (i := 0) scPrimes.nd rfl (Or.inl rfl) (pe_op op_fdivW (pv 0) (pv 2)))
          (pss_one (ps_expr (pe_bm PySem.F.plainAttrs_list PySem.F.slot_list_append PySem.F.type_list_append mt_append (pv 1) (pa_cons (pv 2) pa_nil)))))
          (pss_one (ps_set (i := 2) scPrimes.nd rfl (Or.inl rfl) (pe_op op_add (pv 2) pe_int)))))))
      (pss_one (ps_ret (pe_ifExp (pt_cmpR op_gt (pv 0) pe_int (nomark _)) (pe_op op_cat (pv 1) (pe_lstS (pa_cons (pv 0) pa_nil))) (pv 1))))), ?_⟩
    refine ⟨by decide, fun D nD => ⟨_, _, rfl, ?_⟩⟩
    have SD : Same H (upd H D (.lst [])) := Same.upd nD
    have z5 : (100000 : Nat) ≤ sizeLine := by rw [sizeLine_eq]; decide
    dsimp only
    refine ts_mid (fun σ' H' => ∃ (m pr : Int) (qs : List Int) (u : Option V), σ' = [some (.int m), some (.ref D), some (.int pr), u] ∧ Same H H' ∧ H' D = some (.lst (qs.map V.int)) ∧ FacI n qs m) (fun N hN => ?_) ?_
    · refine ⟨40000, rfl, by decide, by decide, for_it (walk_range (n := 40000)) (fun i σ' H' => ∃ (m pr : Int) (qs : List Int) (u : Option V), σ' = [some (.int m), some (.ref D), some (.int pr), u] ∧ Same H H' ∧ H' D = some (.lst (qs.map V.int)) ∧ FacI n qs m ∧ 2 ≤ pr ∧ pr ≤ 2 + (i : Nat)) ⟨n, 2, [], none, rfl, SD, upd_same, ⟨n0, by simp, fun q hq => absurd hq List.not_mem_nil⟩, by decide, by decide⟩ (fun _ _ _ _ _ => trivial) ?_ ?_⟩
      · rintro i x σ' H2 H3 hi ⟨m, pr, qs, u, rfl, S2, hD, fc, p2, pi⟩ ⟨rfl, rfl⟩
        have hmn := fc.le
        have hm1 := fc.1
        have ql := fc.len n1
        refine ⟨_, rfl, _, rfl, _, _, rfl, rfl, .inl ⟨by omega, by omega⟩, _, rfl, _, _, rfl, rfl, _, rfl, iteD (fun h => ?_) (fun h => ?_)⟩
        · exact hN _ _ ⟨m, pr, qs, _, rfl, S2, hD, fc⟩
        · dsimp only [tNext]
          have pm : pr ≤ m := by
            have h2 : pr * 1 ≤ pr * pr := Int.mul_le_mul_of_nonneg_left (by omega) (by omega)
            omega
          refine ⟨_, rfl, _, rfl, _, _, rfl, rfl, (show 0 < pr by omega), rfl, _, rfl, ?_⟩
          by_cases c : m % pr = 0
          · refine ifT (decide_eq_true (show V.int (m % pr) = V.int 0 by rw [c])) ?_
            have dv : CDivW m pr := ⟨by omega, by
              have : pr.natAbs < 2 ^ 20 := by omega
              have := PySem.Flt.log2_lt_of (k := 20) (by decide) this
              omega⟩
            refine ⟨_, rfl, _, rfl, _, _, rfl, rfl, dv, ?_⟩
            refine ⟨_, rfl, .inl ⟨rfl, _, SqL.of hD⟩, _, rfl, D, _, _, rfl, rfl, hD, by rw [List.length_map]; omega, ?_⟩
            refine ⟨m / pr, pr, qs ++ [pr], _, rfl, fun b o e => ?_, by rw [upd_same, List.map_append]; rfl, fc.step p2 pm c, p2, by omega⟩
            rw [upd_ne (ne_of_none e nD)]
            exact S2 _ _ e
          · refine ifF (decide_eq_false (show ¬ V.int (m % pr) = V.int 0 from fun z => c (by injection z))) ?_
            exact ⟨_, rfl, _, _, rfl, rfl, m, pr + 1, qs, _, rfl, S2, hD, fc, by omega, by omega⟩
      · rintro σ' H2 ⟨m, pr, qs, u, rfl, S2, hD, fc, p2, pi⟩
        exact hN _ _ ⟨m, pr, qs, u, rfl, S2, hD, fc⟩
    · rintro _ H2 ⟨m, pr, qs, u, rfl, S2, hD, fc⟩
      have hmn := fc.le
      have ql := fc.len n1
      refine ⟨_, rfl, _, _, rfl, rfl, _, rfl, iteD (fun h => ?_) (fun h => ?_)⟩
      · refine ⟨_, rfl, _, rfl, (by show 1 ≤ sizeLine; decide), fun p H3 S3 np hp => ?_⟩
        refine ⟨D, p, _, _, rfl, rfl, S3 _ _ hD, hp, by rw [List.length_map]; exact Nat.le_trans (by show qs.length + 1 ≤ 100000; omega) z5, fun q nq => ?_⟩
        refine k _ q (qs ++ [m]) ((S2.trans S3).trans (Same.upd nq)) ((S2.trans S3).free nq) (by rw [upd_same, List.map_append]; rfl) (by rw [List.length_append, List.length_singleton]; omega) fun x hx => ?_
        rcases List.mem_append.mp hx with hx | hx
        · exact fc.2.2 x hx
        · rw [List.mem_singleton.mp hx]
          omega
      · exact ⟨_, rfl, k H2 D qs S2 nD hD (by omega) fc.2.2⟩
end
end E3

set_option Elab.async false
set_option linter.all false
set_option maxRecDepth 100000
set_option maxHeartbeats 1000000
/-! rings: is_whole, is_count, check_lengths, check_place, power, units, factors -/
namespace E3
open PySem PySem.Spec PyProof.Rows L2
open C8 (Cal Mak Met InsC pe_c pe_mt pe_mt0 call_isC clsBody)
abbrev sWhole : Stmt := top 5
abbrev sCount : Stmt := top 6
abbrev sTurned : Stmt := top 8
abbrev sRingLen : Stmt := top 9
abbrev sChkL : Stmt := top 10
abbrev sChkP : Stmt := top 11
abbrev sOrder : Stmt := top 12
abbrev sUnits : Stmt := top 13
abbrev sFactors : Stmt := top 14
abbrev sPower : Stmt := top 15
structure Bt5 (mg : Str → Option Value) : Prop where
  isi : mg "isinstance" = none
  int_ : mg "int" = none
  bool_ : mg "bool" = none
  sorted_ : mg "sorted" = none
abbrev cI (n : Nat) : V := .int ((n : Nat) : Int)
/-- rows, columns, a place -/
def Tb (r c : Nat) : Prop := 1 ≤ r ∧ 1 ≤ c ∧ r ≤ 65536 ∧ c ≤ 65536
def spWh1 : Sp := fun vs H Q _ => ∃ i : Int, vs = [.int i] ∧ Q (.bl true) H
def spCnt1 : Sp := fun vs H Q _ => ∃ i : Int, vs = [.int i] ∧ 0 ≤ i ∧ Q (.bl true) H
def spChkL : Sp := fun vs H Q _ => ∃ r c : Nat, vs = [cI r, cI c] ∧ Tb r c ∧ ∀ H', Same H H' → Q .non H'
def spChkP : Sp := fun vs H Q _ => ∃ r c p : Nat, vs = [cI r, cI c, cI p] ∧ Tb r c ∧ p < r * c ∧ ∀ H', Same H H' → Q .non H'
def spPower : Sp := fun vs H Q _ => ∃ b e m : Nat, vs = [cI b, cI e, cI m] ∧ b < 2 ^ 40 ∧ e < 2 ^ 200 ∧ 1 ≤ m ∧ m < 2 ^ 40 ∧ Q (cI (pw b e m)) H
def spUnits : Sp := fun vs H Q _ => ∃ p e : Nat, vs = [cI p, cI e] ∧ 2 ≤ p ∧ p < 2 ^ 40 ∧ 1 ≤ e ∧ e < 2 ^ 40 ∧ Q (cI (unitsM p e)) H
/-- a list of pairs of numbers -/
def PrsAt (H : Hp) (a : Addr) (l : List (Nat × Nat)) : Prop := ∃ ts : List Addr, H a = some (.lst (ts.map V.ref)) ∧ ts.length = l.length ∧ ∀ (i : Nat) (t : Addr) (x : Nat × Nat), ts[i]? = some t → l[i]? = some x → H t = some (.tup [cI x.1, cI x.2])
theorem PrsAt.same {H H' : Hp} {a : Addr} {l : List (Nat × Nat)} (h : PrsAt H a l) (S : Same H H') : PrsAt H' a l :=
  let ⟨ts, h1, h2, h3⟩ := h
  ⟨ts, S _ _ h1, h2, fun i t x e1 e2 => S _ _ (h3 i t x e1 e2)⟩
theorem PrsAt.nil {H : Hp} {a : Addr} (h : H a = some (.lst [])) : PrsAt H a [] := ⟨[], h, rfl, fun i t x e => by simp at e⟩
theorem PrsAt.snoc {H : Hp} {a t : Addr} {l : List (Nat × Nat)} {ts : List Addr} {x : Nat × Nat} (h1 : H a = some (.lst (ts.map V.ref))) (h2 : ts.length = l.length) (h3 : ∀ (i : Nat) (t : Addr) (x : Nat × Nat), ts[i]? = some t → l[i]? = some x → H t = some (.tup [cI x.1, cI x.2]))
    (ht : H t = some (.tup [cI x.1, cI x.2])) : PrsAt (upd H a (.lst (ts.map V.ref ++ [V.ref t]))) a (l ++ [x]) := by
  refine ⟨ts ++ [t], by rw [upd_same, List.map_append]; rfl, by rw [List.length_append, List.length_append, h2]; rfl, fun i u y e1 e2 => ?_⟩
  have ne : ∀ (b : Addr) (q : List V), H b = some (.tup q) → b ≠ a := fun b q e z => by rw [z, h1] at e; cases e
  rcases Nat.lt_trichotomy i ts.length with c | c | c
  · rw [List.getElem?_append_left c] at e1
    rw [List.getElem?_append_left (by omega)] at e2
    have := h3 i u y e1 e2
    rw [upd_ne (ne _ _ this)]
    exact this
  · subst c
    rw [List.getElem?_append_right (Nat.le_refl _)] at e1
    rw [List.getElem?_append_right (by omega), h2] at e2
    simp at e1 e2
    subst e1 e2
    rw [upd_ne (ne _ _ ht)]
    exact ht
  · rw [List.getElem?_eq_none (by simp; omega)] at e1
    cases e1
def spFactors : Sp := fun vs H Q _ => ∃ v : Nat, vs = [cI v] ∧ 1 ≤ v ∧ v < 2 ^ 40 ∧ ∀ H' a, Same H H' → PrsAt H' a (facM v) → Q (.ref a) H'
theorem l40 {n : Nat} (h : n < 2 ^ 40) : ((n : Nat) : Int).natAbs.log2 < 9000 := by
  have := PySem.Flt.log2_lt_of (k := 40) (n := ((n : Nat) : Int).natAbs) (by decide) (by rw [Int.natAbs_natCast]; exact h)
  omega
section
variable {P : Program} {w : World} {K : PySem.W.Frag} {mg : Str → Option Value} {base : Heap}
theorem kit_ii : PySem.W.kitOne K (.type "int") (.type "int") = some true := by kernel_rfl
theorem kit_ib : PySem.W.kitOne K (.type "int") (.type "bool") = some false := by kernel_rfl
theorem scWhole : FnScope ["value"] ["value"] (defScope sWhole) := ⟨rfl, rfl, rfl, by decide +kernel, rfl, by decide +kernel, by decide +kernel⟩
theorem ok_whole1 {f : Addr} {fd : FuncData} (F : Fun K "is_whole" "is_whole" sWhole f fd) (B : Bt5 mg) : FnOk P w K mg base CX0 1 f fd ["value"] spWh1 := by
  refine F.ok scWhole (fun vs H Q E h => ?_) (fun cdv A outer s H vs Q E hr h => ?_)
  · obtain ⟨v, rfl, _⟩ := h
    rfl
  · obtain ⟨i, rfl, q⟩ := h
    refine ⟨_, pss_one (ps_ret (pe_and (pe_callB call_isi (by rfl) B.isi (by decide +kernel) (pa_cons (pv 0) (pa_cons (pe_bltn (v := .ty "int") (by rfl) B.int_ (by decide +kernel) rfl) pa_nil)))
      (pe_one (pe_not (pe_callB call_isi (by rfl) B.isi (by decide +kernel) (pa_cons (pv 0) (pa_cons (pe_bltn (v := .ty "bool") (by rfl) B.bool_ (by decide +kernel) rfl) pa_nil))))))), ?_⟩
    refine ⟨_, rfl, _, _, _, _, true, rfl, .ty "int", .base (.int i), kit_ii, true, rfl, iteT (B := False) ?_⟩
    exact ⟨_, rfl, _, _, _, _, false, rfl, .ty "bool", .base (.int i), kit_ib, false, rfl, q⟩
theorem scCount : FnScope ["value"] ["value"] (defScope sCount) := ⟨rfl, rfl, rfl, by decide +kernel, rfl, by decide +kernel, by decide +kernel⟩
theorem ok_count1 {f : Addr} {fd : FuncData} (F : Fun K "is_count" "is_count" sCount f fd) (Wh : Cal P w K mg base 1 "is_whole" spWh1 []) : FnOk P w K mg base CX0 2 f fd ["value"] spCnt1 := by
  refine F.ok scCount (fun vs H Q E h => ?_) (fun cdv A outer s H vs Q E hr h => ?_)
  · obtain ⟨v, rfl, _⟩ := h
    rfl
  · obtain ⟨i, rfl, i0, q⟩ := h
    refine ⟨_, pss_one (ps_ret (pe_and (pe_c Wh hr (by decide) rfl (pa_cons (pv 0) pa_nil)) (pe_one (pe_cmpR op_ge (pv 0) pe_int (nomark _))))), ?_⟩
    refine ⟨_, rfl, _, rfl, true, rfl, iteT (B := False) ⟨_, rfl, _, _, rfl, rfl, ?_⟩⟩
    show Q (.bl (decide (0 ≤ i))) H
    rw [decide_eq_true i0]
    exact q
theorem scChkL : FnScope ["rows", "columns", "value"] ["rows", "columns"] (defScope sChkL) := ⟨rfl, rfl, rfl, by decide +kernel, rfl, by decide +kernel, by decide +kernel⟩
theorem ok_chkL {f : Addr} {fd : FuncData} (F : Fun K "check_lengths" "check_lengths" sChkL f fd) (Wh : Cal P w K mg base 1 "is_whole" spWh1 []) : FnOk P w K mg base CX0 2 f fd ["rows", "columns"] spChkL := by
  refine F.ok scChkL (fun vs H Q E h => ?_) (fun cdv A outer s H vs Q E hr h => ?_)
  · obtain ⟨r, c, rfl, _⟩ := h
    rfl
  · obtain ⟨r, c, rfl, ⟨r1, c1, r2, c2⟩, q⟩ := h
    refine ⟨_, pss_one (ps_for PassesOwn.never rfl (pi_list (pe_lstS (pa_cons (pv 0) (pa_cons (pv 1) pa_nil)))) (pg_name (i := 2) scChkL.nd rfl (Or.inl rfl))
      (pss_one (ps_if (PW.pt (pw_or (pt_not (pt_val (pe_c Wh hr (by decide) rfl (pa_cons (pv 2) pa_nil)))) (pw_or1 (pt_cmpR op_lt (pv 2) pe_int (nomark _))))) (pss_one ps_never) pss_nil))), ?_⟩
    refine ⟨_, rfl, _, rfl, (by show 2 ≤ sizeLine; decide), fun l H1 S1 n1 h1 => ?_⟩
    refine ⟨l, rfl, ⟨_, SqL.of h1⟩, for_it (walk_list (xs := [cI r, cI c])) (fun i σ' H' => (∃ u, σ' = [some (cI r), some (cI c), u]) ∧ Same H1 H') ⟨⟨none, rfl⟩, Same.refl _⟩ (fun i σ' H' _ p => SqL.of (p.2 _ _ h1)) ?_ ?_⟩
    · rintro i x σ' H2 H3 hi ⟨⟨u, rfl⟩, S2⟩ ⟨rfl, hx⟩
      have hv : ∃ n : Nat, x = cI n ∧ 1 ≤ n := by
        match i, hi, hx with
        | 0, _, hx => exact ⟨r, (Option.some.inj hx).symm, r1⟩
        | 1, _, hx => exact ⟨c, (Option.some.inj hx).symm, c1⟩
      obtain ⟨n, rfl, n1⟩ := hv
      refine ⟨_, rfl, _, rfl, true, rfl, iteF ⟨_, rfl, _, _, rfl, rfl, _, rfl, ?_⟩⟩
      rw [decide_eq_false (by omega)]
      exact iteF ⟨⟨_, rfl⟩, S2⟩
    · rintro σ' H2 ⟨_, S2⟩
      exact q H2 (S1.trans S2)
theorem scChkP : FnScope ["rows", "columns", "place"] ["rows", "columns", "place"] (defScope sChkP) := ⟨rfl, rfl, rfl, by decide +kernel, rfl, by decide +kernel, by decide +kernel⟩
theorem ok_chkP {f : Addr} {fd : FuncData} (F : Fun K "check_place" "check_place" sChkP f fd) (L : Cal P w K mg base 2 "check_lengths" spChkL []) (Cn : Cal P w K mg base 2 "is_count" spCnt1 []) : FnOk P w K mg base CX0 3 f fd ["rows", "columns", "place"] spChkP := by
  refine F.ok scChkP (fun vs H Q E h => ?_) (fun cdv A outer s H vs Q E hr h => ?_)
  · obtain ⟨r, c, p, rfl, _⟩ := h
    rfl
  · obtain ⟨r, c, p, rfl, hT, hp, q⟩ := h
    refine ⟨_, pss_cons (ps_expr (pe_c L hr (by decide) rfl (pa_cons (pv 0) (pa_cons (pv 1) pa_nil))))
      (pss_one (ps_if (PW.pt (pw_or (pt_not (pt_val (pe_c Cn hr (by decide) rfl (pa_cons (pv 2) pa_nil)))) (pw_or1 (pt_cmpR op_ge (pv 2) (pe_op op_mul (pv 0) (pv 1)) (nomark _))))) (pss_one ps_never) pss_nil)), ?_⟩
    obtain ⟨r1, c1, r2, c2⟩ := id hT
    refine ⟨_, rfl, _, rfl, r, c, rfl, hT, fun H1 S1 => ⟨_, rfl, _, rfl, by omega, true, rfl, iteF ⟨_, rfl, _, rfl, _, rfl, _, _, rfl, rfl, .inl ⟨by omega, by omega⟩, _, _, rfl, rfl, _, rfl, ?_⟩⟩⟩
    rw [decide_eq_false (by
      have h0 : ((p : Nat) : Int) < ((r * c : Nat) : Int) := Int.ofNat_lt.mpr hp
      rw [Int.natCast_mul] at h0
      omega)]
    exact iteF (q H1 S1)
theorem scPower : FnScope ["base", "exponent", "modulus", "found"] ["base", "exponent", "modulus"] (defScope sPower) := ⟨rfl, rfl, rfl, by decide +kernel, rfl, by decide +kernel, by decide +kernel⟩
theorem ok_power {f : Addr} {fd : FuncData} (F : Fun K "power" "power" sPower f fd) : FnOk P w K mg base CX0 1 f fd ["base", "exponent", "modulus"] spPower := by
  refine F.ok scPower (fun vs H Q E h => ?_) (fun cdv A outer s H vs Q E hr h => ?_)
  · obtain ⟨b, e, m, rfl, _⟩ := h
    rfl
  · obtain ⟨b, e, m, rfl, hb, he, m1, m2, q⟩ := h
    refine ⟨_, pss_cons (ps_set (i := 3) scPower.nd rfl (Or.inl rfl) pe_int)
      (pss_cons (ps_while PassesOwn.never (pt_cmpR op_gt (pv 1) pe_int (nomark _))
        (pss_cons (ps_if (pt_cmpR op_eq (pe_op op_mod (pv 1) pe_int) pe_int (nomark _)) (pss_one (ps_set (i := 3) scPower.nd rfl (Or.inl rfl) (pe_op op_mod (pe_op op_mul (pv 3) (pv 0)) (pv 2)))) pss_nil)
        (pss_cons (ps_set (i := 0) scPower.nd rfl (Or.inl rfl) (pe_op op_mod (pe_op op_mul (pv 0) (pv 0)) (pv 2)))
        (pss_one (ps_set (i := 1) scPower.nd rfl (Or.inl rfl) (pe_op op_fdiv (pv 1) pe_int))))))
      (pss_one (ps_ret (pv 3)))), ?_⟩
    refine while_by (fun σ' H' => ∃ c x g : Nat, σ' = [some (cI c), some (cI x), some (cI m), some (cI g)] ∧ H' = H ∧ c < 2 ^ 40 ∧ g < 2 ^ 40 ∧ (x = 0 → g = pw b e m) ∧ (0 < x → (g * c ^ x) % m = b ^ e % m ∧ 0 < e)) (fun σ' _ => match σ' with
      | [_, some (.int x), _, _] => x.toNat
      | _ => 0) ⟨b, e, 1, rfl, rfl, hb, by decide, fun z => ?_, fun z => ⟨?_, z⟩⟩ ?_ ?_
    · unfold pw; rw [if_pos z]
    · rw [Nat.one_mul]
    · rintro σ' H' ⟨c, x, g, rfl, rfl, c1, g1, h1, h2⟩
      refine ⟨_, rfl, _, _, rfl, rfl, _, rfl, iteD (fun hx => ?_) (fun hx => ?_)⟩
      · have x0 : 0 < x := by omega
        obtain ⟨k1, k2⟩ := pw_step x0 (h2 x0)
        have lt : ∀ y : Nat, y % m < 2 ^ 40 := fun y => Nat.lt_trans (Nat.mod_lt _ (by omega)) m2
        have m0 : (0 : Int) < ((m : Nat) : Int) := by omega
        have ex : ((x : Nat) : Int) % 2 = ((x % 2 : Nat) : Int) := by rw [Int.natCast_emod]; rfl
        refine ⟨_, rfl, _, _, rfl, rfl, (by show (0 : Int) < 2; decide), ?_⟩
        have fin : ∀ (g' : Nat) (v : V), v = cI g' → g' < 2 ^ 40 → g' = (if x % 2 = 1 then g * c % m else g) → ∃ c' x' g'' : Nat, [some (V.int (((c : Nat) : Int) * ((c : Nat) : Int) % ((m : Nat) : Int))), some (V.int (((x : Nat) : Int) / 2)), some (cI m), some v] = [some (cI c'), some (cI x'), some (cI m), some (cI g'')] ∧ H' = H' ∧ c' < 2 ^ 40 ∧ g'' < 2 ^ 40 ∧ (x' = 0 → g'' = pw b e m) ∧ (0 < x' → (g'' * c' ^ x') % m = b ^ e % m ∧ 0 < e) := by
          intro g' v hv l e1
          subst hv
          refine ⟨c * c % m, x / 2, g', ?_, rfl, lt _, l, ?_, ?_⟩
          · simp only [cI, Int.natCast_emod, Int.natCast_mul, Int.natCast_ediv]; rfl
          · rw [e1]; exact k1
          · rw [e1]; exact k2
        have me : (((x : Nat) : Int) / 2).toNat < ((x : Nat) : Int).toNat := by omega
        refine ⟨rfl, _, rfl, iteD (fun ho => ?_) (fun ho => ?_)⟩
        · refine ⟨_, rfl, _, rfl, _, _, rfl, rfl, .inl ⟨by omega, by omega⟩, _, rfl, _, _, rfl, rfl, m0, ?_⟩
          refine ⟨_, rfl, _, rfl, _, _, rfl, rfl, .inl ⟨by omega, by omega⟩, _, rfl, _, _, rfl, rfl, m0, ?_⟩
          refine ⟨_, rfl, _, _, rfl, rfl, (by constructor <;> decide), ?_⟩
          have e1 : V.int (((g : Nat) : Int) * ((c : Nat) : Int) % ((m : Nat) : Int)) = cI (g * c % m) := by unfold cI; rw [Int.natCast_emod, Int.natCast_mul]
          have o1 : x % 2 = 1 := by
            have z := V.int.inj ho
            rw [ex] at z
            omega
          exact ⟨fin _ _ e1 (lt _) (by rw [if_pos o1]), me⟩
        · dsimp only [tNext]
          refine ⟨_, rfl, _, rfl, _, _, rfl, rfl, .inl ⟨by omega, by omega⟩, _, rfl, _, _, rfl, rfl, m0, ?_⟩
          refine ⟨_, rfl, _, _, rfl, rfl, (by constructor <;> decide), ?_⟩
          have o1 : ¬ x % 2 = 1 := fun z => ho (by show V.int (((x : Nat) : Int) % 2) = V.int 1; rw [ex, z]; rfl)
          exact ⟨fin _ _ rfl g1 (by rw [if_neg o1]), me⟩
      · have x0 : x = 0 := by omega
        refine ⟨_, rfl, ?_⟩
        rw [h1 x0]
        exact q
    · rintro σ' H' Q1 Q2 hq h
      obtain ⟨v, hv, i, j, e1, e2, b, hb, r⟩ := h
      exact ⟨v, hv, i, j, e1, e2, b, hb, hq _ _ r⟩
end
end E3

set_option Elab.async false
set_option linter.all false
set_option maxRecDepth 100000
set_option maxHeartbeats 1000000
/-! rings: units, factors, order -/
namespace E3
open PySem PySem.Spec PyProof.Rows L2
open C8 (Cal Mak Met InsC pe_c pe_mt pe_mt0 call_isC clsBody)
def spOrder : Sp := fun vs H Q _ => ∃ b p e : Nat, vs = [cI b, cI p, cI e] ∧ b < 2 ^ 40 ∧ 2 ≤ p ∧ 1 ≤ e ∧ p ^ e < 2 ^ 40 ∧ ∀ H', Same H H' → Q (cI (ordM b p e)) H'
theorem cI_div (a b : Nat) : V.int (((a : Nat) : Int) / ((b : Nat) : Int)) = cI (a / b) := congrArg V.int (Int.natCast_ediv a b).symm
theorem cI_mod (a b : Nat) : V.int (((a : Nat) : Int) % ((b : Nat) : Int)) = cI (a % b) := congrArg V.int (Int.natCast_emod a b).symm
theorem cI_mul (a b : Nat) : V.int (((a : Nat) : Int) * ((b : Nat) : Int)) = cI (a * b) := congrArg V.int (Int.natCast_mul a b).symm
theorem cI_add (a b : Nat) : V.int (((a : Nat) : Int) + ((b : Nat) : Int)) = cI (a + b) := congrArg V.int (Int.natCast_add a b).symm
theorem cI_sub1 {a : Nat} (h : 1 ≤ a) : V.int (((a : Nat) : Int) - 1) = cI (a - 1) := congrArg V.int (by omega)
theorem cI_inj {a b : Nat} (h : cI a = cI b) : a = b := by have := V.int.inj h; omega
def WFac (V : Nat) (a : Addr) (H : Hp) : Nat → L2.St → Hp → Prop := fun m σ H' => ∃ n p v acc u, σ = [some (cI v), some (.ref a), some (cI p), u] ∧ Same H H' ∧ PrsAt H' a acc ∧ m = v + 2 - p ∧ v + 2 ≤ n + p ∧ facGo n p v acc = facM V ∧ 2 ≤ p ∧ p ≤ 2 ^ 40 ∧ 1 ≤ v ∧ v < 2 ^ 40 ∧ Good acc ∧ prodF acc * v = V
def WStr (p v : Nat) (a : Addr) (H : Hp) : Nat → L2.St → Hp → Prop := fun m σ H' => ∃ n v2 e, σ = [some (cI v2), some (.ref a), some (cI p), some (cI e)] ∧ H' = H ∧ v2 = m ∧ v2 ≤ n ∧ stripGo n p v2 e = stripGo v p v 0 ∧ 1 ≤ v2 ∧ v2 ≤ v
section
variable {P : Program} {w : World} {K : PySem.W.Frag} {mg : Str → Option Value} {base : Heap}
theorem scUnits : FnScope ["prime", "exponent", "found", "_"] ["prime", "exponent"] (defScope sUnits) := ⟨rfl, rfl, rfl, by decide +kernel, rfl, by decide +kernel, by decide +kernel⟩
theorem ok_units {f : Addr} {fd : FuncData} (F : Fun K "units" "units" sUnits f fd) (B : Bt4 mg) : FnOk P w K mg base CX0 1 f fd ["prime", "exponent"] spUnits := by
  refine F.ok scUnits (fun vs H Q E h => ?_) (fun cdv A outer s H vs Q E hr h => ?_)
  · obtain ⟨p, e, rfl, _⟩ := h
    rfl
  · obtain ⟨p, e, rfl, p2, pl, e1, el, q⟩ := h
    refine ⟨_, pss_cons (ps_set (i := 2) scUnits.nd rfl (Or.inl rfl) (pe_op op_sub (pv 0) pe_int))
      (pss_cons (ps_for PassesOwn.never rfl (pi_range1 rfl B.rng_ (pa_cons (pe_op op_sub (pv 1) pe_int) pa_nil)) (pg_name (i := 3) scUnits.nd rfl (Or.inl rfl))
        (pss_one (ps_set (i := 2) scUnits.nd rfl (Or.inl rfl) (pe_op op_mul (pv 2) (pv 0)))))
      (pss_one (ps_ret (pv 2)))), ?_⟩
    refine ⟨_, rfl, _, _, rfl, rfl, ?_⟩
    refine ⟨_, rfl, _, _, rfl, rfl, _, rfl, by omega, by omega, for_it (walk_range (n := (((e : Nat) : Int) - 1).toNat)) (fun i σ' H' => (∃ u, σ' = [some (cI p), some (cI e), some (cI ((p - 1) * p ^ i)), u]) ∧ H' = H) ⟨⟨none, ?_⟩, rfl⟩ (fun _ _ _ _ _ => trivial) ?_ ?_⟩
    · rw [Nat.pow_zero, Nat.mul_one, ← cI_sub1 (by omega)]; rfl
    · rintro i x σ' H2 H3 hi ⟨⟨u, rfl⟩, rfl⟩ ⟨rfl, rfl⟩
      refine ⟨_, rfl, _, rfl, _, _, rfl, rfl, .inr ⟨by omega, by omega⟩, ⟨some (V.int (0 + (i : Nat))), ?_⟩, rfl⟩
      have := cI_mul ((p - 1) * p ^ i) p
      rw [Nat.pow_succ, ← Nat.mul_assoc, ← this]
      rfl
    · rintro σ' H2 ⟨⟨u, rfl⟩, rfl⟩
      refine ⟨_, rfl, ?_⟩
      have ee : (((e : Nat) : Int) - 1).toNat = e - 1 := by omega
      rw [ee]
      exact q
theorem scFactors : FnScope ["value", "found", "prime", "exponent"] ["value"] (defScope sFactors) := ⟨rfl, rfl, rfl, by decide +kernel, rfl, by decide +kernel, by decide +kernel⟩
theorem ok_factors {f : Addr} {fd : FuncData} (F : Fun K "factors" "factors" sFactors f fd) : FnOk P w K mg base CX0 1 f fd ["value"] spFactors := by
  refine F.ok scFactors (fun vs H Q E h => ?_) (fun cdv A outer s H vs Q E hr h => ?_)
  · obtain ⟨v, rfl, _⟩ := h
    rfl
  · obtain ⟨M, rfl, v1, v2, q⟩ := h
    refine ⟨_, pss_cons (ps_set (i := 1) scFactors.nd rfl (Or.inl rfl) (pe_lstS pa_nil))
      (pss_cons (ps_set (i := 2) scFactors.nd rfl (Or.inl rfl) pe_int)
      (pss_cons (ps_while PassesOwn.never (pt_cmpR op_le (pe_op op_mul (pv 2) (pv 2)) (pv 0) (nomark _))
        (pss_cons (ps_set (i := 3) scFactors.nd rfl (Or.inl rfl) pe_int)
        (pss_cons (ps_while PassesOwn.never (pt_cmpR op_eq (pe_op op_mod (pv 0) (pv 2)) pe_int (nomark _))
          (pss_cons (ps_set (i := 0) scFactors.nd rfl (Or.inl rfl) (pe_op op_fdivW (pv 0) (pv 2)))
          (pss_one (ps_aug (i := 3) scFactors.nd rfl (.inl rfl) pe_int ip_add))))
        (pss_cons (ps_if (pt_cmpR op_gt (pv 3) pe_int (nomark _)) (pss_one (ps_expr (pe_bm PySem.F.plainAttrs_list PySem.F.slot_list_append PySem.F.type_list_append mt_append (pv 1) (pa_cons (pe_tupS (pa_cons (pv 2) (pa_cons (pv 3) pa_nil))) pa_nil)))) pss_nil)
        (pss_one (ps_aug (i := 2) scFactors.nd rfl (.inl rfl) pe_int ip_add))))))
      (pss_cons (ps_if (pt_cmpR op_gt (pv 0) pe_int (nomark _)) (pss_one (ps_expr (pe_bm PySem.F.plainAttrs_list PySem.F.slot_list_append PySem.F.type_list_append mt_append (pv 1) (pa_cons (pe_tupS (pa_cons (pv 0) (pa_cons pe_int pa_nil))) pa_nil)))) pss_nil)
      (pss_one (ps_ret (pv 1)))))), ?_⟩
    refine ⟨(by show 0 ≤ sizeLine; decide), fun a H1 S1 n1 h1 => ?_⟩
    refine ⟨WFac M a H, ⟨_, M, 2, M, [], none, rfl, S1, .nil h1, rfl, Nat.le_refl _, rfl, Nat.le_refl _, by decide, v1, v2, (fun x hx => by cases hx), by simp [prodF]⟩, ?_⟩
    rintro m σ' H' ⟨n, p, v, acc, u, rfl, S2, pr, rfl, hn, hf, p2, pl, hv1, hv2, gd, hp⟩
    have vV : v ≤ M := by rw [← hp]; exact Nat.le_mul_of_pos_left _ (prodF_pos gd)
    refine ⟨_, rfl, _, rfl, _, _, rfl, rfl, .inl ⟨by omega, by omega⟩, _, rfl, _, _, rfl, rfl, _, rfl, iteD (fun hpv => ?_) (fun hpv => ?_)⟩
    · have pv' : p * p ≤ v := by
        have h0 : ((p * p : Nat) : Int) ≤ ((v : Nat) : Int) := by rw [Int.natCast_mul]; exact hpv
        omega
      have plv : p ≤ v := Nat.le_trans (Nat.le_mul_of_pos_left _ (by omega)) pv'
      refine ⟨fun σ'' H'' => ∃ m', m' < v + 2 - p ∧ WFac M a H m' σ'' H'', fun _ _ z => z, ?_⟩
      refine ⟨WStr p v a H', ⟨_, v, v, 0, rfl, rfl, rfl, Nat.le_refl _, rfl, hv1, Nat.le_refl _⟩, ?_⟩
      rintro m2 σ2 H2 ⟨n2, w2, e, rfl, rfl, rfl, wn, hs, w1, wv⟩
      have p0 : (0 : Int) < ((p : Nat) : Int) := by omega
      refine ⟨_, rfl, _, rfl, _, _, rfl, rfl, p0, rfl, _, rfl, iteD (fun hz => ?_) (fun hz => ?_)⟩
      · have hz' : w2 % p = 0 := cI_inj ((cI_mod w2 p).symm.trans hz)
        refine ⟨fun σ'' H'' => ∃ m', m' < w2 ∧ WStr p v a H2 m' σ'' H'', fun _ _ z => z, ?_⟩
        have dlt : w2 / p < w2 := Nat.div_lt_self (by omega) (by omega)
        refine ⟨_, rfl, _, rfl, _, _, rfl, rfl, ⟨p0, l40 (by omega)⟩, ?_⟩
        match n2, wn, hs with
        | 0, wn, _ => exact absurd wn (by omega)
        | k + 1, wn, hs =>
        have hs2 : stripGo k p (w2 / p) (e + 1) = stripGo v p v 0 := by rw [← hs]; exact (if_pos hz').symm
        refine ⟨_, rfl, ?_⟩
        refine ⟨_, _, rfl, rfl, w2 / p, dlt, k, w2 / p, e + 1, ?_, rfl, rfl, by omega, hs2, div_pos' w1 hz', by omega⟩
        have a1 := cI_div w2 p
        have a2 := cI_add e 1
        rw [← a1, ← a2]
        rfl
      · have hz' : ¬ w2 % p = 0 := fun z => hz (by have := cI_mod w2 p; rw [z] at this; exact this)
        have hs1 : (w2, e) = stripGo v p v 0 := by
          rw [← hs]
          match n2, wn with
          | 0, wn => exact absurd wn (by omega)
          | k + 1, _ => exact (if_neg hz').symm
        obtain ⟨g2, hp2, s1, s2⟩ := fac_step p2 hv1 gd
        have hf2 : ∀ k, n = k + 1 → facGo k (p + 1) (stripGo v p v 0).1 (if 0 < (stripGo v p v 0).2 then acc ++ [(p, (stripGo v p v 0).2)] else acc) = facM M := by
          intro k e1
          rw [← hf, e1]
          exact (if_pos pv').symm
        rw [← hs1] at g2 hp2 s1 s2 hf2
        obtain ⟨k, rfl⟩ : ∃ k, n = k + 1 := ⟨n - 1, by omega⟩
        have hf3 := hf2 k rfl
        have fin : ∀ (H3 : Hp) (acc' : List (Nat × Nat)), Same H H3 → PrsAt H3 a acc' → acc' = (if 0 < e then acc ++ [(p, e)] else acc) → ∃ x, ([some (cI w2), some (V.ref a), some (cI p), some (cI e)] : L2.St)[2]? = some (some x) ∧ ∃ i j, x = V.int i ∧ V.int 1 = V.int j ∧ ∃ m', m' < v + 2 - p ∧ WFac M a H m' [some (cI w2), some (V.ref a), some (V.int (i + j)), some (cI e)] H3 := by
          intro H3 acc' S3 pr3 ea
          rw [← ea] at g2 hp2 hf3
          refine ⟨_, rfl, _, _, rfl, rfl, _, ?_, k, p + 1, w2, acc', some (cI e), ?_, S3, pr3, rfl, by omega, hf3, by omega, ?_, s1, by omega, g2, hp2.trans hp⟩
          · omega
          · have a2 := cI_add p 1
            rw [← a2]
            rfl
          · have : p * p < 2 ^ 40 := by omega
            have : p < 2 ^ 40 := Nat.lt_of_le_of_lt (Nat.le_mul_of_pos_left _ (by omega)) this
            omega
        refine ⟨_, rfl, _, _, rfl, rfl, _, rfl, iteD (fun he => ?_) (fun he => ?_)⟩
        · have e0 : 0 < e := by omega
          obtain ⟨ts, t1, t2, t3⟩ := pr
          refine ⟨_, rfl, .inl ⟨rfl, _, SqL.of t1⟩, _, rfl, _, rfl, (by show 2 ≤ sizeLine; decide), fun t H3 S3 n3 h3 => ?_⟩
          have t1' := S3 _ _ t1
          have al : acc.length < 40 := len_lt gd (show prodF acc ≤ M by rw [← hp]; exact Nat.le_mul_of_pos_right _ hv1) v2
          refine ⟨a, _, _, rfl, rfl, t1', by rw [List.length_map, t2, sizeLine_eq]; omega, ?_⟩
          refine fin _ (acc ++ [(p, e)]) ?_ (.snoc t1' t2 (fun i u y e1 e2 => S3 _ _ (t3 i u y e1 e2)) h3) (by rw [if_pos e0])
          intro b o hb
          rw [upd_ne (ne_of_none hb n1)]
          exact S3 _ _ (S2 _ _ hb)
        · dsimp only [tNext]
          exact fin _ acc S2 pr (by rw [if_neg (by omega)])
    · have pv' : ¬ p * p ≤ v := fun z => hpv (by
        have h0 : ((p * p : Nat) : Int) ≤ ((v : Nat) : Int) := Int.ofNat_le.mpr z
        rw [Int.natCast_mul] at h0
        exact h0)
      have hf2 : facFin v acc = facM M := by
        rw [← hf]
        match n with
        | 0 => rfl
        | k + 1 => exact (if_neg pv').symm
      refine ⟨_, rfl, _, _, rfl, rfl, _, rfl, iteD (fun hv => ?_) (fun hv => ?_)⟩
      · obtain ⟨ts, t1, t2, t3⟩ := pr
        refine ⟨_, rfl, .inl ⟨rfl, _, SqL.of t1⟩, _, rfl, (by show 2 ≤ sizeLine; decide), fun t H3 S3 n3 h3 => ?_⟩
        have t1' := S3 _ _ t1
        have al : acc.length < 40 := len_lt gd (show prodF acc ≤ M by rw [← hp]; exact Nat.le_mul_of_pos_right _ hv1) v2
        refine ⟨a, _, _, rfl, rfl, t1', by rw [List.length_map, t2, sizeLine_eq]; omega, ?_⟩
        refine ⟨_, rfl, q _ a ?_ ?_⟩
        · intro b o hb
          rw [upd_ne (ne_of_none hb n1)]
          exact S3 _ _ (S2 _ _ hb)
        · rw [← hf2]
          unfold facFin
          rw [if_pos (by omega)]
          exact .snoc t1' t2 (fun i u y e1 e2 => S3 _ _ (t3 i u y e1 e2)) h3
      · dsimp only [tNext]
        refine ⟨_, rfl, q _ a S2 ?_⟩
        rw [← hf2]
        unfold facFin
        rw [if_neg (by omega)]
        exact pr
end
end E3

set_option Elab.async false
set_option linter.all false
set_option maxRecDepth 100000
set_option maxHeartbeats 1000000
/-! rings: order, ring_length, turned -/
namespace L2
open PySem PySem.Spec PyProof.Rows
def rLcm : List V → Hp → VK → Prop := fun vs H Q => ∃ a b : Nat, vs = [.int (a : Nat), .int (b : Nat)] ∧ a < 2 ^ 64 ∧ b < 2 ^ 64 ∧ Nat.lcm a b < 2 ^ 64 ∧ Q (.int ((Nat.lcm a b : Nat) : Int)) H
theorem cr_lcm {X : Cx} : CallR X (.builtin "math.lcm") rLcm := by
  intro pins s σ H vs us Q I r h
  obtain ⟨a, b, rfl, ha, hb, hl, q⟩ := h
  obtain ⟨t, u, rfl⟩ := Vals.int2 r
  refine PySem.W.mg_lcm_v (c := ((Nat.lcm a b : Nat) : Int)) (by omega) (by omega) ?_ ?_ ⟨.int _, H, I.tok _, ⟨_, rfl⟩, q⟩
  · rw [Int.natAbs_natCast, Int.natAbs_natCast, Nat.lcm_one_left]
  · rw [Int.natAbs_natCast]
    have := PySem.Flt.log2_lt_of (k := 64) (by decide) hl
    have e : bitsLine = bitsLine := rfl
    have : 64 < bitsLine := by decide +kernel
    omega
end L2
namespace E3
open PySem PySem.Spec PyProof.Rows L2
open C8 (Cal Mak Met InsC pe_c pe_mt pe_mt0 call_isC clsBody)
def WOrd (b p e q f0 U : Nat) (u : Option V) (H : Hp) : Nat → L2.St → Hp → Prop := fun m σ H' => ∃ n f, σ = [some (cI b), some (cI p), some (cI e), some (cI f), some (cI (p ^ e)), some (cI q), u] ∧ H' = H ∧ f = m ∧ f ≤ n ∧ ordLoop n b (p ^ e) q f = ordLoop f0 b (p ^ e) q f0 ∧ 1 ≤ f ∧ f ≤ U
/-- what is passed to turned, ring_length, rings -/
def spTurnM : Sp := fun vs H Q _ => ∃ r c p t : Nat, vs = [cI r, cI c, cI p, cI t] ∧ Tb r c ∧ p < r * c ∧ t < 2 ^ 200 ∧ ∀ H', Same H H' → Q (cI (turnM r (r * c - 1) p t)) H'
def spRingM : Sp := fun vs H Q _ => ∃ r c p : Nat, vs = [cI r, cI c, cI p] ∧ Tb r c ∧ p < r * c ∧ ∀ H', Same H H' → Q (cI (ringM r (r * c - 1) p)) H'
theorem tb_lt {r c : Nat} (h : Tb r c) : 1 ≤ r * c ∧ r * c ≤ 2 ^ 32 := by
  obtain ⟨r1, c1, r2, c2⟩ := h
  exact ⟨Nat.mul_pos r1 c1, Nat.le_trans (Nat.mul_le_mul r2 c2) (by decide)⟩
theorem cI_last {r c : Nat} (h : Tb r c) : V.int (((r : Nat) : Int) * ((c : Nat) : Int) - 1) = cI (r * c - 1) := by
  have := (tb_lt h).1
  rw [← cI_sub1 this, Int.natCast_mul]
section
variable {P : Program} {w : World} {K : PySem.W.Frag} {mg : Str → Option Value} {base : Heap}
theorem scOrder : FnScope ["base", "prime", "exponent", "found", "modulus", "part", "_"] ["base", "prime", "exponent"] (defScope sOrder) := ⟨rfl, rfl, rfl, by decide +kernel, rfl, by decide +kernel, by decide +kernel⟩
theorem ok_order {f : Addr} {fd : FuncData} (F : Fun K "order" "order" sOrder f fd) (U : Cal P w K mg base 1 "units" spUnits []) (Fa : Cal P w K mg base 1 "factors" spFactors []) (Pw : Cal P w K mg base 1 "power" spPower []) : FnOk P w K mg base CX0 2 f fd ["base", "prime", "exponent"] spOrder := by
  refine F.ok scOrder (fun vs H Q E h => ?_) (fun cdv A outer s H vs Q E hr h => ?_)
  · obtain ⟨b, p, e, rfl, _⟩ := h
    rfl
  · obtain ⟨b, p, e, rfl, hb, p2, e1, hpe, q⟩ := h
    refine ⟨_, pss_cons (ps_set (i := 3) scOrder.nd rfl (Or.inl rfl) (pe_c U hr (by decide) rfl (pa_cons (pv 1) (pa_cons (pv 2) pa_nil))))
      (pss_cons (ps_set (i := 4) scOrder.nd rfl (Or.inl rfl) (pe_op op_mul (pe_op op_fdivW (pv 3) (pe_op op_sub (pv 1) pe_int)) (pv 1)))
      (pss_cons (ps_for PassesOwn.never rfl (pi_list (pe_c Fa hr (by decide) rfl (pa_cons (pv 3) pa_nil))) (pg_tup rfl (pgs_cons (pg_name (i := 5) scOrder.nd rfl (Or.inl rfl)) (pgs_cons (pg_name (i := 6) scOrder.nd rfl (Or.inl rfl)) pgs_nil)))
        (pss_one (ps_while PassesOwn.never (PW.pt (pw_and (pt_cmpR op_eq (pe_op op_mod (pv 3) (pv 5)) pe_int (nomark _)) (pw_and1 (pt_cmpR op_eq (pe_c Pw hr (by decide) rfl (pa_cons (pv 0) (pa_cons (pe_op op_fdivW (pv 3) (pv 5)) (pa_cons (pv 4) pa_nil)))) pe_int (nomark _)))))
          (pss_one (ps_set (i := 3) scOrder.nd rfl (Or.inl rfl) (pe_op op_fdivW (pv 3) (pv 5)))))))
      (pss_one (ps_ret (pv 3))))), ?_⟩
    have pl : p < 2 ^ 40 := Nat.lt_of_le_of_lt (Nat.le_self_pow (by omega) _) hpe
    have el : e < 2 ^ 40 := by
      have : 2 ^ e < 2 ^ 40 := Nat.lt_of_le_of_lt (Nat.pow_le_pow_left p2 _) hpe
      have := (Nat.pow_lt_pow_iff_right (by decide : 1 < 2)).mp this
      omega
    have U1 := units_pos (e := e) p2
    have U2 := units_le p2 e1
    have Ul : unitsM p e < 2 ^ 40 := by omega
    refine ⟨_, rfl, _, rfl, p, e, rfl, p2, pl, e1, el, ?_⟩
    refine ⟨_, rfl, _, rfl, _, _, rfl, rfl, _, _, rfl, rfl, ⟨by omega, ?_⟩, _, rfl, _, _, rfl, rfl, .inr ⟨by omega, by omega⟩, ?_⟩
    · have := l40 (n := p - 1) (by omega)
      have e0 : ((p - 1 : Nat) : Int) = ((p : Nat) : Int) - 1 := by omega
      rw [← e0]
      exact this
    have hm : V.int (((unitsM p e : Nat) : Int) / (((p : Nat) : Int) - 1) * ((p : Nat) : Int)) = cI (p ^ e) := by
      have e0 : ((p - 1 : Nat) : Int) = ((p : Nat) : Int) - 1 := by omega
      rw [← e0, ← Int.natCast_ediv, ← Int.natCast_mul, units_div p2 e1]
    refine ⟨_, rfl, _, rfl, U1, Ul, fun H1 a S1 pr => ?_⟩
    obtain ⟨g, hp⟩ := facM_ok U1
    obtain ⟨ts, t1, t2, t3⟩ := pr
    refine ⟨a, rfl, ⟨_, SqL.of t1⟩, for_it (walk_list (xs := ts.map V.ref)) (fun i σ' H' => (∃ u1 u2, σ' = [some (cI b), some (cI p), some (cI e), some (cI (((facM (unitsM p e)).take i).foldl (fun f x => ordLoop f b (p ^ e) x.1 f) (unitsM p e))), some (cI (p ^ e)), u1, u2]) ∧ Same H1 H') ⟨⟨none, none, ?_⟩, Same.refl _⟩ (fun i σ' H' _ z => SqL.of (z.2 _ _ t1)) ?_ ?_⟩
    · rw [List.take_zero, ← hm]; rfl
    · rintro i x σ' H9 H2 hi ⟨⟨u1, u2, rfl⟩, S2⟩ ⟨rfl, hx⟩
      rw [List.length_map] at hi
      have hi2 : i < (facM (unitsM p e)).length := by omega
      rw [List.getElem?_map, List.getElem?_eq_getElem hi] at hx
      obtain rfl := Option.some.inj hx
      have ey := List.getElem?_eq_getElem hi2
      have ht := S2 _ _ (t3 i _ _ (List.getElem?_eq_getElem hi) ey)
      have gy := g _ (List.getElem_mem hi2)
      obtain ⟨yl, ye, _⟩ := exp_lt g (Nat.le_of_eq hp) Ul (List.getElem_mem hi2)
      have foldS : ((facM (unitsM p e)).take (i + 1)).foldl (fun f x => ordLoop f b (p ^ e) x.1 f) (unitsM p e) = ordLoop (((facM (unitsM p e)).take i).foldl (fun f x => ordLoop f b (p ^ e) x.1 f) (unitsM p e)) b (p ^ e) ((facM (unitsM p e))[i]).1 (((facM (unitsM p e)).take i).foldl (fun f x => ordLoop f b (p ^ e) x.1 f) (unitsM p e)) := by
        rw [List.take_succ, ey, List.foldl_append]; rfl
      obtain ⟨f1, f2⟩ := ordFold_ok b (p ^ e) ((facM (unitsM p e)).take i) (unitsM p e) U1
      rw [foldS]
      generalize ((facM (unitsM p e)).take i).foldl (fun f x => ordLoop f b (p ^ e) x.1 f) (unitsM p e) = f0 at f1 f2
      generalize (facM (unitsM p e))[i] = y at ht gy yl ye
      refine ⟨_, _, rfl, SqT.of ht, rfl, _, _, rfl, _, _, rfl, rfl, ?_⟩
      refine ⟨WOrd b p e y.1 f0 (unitsM p e) (some (cI y.2)) H2, ⟨_, f0, f0, rfl, rfl, rfl, Nat.le_refl _, rfl, f1, f2⟩, ?_⟩
      rintro m σ3 H3 ⟨n, f, rfl, rfl, rfl, fn, hs, fp, fu⟩
      have y0 : (0 : Int) < ((y.1 : Nat) : Int) := by omega
      have stop : ¬ (f % y.1 = 0 ∧ pw b (f / y.1) (p ^ e) = 1) → f = ordLoop f0 b (p ^ e) y.1 f0 := by
        intro hz
        rw [← hs]
        match n, fn with
        | 0, fn => exact absurd fn (by omega)
        | k + 1, _ => exact (if_neg hz).symm
      refine ⟨_, rfl, _, rfl, _, _, rfl, rfl, y0, rfl, _, rfl, iteD (fun hz => ?_) (fun hz => ?_)⟩
      · have hz' : f % y.1 = 0 := cI_inj ((cI_mod f y.1).symm.trans hz)
        have dlt : f / y.1 < f := Nat.div_lt_self (by omega) (by omega)
        have m1 : 1 ≤ p ^ e := Nat.pow_pos (by omega)
        have dv : CDivW ((f : Nat) : Int) ((y.1 : Nat) : Int) := ⟨y0, l40 yl⟩
        refine ⟨_, rfl, _, rfl, _, rfl, _, _, rfl, rfl, dv, _, rfl, b, f / y.1, p ^ e, ?_, hb, by omega, m1, hpe, rfl, _, rfl, iteD (fun hq => ?_) (fun hq => ?_)⟩
        · have := cI_div f y.1
          rw [← this]
          rfl
        · have hq' : pw b (f / y.1) (p ^ e) = 1 := cI_inj hq
          refine ⟨fun σ'' H'' => ∃ m', m' < f ∧ WOrd b p e y.1 f0 (unitsM p e) (some (cI y.2)) H3 m' σ'' H'', fun _ _ z => z, ?_⟩
          match n, fn, hs with
          | 0, fn, _ => exact absurd fn (by omega)
          | k + 1, fn, hs =>
          have hs2 : ordLoop k b (p ^ e) y.1 (f / y.1) = ordLoop f0 b (p ^ e) y.1 f0 := by rw [← hs]; exact (if_pos ⟨hz', hq'⟩).symm
          refine ⟨_, rfl, _, rfl, _, _, rfl, rfl, dv, f / y.1, dlt, k, f / y.1, ?_, rfl, rfl, by omega, hs2, div_pos' fp hz', by omega⟩
          have := cI_div f y.1
          rw [← this]
          rfl
        · dsimp only
          refine ⟨⟨some (cI y.1), some (cI y.2), ?_⟩, S2⟩
          rw [← stop (fun z => hq (by rw [z.2]; rfl))]
      · dsimp only
        refine ⟨⟨some (cI y.1), some (cI y.2), ?_⟩, S2⟩
        rw [← stop (fun z => hz (by have := cI_mod f y.1; rw [z.1] at this; exact this))]
    · rintro σ' H2 ⟨⟨u1, u2, rfl⟩, S2⟩
      refine ⟨_, rfl, ?_⟩
      rw [List.length_map, t2, List.take_length]
      exact q H2 (S1.trans S2)
end
end E3

set_option Elab.async false
set_option linter.all false
set_option maxRecDepth 100000
set_option maxHeartbeats 1000000
/-! A head by facts: one Bool of the law's own, and the defs. -/
namespace Hb
open PySem PySem.Spec PyProof.Rows L2 He
abbrev AlB : Type := Bool × List FnV
def obsB (ex : PySem.W.Frag → Bool) (fn : List FnD) (K : PySem.W.Frag) : AlB := (ex K && fn.all fun d => (Fa.code d.at_ d.qual).ok K && PySem.W.keepIn K (.ref (fAd K d.at_)), fn.map fun d => fnObs K d.at_)
def valB (fn : List FnD) : AlB := (true, fn.map FnD.val)
def SaysB (ex : PySem.W.Frag → Bool) (fn : List FnD) (K : PySem.W.Frag) : Prop := obsB ex fn K = valB fn
/-- a def of the text, by its statement -/
def dS (at_ : Str × Option Str) (name qual : Str) (st : Stmt) : FnD := ⟨at_, name, qual, defArgs st, defBody st, defScope st⟩
section
variable {ex : PySem.W.Frag → Bool} {fn : List FnD} {K : PySem.W.Frag}
theorem SaysB.bool (c : SaysB ex fn K) : ex K = true := (ba (show (ex K && fn.all fun d => (Fa.code d.at_ d.qual).ok K && PySem.W.keepIn K (.ref (fAd K d.at_))) = true from congrArg (fun z : AlB => z.1) c)).1
theorem SaysB.fun_ (c : SaysB ex fn K) (i : Nat) {at_ : Str × Option Str} {name qual : Str} {st : Stmt} (h : fn[i]? = some (dS at_ name qual st) := by rfl) : ∃ fd, L2.Fun K name qual st (fAd K at_) fd := by
  have c2 := (ba (show (ex K && fn.all fun d => (Fa.code d.at_ d.qual).ok K && PySem.W.keepIn K (.ref (fAd K d.at_))) = true from congrArg (fun z : AlB => z.1) c)).2
  have c3 := ba (List.all_eq_true.mp c2 _ (List.mem_of_getElem? h))
  have e : fn.map (fun d => fnObs K d.at_) = fn.map FnD.val := congrArg (fun z : AlB => z.2) c
  have e2 : (fn.map fun d => fnObs K d.at_)[i]? = (fn.map FnD.val)[i]? := by rw [e]
  rw [List.getElem?_map, List.getElem?_map, h] at e2
  obtain ⟨oc, od, osl, kV, doc, pm, an, cdv, ct, l, k⟩ := fn_ok (Option.some.inj e2) c3.1
  exact ⟨_, ⟨oc, od, kV, doc, pm, an, cdv, ct, osl, rfl, l, k⟩, c3.2⟩
end
theorem bindsA {K : PySem.W.Frag} {x qual : Str} {st : Stmt} {f : Addr} {fd : FuncData} {ps : List Str} (F : L2.Fun K x qual st f fd)
    (h : ∀ (kV doc pm : Value) (an : Option Addr) (cdv ct : Value) (us : List Value), us.length = ps.length → bindArgs (PySem.W.fnOf x qual (defArgs st) (defBody st) (defScope st) .none kV doc pm an cdv ct) ⟨us, []⟩ = pure (ps.zip us)) (s : Shared) (us : List Value) (hl : us.length = ps.length) : BindsTo s fd ⟨us, []⟩ (ps.zip us) := by
  obtain ⟨oc, od, kV, doc, pm, an, cdv, ct, osl, rfl, lk, hcd⟩ := F.ex
  exact .of_eq (h kV doc pm an cdv ct us hl)
/-! own operators, isinstance, as Bools -/
section
variable {K : PySem.W.Frag} {C : Addr}
/-- a global that is a built-in function -/
def bltB (K : PySem.W.Frag) (x : Str) (n : String) : Bool := eqO (PySem.W.nsIn K mainGlobals x) (some (some (.builtin n)))
theorem bltB_ok {h : Heap} {mg : Str → Option Value} (X : K.In h) (G : h.Ns mainGlobals mg) {x : Str} {n : String} (c : bltB K x n = true) : mg x = some (.builtin n) := PySem.W.mg_of X G (eqO_ok c)
/-- the facts of a list hold -/
theorem fa_ok {fa : List Fa} (h : (fa.all fun f => f.ok K) = true) (i : Nat) {f : Fa} (hi : fa[i]? = some f := by rfl) : f.ok K = true := List.all_eq_true.mp h f (List.mem_of_getElem? hi)
theorem bool_ok {l : List Bool} (h : (l.all id) = true) (i : Nat) {b : Bool} (hi : l[i]? = some b := by rfl) : b = true := List.all_eq_true.mp h b (List.mem_of_getElem? hi)
end
end Hb

set_option Elab.async false
set_option linter.all false
set_option maxRecDepth 100000
set_option maxHeartbeats 1000000
/-! f(k=v, ..): a def called with keywords alone -/
namespace L2
open PySem PySem.Spec PyProof.Rows
section
variable {X : Cx} {k j : Nat} {x : Str} {sp : Sp} {ks : List Str} {gV : List V → List V → List V} {p pos : Pos} {kws : List Keyword} {tk : TA}
end
end L2

set_option Elab.async false
set_option linter.all false
set_option maxRecDepth 100000
set_option maxHeartbeats 1000000
/-! rings: ring_length, turned -/
namespace L2
open PySem PySem.Spec PyProof.Rows
section
variable {P : Program} {w : World} {K : PySem.W.Frag} {mg : Str → Option Value} {base : Heap} {x qual : Str} {st : Stmt} {dvs : List V} {f : Addr} {fd : FuncData}
/-- a def with defaults whose body lets nothing out -/
theorem FunD.ok0 {N ps : List Str} {k : Nat} {sp : Sp} (F : FunD K x qual (defArgs st) (defBody st) (defScope st) dvs [] f fd) (S : FnScope N ps (defScope st)) (len : ∀ vs H Q E, sp vs H Q E → vs.length = ps.length)
    (hbody : ∀ (cdv : Value) (A : Around) (outer : List Env) (s : Shared) (H : Hp) (vs : List V) (Q : VK) (E : XK), Room k (A.deeper (envOfC qual (defScope st) s.heap.objs.size f cdv)) → sp vs H Q E →
      ∃ t, PSs (cxOf CX0 P w K mg base N qual (defScope st) f cdv A outer s H E).nox (defBody st) t ∧ t { nx := fun _ H' => Q .non H', rt := Q } (start N vs) H) : FnOk P w K mg base CX0 (k + 1) f fd ps sp :=
  F.ok S len fun cdv A outer s H vs Q E hr h => let ⟨t, h1, h2⟩ := hbody cdv A outer s H vs Q E hr h; ⟨t, h1.nox, h2⟩
theorem FunD.plain (F : FunD K x qual (defArgs st) (defBody st) (defScope st) [] [] f fd) : Fun K x qual st f fd := by
  obtain ⟨oc, od, dV, kV, doc, pm, an, cdv, ct, osl, rfl, lk, hcd, hD, hK⟩ := F.ex
  rcases hD with ⟨_, rfl⟩ | ⟨e, _⟩
  · exact ⟨⟨oc, od, kV, doc, pm, an, cdv, ct, osl, rfl, lk, hcd⟩, F.kp⟩
  · exact absurd rfl e
end
end L2
namespace E3
open PySem PySem.Spec PyProof.Rows L2
open C8 (Cal Mak Met InsC pe_c pe_mt pe_mt0 call_isC clsBody)
section
variable {P : Program} {w : World} {K : PySem.W.Frag} {mg : Str → Option Value} {base : Heap}
theorem scRingLen : FnScope ["rows", "columns", "place", "last", "found", "prime", "many"] ["rows", "columns", "place"] (defScope sRingLen) := ⟨rfl, rfl, rfl, by decide +kernel, rfl, by decide +kernel, by decide +kernel⟩
theorem ok_ringLen {f : Addr} {fd : FuncData} (F : Fun K "ring_length" "ring_length" sRingLen f fd) (hg : mg "gcd" = some (.builtin "math.gcd")) (hl : mg "lcm" = some (.builtin "math.lcm")) (Cp : Cal P w K mg base 3 "check_place" spChkP []) (Fa : Cal P w K mg base 1 "factors" spFactors []) (Or_ : Cal P w K mg base 2 "order" spOrder []) : FnOk P w K mg base CX0 4 f fd ["rows", "columns", "place"] spRingM := by
  refine F.ok scRingLen (fun vs H Q E h => ?_) (fun cdv A outer s H vs Q E hr h => ?_)
  · obtain ⟨r, c, p, rfl, _⟩ := h
    rfl
  · obtain ⟨r, c, p, rfl, hT, hp, q⟩ := h
    refine ⟨_, pss_cons (ps_expr (pe_c Cp hr (by decide) rfl (pa_cons (pv 0) (pa_cons (pv 1) (pa_cons (pv 2) pa_nil)))))
      (pss_cons (ps_set (i := 3) scRingLen.nd rfl (Or.inl rfl) (pe_op op_sub (pe_op op_mul (pv 0) (pv 1)) pe_int))
      (pss_cons (ps_if (pt_cmpR op_eq (pv 2) (pv 3) (nomark _)) (pss_one (ps_ret pe_int)) pss_nil)
      (pss_cons (ps_set (i := 4) scRingLen.nd rfl (Or.inl rfl) pe_int)
      (pss_cons (ps_for PassesOwn.never rfl (pi_list (pe_c Fa hr (by decide) rfl (pa_cons (pe_op op_fdivW (pv 3) (pe_callBfun cr_gcd (by rfl) hg (pa_cons (pv 2) (pa_cons (pv 3) pa_nil)))) pa_nil))) (pg_tup rfl (pgs_cons (pg_name (i := 5) scRingLen.nd rfl (Or.inl rfl)) (pgs_cons (pg_name (i := 6) scRingLen.nd rfl (Or.inl rfl)) pgs_nil)))
        (pss_one (ps_set (i := 4) scRingLen.nd rfl (Or.inl rfl) (pe_callBfun cr_lcm (by rfl) hl (pa_cons (pv 4) (pa_cons (pe_c Or_ hr (by decide) rfl (pa_cons (pv 0) (pa_cons (pv 5) (pa_cons (pv 6) pa_nil)))) pa_nil))))))
      (pss_one (ps_ret (pv 4))))))), ?_⟩
    obtain ⟨r1, c1, r2, c2⟩ := id hT
    obtain ⟨l1, l2⟩ := tb_lt hT
    refine ⟨_, rfl, _, rfl, _, rfl, r, c, p, rfl, hT, hp, fun H1 S1 => ?_⟩
    have el := cI_last hT
    dsimp only
    refine seq_asg (te_mid (fun x H' => x = cI (r * c - 1) ∧ H1 = H') (fun R k => ⟨_, rfl, _, rfl, _, _, rfl, rfl, .inl ⟨by omega, by omega⟩, _, _, rfl, rfl, k _ _ ⟨el, rfl⟩⟩) ?_)
    rintro x _ ⟨rfl, rfl⟩
    generalize hL : r * c - 1 = L at el q
    have hLl : L < 2 ^ 40 := by omega
    have hp2 : p ≤ L := by omega
    refine ⟨_, rfl, _, rfl, rfl, _, rfl, iteD (fun he => ?_) (fun he => ?_)⟩
    · have : p = L := cI_inj he
      have e1 : ringM r L p = 1 := if_pos this
      have := q H1 S1
      rw [e1] at this
      exact this
    · dsimp only [tNext]
      have pl : p < L := by
        rcases Nat.lt_or_ge p L with z | z
        · exact z
        · exact absurd (congrArg cI (Nat.le_antisymm hp2 z)) he
      have e1 : ringM r L p = lcmF r (facM (L / Nat.gcd p L)) := if_neg (by omega)
      rw [e1] at q
      have gp : 1 ≤ Nat.gcd p L := Nat.gcd_pos_of_pos_right _ (by omega)
      have gl : Nat.gcd p L ≤ L := Nat.gcd_le_right _ (by omega)
      have d1 : 1 ≤ L / Nat.gcd p L := Nat.div_pos gl gp
      have d2 : L / Nat.gcd p L < 2 ^ 40 := Nat.lt_of_le_of_lt (Nat.div_le_self _ _) hLl
      refine ⟨_, rfl, _, rfl, _, rfl, _, _, rfl, _, _, rfl, rfl, ⟨?_, ?_⟩, L / Nat.gcd p L, ?_, d1, d2, fun H2 a S2 pr => ?_⟩
      · simp only [Int.natAbs_natCast]; omega
      · simp only [Int.natAbs_natCast]; exact l40 (by omega)
      · have := cI_div L (Nat.gcd p L)
        rw [← this, ← Int.natAbs_natCast p, ← Int.natAbs_natCast L]
        simp
      · obtain ⟨g, hpd⟩ := facM_ok d1
        obtain ⟨ts, t1, t2, t3⟩ := pr
        generalize L / Nat.gcd p L = D at q d1 d2 g hpd t2 t3
        refine ⟨a, rfl, ⟨_, SqL.of t1⟩, for_it (walk_list (xs := ts.map V.ref)) (fun i σ' H' => (∃ u1 u2, σ' = [some (cI r), some (cI c), some (cI p), some (cI L), some (cI (lcmF r ((facM D).take i))), u1, u2]) ∧ Same H2 H') ⟨⟨none, none, rfl⟩, Same.refl _⟩ (fun i σ' H' _ z => SqL.of (z.2 _ _ t1)) ?_ ?_⟩
        · rintro i x σ' H9 H3 hi ⟨⟨u1, u2, rfl⟩, S3⟩ ⟨rfl, hx⟩
          rw [List.length_map] at hi
          have hi2 : i < (facM D).length := by omega
          rw [List.getElem?_map, List.getElem?_eq_getElem hi] at hx
          obtain rfl := Option.some.inj hx
          have ey := List.getElem?_eq_getElem hi2
          have ht := S3 _ _ (t3 i _ _ (List.getElem?_eq_getElem hi) ey)
          have gy := g _ (List.getElem_mem hi2)
          obtain ⟨yl, ye, yp⟩ := exp_lt g (Nat.le_of_eq hpd) d2 (List.getElem_mem hi2)
          obtain ⟨a1, a2⟩ := lcmF_ok g (r := r) (i + 1)
          obtain ⟨b1, b2⟩ := lcmF_ok g (r := r) i
          have p1 := prodF_take_le g (i + 1)
          have p2 := prodF_take_le g i
          obtain ⟨o1, o2⟩ := ordM_ok (b := r) (e := ((facM D)[i]).2) gy.1
          have o3 := units_le gy.1 gy.2
          rw [lcmF_take ey] at a1 a2
          rw [lcmF_take ey]
          refine ⟨_, _, rfl, SqT.of ht, rfl, _, _, rfl, _, _, rfl, rfl, ?_⟩
          refine ⟨_, rfl, _, rfl, _, rfl, _, rfl, r, _, _, rfl, by omega, gy.1, gy.2, yp, fun H4 S4 => ?_⟩
          exact ⟨_, _, rfl, by omega, by omega, by omega, ⟨_, _, rfl⟩, S3.trans S4⟩
        · rintro σ' H3 ⟨⟨u1, u2, rfl⟩, S3⟩
          refine ⟨_, rfl, ?_⟩
          rw [List.length_map, t2, List.take_length]
          exact q H3 ((S1.trans S2).trans S3)
end
end E3

set_option Elab.async false
set_option linter.all false
set_option maxRecDepth 100000
set_option maxHeartbeats 1000000
/-! rings: turned -/
namespace E3
open PySem PySem.Spec PyProof.Rows L2
open C8 (Cal Mak Met InsC pe_c pe_mt pe_mt0 call_isC clsBody)
section
variable {P : Program} {w : World} {K : PySem.W.Frag} {mg : Str → Option Value} {base : Heap}
theorem scTurned : FnScope ["rows", "columns", "place", "times", "last"] ["rows", "columns", "place", "times"] (defScope sTurned) := ⟨rfl, rfl, rfl, by decide +kernel, rfl, by decide +kernel, by decide +kernel⟩
theorem ok_turned {f : Addr} {fd : FuncData} (F : FunD K "turned" "turned" (defArgs sTurned) (defBody sTurned) (defScope sTurned) [.int 1] [] f fd) (Cp : Cal P w K mg base 3 "check_place" spChkP []) (Cn : Cal P w K mg base 2 "is_count" spCnt1 []) (Pw : Cal P w K mg base 1 "power" spPower []) : FnOk P w K mg base CX0 4 f fd ["rows", "columns", "place", "times"] spTurnM := by
  refine F.ok0 scTurned (fun vs H Q E h => ?_) (fun cdv A outer s H vs Q E hr h => ?_)
  · obtain ⟨r, c, p, t, rfl, _⟩ := h
    rfl
  · obtain ⟨r, c, p, t, rfl, hT, hp, ht, q⟩ := h
    refine ⟨_, pss_cons (ps_expr (pe_c Cp hr (by decide) rfl (pa_cons (pv 0) (pa_cons (pv 1) (pa_cons (pv 2) pa_nil)))))
      (pss_cons (ps_if (pt_not (pt_val (pe_c Cn hr (by decide) rfl (pa_cons (pv 3) pa_nil)))) (pss_one ps_never) pss_nil)
      (pss_cons (ps_set (i := 4) scTurned.nd rfl (Or.inl rfl) (pe_op op_sub (pe_op op_mul (pv 0) (pv 1)) pe_int))
      (pss_cons (ps_if (pt_cmpR op_eq (pv 2) (pv 4) (nomark _)) (pss_one (ps_ret (pv 2))) pss_nil)
      (pss_one (ps_ret (pe_op op_mod (pe_op op_mul (pv 2) (pe_c Pw hr (by decide) rfl (pa_cons (pv 0) (pa_cons (pv 3) (pa_cons (pv 4) pa_nil))))) (pv 4))))))), ?_⟩
    obtain ⟨r1, c1, r2, c2⟩ := id hT
    obtain ⟨l1, l2⟩ := tb_lt hT
    refine ⟨_, rfl, _, rfl, _, rfl, r, c, p, rfl, hT, hp, fun H1 S1 => ?_⟩
    refine ⟨_, rfl, _, rfl, by omega, true, rfl, iteF ?_⟩
    dsimp only [tNext]
    have el := cI_last hT
    refine seq_asg (te_mid (fun x H' => x = cI (r * c - 1) ∧ H1 = H') (fun R k => ⟨_, rfl, _, rfl, _, _, rfl, rfl, .inl ⟨by omega, by omega⟩, _, _, rfl, rfl, k _ _ ⟨el, rfl⟩⟩) ?_)
    rintro x _ ⟨rfl, rfl⟩
    generalize hL : r * c - 1 = L at el q
    have hLl : L < 2 ^ 40 := by omega
    have hp2 : p ≤ L := by omega
    refine ⟨_, rfl, _, rfl, rfl, _, rfl, iteD (fun he => ?_) (fun he => ?_)⟩
    · have : p = L := cI_inj he
      have e1 : turnM r L p t = p := if_pos this
      have := q H1 S1
      rw [e1] at this
      exact ⟨_, rfl, this⟩
    · dsimp only [tNext]
      have pl : p < L := by
        rcases Nat.lt_or_ge p L with z | z
        · exact z
        · exact absurd (congrArg cI (Nat.le_antisymm hp2 z)) he
      have e1 : turnM r L p t = p * pw r t L % L := if_neg (by omega)
      rw [e1] at q
      refine ⟨_, rfl, _, rfl, _, rfl, _, rfl, r, t, L, rfl, by omega, ht, by omega, hLl, ?_⟩
      refine ⟨_, _, rfl, rfl, .inl ⟨by omega, by omega⟩, _, rfl, _, _, rfl, rfl, (show (0 : Int) < ((L : Nat) : Int) by omega), ?_⟩
      have := cI_mod (p * pw r t L) L
      rw [Int.natCast_mul] at this
      have h2 := q H1 S1
      rw [← this] at h2
      exact h2
end
end E3

set_option Elab.async false
set_option linter.all false
set_option maxRecDepth 100000
set_option maxHeartbeats 1000000
/-! law_k71: what turned and ring_length give is what the turns give -/
namespace E3
open PySem PySem.Spec PyProof.Rows L2
open C8 (Cal Mak Met InsC pe_c pe_mt pe_mt0 call_isC clsBody)
def itN (r c : Nat) : Nat → Nat → Nat
  | 0, p => p
  | n + 1, p => nxN r c (itN r c n p)
theorem itn_nat (r c p : Nat) : ∀ n, itn (r : Nat) (c : Nat) n (p : Nat) = ((itN r c n p : Nat) : Int)
  | 0 => rfl
  | n + 1 => by
    show nx _ _ (itn (r : Nat) (c : Nat) n (p : Nat)) = _
    rw [itn_nat r c p n]
    show ((itN r c n p : Nat) : Int) % (c : Nat) * (r : Nat) + ((itN r c n p : Nat) : Int) / (c : Nat) = ((itN r c n p % c * r + itN r c n p / c : Nat) : Int)
    push_cast
    rfl
theorem nxN_eq {r c p : Nat} (h : 1 ≤ r * c) : p * r = (r * c - 1) * (p / c) + nxN r c p := by
  unfold nxN
  have h1 := Nat.div_add_mod p c
  have h2 : r * c - 1 + 1 = r * c := by omega
  have h3 : (r * c - 1) * (p / c) + p / c = r * c * (p / c) := by
    rw [← h2, Nat.add_mul, Nat.one_mul]
    rfl
  have h4 : p * r = r * c * (p / c) + p % c * r := by
    calc p * r = (c * (p / c) + p % c) * r := by rw [h1]
      _ = _ := by rw [Nat.add_mul, Nat.mul_comm r c, Nat.mul_right_comm]
  omega
theorem nxN_lt {r c p : Nat} (r1 : 1 ≤ r) (c1 : 1 ≤ c) (h : p < r * c) : nxN r c p < r * c := by
  unfold nxN
  have q1 : p / c < r := (Nat.div_lt_iff_lt_mul (by omega)).mpr h
  have m1 : p % c < c := Nat.mod_lt _ (by omega)
  have a2 : (p % c + 1) * r ≤ c * r := Nat.mul_le_mul_right _ (by omega)
  rw [Nat.add_mul, Nat.one_mul, Nat.mul_comm c r] at a2
  omega
theorem nxN_back {r c p : Nat} (r1 : 1 ≤ r) (c1 : 1 ≤ c) (h : p < r * c) : nxN c r (nxN r c p) = p := by
  unfold nxN
  have q1 : p / c < r := (Nat.div_lt_iff_lt_mul (by omega)).mpr h
  have e1 : (p % c * r + p / c) % r = p / c := by
    rw [Nat.add_comm, Nat.add_mul_mod_self_right, Nat.mod_eq_of_lt q1]
  have e2 : (p % c * r + p / c) / r = p % c := by
    rw [Nat.add_comm, Nat.add_mul_div_right _ _ (by omega), Nat.div_eq_of_lt q1, Nat.zero_add]
  rw [e1, e2, Nat.mul_comm, Nat.div_add_mod]
theorem nxN_last {r c : Nat} (r1 : 1 ≤ r) (c1 : 1 ≤ c) : nxN r c (r * c - 1) = r * c - 1 := by
  have h : 1 ≤ r * c := Nat.mul_pos r1 c1
  have e := nxN_eq (r := r) (c := c) (p := r * c - 1) h
  have hl := nxN_lt (p := r * c - 1) r1 c1 (by omega)
  have q : (r * c - 1) / c = r - 1 := by
    have : r * c - 1 = (c - 1) + (r - 1) * c := by
      rw [Nat.sub_mul, Nat.one_mul]
      have := Nat.le_mul_of_pos_left c (by omega : 0 < r)
      omega
    rw [this, Nat.add_mul_div_right _ _ (by omega), Nat.div_eq_of_lt (by omega), Nat.zero_add]
  rw [q] at e
  have : (r * c - 1) * r = (r * c - 1) * (r - 1) + (r * c - 1) := by
    have : r = r - 1 + 1 := by omega
    calc (r * c - 1) * r = (r * c - 1) * (r - 1 + 1) := by rw [← this]
      _ = _ := by rw [Nat.mul_add, Nat.mul_one]
  omega
theorem nxN_small {r c p : Nat} (r1 : 1 ≤ r) (c1 : 1 ≤ c) (h : p < r * c - 1) : nxN r c p < r * c - 1 ∧ nxN r c p = p * r % (r * c - 1) := by
  have h0 : 1 ≤ r * c := Nat.mul_pos r1 c1
  have hl := nxN_lt (p := p) r1 c1 (by omega)
  have ne : nxN r c p ≠ r * c - 1 := fun z => by
    have b := nxN_back (p := p) r1 c1 (by omega)
    rw [z] at b
    have b2 := nxN_last c1 r1
    rw [Nat.mul_comm c r] at b2
    omega
  have l2 : nxN r c p < r * c - 1 := by omega
  refine ⟨l2, ?_⟩
  rw [nxN_eq h0, Nat.mul_add_mod, Nat.mod_eq_of_lt l2]
theorem itN_small {r c p : Nat} (r1 : 1 ≤ r) (c1 : 1 ≤ c) (h : p < r * c - 1) : ∀ n, itN r c n p = p * r ^ n % (r * c - 1)
  | 0 => by
    rw [Nat.pow_zero, Nat.mul_one, Nat.mod_eq_of_lt h]
    rfl
  | n + 1 => by
    have ih := itN_small r1 c1 h n
    have hl : itN r c n p < r * c - 1 := by
      rw [ih]
      exact Nat.mod_lt _ (by omega)
    show nxN r c (itN r c n p) = _
    rw [(nxN_small r1 c1 hl).2, ih, Nat.mod_mul_mod, Nat.mul_assoc, ← Nat.pow_succ]
theorem itN_last {r c : Nat} (r1 : 1 ≤ r) (c1 : 1 ≤ c) : ∀ n, itN r c n (r * c - 1) = r * c - 1
  | 0 => rfl
  | n + 1 => by
    show nxN r c (itN r c n (r * c - 1)) = _
    rw [itN_last r1 c1 n, nxN_last r1 c1]
theorem turn_it {r c p t : Nat} (r1 : 1 ≤ r) (c1 : 1 ≤ c) (h : p < r * c) : turnM r (r * c - 1) p t = itN r c t p := by
  unfold turnM
  by_cases e : p = r * c - 1
  · rw [if_pos e, e, itN_last r1 c1]
  · rw [if_neg e, itN_small r1 c1 (by omega)]
    unfold pw
    by_cases z : t = 0
    · rw [if_pos z, z, Nat.pow_zero]
    · rw [if_neg z, Nat.mul_mod_mod]
theorem ring_it {r c p : Nat} (r1 : 1 ≤ r) (c1 : 1 ≤ c) (h : p < r * c) : (1 ≤ ringM r (r * c - 1) p ∧ ringM r (r * c - 1) p ≤ r * c) ∧ ∀ t, itN r c t p = p ↔ ringM r (r * c - 1) p ∣ t := by
  unfold ringM
  have h0 : 1 ≤ r * c := Nat.mul_pos r1 c1
  by_cases e : p = r * c - 1
  · rw [if_pos e]
    exact ⟨⟨Nat.le_refl _, h0⟩, fun t => ⟨fun _ => Nat.one_dvd _, fun _ => by rw [e, itN_last r1 c1]⟩⟩
  · rw [if_neg e]
    have rc : Rc r c (r * c - 1) := ⟨r1, c1, by omega⟩
    generalize hL : r * c - 1 = L at *
    have z : 0 < L := by omega
    have gp : 0 < Nat.gcd p L := Nat.gcd_pos_of_pos_right _ z
    obtain ⟨D, hD⟩ : ∃ D, D = L / Nat.gcd p L := ⟨_, rfl⟩
    rw [← hD]
    have dD : D ∣ L := hD ▸ Nat.div_dvd_of_dvd (Nat.gcd_dvd_right p L)
    have D1 : 1 ≤ D := hD ▸ Nat.div_pos (Nat.gcd_le_right _ z) gp
    obtain ⟨g2, hp2⟩ := facM_ok D1
    have nf2 : ∀ x ∈ facM D, ¬ x.1 ∣ r := fun x hx => by
      obtain ⟨a, b⟩ := g2 x hx
      have d1 := fac_dvd1 b hx
      rw [hp2] at d1
      exact rc.nd a (Nat.dvd_trans d1 dD)
    have q2 := lcmF_iff (r := r) (facM D) 1 g2 (facM_pr D1) nf2
    rw [hp2] at q2
    have b := lcmF_ok (r := r) g2 (facM D).length
    rw [List.take_length, hp2] at b
    have DL := Nat.le_of_dvd z dD
    refine ⟨⟨b.1, by omega⟩, fun t => ?_⟩
    have pl : p < r * c - 1 := by omega
    rw [itN_small r1 c1 pl, hL]
    show _ ↔ lcmF r (facM D) ∣ t
    have q3 : lcmF r (facM D) ∣ t ↔ D ∣ r ^ t - 1 := (q2 t).trans ⟨fun h => h.2, fun h => ⟨Nat.one_dvd _, h⟩⟩
    rw [q3]
    have r2 : 1 ≤ r ^ t := Nat.pow_pos r1
    have e3 : p * r ^ t = p + p * (r ^ t - 1) := by
      have : r ^ t = 1 + (r ^ t - 1) := by omega
      calc p * r ^ t = p * (1 + (r ^ t - 1)) := by rw [← this]
        _ = _ := by rw [Nat.mul_add, Nat.mul_one]
    have a1 : p * r ^ t % L = p ↔ L ∣ p * (r ^ t - 1) := by
      rw [e3]
      constructor
      · intro h
        have : (p + p * (r ^ t - 1)) % L = (p + 0) % L := by rw [h, Nat.add_zero, Nat.mod_eq_of_lt (by omega)]
        have h3 := Nat.sub_mod_eq_zero_of_mod_eq this
        have h4 : p + p * (r ^ t - 1) - (p + 0) = p * (r ^ t - 1) := by omega
        rw [h4] at h3
        exact Nat.dvd_of_mod_eq_zero h3
      · intro h
        rw [Nat.add_mod, Nat.mod_eq_zero_of_dvd h, Nat.add_zero, Nat.mod_mod, Nat.mod_eq_of_lt (by omega)]
    rw [a1]
    have eL : L = Nat.gcd p L * D := by rw [hD, Nat.mul_div_cancel' (Nat.gcd_dvd_right p L)]
    have ep : p = Nat.gcd p L * (p / Nat.gcd p L) := (Nat.mul_div_cancel' (Nat.gcd_dvd_left p L)).symm
    have cp : Nat.Coprime D (p / Nat.gcd p L) := by
      rw [hD]
      exact (Nat.coprime_div_gcd_div_gcd gp).symm
    constructor
    · intro h
      have h2 : Nat.gcd p L * D ∣ Nat.gcd p L * (p / Nat.gcd p L * (r ^ t - 1)) := by
        rw [← eL, ← Nat.mul_assoc, ← ep]
        exact h
      exact cp.dvd_of_dvd_mul_left (Nat.dvd_of_mul_dvd_mul_left gp h2)
    · intro h
      have h2 : Nat.gcd p L * D ∣ Nat.gcd p L * (p / Nat.gcd p L * (r ^ t - 1)) := Nat.mul_dvd_mul_left _ (Nat.dvd_trans h (Nat.dvd_mul_left _ _))
      rw [← eL, ← Nat.mul_assoc, ← ep] at h2
      exact h2
/-- what ring_length tells -/
def spRingL : Sp := fun vs H Q _ => ∃ r c p : Int, vs = [.int r, .int c, .int p] ∧ Tbl3 r c p ∧ ∀ H' (L : Nat), Same H H' → 1 ≤ L → (L : Int) ≤ r * c → (∀ t : Nat, itn r c t p = p ↔ L ∣ t) → Q (.int (L : Nat)) H'
theorem nat_of {i : Int} (h : 0 ≤ i) : ∃ n : Nat, i = ((n : Nat) : Int) := ⟨i.toNat, by omega⟩
theorem toL {vs : List V} {H : Hp} {Q : VK} {E : XK} (h : spRingL vs H Q E) : spRingM vs H Q E := by
  obtain ⟨r, c, p, rfl, ⟨r1, r2, c1, c2, p0, p1⟩, q⟩ := h
  obtain ⟨r, rfl⟩ := nat_of (by omega : 0 ≤ r)
  obtain ⟨c, rfl⟩ := nat_of (by omega : 0 ≤ c)
  obtain ⟨p, rfl⟩ := nat_of p0
  rw [← Int.natCast_mul] at p1
  have hp : p < r * c := by omega
  obtain ⟨⟨a, b⟩, d⟩ := ring_it (r := r) (c := c) (p := p) (by omega) (by omega) hp
  refine ⟨r, c, p, rfl, ⟨by omega, by omega, by omega, by omega⟩, hp, fun H' S => q H' _ S a (by rw [← Int.natCast_mul]; omega) fun t => ?_⟩
  rw [itn_nat, ← d t]
  omega
theorem toT {vs : List V} {H : Hp} {Q : VK} {E : XK} (h : spTurned vs H Q E) : spTurnM vs H Q E := by
  obtain ⟨r, c, p, t, rfl, ⟨r1, r2, c1, c2, p0, p1⟩, t0, t1, q⟩ := h
  obtain ⟨r, rfl⟩ := nat_of (by omega : 0 ≤ r)
  obtain ⟨c, rfl⟩ := nat_of (by omega : 0 ≤ c)
  obtain ⟨p, rfl⟩ := nat_of p0
  obtain ⟨t, rfl⟩ := nat_of t0
  rw [← Int.natCast_mul] at p1
  have hp : p < r * c := by omega
  refine ⟨r, c, p, t, rfl, ⟨by omega, by omega, by omega, by omega⟩, hp, Nat.lt_trans (by omega : t < 10 ^ 30) (by decide), fun H' S => ?_⟩
  have := q H' S
  rw [Int.toNat_natCast, itn_nat, ← turn_it (by omega) (by omega) hp] at this
  exact this
end E3

set_option Elab.async false
set_option linter.all false
set_option maxRecDepth 100000
set_option maxHeartbeats 1000000
/-! sorted(d), d a dict with whole numbers as keys -/
namespace L2
open PySem PySem.Spec PyProof.Rows
section
variable {prog : Program} {w : World} {A : Around} {E : Value → Shared → Prop} {s : Shared} {T : String} {r d : Addr} {n : Nat} {P : Nat → Value → Prop} {OK : Heap → Prop}
end
end L2

set_option Elab.async false
set_option linter.all false
set_option maxRecDepth 100000
/-! set(xs), xs a list of whole numbers; sorted of such a set, of any size -/
namespace L2
open PySem PySem.Spec PyProof.Rows
/-- the set just made -/
abbrev nSet (w : World) : Obj := { cls := .type "set", dict := none, data := .set #[] 0 (.fresh 0 0 (!w.params.followText "set-order")) }
section
variable {P : Program} {w : World} {A : Around} {E : Value → Shared → Prop} {s : Shared} {l : Addr} {items : Array Value} {ns : List Int}
/-- what set.__init__ has done behind its walk -/
abbrev SetDone (w : World) (s : Shared) (ns : List Int) (s₂ : Shared) : Prop := ∃ h' tk c, s₂ = { s with heap := h', toks := tk } ∧ SetR w h' s.heap.objs.size (fun j => decide (j ∈ ns)) c ∧ c ≤ ns.length ∧ ∀ b o, s.heap.get? b = some o → h'.get? b = some o
theorem ints_at (hit : IntsAre items.toList ns) (i : Nat) (v : Value) (hv : items[i]? = some v) : ∃ k t, ns[i]? = some k ∧ v = .int k t := by
  have z : items.size = ns.length := by rw [← Array.length_toList]; exact IntsAre.length hit
  have lt : i < ns.length := z ▸ (Array.getElem?_eq_some_iff.mp hv).1
  obtain ⟨t, e⟩ := hit.int_at i v (by rw [Array.getElem?_toList]; exact hv)
  exact ⟨ns[i], t, List.getElem?_eq_getElem lt, by rw [e, List.getD_eq_getElem?_getD, List.getElem?_eq_getElem lt] <;> rfl⟩
set_option maxHeartbeats 3200000 in
theorem set_init_ints (hh : A.handled = none) (hl : s.heap.IsList l items) (hit : IntsAre items.toList ns) (hb : ns.length + 1 < scanBound) (T : Shared.TypeIs { s with heap := s.heap.push (nSet w) } (.ref s.heap.objs.size) "set") {R : Result → Shared → Prop} (hR : ∀ s₂, SetDone w s ns s₂ → R (.ok (.ret .none)) s₂) :
    wpAny (model P w) A.in1 (Builtin.«set.__init__» ⟨[.ref s.heap.objs.size, .ref l], []⟩) (fun fin s' => match fin with | .done f => R (.ok f) s' | .again c' => c'.quiet = true ∧ codeAny (model P w) A c' R s') (fun e s' => R (.error e) s') { s with heap := s.heap.push (nSet w) } := by
  have hS : (s.heap.push (nSet w)).get? s.heap.objs.size = some (nSet w) := Heap.get?_push_size _ rfl
  obtain ⟨⟨oc, od, dt, osl⟩, hol, rfl, nl, rfl⟩ := hl
  have h1 : (s.heap.push (nSet w)).get? l = some { cls := .type "list", dict := od, data := .seq items nl, slots := osl } := Heap.get?_push_of_some _ hol
  have L1 : (s.heap.push (nSet w)).IsList l items := ⟨_, h1, rfl, nl, rfl⟩
  have lS : l < s.heap.objs.size := Heap.lt_size hol
  have n1 := F.sub_list_set
  have n2 := F.sub_list_frozenset
  have n3 : (Value.type "list" == Value.type "dict") = false := by decide
  have isz : items.size = ns.length := by rw [← Array.length_toList]; exact IntsAre.length hit
  unfold Builtin.«set.__init__» noKeywords Builtin.Frozenset.updateFrom
  generalize hPI : pyIter = PI
  wp_walk
  subst hPI
  refine wpAny_pyIter_list L1 ?_
  refine wpAny_bind (wpAny_runValue ?_)
  have sz : (s.heap.push (nSet w)).objs.size = s.heap.objs.size + 1 := Heap.size_push ..
  have ne1 : l ≠ (s.heap.push (nSet w)).objs.size := by rw [sz]; exact Nat.ne_of_lt (Nat.lt_succ_of_lt lS)
  have nf : s.heap.objs.size ∉ [(s.heap.push (nSet w)).objs.size, l] := by
    rw [sz]
    simp only [List.mem_cons, List.not_mem_nil, or_false, not_or]
    exact ⟨Nat.ne_of_lt (Nat.lt_succ_self _), Nat.ne_of_gt lS⟩
  refine set_update_ints ((Walks.list (by simp [hh]) _ l ne1 items).toS) s.heap.objs.size nf ns isz hb (ints_at hit) (items.size - 0) 0 _ (by omega) (Nat.zero_le _) ⟨⟨_, Heap.get?_push_size _ rfl, rfl, rfl⟩, L1.push _⟩ ⟨0, Nat.le_refl 0, setR_new_at (Heap.get?_push_of_some _ hS)⟩ ?_
  rintro ⟨h', g2, d', tk', os'⟩ c' hm hc' hS'
  obtain rfl : g2 = s.gens := hm.gens
  obtain rfl : d' = s.drawn := hm.drawn
  obtain rfl : os' = s.os := hm.os
  refine wpAny_pure ?_
  refine wpAny_pure (hR _ ⟨h', tk', c', rfl, hS', by omega, fun b o e => ?_⟩)
  have b0 : b < s.heap.objs.size := Heap.lt_size e
  refine hm.heap b o ?_ (Heap.get?_push_of_some _ (Heap.get?_push_of_some _ e))
  simp only [List.mem_cons, List.not_mem_nil, or_false, not_or]
  exact ⟨Nat.ne_of_lt b0, by rw [sz]; exact Nat.ne_of_lt (Nat.lt_succ_of_lt b0)⟩
set_option maxHeartbeats 3200000 in
theorem call_set_ints {Q : Value → Shared → Prop} (hh : A.handled = none) (hl : s.heap.IsList l items) (hit : IntsAre items.toList ns) (hb : ns.length + 1 < scanBound) (h : ∀ s₂, SetDone w s ns s₂ → Q (.ref s.heap.objs.size) s₂) : wpAny (model P w) A (call (.type "set") [.ref l]) Q E s := by
  obtain ⟨c, tl, m1⟩ := F.called_set.mro
  have m2 := F.called_set.made
  have m3 := F.called_set.sub
  have m4 := F.called_set.notType
  have m5 := F.called_set.canCreate
  have m6 := F.typeCall_set_1 (.ref l)
  have T : Shared.TypeIs { s with heap := s.heap.push (nSet w) } (.ref s.heap.objs.size) "set" := ⟨_, Heap.get?_push_size _ rfl, rfl⟩
  have m7 := F.called_set.init.lookup
  have m8 := F.called_set.init.bind (.ref s.heap.objs.size)
  refine wpAny_call (codeAny_of_tree (show wpAny _ _ (callAny (.type "set") _) _ _ _ from wpAny_pure ⟨Code.quiet_builtin _ (by decide +kernel), codeAny_builtin F.entry_type_call ?_⟩))
  rw [Around.under_plain (weight_type_call_type "set" [.ref l] []) rfl]
  repeat (any_goals (first | assumption | wp_step))
  refine codeAny_mono (code_set_led1 (.ref l) (E := E) (Q₁ := fun obj s₁ => obj = .ref s.heap.objs.size ∧ s₁ = { s with heap := s.heap.push (nSet w) }) ⟨rfl, rfl⟩) fun r s₁ hr => ?_
  match r, hr with
  | .error e, hr => exact hr
  | .ok (.ret obj), ⟨e1, e2⟩ =>
    subst e1 e2
    repeat (any_goals (first | assumption | wp_step))
    refine codeAny_mono (codeAny_call_builtin (R := wants (fun r s₂ => r = .none ∧ SetDone w s ns s₂) E) F.called_set.init.plain F.entry_set_init (check_set_init_1 T (set_init_ints (by simp [hh]) hl hit hb T fun s₂ d => ⟨rfl, d⟩))) fun r₂ s₂ hr₂ => ?_
    match r₂, hr₂ with
    | .error e, hr₂ => exact hr₂
    | .ok (.ret r), ⟨e1, d⟩ =>
      subst e1
      repeat (any_goals (first | assumption | wp_step))
      exact h _ d
end
/-- set(xs), ints -/
def rSetLI (K : PySem.W.Frag) (w : World) : List V → Hp → VK → Prop := fun vs H Q => ∃ (a : Addr) (ns : List Int), vs = [V.ref a] ∧ SqL K H a (ns.map V.int) ∧ ns.length + 1 < scanBound ∧ ∀ p c, H p = none → Q (.ref p) (upd H p (SetO w p (fun j => decide (j ∈ ns)) c))
theorem cr_setL {X : Cx} (hc : X.calm = true) : CallR X (.type "set") (rSetLI X.K X.w) := by
  intro pins s σ H vs us Q I r h
  obtain ⟨a, ns, rfl, hs, hz, q⟩ := h
  obtain ⟨its, rv, hl, _⟩ := I.list hs
  rw [Vals.ref1 r]
  refine call_set_ints (P := X.prog) (w := X.w) (I.ok.hd hc) hl.isList (by simpa using rv.ints) hz fun s₂ d => ?_
  obtain ⟨h', tk, c, rfl, R, _, k⟩ := d
  exact ⟨.ref s.heap.objs.size, _, I.laid (t' := tk) k (Nat.le_refl _) (setO_new R), rfl, q _ c (I.hok.fresh (Nat.le_refl _))⟩
/-- sorted(s), s a set of ints -/
def rSortedSL (w : World) : List V → Hp → VK → Prop := fun vs H Q => ∃ (a : Addr) (S : Int → Bool) (n : Nat), vs = [V.ref a] ∧ H a = some (SetO w a S n) ∧ ∀ ns : List Int, ns.Pairwise (· ≤ ·) → ns.Nodup → (∀ k : Int, k ∈ ns ↔ S k = true) → NewQ H (.lst (ns.map V.int)) Q
theorem cr_sortedSL {X : Cx} (hc : X.calm = true) : CallR X (.builtin "sorted") (rSortedSL X.w) := by
  intro pins s σ H vs us Q I r h
  obtain ⟨a, S, n, rfl, ha, q⟩ := h
  obtain ⟨o, es, ep, t, ho, hex, hd, g, nd, hm, hb, hf, _, hr, hl⟩ := setO_get I ha
  rw [Vals.ref1 r]
  refine Calls.call_function_entry kind_sorted plain_sorted entry_sorted (args_sorted1 _) ?_
  unfold Builtin.«sorted»
  refine wpAny_bind (m := checkCount "sorted" 1 1 _) (wpAny_pure ?_)
  refine wpAny_bind (collect_set (I.ok.hd hc) ⟨o, ho, hex.1, hd⟩ hf hb hr hl fun s1 vs k1 hz g1 o1 pm => ?_)
  have hi := ints_of vs fun v hv => by
    obtain ⟨e, he, ev⟩ := List.mem_map.mp (pm.mem_iff.mp hv)
    obtain ⟨k, tk, e1, _⟩ := g e he
    exact ⟨k, tk, ev.symm.trans e1⟩
  have pk := pm.map Builtin.Re.reRawOf
  rw [List.map_map] at pk
  have pk2 : (vs.map Builtin.Re.reRawOf).Perm (es.toList.map keyOf) := pk
  have vz : vs.length ≤ sizeLine := fits_of_scanBound (by rw [pm.length_eq, List.length_map, Array.length_toList]; exact hb)
  refine wpAny_bind (wpAny_newList ?_ vz)
  have oL : (s1.heap.push (seqObj "list" vs.toArray 0)).get? s1.heap.objs.size = some (seqObj "list" vs.toArray 0) := Heap.get?_push_size _ rfl
  refine wpAny_bind (wpAny_holding (wpAny_call_entry slot_list_sort ⟨_, oL, rfl⟩ entry_list_sort (SrtO.list_sort_ord SrtO.swo_int oL vz (fun h2 => SrtO.ints_sortable hi h2) fun out hs hsb => ⟨_, rfl, ?_⟩) (args_list_sort _)))
  obtain ⟨q1, q2, q3⟩ := SrtO.ints_out hi hs hsb
  obtain ⟨c, hc2⟩ := sortedHeap_at (vs := vs) (out := out.toArray) oL
  have pn := q2.trans pk2
  have ol : ((out.map SrtO.iv).map V.int).length ≤ sizeLine := by rw [List.length_map, q2.length_eq, List.length_map]; exact vz
  have np : H s1.heap.objs.size = none := I.hok.fresh hz
  have kk : ∀ b u, s.heap.get? b = some u → (sortedHeap (s1.heap.push (seqObj "list" vs.toArray 0)) s1.heap.objs.size vs out.toArray).get? b = some u := fun b u e => by
    have lt := Heap.lt_size (k1 b u e)
    rw [sortedHeap_old (Nat.ne_of_lt lt) (by rw [size_push']; exact Nat.lt_succ_of_lt lt)]
    exact Heap.get?_push_of_some _ (k1 b u e)
  have J : Inv X pins σ (upd H s1.heap.objs.size (.lst ((out.map SrtO.iv).map V.int))) { s with heap := sortedHeap (s1.heap.push (seqObj "list" vs.toArray 0)) s1.heap.objs.size vs out.toArray, gens := s1.gens, drawn := s1.drawn, toks := s1.toks } :=
    I.call (ch := []) (Un.laid kk hz np) (I.hok.laid kk hz ⟨ol, out, c, vals_of_ints q1, hc2⟩) (by rw [g1]; exact I.bare) (fun _ z => nomatch z)
  have e : ({ s1 with heap := sortedHeap (s1.heap.push (seqObj "list" vs.toArray 0)) s1.heap.objs.size vs out.toArray } : Shared) = { s with heap := sortedHeap (s1.heap.push (seqObj "list" vs.toArray 0)) s1.heap.objs.size vs out.toArray, gens := s1.gens, drawn := s1.drawn, toks := s1.toks } := by
    cases s1; cases s; cases o1; rfl
  refine wpAny_pure ⟨_, rfl, ?_⟩
  show EP _ _ _ _ _ ({ s1 with heap := sortedHeap (s1.heap.push (seqObj "list" vs.toArray 0)) s1.heap.objs.size vs out.toArray } : Shared)
  rw [e]
  exact ⟨.ref s1.heap.objs.size, _, J, rfl, (q _ q3 (pn.nodup_iff.mpr nd) fun k => by rw [pn.mem_iff, ← hm k]).at np⟩
end L2

set_option Elab.async false
set_option linter.all false
set_option maxRecDepth 100000
set_option maxHeartbeats 1000000
/-! law_k71: _law_ring_right -/
namespace E3
open PySem PySem.Spec PyProof.Rows L2
open C8 (Cal Mak Met InsC pe_c pe_mt pe_mt0 call_isC clsBody)
abbrev NRR : List Str := ["_law_high", "_law_wide", "_law_spot", "_law_length", "_law_here", "_law_times", "_law_prime"]
def spRingR : Sp := fun vs H Q _ => ∃ r c p : Int, vs = [.int r, .int c, .int p] ∧ Tbl3 r c p ∧ ∀ H', Same H H' → Q (.bl true) H'
section
variable {P : Program} {w : World} {K : PySem.W.Frag} {mg : Str → Option Value} {base : Heap}
theorem scRingR : FnScope NRR ["_law_high", "_law_wide", "_law_spot"] (defScope sRingR) := ⟨rfl, rfl, rfl, by decide +kernel, rfl, by decide +kernel, by decide +kernel⟩
theorem ok_ringR {f : Addr} {fd : FuncData} (F : Fun K "_law_ring_right" "_law_ring_right" sRingR f fd) (B : Bt4 mg) (B5 : Bt5 mg) (zmin : mg "min" = none) (zset : mg "set" = none) (N : Cal P w K mg base 1 "_law_next" spNext []) (Pm : Cal P w K mg base 1 "_law_primes" spPrimes []) (Rl : Cal P w K mg base 4 "ring_length" spRingL []) (T : Cal P w K mg base 4 "turned" spTurned []) : FnOk P w K mg base CX0 5 f fd ["_law_high", "_law_wide", "_law_spot"] spRingR := by
  refine F.ok scRingR (fun vs H Q E h => ?_) (fun cdv A outer s H vs Q E hr h => ?_)
  · obtain ⟨r, c, p, rfl, _⟩ := h
    rfl
  · obtain ⟨r, c, p, rfl, hT, q⟩ := h
    refine ⟨_, pss_cons (ps_par (i := 3) (j := 4) (by rfl) scRingR.nd rfl rfl (by decide) rfl rfl (pa_cons (pe_c Rl hr (by decide) rfl (pa_cons (pv 0) (pa_cons (pv 1) (pa_cons (pv 2) pa_nil)))) (pa_cons (pv 2) pa_nil)) (by rfl))
      (pss_cons (ps_if (PW.pt (pw_or (pt_val (pe_callB call_isi (by rfl) B5.isi (by decide +kernel) (pa_cons (pv 3) (pa_cons (pe_bltn (v := .ty "bool") (by rfl) B5.bool_ (by decide +kernel) rfl) pa_nil))))
        (pw_or (pt_cmpR op_lt (pv 3) pe_int (nomark _)) (pw_or1 (pt_cmpR op_gt (pv 3) (pe_op op_mul (pv 0) (pv 1)) (nomark _)))))) (pss_one (ps_ret pe_bl)) pss_nil)
      (pss_cons (ps_for PassesOwn.never rfl (pi_range2 rfl B.rng_ (pa_cons pe_int (pa_cons (pe_op op_add (pe_callB (call_min2 rfl) (by rfl) zmin (by decide +kernel) (pa_cons (pv 3) (pa_cons pe_int pa_nil))) pe_int) pa_nil))) (pg_name (i := 5) scRingR.nd rfl (Or.inl rfl))
        (pss_cons (ps_set (i := 4) scRingR.nd rfl (Or.inl rfl) (pe_c N hr (by decide) rfl (pa_cons (pv 0) (pa_cons (pv 1) (pa_cons (pv 4) pa_nil)))))
        (pss_one (ps_if (pt_cmpR op_ne (pe_cmpR op_eq (pv 4) (pv 2) (nomark _)) (pe_cmpR op_eq (pv 5) (pv 3) (nomark _)) (nomark _)) (pss_one (ps_ret pe_bl)) pss_nil))))
      (pss_cons (ps_for PassesOwn.never rfl (pi_list (pe_callB (cr_sortedSL rfl) (by rfl) B5.sorted_ (by decide +kernel) (pa_cons (pe_callTy (cr_setL rfl) (by rfl) zset (by decide +kernel) (pa_cons (pe_c Pm hr (by decide) rfl (pa_cons (pv 3) pa_nil)) pa_nil)) pa_nil))) (pg_name (i := 6) scRingR.nd rfl (Or.inl rfl))
        (pss_one (ps_if (pt_cmpR op_eq (pe_c T hr (by decide) rfl (pa_cons (pv 0) (pa_cons (pv 1) (pa_cons (pv 2) (pa_cons (pe_op op_fdivW (pv 3) (pv 6)) pa_nil))))) (pv 2) (nomark _)) (pss_one (ps_ret pe_bl)) pss_nil)))
      (pss_one (ps_ret (pe_cmpR op_eq (pe_c T hr (by decide) rfl (pa_cons (pv 0) (pa_cons (pv 1) (pa_cons (pv 2) (pa_cons (pv 3) pa_nil))))) (pv 2) (nomark _))))))), ?_⟩
    obtain ⟨r1, r2, c1, c2, p0, p1⟩ := id hT
    have rc9 : r * c ≤ 900000000 := by
      have h1 : r * c ≤ 30000 * c := Int.mul_le_mul_of_nonneg_right r2 (by omega)
      omega
    refine ⟨_, rfl, _, rfl, _, rfl, r, c, p, rfl, hT, fun H1 L S1 L1 Lr per => ⟨_, rfl, ?_⟩⟩
    dsimp only
    refine ⟨_, _, rfl, ?_⟩
    refine ⟨_, rfl, _, _, _, _, false, rfl, .ty "bool", .base (.int _), kit_ib, false, rfl, ifF rfl ?_⟩
    refine ⟨_, rfl, _, _, rfl, rfl, _, rfl, ifF (decide_eq_false (by omega)) ?_⟩
    refine ⟨_, rfl, _, rfl, _, rfl, _, _, rfl, rfl, .inl ⟨by omega, by omega⟩, _, _, rfl, rfl, _, rfl, ifF (decide_eq_false (by omega)) ?_⟩
    refine ⟨_, rfl, L, 400, rfl, _, _, rfl, rfl, ?_⟩
    generalize hM : (if (400 : Int) < L then (400 : Int) else L) = M
    have hM1 : 1 ≤ M ∧ M ≤ 400 ∧ M ≤ L := by
      rw [← hM]
      split <;> omega
    refine ⟨1, M + 1, rfl, ⟨by omega, by omega, by omega, by omega⟩, for_it (walk_range (n := (M + 1 - 1).toNat)) (fun i σ' H' => (∃ u5, σ' = [some (.int r), some (.int c), some (.int p), some (.int (L : Nat)), some (.int (itn r c i p)), u5, none]) ∧ Same H H') ⟨⟨none, rfl⟩, S1⟩ (fun _ _ _ _ _ => trivial) ?_ ?_⟩
    · rintro i x σ' H2 H3 hi ⟨⟨u5, rfl⟩, S2⟩ ⟨rfl, rfl⟩
      have i2 := itn_in hT i
      refine ⟨_, rfl, _, rfl, _, rfl, r, c, _, rfl, ⟨r1, r2, c1, c2, i2.1, i2.2⟩, ?_⟩
      refine ⟨_, rfl, _, rfl, rfl, _, rfl, _, rfl, rfl, rfl, _, rfl, ?_⟩
      refine ifF ?_ ⟨⟨_, rfl⟩, S2⟩
      have e1 : (V.int (nx r c (itn r c i p)) = V.int p) ↔ (V.int (1 + ((i : Nat) : Int)) = V.int (L : Nat)) := by
        rw [V.int.injEq, V.int.injEq]
        show itn r c (i + 1) p = p ↔ _
        rw [per]
        constructor
        · intro h
          have := Nat.le_of_dvd (by omega) h
          omega
        · intro h
          have : i + 1 = L := by omega
          rw [this]
          exact Nat.dvd_refl L
      show (!decide (V.bl (decide (V.int (nx r c (itn r c i p)) = V.int p)) = V.bl (decide (V.int (1 + ((i : Nat) : Int)) = V.int (L : Nat))))) = false
      rw [decide_eq_decide.mpr e1, decide_eq_true rfl]
      rfl
    · rintro σ' H2 ⟨⟨u5, rfl⟩, S2⟩
      refine ⟨_, rfl, L, rfl, by omega, by omega, fun H3 pa qs S3 np hp lq hq => ⟨pa, _, rfl, SqL.of hp, ?_, fun b cc nb => ⟨b, _, cc, rfl, upd_same, fun ns h1 h2 h3 b2 H4 S4 nb2 hb2 => ?_⟩⟩⟩
      · have : (100 : Nat) < scanBound := by decide
        omega
      have S24 : Same H H4 := fun y o e => S4 _ _ (by rw [upd_ne (ne_of_none (S3 _ _ (S2 _ _ e)) nb)]; exact S3 _ _ (S2 _ _ e))
      refine ⟨b2, rfl, ⟨_, SqL.of hb2⟩, for_it (walk_list (xs := ns.map V.int)) (fun i σ' H' => (∃ u6, σ' = [some (.int r), some (.int c), some (.int p), some (.int (L : Nat)), some (.int (itn r c (M + 1 - 1).toNat p)), u5, u6]) ∧ Same H4 H') ⟨⟨none, rfl⟩, Same.refl H4⟩ (fun i σ' H' _ q => SqL.of (q.2 _ _ hb2)) ?_ ?_⟩
      · rintro i x σ' H5 H6 hi ⟨⟨u6, rfl⟩, S5⟩ ⟨rfl, hx⟩
        rw [List.getElem?_map] at hx
        obtain ⟨z, hz, rfl⟩ := Option.map_eq_some_iff.mp hx
        have hzq : z ∈ qs := of_decide_eq_true ((h3 z).mp (List.mem_of_getElem? hz))
        obtain ⟨z2, zL⟩ := hq z hzq
        have dv : CDivW (L : Nat) z := ⟨by omega, by
          have : z.natAbs < 2 ^ 32 := by omega
          have := PySem.Flt.log2_lt_of (k := 32) (by decide) this
          omega⟩
        have d0 : 1 ≤ (L : Int) / z := by
          have : z * 1 ≤ L := by omega
          exact (Int.le_ediv_iff_mul_le (by omega)).mpr (by omega)
        have dL : (L : Int) / z < L := by
          apply Int.ediv_lt_of_lt_mul (by omega)
          have : (L : Int) * 2 ≤ L * z := Int.mul_le_mul_of_nonneg_left z2 (by omega)
          omega
        refine ⟨_, rfl, _, rfl, _, rfl, _, rfl, _, rfl, _, _, rfl, rfl, dv, r, c, p, _, rfl, hT, by omega, by omega, fun H7 S7 => ?_⟩
        refine ⟨_, rfl, rfl, _, rfl, ifF (decide_eq_false fun z3 => ?_) ⟨⟨_, rfl⟩, S5.trans S7⟩⟩
        have h4 := (per _).mp (by injection z3)
        have := Nat.le_of_dvd (by omega) h4
        omega
      · rintro σ' H5 ⟨⟨u6, rfl⟩, S5⟩
        refine ⟨_, rfl, _, rfl, _, rfl, _, rfl, r, c, p, _, rfl, hT, by omega, by omega, fun H6 S6 => ⟨_, rfl, rfl, ?_⟩⟩
        have h4 := (per L).mpr (Nat.dvd_refl L)
        rw [show ((L : Nat) : Int).toNat = L from rfl, h4, decide_eq_true rfl]
        exact q H6 ((S24.trans S5).trans S6)
end
end E3

set_option Elab.async false
set_option linter.all false
set_option maxRecDepth 100000
set_option maxHeartbeats 2000000
/-! law_k71's law -/
namespace E3
open PySem PySem.Spec PyProof.Rows L2
open C8 (Cal Mak Met InsC pe_c pe_mt pe_mt0 call_isC clsBody)
abbrev NLW : List Str := ["_law_script", "_law_cell", "_law_purse_here", "_law_high", "_law_wide", "_law_spot", "_law_one", "_law_other"]
def spLaw : PySem.W.Frag → Sp := fun K vs H Q _ => ∃ (sc : Addr) (ns : List Int), vs = [.ref sc] ∧ SqL K H sc (ns.map V.int) ∧ ns.length ≤ 63 ∧ ∀ H', Q (.bl true) H'
theorem itn_dbl (r c : Int) (t : Int) (p : Int) (t0 : 0 ≤ t) : itn r c (t * 2).toNat p = itn r c t.toNat (itn r c t.toNat p) := by
  have : (t * 2).toNat = t.toNat + t.toNat := by omega
  rw [this, itn_add]
theorem itn_sum (r c : Int) (t u : Int) (p : Int) (t0 : 0 ≤ t) (u0 : 0 ≤ u) : itn r c (t + u).toNat p = itn r c u.toNat (itn r c t.toNat p) := by
  have : (t + u).toNat = u.toNat + t.toNat := by omega
  rw [this, itn_add]
section
variable {P : Program} {w : World} {K : PySem.W.Frag} {mg : Str → Option Value} {base : Heap}
theorem scLaw : FnScope NLW ["_law_script"] (defScope sLaw) := ⟨rfl, rfl, rfl, by decide +kernel, rfl, by decide +kernel, by decide +kernel⟩
theorem ok_law {f : Addr} {fd : FuncData} (F : Fun K "law" "law" sLaw f fd) (B : Bt4 mg) (Pu : Cal P w K mg base 1 "_law_purse" (spPurse K) []) (D : Cal P w K mg base 2 "_law_draw" spDraw []) (Sp_ : Cal P w K mg base 5 "_law_spot_right" spSpot []) (Rr : Cal P w K mg base 5 "_law_ring_right" spRingR []) (T : Cal P w K mg base 4 "turned" spTurned []) : FnOk P w K mg base CX0 6 f fd ["_law_script"] (spLaw K) := by
  refine F.ok scLaw (fun vs H Q E h => ?_) (fun cdv A outer s H vs Q E hr h => ?_)
  · obtain ⟨sc, ns, rfl, _⟩ := h
    rfl
  · obtain ⟨sc, ns, rfl, hs, hl, q⟩ := h
    refine ⟨_, pss_cons (ps_for PassesOwn.never rfl (pi_range1 rfl B.rng_ (pa_cons (pe_callB (call_max2 rfl) (by rfl) B.max_ (by decide +kernel) (pa_cons pe_int (pa_cons (pe_callB call_len_seq (by rfl) B.len_ PySem.boot_len (pa_cons (pe_slice sl_listS (pv 0) po_none (po_some pe_int)) pa_nil)) pa_nil))) pa_nil)) (pg_name (i := 1) scLaw.nd rfl (Or.inl rfl))
        (pss_cons (ps_set (i := 2) scLaw.nd rfl (Or.inl rfl) (pe_c Pu hr (by omega) rfl (pa_cons (pv 0) (pa_cons (pv 1) pa_nil))))
        (pss_cons (ps_par (i := 3) (j := 4) (by rfl) scLaw.nd rfl rfl (by decide) rfl rfl (pa_cons (pe_op op_add pe_int (pe_c D hr (by omega) rfl (pa_cons (pv 2) (pa_cons pe_int pa_nil)))) (pa_cons (pe_op op_add pe_int (pe_c D hr (by omega) rfl (pa_cons (pv 2) (pa_cons pe_int pa_nil)))) pa_nil)) (by rfl))
        (pss_cons (ps_for PassesOwn.never rfl (pi_range1 rfl B.rng_ (pa_cons (pe_op op_mul (pv 3) (pv 4)) pa_nil)) (pg_name (i := 5) scLaw.nd rfl (Or.inl rfl))
          (pss_one (ps_if (PW.pt (pw_or (pt_not (pt_val (pe_c Sp_ hr (by omega) rfl (pa_cons (pv 3) (pa_cons (pv 4) (pa_cons (pv 5) pa_nil)))))) (pw_or1 (pt_not (pt_val (pe_c Rr hr (by omega) rfl (pa_cons (pv 3) (pa_cons (pv 4) (pa_cons (pv 5) pa_nil))))))))) (pss_one (ps_ret pe_bl)) pss_nil)))
        (pss_cons (ps_par (i := 3) (j := 4) (by rfl) scLaw.nd rfl rfl (by decide) rfl rfl (pa_cons (pe_op op_add pe_int (pe_c D hr (by omega) rfl (pa_cons (pv 2) (pa_cons (pe_ix ix_list (pe_lstS (pa_cons pe_int (pa_cons pe_int pa_nil))) (pe_c D hr (by omega) rfl (pa_cons (pv 2) (pa_cons pe_int pa_nil))) (fun _ _ => rfl)) pa_nil)))) (pa_cons (pe_op op_add pe_int (pe_c D hr (by omega) rfl (pa_cons (pv 2) (pa_cons pe_int pa_nil)))) pa_nil)) (by rfl))
        (pss_one (ps_for PassesOwn.never rfl (pi_list (pe_lstS (pa_cons pe_int (pa_cons (pe_op op_sub (pe_op op_mul (pv 3) (pv 4)) pe_int) (pa_cons (pe_c D hr (by omega) rfl (pa_cons (pv 2) (pa_cons (pe_op op_mul (pv 3) (pv 4)) pa_nil))) (pa_cons (pe_c D hr (by omega) rfl (pa_cons (pv 2) (pa_cons (pe_op op_mul (pv 3) (pv 4)) pa_nil))) pa_nil)))))) (pg_name (i := 5) scLaw.nd rfl (Or.inl rfl))
          (pss_cons (ps_par (i := 6) (j := 7) (by rfl) scLaw.nd rfl rfl (by decide) rfl rfl (pa_cons (pe_c D hr (by omega) rfl (pa_cons (pv 2) (pa_cons (pe_op op_pow pe_int pe_int) pa_nil))) (pa_cons (pe_c D hr (by omega) rfl (pa_cons (pv 2) (pa_cons (pe_op op_pow pe_int pe_int) pa_nil))) pa_nil)) (by rfl))
          (pss_cons (ps_if (PW.pt (pw_or (pt_not (pt_val (pe_c Sp_ hr (by omega) rfl (pa_cons (pv 3) (pa_cons (pv 4) (pa_cons (pv 5) pa_nil)))))) (pw_or1 (pt_not (pt_val (pe_c Rr hr (by omega) rfl (pa_cons (pv 3) (pa_cons (pv 4) (pa_cons (pv 5) pa_nil))))))))) (pss_one (ps_ret pe_bl)) pss_nil)
          (pss_cons (ps_if (pt_cmpR op_ne (pe_c T hr (by omega) rfl (pa_cons (pv 3) (pa_cons (pv 4) (pa_cons (pe_c T hr (by omega) rfl (pa_cons (pv 3) (pa_cons (pv 4) (pa_cons (pv 5) (pa_cons (pv 6) pa_nil))))) (pa_cons (pv 7) pa_nil))))) (pe_c T hr (by omega) rfl (pa_cons (pv 3) (pa_cons (pv 4) (pa_cons (pv 5) (pa_cons (pe_op op_add (pv 6) (pv 7)) pa_nil))))) (nomark _)) (pss_one (ps_ret pe_bl)) pss_nil)
          (pss_one (ps_if (pt_cmpR op_ne (pe_c T hr (by omega) rfl (pa_cons (pv 3) (pa_cons (pv 4) (pa_cons (pv 5) (pa_cons (pe_op op_mul (pv 6) pe_int) pa_nil))))) (pe_c T hr (by omega) rfl (pa_cons (pv 3) (pa_cons (pv 4) (pa_cons (pe_c T hr (by omega) rfl (pa_cons (pv 3) (pa_cons (pv 4) (pa_cons (pv 5) (pa_cons (pv 6) pa_nil))))) (pa_cons (pv 6) pa_nil))))) (nomark _)) (pss_one (ps_ret pe_bl)) pss_nil))))))))))))
      (pss_one (ps_ret pe_bl)), ?_⟩
    have lcut : (cutV (ns.map V.int) none (some 16)).length ≤ 63 := by
      unfold cutV
      refine Nat.le_trans (List.length_take_le' _ _) ?_
      rw [List.length_drop, List.length_map]
      omega
    refine ⟨_, rfl, 16, rfl, sc, _, rfl, hs, fun pc H1 S1 n1 h1 => ?_⟩
    refine ⟨pc, _, rfl, .inl (SqL.of h1), 1, _, rfl, _, rfl, ?_⟩
    generalize hm : (if (((cutV (ns.map V.int) none (some 16)).length : Nat) : Int) > 1 then (((cutV (ns.map V.int) none (some 16)).length : Nat) : Int) else 1) = m
    have m0 : 0 ≤ m ∧ m ≤ 63 := by
      rw [← hm]
      split <;> omega
    refine ⟨by omega, by omega, for_it (walk_range (n := m.toNat)) (fun i σ' H' => (∃ u1 u2 u3 u4 u5 u6 u7, σ' = [some (.ref sc), u1, u2, u3, u4, u5, u6, u7]) ∧ Same H H') ⟨⟨none, none, none, none, none, none, none, rfl⟩, S1⟩ (fun _ _ _ _ _ => trivial) ?_ ?_⟩
    · rintro i x σ' H2 H3 hi ⟨⟨u1, u2, u3, u4, u5, u6, u7, rfl⟩, S2⟩ ⟨rfl, rfl⟩
      refine seq_asg ⟨_, rfl, _, rfl, sc, _, ns, rfl, hs.same S2, by omega, by omega, fun H4 p S4 np hp => ?_⟩
      have back : ∀ {H' : Hp}, SameB p H4 H' → Same H H' := fun Sb b o e => Sb b o (ne_of_none (S2 _ _ e) np) (S4 _ _ (S2 _ _ e))
      have back2 : ∀ {H' : Hp} {a b : Hp}, True := trivial
      refine ⟨_, rfl, p, 12, 2 ^ 40 + 100, rfl, hp.less (by decide), by decide, by decide, fun r H5 r0 r1 hp5 S5 => ⟨_, _, rfl, rfl, _, rfl, p, 12, 2 ^ 40 + 90, rfl, hp5.less (by decide), by decide, by decide, fun c H6 c0 c1 hp6 S6 => ⟨_, _, rfl, rfl, _, _, rfl, ?_⟩⟩⟩
      dsimp only
      have SB6 := S5.trans S6
      have hr1 : 1 ≤ 1 + r ∧ 1 + r ≤ 12 := by omega
      have hc1 : 1 ≤ 1 + c ∧ 1 + c ≤ 12 := by omega
      generalize 1 + r = r at hr1
      generalize 1 + c = c at hc1
      have pos : 1 ≤ r * c := Int.le_trans (show (1 : Int) ≤ 1 * 1 by decide) (Int.mul_le_mul hr1.1 hc1.1 (by decide) (by omega))
      have big : r * c ≤ 12 * 12 := Int.mul_le_mul hr1.2 hc1.2 (by omega) (by decide)
      refine ⟨_, rfl, _, rfl, _, _, rfl, rfl, .inl ⟨by omega, by omega⟩, r * c, rfl, by omega, by omega, for_it (walk_range (n := (r * c).toNat)) (fun j σ' H' => (∃ u5, σ' = [some (.ref sc), some (.int (0 + (i : Nat))), some (.ref p), some (.int r), some (.int c), u5, u6, u7]) ∧ SameB p H4 H' ∧ PurseAt H' p (2 ^ 40 + 90)) ⟨⟨_, rfl⟩, SB6, hp6⟩ (fun _ _ _ _ _ => trivial) ?_ ?_⟩
      · rintro j x σ' H7 H8 hj ⟨⟨u5, rfl⟩, SB7, hp7⟩ ⟨rfl, rfl⟩
        have tb : Tbl3 r c (0 + ((j : Nat) : Int)) := ⟨hr1.1, by omega, hc1.1, by omega, by omega, by omega⟩
        exact ⟨_, rfl, _, rfl, _, rfl, r, c, _, rfl, tb, fun H9 S9 => ⟨true, rfl, iteF ⟨_, rfl, _, rfl, _, rfl, r, c, _, rfl, tb, fun H10 S10 => ⟨true, rfl, iteF ⟨⟨_, rfl⟩, (SB7.to S9).to S10, (hp7.same S9).same S10⟩⟩⟩⟩⟩
      rintro σ' H7 ⟨⟨u5, rfl⟩, SB7, hp7⟩
      dsimp only
      clear hr1 hc1 pos big SB6 hp6 S5 S6 hp5
      refine ⟨_, rfl, (by show 2 ≤ sizeLine; decide), fun la H8 S8 na8 ha8 => ⟨_, rfl, p, 2, 2 ^ 40 + 80, rfl, (hp7.same S8).less (by decide), by decide, by decide, fun d H9 d0 d1 hp9 S9 => ?_⟩⟩
      obtain ⟨m2, em, lm1, lm2⟩ : ∃ m : Int, atI [V.int 300, V.int 30000] d = some (V.int m) ∧ 1 ≤ m ∧ m ≤ 30000 := by
        have : d = 0 ∨ d = 1 := by omega
        rcases this with rfl | rfl
        · exact ⟨300, rfl, by decide, by decide⟩
        · exact ⟨30000, rfl, by decide, by decide⟩
      have nla : la ≠ p := by
        obtain ⟨_, _, _, e, _⟩ := hp7
        exact (ne_of_none e na8).symm
      refine ⟨la, _, d, _, rfl, rfl, SqL.of (S9 _ _ nla ha8), em, p, m2, 2 ^ 40 + 70, rfl, hp9.less (by decide), lm1, by omega, fun r H10 r0 r1 hp10 S10 => ⟨_, _, rfl, rfl, _, rfl, p, 30000, 2 ^ 40 + 60, rfl, hp10.less (by decide), by decide, by decide, fun c H11 c0 c1 hp11 S11 => ⟨_, _, rfl, rfl, _, _, rfl, ?_⟩⟩⟩
      have SB11 : SameB p H4 H11 := (((SB7.to S8).trans S9).trans S10).trans S11
      have hr1 : 1 ≤ 1 + r ∧ 1 + r ≤ 30000 := by omega
      have hc1 : 1 ≤ 1 + c ∧ 1 + c ≤ 30000 := by omega
      dsimp only
      generalize 1 + r = r at hr1
      generalize 1 + c = c at hc1
      have pos : 1 ≤ r * c := Int.le_trans (show (1 : Int) ≤ 1 * 1 by decide) (Int.mul_le_mul hr1.1 hc1.1 (by decide) (by omega))
      have big : r * c ≤ 30000 * 30000 := Int.mul_le_mul hr1.2 hc1.2 (by omega) (by decide)
      have cm : CMul r c := .inl ⟨by omega, by omega⟩
      refine ⟨_, rfl, _, rfl, _, _, rfl, rfl, cm, _, _, rfl, rfl, _, rfl, _, rfl, _, rfl, _, _, rfl, rfl, cm, p, r * c, 2 ^ 40 + 50, rfl, hp11.less (by decide), pos, by omega, fun s1 H12 s10 s11 hp12 S12 => ⟨_, rfl, _, rfl, _, rfl, _, _, rfl, rfl, cm, p, r * c, 2 ^ 40 + 40, rfl, hp12.less (by decide), pos, by omega, fun s2 H13 s20 s21 hp13 S13 => ?_⟩⟩
      refine ⟨by show 4 ≤ sizeLine; decide, fun lb H14 S14 nb14 hb14 => ?_⟩
      have nlb : lb ≠ p := by
        obtain ⟨_, _, _, e, _⟩ := hp13
        exact (ne_of_none e nb14).symm
      have SB14 : SameB p H4 H14 := ((SB11.trans S12).trans S13).to S14
      have hp14 := hp13.same S14
      refine ⟨lb, rfl, ⟨_, SqL.of hb14⟩, for_it (walk_list (xs := [V.int 0, V.int (r * c - 1), V.int s1, V.int s2])) (fun j σ' H' => (∃ u5 u6 u7, σ' = [some (.ref sc), some (.int (0 + (i : Nat))), some (.ref p), some (.int r), some (.int c), u5, u6, u7]) ∧ SameB p H14 H' ∧ PurseAt H' p (2 ^ 20 * (4 - j) + 100)) ⟨⟨_, _, _, rfl⟩, SameB.refl _ _, hp14.less (by decide)⟩ (fun j σ' H' _ q => SqL.of (q.2.1 _ _ nlb hb14)) ?_ ?_⟩
      · rintro j x σ' H15 H16 hj ⟨⟨u5, u6, u7, rfl⟩, SB15, hp15⟩ ⟨rfl, hx⟩
        obtain ⟨s, rfl, s0, sl⟩ : ∃ s : Int, x = .int s ∧ 0 ≤ s ∧ s < r * c := by
          match j, hj, hx with
          | 0, _, hx => exact ⟨0, (Option.some.inj hx).symm, by omega, by omega⟩
          | 1, _, hx => exact ⟨_, (Option.some.inj hx).symm, by omega, by omega⟩
          | 2, _, hx => exact ⟨_, (Option.some.inj hx).symm, s10, s11⟩
          | 3, _, hx => exact ⟨_, (Option.some.inj hx).symm, s20, s21⟩
        have j4 : j < 4 := hj
        have tb : Tbl3 r c s := ⟨hr1.1, hr1.2, hc1.1, hc1.2, s0, sl⟩
        have pw : CPow 10 29 := ⟨by decide, by decide, by decide⟩
        have e29 : (10 : Int) ^ (29 : Int).toNat = 10 ^ 29 := rfl
        refine ⟨_, rfl, 10, 29, rfl, rfl, pw, p, _, 2 ^ 20 * (4 - (j + 1)) + 1000, rfl, hp15.less (by omega), by decide +kernel, by decide +kernel, fun a H17 a0 a1 hp17 S17 => ⟨_, rfl, 10, 29, rfl, rfl, pw, p, _, 2 ^ 20 * (4 - (j + 1)) + 500, rfl, hp17.less (by omega), by decide +kernel, by decide +kernel, fun b H18 b0 b1 hp18 S18 => ⟨_, _, rfl, ?_⟩⟩⟩
        have SB18 := (SB15.trans S17).trans S18
        rw [e29] at a1 b1
        dsimp only
        have ia := itn_in tb a.toNat
        have tba : Tbl3 r c (itn r c a.toNat s) := ⟨hr1.1, hr1.2, hc1.1, hc1.2, ia.1, ia.2⟩
        refine ⟨_, rfl, _, rfl, _, rfl, r, c, s, rfl, tb, fun H19 S19 => ⟨true, rfl, iteF ⟨_, rfl, _, rfl, _, rfl, r, c, s, rfl, tb, fun H20 S20 => ⟨true, rfl, iteF ?_⟩⟩⟩⟩
        dsimp only [tNext]
        refine ⟨_, rfl, _, rfl, _, rfl, _, rfl, _, rfl, _, rfl, r, c, s, a, rfl, tb, by omega, by omega, fun H21 S21 => ⟨_, rfl, r, c, _, b, rfl, tba, by omega, by omega, fun H22 S22 => ?_⟩⟩
        refine ⟨_, rfl, _, rfl, _, rfl, _, rfl, _, rfl, _, _, rfl, rfl, r, c, s, a + b, rfl, tb, by omega, by omega, fun H23 S23 => ⟨rfl, _, rfl, ifF ?_ ?_⟩⟩
        · rw [itn_sum r c a b s a0 b0, decide_eq_true rfl]
          rfl
        dsimp only [tNext]
        refine ⟨_, rfl, _, rfl, _, rfl, _, rfl, _, _, rfl, rfl, .inr ⟨by decide, by decide⟩, r, c, s, a * 2, rfl, tb, by omega, by omega, fun H24 S24 => ⟨_, rfl, _, rfl, _, rfl, _, rfl, _, rfl, _, rfl, r, c, s, a, rfl, tb, by omega, by omega, fun H25 S25 => ⟨_, rfl, r, c, _, a, rfl, tba, by omega, by omega, fun H26 S26 => ⟨rfl, _, rfl, ifF ?_ ?_⟩⟩⟩⟩
        · rw [itn_dbl r c a s a0, decide_eq_true rfl]
          rfl
        have SX := ((((((((S19.trans S20).trans S21).trans S22).trans S23).trans S24).trans S25).trans S26))
        exact ⟨⟨_, _, _, rfl⟩, SB18.to SX, (hp18.less (by omega)).same SX⟩
      · rintro σ' H15 ⟨⟨u5, u6, u7, rfl⟩, SB15, hp15⟩
        exact ⟨⟨_, _, _, _, _, _, _, rfl⟩, back (SB14.trans SB15)⟩
    · rintro σ' H2 ⟨⟨u1, u2, u3, u4, u5, u6, u7, rfl⟩, S2⟩
      exact q H2
end
end E3

set_option Elab.async false
set_option linter.all false
set_option maxRecDepth 100000
/-! law_k71: how turned is called -/
namespace E3
open PySem PySem.Spec PyProof.Rows L2
section
variable {K : PySem.W.Frag} {f : Addr} {fd : FuncData}
theorem bd4 (F : FunD K "turned" "turned" (defArgs sTurned) (defBody sTurned) (defScope sTurned) [.int 1] [] f fd) : Binds K fd ["rows", "columns", "place", "times"] [] := by
  obtain ⟨ds, h1, h2⟩ := F.binds1 (ps := ["rows", "columns", "place", "times"]) 4 1 (by simp) rfl fun T kV doc pm an cdv ct us its h1 h2 => match us, its, h1, h2 with
    | [_, _, _, _], [_], _, _ => ⟨_, rfl, rfl⟩
  cases h1
  exact h2
theorem bd3 (F : FunD K "turned" "turned" (defArgs sTurned) (defBody sTurned) (defScope sTurned) [.int 1] [] f fd) : ∃ ds, Vals [V.int 1] ds ∧ Binds K fd ["rows", "columns", "place", "times"] ds :=
  F.binds1 (ps := ["rows", "columns", "place", "times"]) 3 0 (by simp) rfl fun T kV doc pm an cdv ct us its h1 h2 => match us, its, h1, h2 with
    | [_, _, _], [_], _, _ => ⟨_, rfl, rfl⟩
end
end E3

set_option Elab.async false
set_option linter.all false
set_option maxRecDepth 100000
set_option maxHeartbeats 1000000
/-! A head by facts: one Bool of the law's own, and the defs, with defaults. -/
namespace Hb
open PySem PySem.Spec PyProof.Rows L2 He
abbrev AlC : Type := Bool × List FnW
def obsC (ex : PySem.W.Frag → Bool) (fn : List DefD) (K : PySem.W.Frag) : AlC := (ex K && fn.all fun d => d.ok K, fn.map fun d => fnW K d.at_)
def valC (fn : List DefD) : AlC := (true, fn.map DefD.val)
def SaysC (ex : PySem.W.Frag → Bool) (fn : List DefD) (K : PySem.W.Frag) : Prop := obsC ex fn K = valC fn
def lookC (n : Nat) (ex : PySem.W.Frag → Bool) (fn : List DefD) (g : Addr → Option Obj) : AlC := obsC ex fn (frG g (asD g n))
def hookC (n : Nat) (ex : PySem.W.Frag → Bool) (fn : List DefD) : PySem.W.Hook where
  α := AlC
  obs := fun s => lookC n ex fn s.heap.get?
  val := fun _ => valC fn
  says := fun _ h => ∃ K : PySem.W.Frag, K.In h ∧ SaysC ex fn K
  of := fun _ _ e => ⟨_, frG_in, e⟩
  keeps := fun _ _ _ ⟨K, hK, c⟩ k => ⟨K, PySem.W.Frag.In.keeps hK k, c⟩
theorem lookC_eq {n : Nat} {ex : PySem.W.Frag → Bool} {fn : List DefD} {g : Addr → Option Obj} {s : Shared} (h : ∀ a, g a = s.heap.get? a) : lookC n ex fn g = (hookC n ex fn).obs s := by
  have e : g = s.heap.get? := funext h
  rw [e] <;> rfl
/-- a def of the text, by its statement -/
def dD (at_ : Str × Option Str) (name qual : Str) (st : Stmt) (dfl : List Dv := []) : DefD := { at_ := at_, name := name, qual := qual, params := defArgs st, body := defBody st, scope := defScope st, dfl := dfl }
section
variable {ex : PySem.W.Frag → Bool} {fn : List DefD} {K : PySem.W.Frag}
theorem SaysC.bool (c : SaysC ex fn K) : ex K = true := (ba (show (ex K && fn.all fun d => d.ok K) = true from congrArg (fun z : AlC => z.1) c)).1
theorem SaysC.def_ (c : SaysC ex fn K) (i : Nat) {d : DefD} (h : fn[i]? = some d := by rfl) : ∃ fd, FunD K d.name d.qual d.params d.body d.scope (d.dvs K) (d.kws K) (fAd K d.at_) fd := by
  have c2 := (ba (show (ex K && fn.all fun d => d.ok K) = true from congrArg (fun z : AlC => z.1) c)).2
  have e : fn.map (fun d => fnW K d.at_) = fn.map DefD.val := congrArg (fun z : AlC => z.2) c
  have e2 : (fn.map fun d => fnW K d.at_)[i]? = (fn.map DefD.val)[i]? := by rw [e]
  rw [List.getElem?_map, List.getElem?_map, h] at e2
  exact DefD.funD (Option.some.inj e2) (List.all_eq_true.mp c2 d (List.mem_of_getElem? h))
theorem SaysC.fun_ (c : SaysC ex fn K) (i : Nat) {at_ : Str × Option Str} {name qual : Str} {st : Stmt} (h : fn[i]? = some (dD at_ name qual st) := by rfl) : ∃ fd, L2.Fun K name qual st (fAd K at_) fd :=
  let ⟨fd, F⟩ := c.def_ i h
  ⟨fd, FunD.plain F⟩
end
end Hb

set_option Elab.async false
set_option linter.all false
set_option maxRecDepth 100000
set_option maxHeartbeats 1000000
/-! what the top left: each def with its promise -/
namespace E3
open PySem PySem.Spec PyProof.Rows L2 He Hb
open C8 (Cal Mak Met InsC)
def fnR : List DefD := [dD ("is_whole", none) "is_whole" "is_whole" sWhole,
  dD ("is_count", none) "is_count" "is_count" sCount,
  dD ("turned", none) "turned" "turned" sTurned [.int 1],
  dD ("ring_length", none) "ring_length" "ring_length" sRingLen,
  dD ("check_lengths", none) "check_lengths" "check_lengths" sChkL,
  dD ("check_place", none) "check_place" "check_place" sChkP,
  dD ("order", none) "order" "order" sOrder,
  dD ("units", none) "units" "units" sUnits,
  dD ("factors", none) "factors" "factors" sFactors,
  dD ("power", none) "power" "power" sPower,
  dD ("_law_purse", none) "_law_purse" "_law_purse" sPurse,
  dD ("_law_mixed", none) "_law_mixed" "_law_mixed" sMixed,
  dD ("_law_draw", none) "_law_draw" "_law_draw" sDraw,
  dD ("_law_next", none) "_law_next" "_law_next" sNext,
  dD ("_law_spot_right", none) "_law_spot_right" "_law_spot_right" sSpot,
  dD ("_law_primes", none) "_law_primes" "_law_primes" sPrimes,
  dD ("_law_ring_right", none) "_law_ring_right" "_law_ring_right" sRingR,
  dD ("law", none) "law" "law" sLaw]
def faR : List Fa := [.glo "is_whole", .glo "is_count", .glo "turned", .glo "ring_length", .glo "check_lengths", .glo "check_place", .glo "order", .glo "units", .glo "factors", .glo "power", .glo "_law_purse", .glo "_law_mixed", .glo "_law_draw", .glo "_law_next", .glo "_law_spot_right", .glo "_law_primes", .glo "_law_ring_right", .glo "law", .free "isinstance", .free "int", .free "bool", .free "sorted", .free "sum", .free "max", .free "min", .free "range", .free "len", .free "set"]
def bsR (K : PySem.W.Frag) : List Bool := [bltB K "gcd" "math.gcd", bltB K "lcm" "math.lcm"]
def exR (K : PySem.W.Frag) : Bool := (faR.all fun f => f.ok K) && (bsR K).all id
section
variable {P : Program} {w : World} {K : PySem.W.Frag} {mg : Str → Option Value} {base : Heap}
theorem cal_of {x : Str} {f : Addr} {fd : FuncData} {ps : List Str} {k : Nat} {sp : Sp} (kp : PySem.W.keepIn K (.ref f) = true) (g : mg x = some (.ref f)) (b : Binds K fd ps []) (O : FnOk P w K mg base CX0 k f fd ps sp) : Cal P w K mg base k x sp [] := ⟨f, fd, ps, [], O, g, kp, b, .nil⟩
end
theorem facts {P : Program} {w : World} {K : PySem.W.Frag} {h : Heap} {mg : Str → Option Value} {fl : Addr} (X : K.In h) (G : h.Ns mainGlobals mg) (hfa : mg "law" = some (.ref fl)) (c : SaysC exR fnR K) :
    ∃ fd : FuncData, (∀ (s : Shared) (u : Value), BindsTo s fd ⟨[u], []⟩ [("_law_script", u)]) ∧ ∀ base : Heap, K.In base → base.Ns mainGlobals mg → FnOk P w K mg base CX0 6 fl fd ["_law_script"] (spLaw K) := by
  have cb := ba (show ((faR.all fun f => f.ok K) && (bsR K).all id) = true from c.bool)
  have ca := cb.1
  have cc := cb.2
  obtain ⟨d_is_whole, F_is_whole⟩ := c.fun_ 0 (at_ := ("is_whole", none)) (name := "is_whole") (qual := "is_whole") (st := sWhole) rfl
  have g_is_whole : mg "is_whole" = some (.ref (ga K "is_whole")) := glo_ok X G (fa_ok ca 0 (f := .glo "is_whole") rfl)
  have b_is_whole := F_is_whole.binds (ps := ["value"]) fun _ _ _ _ _ _ us hl => match us, hl with | [_], _ => rfl
  obtain ⟨d_is_count, F_is_count⟩ := c.fun_ 1 (at_ := ("is_count", none)) (name := "is_count") (qual := "is_count") (st := sCount) rfl
  have g_is_count : mg "is_count" = some (.ref (ga K "is_count")) := glo_ok X G (fa_ok ca 1 (f := .glo "is_count") rfl)
  have b_is_count := F_is_count.binds (ps := ["value"]) fun _ _ _ _ _ _ us hl => match us, hl with | [_], _ => rfl
  obtain ⟨d_turned, F_turned⟩ := c.def_ 2 (d := dD ("turned", none) "turned" "turned" sTurned [.int 1]) rfl
  have g_turned : mg "turned" = some (.ref (ga K "turned")) := glo_ok X G (fa_ok ca 2 (f := .glo "turned") rfl)
  obtain ⟨d_ring_length, F_ring_length⟩ := c.fun_ 3 (at_ := ("ring_length", none)) (name := "ring_length") (qual := "ring_length") (st := sRingLen) rfl
  have g_ring_length : mg "ring_length" = some (.ref (ga K "ring_length")) := glo_ok X G (fa_ok ca 3 (f := .glo "ring_length") rfl)
  have b_ring_length := F_ring_length.binds (ps := ["rows", "columns", "place"]) fun _ _ _ _ _ _ us hl => match us, hl with | [_, _, _], _ => rfl
  obtain ⟨d_check_lengths, F_check_lengths⟩ := c.fun_ 4 (at_ := ("check_lengths", none)) (name := "check_lengths") (qual := "check_lengths") (st := sChkL) rfl
  have g_check_lengths : mg "check_lengths" = some (.ref (ga K "check_lengths")) := glo_ok X G (fa_ok ca 4 (f := .glo "check_lengths") rfl)
  have b_check_lengths := F_check_lengths.binds (ps := ["rows", "columns"]) fun _ _ _ _ _ _ us hl => match us, hl with | [_, _], _ => rfl
  obtain ⟨d_check_place, F_check_place⟩ := c.fun_ 5 (at_ := ("check_place", none)) (name := "check_place") (qual := "check_place") (st := sChkP) rfl
  have g_check_place : mg "check_place" = some (.ref (ga K "check_place")) := glo_ok X G (fa_ok ca 5 (f := .glo "check_place") rfl)
  have b_check_place := F_check_place.binds (ps := ["rows", "columns", "place"]) fun _ _ _ _ _ _ us hl => match us, hl with | [_, _, _], _ => rfl
  obtain ⟨d_order, F_order⟩ := c.fun_ 6 (at_ := ("order", none)) (name := "order") (qual := "order") (st := sOrder) rfl
  have g_order : mg "order" = some (.ref (ga K "order")) := glo_ok X G (fa_ok ca 6 (f := .glo "order") rfl)
  have b_order := F_order.binds (ps := ["base", "prime", "exponent"]) fun _ _ _ _ _ _ us hl => match us, hl with | [_, _, _], _ => rfl
  obtain ⟨d_units, F_units⟩ := c.fun_ 7 (at_ := ("units", none)) (name := "units") (qual := "units") (st := sUnits) rfl
  have g_units : mg "units" = some (.ref (ga K "units")) := glo_ok X G (fa_ok ca 7 (f := .glo "units") rfl)
  have b_units := F_units.binds (ps := ["prime", "exponent"]) fun _ _ _ _ _ _ us hl => match us, hl with | [_, _], _ => rfl
  obtain ⟨d_factors, F_factors⟩ := c.fun_ 8 (at_ := ("factors", none)) (name := "factors") (qual := "factors") (st := sFactors) rfl
  have g_factors : mg "factors" = some (.ref (ga K "factors")) := glo_ok X G (fa_ok ca 8 (f := .glo "factors") rfl)
  have b_factors := F_factors.binds (ps := ["value"]) fun _ _ _ _ _ _ us hl => match us, hl with | [_], _ => rfl
  obtain ⟨d_power, F_power⟩ := c.fun_ 9 (at_ := ("power", none)) (name := "power") (qual := "power") (st := sPower) rfl
  have g_power : mg "power" = some (.ref (ga K "power")) := glo_ok X G (fa_ok ca 9 (f := .glo "power") rfl)
  have b_power := F_power.binds (ps := ["base", "exponent", "modulus"]) fun _ _ _ _ _ _ us hl => match us, hl with | [_, _, _], _ => rfl
  obtain ⟨d__law_purse, F__law_purse⟩ := c.fun_ 10 (at_ := ("_law_purse", none)) (name := "_law_purse") (qual := "_law_purse") (st := sPurse) rfl
  have g__law_purse : mg "_law_purse" = some (.ref (ga K "_law_purse")) := glo_ok X G (fa_ok ca 10 (f := .glo "_law_purse") rfl)
  have b__law_purse := F__law_purse.binds (ps := ["_law_script", "_law_at"]) fun _ _ _ _ _ _ us hl => match us, hl with | [_, _], _ => rfl
  obtain ⟨d__law_mixed, F__law_mixed⟩ := c.fun_ 11 (at_ := ("_law_mixed", none)) (name := "_law_mixed") (qual := "_law_mixed") (st := sMixed) rfl
  have g__law_mixed : mg "_law_mixed" = some (.ref (ga K "_law_mixed")) := glo_ok X G (fa_ok ca 11 (f := .glo "_law_mixed") rfl)
  have b__law_mixed := F__law_mixed.binds (ps := ["_law_seed", "_law_step"]) fun _ _ _ _ _ _ us hl => match us, hl with | [_, _], _ => rfl
  obtain ⟨d__law_draw, F__law_draw⟩ := c.fun_ 12 (at_ := ("_law_draw", none)) (name := "_law_draw") (qual := "_law_draw") (st := sDraw) rfl
  have g__law_draw : mg "_law_draw" = some (.ref (ga K "_law_draw")) := glo_ok X G (fa_ok ca 12 (f := .glo "_law_draw") rfl)
  have b__law_draw := F__law_draw.binds (ps := ["_law_purse_here", "_law_many"]) fun _ _ _ _ _ _ us hl => match us, hl with | [_, _], _ => rfl
  obtain ⟨d__law_next, F__law_next⟩ := c.fun_ 13 (at_ := ("_law_next", none)) (name := "_law_next") (qual := "_law_next") (st := sNext) rfl
  have g__law_next : mg "_law_next" = some (.ref (ga K "_law_next")) := glo_ok X G (fa_ok ca 13 (f := .glo "_law_next") rfl)
  have b__law_next := F__law_next.binds (ps := ["_law_high", "_law_wide", "_law_spot"]) fun _ _ _ _ _ _ us hl => match us, hl with | [_, _, _], _ => rfl
  obtain ⟨d__law_spot_right, F__law_spot_right⟩ := c.fun_ 14 (at_ := ("_law_spot_right", none)) (name := "_law_spot_right") (qual := "_law_spot_right") (st := sSpot) rfl
  have g__law_spot_right : mg "_law_spot_right" = some (.ref (ga K "_law_spot_right")) := glo_ok X G (fa_ok ca 14 (f := .glo "_law_spot_right") rfl)
  have b__law_spot_right := F__law_spot_right.binds (ps := ["_law_high", "_law_wide", "_law_spot"]) fun _ _ _ _ _ _ us hl => match us, hl with | [_, _, _], _ => rfl
  obtain ⟨d__law_primes, F__law_primes⟩ := c.fun_ 15 (at_ := ("_law_primes", none)) (name := "_law_primes") (qual := "_law_primes") (st := sPrimes) rfl
  have g__law_primes : mg "_law_primes" = some (.ref (ga K "_law_primes")) := glo_ok X G (fa_ok ca 15 (f := .glo "_law_primes") rfl)
  have b__law_primes := F__law_primes.binds (ps := ["_law_many"]) fun _ _ _ _ _ _ us hl => match us, hl with | [_], _ => rfl
  obtain ⟨d__law_ring_right, F__law_ring_right⟩ := c.fun_ 16 (at_ := ("_law_ring_right", none)) (name := "_law_ring_right") (qual := "_law_ring_right") (st := sRingR) rfl
  have g__law_ring_right : mg "_law_ring_right" = some (.ref (ga K "_law_ring_right")) := glo_ok X G (fa_ok ca 16 (f := .glo "_law_ring_right") rfl)
  have b__law_ring_right := F__law_ring_right.binds (ps := ["_law_high", "_law_wide", "_law_spot"]) fun _ _ _ _ _ _ us hl => match us, hl with | [_, _, _], _ => rfl
  obtain ⟨d_law, F_law⟩ := c.fun_ 17 (at_ := ("law", none)) (name := "law") (qual := "law") (st := sLaw) rfl
  have g_law : mg "law" = some (.ref (ga K "law")) := glo_ok X G (fa_ok ca 17 (f := .glo "law") rfl)
  have b_law := F_law.binds (ps := ["_law_script"]) fun _ _ _ _ _ _ us hl => match us, hl with | [_], _ => rfl
  have z_isinstance : mg "isinstance" = none := free_ok X G (fa_ok ca 18 (f := .free "isinstance") rfl)
  have z_int : mg "int" = none := free_ok X G (fa_ok ca 19 (f := .free "int") rfl)
  have z_bool : mg "bool" = none := free_ok X G (fa_ok ca 20 (f := .free "bool") rfl)
  have z_sorted : mg "sorted" = none := free_ok X G (fa_ok ca 21 (f := .free "sorted") rfl)
  have z_sum : mg "sum" = none := free_ok X G (fa_ok ca 22 (f := .free "sum") rfl)
  have z_max : mg "max" = none := free_ok X G (fa_ok ca 23 (f := .free "max") rfl)
  have z_min : mg "min" = none := free_ok X G (fa_ok ca 24 (f := .free "min") rfl)
  have z_range : mg "range" = none := free_ok X G (fa_ok ca 25 (f := .free "range") rfl)
  have z_len : mg "len" = none := free_ok X G (fa_ok ca 26 (f := .free "len") rfl)
  have z_set : mg "set" = none := free_ok X G (fa_ok ca 27 (f := .free "set") rfl)
  have hgcd : mg "gcd" = some (.builtin "math.gcd") := bltB_ok X G (bool_ok cc 0 rfl)
  have hlcm : mg "lcm" = some (.builtin "math.lcm") := bltB_ok X G (bool_ok cc 1 rfl)
  have e := hfa.symm.trans g_law
  cases e
  refine ⟨d_law, fun s u => bindsA (ps := ["_law_script"]) F_law (fun _ _ _ _ _ _ us hl => match us, hl with | [_], _ => rfl) s [u] rfl, fun base _ _ => ?_⟩
  have B4 : Bt4 mg := ⟨z_sum, z_max, z_range, z_len⟩
  have B5 : Bt5 mg := ⟨z_isinstance, z_int, z_bool, z_sorted⟩
  have Wh : Cal P w K mg base 1 "is_whole" spWh1 [] := cal_of F_is_whole.kp g_is_whole b_is_whole (ok_whole1 F_is_whole B5)
  have Cn : Cal P w K mg base 2 "is_count" spCnt1 [] := cal_of F_is_count.kp g_is_count b_is_count (ok_count1 F_is_count Wh)
  have Cl : Cal P w K mg base 2 "check_lengths" spChkL [] := cal_of F_check_lengths.kp g_check_lengths b_check_lengths (ok_chkL F_check_lengths Wh)
  have Cp : Cal P w K mg base 3 "check_place" spChkP [] := cal_of F_check_place.kp g_check_place b_check_place (ok_chkP F_check_place Cl Cn)
  have Pw : Cal P w K mg base 1 "power" spPower [] := cal_of F_power.kp g_power b_power (ok_power F_power)
  have U : Cal P w K mg base 1 "units" spUnits [] := cal_of F_units.kp g_units b_units (ok_units F_units B4)
  have Fa : Cal P w K mg base 1 "factors" spFactors [] := cal_of F_factors.kp g_factors b_factors (ok_factors F_factors)
  have Or_ : Cal P w K mg base 2 "order" spOrder [] := cal_of F_order.kp g_order b_order (ok_order F_order U Fa Pw)
  have FR := (ok_ringLen (P := P) (w := w) (base := base) F_ring_length hgcd hlcm Cp Fa Or_).imp fun vs H Q E z => toL z
  have FT := (ok_turned (P := P) (w := w) (base := base) F_turned Cp Cn Pw).imp fun vs H Q E z => toT z
  have T : Cal P w K mg base 4 "turned" spTurned [] := cal_of F_turned.kp g_turned (bd4 F_turned) FT
  have T1 : Cal P w K mg base 4 "turned" spTurned [.int 1] := by
    obtain ⟨ds, h1, h2⟩ := bd3 F_turned
    exact ⟨_, d_turned, _, ds, FT, g_turned, F_turned.kp, h2, h1⟩
  have R : Cal P w K mg base 4 "ring_length" spRingL [] := cal_of F_ring_length.kp g_ring_length b_ring_length FR
  have Pu : Cal P w K mg base 1 "_law_purse" (spPurse K) [] := cal_of F__law_purse.kp g__law_purse b__law_purse (ok_purse F__law_purse B4)
  have Mi : Cal P w K mg base 1 "_law_mixed" spMixed [] := cal_of F__law_mixed.kp g__law_mixed b__law_mixed (ok_mixed F__law_mixed)
  have D : Cal P w K mg base 2 "_law_draw" spDraw [] := cal_of F__law_draw.kp g__law_draw b__law_draw (ok_draw F__law_draw B4 Mi)
  have Nx : Cal P w K mg base 1 "_law_next" spNext [] := cal_of F__law_next.kp g__law_next b__law_next (ok_next F__law_next)
  have Sp_ : Cal P w K mg base 5 "_law_spot_right" spSpot [] := cal_of F__law_spot_right.kp g__law_spot_right b__law_spot_right (ok_spot F__law_spot_right B4 4 (by decide) Nx T T1)
  have Pm : Cal P w K mg base 1 "_law_primes" spPrimes [] := cal_of F__law_primes.kp g__law_primes b__law_primes (ok_primes F__law_primes B4)
  have Rr : Cal P w K mg base 5 "_law_ring_right" spRingR [] := cal_of F__law_ring_right.kp g__law_ring_right b__law_ring_right (ok_ringR F__law_ring_right B4 B5 z_min z_set Nx Pm R T)
  exact ok_law F_law B4 Pu D Sp_ Rr T
end E3

set_option Elab.async false
set_option linter.all false
set_option maxRecDepth 100000
set_option maxHeartbeats 0
/-! the head: the top's run, and the law -/
namespace E3
open PySem PySem.Spec PyProof.Rows L2 He
abbrev R : PySem.W.OpenRow := PySem.W.OpenLaw.row PySem.Challenge.rw_cellplaces_k71_whole_turns
abbrev hk : PySem.W.Hook := Hb.hookC 5 exR fnR
def ob (s : PySem.W.SharedT) : Hb.AlC := Hb.lookC 5 exR fnR (HandSHeadRun.getT s)
theorem ob_eq (s : PySem.W.SharedT) : ob s = hk.obs s.abs := Hb.lookC_eq (HandSHeadRun.getT_eq s)
def loose0 : List PySem.Str := ["CellError", "InvalidNumber", "is_whole", "is_count", "turned", "ring_length", "check_lengths", "check_place", "order", "units", "factors", "power"]
def loose1 : List PySem.Str := ["_law_purse", "_law_mixed", "_law_draw", "_law_next", "_law_spot_right", "_law_primes", "_law_ring_right"]
def looseAll : List PySem.Str := loose0 ++ loose1
theorem run (w : World) : HandSHeadRun.RunEqI R (PySem.W.view R.prog [0, 24]) hk ob 6000 looseAll w := by
  unfold HandSHeadRun.RunEqI; kernel_rfl
end E3
open PySem PySem.W PySem.Calls PyProof.Rows
set_option maxRecDepth 100000 in
set_option maxHeartbeats 0 in
theorem PySem.Challenge.cw_cellplaces_k71_whole_turns_holds : PySem.Challenge.rw_cellplaces_k71_whole_turns.Holds := by
  w_on; o_law
  refine HandSHeadRun.head_imp (r := OpenLaw.row PySem.Challenge.rw_cellplaces_k71_whole_turns) (q := view (OpenLaw.row PySem.Challenge.rw_cellplaces_k71_whole_turns).prog [0, 24]) (H := E3.hk) (ob := E3.ob) (M := 6000) (loose := E3.looseAll) (d := HandSHeadRun.topDef (OpenLaw.row PySem.Challenge.rw_cellplaces_k71_whole_turns).prog 24) (kwd := []) E3.ob_eq
    E3.run (by kernel_rfl) (by kernel_rfl) (by kernel_rfl) (by rfl) (by first | assumption | decide +kernel) (by decide +kernel) ⟨rfl, rfl, rfl, rfl, rfl, by decide +kernel⟩ ?hw ?hc
  case hw => w_witness2
  case hc =>
    refine L2.walk_ofE (l := PySem.Challenge.rw_cellplaces_k71_whole_turns) (n := 63) (k := 6) (x := "_law_script") (CX := L2.CX0) rfl (by decide) (by kernel_rfl) ⟨rfl, by decide, by decide⟩ ?F (fun _ _ _ _ z => z)
    intro w mg fa h Y G hmg0
    obtain ⟨K, KX, c⟩ := Y
    have hmg : mg ("law" : PySem.Str) = some (.ref fa) := by
      have e : (HandSHeadRun.topDef (OpenLaw.row PySem.Challenge.rw_cellplaces_k71_whole_turns).prog 24).name = ("law" : PySem.Str) := by kernel_rfl
      rw [← e]
      exact hmg0
    obtain ⟨fd, hb, hF⟩ := E3.facts (P := (PySem.Challenge.rw_cellplaces_k71_whole_turns).prog) (w := w) KX G hmg c
    exact ⟨K, fd, E3.spLaw K, KX, hb, fun H a ns hl _ hS => ⟨a, ns, rfl, hS, hl, fun _ => rfl⟩, hF⟩
