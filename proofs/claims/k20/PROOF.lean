import PyProof.Rows.All
import Wide.All
import OpenK.AllK
import Wide.FinOn
import Lean
import PyProof.EqAt
import PyProof.EqKinds
import PyProof.TupleCall
import PySem.SetTable
import PyProof.SetScanFacts
import PyProof.TupleKey
import PyProof.SetKind
import PyProof.IsRules
import PyProof.SetRoads
import PyProof.InstSpecial
import PyProof.Rows.SetFrom
import KE.KSortTup
import KE.KDictList
import PyProof.CompFree
import PyProof.StrWalks
import PyProof.EnumMake
import PyProof.ConsumeWalk
import PyProof.ListRange
import PyProof.NeKinds
import PyProof.ZipIter
import KE.KTryDeep
import OpenK.KOwn
import PyProof.RulesAs
import PyProof.NsDelKeeps
import PyProof.ExcArgsOwn
import PyProof.ExcAttrAll.ValueError
import KE.KIsAll
import OpenK.KNot
import PyProof.IsiH_list
import PyProof.Rows.FStr
import KE.KDictOf
import PyProof.AttrMissHeap
import PyProof.DictIter
import PyProof.DictWalks
import PyProof.Rows.DictUnroll
import KE.KRevIter
import PyProof.CollectIter
import PyProof.TupleOfGen
import KE.KSortKey
import PyProof.FactsAll.NoneType_1
import PyProof.CompUse
import PyProof.Rows.FStrParts
import PySem.Challenge.RW_treewatch_k20_changes
set_option linter.all false
namespace TB
open PySem PySem.SetTable
noncomputable def adv (mask : Nat) (p : Probe) : Probe :=
  if p.more > 0 then { p with j := p.j + 1, more := p.more - 1 } else
  { p with j := (leap mask p.i p.perturb).1, more := runEnd mask (leap mask p.i p.perturb).1 - (leap mask p.i p.perturb).1, i := (leap mask p.i p.perturb).1, perturb := (leap mask p.i p.perturb).2 }
theorem advance_eq (t : SetTable) (p : Probe) : advance t p = adv t.mask p := rfl
noncomputable def lvP (mask : Nat) (x : Nat × Nat) : Probe := { j := x.1, more := runEnd mask x.1 - x.1, i := x.1, perturb := x.2, dummy := none }
noncomputable def st (mask : Nat) (h : Int) : Probe := lvP mask (bits h % (mask + 1), bits h)
noncomputable def nth (mask : Nat) : Probe → Nat → Probe
  | p, 0 => p
  | p, n + 1 => nth mask (adv mask p) n
theorem nth_add (mask : Nat) : ∀ (a b : Nat) (p : Probe), nth mask p (a + b) = nth mask (nth mask p a) b
  | 0, b, p => by rw [Nat.zero_add]; rfl
  | a + 1, b, p => by
    rw [show a + 1 + b = (a + b) + 1 by omega]
    show nth mask (adv mask p) (a + b) = nth mask (nth mask (adv mask p) a) b
    exact nth_add mask a b _
theorem nth_succ (mask : Nat) (p : Probe) (n : Nat) : nth mask p (n + 1) = adv mask (nth mask p n) := by
  rw [nth_add]; rfl
noncomputable def pos (mask : Nat) (h : Int) (n : Nat) : Nat := (nth mask (st mask h) n).j
theorem run_steps (mask : Nat) : ∀ (m : Nat) (p : Probe), p.more = m → nth mask p m = { p with j := p.j + m, more := 0 }
  | 0, p, h => by
    show p = _
    cases p; simp at h; subst h; rfl
  | m + 1, p, h => by
    show nth mask (adv mask p) m = _
    have e : adv mask p = { p with j := p.j + 1, more := m } := by
      unfold adv
      rw [if_pos (by omega), h]; rfl
    rw [e, run_steps mask m _ rfl]
    simp only [Probe.mk.injEq, and_true]
    omega
theorem run_part (mask : Nat) : ∀ (m : Nat) (p : Probe), m ≤ p.more → nth mask p m = { p with j := p.j + m, more := p.more - m }
  | 0, p, h => by
    show p = _
    cases p; rfl
  | m + 1, p, h => by
    show nth mask (adv mask p) m = _
    have e : adv mask p = { p with j := p.j + 1, more := p.more - 1 } := by
      unfold adv
      rw [if_pos (by omega)]
    rw [e, run_part mask m _ (by show m ≤ p.more - 1; omega)]
    simp only [Probe.mk.injEq, and_true]
    omega
theorem leap_steps (mask : Nat) (x : Nat × Nat) : nth mask (lvP mask x) (runEnd mask x.1 - x.1 + 1) = lvP mask (leap mask x.1 x.2) := by
  have e := run_steps mask (runEnd mask x.1 - x.1) (lvP mask x) rfl
  rw [nth_succ, e]
  unfold adv
  rw [if_neg (by simp)]
  rfl
theorem run_le (mask i : Nat) : runEnd mask i - i ≤ 9 := by unfold runEnd; split <;> omega
noncomputable def lv (mask : Nat) : Nat → Nat × Nat → Nat × Nat
  | 0, x => x
  | k + 1, x => lv mask k (leap mask x.1 x.2)
theorem lv_add (mask : Nat) : ∀ (a b : Nat) (x : Nat × Nat), lv mask (a + b) x = lv mask b (lv mask a x)
  | 0, b, x => by rw [Nat.zero_add]; rfl
  | a + 1, b, x => by
    rw [show a + 1 + b = (a + b) + 1 by omega]
    exact lv_add mask a b _
theorem lv_steps (mask : Nat) : ∀ (k : Nat) (x : Nat × Nat), ∃ n, n ≤ 10 * k ∧ nth mask (lvP mask x) n = lvP mask (lv mask k x)
  | 0, x => ⟨0, by omega, rfl⟩
  | k + 1, x => by
    obtain ⟨n, hn, e⟩ := lv_steps mask k (leap mask x.1 x.2)
    refine ⟨(runEnd mask x.1 - x.1 + 1) + n, ?_, ?_⟩
    · have := run_le mask x.1; omega
    · rw [nth_add, leap_steps]; exact e
theorem lv_perturb (mask : Nat) : ∀ (k : Nat) (x : Nat × Nat), (lv mask k x).2 = x.2 / 32 ^ k
  | 0, x => by simp [lv]
  | k + 1, x => by
    show (lv mask k (leap mask x.1 x.2)).2 = _
    rw [lv_perturb mask k]
    show x.2 / 32 / 32 ^ k = _
    rw [Nat.div_div_eq_div_mul, Nat.pow_succ, Nat.mul_comm 32]
theorem lv_lt (mask : Nat) : ∀ (k : Nat) (x : Nat × Nat), x.1 ≤ mask → (lv mask k x).1 ≤ mask
  | 0, x, h => h
  | k + 1, x, h => lv_lt mask k _ (by show (x.1 * 5 + 1 + x.2 / 32) % (mask + 1) ≤ mask; have := Nat.mod_lt (x.1 * 5 + 1 + x.2 / 32) (show 0 < mask + 1 by omega); omega)
theorem bits_lt (h : Int) : bits h < 2 ^ 64 := by
  unfold bits
  have h1 := Int.emod_nonneg h (b := 2 ^ 64) (by decide)
  have h2 := Int.emod_lt_of_pos h (b := 2 ^ 64) (by decide)
  omega
noncomputable def orbit (mask : Nat) : Nat → Nat → Nat
  | 0, i => i
  | k + 1, i => orbit mask k ((i * 5 + 1) % (mask + 1))
theorem lv_orbit (mask : Nat) : ∀ (k i : Nat), lv mask k (i, 0) = (orbit mask k i, 0)
  | 0, i => rfl
  | k + 1, i => by
    show lv mask k ((i * 5 + 1 + 0 / 32) % (mask + 1), 0 / 32) = _
    simp only [Nat.zero_div, Nat.add_zero]
    exact lv_orbit mask k _
noncomputable def Cyc (mask : Nat) : Prop := ∀ i, i ≤ mask → ∀ j, j ≤ mask → ∃ k, k ≤ mask ∧ orbit mask k i = j
theorem orbit_add (mask : Nat) : ∀ (a b i : Nat), orbit mask (a + b) i = orbit mask b (orbit mask a i)
  | 0, b, i => by rw [Nat.zero_add]; rfl
  | a + 1, b, i => by
    rw [show a + 1 + b = (a + b) + 1 by omega]
    exact orbit_add mask a b _
noncomputable def ring (mask : Nat) : Nat → Nat → List Nat
  | 0, _ => []
  | n + 1, i => i :: ring mask n ((i * 5 + 1) % (mask + 1))
theorem mem_ring {mask j : Nat} : ∀ {n i : Nat}, j ∈ ring mask n i → ∃ k, k < n ∧ orbit mask k i = j
  | 0, _, h => by simp [ring] at h
  | n + 1, i, h => by
    rcases List.mem_cons.mp h with e | e
    · exact ⟨0, by omega, e.symm⟩
    · obtain ⟨k, hk, e'⟩ := mem_ring e
      exact ⟨k + 1, by omega, e'⟩
theorem cyc_ring {mask : Nat} (h0 : orbit mask (mask + 1) 0 = 0) (h : (List.range (mask + 1)).all (fun j => (ring mask (mask + 1) 0).contains j) = true) : Cyc mask := by
  have all : ∀ j, j ≤ mask → ∃ k, k ≤ mask ∧ orbit mask k 0 = j := fun j hj => by
    rw [List.all_eq_true] at h
    have h1 := h j (List.mem_range.mpr (by omega))
    rw [List.contains_iff_mem] at h1
    obtain ⟨k, hk, e⟩ := mem_ring h1
    exact ⟨k, by omega, e⟩
  intro i hi j hj
  obtain ⟨a, ha, ea⟩ := all i hi
  obtain ⟨b, hb, eb⟩ := all j hj
  by_cases hab : a ≤ b
  · refine ⟨b - a, by omega, ?_⟩
    rw [← ea, ← orbit_add, show a + (b - a) = b by omega]; exact eb
  · refine ⟨mask + 1 - a + b, by omega, ?_⟩
    rw [← ea, ← orbit_add, show a + (mask + 1 - a + b) = (mask + 1) + b by omega, orbit_add, h0]; exact eb
noncomputable def Mk (m : Nat) : Prop := m = 7 ∨ m = 15 ∨ m = 31 ∨ m = 63 ∨ m = 127 ∨ m = 255
theorem Mk.cyc {m : Nat} (h : Mk m) : Cyc m := by
  rcases h with e | e | e | e | e | e <;> subst e <;> exact cyc_ring (by decide +kernel) (by decide +kernel)
theorem Mk.ge {m : Nat} (h : Mk m) : 7 ≤ m ∧ m ≤ 255 := by rcases h with e | e | e | e | e | e <;> subst e <;> omega
noncomputable def mkB (m : Nat) : Bool := m == 7 || m == 15 || m == 31 || m == 63 || m == 127 || m == 255
theorem mk_all : (List.range 256).all (fun w => mkB (sizeAbove w - 1) && decide (w ≤ sizeAbove w - 1) && decide (sizeAbove w ≤ 256)) = true := by decide +kernel
theorem mk_above {w : Nat} (h : w ≤ 255) : Mk (sizeAbove w - 1) ∧ w ≤ sizeAbove w - 1 ∧ sizeAbove w ≤ 256 := by
  have h1 := (List.all_eq_true.mp mk_all) w (List.mem_range.mpr (by omega))
  rw [Bool.and_eq_true, Bool.and_eq_true, decide_eq_true_eq, decide_eq_true_eq] at h1
  refine ⟨?_, h1.1.2, h1.2⟩
  have h2 := h1.1.1
  unfold mkB at h2
  rw [Bool.or_eq_true, Bool.or_eq_true, Bool.or_eq_true, Bool.or_eq_true, Bool.or_eq_true, beq_iff_eq, beq_iff_eq, beq_iff_eq, beq_iff_eq, beq_iff_eq, beq_iff_eq] at h2
  rcases h2 with ((((h | h) | h) | h) | h) | h
  · exact .inl h
  · exact .inr (.inl h)
  · exact .inr (.inr (.inl h))
  · exact .inr (.inr (.inr (.inl h)))
  · exact .inr (.inr (.inr (.inr (.inl h))))
  · exact .inr (.inr (.inr (.inr (.inr h))))
theorem cover {mask : Nat} (c : Cyc mask) (h : Int) {j : Nat} (hj : j ≤ mask) : ∃ n, n < 10 * turns mask ∧ pos mask h n = j := by
  have h0 : (lv mask 13 (bits h % (mask + 1), bits h)).2 = 0 := by
    rw [lv_perturb]
    have := bits_lt h
    exact Nat.div_eq_of_lt (by have e : (32 : Nat) ^ 13 = 36893488147419103232 := by decide
                               rw [e]; show bits h < _; omega)
  have h1 : (lv mask 13 (bits h % (mask + 1), bits h)).1 ≤ mask := lv_lt mask _ _ (by have := Nat.mod_lt (bits h) (show 0 < mask + 1 by omega); show bits h % (mask + 1) ≤ mask; omega)
  obtain ⟨k, hk, e⟩ := c _ h1 j hj
  obtain ⟨n, hn, en⟩ := lv_steps mask (13 + k) (bits h % (mask + 1), bits h)
  refine ⟨n, by unfold turns; omega, ?_⟩
  unfold pos st
  rw [en, lv_add]
  have ex : lv mask 13 (bits h % (mask + 1), bits h) = ((lv mask 13 (bits h % (mask + 1), bits h)).1, 0) := by rw [← h0]
  rw [ex, lv_orbit]
  exact e
noncomputable def InT (mask : Nat) (p : Probe) : Prop := p.j + p.more ≤ mask
theorem runEnd_le {mask i : Nat} (h : i ≤ mask) : runEnd mask i ≤ mask ∧ i ≤ runEnd mask i := by unfold runEnd; split <;> omega
theorem inT_adv {mask : Nat} {p : Probe} (h : InT mask p) : InT mask (adv mask p) := by
  unfold adv InT at *
  split
  · show p.j + 1 + (p.more - 1) ≤ mask; omega
  · have hl : (leap mask p.i p.perturb).1 ≤ mask := by
      show (p.i * 5 + 1 + p.perturb / 32) % (mask + 1) ≤ mask
      have := Nat.mod_lt (p.i * 5 + 1 + p.perturb / 32) (show 0 < mask + 1 by omega)
      omega
    have := runEnd_le hl
    show (leap mask p.i p.perturb).1 + (runEnd mask (leap mask p.i p.perturb).1 - (leap mask p.i p.perturb).1) ≤ mask
    omega
theorem inT_nth {mask : Nat} : ∀ (n : Nat) {p : Probe}, InT mask p → InT mask (nth mask p n)
  | 0, _, h => h
  | n + 1, _, h => inT_nth n (inT_adv h)
theorem inT_lv {mask : Nat} {x : Nat × Nat} (h : x.1 ≤ mask) : InT mask (lvP mask x) := by
  have := runEnd_le h
  show x.1 + (runEnd mask x.1 - x.1) ≤ mask
  omega
theorem pos_le (mask : Nat) (h : Int) (n : Nat) : pos mask h n ≤ mask := by
  have : InT mask (nth mask (st mask h) n) := inT_nth n (inT_lv (by have := Nat.mod_lt (bits h) (show 0 < mask + 1 by omega); show bits h % (mask + 1) ≤ mask; omega))
  unfold InT at this
  unfold pos
  omega
theorem first_of (E : Nat → Prop) : ∀ N, E N → ∃ n, n ≤ N ∧ E n ∧ ∀ m, m < n → ¬ E m
  | N, h => by
    induction N using Nat.strongRecOn with
    | _ N ih =>
      by_cases z : ∃ m, m < N ∧ E m
      · obtain ⟨m, hm, e⟩ := z
        obtain ⟨n, hn, e', no⟩ := ih m hm e
        exact ⟨n, by omega, e', no⟩
      · exact ⟨N, Nat.le_refl _, h, fun m hm e => z ⟨m, hm, e⟩⟩
theorem dummy_nth (mask : Nat) : ∀ (n : Nat) (p : Probe), (nth mask p n).dummy = p.dummy
  | 0, _ => rfl
  | n + 1, p => by
    show (nth mask (adv mask p) n).dummy = _
    rw [dummy_nth mask n]
    unfold adv
    split <;> rfl
theorem go_empty (t : SetTable) (ha : Nat → Int) (h : Int) : ∀ (n : Nat) (p : Probe) (fuel : Nat), n < fuel →
    (∀ m, m < n → ∃ i, t.slot (nth t.mask p m).j = .live i ∧ (ha i == h) = false) → t.slot (nth t.mask p n).j = .empty →
    probe.go t ha h fuel p = some (.empty (nth t.mask p n).j p.dummy)
  | 0, p, fuel + 1, _, _, e => by
    have e' : t.slot p.j = .empty := e
    unfold probe.go
    rw [e']; rfl
  | n + 1, p, fuel + 1, hf, hl, e => by
    obtain ⟨i, h1, h2⟩ := hl 0 (by omega)
    have h1' : t.slot p.j = .live i := h1
    unfold probe.go
    rw [h1']
    simp only [h2, Bool.false_eq_true, if_false, advance_eq]
    rw [go_empty t ha h n (adv t.mask p) fuel (by omega) (fun m hm => hl (m + 1) (by omega)) e]
    congr 2
    exact dummy_nth t.mask 1 p
end TB
set_option linter.all false
namespace TB
open PySem PySem.SetTable
theorem below_go (xs : Array Nat) (j : Nat) (hs : ∀ a b, a < b → b < xs.size → xs.getD a 0 < xs.getD b 0) : ∀ (fuel lo hi : Nat), hi - lo ≤ fuel → lo ≤ hi → hi ≤ xs.size →
    (∀ k, k < lo → xs.getD k 0 < j) → (∀ k, hi ≤ k → k < xs.size → j ≤ xs.getD k 0) →
    below.go xs j fuel lo hi ≤ xs.size ∧ (∀ k, k < below.go xs j fuel lo hi → xs.getD k 0 < j) ∧ (∀ k, below.go xs j fuel lo hi ≤ k → k < xs.size → j ≤ xs.getD k 0)
  | 0, lo, hi, hf, hl, hh, h1, h2 => by
    have e : lo = hi := by omega
    subst e
    exact ⟨hh, h1, h2⟩
  | fuel + 1, lo, hi, hf, hl, hh, h1, h2 => by
    unfold below.go
    by_cases hlt : lo < hi
    · rw [if_pos hlt]
      have hm : (lo + hi) / 2 < hi := by omega
      have hm2 : lo ≤ (lo + hi) / 2 := by omega
      have eg : xs.getD ((lo + hi) / 2) j = xs.getD ((lo + hi) / 2) 0 := by
        rw [Array.getD_eq_getD_getElem?, Array.getD_eq_getD_getElem?, Array.getElem?_eq_getElem (by omega)]; rfl
      simp only [eg]
      split
      · rename_i hc
        refine below_go xs j hs fuel _ hi (by omega) (by omega) hh (fun k hk => ?_) h2
        by_cases e : k = (lo + hi) / 2
        · rw [e]; exact hc
        · have := hs k ((lo + hi) / 2) (by omega) (by omega); omega
      · rename_i hc
        refine below_go xs j hs fuel lo _ (by omega) (by omega) (by omega) h1 (fun k hk hk2 => ?_)
        by_cases e : k = (lo + hi) / 2
        · rw [e]; omega
        · have := hs ((lo + hi) / 2) k (by omega) hk2; omega
    · rw [if_neg hlt]
      have e : lo = hi := by omega
      subst e
      exact ⟨hh, h1, h2⟩
noncomputable def Up (l : List Nat) : Prop := l.Pairwise (· < ·)
theorem up_get {l : List Nat} (h : Up l) {a b : Nat} (hab : a < b) (hb : b < l.length) : l.toArray.getD a 0 < l.toArray.getD b 0 := by
  unfold Up at h
  have := List.pairwise_iff_getElem.mp h a b (by omega) hb hab
  simp [Array.getD_eq_getD_getElem?, show a < l.length by omega, hb]
  exact this
theorem below_spec {l : List Nat} (h : Up l) (j : Nat) : below l.toArray j ≤ l.length ∧ (∀ k (hk : k < l.length), k < below l.toArray j → l[k] < j) ∧ (∀ k (hk : k < l.length), below l.toArray j ≤ k → j ≤ l[k]) := by
  have := below_go l.toArray j (fun a b hab hb => up_get h hab (by simpa using hb)) l.toArray.size 0 l.toArray.size (by omega) (by omega) (Nat.le_refl _) (by intro k hk; omega) (by intro k hk hk2; omega)
  unfold below
  refine ⟨by simpa using this.1, fun k hk h1 => ?_, fun k hk h1 => ?_⟩
  · have := this.2.1 k h1
    simpa [Array.getD_eq_getD_getElem?, hk] using this
  · have := this.2.2 k h1 (by simpa using hk)
    simpa [Array.getD_eq_getD_getElem?, hk] using this
structure Tb (t : SetTable) (l : List Nat) : Prop where
  pl : t.place = l.toArray
  nd : t.dummies = #[]
  up : Up l
  le : ∀ j ∈ l, j ≤ t.mask
theorem has_nil (j : Nat) : has #[] j = false := by
  unfold has; simp
theorem slot_in {t : SetTable} {l : List Nat} (T : Tb t l) {i j : Nat} (h : l[i]? = some j) : t.slot j = .live i := by
  obtain ⟨hi, e⟩ := List.getElem?_eq_some_iff.mp h
  obtain ⟨b1, b2, b3⟩ := below_spec T.up j
  have eb : below l.toArray j = i := by
    rcases Nat.lt_trichotomy (below l.toArray j) i with z | z | z
    · have := b3 (below l.toArray j) (by omega) (Nat.le_refl _)
      have := List.pairwise_iff_getElem.mp T.up (below l.toArray j) i (by omega) hi z
      omega
    · exact z
    · have := b2 i hi z; omega
  unfold SetTable.slot
  rw [T.pl, eb]
  simp [h]
theorem slot_out {t : SetTable} {l : List Nat} (T : Tb t l) {j : Nat} (h : j ∉ l) : t.slot j = .empty := by
  unfold SetTable.slot
  rw [T.pl, T.nd, has_nil]
  have : ¬ (l.toArray[below l.toArray j]? == some j) = true := by
    intro z
    have z' : l[below l.toArray j]? = some j := by simpa using z
    exact h (List.mem_of_getElem? z')
  simp only [this, Bool.false_eq_true, if_false]
theorem up_insert {l : List Nat} (h : Up l) {j : Nat} (hj : j ∉ l) : Up (l.take (below l.toArray j) ++ j :: l.drop (below l.toArray j)) := by
  obtain ⟨b1, b2, b3⟩ := below_spec h j
  unfold Up
  rw [List.pairwise_append, List.pairwise_cons]
  have hsub1 : (l.take (below l.toArray j)).Pairwise (· < ·) := List.Pairwise.sublist (List.take_sublist _ _) h
  have hsub2 : (l.drop (below l.toArray j)).Pairwise (· < ·) := List.Pairwise.sublist (List.drop_sublist _ _) h
  have h1 : ∀ a ∈ l.take (below l.toArray j), a < j := by
    intro a ha
    obtain ⟨k, hk, e⟩ := List.mem_iff_getElem.mp ha
    rw [List.length_take] at hk
    rw [List.getElem_take] at e
    rw [← e]
    exact b2 k (by omega) (by omega)
  have h2 : ∀ a ∈ l.drop (below l.toArray j), j < a := by
    intro a ha
    have hne : a ≠ j := fun e => hj (e ▸ List.mem_of_mem_drop ha)
    obtain ⟨k, hk, e⟩ := List.mem_iff_getElem.mp ha
    rw [List.length_drop] at hk
    rw [List.getElem_drop] at e
    have := b3 (below l.toArray j + k) (by omega) (by omega)
    omega
  refine ⟨hsub1, ⟨h2, hsub2⟩, fun a ha b hb => ?_⟩
  rcases List.mem_cons.mp hb with rfl | hb
  · exact h1 a ha
  · have := h1 a ha; have := h2 b hb; omega
theorem tb_put {t : SetTable} {l : List Nat} (T : Tb t l) {j : Nat} (hj : j ∉ l) (hm : j ≤ t.mask) : Tb (t.put j).1 (l.take (below l.toArray j) ++ j :: l.drop (below l.toArray j)) ∧ (t.put j).2 = below l.toArray j ∧ (t.put j).1.mask = t.mask := by
  refine ⟨⟨?_, ?_, up_insert T.up hj, ?_⟩, ?_, rfl⟩
  · show insertAt t.place (below t.place j) j = _
    rw [T.pl]
    apply Array.toList_inj.mp
    rw [SetTable.toList_insertAt]
  · show (if has t.dummies j = true then _ else t.dummies) = #[]
    rw [T.nd, has_nil]; rfl
  · intro a ha
    rcases List.mem_append.mp ha with h | h
    · exact T.le a (List.mem_of_mem_take h)
    · rcases List.mem_cons.mp h with rfl | h
      · exact hm
      · exact T.le a (List.mem_of_mem_drop h)
  · show below t.place j = _
    rw [T.pl]
noncomputable def Paths (mask : Nat) (zs : List (Nat × Int)) : Prop := ∀ z ∈ zs, ∃ n, pos mask z.2 n = z.1 ∧ ∀ m, m < n → pos mask z.2 m ∈ zs.map (·.1)
end TB
set_option linter.all false
namespace TB
open PySem PySem.SetTable
noncomputable def emp (owner : Array (Option Nat)) (j : Nat) : Bool := (owner.getD j (some 0)).isNone
theorem free_spec (mask : Nat) (owner : Array (Option Nat)) : ∀ (fuel : Nat) (x : Nat × Nat), x.1 ≤ mask → (∃ k, k < fuel ∧ emp owner (lv mask k x).1 = true) →
    ∃ j n, layClean.free mask owner fuel x.1 x.2 = some j ∧ (nth mask (lvP mask x) n).j = j ∧ emp owner j = true ∧ ∀ m, m < n → emp owner (nth mask (lvP mask x) m).j = false
  | 0, x, _, h => by obtain ⟨k, hk, _⟩ := h; omega
  | fuel + 1, x, hx, h => by
    unfold layClean.free
    have hr := runEnd_le hx
    have hpart : ∀ m, m ≤ runEnd mask x.1 - x.1 → (nth mask (lvP mask x) m).j = x.1 + m := fun m hm => by
      rw [run_part mask m (lvP mask x) hm]; rfl
    cases e : (List.range (runEnd mask x.1 + 1 - x.1)).find? (fun k => (owner.getD (x.1 + k) (some 0)).isNone) with
    | some k =>
      rw [List.find?_range_eq_some] at e
      obtain ⟨e1, e2, e3⟩ := e
      have hk : k ≤ runEnd mask x.1 - x.1 := by have := List.mem_range.mp e2; omega
      refine ⟨x.1 + k, k, rfl, hpart k hk, e1, fun m hm => ?_⟩
      rw [hpart m (by omega)]
      have := e3 m hm
      simpa [emp] using this
    | none =>
      rw [List.find?_range_eq_none] at e
      obtain ⟨k, hk, h1⟩ := h
      have hk0 : k ≠ 0 := by
        rintro rfl
        have := e 0 (by omega)
        have h1' : (owner.getD x.1 (some 0)).isNone = true := h1
        rw [Nat.add_zero, h1'] at this
        simp at this
      obtain ⟨k', rfl⟩ : ∃ k', k = k' + 1 := ⟨k - 1, by omega⟩
      have hl : (leap mask x.1 x.2).1 ≤ mask := lv_lt mask 1 x hx
      obtain ⟨j, n, f1, f2, f3, f4⟩ := free_spec mask owner fuel (leap mask x.1 x.2) hl ⟨k', by omega, h1⟩
      refine ⟨j, (runEnd mask x.1 - x.1 + 1) + n, f1, ?_, f3, fun m hm => ?_⟩
      · rw [nth_add, leap_steps]; exact f2
      · by_cases hm2 : m ≤ runEnd mask x.1 - x.1
        · rw [hpart m hm2]
          have := e m (by omega)
          simpa [emp] using this
        · obtain ⟨m', rfl⟩ : ∃ m', m = (runEnd mask x.1 - x.1 + 1) + m' := ⟨m - (runEnd mask x.1 - x.1 + 1), by omega⟩
          rw [nth_add, leap_steps]
          exact f4 m' (by omega)
theorem free_ok {mask : Nat} (c : Cyc mask) (owner : Array (Option Nat)) (h : Int) {j₀ : Nat} (hj : j₀ ≤ mask) (he : emp owner j₀ = true) :
    ∃ j n, layClean.free mask owner (turns mask) (bits h % (mask + 1)) (bits h) = some j ∧ pos mask h n = j ∧ emp owner j = true ∧ ∀ m, m < n → emp owner (pos mask h m) = false := by
  have h0 : (lv mask 13 (bits h % (mask + 1), bits h)).2 = 0 := by
    rw [lv_perturb]
    have := bits_lt h
    exact Nat.div_eq_of_lt (by have e : (32 : Nat) ^ 13 = 36893488147419103232 := by decide
                               rw [e]; show bits h < _; omega)
  have hx : bits h % (mask + 1) ≤ mask := by have := Nat.mod_lt (bits h) (show 0 < mask + 1 by omega); omega
  have h1 : (lv mask 13 (bits h % (mask + 1), bits h)).1 ≤ mask := lv_lt mask _ _ hx
  obtain ⟨k, hk, e⟩ := c _ h1 j₀ hj
  refine free_spec mask owner (turns mask) (bits h % (mask + 1), bits h) hx ⟨13 + k, by unfold turns; omega, ?_⟩
  rw [lv_add]
  have ex : lv mask 13 (bits h % (mask + 1), bits h) = ((lv mask 13 (bits h % (mask + 1), bits h)).1, 0) := by rw [← h0]
  rw [ex, lv_orbit, e]
  exact he
noncomputable def live (mask : Nat) (owner : Array (Option Nat)) : List (Nat × Nat) := (List.range (mask + 1)).filterMap fun j => (owner.getD j none).map (j, ·)
theorem filterMap_same {α β : Type} {f g : α → Option β} : ∀ {l : List α}, (∀ x ∈ l, g x = f x) → l.filterMap g = l.filterMap f
  | [], _ => rfl
  | x :: l, h => by
    have ih := filterMap_same (l := l) fun y hy => h y (List.mem_cons_of_mem _ hy)
    have hx := h x List.mem_cons_self
    cases e : f x with
    | none => rw [List.filterMap_cons_none e, List.filterMap_cons_none (hx.trans e), ih]
    | some b => rw [List.filterMap_cons_some e, List.filterMap_cons_some (hx.trans e), ih]
theorem filterMap_put {α β : Type} (f g : α → Option β) (a : α) (v : β) (hf : f a = none) (hg : g a = some v) (hne : ∀ x, x ≠ a → g x = f x) : ∀ (l : List α), l.Nodup → a ∈ l →
    (l.filterMap g).Perm (v :: l.filterMap f)
  | [], _, h => by simp at h
  | x :: l, hn, h => by
    obtain ⟨h1, h2⟩ := List.nodup_cons.mp hn
    by_cases e : x = a
    · subst e
      rw [List.filterMap_cons_some hg, List.filterMap_cons_none hf]
      have : l.filterMap g = l.filterMap f := filterMap_same fun y hy => hne y (fun e => h1 (e ▸ hy))
      rw [this]
    · have ha : a ∈ l := by
        rcases List.mem_cons.mp h with z | z
        · exact absurd z.symm e
        · exact z
      have ih := filterMap_put f g a v hf hg hne l h2 ha
      cases ef : f x with
      | none =>
        rw [List.filterMap_cons_none ef, List.filterMap_cons_none (by rw [hne x e, ef])]
        exact ih
      | some b =>
        rw [List.filterMap_cons_some ef, List.filterMap_cons_some (by rw [hne x e, ef])]
        exact (ih.cons b).trans (List.Perm.swap _ _ _)
structure Lay (mask : Nat) (owner : Array (Option Nat)) (hs : List Int) : Prop where
  size : owner.size = mask + 1
  perm : ((live mask owner).map (·.2)).Perm (List.range hs.length)
  path : ∀ j i, owner.getD j none = some i → ∃ h, hs[i]? = some h ∧ ∃ n, pos mask h n = j ∧ ∀ m, m < n → emp owner (pos mask h m) = false
theorem emp_iff {mask : Nat} {owner : Array (Option Nat)} (hs : owner.size = mask + 1) {j : Nat} (hj : j ≤ mask) : emp owner j = (owner.getD j none).isNone := by
  unfold emp
  rw [Array.getD_eq_getD_getElem?, Array.getD_eq_getD_getElem?, Array.getElem?_eq_getElem (by omega)]
  rfl
theorem lay_nil (mask : Nat) : Lay mask (Array.replicate (mask + 1) none) [] := by
  have e : ∀ j, (Array.replicate (mask + 1) (none : Option Nat)).getD j none = none := fun j => by
    rw [Array.getD_eq_getD_getElem?, Array.getElem?_replicate]
    split <;> rfl
  refine ⟨by simp, ?_, fun j i h => ?_⟩
  · have : live mask (Array.replicate (mask + 1) none) = [] := by
      unfold live
      rw [List.filterMap_eq_nil_iff]
      intro j _
      rw [e]; rfl
    rw [this]; simp
  · rw [e] at h; cases h
theorem lay_room {mask : Nat} {owner : Array (Option Nat)} {hs : List Int} (L : Lay mask owner hs) (hl : hs.length ≤ mask) : ∃ j, j ≤ mask ∧ emp owner j = true := by
  by_cases h : ∃ j, j ≤ mask ∧ emp owner j = true
  · exact h
  · exfalso
    have all : ∀ j, j ≤ mask → ∃ i, owner.getD j none = some i := fun j hj => by
      cases e : owner.getD j none with
      | some i => exact ⟨i, rfl⟩
      | none => exact (h ⟨j, hj, by rw [emp_iff L.size hj, e]; rfl⟩).elim
    have len : (live mask owner).length = mask + 1 := by
      have key : ∀ l : List Nat, (∀ j ∈ l, j ≤ mask) → (l.filterMap fun j => (owner.getD j none).map (j, ·)).length = l.length := by
        intro l
        induction l with
        | nil => intro _; rfl
        | cons x l ih =>
          intro hl
          obtain ⟨i, e⟩ := all x (hl x (by simp))
          rw [List.filterMap_cons_some (by rw [e]; rfl), List.length_cons, List.length_cons, ih fun j hj => hl j (by simp [hj])]
      unfold live
      rw [key _ (fun j hj => by have := List.mem_range.mp hj; omega), List.length_range]
    have := L.perm.length_eq
    rw [List.length_map, List.length_range, len] at this
    omega
theorem getD_set {owner : Array (Option Nat)} {j k : Nat} {v : Option Nat} (hj : j < owner.size) : (owner.setIfInBounds j v).getD k none = if k = j then v else owner.getD k none := by
  rw [Array.getD_eq_getD_getElem?, Array.getD_eq_getD_getElem?, Array.getElem?_setIfInBounds]
  by_cases e : j = k
  · subst e; simp [hj]
  · rw [if_neg e, if_neg (fun z => e z.symm)]
theorem emp_set {mask : Nat} {owner : Array (Option Nat)} {j k i : Nat} (hs : owner.size = mask + 1) (hj : j ≤ mask) (hk : k ≤ mask) (h : emp owner k = false) : emp (owner.setIfInBounds j (some i)) k = false := by
  rw [emp_iff (by simpa using hs) hk, getD_set (by omega)]
  rw [emp_iff hs hk] at h
  split
  · rfl
  · exact h
theorem lay_turn {mask : Nat} (c : Cyc mask) {owner : Array (Option Nat)} {hs : List Int} (L : Lay mask owner hs) (hl : hs.length ≤ mask) (h : Int) :
    ∃ j, layClean.free mask owner (turns mask) (bits h % (mask + 1)) (bits h) = some j ∧ Lay mask (owner.setIfInBounds j (some hs.length)) (hs ++ [h]) := by
  obtain ⟨j₀, hj₀, e₀⟩ := lay_room L hl
  obtain ⟨j, n, e1, e2, e3, e4⟩ := free_ok c owner h hj₀ e₀
  have hj : j ≤ mask := by rw [← e2]; exact pos_le mask h n
  have hjn : owner.getD j none = none := by
    rw [emp_iff L.size hj] at e3
    exact Option.isNone_iff_eq_none.mp e3
  refine ⟨j, e1, by simpa using L.size, ?_, fun k i hk => ?_⟩
  · have p := filterMap_put (fun k => (owner.getD k none).map (k, ·)) (fun k => ((owner.setIfInBounds j (some hs.length)).getD k none).map (k, ·)) j (j, hs.length) (by simp [hjn])
      (by show ((owner.setIfInBounds j (some hs.length)).getD j none).map (j, ·) = _; rw [getD_set (by rw [L.size]; omega), if_pos rfl]; rfl) (fun x hx => by show ((owner.setIfInBounds j (some hs.length)).getD x none).map (x, ·) = (owner.getD x none).map (x, ·); rw [getD_set (by rw [L.size]; omega), if_neg hx]) (List.range (mask + 1)) List.nodup_range (List.mem_range.mpr (by omega))
    have p2 : ((live mask (owner.setIfInBounds j (some hs.length))).map (·.2)).Perm (hs.length :: (live mask owner).map (·.2)) := p.map (·.2)
    rw [List.length_append, List.length_singleton, List.range_succ]
    exact p2.trans ((L.perm.cons _).trans (List.perm_append_singleton _ _).symm)
  · rw [getD_set (by rw [L.size]; omega)] at hk
    by_cases e : k = j
    · subst e
      rw [if_pos rfl] at hk
      cases hk
      exact ⟨h, by simp, n, e2, fun m hm => emp_set L.size hj (pos_le _ _ _) (e4 m hm)⟩
    · rw [if_neg e] at hk
      obtain ⟨h', a1, n', a2, a3⟩ := L.path k i hk
      have hi : i < hs.length := (List.getElem?_eq_some_iff.mp a1).1
      exact ⟨h', by rw [List.getElem?_append_left hi]; exact a1, n', a2, fun m hm => emp_set L.size hj (pos_le _ _ _) (a3 m hm)⟩
theorem layClean_ok {mask : Nat} (c : Cyc mask) (hashes : Array Int) (hl : hashes.size ≤ mask + 1) : ∃ owner, layClean mask hashes = some owner ∧ Lay mask owner hashes.toList := by
  have key : ∀ (r hs : List Int) (owner : Array (Option Nat)), Lay mask owner hs → hs.length + r.length ≤ mask + 1 →
      ∃ owner', r.foldl (fun acc h => do
        let (owner, k) ← acc
        let j ← layClean.free mask owner (turns mask) (bits h % (mask + 1)) (bits h)
        pure (owner.setIfInBounds j (some k), k + 1)) (some (owner, hs.length)) = some (owner', hs.length + r.length) ∧ Lay mask owner' (hs ++ r) := by
    intro r
    induction r with
    | nil => intro hs owner L _; exact ⟨owner, rfl, by simpa using L⟩
    | cons h r ih =>
      intro hs owner L hle
      rw [List.length_cons] at hle
      obtain ⟨j, e, L'⟩ := lay_turn c L (by omega) h
      obtain ⟨owner', e', L''⟩ := ih (hs ++ [h]) _ L' (by rw [List.length_append, List.length_singleton]; omega)
      refine ⟨owner', ?_, by rw [List.append_assoc] at L''; exact L''⟩
      rw [List.foldl_cons]
      have eb : (do
        let (owner, k) ← some (owner, hs.length)
        let j ← layClean.free mask owner (turns mask) (bits h % (mask + 1)) (bits h)
        pure (owner.setIfInBounds j (some k), k + 1)) = some (owner.setIfInBounds j (some hs.length), hs.length + 1) := by
        show (layClean.free mask owner (turns mask) (bits h % (mask + 1)) (bits h)).bind _ = _
        rw [e]; rfl
      rw [eb]
      rw [List.length_append, List.length_singleton] at e'
      rw [e', List.length_cons]
      congr 2
      omega
  obtain ⟨owner', e, L⟩ := key hashes.toList [] _ (lay_nil mask) (by simpa using hl)
  refine ⟨owner', ?_, by simpa using L⟩
  unfold layClean
  rw [← Array.foldl_toList]
  have e2 : (0 : Nat) = ([] : List Int).length := rfl
  rw [e2, e]
  rfl
theorem relaid_ok {t : SetTable} {hashes : Array Int} {wanted : Nat} (c : Cyc (sizeAbove wanted - 1)) (hl : hashes.size ≤ sizeAbove wanted - 1 + 1) :
    ∃ (t' : SetTable) (zs : List (Nat × Nat)), t.relaid hashes wanted = some (t', (zs.map (·.2)).toArray) ∧ t'.mask = sizeAbove wanted - 1 ∧ t'.led = t.led ∧ t'.plain = t.plain ∧
      Tb t' (zs.map (·.1)) ∧ (zs.map (·.2)).Perm (List.range hashes.size) ∧ Paths t'.mask (zs.map fun z => (z.1, hashes.getD z.2 0)) := by
  obtain ⟨owner, e, L⟩ := layClean_ok c hashes hl
  refine ⟨{ mask := sizeAbove wanted - 1, place := ((live (sizeAbove wanted - 1) owner).map (·.1)).toArray, dummies := #[], finger := t.finger, led := t.led, moves := t.movedTo (sizeAbove wanted - 1), plain := t.plain }, live (sizeAbove wanted - 1) owner, ?_, rfl, rfl, rfl, ⟨rfl, rfl, ?_, ?_⟩, ?_, ?_⟩
  · unfold relaid laid
    rw [e]; rfl
  · unfold Up live
    rw [List.map_filterMap]
    have e1 : ((List.range (sizeAbove wanted - 1 + 1)).filterMap fun j => ((owner.getD j none).map (j, ·)).map (·.1)) = (List.range (sizeAbove wanted - 1 + 1)).filter fun j => (owner.getD j none).isSome := by
      generalize List.range (sizeAbove wanted - 1 + 1) = l
      induction l with
      | nil => rfl
      | cons x l ih =>
        cases ex : owner.getD x none with
        | none => rw [List.filterMap_cons_none (by rw [ex]; rfl), List.filter_cons_of_neg (by simp [ex])]; exact ih
        | some i => rw [List.filterMap_cons_some (b := x) (by rw [ex]; rfl), List.filter_cons_of_pos (by simp [ex]), ih]
    rw [e1]
    exact List.Pairwise.sublist List.filter_sublist List.pairwise_lt_range
  · intro j hj
    obtain ⟨z, hz, rfl⟩ := List.mem_map.mp hj
    unfold live at hz
    obtain ⟨k, hk, e1⟩ := List.mem_filterMap.mp hz
    cases ex : owner.getD k none with
    | none => rw [ex] at e1; cases e1
    | some i =>
      rw [ex] at e1
      have e2 : (k, i) = z := Option.some.inj e1
      subst e2
      have := List.mem_range.mp hk
      show k ≤ sizeAbove wanted - 1
      omega
  · have := L.perm
    rw [Array.length_toList] at this
    exact this
  · intro y hy
    obtain ⟨z, hz, rfl⟩ := List.mem_map.mp hy
    have key : ∀ z : Nat × Nat, z ∈ live (sizeAbove wanted - 1) owner ↔ z.1 ≤ sizeAbove wanted - 1 ∧ owner.getD z.1 none = some z.2 := by
      intro z
      unfold live
      rw [List.mem_filterMap]
      constructor
      · rintro ⟨k, hk, e1⟩
        cases ex : owner.getD k none with
        | none => rw [ex] at e1; cases e1
        | some i =>
          rw [ex] at e1
          have e2 : (k, i) = z := Option.some.inj e1
          subst e2
          have := List.mem_range.mp hk
          exact ⟨by omega, ex⟩
      · rintro ⟨h1, h2⟩
        exact ⟨z.1, List.mem_range.mpr (by omega), by rw [h2]; rfl⟩
    obtain ⟨z1, z2⟩ := (key z).mp hz
    obtain ⟨h, a1, n, a2, a3⟩ := L.path _ _ z2
    have eh : hashes.getD z.2 0 = h := by
      have a1' : hashes[z.2]? = some h := by simpa using a1
      rw [Array.getD_eq_getD_getElem?, a1']; rfl
    refine ⟨n, by rw [eh]; exact a2, fun m hm => ?_⟩
    have := a3 m hm
    have hle := pos_le (sizeAbove wanted - 1) h m
    rw [emp_iff L.size hle] at this
    cases ex : owner.getD (pos (sizeAbove wanted - 1) h m) none with
    | none => rw [ex] at this; cases this
    | some i =>
      rw [List.map_map]
      show pos (sizeAbove wanted - 1) (hashes.getD z.2 0) m ∈ _
      rw [eh]
      exact List.mem_map.mpr ⟨(pos (sizeAbove wanted - 1) h m, i), (key _).mpr ⟨hle, ex⟩, rfl⟩
end TB
set_option linter.all false
namespace TB
open PySem PySem.SetTable
section
variable {prog : Program} {w : World} {K : Type} [DecidableEq K] {knd : KeyKind prog w K} {A : Around} {E : Value → Shared → Prop} {s : Shared}
end
end TB
set_option linter.all false
namespace TB
open PySem PySem.SetTable
section
variable {prog : Program} {w : World} {K : Type} [DecidableEq K] (knd : KeyKind prog w K)
variable {knd}
variable {A : Around} {E : Value → Shared → Prop} {s : Shared}
theorem fill_of {t : SetTable} {l : List Nat} (T : Tb t l) : t.fill = l.length := by
  unfold SetTable.fill
  rw [T.pl, T.nd]; simp
theorem fits_of {t : SetTable} {l : List Nat} (T : Tb t l) {n : Nat} (hn : l.length = n) (hf : n ≤ t.mask) : t.fits n = true := by
  unfold SetTable.fits
  rw [fill_of T, T.pl]
  simp [hn, hf]
end
end TB
set_option linter.all false
namespace TB
open PySem PySem.SetTable
theorem room_of : ∀ (n : Nat) (l : List Nat), (∀ j, j < n → j ∈ l) → n ≤ l.length
  | 0, _, _ => Nat.zero_le _
  | n + 1, l, h => by
    have hn := h n (by omega)
    have ih := room_of n (l.erase n) fun j hj => (List.mem_erase_of_ne (by omega)).mpr (h j (by omega))
    rw [List.length_erase_of_mem hn] at ih
    have : 0 < l.length := List.length_pos_of_mem hn
    omega
theorem free_place (n : Nat) (l : List Nat) (h : l.length ≤ n) : ∃ j, j ≤ n ∧ j ∉ l := by
  by_cases z : ∃ j, j ≤ n ∧ j ∉ l
  · exact z
  · exfalso
    have := room_of (n + 1) l fun j hj => by
      by_cases e : j ∈ l
      · exact e
      · exact (z ⟨j, by omega, e⟩).elim
    omega
section
variable {prog : Program} {w : World} {K : Type} [DecidableEq K] {knd : KeyKind prog w K} {A : Around} {E : Value → Shared → Prop} {s : Shared}
theorem stored {a : Addr} {o : Obj} {es : Array (Int × Value)} {ep : Nat} {t : SetTable} (ho : s.heap.get? a = some o) (hd : o.data = .set es ep t) (es' : Array (Int × Value)) (t' : SetTable) :
    (s.heap.update a (Obj.putSet es' t')).get? a = some { o with data := .set es' (ep + 1) t' } := by
  have := Heap.get?_update_self (Obj.putSet es' t') ho (by rw [putSet_of es' t' hd]; rfl)
  rw [putSet_of es' t' hd] at this; exact this
theorem line18 {n : Nat} (h : n ≤ 64) : n ≤ sizeLine := by rw [sizeLine_eq]; omega
end
end TB
set_option linter.all false
namespace TB
open PySem PySem.SetTable
section
variable {prog : Program} {w : World} {K : Type} [DecidableEq K] {knd : KeyKind prog w K} {A : Around} {R : Result → Shared → Prop} {I : Addr} {fp wr : List Addr} {G : Array GenState → Array GenState → Prop} {n : Nat} {P : Nat → Value → Prop} {St : Nat → Shared → Prop}
end
section
variable {prog : Program} {w : World} {K : Type} [DecidableEq K] {knd : KeyKind prog w K} {A : Around} {E : Value → Shared → Prop} {s : Shared}
end
end TB
set_option linter.all false
namespace TB
open PySem PySem.SetTable
theorem free_slot {t : SetTable} {l : List Nat} (T : Tb t l) (mk : Mk t.mask) (hl : l.length ≤ t.mask) (h : Int) : ∃ j, t.freeSlot h = some (j, false) ∧ j ∉ l ∧ j ≤ t.mask := by
  obtain ⟨j₀, hj₀, hj₀'⟩ := free_place t.mask l hl
  obtain ⟨n₀, hn₀, en₀⟩ := cover mk.cyc h hj₀
  obtain ⟨N, hNle, hN, hNno⟩ := first_of (fun m => pos t.mask h m ∉ l) n₀ (by rw [en₀]; exact hj₀')
  have hp := go_empty t (fun _ => h + 1) h N (st t.mask h) (10 * turns t.mask) (by omega) (fun m hm => by
    have hin : pos t.mask h m ∈ l := by
      by_cases z : pos t.mask h m ∈ l
      · exact z
      · exact (hNno m hm z).elim
    obtain ⟨i, hi, e⟩ := List.mem_iff_getElem.mp hin
    exact ⟨i, slot_in T (by show l[i]? = some (pos t.mask h m); rw [List.getElem?_eq_getElem hi, e]), by rw [beq_eq_false_iff_ne]; omega⟩) (slot_out T hN)
  refine ⟨pos t.mask h N, ?_, hN, pos_le _ _ _⟩
  unfold SetTable.freeSlot
  have hp' : t.probe (fun _ => h + 1) h (t.probeStart h) = some (.empty (pos t.mask h N) none) := hp
  rw [hp']
  rfl
theorem lay_new {t : SetTable} {l : List Nat} (T : Tb t l) (mk : Mk t.mask) (hl : l.length + 1 ≤ t.mask) (es : Array (Int × Value)) (hes : es.size = l.length) (h : Int) (x : Value) :
    ∃ p t' l', layNew t es h x = (insertAt es p (h, x), t', false, false) ∧ Tb t' l' ∧ l'.length = l.length + 1 ∧ t'.mask = t.mask ∧ t'.plain = t.plain ∧ t'.led = t.led := by
  obtain ⟨j, hf, hj, hjm⟩ := free_slot T mk (by omega) h
  obtain ⟨T1, hp1, hm1⟩ := tb_put T hj hjm
  have hlen : (l.take (below l.toArray j) ++ j :: l.drop (below l.toArray j)).length = l.length + 1 := by
    rw [List.length_append, List.length_cons, List.length_take, List.length_drop]
    have := (below_spec T.up j).1
    omega
  have hsz : (insertAt es (t.put j).2 (h, x)).size = l.length + 1 := by
    rw [← Array.length_toList, SetTable.toList_insertAt, List.length_append, List.length_cons, List.length_take, List.length_drop, Array.length_toList, hes, hp1]
    have := (below_spec T.up j).1
    omega
  have hfit : (t.put j).1.fits (insertAt es (t.put j).2 (h, x)).size = true := fits_of T1 (by rw [hlen, hsz]) (by rw [hsz, hm1]; exact hl)
  refine ⟨(t.put j).2, (t.put j).1, _, ?_, T1, hlen, hm1, rfl, rfl⟩
  unfold layNew
  rw [hf]
  show (insertAt es (t.put j).2 (h, x), (t.put j).1.orStandIn (insertAt es (t.put j).2 (h, x)).size, false, !((t.put j).1.fits (insertAt es (t.put j).2 (h, x)).size)) = _
  rw [hfit]
  unfold SetTable.orStandIn
  rw [if_pos hfit]
  rfl
theorem relay_all {t : SetTable} (es : Array (Int × Value)) (h0 : 0 < es.size) (h60 : es.size ≤ 60) :
    ∃ es' t' l', relayAll t es (grown es.size) = (es', t', false) ∧ es'.toList.Perm es.toList ∧ Tb t' l' ∧ l'.length = es.size ∧ Mk t'.mask ∧ es.size * 5 < t'.mask * 3 ∧ t'.plain = t.plain ∧ t'.led = t.led := by
  have hw : grown es.size = es.size * 4 := by unfold SetTable.grown; rw [if_neg (by omega)]
  obtain ⟨hmk, hle, h256⟩ := mk_above (w := es.size * 4) (by omega)
  rw [hw]
  obtain ⟨t', zs, e, hm, hled, hpl, T, hperm, _⟩ := relaid_ok (t := t) (hashes := es.map (·.1)) (wanted := es.size * 4) hmk.cyc (by rw [Array.size_map]; omega)
  rw [Array.size_map] at hperm
  have hlen : zs.length = es.size := by
    have := hperm.length_eq
    rw [List.length_map, List.length_range] at this
    exact this
  have hp : (((zs.map (·.2)).toArray).filterMap (fun i => es[i]?)).toList.Perm es.toList := by
    rw [Array.toList_filterMap]
    exact (hperm.filterMap _).trans (by rw [filterMap_getElem?_range])
  have hsz : (((zs.map (·.2)).toArray).filterMap (fun i => es[i]?)).size = es.size := by
    rw [← Array.length_toList, hp.length_eq, Array.length_toList]
  have hfit : t'.fits (((zs.map (·.2)).toArray).filterMap (fun i => es[i]?)).size = true := fits_of T (by rw [hsz, List.length_map, hlen]) (by rw [hsz, hm]; omega)
  have hcov : coversAll (zs.map (·.2)).toArray es.size = true := by
    unfold coversAll
    exact List.isPerm_iff.mpr hperm
  refine ⟨((zs.map (·.2)).toArray).filterMap (fun i => es[i]?), t', zs.map (·.1), ?_, hp, T, by rw [List.length_map, hlen], by rw [hm]; exact hmk, by rw [hm]; omega, hpl, hled⟩
  unfold relayAll
  rw [e]
  dsimp only
  rw [hcov, hfit]
  rfl
noncomputable def bt (w : World) : Bool := w.params.followText "set-order"
noncomputable def iEnt (tk : Int → Tok) (n : Int) : Int × Value := (hashInt n, .int n (tk n))
structure ISt (w : World) (es : Array (Int × Value)) (t : SetTable) (ns : List Int) : Prop where
  ent : ∃ tk, es.toList = ns.map (iEnt tk)
  nd : ns.Nodup
  tb : ∃ l, Tb t l ∧ l.length = ns.length
  mkm : Mk t.mask
  room : ns.length * 5 < t.mask * 3
  pl : t.plain = true
  led : bt w = false → t.led = true
noncomputable def IS (w : World) (h : Heap) (a : Addr) (ns : List Int) : Prop := ∃ o es ep t, h.get? a = some o ∧ o.ExactSet ∧ o.data = .set es ep t ∧ ISt w es t ns
theorem ISt.size {w : World} {es : Array (Int × Value)} {t : SetTable} {ns : List Int} (h : ISt w es t ns) : es.size = ns.length := by
  obtain ⟨tk, e⟩ := h.ent
  rw [← Array.length_toList, e, List.length_map]
theorem ISt.fits {w : World} {es : Array (Int × Value)} {t : SetTable} {ns : List Int} (h : ISt w es t ns) : t.fits es.size = true := by
  obtain ⟨l, T, hl⟩ := h.tb
  have := h.mkm.ge
  have := h.room
  exact fits_of T (by rw [hl, h.size]) (by rw [h.size]; omega)
theorem ISt.elems {prog : Program} {w : World} {es : Array (Int × Value)} {t : SetTable} {ns : List Int} (h : ISt w es t ns) : ElemsOf (intKind prog w) es.toList := by
  obtain ⟨tk, e⟩ := h.ent
  rw [e]
  intro z hz
  obtain ⟨n, hn, rfl⟩ := List.mem_map.mp hz
  exact ⟨⟨n, intKind_is _ _ _ _, rfl⟩, rfl⟩
theorem ents_perm {es' : List (Int × Value)} : ∀ {l : List (Int × Value)}, es'.Perm l → ∀ {tk : Int → Tok} {ns : List Int}, l = ns.map (iEnt tk) → ∃ ns' : List Int, ns'.Perm ns ∧ es' = ns'.map (iEnt tk) := by
  intro l p tk ns e
  have hall : ∀ z ∈ es', ∃ n, z = iEnt tk n := fun z hz => by
    have := p.mem_iff.mp hz
    rw [e] at this
    obtain ⟨n, hn, e⟩ := List.mem_map.mp this
    exact ⟨n, e.symm⟩
  obtain ⟨ns', e'⟩ : ∃ ns' : List Int, es' = ns'.map (iEnt tk) := by
    clear p e
    induction es' with
    | nil => exact ⟨[], rfl⟩
    | cons z es' ih =>
      obtain ⟨n, hn⟩ := hall z List.mem_cons_self
      obtain ⟨ns', e⟩ := ih fun y hy => hall y (List.mem_cons_of_mem _ hy)
      exact ⟨n :: ns', by rw [hn, e]; rfl⟩
  refine ⟨ns', ?_, e'⟩
  have hv : ∀ m : List Int, (m.map (iEnt tk)).map (fun z => match z.2 with | .int n _ => n | _ => 0) = m := fun m => by
    rw [List.map_map]
    induction m with
    | nil => rfl
    | cons x m ih => rw [List.map_cons, ih]; rfl
  have := p.map (fun z => match z.2 with | .int n _ => n | _ => 0)
  rw [e', e, hv, hv] at this
  exact this
theorem ents_new {tk : Int → Tok} {ns : List Int} {n : Int} {t : Tok} (hn : n ∉ ns) : ∃ tk', (iEnt tk' n = (hashInt n, Value.int n t)) ∧ ns.map (iEnt tk') = ns.map (iEnt tk) := by
  refine ⟨fun m => if m = n then t else tk m, by show (hashInt n, Value.int n (if n = n then t else tk n)) = _; rw [if_pos rfl], ?_⟩
  apply List.map_congr_left
  intro m hm
  show (hashInt m, Value.int m (if m = n then t else tk m)) = _
  rw [if_neg (by rintro rfl; exact hn hm)]
  rfl
section
variable {prog : Program} {w : World} {A : Around} {E : Value → Shared → Prop} {s : Shared}
theorem add_int {a : Addr} {ns : List Int} {n : Int} {t0 : Tok} {Q : Bool → Shared → Prop} (hS : IS w s.heap a ns) (hroom : ns.length < 60)
    (h : ∀ r h' ns', Heap.SameBut a s.heap h' → IS w h' a ns' → ((n ∈ ns ∧ ns' = ns) ∨ (n ∉ ns ∧ ns'.Perm (n :: ns))) → Q r { s with heap := h' }) :
    wpAny (model prog w) A (setAddHashed a (.int n t0) (hashInt n)) Q E s := by
  obtain ⟨o, es, ep, t, ho, hex, hd, S⟩ := id hS
  have hsz := S.size
  have hf := S.fits
  have hel : ElemsOf (intKind prog w) es.toList := S.elems
  have hkey : (intKind prog w).is n (.int n t0) = true := intKind_is _ _ _ _
  have hb : es.size < scanBound := by unfold scanBound; omega
  have hge := S.mkm.ge
  have hrm := S.room
  unfold setAddHashed setAddHashedIn
  refine wpAny_holding (wpAny_bind (wpAny_setState_of ho hd hf ?_))
  dsimp only
  rw [byScan_of (knd := intKind prog w) (x := .int n t0) rfl hb hel]
  simp only [↓reduceIte]
  unfold setAddByScan
  refine wpAny_bind ?_
  refine wpAny_bind (wpAny_rule ?_)
  refine wpAny_bind (wpAny_setScan_of (knd := intKind prog w) (k := n) hkey ho hd hf hel ?_)
  obtain ⟨tk, hent⟩ := S.ent
  cases hr : List.findIdx? (fun e => (intKind prog w).is n e.2) es.toList with
  | some j =>
    dsimp only
    obtain ⟨hj, hpj, _⟩ := List.findIdx?_eq_some_iff_getElem.mp hr
    have hin : n ∈ ns := by
      have hm : es.toList[j] ∈ es.toList := List.getElem_mem hj
      generalize es.toList[j] = z at hm hpj
      rw [hent] at hm
      obtain ⟨m, hm1, rfl⟩ := List.mem_map.mp hm
      have := (intKind prog w).inj _ n m hpj (intKind_is _ _ _ _)
      rw [this]; exact hm1
    refine wpAny_pure (wpAny_pure ?_)
    have e : s = { s with heap := s.heap } := by cases s; rfl
    have := h false s.heap ns (Heap.SameBut.refl a s.heap) hS (.inl ⟨hin, rfl⟩)
    rw [e]; exact this
  | none =>
    dsimp only
    have hnin : n ∉ ns := fun hin => by
      have := List.findIdx?_eq_none_iff.mp hr (iEnt tk n) (by rw [hent]; exact List.mem_map.mpr ⟨n, hin, rfl⟩)
      have h2 : (intKind prog w).is n (iEnt tk n).2 = true := intKind_is _ _ _ _
      rw [h2] at this
      cases this
    obtain ⟨l, T, hl⟩ := S.tb
    obtain ⟨p, t1, l1, e1, T1, hl1, hm1, hp1, hled1⟩ := lay_new T S.mkm (by omega) es (by omega) (hashInt n) (.int n t0)
    rw [e1]
    dsimp only
    obtain ⟨tk', htk1, htk2⟩ := ents_new (tk := tk) (t := t0) hnin
    obtain ⟨ns1, hns1, hes1⟩ := ents_perm (es' := (insertAt es p (hashInt n, Value.int n t0)).toList) (l := (n :: ns).map (iEnt tk')) (tk := tk') (ns := n :: ns) (by
      refine (SetTable.insertAt_perm es p _).trans ?_
      rw [Array.toList_push, hent, ← htk2, List.map_cons, htk1]
      exact List.perm_append_singleton _ _) rfl
    have hn1 : ns1.length = ns.length + 1 := by rw [hns1.length_eq, List.length_cons]
    have hnd1 : ns1.Nodup := hns1.nodup_iff.mpr (List.nodup_cons.mpr ⟨hnin, S.nd⟩)
    have hsz1 : (insertAt es p (hashInt n, Value.int n t0)).size = ns1.length := by rw [← Array.length_toList, hes1, List.length_map]
    refine wpAny_bind (wpAny_pure ?_)
    rw [hp1, S.pl]
    simp only [if_true]
    refine wpAny_bind ?_
    rw [hashByValue_scannable 8 (x := .int n t0) rfl]
    refine wpAny_pure ?_
    simp only [plainKind, if_true]
    refine wpAny_bind (wpAny_storeSet_of ho hd ?_ (by rw [hsz1]; exact line18 (by omega)))
    have ho1 := stored ho hd (insertAt es p (hashInt n, Value.int n t0)) t1
    have hsb1 := Heap.SameBut.update s.heap a (Obj.putSet (insertAt es p (hashInt n, Value.int n t0)) t1)
    have hfill : t1.fill = ns1.length := by rw [fill_of T1, hl1, hl, hn1]
    by_cases hfull : t1.tooFull = true
    · rw [hfull]
      simp only [Bool.not_false, Bool.and_self, if_true]
      obtain ⟨es2, t2, l2, e2, p2, T2, hl2, hmk2, hrm2, hp2, hled2⟩ := relay_all (t := t1) (insertAt es p (hashInt n, Value.int n t0)) (by omega) (by omega)
      rw [e2]
      dsimp only
      obtain ⟨ns2, hns2, hes2⟩ := ents_perm p2 hes1
      have hn2 : ns2.length = ns1.length := hns2.length_eq
      have hsz2 : es2.size = ns2.length := by rw [← Array.length_toList, hes2, List.length_map]
      refine wpAny_bind (wpAny_pure ?_)
      refine wpAny_bind (wpAny_storeSet_of ho1 rfl ?_ (by rw [hsz2]; exact line18 (by omega)))
      have ho2 := stored (s := { s with heap := s.heap.update a (Obj.putSet (insertAt es p (hashInt n, Value.int n t0)) t1) }) ho1 rfl es2 t2
      refine wpAny_pure (wpAny_pure (h true _ ns2 (hsb1.trans (Heap.SameBut.update _ a _)) ⟨_, es2, _, t2, ho2, hex, rfl, ⟨⟨tk', hes2⟩, hns2.nodup_iff.mpr hnd1, ⟨l2, T2, by omega⟩, hmk2, by rw [hn2, ← hsz1]; exact hrm2, by rw [hp2, hp1]; exact S.pl, fun z => by rw [hled2, hled1]; exact S.led z⟩⟩ (.inr ⟨hnin, hns2.trans hns1⟩)))
    · have hnf : t1.tooFull = false := by simpa using hfull
      rw [hnf]
      simp only [Bool.and_false, Bool.false_eq_true, if_false]
      refine wpAny_pure (wpAny_pure (h true _ ns1 hsb1 ⟨_, _, _, t1, ho1, hex, rfl, ⟨⟨tk', hes1⟩, hnd1, ⟨l1, T1, by omega⟩, by rw [hm1]; exact S.mkm, ?_, by rw [hp1]; exact S.pl, fun z => by rw [hled1]; exact S.led z⟩⟩ (.inr ⟨hnin, hns1⟩)))
      unfold SetTable.tooFull at hnf
      rw [decide_eq_false_iff_not, hfill] at hnf
      omega
end
end TB
set_option linter.all false
namespace SRT
open PySem PySem.W PyProof.Rows
noncomputable def run {α : Type} (f : Nat → Nat → Bool) : KasT α → α
  | .ret a => a
  | .ask i j k => run f (k (f i j))
theorem run_bind {α β : Type} (f : Nat → Nat → Bool) (g : α → KasT β) : ∀ t : KasT α, run f (t.bind g) = run f (g (run f t))
  | .ret a => rfl
  | .ask i j k => run_bind f g (k (f i j))
noncomputable def path {α : Type} (f : Nat → Nat → Bool) (n : Nat) : KasT α → Prop
  | .ret _ => True
  | .ask i j k => i < n ∧ j < n ∧ path f n (k (f i j))
theorem path_bind {α β : Type} {f : Nat → Nat → Bool} {n : Nat} {g : α → KasT β} : ∀ {t : KasT α}, path f n t → path f n (g (run f t)) → path f n (t.bind g)
  | .ret a, _, h => h
  | .ask i j k, h, h' => ⟨h.1, h.2.1, path_bind (t := k (f i j)) h.2.2 h'⟩
theorem wp_path {α : Type} {f : Nat → Nat → Bool} {n : Nat} {cmp : Nat → Nat → (Bool → Shared → Prop) → Shared → Prop} {s : Shared} (hc : ∀ i j C, i < n → j < n → C (f i j) s → cmp i j C s) (Q : α → Shared → Prop) : ∀ t : KasT α, path f n t → Q (run f t) s → t.kasWp cmp Q s
  | .ret a, _, h => h
  | .ask i j k, p, h => hc i j _ p.1 p.2.1 (wp_path hc Q (k (f i j)) p.2.2 h)
structure Ord (f : Nat → Nat → Bool) (n : Nat) : Prop where
  irr : ∀ i, i < n → f i i = false
  tr : ∀ i j k, i < n → j < n → k < n → f i j = true → f j k = true → f i k = true
  tot : ∀ i j, i < n → j < n → i ≠ j → f i j = true ∨ f j i = true
section
variable {f : Nat → Nat → Bool} {n : Nat}
structure Row (n : Nat) (p : Array Nat) : Prop where
  perm : p.toList.Perm (List.range n)
theorem Row.size {p : Array Nat} (r : Row n p) : p.size = n := by have := r.perm.length_eq; simpa using this
theorem Row.lt {p : Array Nat} (r : Row n p) {i : Nat} (hi : i < n) : p.getD i 0 < n := by
  have hs := r.size
  have : p.getD i 0 ∈ p.toList := by
    rw [Array.getD_eq_getD_getElem?, Array.getElem?_eq_getElem (by omega)]
    exact Array.getElem_mem_toList (by omega)
  exact List.mem_range.mp (r.perm.mem_iff.mp this)
theorem Row.ne {p : Array Nat} (r : Row n p) {i j : Nat} (hi : i < n) (hj : j < n) (hij : i ≠ j) : p.getD i 0 ≠ p.getD j 0 := by
  have hs := r.size
  have nd : p.toList.Nodup := r.perm.nodup_iff.mpr List.nodup_range
  rw [Array.getD_eq_getD_getElem?, Array.getD_eq_getD_getElem?, Array.getElem?_eq_getElem (by omega), Array.getElem?_eq_getElem (by omega)]
  intro e
  have e' : p.toList[i]'(by simpa using (by omega : i < p.size)) = p.toList[j]'(by simpa using (by omega : j < p.size)) := by simpa using e
  exact hij ((List.getElem_inj nd).mp e')
theorem Row.rev {p : Array Nat} (r : Row n p) (i j : Nat) : Row n (kas_rev p i j) := ⟨(Array.perm_iff_toList_perm.mp (mirror_perm p i j _)).trans r.perm⟩
theorem Row.bub {p : Array Nat} (r : Row n p) (i j : Nat) : Row n (bubble p i j) := ⟨(Array.perm_iff_toList_perm.mp (bubble_perm p i j)).trans r.perm⟩
noncomputable def Up (f : Nat → Nat → Bool) (p : Array Nat) (m : Nat) : Prop := ∀ i j, i < j → j < m → f (p.getD i 0) (p.getD j 0) = true
theorem up_step (O : Ord f n) {p : Array Nat} (r : Row n p) {m : Nat} (hm : m < n) (h1 : 1 ≤ m) (u : Up f p m) (h : f (p.getD m 0) (p.getD (m - 1) 0) = false) : Up f p (m + 1) := by
  have hl : f (p.getD (m - 1) 0) (p.getD m 0) = true := by
    rcases O.tot _ _ (r.lt (i := m) hm) (r.lt (i := m - 1) (by omega)) (r.ne hm (by omega) (by omega)) with z | z
    · rw [h] at z; cases z
    · exact z
  intro i j hij hj
  by_cases e : j = m
  · subst e
    by_cases e2 : i = j - 1
    · rw [e2]; exact hl
    · exact O.tr _ _ _ (r.lt (by omega)) (r.lt (by omega)) (r.lt hm) (u i (j - 1) (by omega) (by omega)) hl
  · exact u i j hij (by omega)
theorem asc_ok (O : Ord f n) {p : Array Nat} (r : Row n p) : ∀ (fuel m : Nat), 1 ≤ m → m + fuel ≤ n → Up f p m →
    m ≤ run f (kas_asc p fuel m) ∧ run f (kas_asc p fuel m) ≤ m + fuel ∧ Up f p (run f (kas_asc p fuel m)) ∧ (run f (kas_asc p fuel m) < m + fuel → f (p.getD (run f (kas_asc p fuel m)) 0) (p.getD (run f (kas_asc p fuel m) - 1) 0) = true)
  | 0, m, _, _, u => ⟨Nat.le_refl _, Nat.le_refl _, u, fun h => absurd h (by simp [kas_asc, run])⟩
  | fuel + 1, m, h1, hm, u => by
    cases e : f (p.getD m 0) (p.getD (m - 1) 0) with
    | true =>
      have er : run f (kas_asc p (fuel + 1) m) = m := by
        show run f (if f (p.getD m 0) (p.getD (m - 1) 0) = true then KasT.ret m else kas_asc p fuel (m + 1)) = m
        rw [e, if_pos rfl]; rfl
      rw [er]
      exact ⟨Nat.le_refl _, by omega, u, fun _ => e⟩
    | false =>
      have er : run f (kas_asc p (fuel + 1) m) = run f (kas_asc p fuel (m + 1)) := by
        show run f (if f (p.getD m 0) (p.getD (m - 1) 0) = true then KasT.ret m else kas_asc p fuel (m + 1)) = _
        rw [e, if_neg (by simp)]
      rw [er]
      obtain ⟨a1, a2, a3, a4⟩ := asc_ok O r fuel (m + 1) (by omega) (by omega) (up_step O r (by omega) h1 u e)
      exact ⟨by omega, by omega, a3, fun h => a4 (by omega)⟩
noncomputable def Down (f : Nat → Nat → Bool) (p : Array Nat) (m : Nat) : Prop := ∀ i j, i < j → j < m → f (p.getD j 0) (p.getD i 0) = true
theorem desc_ok (O : Ord f n) {p : Array Nat} (r : Row n p) : ∀ (fuel m : Nat), 1 ≤ m → m + fuel ≤ n → Down f p m →
    ∃ m', run f (kas_desc fuel p m 0) = (p, m', 0) ∧ m ≤ m' ∧ m' ≤ m + fuel ∧ Down f p m'
  | 0, m, _, _, u => ⟨m, rfl, Nat.le_refl _, Nat.le_refl _, u⟩
  | fuel + 1, m, h1, hm, u => by
    cases e : f (p.getD m 0) (p.getD (m - 1) 0) with
    | true =>
      have er : run f (kas_desc (fuel + 1) p m 0) = run f (kas_desc fuel p (m + 1) 0) := by
        show run f (if f (p.getD m 0) (p.getD (m - 1) 0) = true then (if 0 > 0 then _ else kas_desc fuel p (m + 1) 0) else _) = _
        rw [e, if_pos rfl, if_neg (by omega)]
      rw [er]
      obtain ⟨m', a1, a2, a3, a4⟩ := desc_ok O r fuel (m + 1) (by omega) (by omega) (by
        intro i j hij hj
        by_cases ej : j = m
        · subst ej
          by_cases e2 : i = j - 1
          · rw [e2]; exact e
          · exact O.tr _ _ _ (r.lt (by omega)) (r.lt (i := j - 1) (by omega)) (r.lt (by omega)) e (u i (j - 1) (by omega) (by omega))
        · exact u i j hij (by omega))
      exact ⟨m', a1, by omega, by omega, a4⟩
    | false =>
      have e2 : f (p.getD (m - 1) 0) (p.getD m 0) = true := by
        rcases O.tot _ _ (r.lt (i := m) (by omega)) (r.lt (i := m - 1) (by omega)) (r.ne (by omega) (by omega) (by omega)) with z | z
        · rw [e] at z; cases z
        · exact z
      have er : run f (kas_desc (fuel + 1) p m 0) = (p, m, 0) := by
        show run f (if f (p.getD m 0) (p.getD (m - 1) 0) = true then _ else KasT.ask (p.getD (m - 1) 0) (p.getD m 0) fun d => if d = true then .ret (p, m, 0) else kas_desc fuel p (m + 1) (0 + 1)) = _
        rw [e, if_neg (by simp)]
        show run f (if f (p.getD (m - 1) 0) (p.getD m 0) = true then KasT.ret (p, m, 0) else kas_desc fuel p (m + 1) (0 + 1)) = _
        rw [e2, if_pos rfl]; rfl
      exact ⟨m, er, Nat.le_refl _, by omega, u⟩
theorem rev_get {p : Array Nat} {m : Nat} (hm : m ≤ p.size) (k : Nat) (hk : k < m) : (kas_rev p 0 m).getD k 0 = p.getD (m - 1 - k) 0 := by
  unfold kas_rev
  rw [Array.getD_eq_getD_getElem?, getElem?_mirror_all hm k, if_pos ⟨by omega, hk⟩, Array.getD_eq_getD_getElem?]
  congr 2
  omega
theorem up_rev {p : Array Nat} {m : Nat} (hm : m ≤ p.size) (d : Down f p m) : Up f (kas_rev p 0 m) m := by
  intro i j hij hj
  rw [rev_get hm i (by omega), rev_get hm j hj]
  exact d _ _ (by omega) (by omega)
theorem count_ok (O : Ord f n) {p : Array Nat} (r : Row n p) (h2 : 1 ≤ n) : ∃ m p', run f (kas_count n p) = (m, p') ∧ 1 ≤ m ∧ m ≤ n ∧ Row n p' ∧ Up f p' m := by
  obtain ⟨a1, a2, a3, a4⟩ := asc_ok O r (n - 1) 1 (by omega) (by omega) (by intro i j hij hj; omega)
  have er : run f (kas_count n p) = run f (if (run f (kas_asc p (n - 1) 1) == n) = true then KasT.ret (run f (kas_asc p (n - 1) 1), p) else if run f (kas_asc p (n - 1) 1) > 1 then .ask (p.getD 0 0) (p.getD (run f (kas_asc p (n - 1) 1) - 1) 0) fun c => if c = true then .ret (run f (kas_asc p (n - 1) 1), p) else kas_descPart (run f (kas_asc p (n - 1) 1)) n (kas_rev p 0 (run f (kas_asc p (n - 1) 1)))
    else kas_descPart (run f (kas_asc p (n - 1) 1)) n p) := by
    unfold kas_count
    rw [run_bind]
  rw [er]
  generalize run f (kas_asc p (n - 1) 1) = m at a1 a2 a3 a4 ⊢
  by_cases e : m = n
  · rw [if_pos (by simp [e])]
    exact ⟨m, p, rfl, a1, by omega, r, a3⟩
  · rw [if_neg (by simpa using e)]
    by_cases e1 : m > 1
    · rw [if_pos e1]
      refine ⟨m, p, ?_, a1, by omega, r, a3⟩
      show run f (if f (p.getD 0 0) (p.getD (m - 1) 0) = true then KasT.ret (m, p) else _) = _
      rw [a3 0 (m - 1) (by omega) (by omega), if_pos rfl]; rfl
    · rw [if_neg e1]
      have em : m = 1 := by omega
      subst em
      have hd := a4 (by omega)
      unfold kas_descPart
      obtain ⟨m', b1, b2, b3, b4⟩ := desc_ok O r (n - (1 + 1)) (1 + 1) (by omega) (by omega) (by
        intro i j hij hj
        have : i = 0 ∧ j = 1 := by omega
        rw [this.1, this.2]; exact hd)
      rw [run_bind, b1]
      dsimp only
      rw [if_neg (by omega)]
      unfold kas_tail3
      have hs := r.size
      have ur := up_rev (f := f) (by omega : m' ≤ p.size) b4
      obtain ⟨c1, c2, c3, c4⟩ := asc_ok O (r.rev 0 m') (n - m') m' (by omega) (by omega) ur
      rw [run_bind]
      exact ⟨_, _, rfl, by omega, by omega, r.rev 0 m', c3⟩
theorem place_ok (O : Ord f n) {p : Array Nat} (r : Row n p) {k : Nat} (hk : k < n) (u : Up f p k) : ∀ (fuel l r' : Nat), r' - l ≤ fuel → l ≤ r' → r' ≤ k →
    (∀ i, i < l → f (p.getD i 0) (p.getD k 0) = true) → (∀ i, r' ≤ i → i < k → f (p.getD k 0) (p.getD i 0) = true) →
    run f (kas_place p k fuel l r') ≤ k ∧ (∀ i, i < run f (kas_place p k fuel l r') → f (p.getD i 0) (p.getD k 0) = true) ∧ (∀ i, run f (kas_place p k fuel l r') ≤ i → i < k → f (p.getD k 0) (p.getD i 0) = true)
  | 0, l, r', h1, h2, h3, h4, h5 => by
    have : l = r' := by omega
    subst this
    exact ⟨h3, h4, h5⟩
  | fuel + 1, l, r', h1, h2, h3, h4, h5 => by
    unfold kas_place
    by_cases e : l ≥ r'
    · rw [if_pos e]
      have : l = r' := by omega
      subst this
      exact ⟨h3, h4, h5⟩
    · rw [if_neg e]
      have hmid : (l + r') / 2 < k := by omega
      cases c : f (p.getD k 0) (p.getD ((l + r') / 2) 0) with
      | true =>
        have er : run f (KasT.ask (p.getD k 0) (p.getD ((l + r') / 2) 0) fun c => if c = true then kas_place p k fuel l ((l + r') / 2) else kas_place p k fuel ((l + r') / 2 + 1) r') = run f (kas_place p k fuel l ((l + r') / 2)) := by
          show run f (if f (p.getD k 0) (p.getD ((l + r') / 2) 0) = true then _ else _) = _
          rw [c, if_pos rfl]
        rw [er]
        refine place_ok O r hk u fuel l _ (by omega) (by omega) (by omega) h4 (fun i hi hik => ?_)
        by_cases ei : i = (l + r') / 2
        · rw [ei]; exact c
        · exact O.tr _ _ _ (r.lt hk) (r.lt (i := (l + r') / 2) (by omega)) (r.lt (by omega)) c (u _ _ (by omega) hik)
      | false =>
        have er : run f (KasT.ask (p.getD k 0) (p.getD ((l + r') / 2) 0) fun c => if c = true then kas_place p k fuel l ((l + r') / 2) else kas_place p k fuel ((l + r') / 2 + 1) r') = run f (kas_place p k fuel ((l + r') / 2 + 1) r') := by
          show run f (if f (p.getD k 0) (p.getD ((l + r') / 2) 0) = true then _ else _) = _
          rw [c, if_neg (by simp)]
        rw [er]
        have c' : f (p.getD ((l + r') / 2) 0) (p.getD k 0) = true := by
          rcases O.tot _ _ (r.lt (i := k) hk) (r.lt (i := (l + r') / 2) (by omega)) (r.ne hk (by omega) (by omega)) with z | z
          · rw [c] at z; cases z
          · exact z
        refine place_ok O r hk u fuel _ r' (by omega) (by omega) h3 (fun i hi => ?_) h5
        by_cases ei : i = (l + r') / 2
        · rw [ei]; exact c'
        · exact O.tr _ _ _ (r.lt (by omega)) (r.lt (i := (l + r') / 2) (by omega)) (r.lt hk) (u i _ (by omega) (by omega)) c'
theorem bub_get {p : Array Nat} {k l : Nat} (hk : k < p.size) (hl : l ≤ k) (i : Nat) : (bubble p k (k - l)).getD i 0 = if i = l then p.getD k 0 else if l < i ∧ i ≤ k then p.getD (i - 1) 0 else p.getD i 0 := by
  simp only [Array.getD_eq_getD_getElem?]
  rw [getElem?_bubble hk (k - l) (by omega) i]
  have e : k - (k - l) = l := by omega
  rw [e]
  by_cases h1 : i = l
  · rw [if_pos h1, if_pos h1]
  · rw [if_neg h1, if_neg h1]
    by_cases h2 : l < i ∧ i ≤ k
    · rw [if_pos h2, if_pos h2]
    · rw [if_neg h2, if_neg h2]
theorem bin_ok (O : Ord f n) : ∀ (fuel : Nat) (p : Array Nat) (k : Nat), Row n p → k + fuel = n → Up f p k → Row n (run f (kas_bin fuel p k)) ∧ Up f (run f (kas_bin fuel p k)) n
  | 0, p, k, r, hk, u => by
    have : k = n := by omega
    subst this
    exact ⟨r, u⟩
  | fuel + 1, p, k, r, hk, u => by
    have hkn : k < n := by omega
    obtain ⟨a1, a2, a3⟩ := place_ok O r hkn u k 0 k (by omega) (by omega) (Nat.le_refl _) (fun i hi => by omega) (fun i h1 h2 => by omega)
    have er : run f (kas_bin (fuel + 1) p k) = run f (kas_bin fuel (bubble p k (k - run f (kas_place p k k 0 k))) (k + 1)) := by
      show run f ((kas_place p k k 0 k).bind fun l => kas_bin fuel (bubble p k (k - l)) (k + 1)) = _
      rw [run_bind]
    rw [er]
    generalize run f (kas_place p k k 0 k) = l at a1 a2 a3 ⊢
    have hs := r.size
    refine bin_ok O fuel _ (k + 1) (r.bub _ _) (by omega) ?_
    intro i j hij hj
    rw [bub_get (by omega) a1 i, bub_get (by omega) a1 j]
    by_cases ei : i = l
    · rw [if_pos ei, if_neg (by omega), if_pos ⟨by omega, by omega⟩]
      exact a3 (j - 1) (by omega) (by omega)
    · rw [if_neg ei]
      by_cases ej : j = l
      · rw [if_pos ej, if_neg (by omega)]
        exact a2 i (by omega)
      · rw [if_neg ej]
        by_cases hi2 : l < i ∧ i ≤ k
        · rw [if_pos hi2, if_pos ⟨by omega, by omega⟩]
          exact u _ _ (by omega) (by omega)
        · rw [if_neg hi2]
          by_cases hj2 : l < j ∧ j ≤ k
          · rw [if_pos hj2]
            by_cases e3 : i = j - 1
            · omega
            · exact u i (j - 1) (by omega) (by omega)
          · rw [if_neg hj2]
            exact u i j hij (by omega)
theorem asc_path {p : Array Nat} (r : Row n p) : ∀ (fuel m : Nat), 1 ≤ m → m + fuel ≤ n → path f n (kas_asc p fuel m)
  | 0, m, _, _ => trivial
  | fuel + 1, m, h1, hm => by
    refine ⟨r.lt (by omega), r.lt (by omega), ?_⟩
    show path f n (if f (p.getD m 0) (p.getD (m - 1) 0) = true then KasT.ret m else kas_asc p fuel (m + 1))
    split
    · exact trivial
    · exact asc_path r fuel (m + 1) (by omega) (by omega)
theorem desc_path (O : Ord f n) {p : Array Nat} (r : Row n p) : ∀ (fuel m : Nat), 1 ≤ m → m + fuel ≤ n → path f n (kas_desc fuel p m 0)
  | 0, m, _, _ => trivial
  | fuel + 1, m, h1, hm => by
    refine ⟨r.lt (by omega), r.lt (by omega), ?_⟩
    show path f n (if f (p.getD m 0) (p.getD (m - 1) 0) = true then (if 0 > 0 then _ else kas_desc fuel p (m + 1) 0) else KasT.ask (p.getD (m - 1) 0) (p.getD m 0) fun d => if d = true then .ret (p, m, 0) else kas_desc fuel p (m + 1) (0 + 1))
    cases e : f (p.getD m 0) (p.getD (m - 1) 0) with
    | true =>
      rw [if_pos rfl, if_neg (by omega)]
      exact desc_path O r fuel (m + 1) (by omega) (by omega)
    | false =>
      rw [if_neg (by simp)]
      have e2 : f (p.getD (m - 1) 0) (p.getD m 0) = true := by
        rcases O.tot _ _ (r.lt (i := m) (by omega)) (r.lt (i := m - 1) (by omega)) (r.ne (by omega) (by omega) (by omega)) with z | z
        · rw [e] at z; cases z
        · exact z
      refine ⟨r.lt (by omega), r.lt (by omega), ?_⟩
      dsimp only
      rw [e2, if_pos rfl]
      exact trivial
theorem count_path (O : Ord f n) {p : Array Nat} (r : Row n p) (h2 : 1 ≤ n) : path f n (kas_count n p) := by
  obtain ⟨a1, a2, a3, a4⟩ := asc_ok O r (n - 1) 1 (by omega) (by omega) (by intro i j hij hj; omega)
  unfold kas_count
  refine path_bind (asc_path r _ _ (by omega) (by omega)) ?_
  generalize run f (kas_asc p (n - 1) 1) = m at a1 a2 a3 a4 ⊢
  by_cases e : m = n
  · rw [if_pos (by simp [e])]; exact trivial
  · rw [if_neg (by simpa using e)]
    by_cases e1 : m > 1
    · rw [if_pos e1]
      refine ⟨r.lt (by omega), r.lt (by omega), ?_⟩
      dsimp only
      rw [a3 0 (m - 1) (by omega) (by omega), if_pos rfl]; exact trivial
    · rw [if_neg e1]
      have em : m = 1 := by omega
      subst em
      have hd := a4 (by omega)
      unfold kas_descPart
      refine path_bind (desc_path O r _ _ (by omega) (by omega)) ?_
      obtain ⟨m', b1, b2, b3, b4⟩ := desc_ok O r (n - (1 + 1)) (1 + 1) (by omega) (by omega) (by
        intro i j hij hj
        have : i = 0 ∧ j = 1 := by omega
        rw [this.1, this.2]; exact hd)
      rw [b1]
      dsimp only
      rw [if_neg (by omega)]
      unfold kas_tail3
      exact path_bind (asc_path (r.rev 0 m') _ _ (by omega) (by omega)) trivial
theorem place_path {p : Array Nat} (r : Row n p) {k : Nat} (hk : k < n) : ∀ (fuel l r' : Nat), r' ≤ k → path f n (kas_place p k fuel l r')
  | 0, l, r', _ => trivial
  | fuel + 1, l, r', h => by
    unfold kas_place
    by_cases e : l ≥ r'
    · rw [if_pos e]; exact trivial
    · rw [if_neg e]
      refine ⟨r.lt hk, r.lt (by omega), ?_⟩
      dsimp only
      split
      · exact place_path r hk fuel _ _ (by omega)
      · exact place_path r hk fuel _ _ h
theorem bin_path (O : Ord f n) : ∀ (fuel : Nat) (p : Array Nat) (k : Nat), Row n p → k + fuel = n → Up f p k → path f n (kas_bin fuel p k)
  | 0, p, k, r, hk, u => trivial
  | fuel + 1, p, k, r, hk, u => by
    have hkn : k < n := by omega
    show path f n ((kas_place p k k 0 k).bind fun l => kas_bin fuel (bubble p k (k - l)) (k + 1))
    refine path_bind (place_path r hkn _ _ _ (Nat.le_refl _)) ?_
    obtain ⟨a1, a2, a3⟩ := place_ok O r hkn u k 0 k (by omega) (by omega) (Nat.le_refl _) (fun i hi => by omega) (fun i h1 h2 => by omega)
    generalize run f (kas_place p k k 0 k) = l at a1 a2 a3 ⊢
    have hs := r.size
    refine bin_path O fuel _ (k + 1) (r.bub _ _) (by omega) ?_
    intro i j hij hj
    rw [bub_get (by omega) a1 i, bub_get (by omega) a1 j]
    by_cases ei : i = l
    · rw [if_pos ei, if_neg (by omega), if_pos ⟨by omega, by omega⟩]
      exact a3 (j - 1) (by omega) (by omega)
    · rw [if_neg ei]
      by_cases ej : j = l
      · rw [if_pos ej, if_neg (by omega)]
        exact a2 i (by omega)
      · rw [if_neg ej]
        by_cases hi2 : l < i ∧ i ≤ k
        · rw [if_pos hi2, if_pos ⟨by omega, by omega⟩]
          exact u _ _ (by omega) (by omega)
        · rw [if_neg hi2]
          by_cases hj2 : l < j ∧ j ≤ k
          · rw [if_pos hj2]
            by_cases e3 : i = j - 1
            · omega
            · exact u i (j - 1) (by omega) (by omega)
          · rw [if_neg hj2]
            exact u i j hij (by omega)
theorem sort_path (O : Ord f n) (h : 1 ≤ n) : path f n (kas_sort n) := by
  have r0 : Row n (List.toArray (List.range n)) := ⟨by simp⟩
  obtain ⟨m, p', e, h1, h2, r, u⟩ := count_ok O r0 h
  unfold kas_sort
  refine path_bind (count_path O r0 h) ?_
  rw [e]
  dsimp only
  by_cases hm : m < n
  · rw [if_pos hm]
    have : max m 1 = m := by omega
    rw [this]
    exact bin_path O (n - m) p' m r (by omega) u
  · rw [if_neg hm]; exact trivial
theorem sort_ok (O : Ord f n) (h : 1 ≤ n) : Row n (run f (kas_sort n)) ∧ Up f (run f (kas_sort n)) n := by
  have r0 : Row n (List.toArray (List.range n)) := ⟨by simp⟩
  obtain ⟨m, p', e, h1, h2, r, u⟩ := count_ok O r0 h
  unfold kas_sort
  rw [run_bind, e]
  dsimp only
  by_cases hm : m < n
  · rw [if_pos hm]
    have : max m 1 = m := by omega
    rw [this]
    exact bin_ok O (n - m) p' m r (by omega) u
  · rw [if_neg hm]
    have : m = n := by omega
    subst this
    exact ⟨r, u⟩
end
section
variable {prog : Program} {w : World} {A : Around} {E : Value → Shared → Prop} {s : Shared}
theorem zip_two {vs : List Value} (h : vs.length < 2) : ((vs.toArray.zip vs.toArray).map (·.2)).toList = (List.toArray ((List.toArray (List.range vs.length)).toList.map fun i => vs.getD i Value.none)).toList := by
  cases vs with
  | nil => simp
  | cons v r =>
    cases r with
    | nil => simp
    | cons u r => exact absurd h (by simp)
theorem list_sort_by {f : Nat → Nat → Bool} {a : Addr} {vs : List Value} {n : Nat} {κ : SortKind} {P : PySem.Fin → Shared → Prop} (O : Ord f vs.length) (ho : s.heap.get? a = some (seqObj "list" vs.toArray n)) (h64 : vs.length < 64)
    (hk : ∀ s' : Shared, (∀ b o, b ≠ a → s.heap.get? b = some o → s'.heap.get? b = some o) → ∀ Q : SortKind → Shared → Prop, 2 ≤ vs.length → Q κ s' → wpAny (model prog w) A (keyKind' vs.toArray) Q (fun _ _ => False) s')
    (hlt : ∀ s' : Shared, (∀ b o, b ≠ a → s.heap.get? b = some o → s'.heap.get? b = some o) → ∀ (i j : Nat) (C : Bool → Shared → Prop), i < vs.length → j < vs.length → C (f i j) s' → wpAny (model prog w) A (keyLt' κ (vs.getD i Value.none) (vs.getD j Value.none)) C (fun _ _ => False) s')
    (h : ∀ p : Array Nat, Row vs.length p → Up f p vs.length → P (.done (.ret .none)) { s with heap := sortedHeap s.heap a vs (List.toArray (p.toList.map fun i => vs.getD i Value.none)) }) :
    wpAny (model prog w) A (Builtin.«list.sort» ⟨[.ref a], []⟩) P E s := by
  have ha : a < s.heap.objs.size := Heap.lt_size ho
  have s1 := Heap.SameBut.update s.heap a (Obj.mapSeq fun _ => (#[] : Array Value))
  obtain ⟨e1, ho1⟩ : ∃ e1, (s.heap.update a (Obj.mapSeq fun _ => (#[] : Array Value))).get? a = some (seqObj "list" #[] e1) := ⟨_, get?_update_seq ho fun _ => #[]⟩
  rw [list_sort_plain]
  refine wpAny_bind (listItems_at ho rfl ?_)
  refine wpAny_bind (listUpdate_at ho rfl ?_ (by rw [List.size_toArray, sizeLine_eq]; omega) (Nat.zero_le _))
  refine wpAny_bind (seqEpoch_at ho1 rfl ?_)
  refine wpAny_bind (wpAny_newTuple ?_ (by show vs.length ≤ _; rw [sizeLine_eq]; omega))
  refine wpAny_bind (wpAny_newList ?_ (Nat.zero_le _))
  refine wpAny_holding ?_
  have ho6 : (((s.heap.update a (Obj.mapSeq fun _ => (#[] : Array Value))).push (seqObj "tuple" vs.toArray 0)).push (seqObj "list" #[] 0)).get? a = some (seqObj "list" #[] e1) := Heap.get?_push_of_some _ (Heap.get?_push_of_some _ ho1)
  have keep : ∀ b o, b ≠ a → s.heap.get? b = some o → (((s.heap.update a (Obj.mapSeq fun _ => (#[] : Array Value))).push (seqObj "tuple" vs.toArray 0)).push (seqObj "list" #[] 0)).get? b = some o := fun b o hb e =>
    Heap.get?_push_of_some _ (Heap.get?_push_of_some _ ((s1.2 b hb).trans e))
  show wpAny (model prog w) A _ P E { s with heap := ((s.heap.update a (Obj.mapSeq fun _ => (#[] : Array Value))).push (seqObj "tuple" vs.toArray 0)).push (seqObj "list" #[] 0) }
  dsimp only
  by_cases hn2 : vs.toArray.size < 2
  · rw [if_pos hn2, if_pos hn2]
    refine wpAny_bind (wpAny_pure ?_)
    rw [StateT.run_pure]
    refine wpAny_bind (wpAny_pure ?_)
    dsimp only
    have hn2' : vs.length < 2 := by simpa using hn2
    have hr : Row vs.length (List.toArray (List.range vs.length)) := ⟨by simp⟩
    have hu : Up f (List.toArray (List.range vs.length)) vs.length := fun i j hij hj => by omega
    have e2 : (arrOf (SortSt.mk' general' (vs.toArray.zip vs.toArray) #[] 7 none)).map (·.2) = List.toArray ((List.toArray (List.range vs.length)).toList.map fun i => vs.getD i Value.none) := by
      show (vs.toArray.zip vs.toArray).map (·.2) = _
      apply Array.toList_inj.mp
      exact zip_two hn2'
    refine wpAny_bind (seqEpoch_at ho6 rfl ?_)
    rw [e2]
    refine wpAny_bind (listUpdate_at ho6 rfl ?_ (Nat.zero_le _) (by rw [List.size_toArray, List.length_map, Array.length_toList, hr.size, sizeLine_eq]; omega))
    show wpAny _ _ (if (e1 != e1) = true then _ else _) _ _ _
    simp only [bne_self_eq_false, Bool.false_eq_true, if_false]
    exact wpAny_pure (h _ hr hu)
  · have hn2' : 2 ≤ vs.length := by rw [List.size_toArray] at hn2; omega
    rw [if_neg hn2, if_neg hn2]
    refine wpAny_bind (wpAny_mono (hk { s with heap := ((s.heap.update a (Obj.mapSeq fun _ => (#[] : Array Value))).push (seqObj "tuple" vs.toArray 0)).push (seqObj "list" #[] 0) } keep (fun k' s' => k' = κ ∧ s' = { s with heap := ((s.heap.update a (Obj.mapSeq fun _ => (#[] : Array Value))).push (seqObj "tuple" vs.toArray 0)).push (seqObj "list" #[] 0) }) hn2' ⟨rfl, rfl⟩) (fun κ' s0 hes => ?_) fun _ _ x => x.elim)
    obtain ⟨ek, es⟩ := hes
    subst ek es
    obtain ⟨hrow, hup⟩ := sort_ok O (by omega : 1 ≤ vs.length)
    refine wpAny_bind (wpAny_mono (kat_run (Q := fun st' s' => ∃ p : Array Nat, p.size = vs.length ∧ arrOf st' = p.map (kas_item (vs.toArray.zip vs.toArray)) ∧ failedOf st' = none ∧ p = run f (kas_sort vs.length) ∧ s' = { s with heap := ((s.heap.update a (Obj.mapSeq fun _ => (#[] : Array Value))).push (seqObj "tuple" vs.toArray 0)).push (seqObj "list" #[] 0) })
      rfl hn2' h64 (fun p' st' s' a1 a2 a3 a4 => ⟨p', a1, a2, a3, a4⟩) (wp_path (n := vs.length) (fun i j C hi hj hC => hlt _ keep i j C hi hj hC) (fun p s' => p = run f (kas_sort vs.length) ∧ s' = { s with heap := ((s.heap.update a (Obj.mapSeq fun _ => (#[] : Array Value))).push (seqObj "tuple" vs.toArray 0)).push (seqObj "list" #[] 0) }) _ (sort_path O (by omega)) ⟨rfl, rfl⟩)) ?_ fun _ _ e => e)
    rintro ⟨⟨⟩, st'⟩ s' ⟨p, hp, har, hf, ep, es⟩
    subst es
    dsimp only
    have hout := kat_snds (ks := vs) rfl har
    refine wpAny_bind (seqEpoch_at ho6 rfl ?_)
    rw [hout]
    refine wpAny_bind (listUpdate_at ho6 rfl ?_ (Nat.zero_le _) (by rw [List.size_toArray, List.length_map, Array.length_toList, hp, sizeLine_eq]; omega))
    rw [hf]
    simp only [bne_self_eq_false, Bool.false_eq_true, if_false]
    rw [ep]
    exact wpAny_pure (h _ hrow hup)
theorem collect_tup {l : Addr} {vs : List Value} {Q : List Value → Shared → Prop} (hl : IsTup s.heap l vs.toArray)
    (h : Q vs { s with heap := (s.heap.push (seqObj "list" #[] 0)).update s.heap.objs.size (Obj.mapSeq (· ++ vs.toArray)) }) (hsz : vs.length ≤ sizeLine) :
    wpAny (model prog w) A (collect (.ref l)) Q E s := by
  obtain ⟨o, ho, hc, n, hd⟩ := id hl
  unfold collect
  refine wpAny_bind (wpAny_runValue (codeAny_builtin entry_proto_collect' ?_))
  show wpAny _ _ (do again (.builtin "list.__iadd__" ⟨[← newList [], .ref l], []⟩)) _ _ s
  refine wpAny_bind (wpAny_newList (wpAny_pure ⟨Code.quiet_builtin _ (by decide +kernel), codeAny_builtin entry_list_iadd' ?_⟩))
  show wpAny _ _ (Builtin.List.listExtendWith (.ref s.heap.objs.size) (.ref l) (.ref s.heap.objs.size)) _ _ { s with heap := s.heap.push (seqObj "list" #[] 0) }
  unfold Builtin.List.listExtendWith
  have ho' : (s.heap.push (seqObj "list" #[] 0)).get? l = some o := Heap.get?_push_of_some _ ho
  refine wpAny_bind (wpAny_typeOf (T := "tuple") ⟨o, ho', hc⟩ ?_)
  have ht : (Value.type "tuple" == Value.type "tuple") = true := by rfl
  rw [if_pos (by rw [ht]; simp)]
  refine wpAny_bind (listItems_at ho' hd ?_)
  refine wpAny_bind (listItems_at (xs := #[]) (n := 0) (Heap.get?_push_size _ rfl) rfl ?_)
  rw [if_neg (by simp)]
  refine wpAny_bind (listUpdate_at (xs := #[]) (n := 0) (Heap.get?_push_size _ rfl) rfl ?_ (Nat.zero_le _) (by show (#[] ++ vs.toArray).size ≤ sizeLine + 1; simp only [Array.size_append, List.size_toArray, List.length_nil]; omega))
  refine wpAny_pure ?_
  show wpAny (model prog w) A (do
      let o ← load s.heap.objs.size
      match o.data with
      | .seq xs _ => pure xs.toList
      | _ => unsupported "internal:collect") Q E { s with heap := (s.heap.push (seqObj "list" #[] 0)).update s.heap.objs.size (Obj.mapSeq (· ++ vs.toArray)) }
  refine wpAny_bind (wpAny_load (get?_update_seq (Heap.get?_push_size _ rfl) _) ?_)
  show wpAny _ _ (pure ((#[] : Array Value) ++ vs.toArray).toList) Q E _
  rw [show ((#[] : Array Value) ++ vs.toArray).toList = vs by simp]
  exact wpAny_pure h
theorem collect_seq {l : Addr} {vs : List Value} {Q : List Value → Shared → Prop} (hl : s.heap.IsList l vs.toArray ∨ IsTup s.heap l vs.toArray)
    (h : Q vs { s with heap := (s.heap.push (seqObj "list" #[] 0)).update s.heap.objs.size (Obj.mapSeq (· ++ vs.toArray)) }) (hsz : vs.length ≤ sizeLine) :
    wpAny (model prog w) A (collect (.ref l)) Q E s := by
  rcases hl with hl | hl
  · exact collect_list hl h hsz
  · exact collect_tup hl h hsz
theorem sorted_byS {f : Nat → Nat → Bool} {l : Addr} {vs : List Value} {κ : SortKind} {Q : Value → Shared → Prop} (O : Ord f vs.length) (hl : s.heap.IsList l vs.toArray ∨ IsTup s.heap l vs.toArray) (h64 : vs.length < 64)
    (hk : ∀ (A' : Around) (s' : Shared), A'.units ≤ A.units + 2 → (∀ b o, s.heap.get? b = some o → s'.heap.get? b = some o) → ∀ Q : SortKind → Shared → Prop, 2 ≤ vs.length → Q κ s' → wpAny (model prog w) A' (keyKind' vs.toArray) Q (fun _ _ => False) s')
    (hlt : ∀ (A' : Around) (s' : Shared), A'.units ≤ A.units + 2 → (∀ b o, s.heap.get? b = some o → s'.heap.get? b = some o) → ∀ (i j : Nat) (C : Bool → Shared → Prop), i < vs.length → j < vs.length → C (f i j) s' → wpAny (model prog w) A' (keyLt' κ (vs.getD i Value.none) (vs.getD j Value.none)) C (fun _ _ => False) s')
    (h : ∀ (p : Array Nat) (h' : Heap), Row vs.length p → Up f p vs.length → (∀ b o, s.heap.get? b = some o → h'.get? b = some o) → s.heap.objs.size ≤ s.heap.objs.size + 1 → (∃ k, h'.get? (s.heap.objs.size + 1) = some (seqObj "list" (List.toArray (p.toList.map fun i => vs.getD i Value.none)) k)) → Q (.ref (s.heap.objs.size + 1)) { s with heap := h' }) :
    wpAny (model prog w) A (call (.builtin "sorted") [.ref l]) Q E s := by
  refine Calls.call_function_entry kind_sorted plain_sorted entry_sorted (args_sorted1 _) ?_
  unfold Builtin.«sorted»
  refine wpAny_bind (m := checkCount "sorted" 1 1 _) (wpAny_pure ?_)
  refine wpAny_bind (collect_seq hl ?_ (by rw [sizeLine_eq]; omega))
  refine wpAny_bind (wpAny_newList ?_ (by rw [sizeLine_eq]; omega))
  have hsz : ((s.heap.push (seqObj "list" #[] 0)).update s.heap.objs.size (Obj.mapSeq (· ++ vs.toArray))).objs.size = s.heap.objs.size + 1 := by
    rw [Heap.size_update, size_push']
  have hoL : (((s.heap.push (seqObj "list" #[] 0)).update s.heap.objs.size (Obj.mapSeq (· ++ vs.toArray))).push (seqObj "list" vs.toArray 0)).get? (s.heap.objs.size + 1) = some (seqObj "list" vs.toArray 0) := by
    rw [← hsz]; exact Heap.get?_push_size _ rfl
  have keep : ∀ b o, s.heap.get? b = some o → (((s.heap.push (seqObj "list" #[] 0)).update s.heap.objs.size (Obj.mapSeq (· ++ vs.toArray))).push (seqObj "list" vs.toArray 0)).get? b = some o := fun b o q => by
    have hlt : b < s.heap.objs.size := Heap.lt_size q
    rw [Heap.get?_push_ne _ _ _ (by rw [hsz]; exact Nat.ne_of_lt (Nat.lt_succ_of_lt hlt)), Heap.get?_update_ne _ _ _ _ (Nat.ne_of_lt hlt), Heap.get?_push_ne _ _ _ (Nat.ne_of_lt hlt)]
    exact q
  have neD : ∀ b o, s.heap.get? b = some o → b ≠ s.heap.objs.size + 1 := fun b o q => Nat.ne_of_lt (Nat.lt_succ_of_lt (Heap.lt_size q))
  show wpAny _ _ _ _ _ { s with heap := ((s.heap.push (seqObj "list" #[] 0)).update s.heap.objs.size (Obj.mapSeq (· ++ vs.toArray))).push (seqObj "list" vs.toArray 0) }
  rw [hsz]
  refine wpAny_bind (wpAny_holding (wpAny_call_entry slot_list_sort ⟨_, hoL, rfl⟩ entry_list_sort (list_sort_by (κ := κ) (s := { s with heap := ((s.heap.push (seqObj "list" #[] 0)).update s.heap.objs.size (Obj.mapSeq (· ++ vs.toArray))).push (seqObj "list" vs.toArray 0) }) O hoL h64 ?_ ?_ fun p hr hu => ⟨_, rfl, ?_⟩) (args_list_sort _)))
  · intro s' hs' Q' h2 hq
    exact hk _ s' (by simp [Around.in1_units]) (fun b o e => hs' b o (neD b o e) (keep b o e)) Q' h2 hq
  · intro s' hs' i j C hi hj hC
    exact hlt _ s' (by simp [Around.in1_units]) (fun b o e => hs' b o (neD b o e) (keep b o e)) i j C hi hj hC
  · refine wpAny_pure ⟨_, rfl, h p _ hr hu (fun b o e => ?_) (Nat.le_succ _) ?_⟩
    · unfold sortedHeap
      rw [Heap.get?_update_ne _ _ _ _ (neD b o e)]
      refine Heap.get?_push_of_some _ (Heap.get?_push_of_some _ ?_)
      rw [Heap.get?_update_ne _ _ _ _ (neD b o e)]
      exact keep b o e
    · unfold sortedHeap
      obtain ⟨e1, ho1⟩ : ∃ e1, ((((s.heap.push (seqObj "list" #[] 0)).update s.heap.objs.size (Obj.mapSeq (· ++ vs.toArray))).push (seqObj "list" vs.toArray 0)).update (s.heap.objs.size + 1) (Obj.mapSeq fun _ => (#[] : Array Value))).get? (s.heap.objs.size + 1) = some (seqObj "list" #[] e1) := ⟨_, get?_update_seq hoL fun _ => #[]⟩
      exact ⟨_, get?_update_seq (Heap.get?_push_of_some _ (Heap.get?_push_of_some _ ho1)) _⟩
end
end SRT
set_option linter.all false
set_option maxRecDepth 100000
namespace TB
open PySem PySem.SetTable
theorem entry_set_iter : entryFor table "set.__iter__" = some Builtin.«frozenset.__iter__» :=
  entryFor_alias (id' := "frozenset.__iter__") (by kernel_rfl) rfl (by decide +kernel) (by kernel_rfl)
theorem slot_si_next : Slot "set_iterator" "__next__" "set_iterator.__next__" :=
  .of (owner := "set_iterator") (n := "__next__") (by rw [typeLookup_type, builtinLookup_eq_fast]; kernel_rfl) (by decide +kernel) (by decide +kernel) (by decide +kernel)
    (by first | exact .inl (by decide +kernel) | exact .inr (by decide +kernel)) (by rw [isSubtype_type]; kernel_rfl)
theorem slot_si_iter : Slot "set_iterator" "__iter__" "set_iterator.__iter__" :=
  .of (owner := "set_iterator") (n := "__iter__") (by rw [typeLookup_type, builtinLookup_eq_fast]; kernel_rfl) (by decide +kernel) (by decide +kernel) (by decide +kernel)
    (by first | exact .inl (by decide +kernel) | exact .inr (by decide +kernel)) (by rw [isSubtype_type]; kernel_rfl)
theorem entry_si_next : entryFor table "set_iterator.__next__" = some Builtin.«set_iterator.__next__» := entryFor_of_tree (by kernel_rfl)
theorem owner_si : Manifest.owners.lookup (String.ofList ['r', 'o', 't', 'a', 'r', 'e', 't', 'i', '_', 't', 'e', 's'].reverse) = some Manifest.sig_set_iterator := by kernel_rfl
theorem args_si_next (a : Value) : argsOk "set_iterator.__next__" ⟨[a], []⟩ := by
  unfold argsOk; rw [signature?_of (id := "set_iterator.__next__") (n := ['_', '_', 't', 'x', 'e', 'n', '_', '_']) (o := ['r', 'o', 't', 'a', 'r', 'e', 't', 'i', '_', 't', 'e', 's']) (by kernel_rfl) owner_si]; kernel_rfl
theorem args_si_iter (a : Value) : argsOk "set_iterator.__iter__" ⟨[a], []⟩ := by
  unfold argsOk; rw [signature?_of (id := "set_iterator.__iter__") (n := ['_', '_', 'r', 'e', 't', 'i', '_', '_']) (o := ['r', 'o', 't', 'a', 'r', 'e', 't', 'i', '_', 't', 'e', 's']) (by kernel_rfl) owner_si]; kernel_rfl
theorem entry_si_iter : ∃ b, entryFor table "set_iterator.__iter__" = some b ∧ b = Builtin.«dict_keyiterator.__iter__» :=
  ⟨_, entryFor_alias (id' := "dict_keyiterator.__iter__") (by kernel_rfl) rfl (by decide +kernel) (by kernel_rfl), rfl⟩
theorem pick_perm {α : Type} (next : Nat → Nat) : ∀ (fuel k : Nat) (left : List α) (out : Array α), left.length = fuel → (pickOrder.go next fuel k left out).toList.Perm (out.toList ++ left)
  | 0, k, left, out, h => by
    have : left = [] := List.length_eq_zero_iff.mp h
    subst this
    rw [List.append_nil]
    exact .rfl
  | fuel + 1, k, left, out, h => by
    unfold pickOrder.go
    have hlt : next k % left.length < left.length := Nat.mod_lt _ (by omega)
    rw [List.getElem?_eq_getElem hlt]
    dsimp only
    refine (pick_perm next fuel (k + 1) _ _ (by rw [List.length_eraseIdx, if_pos hlt]; omega)).trans ?_
    rw [Array.toList_push, List.append_assoc]
    refine List.Perm.append_left _ ?_
    rw [List.singleton_append]
    rw [List.eraseIdx_eq_take_drop_succ]
    refine List.perm_middle.symm.trans ?_
    rw [List.getElem_cons_drop, List.take_append_drop]
noncomputable def ordS (w : World) (a : Addr) (ep : Nat) (es : Array (Int × Value)) : Array (Int × Value) := if bt w then pickOrder (w.params.setOrder a ep) es else es
theorem ord_perm (w : World) (a : Addr) (ep : Nat) (es : Array (Int × Value)) : (ordS w a ep es).toList.Perm es.toList := by
  unfold ordS
  split
  · exact pick_perm _ _ _ _ _ rfl
  · exact .rfl
theorem ord_size (w : World) (a : Addr) (ep : Nat) (es : Array (Int × Value)) : (ordS w a ep es).size = es.size := by
  rw [← Array.length_toList, (ord_perm w a ep es).length_eq, Array.length_toList]
noncomputable def IsSI (w : World) (t : SetTable) (h : Heap) (I a : Addr) (n ep i : Nat) : Prop :=
  ∃ o slot, h.get? I = some o ∧ o.cls = .type "set_iterator" ∧ o.data = .fields #[.int (slot : Nat) 0, .int (i : Nat) 0, .ref a, .int (n : Nat) 0, .int (ep : Nat) 0] ∧ (bt w = false → below t.place slot = i)
theorem IsSI.typeIs {w : World} {t : SetTable} {s : Shared} {I a : Addr} {n ep i : Nat} (x : IsSI w t s.heap I a n ep i) : s.TypeIs (.ref I) "set_iterator" := let ⟨o, _, ho, hc, _⟩ := x; ⟨o, ho, hc⟩
section
variable {prog : Program} {w : World} {A : Around} {E : Value → Shared → Prop} {s : Shared}
theorem not_drawn {es : Array (Int × Value)} {t : SetTable} {ns : List Int} (S : ISt w es t ns) : (!t.plain && decide (es.size > 1)) = false := by rw [S.pl]; rfl
theorem iter_set {a : Addr} {o : Obj} {es : Array (Int × Value)} {ep : Nat} {t : SetTable} {ns : List Int} {Q : Value → Shared → Prop} (S : ISt w es t ns) (ho : s.heap.get? a = some o) (hex : o.ExactSet) (hd : o.data = .set es ep t)
    (hQ : Q (.ref s.heap.objs.size) { s with heap := s.heap.push { cls := .type "set_iterator", data := .fields #[.int 0 0, .int 0 0, .ref a, .int es.size 0, .int ep 0] } }) : wpAny (model prog w) A (pyIter (.ref a)) Q E s := by
  have hT : s.TypeIs (.ref a) "set" := ⟨o, ho, hex.1⟩
  refine wpAny_pyIter_slot hT F.slot_set_iter (wpAny_call_entry F.slot_set_iter hT entry_set_iter ?_ (F.args_set_iter_1 _))
  unfold Builtin.«frozenset.__iter__» Builtin.Frozenset.slot0
  refine wpAny_bind ?_
  show wpAny _ _ (pure a) _ _ s
  refine wpAny_pure ?_
  unfold Builtin.Frozenset.sizeOf
  refine wpAny_bind (wpAny_bind (wpAny_setEntries_of ho hd S.fits (wpAny_pure ?_)))
  refine wpAny_bind ?_
  unfold setDrawn
  refine wpAny_bind (wpAny_setState_of ho hd S.fits ?_)
  unfold setsByText
  refine wpAny_bind (wpAny_bind (wpAny_askSetting (wpAny_pure ?_)))
  refine wpAny_pure ?_
  have hdr : (!(model prog w).w.params.followText "set-order" && (!t.plain && decide (es.size > 1))) = false := by rw [not_drawn S, Bool.and_false]
  show wpAny _ _ (if (!(model prog w).w.params.followText "set-order" && (!t.plain && decide (es.size > 1))) = true then _ else _) _ _ _
  rw [hdr]
  simp only [Bool.false_eq_true, if_false]
  refine wpAny_bind (wpAny_pure ?_)
  refine wpAny_bind (wpAny_setEpoch_of ho hd S.fits ?_)
  refine wpAny_bind (wpAny_newObj_type (wpAny_pure ⟨_, rfl, "set_iterator", _, ⟨_, Heap.get?_push_size _ rfl, rfl⟩, slot_si_next.lookup, ?_⟩))
  simpa [rawInt] using hQ
theorem next_set {a : Addr} {o : Obj} {es : Array (Int × Value)} {ep slot i : Nat} {t : SetTable} {ns : List Int} {Q : Option (Value × Nat) → Shared → Prop} (S : ISt w es t ns) (ho : s.heap.get? a = some o) (hd : o.data = .set es ep t) (hs : bt w = false → below t.place slot = i)
    (h1 : ∀ v slot', (ordS w a ep es)[i]?.map (·.2) = some v → (bt w = false → below t.place slot' = i + 1) → Q (some (v, slot')) s) (h2 : (ordS w a ep es)[i]? = none → Q none s) : wpAny (model prog w) A (setNext a slot i ep) Q E s := by
  unfold setNext
  refine wpAny_bind (wpAny_setState_of ho hd S.fits ?_)
  unfold setsByText
  refine wpAny_bind (wpAny_bind (wpAny_askSetting (wpAny_pure ?_)))
  show wpAny _ _ (if bt w = true then _ else _) _ _ _
  cases hb : bt w with
  | true =>
    simp only [if_true, bne_self_eq_false, Bool.false_eq_true, if_false]
    refine wpAny_bind ?_
    unfold setWalk
    refine wpAny_bind (wpAny_setState_of ho hd S.fits ?_)
    unfold setsByText
    refine wpAny_bind (wpAny_bind (wpAny_askSetting (wpAny_pure ?_)))
    show wpAny _ _ (if bt w = true then _ else _) _ _ _
    rw [hb]
    simp only [if_true]
    refine wpAny_bind (wpAny_askSetting (wpAny_pure ?_))
    have e : ordS w a ep es = pickOrder (w.params.setOrder a ep) es := by unfold ordS; rw [hb]; rfl
    rw [e] at h1 h2
    show wpAny _ _ (pure (((pickOrder (w.params.setOrder a ep) es)[i]?).map fun e => (e.2, slot))) _ _ _
    cases hx : (pickOrder (w.params.setOrder a ep) es)[i]? with
    | none => exact wpAny_pure (h2 hx)
    | some x => exact wpAny_pure (h1 x.2 slot (by rw [hx]; rfl) (fun z => absurd (hb.symm.trans z) (by decide)))
  | false =>
    simp only [Bool.false_eq_true, if_false]
    have e : ordS w a ep es = es := by unfold ordS; rw [hb]; rfl
    rw [e] at h1 h2
    show wpAny _ _ (if (!t.plain && decide (es.size > 1)) = true then _ else _) _ _ _
    rw [not_drawn S]
    simp only [Bool.false_eq_true, if_false]
    refine wpAny_bind ?_
    show wpAny _ _ (if (!t.led && !es.isEmpty) = true then _ else _) _ _ _
    rw [S.led hb]
    simp only [Bool.not_true, Bool.false_and, Bool.false_eq_true, if_false]
    refine wpAny_pure ?_
    have hsl := hs hb
    obtain ⟨l, T, hl⟩ := S.tb
    have hlen : l.length = es.size := by rw [hl, S.size]
    rw [hsl]
    by_cases hi : i < es.size
    · have e1 : es[i]? = some es[i] := Array.getElem?_eq_getElem hi
      have e2 : t.place[i]? = some (l[i]'(by omega)) := by rw [T.pl, List.getElem?_toArray, List.getElem?_eq_getElem (by omega)]
      rw [e1, e2]
      refine wpAny_pure (h1 _ _ (by rw [e1]; rfl) fun _ => ?_)
      obtain ⟨b1, b2, b3⟩ := below_spec T.up (l[i]'(by omega) + 1)
      rw [T.pl]
      rcases Nat.lt_trichotomy (below l.toArray (l[i]'(by omega) + 1)) (i + 1) with z | z | z
      · have := b3 i (by omega) (by omega)
        omega
      · exact z
      · have hi2 : i + 1 < l.length := by omega
        have q1 := b2 (i + 1) hi2 z
        have q2 := List.pairwise_iff_getElem.mp T.up i (i + 1) (by omega) hi2 (by omega)
        omega
    · have e1 : es[i]? = none := Array.getElem?_eq_none (by omega)
      rw [e1]
      exact wpAny_pure (h2 e1)
theorem si_item {I a : Addr} {o : Obj} {es : Array (Int × Value)} {ep i : Nat} {t : SetTable} {ns : List Int} {Q : Option Value → Shared → Prop} (S : ISt w es t ns) (hi : i < es.size) (hit : IsSI w t s.heap I a es.size ep i) (ho : s.heap.get? a = some o) (hd : o.data = .set es ep t) (hne : a ≠ I)
    (hQ : ∀ v h', (ordS w a ep es)[i]?.map (·.2) = some v → IsSI w t h' I a es.size ep (i + 1) → Heap.SameBut I s.heap h' → Q (some v) { s with heap := h' }) : wpAny (model prog w) A (pyNext (.ref I)) Q E s := by
  obtain ⟨oi, slot, hoi, hci, hdi, hsl⟩ := id hit
  unfold pyNext
  refine wpAny_bind (wpAny_attempt (wpAny_callSpecial?_slot (name := Str.ofString "__next__") hit.typeIs slot_si_next
    (wpAny_call_entry slot_si_next hit.typeIs entry_si_next ?_ (args_si_next _))))
  unfold Builtin.«set_iterator.__next__»
  refine wpAny_bind (wpAny_pure ?_)
  refine wpAny_bind (wpAny_fieldsOf hoi hdi ?_)
  dsimp only
  refine wpAny_bind (wpAny_setEntries_of ho hd S.fits ?_)
  rw [if_neg (by simp)]
  show wpAny _ _ (setNext a (Int.toNat (slot : Int)) (Int.toNat (i : Int)) (Int.toNat (ep : Int)) >>= _) _ _ _
  rw [Int.toNat_natCast, Int.toNat_natCast, Int.toNat_natCast]
  refine wpAny_bind (next_set S ho hd hsl (fun v slot' hv hs' => ?_) fun hn => ?_)
  · dsimp only
    refine wpAny_bind (wpAny_setField hoi hdi (by simp) ?_)
    have h1 : (s.heap.update I (Obj.mapFields (·.setIfInBounds 0 (rawInt (slot' : Nat))))).get? I = some _ := Heap.get?_update_self _ hoi (Obj.isFreed_of_fields (Obj.data_mapFields hdi _))
    refine wpAny_bind (wpAny_setField h1 (Obj.data_mapFields hdi _) (by simp) ?_)
    have h2 := Heap.get?_update_self (Obj.mapFields (·.setIfInBounds 1 (rawInt ((i : Int) + 1)))) h1 (Obj.isFreed_of_fields (Obj.data_mapFields (Obj.data_mapFields hdi _) _))
    refine wpAny_pure ⟨_, rfl, wpAny_pure (hQ v _ hv ⟨_, slot', h2, ?_, ?_, hs'⟩ ((Heap.SameBut.update ..).trans (Heap.SameBut.update ..)))⟩
    · rw [Obj.cls_mapFields, Obj.cls_mapFields]; exact hci
    · rw [Obj.data_mapFields (Obj.data_mapFields hdi _)]; simp [rawInt]
  · exfalso
    rw [Array.getElem?_eq_none_iff, ord_size] at hn
    omega
theorem si_end {I a : Addr} {o : Obj} {es : Array (Int × Value)} {ep : Nat} {t : SetTable} {ns : List Int} {Q : Option Value → Shared → Prop} (hh : A.handled = none) (S : ISt w es t ns) (hit : IsSI w t s.heap I a es.size ep es.size) (ho : s.heap.get? a = some o) (hd : o.data = .set es ep t)
    (hQ : ∀ h', Heap.ExtBut I s.heap h' → Q none { s with heap := h' }) : wpAny (model prog w) A (pyNext (.ref I)) Q E s := by
  obtain ⟨oi, slot, hoi, hci, hdi, hsl⟩ := id hit
  unfold pyNext
  refine wpAny_bind (wpAny_attempt (wpAny_callSpecial?_slot (name := Str.ofString "__next__") hit.typeIs slot_si_next
    (wpAny_call_entry slot_si_next hit.typeIs entry_si_next ?_ (args_si_next _))))
  unfold Builtin.«set_iterator.__next__»
  refine wpAny_bind (wpAny_pure ?_)
  refine wpAny_bind (wpAny_fieldsOf hoi hdi ?_)
  dsimp only
  refine wpAny_bind (wpAny_setEntries_of ho hd S.fits ?_)
  rw [if_neg (by simp)]
  show wpAny _ _ (setNext a (Int.toNat (slot : Int)) (Int.toNat (es.size : Int)) (Int.toNat (ep : Int)) >>= _) _ _ _
  rw [Int.toNat_natCast, Int.toNat_natCast, Int.toNat_natCast]
  refine wpAny_bind (next_set S ho hd hsl (fun v slot' hv hs' => ?_) fun hn => ?_)
  · exfalso
    have : (ordS w a ep es)[es.size]? = none := Array.getElem?_eq_none (by rw [ord_size]; exact Nat.le_refl _)
    rw [this] at hv
    cases hv
  · dsimp only
    refine wpAny_bind (wpAny_setField hoi hdi (by simp) ?_)
    show wpAny _ _ (newExc (.type "StopIteration") [] >>= _) _ _ _
    refine wpAny_bind ?_
    simp only [newExc, newTuple]
    refine wpAny_bind (wpAny_newObj_type ?_ (by size_fits))
    refine wpAny_bind (m := firstArgMember _ _) (wpAny_of_eq (a := Value.none) (by first | rfl | (simp only [firstArgMember]; rfl)) ?_)
    refine wpAny_newObj_type ?_ (by size_fits)
    simp only [raiseNew]
    refine wpAny_bind (wpAny_handled ?_)
    rw [show A.in1.handled = none from hh]
    refine wpAny_bind (wpAny_pure (wpAny_throw ?_))
    refine wpAny_bind (wpAny_isInstance (T := "StopIteration") (b := true) ⟨_, Heap.get?_push_size _ rfl, rfl⟩ isSubtype_stop ?_)
    exact wpAny_pure (hQ _ (((Heap.SameBut.update ..).extBut.push _).push _))
theorem si_self {I a : Addr} {n ep i : Nat} {t : SetTable} {Q : Value → Shared → Prop} (hit : IsSI w t s.heap I a n ep i) (h : Q (.ref I) s) : wpAny (model prog w) A (pyIter (.ref I)) Q E s := by
  obtain ⟨b, hb, e⟩ := entry_si_iter
  subst e
  refine wpAny_pyIter_slot hit.typeIs slot_si_iter (wpAny_call_entry slot_si_iter hit.typeIs hb ?_ (args_si_iter _))
  show wpAny _ _ (ret (.ref I)) _ _ s
  exact wpAny_pure ⟨_, rfl, "set_iterator", _, hit.typeIs, slot_si_next.lookup, h⟩
theorem walks_set {es : Array (Int × Value)} {t : SetTable} {ns : List Int} {ep : Nat} (S : ISt w es t ns) (hh : A.handled = none) (I a : Addr) (hne : a ≠ I) (o : Obj) (hd : o.data = .set es ep t) :
    Walks prog w A I [I, a] [I] es.size (fun i v => (ordS w a ep es)[i]?.map (·.2) = some v) (fun i h => IsSI w t h I a es.size ep i ∧ h.get? a = some o) where
  sub := fun b hb => by simp at hb; simp [hb]
  frame := fun i h h' st hk => by
    obtain ⟨⟨oi, slot, h1, h2⟩, h3⟩ := st
    exact ⟨⟨oi, slot, hk I (by simp) _ h1, h2⟩, hk a (by simp) _ h3⟩
  item := fun i s Q E hi st hQ => by
    refine si_item S hi st.1 st.2 hd hne fun v h' hv hit' hs' => ?_
    exact hQ v h' s.toks hv ⟨hit', hs'.extBut a o hne st.2⟩ fun b o hb e => hs'.extBut b o (fun h => hb (by simp [h])) e
  done := fun s Q E st hQ => si_end hh S st.1 st.2 hd fun h' he' => hQ h' s.toks fun b o hb e => he' b o (fun h => hb (by simp [h])) e
  self := fun _ _ _ _ st hQ => si_self st.1 hQ
theorem hint_set {r : Addr} {Q : Bool → Shared → Prop} (hT : s.TypeIs (.ref r) "set") (h : Q false s) : wpAny (model prog w) A (Builtin.List.listLengthHint (.ref r)) Q E s := by
  unfold Builtin.List.listLengthHint
  refine wpAny_bind (wpAny_specialOf hT PySem.F.slot_set_len.lookup ?_)
  generalize hid : ("set.__len__" : String) = id0
  wp_delta
  rw [show splitId id0 = some ("set", "__len__") from by subst hid; decide +kernel]
  subst hid
  refine wpAny_bind (wpAny_isInstance (T := "set") (b := true) hT (by rw [isSubtype_type]; kernel_rfl) ?_)
  refine wpAny_ite_split (fun hab => absurd hab (by decide)) (fun _ => ?_)
  refine wpAny_ite_split (fun _ => ?_) (fun hab => absurd (by decide +kernel) hab)
  refine wpAny_bind (wpAny_typeOf hT ?_)
  exact wpAny_pure h
theorem src_set {es : Array (Int × Value)} {t : SetTable} {ns : List Int} {ep : Nat} {a : Addr} {o : Obj} (S : ISt w es t ns) (hex : o.ExactSet) (hd : o.data = .set es ep t) :
    PySem.W.KdlSrc prog w "set" a a es.size (fun i v => (ordS w a ep es)[i]?.map (·.2) = some v) (fun h => h.get? a = some o) where
  type := fun _ hm => ⟨o, hm, hex.1⟩
  there := fun _ hm => ⟨Heap.lt_size hm, Heap.lt_size hm⟩
  keep := fun _ _ hm hk => hk a (.inl rfl) o hm
  notList := by decide
  notTuple := by decide
  hint := fun _ _ _ _ hm hq => hint_set ⟨o, hm, hex.1⟩ hq
  iter := fun A s hh hm => ⟨{ cls := .type "set_iterator", data := .fields #[.int 0 0, .int 0 0, .ref a, .int es.size 0, .int ep 0] }, _, (fun _ _ hq => iter_set S hm hex hd hq), walks_set S hh _ a (Nat.ne_of_lt (Heap.lt_size hm)) o hd,
    ⟨⟨_, 0, Heap.get?_push_size _ rfl, rfl, rfl, fun _ => by
      obtain ⟨l, T, hl⟩ := S.tb
      obtain ⟨b1, b2, b3⟩ := below_spec T.up 0
      rw [T.pl]
      rcases Nat.eq_zero_or_pos (below l.toArray 0) with z | z
      · exact z
      · have := b2 0 (by omega) z
        omega⟩, Heap.get?_push_of_some _ hm⟩⟩
end
end TB
set_option linter.all false
namespace TB
open PySem PySem.SetTable
theorem IS.moved {w : World} {wr : List Addr} {G : Array GenState → Array GenState → Prop} {s s' : Shared} {S : Addr} {ns : List Int} (m : Moved wr G s s') (hS : S ∉ wr) (h : IS w s.heap S ns) : IS w s'.heap S ns := by
  obtain ⟨o, es, ep, t, ho, r⟩ := h
  exact ⟨o, es, ep, t, m.heap S o hS ho, r⟩
theorem IS.at {w : World} {h h' : Heap} {S : Addr} {ns : List Int} (x : IS w h S ns) (k : ∀ o, h.get? S = some o → h'.get? S = some o) : IS w h' S ns := by
  obtain ⟨o, es, ep, t, ho, r⟩ := x
  exact ⟨o, es, ep, t, k o ho, r⟩
theorem is_fresh {w : World} {h : Heap} {a : Addr} (ho : h.get? a = some { cls := .type "set", dict := none, data := .set #[] 0 (.fresh 0 0 (!bt w)) }) : IS w h a [] :=
  ⟨_, #[], 0, _, ho, ⟨rfl, rfl, rfl⟩, rfl, ⟨⟨fun _ => 0, rfl⟩, List.nodup_nil, ⟨[], ⟨rfl, rfl, List.Pairwise.nil, fun _ h => by simp at h⟩, rfl⟩, Or.inl rfl, (by show 0 < 21; decide), rfl, fun z => by show (!bt w) = true; rw [z]; rfl⟩⟩
section
variable {prog : Program} {w : World} {A : Around} {R : Result → Shared → Prop} {I : Addr} {fp wr : List Addr} {G : Array GenState → Array GenState → Prop} {n : Nat} {P : Nat → Value → Prop} {St : Nat → Shared → Prop}
theorem loop_ints (W : WalksS prog w A.in1 I fp wr G n P St) (S : Addr) (hSf : S ∉ fp) (val : Nat → Int) (hval : ∀ i v, P i v → ∃ t, v = .int (val i) t) (hn : n ≤ 60) :
    ∀ (k i : Nat) (s : Shared) (ms : List Int), n - i = k → i ≤ n → St i s → IS w s.heap S ms → ms.length ≤ i → (∀ x, x ∈ ms ↔ ∃ j, j < i ∧ val j = x) →
      (∀ s' ms', Moved (S :: wr) G s s' → IS w s'.heap S ms' → ms'.length ≤ n → (∀ x, x ∈ ms' ↔ ∃ j, j < n ∧ val j = x) → R (.ok (.ret .none)) s') →
      codeAny (model prog w) A (.builtin "set.update.loop" ⟨[.ref S, .ref I], []⟩) R s := by
  have hSw : S ∉ wr := fun h => hSf (W.sub _ h)
  have hsub : ∀ b ∈ wr, b ∈ S :: wr := fun b hb => List.mem_cons_of_mem _ hb
  intro k
  induction k with
  | zero =>
    intro i s ms hk hi hst hS hl hmem hR
    have hin : i = n := by omega
    subst hin
    refine codeAny_builtin PyProof.Rows.F.entry_set_update_loop ?_
    rw [Around.under_plainId PyProof.Rows.F.plain_set_update_loop _]
    show wpAny _ A.in1 (pyNext (.ref I) >>= _) _ _ s
    refine wpAny_bind (W.done s _ _ hst fun s' hm => ?_)
    show wpAny _ A.in1 (ret Value.none) _ _ s'
    exact wpAny_pure (hR s' ms (hm.mono hsub) (hS.moved hm hSw) hl hmem)
  | succ k ih =>
    intro i s ms hk hi hst hS hl hmem hR
    have hlt : i < n := by omega
    refine codeAny_builtin PyProof.Rows.F.entry_set_update_loop ?_
    rw [Around.under_plainId PyProof.Rows.F.plain_set_update_loop _]
    show wpAny _ A.in1 (pyNext (.ref I) >>= _) _ _ s
    refine wpAny_bind (W.item i s _ _ hlt hst fun v s' hP hst' hm => ?_)
    obtain ⟨t, rfl⟩ := hval i v hP
    have hS' : IS w s'.heap S ms := hS.moved hm hSw
    show wpAny _ A.in1 (holding [Value.int (val i) t] (setAdd S (.int (val i) t)) >>= _) _ _ s'
    refine wpAny_bind (wpAny_holding ?_)
    unfold setAdd
    refine wpAny_holding ?_
    refine wpAny_bind ((intKind prog w).pyHash (k := val i) (intKind_is _ _ _ _) ?_)
    refine add_int (s := { s' with toks := s'.toks + 1 }) hS' (by omega) fun r h' ms' hsb hS2 hor => ?_
    have hsb' : Heap.SameBut S s'.heap h' := hsb
    have hlen' : ms'.length ≤ i + 1 := by
      rcases hor with ⟨_, e⟩ | ⟨_, e⟩
      · rw [e]; omega
      · have := e.length_eq
        rw [List.length_cons] at this
        omega
    have hmem' : ∀ x, x ∈ ms' ↔ ∃ j, j < i + 1 ∧ val j = x := fun x => by
      rcases hor with ⟨hin, e⟩ | ⟨_, e⟩
      · rw [e, hmem x]
        constructor
        · rintro ⟨j, hj, e'⟩; exact ⟨j, by omega, e'⟩
        · rintro ⟨j, hj, e'⟩
          by_cases hji : j = i
          · rw [← e', hji]; exact (hmem _).mp hin
          · exact ⟨j, by omega, e'⟩
      · rw [e.mem_iff, List.mem_cons, hmem x]
        constructor
        · rintro (e' | ⟨j, hj, e'⟩)
          · exact ⟨i, by omega, e'.symm⟩
          · exact ⟨j, by omega, e'⟩
        · rintro ⟨j, hj, e'⟩
          by_cases hji : j = i
          · left; rw [← e', hji]
          · exact .inr ⟨j, by omega, e'⟩
    refine wpAny_pure ⟨plainId_quiet PyProof.Rows.F.plain_set_update_loop _, ih (i + 1) _ ms' (by omega) hlt (W.frame _ s' _ _ hst' (Nat.le_succ _) fun b hb o e => ?_) hS2 hlen' hmem' fun s'' ms'' hm'' hS'' hl'' hmm'' => ?_⟩
    · rw [hsb'.2 b (fun h : b = S => hSf (by rw [← h]; exact hb))]; exact e
    · refine hR s'' ms'' (Moved.trans W.gtrans ((hm.mono hsub).then_heap (Nat.le_succ _) fun b o hb e => ?_) hm'') hS'' hl'' hmm''
      rw [hsb'.2 b (fun h : b = S => hb (by rw [h]; exact List.mem_cons_self))]; exact e
end
section
variable {prog : Program} {w : World} {A : Around} {E : Value → Shared → Prop} {s : Shared}
theorem code_set_newL (a : Value) {Q₁ : Value → Shared → Prop}
    (h : Q₁ (.ref s.heap.objs.size) { s with heap := s.heap.push { cls := .type "set", dict := none, data := .set #[] 0 (.fresh 0 0 (!bt w)) } }) :
    codeAny (model prog w) A (.call (.builtin "set.__new__") ⟨[.type "set", a], []⟩) (wants Q₁ E) s := by
  refine codeAny_of_tree ?_
  show wpAny _ A.in1 (do checkBuiltinCall "set.__new__" ⟨[.type "set", a], []⟩; again (.builtin "set.__new__" ⟨[.type "set", a], []⟩)) _ _ s
  refine wpAny_bind (wpAny_of_eq (F.newCall_set_1 a) (wpAny_pure ⟨plainId_quiet F.plain_set_new _, codeAny_builtin F.entry_set_new ?_⟩))
  rw [Around.under_plainId F.plain_set_new _]
  unfold Builtin.«set.__new__» Builtin.Frozenset.newClass
  have hsub := sub_set_self
  obtain ⟨hp, g, d, tk, os⟩ := s
  dsimp only
  wp_walk
  refine wpAny_askSetting (wpAny_pure ?_)
  dsimp only
  simp only [newObj]
  refine wpAny_bind (wpAny_alloc (wpAny_pure ?_))
  exact wpAny_pure h
set_option maxRecDepth 100000 in
set_option maxHeartbeats 3200000 in
theorem call_set_new {x : Value} {Q : Value → Shared → Prop}
    (h : wpAny (model prog w) A.in1.in1 (Builtin.«set.__init__» ⟨[.ref s.heap.objs.size, x], []⟩)
      (fun fin s' => match fin with | .done f => wants (fun r s₂ => r = .none ∧ Q (.ref s.heap.objs.size) s₂) E (.ok f) s' | .again c' => c'.quiet = true ∧ codeAny (model prog w) A.in1 c' (wants (fun r s₂ => r = .none ∧ Q (.ref s.heap.objs.size) s₂) E) s')
      (fun e s' => wants (fun r s₂ => r = .none ∧ Q (.ref s.heap.objs.size) s₂) E (.error e) s') { s with heap := s.heap.push { cls := .type "set", dict := none, data := .set #[] 0 (.fresh 0 0 (!bt w)) } }) :
    wpAny (model prog w) A (call (.type "set") [x]) Q E s := by
  obtain ⟨c, tl, hmro⟩ := F.called_set.mro
  have hmade := F.called_set.made
  have hsub := F.called_set.sub
  refine wpAny_call (codeAny_of_tree ?_)
  show wpAny _ _ (callAny (.type "set") _) _ _ _
  refine wpAny_pure ⟨Code.quiet_builtin _ (by decide +kernel), codeAny_builtin F.entry_type_call ?_⟩
  rw [Around.under_plain (weight_type_call_type "set" [x] []) rfl]
  have h1 := F.called_set.notType
  have h2 := F.called_set.canCreate
  have hct := F.typeCall_set_1 x
  repeat (any_goals (first | assumption | wp_step))
  refine codeAny_mono (code_set_newL x (E := E) (Q₁ := fun obj s₁ => obj = .ref s.heap.objs.size ∧ s₁ = { s with heap := s.heap.push { cls := .type "set", dict := none, data := .set #[] 0 (.fresh 0 0 (!bt w)) } }) ⟨rfl, rfl⟩) fun r s₁ hr => ?_
  cases r with
  | error e => exact hr
  | ok fl =>
    cases fl with
    | ret obj =>
      obtain ⟨rfl, rfl⟩ := hr
      have hS : (s.heap.push { cls := .type "set", dict := none, data := .set #[] 0 (.fresh 0 0 (!bt w)) }).get? s.heap.objs.size = some { cls := .type "set", dict := none, data := .set #[] 0 (.fresh 0 0 (!bt w)) } := Heap.get?_push_size _ rfl
      have hT : Shared.TypeIs { s with heap := s.heap.push { cls := .type "set", dict := none, data := .set #[] 0 (.fresh 0 0 (!bt w)) } } (.ref s.heap.objs.size) "set" := ⟨_, hS, rfl⟩
      have hli := F.called_set.init.lookup
      have hbi := F.called_set.init.bind (.ref s.heap.objs.size)
      repeat (any_goals (first | assumption | wp_step))
      refine codeAny_mono (codeAny_call_builtin (R := wants (fun r s₂ => r = .none ∧ Q (.ref s.heap.objs.size) s₂) E) F.called_set.init.plain F.entry_set_init (check_set_init_1 hT ?_)) fun r₂ s₂ hr₂ => ?_
      · exact h
      · cases r₂ with
        | error e => exact hr₂
        | ok fl₂ =>
          cases fl₂ with
          | ret r =>
            obtain ⟨rfl, hq⟩ := hr₂
            repeat (any_goals (first | assumption | wp_step))
          | _ => exact hr₂.elim
    | _ => exact hr.elim
set_option maxRecDepth 100000 in
set_option maxHeartbeats 3200000 in
theorem set_ints {l : Addr} {items : Array Value} {val : Nat → Int} {Q : Value → Shared → Prop}
    (hh : A.handled = none) (hl : s.heap.IsList l items) (hi : ∀ (i : Nat) (v : Value), items[i]? = some v → ∃ t, v = Value.int (val i) t) (hb : items.size ≤ 60)
    (h : ∀ (h' : Heap) (tk : Nat) (ms : List Int), IS w h' s.heap.objs.size ms → (∀ x, x ∈ ms ↔ ∃ j, j < items.size ∧ val j = x) →
      (∀ b o, b < s.heap.objs.size → s.heap.get? b = some o → h'.get? b = some o) → Q (.ref s.heap.objs.size) { s with heap := h', toks := tk }) :
    wpAny (model prog w) A (call (.type "set") [.ref l]) Q E s := by
  refine call_set_new ?_
  obtain ⟨ol, hol, hcl, nl, hdl⟩ := hl
  obtain ⟨ocls, odict, odata, oslots⟩ := ol
  simp only at hcl hdl
  subst hcl; subst hdl
  have hS : (s.heap.push { cls := .type "set", dict := none, data := .set #[] 0 (.fresh 0 0 (!bt w)) }).get? s.heap.objs.size = some { cls := .type "set", dict := none, data := .set #[] 0 (.fresh 0 0 (!bt w)) } := Heap.get?_push_size _ rfl
  have hol' : (s.heap.push { cls := .type "set", dict := none, data := .set #[] 0 (.fresh 0 0 (!bt w)) }).get? l = some { cls := .type "list", dict := odict, data := .seq items nl, slots := oslots } := Heap.get?_push_of_some _ hol
  have hsls := F.sub_list_set
  have hslf := F.sub_list_frozenset
  have hne : (Value.type "list" == Value.type "dict") = false := by decide
  have hl1 : (s.heap.push { cls := .type "set", dict := none, data := .set #[] 0 (.fresh 0 0 (!bt w)) }).IsList l items := ⟨_, hol', rfl, nl, rfl⟩
  generalize hled : (!bt w) = led at *
  unfold Builtin.«set.__init__» noKeywords Builtin.Frozenset.updateFrom
  generalize hPI : pyIter = PI
  wp_walk
  subst hPI
  refine wpAny_pyIter_list hl1 ?_
  refine wpAny_bind (wpAny_runValue ?_)
  have hlS : l < s.heap.objs.size := Heap.lt_size hol
  have hh3 : A.in1.in1.in1.handled = none := by simp [hh]
  have hneI : l ≠ (s.heap.push { cls := .type "set", dict := none, data := .set #[] 0 (.fresh 0 0 led) }).objs.size := by
    rw [Heap.size_push]; exact Nat.ne_of_lt (Nat.lt_succ_of_lt hlS)
  have hSf : s.heap.objs.size ∉ [(s.heap.push { cls := .type "set", dict := none, data := .set #[] 0 (.fresh 0 0 led) }).objs.size, l] := by
    rw [Heap.size_push]; simp only [List.mem_cons, List.mem_singleton, List.not_mem_nil, or_false, not_or]
    exact ⟨Nat.ne_of_lt (Nat.lt_succ_self _), Nat.ne_of_gt hlS⟩
  refine loop_ints ((Walks.list hh3 _ l hneI items).toS) s.heap.objs.size
    hSf val hi hb (items.size - 0) 0 _ [] (by omega) (Nat.zero_le _)
    ⟨⟨_, Heap.get?_push_size _ rfl, rfl, rfl⟩, (hl1.push _)⟩ ?hS0 (Nat.zero_le _) (fun k' => ⟨fun h => by simp at h, fun ⟨j, hj, _⟩ => by omega⟩) ?hR
  case hS0 =>
    rw [← hled] at hS ⊢
    exact is_fresh (Heap.get?_push_of_some _ hS)
  case hR =>
    intro s' ms hm hS' hl' hm'
    obtain ⟨h', g', d', tk', os'⟩ := s'
    have eg : g' = s.gens := hm.gens
    have ed : d' = s.drawn := hm.drawn
    have eo : os' = s.os := hm.os
    subst eg; subst ed; subst eo
    show wpAny _ _ _ _ _ _
    refine wpAny_pure ?_
    show wpAny _ _ (ret Value.none) _ _ _
    refine wpAny_pure ⟨rfl, h h' tk' ms hS' hm' fun b o hb e => ?_⟩
    have hb1 : b ≠ s.heap.objs.size := Nat.ne_of_lt hb
    have hb2 : b ≠ (s.heap.push { cls := .type "set", dict := none, data := .set #[] 0 (.fresh 0 0 led) }).objs.size := by
      rw [Heap.size_push]; exact Nat.ne_of_lt (Nat.lt_succ_of_lt hb)
    exact hm.heap b o (by simp only [List.mem_cons, List.mem_singleton, List.not_mem_nil, or_false, not_or]; exact ⟨hb1, hb2⟩) (Heap.get?_push_of_some _ (Heap.get?_push_of_some _ e))
end
end TB
set_option Elab.async false
set_option linter.all false
set_option maxRecDepth 100000
namespace L2
open PySem PySem.Spec PyProof.Rows
noncomputable abbrev Key := Sum Int Str
noncomputable def keyIs : Key → Value → Bool
  | .inl k, v => Value.isInt k v
  | .inr x, v => Value.isStrOf x v
noncomputable def keyH (w : World) : Key → Int
  | .inl k => hashInt k
  | .inr x => hashStr w x
theorem keyIs_shape : ∀ {k : Key} {v : Value}, keyIs k v = true → (∃ i t, k = Sum.inl i ∧ v = Value.int i t) ∨ (∃ x t, k = Sum.inr x ∧ v = Value.str x t)
  | .inl i, v, h => by
    obtain ⟨t, e⟩ := Value.isInt_shape (k := i) (v := v) h
    exact .inl ⟨i, t, rfl, e⟩
  | .inr x, v, h => by
    obtain ⟨t, e⟩ := Value.isStrOf_shape (x := x) (v := v) h
    exact .inr ⟨x, t, rfl, e⟩
theorem keyIs_int (i : Int) (t : Tok) : keyIs (.inl i) (.int i t) = true := by simp [keyIs, Value.isInt]
theorem keyIs_str (x : Str) (t : Tok) : keyIs (.inr x) (.str x t) = true := by simp [keyIs, Value.isStrOf]
theorem key_ll (a b : Int) : decide ((Sum.inl a : Key) = Sum.inl b) = (a == b) := by
  by_cases e : a = b
  · subst e; simp
  · have h : ¬ (Sum.inl a : Key) = Sum.inl b := fun q => e (Sum.inl.inj q)
    rw [decide_eq_false h]
    exact (beq_eq_false_iff_ne.mpr e).symm
theorem key_rr (a b : Str) : decide ((Sum.inr a : Key) = Sum.inr b) = decide (a = b) := by
  by_cases e : a = b
  · subst e; simp
  · have h : ¬ (Sum.inr a : Key) = Sum.inr b := fun q => e (Sum.inr.inj q)
    rw [decide_eq_false h, decide_eq_false e]
theorem key_lr (a : Int) (b : Str) : decide ((Sum.inl a : Key) = Sum.inr b) = false := decide_eq_false (fun q => nomatch q)
theorem key_rl (a : Str) (b : Int) : decide ((Sum.inr a : Key) = Sum.inl b) = false := decide_eq_false (fun q => nomatch q)
noncomputable def mixKind (prog : Program) (w : World) : PySem.KeyKind prog w Key where
  is := keyIs
  hash := keyH w
  inj := fun v a b ha hb => by
    rcases keyIs_shape ha with ⟨i, t, rfl, rfl⟩ | ⟨x, t, rfl, rfl⟩
    · rcases keyIs_shape hb with ⟨j, u, rfl, e⟩ | ⟨y, u, rfl, e⟩
      · injection e with e1 _; rw [e1]
      · exact nomatch e
    · rcases keyIs_shape hb with ⟨j, u, rfl, e⟩ | ⟨y, u, rfl, e⟩
      · exact nomatch e
      · injection e with e1 _; rw [e1]
  byValue := fun k v h => by
    rcases keyIs_shape h with ⟨i, t, rfl, rfl⟩ | ⟨x, t, rfl, rfl⟩ <;> rfl
  pyHash := fun hv h => by
    rcases keyIs_shape hv with ⟨i, t, rfl, rfl⟩ | ⟨x, t, rfl, rfl⟩
    · exact wpAny_pyHash_int h
    · exact wpAny_pyHash_str h
  eqBool := fun hu hv h => by
    rcases keyIs_shape hu with ⟨i, t, rfl, rfl⟩ | ⟨x, t, rfl, rfl⟩
    · rcases keyIs_shape hv with ⟨j, u, rfl, rfl⟩ | ⟨y, u, rfl, rfl⟩
      · rw [key_ll] at h; exact wpAny_eqBool_int h
      · rw [key_lr] at h; exact SeqAt.EqAt.int_str i t y u _ _ _ _ h
    · rcases keyIs_shape hv with ⟨j, u, rfl, rfl⟩ | ⟨y, u, rfl, rfl⟩
      · rw [key_rl] at h; exact SeqAt.EqAt.str_int x t j u _ _ _ _ h
      · rw [key_rr] at h; exact wpAny_eqBool_str h
  «strs» := fun k x t v h => by
    rcases keyIs_shape h with ⟨i, u, rfl, e⟩ | ⟨y, u, rfl, e⟩
    · exact nomatch e
    · injection e with e1 _
      subst e1
      cases v <;> rfl
theorem mixKind_int (prog : Program) (w : World) (i : Int) (t : Tok) : (mixKind prog w).is (.inl i) (.int i t) = true := keyIs_int i t
theorem mixKind_str (prog : Program) (w : World) (x : Str) (t : Tok) : (mixKind prog w).is (.inr x) (.str x t) = true := keyIs_str x t
end L2
namespace L2
open PySem PySem.Spec PyProof.Rows
inductive V where
  | non | bl (b : Bool) | int (i : Int) | str (x : Str) | byt (b : Array UInt8) | flt (b : UInt64) | ref (a : Addr) | ty (n : String)
  deriving DecidableEq
noncomputable def RelV : V → Value → Prop
  | .non, u => u = Value.none
  | .bl b, u => u = Value.bool b
  | .int i, u => ∃ t, u = Value.int i t
  | .str x, u => ∃ t, u = Value.str x t
  | .byt b, u => ∃ t, u = Value.bytes b t
  | .flt b, u => ∃ t, u = Value.float b t
  | .ref a, u => u = Value.ref a
  | .ty n, u => u = Value.type n
noncomputable abbrev Vals : List V → List Value → Prop := Paired RelV
theorem Vals.length {xs : List V} {us : List Value} (r : Vals xs us) : xs.length = us.length := Paired.length r
theorem Vals.get : ∀ {xs : List V} {us : List Value} {i : Nat} {x : V}, Vals xs us → xs[i]? = some x → ∃ u, us[i]? = some u ∧ RelV x u
  | _, _, _, _, .nil, e => by simp at e
  | _, _, 0, _, .cons r _, e => by simp at e; subst e; exact ⟨_, rfl, r⟩
  | _, _, i + 1, x, .cons _ t, e => by
    obtain ⟨u, h1, h2⟩ := Vals.get (i := i) (x := x) t (by simpa using e)
    exact ⟨u, by simpa using h1, h2⟩
theorem Vals.set {x : V} {u : Value} (r : RelV x u) : ∀ {xs : List V} {us : List Value} (i : Nat), Vals xs us → Vals (xs.set i x) (us.set i u)
  | _, _, _, .nil => .nil
  | _, _, 0, .cons _ t => .cons r t
  | _, _, i + 1, .cons q t => .cons q (Vals.set r i t)
theorem Vals.append : ∀ {xs ys : List V} {us ws : List Value}, Vals xs us → Vals ys ws → Vals (xs ++ ys) (us ++ ws)
  | _, _, _, _, .nil, s => s
  | _, _, _, _, .cons r t, s => .cons r (Vals.append t s)
theorem Vals.take : ∀ {xs : List V} {us : List Value} (n : Nat), Vals xs us → Vals (xs.take n) (us.take n)
  | _, _, 0, _ => .nil
  | _, _, _ + 1, .nil => .nil
  | _, _, n + 1, .cons r t => .cons r (Vals.take n t)
theorem Vals.drop : ∀ {xs : List V} {us : List Value} (n : Nat), Vals xs us → Vals (xs.drop n) (us.drop n)
  | _, _, 0, r => r
  | _, _, _ + 1, .nil => .nil
  | _, _, n + 1, .cons _ t => Vals.drop n t
noncomputable def RelO : Option V → Option Value → Prop
  | some v, some u => RelV v u
  | none, none => True
  | _, _ => False
noncomputable def KV {κ : Type} : List (κ × V) → List (κ × Value) → Prop := Paired fun (p : κ × V) (q : κ × Value) => p.1 = q.1 ∧ RelV p.2 q.2
noncomputable def kV : Key → V
  | .inl i => .int i
  | .inr x => .str x
inductive HO where
  | lst (xs : List V)
  | tup (xs : List V)
  | dK (kvs : List (Key × V)) | dT (kvs : List (List Key × V))
  | set (S : Int → Bool) (n : Nat)
  | ins (C dx : Addr) (fs : List (Str × V))
  | own (x : Addr)
  | xd (fs : List (Str × V))
  | met (f x : Addr)
  | rng (lo hi : Int)
  | frz (o : Obj) (u : HO)
  | tbl (ps : Array Value)
  | ext (φ : Heap → Prop)
noncomputable abbrev Hp := Addr → Option HO
noncomputable def upd (H : Hp) (a : Addr) (o : HO) : Hp := fun b => if b = a then some o else H b
theorem upd_same {H : Hp} {a : Addr} {o : HO} : upd H a o a = some o := by unfold upd; rw [if_pos rfl]
theorem upd_ne {H : Hp} {a b : Addr} {o : HO} (h : b ≠ a) : upd H a o b = H b := by unfold upd; rw [if_neg h]
theorem ne_of {H : Hp} {a b : Addr} {o u : HO} (h : H a = some o) (h' : H b = some u) (d : o ≠ u) : a ≠ b := by
  intro e; subst e; rw [h] at h'; exact d (Option.some.inj h')
theorem ne_of_none {H : Hp} {a b : Addr} {o : HO} (h : H a = some o) (h' : H b = none) : a ≠ b := by
  intro e; subst e; rw [h] at h'; cases h'
section
variable (P : Program) (w : World)
noncomputable def ObjOk (H : Hp) (h : Heap) (a : Addr) : HO → Prop
  | .lst xs => xs.length ≤ sizeLine ∧ ∃ (its : List Value) (n : Nat), Vals xs its ∧ h.get? a = some { cls := .type "list", data := .seq its.toArray n }
  | .tup xs => xs.length ≤ sizeLine ∧ ∃ its : List Value, Vals xs its ∧ IsTup h a its.toArray
  | .dK kvs => kvs.length ≤ sizeLine ∧ (a == sysModules) = false ∧ ∃ vs, KV kvs vs ∧ h.DictOf (mixKind P w) a vs
  | .dT kvs => kvs.length ≤ sizeLine ∧ (a == sysModules) = false ∧ ∃ xs : List (List Key × Addr × Value),
      Paired (fun (p : List Key × V) (q : List Key × Addr × Value) => p.1 = q.1 ∧ H q.2.1 = some (.tup (p.1.map kV)) ∧ RelV p.2 q.2.2) kvs xs ∧
      ∃ o es ep, h.get? a = some o ∧ o.ExactDict ∧ o.data = .dict es ep ∧ es.toList = xs.map (entryOfKey (tupleKind (mixKind P w))) ∧ (xs.map (·.1)).Nodup
  | .set S n => h.SetOf (intKind P w) a S n
  | .ins C dx fs => H dx = some (.own a) ∧ fs.length ≤ 1000 ∧ dx ≠ a ∧ h.get? a = some (PySem.W.instObj C dx) ∧
      ∃ mA, h.Ns1 dx mA ∧ (∀ f, RelO (fs.lookup f) (mA f)) ∧ PySem.Within mA (fs.map (·.1))
  | .own _ => ∃ o, h.get? a = some o
  | .xd fs => ∃ mA, h.Ns1 a mA ∧ ∀ f, RelO (fs.lookup f) (mA f)
  | .rng lo hi => ∃ t u v, h.get? a = some { cls := .type "range", data := .fields #[.int lo t, .int hi u, .int 1 v] }
  | .frz o u => h.get? a = some o ∧ ObjOk H h a u
  | .tbl ps => h.get? a = some { cls := .none, data := .fields ps }
  | .met f x => h.get? a = some (PySem.W.methodObj (.ref f) (.ref x))
  | .ext φ => φ h ∧ (∃ o, h.get? a = some o) ∧ ∀ h1 h2 : Heap, φ h1 → (∀ o, h1.get? a = some o → h2.get? a = some o) → φ h2
noncomputable def HOk (H : Hp) (h : Heap) : Prop := ∀ a o, H a = some o → ObjOk P w H h a o
end
section
variable {P : Program} {w : World} {H H' : Hp} {h h' : Heap} {a : Addr} {o : HO}
theorem ObjOk.lt (x : ObjOk P w H h a o) : a < h.objs.size := by
  cases o with
  | lst xs => obtain ⟨_, _, _, _, e⟩ := x; exact Heap.lt_size e
  | tup xs => obtain ⟨_, _, _, p⟩ := x; exact p.lt
  | dK kvs => obtain ⟨_, _, _, _, o, _, _, e, _⟩ := x; exact Heap.lt_size e
  | dT kvs => obtain ⟨_, _, _, _, o, _, _, e, _⟩ := x; exact Heap.lt_size e
  | set S n => obtain ⟨o, _, _, _, e, _⟩ := x; exact Heap.lt_size e
  | ins C dx fs => obtain ⟨_, _, _, e, _⟩ := x; exact Heap.lt_size e
  | own y => obtain ⟨_, e⟩ := x; exact Heap.lt_size e
  | xd fs => obtain ⟨_, ⟨_, _, _, e, _⟩, _⟩ := x; exact Heap.lt_size e
  | rng lo hi => obtain ⟨_, _, _, e⟩ := x; exact Heap.lt_size e
  | frz ob u => obtain ⟨e, _⟩ := x; exact Heap.lt_size e
  | tbl ps => exact Heap.lt_size (show h.get? a = some _ from x)
  | met f y => exact Heap.lt_size (show h.get? a = some _ from x)
  | ext φ => obtain ⟨_, ⟨_, e⟩, _⟩ := x; exact Heap.lt_size e
theorem Paired.mapP {α β : Type} {F G : α → β → Prop} : ∀ {l₁ : List α} {l₂ : List β}, Paired F l₁ l₂ → (∀ a b, F a b → G a b) → Paired G l₁ l₂
  | _, _, .nil, _ => .nil
  | _, _, .cons r t, f => .cons (f _ _ r) (Paired.mapP t f)
theorem ObjOk.stay (x : ObjOk P w H h a o) (k : ∀ b u, (b = a ∨ H b = some (.own a)) → h.get? b = some u → h'.get? b = some u)
    (ho : ∀ b, H b = some (.own a) → H' b = some (.own a)) (ht : ∀ b xs, H b = some (.tup xs) → H' b = some (.tup xs)) : ObjOk P w H' h' a o := by
  induction o with
  | lst xs => obtain ⟨z, its, n, r, e⟩ := x; exact ⟨z, its, n, r, k _ _ (.inl rfl) e⟩
  | tup xs => obtain ⟨z, its, r, ob, e, c⟩ := x; exact ⟨z, its, r, ob, k _ _ (.inl rfl) e, c⟩
  | dK kvs => obtain ⟨z, y, vs, r, ob, es, ep, e, c⟩ := x; exact ⟨z, y, vs, r, ob, es, ep, k _ _ (.inl rfl) e, c⟩
  | dT kvs =>
    obtain ⟨z, y, xs, r, ob, es, ep, e, c⟩ := x
    exact ⟨z, y, xs, Paired.mapP r fun p q z => ⟨z.1, ht _ _ z.2.1, z.2.2⟩, ob, es, ep, k _ _ (.inl rfl) e, c⟩
  | set S n => obtain ⟨ob, es, ep, t, e, c⟩ := x; exact ⟨ob, es, ep, t, k _ _ (.inl rfl) e, c⟩
  | ins C dx fs =>
    obtain ⟨d, z, ne, e, mA, ⟨od, es, ep, e2, c⟩, r⟩ := x
    exact ⟨ho _ d, z, ne, k _ _ (.inl rfl) e, mA, ⟨od, es, ep, k _ _ (.inr d) e2, c⟩, r⟩
  | own y => obtain ⟨ob, e⟩ := x; exact ⟨ob, k _ _ (.inl rfl) e⟩
  | xd fs => obtain ⟨mA, ⟨od, es, ep, e, c⟩, r⟩ := x; exact ⟨mA, ⟨od, es, ep, k _ _ (.inl rfl) e, c⟩, r⟩
  | rng lo hi => obtain ⟨t, u, v, e⟩ := x; exact ⟨t, u, v, k _ _ (.inl rfl) e⟩
  | frz ob u ih => obtain ⟨e, q⟩ := x; exact ⟨k _ _ (.inl rfl) e, ih q⟩
  | tbl ps =>
    have e : h.get? a = some { cls := .none, data := .fields ps } := x
    show h'.get? a = some { cls := .none, data := .fields ps }
    exact k a _ (.inl rfl) e
  | met f y =>
    have e : h.get? a = some (PySem.W.methodObj (.ref f) (.ref y)) := x
    show h'.get? a = some (PySem.W.methodObj (.ref f) (.ref y))
    exact k a _ (.inl rfl) e
  | ext φ => obtain ⟨p, ⟨o, e⟩, st⟩ := x; exact ⟨st _ _ p fun o q => k _ _ (.inl rfl) q, ⟨o, k _ _ (.inl rfl) e⟩, st⟩
theorem HOk.lt (x : HOk P w H h) (e : H a = some o) : a < h.objs.size := (x a o e).lt
theorem HOk.fresh (x : HOk P w H h) (e : h.objs.size ≤ a) : H a = none := by
  cases q : H a with
  | none => rfl
  | some u => exact absurd (Nat.lt_of_lt_of_le (x.lt q) e) (Nat.lt_irrefl _)
theorem HOk.kept (x : HOk P w H h) (k : ∀ b u, h.get? b = some u → h'.get? b = some u) : HOk P w H h' := fun a o e =>
  (x a o e).stay (fun b u _ q => k b u q) (fun _ q => q) fun _ _ q => q
theorem HOk.laid (x : HOk P w H h) (k : ∀ b u, h.get? b = some u → h'.get? b = some u) (hp : h.objs.size ≤ a) (new : ObjOk P w (upd H a o) h' a o) : HOk P w (upd H a o) h' := fun b u e => by
  have hn := x.fresh hp
  by_cases hb : b = a
  · subst hb; rw [upd_same] at e; cases e; exact new
  · rw [upd_ne hb] at e
    exact (x b u e).stay (fun c v _ q => k c v q) (fun c q => by rw [upd_ne (ne_of_none q hn)]; exact q) fun c xs q => by rw [upd_ne (ne_of_none q hn)]; exact q
end
noncomputable def Rd (H : Hp) (a : Addr) (u : HO) : Prop := H a = some u ∨ ∃ o, H a = some (.frz o u)
theorem Rd.ok {P : Program} {w : World} {H : Hp} {h : Heap} {a : Addr} {u : HO} (r : Rd H a u) (x : HOk P w H h) : ObjOk P w H h a u := by
  rcases r with r | ⟨o, r⟩
  · exact x a u r
  · obtain ⟨_, q⟩ := x a _ r
    exact q
noncomputable def Mut : Option HO → Prop
  | some (.lst _) => True
  | some (.dK _) => True
  | some (.dT _) => True
  | some (.set _ _) => True
  | some (.ins _ _ _) => True
  | some (.ext _) => True
  | _ => False
section
variable {P : Program} {w : World} {H : Hp} {h h' : Heap} {x e : Addr} {o' : HO}
theorem HOk.write (ok : HOk P w H h) (mu : Mut (H x)) (he : e = x ∨ H e = some (.own x)) (k : ∀ b u, b ≠ e → h.get? b = some u → h'.get? b = some u) (heo : ∃ u, h'.get? e = some u)
    (new : ObjOk P w (upd H x o') h' x o') : HOk P w (upd H x o') h' := fun b u q => by
  have nown : ∀ c y, H c = some (.own y) → c ≠ x := fun c y r z => by subst z; rw [r] at mu; exact mu
  have ntup : ∀ c xs, H c = some (.tup xs) → c ≠ x := fun c xs r z => by subst z; rw [r] at mu; exact mu
  by_cases hb : b = x
  · subst hb; rw [upd_same] at q; cases q; exact new
  · rw [upd_ne hb] at q
    by_cases hbe : b = e
    · have q' : H b = some (.own x) := by
        rcases he with z | z
        · exact absurd (hbe.trans z) hb
        · rw [hbe]; exact z
      rw [q] at q'; cases q'
      obtain ⟨v, hv⟩ := heo
      exact ⟨v, by rw [hbe]; exact hv⟩
    · refine (ok b u q).stay (fun c v hc r => k c v ?_ r) (fun c r => by rw [upd_ne (nown c b r)]; exact r) fun c xs r => by rw [upd_ne (ntup c xs r)]; exact r
      rcases hc with rfl | hc
      · exact hbe
      · rintro rfl
        rcases he with z | z
        · exact nown c b hc z
        · rw [hc] at z; cases z; exact hb rfl
end
structure Un (fs ex : List Addr) (H H' : Hp) (h h' : Heap) : Prop where
  keep : ∀ b o, h.get? b = some o → H b = none → b ∉ fs → b ∉ ex → h'.get? b = some o
  slot : ∀ b o, h.get? b = some o → H b = none → b ∈ fs → b ∉ ex → ∃ sl, h'.get? b = some { o with slots := sl }
  free : ∀ b o, h.get? b = some o → H b = none → b ∉ ex → H' b = none
  there : ∀ b o, h.get? b = some o → b ∉ ex → ∃ o', h'.get? b = some o'
  tups : ∀ b xs, H b = some (.tup xs) → H' b = some (.tup xs)
  frzs : ∀ b o u, H b = some (.frz o u) → H' b = some (.frz o u)
  tbls : ∀ b ps, H b = some (.tbl ps) → ∃ more, H' b = some (.tbl (ps ++ more))
section
variable {fs fs' ex ex' : List Addr} {H H1 H2 : Hp} {h h1 h2 h' : Heap} {a x e : Addr} {o : HO}
theorem Un.any (u : Un fs ex H H1 h h1) {b : Addr} {ob : Obj} (q : h.get? b = some ob) (n : H b = none) (hx : b ∉ ex) : ∃ sl, h1.get? b = some { ob with slots := sl } := by
  by_cases hb : b ∈ fs
  · exact u.slot b ob q n hb hx
  · exact ⟨ob.slots, u.keep b ob q n hb hx⟩
theorem Un.kept (k : ∀ b u, h.get? b = some u → h'.get? b = some u) : Un fs ex H H h h' :=
  ⟨fun b ob q _ _ _ => k b ob q, fun b ob q _ _ _ => ⟨ob.slots, k b ob q⟩, fun _ _ _ n _ => n, fun b ob q _ => ⟨ob, k b ob q⟩, fun _ _ q => q, fun _ _ _ q => q, fun _ ps q => ⟨#[], by rw [q]; simp⟩⟩
theorem Un.refl : Un fs ex H H h h := Un.kept fun _ _ q => q
theorem Un.laid (k : ∀ b u, h.get? b = some u → h'.get? b = some u) (hp : h.objs.size ≤ a) (hn : H a = none) : Un fs ex H (upd H a o) h h' where
  keep := fun b u q _ _ _ => k b u q
  slot := fun b u q _ _ _ => ⟨u.slots, k b u q⟩
  free := fun b u q n _ => by rw [upd_ne (Nat.ne_of_lt (Nat.lt_of_lt_of_le (Heap.lt_size q) hp))]; exact n
  there := fun b u q _ => ⟨u, k b u q⟩
  tups := fun b xs q => by rw [upd_ne (ne_of_none q hn)]; exact q
  frzs := fun b u xs q => by rw [upd_ne (ne_of_none q hn)]; exact q
  tbls := fun b ps q => ⟨#[], by rw [upd_ne (ne_of_none q hn), q]; simp⟩
theorem Un.write (mu : Mut (H x)) (he : e = x ∨ H e = some (.own x)) (k : ∀ b u, b ≠ e → h.get? b = some u → h'.get? b = some u) (heo : ∃ u, h'.get? e = some u) : Un fs ex H (upd H x o) h h' := by
  have hx : ∀ b, H b = none → b ≠ x := fun b n z => by subst z; rw [n] at mu; exact mu
  have hb : ∀ b, H b = none → b ≠ e := fun b n z => by
    subst z
    rcases he with r | r
    · exact hx b n r
    · rw [n] at r; cases r
  have hm : ∀ b u, H b = some u → ¬ Mut (some u) → b ≠ x := fun b u q nm z => by subst z; rw [q] at mu; exact nm mu
  refine ⟨fun b u q n _ _ => k b u (hb b n) q, fun b u q n _ _ => ⟨u.slots, k b u (hb b n) q⟩, fun b u q n _ => by rw [upd_ne (hx b n)]; exact n, fun b u q _ => ?_,
    fun b xs q => by rw [upd_ne (hm b _ q fun z => z)]; exact q, fun b u xs q => by rw [upd_ne (hm b _ q fun z => z)]; exact q, fun b ps q => ⟨#[], by rw [upd_ne (hm b _ q fun z => z), q]; simp⟩⟩
  by_cases hbe : b = e
  · subst hbe; exact heo
  · exact ⟨u, k b u hbe q⟩
end
noncomputable def trk (h : Heap) (H : Hp) : List Addr := (List.range h.objs.size).filter fun a => (H a).isSome
noncomputable def hidT (h : Heap) (H : Hp) : Heap := PySem.W.hideAll h (trk h H)
theorem hidT_size (h : Heap) (H : Hp) : (hidT h H).objs.size = h.objs.size := PySem.W.hideAll_size _ _
theorem hidT_get {h : Heap} {H : Hp} {b : Addr} {o : Obj} (e : h.get? b = some o) (n : H b = none) : (hidT h H).get? b = some o :=
  PySem.W.hideAll_get _ e fun hm => by
    have q : (H b).isSome = true := (List.mem_filter.mp hm).2
    rw [n] at q; simp at q
theorem of_hidT {h : Heap} {H : Hp} {b : Addr} {o : Obj} (e : (hidT h H).get? b = some o) : h.get? b = some o ∧ H b = none := by
  have e' : h.get? b = some o := PySem.W.of_hideAll (trk h H) e
  refine ⟨e', ?_⟩
  cases q : H b with
  | none => rfl
  | some x =>
    have hm : b ∈ trk h H := List.mem_filter.mpr ⟨List.mem_range.mpr (Heap.lt_size e'), by simp [q]⟩
    have z : (hidT h H).get? b = none := PySem.W.hideAll_none (trk h H) hm
    rw [z] at e; cases e
end L2
namespace L2
open PySem PySem.Spec PyProof.Rows
structure Mod (K : PySem.W.Frag) (mg : Str → Option Value) (base : Heap) : Prop where
  kin : K.In base
  glob : base.Ns mainGlobals mg
  blt : ∃ mb, base.Ns builtinsNs mb ∧ ∀ x : Str, x ≠ "__name__" → mb x = bootBuiltins x
  nolimit : base.NoLimit
structure Cx where
  prog : Program
  w : World
  K : PySem.W.Frag
  mg : Str → Option Value
  base : Heap
  A : Around
  N : List Str
  s₀ : Shared
  H₀ : Hp
  env : Env
  outer : List Env
  stack : List Env
  ex : List Addr
  fn : Str → Bool
  calm : Bool
  pn : List (Addr × Obj)
  xe : Value → Shared → Prop
noncomputable def frs (l : List Env) : List Addr := l.filterMap (·.frame)
noncomputable abbrev Cx.fs (X : Cx) : List Addr := frs X.outer
noncomputable def Vis (sc : Scope) (x : Str) : Prop := sc.names.lookup x = some .local ∨ sc.names.lookup x = some .cell ∨ sc.names.lookup x = some .free
noncomputable def Loc (sc : Scope) (x : Str) : Prop := sc.names.lookup x = some .local ∨ sc.names.lookup x = some .cell
noncomputable def Look (env : Env) (h : Heap) (m : Str → Option Value) (x : Str) (u : Value) : Prop :=
  (env.kindOf x = some .local ∧ m x = some u) ∨ ((env.kindOf x = some .cell ∨ env.kindOf x = some .free) ∧ ∃ c, env.cells.lookup x = some c ∧ h.IsCell c (some u))
structure Cx.Ok (X : Cx) : Prop where
  mod : Mod X.K X.mg X.base
  kind : X.env.scope.kind = .function
  glob : X.env.globals = mainGlobals
  blt : X.env.builtins = builtinsNs
  above : X.s₀.heap.objs.size ≤ X.env.locals
  inj : ∀ x y c, X.env.cells.lookup x = some c → X.env.cells.lookup y = some c → x = y
  has : ∀ x, (X.env.kindOf x = some .cell ∨ X.env.kindOf x = some .free) → ∃ c, X.env.cells.lookup x = some c
  cab : ∀ x c, X.fn x = true → X.env.cells.lookup x = some c → X.s₀.heap.objs.size ≤ c
  hd : X.calm = true → X.A.handled = none
  frames : X.A.frames = some X.stack
  stk : X.stack = X.outer ∨ (X.stack = X.env :: X.outer ∧ X.env.frame = some X.env.locals)
  exf : ∀ b ∈ X.ex, b ≠ X.env.locals ∧ ∀ x c, X.env.cells.lookup x = some c → c ≠ b
  bs : ∀ b o, X.base.get? b = some o → X.s₀.heap.get? b = some o ∧ X.H₀ b = none
  bsz : X.base.objs.size ≤ X.s₀.heap.objs.size
  noex : ∀ b o, X.base.get? b = some o → b ∉ X.ex
  exfs : ∀ b ∈ X.ex, b ∉ X.fs
  funs : X.s₀.heap.FunFrames X.base X.outer
  frf : ∀ b ∈ X.fs, X.H₀ b = none
structure Inv (X : Cx) (pins : List (Addr × Obj)) (σ : List (Option V)) (H : Hp) (s : Shared) : Prop where
  ok : X.Ok
  os : s.os = X.s₀.os
  bare : AllBare s.gens
  base : Un X.fs X.ex X.H₀ H X.s₀.heap s.heap
  loc : ∃ m, s.heap.Ns X.env.locals m ∧ ∀ (i : Nat) (x : Str) (v : V), X.N[i]? = some x → σ[i]? = some (some v) → Vis X.env.scope x → ∃ u, RelV v u ∧ Look X.env s.heap m x u
  cell : ∀ x c, X.env.cells.lookup x = some c → ∃ v, s.heap.IsCell c v
  free : H X.env.locals = none
  freeC : ∀ x c, X.env.cells.lookup x = some c → H c = none
  pin : ∀ p ∈ X.pn ++ pins, s.heap.get? p.1 = some p.2 ∧ H p.1 = none ∧ p.1 ≠ X.env.locals ∧ p.1 ∉ X.fs ∧ ∀ v, p.2.data ≠ .cell v
  hok : HOk X.prog X.w H s.heap
  len : σ.length = X.N.length
section
variable {X : Cx} {pins : List (Addr × Obj)} {σ : List (Option V)} {H H' : Hp} {s : Shared} {h' : Heap}
theorem Cx.Ok.nofr (ok : X.Ok) {b : Addr} {o : Obj} (e : X.base.get? b = some o) : b ∉ X.fs := fun hb => by
  have := (ok.funs.mem hb).1
  rw [e] at this; cases this
theorem Inv.bs (I : Inv X pins σ H s) : ∀ b o, X.base.get? b = some o → s.heap.get? b = some o ∧ H b = none := fun b o e =>
  ⟨I.base.keep b o (I.ok.bs b o e).1 (I.ok.bs b o e).2 (I.ok.nofr e) (I.ok.noex b o e), I.base.free b o (I.ok.bs b o e).1 (I.ok.bs b o e).2 (I.ok.noex b o e)⟩
theorem Inv.bk (I : Inv X pins σ H s) : ∀ b o, X.base.get? b = some o → s.heap.get? b = some o := fun b o e => (I.bs b o e).1
theorem Inv.mod (I : Inv X pins σ H s) : Mod X.K X.mg X.base := I.ok.mod
theorem Inv.kIn (I : Inv X pins σ H s) : X.K.In s.heap := I.ok.mod.kin.keeps I.bk
theorem Inv.lt (I : Inv X pins σ H s) : X.env.locals < s.heap.objs.size := let ⟨_, hn, _⟩ := I.loc; hn.lt
theorem Inv.sz (I : Inv X pins σ H s) : X.s₀.heap.objs.size ≤ s.heap.objs.size := Nat.le_trans I.ok.above (Nat.le_of_lt I.lt)
theorem Inv.nofs (I : Inv X pins σ H s) {a : Addr} (h : s.heap.objs.size ≤ a) : a ∉ X.fs := fun hb => by
  obtain ⟨_, o, ho, _⟩ := I.ok.funs.mem hb
  exact absurd (Nat.lt_of_lt_of_le (Heap.lt_size ho) (Nat.le_trans I.sz h)) (Nat.lt_irrefl _)
theorem Inv.cne (I : Inv X pins σ H s) : ∀ x c, X.env.cells.lookup x = some c → c ≠ X.env.locals := fun x c e z => by
  obtain ⟨v, o, ho, hd⟩ := I.cell x c e
  obtain ⟨m, ⟨o', es, ep, ho', hd', _⟩, _⟩ := I.loc
  rw [z, ho'] at ho; cases ho; rw [hd'] at hd; cases hd
theorem Inv.funs (I : Inv X pins σ H s) : s.heap.FunFrames X.base X.outer := by
  have all : ∀ (l : List Env), (∀ b ∈ frs l, b ∈ X.fs) → X.s₀.heap.FunFrames X.base l → s.heap.FunFrames X.base l := by
    intro l
    induction l with
    | nil => intro _ _; trivial
    | cons env r ih =>
      intro hs hl
      obtain ⟨hk, ⟨L, o, hf, hn, ho, hd⟩, hr⟩ := hl
      have hL : L ∈ X.fs := hs L (by unfold frs; rw [List.filterMap_cons, hf]; exact List.mem_cons_self)
      obtain ⟨sl, e⟩ := I.base.slot L o ho (I.ok.frf L hL) hL fun z => I.ok.exfs L z hL
      exact ⟨hk, ⟨L, _, hf, hn, e, hd⟩, ih (fun b hb => hs b (by unfold frs; rw [List.filterMap_cons, hf]; exact List.mem_cons_of_mem _ hb)) hr⟩
  exact all X.outer (fun _ hb => hb) I.ok.funs
theorem Inv.stack (I : Inv X pins σ H s) : s.heap.FunFrames X.base X.stack := by
  rcases I.ok.stk with e | ⟨e, hf⟩
  · rw [e]; exact I.funs
  · rw [e]
    obtain ⟨m, hn, _⟩ := I.loc
    refine .cons (by rw [I.ok.kind]; decide) hf hn ?_ I.funs
    exact Heap.get?_none_of_le (Nat.le_trans I.ok.bsz I.ok.above)
theorem Inv.stkSub (I : Inv X pins σ H s) : ∀ b ∈ frs X.stack, b ∈ X.env.locals :: X.fs := fun b hb => by
  rcases I.ok.stk with e | ⟨e, hf⟩
  · rw [e] at hb; exact List.mem_cons_of_mem _ hb
  · rw [e] at hb
    unfold frs at hb
    rw [List.filterMap_cons, hf] at hb
    exact hb
theorem Inv.stkFree (I : Inv X pins σ H s) : ∀ b ∈ frs X.stack, H b = none := fun b hb => by
  rcases List.mem_cons.mp (I.stkSub b hb) with e | hb
  · rw [e]; exact I.free
  · obtain ⟨_, o, ho, _⟩ := I.ok.funs.mem hb
    exact I.base.free b o ho (I.ok.frf b hb) fun z => I.ok.exfs b z hb
theorem Inv.step {g' : Array GenState} {t' : Nat} {d' : Drawn} {ch : List Addr} (I : Inv X pins σ H s)
    (hch : ∀ b ∈ ch, (b ∈ X.ex ∨ X.s₀.heap.objs.size ≤ b) ∧ b ≠ X.env.locals ∧ (∀ x c, X.env.cells.lookup x = some c → c ≠ b) ∧ ∀ p ∈ X.pn ++ pins, p.1 ≠ b)
    (keep : ∀ b o, b ≠ X.env.locals → b ∉ X.fs → b ∉ ch → s.heap.get? b = some o → H b = none → h'.get? b = some o)
    (slot : ∀ b o, b ≠ X.env.locals → b ∈ X.fs → b ∉ ch → s.heap.get? b = some o → H b = none → ∃ sl, h'.get? b = some { o with slots := sl }) (free : ∀ b o, b ∉ ch → s.heap.get? b = some o → H b = none → H' b = none)
    (there : ∀ b o, b ∉ ch → s.heap.get? b = some o → ∃ o', h'.get? b = some o')
    (tups : ∀ b xs, H b = some (.tup xs) → H' b = some (.tup xs)) (frzs : ∀ b o u, H b = some (.frz o u) → H' b = some (.frz o u)) (tbls : ∀ b ps, H b = some (.tbl ps) → ∃ more, H' b = some (.tbl (ps ++ more)))
    (ns : ∀ m, s.heap.Ns X.env.locals m → h'.Ns X.env.locals m) (hok : HOk X.prog X.w H' h') (hg : AllBare g') :
    Inv X pins σ H' { s with heap := h', gens := g', drawn := d', toks := t' } := by
  have neL : ∀ b o, X.s₀.heap.get? b = some o → b ≠ X.env.locals := fun b o e => Nat.ne_of_lt (Nat.lt_of_lt_of_le (Heap.lt_size e) I.ok.above)
  have neC : ∀ b o, X.s₀.heap.get? b = some o → b ∉ X.ex → b ∉ ch := fun b o e hx hb => by
    rcases (hch b hb).1 with z | z
    · exact hx z
    · exact absurd (Nat.lt_of_lt_of_le (Heap.lt_size e) z) (Nat.lt_irrefl _)
  have cellK : ∀ x c, X.env.cells.lookup x = some c → ∀ v, s.heap.IsCell c v → h'.IsCell c v := fun x c e v ⟨o, ho, hd⟩ => by
    have nch : c ∉ ch := fun z => (hch c z).2.2.1 x c e rfl
    by_cases hc : c ∈ X.fs
    · obtain ⟨sl, q⟩ := slot c o (I.cne x c e) hc nch ho (I.freeC x c e)
      exact ⟨_, q, hd⟩
    · exact ⟨o, keep c o (I.cne x c e) hc nch ho (I.freeC x c e), hd⟩
  refine ⟨I.ok, I.os, hg, ⟨fun b o e n hb hx => ?_, fun b o e n hb hx => ?_, fun b o e n hx => ?_, fun b o e hx => ?_, fun b xs e => tups b xs (I.base.tups b xs e), fun b o xs e => frzs b o xs (I.base.frzs b o xs e), fun b ps e => ?_⟩, ?_, fun x c e => ?_, ?_, fun x c e => ?_, fun p hp => ?_, hok, I.len⟩
  · exact keep b o (neL b o e) hb (neC b o e hx) (I.base.keep b o e n hb hx) (I.base.free b o e n hx)
  · obtain ⟨sl, e1⟩ := I.base.slot b o e n hb hx
    obtain ⟨sl', e2⟩ := slot b _ (neL b o e) hb (neC b o e hx) e1 (I.base.free b o e n hx)
    exact ⟨sl', e2⟩
  · obtain ⟨o', e1⟩ := I.base.there b o e hx
    exact free b o' (neC b o e hx) e1 (I.base.free b o e n hx)
  · obtain ⟨o', e1⟩ := I.base.there b o e hx
    exact there b o' (neC b o e hx) e1
  · obtain ⟨m1, e1⟩ := I.base.tbls b ps e
    obtain ⟨m2, e2⟩ := tbls b _ e1
    exact ⟨m1 ++ m2, by rw [e2, Array.append_assoc]⟩
  · obtain ⟨m, hn, hl⟩ := I.loc
    refine ⟨m, ns m hn, fun i x v e1 e2 e3 => ?_⟩
    obtain ⟨u, r, l⟩ := hl i x v e1 e2 e3
    refine ⟨u, r, ?_⟩
    rcases l with l | ⟨k, c, e, z⟩
    · exact .inl l
    · exact .inr ⟨k, c, e, cellK x c e _ z⟩
  · obtain ⟨v, z⟩ := I.cell x c e
    exact ⟨v, cellK x c e v z⟩
  · obtain ⟨m, ⟨o, _, _, ho, _⟩, _⟩ := I.loc
    exact free _ o (fun z => (hch _ z).2.1 rfl) ho I.free
  · obtain ⟨v, o, ho, hd⟩ := I.cell x c e
    exact free c o (fun z => (hch c z).2.2.1 x c e rfl) ho (I.freeC x c e)
  · obtain ⟨e, n, ne, nf, d⟩ := I.pin p hp
    have nch : p.1 ∉ ch := fun z => (hch p.1 z).2.2.2 p hp rfl
    exact ⟨keep p.1 p.2 ne nf nch e n, free p.1 p.2 nch e n, ne, nf, d⟩
theorem Inv.un {t' : Nat} (I : Inv X pins σ H s) (u : Un X.fs [] H H' s.heap h') (hok : HOk X.prog X.w H' h') : Inv X pins σ H' { s with heap := h', toks := t' } := by
  obtain ⟨m, ⟨o, es, ep, ho, r⟩, _⟩ := id I.loc
  obtain ⟨sl, hL⟩ := u.any ho I.free (by simp)
  exact I.step (g' := s.gens) (d' := s.drawn) (ch := []) (fun _ z => nomatch z) (fun b o _ hb _ e n => u.keep b o e n hb (by simp)) (fun b o _ hb _ e n => u.slot b o e n hb (by simp)) (fun b o _ e n => u.free b o e n (by simp)) (fun b o _ e => u.there b o e (by simp)) u.tups u.frzs u.tbls (fun m' hm => by
    obtain ⟨o', es', ep', ho', r'⟩ := hm
    rw [ho] at ho'; cases ho'
    exact ⟨_, es', ep', hL, r'⟩) hok I.bare
theorem Inv.call {g' : Array GenState} {t' : Nat} {d' : Drawn} {ch : List Addr} (I : Inv X pins σ H s) (u : Un (frs X.stack) ch H H' s.heap h') (hok : HOk X.prog X.w H' h') (hg : AllBare g')
    (hch : ∀ b ∈ ch, (b ∈ X.ex ∨ X.s₀.heap.objs.size ≤ b) ∧ b ≠ X.env.locals ∧ (∀ x c, X.env.cells.lookup x = some c → c ≠ b) ∧ ∀ p ∈ X.pn ++ pins, p.1 ≠ b) :
    Inv X pins σ H' { s with heap := h', gens := g', drawn := d', toks := t' } := by
  obtain ⟨m, ⟨o, es, ep, ho, r⟩, _⟩ := id I.loc
  obtain ⟨sl, hL⟩ := u.any ho I.free fun z => (hch _ z).2.1 rfl
  exact I.step (ch := ch) hch (fun b o hL hb hc e n => u.keep b o e n (fun z => (List.mem_cons.mp (I.stkSub b z)).elim hL hb) hc) (fun b o _ _ hc e n => u.any e n hc) (fun b o hc e n => u.free b o e n hc) (fun b o hc e => u.there b o e hc) u.tups u.frzs u.tbls (fun m' hm => by
    obtain ⟨o', es', ep', ho', r'⟩ := hm
    rw [ho] at ho'; cases ho'
    exact ⟨_, es', ep', hL, r'⟩) hok hg
theorem Inv.turned {t' : Nat} {it : Addr} (I : Inv X pins σ H s) (k : ∀ b o, b ≠ it → s.heap.get? b = some o → h'.get? b = some o) (hn : H it = none) (hL : it ≠ X.env.locals)
    (h1 : it ∈ X.ex ∨ X.s₀.heap.objs.size ≤ it) (h2 : ∀ x c, X.env.cells.lookup x = some c → c ≠ it) (h3 : ∀ p ∈ X.pn ++ pins, p.1 ≠ it) : Inv X pins σ H { s with heap := h', toks := t' } := by
  have nit : ∀ b u, H b = some u → b ≠ it := fun b u e z => by rw [z, hn] at e; cases e
  refine I.step (g' := s.gens) (d' := s.drawn) (ch := [it]) (fun b hb => ?_) (fun b o _ _ hc e _ => k b o (fun z => hc (by simp [z])) e) (fun b o _ _ hc e _ => ⟨o.slots, k b o (fun z => hc (by simp [z])) e⟩) (fun _ _ _ _ n => n)
    (fun b o hc e => ⟨o, k b o (fun z => hc (by simp [z])) e⟩) (fun _ _ e => e) (fun _ _ _ e => e) (fun b ps e => ⟨#[], by rw [e]; simp⟩) (fun m hm => ?_) (fun b u e => ?_) I.bare
  · have e : b = it := by simpa using hb
    subst e
    exact ⟨h1, hL, h2, h3⟩
  · obtain ⟨o, es, ep, ho, r⟩ := hm
    exact ⟨o, es, ep, k _ o (Ne.symm hL) ho, r⟩
  · refine (I.hok b u e).stay (fun c v hc q => k c v ?_ q) (fun _ q => q) fun _ _ q => q
    rcases hc with z | z
    · rw [z]; exact nit b u e
    · exact nit c _ z
theorem Inv.tok (I : Inv X pins σ H s) (t : Nat) : Inv X pins σ H { s with toks := t } := I.un (h' := s.heap) (t' := t) Un.refl I.hok
theorem Inv.kept {t' : Nat} (I : Inv X pins σ H s) (k : ∀ b u, s.heap.get? b = some u → h'.get? b = some u) : Inv X pins σ H { s with heap := h', toks := t' } := I.un (Un.kept k) (I.hok.kept k)
theorem Inv.laid {a : Addr} {o : HO} {t' : Nat} (I : Inv X pins σ H s) (k : ∀ b u, s.heap.get? b = some u → h'.get? b = some u) (hp : s.heap.objs.size ≤ a) (new : ObjOk X.prog X.w (upd H a o) h' a o) :
    Inv X pins σ (upd H a o) { s with heap := h', toks := t' } := I.un (Un.laid k hp (I.hok.fresh hp)) (I.hok.laid k hp new)
theorem Inv.write {x e : Addr} {o : HO} {t' : Nat} (I : Inv X pins σ H s) (mu : Mut (H x)) (he : e = x ∨ H e = some (.own x)) (k : ∀ b u, b ≠ e → s.heap.get? b = some u → h'.get? b = some u) (heo : ∃ u, h'.get? e = some u)
    (new : ObjOk X.prog X.w (upd H x o) h' x o) : Inv X pins σ (upd H x o) { s with heap := h', toks := t' } := I.un (Un.write mu he k heo) (I.hok.write mu he k heo new)
theorem Inv.pins_of {pins' : List (Addr × Obj)} (I : Inv X pins σ H s) (h : ∀ p ∈ pins', s.heap.get? p.1 = some p.2 ∧ H p.1 = none ∧ p.1 ≠ X.env.locals ∧ p.1 ∉ X.fs ∧ ∀ v, p.2.data ≠ .cell v) : Inv X pins' σ H s :=
  ⟨I.ok, I.os, I.bare, I.base, I.loc, I.cell, I.free, I.freeC, fun p hp => (List.mem_append.mp hp).elim (fun z => I.pin p (List.mem_append_left _ z)) (h p), I.hok, I.len⟩
theorem nodup_ix {N : List Str} (hN : N.Nodup) {i j : Nat} {x : Str} (a : N[i]? = some x) (b : N[j]? = some x) : i = j := by
  obtain ⟨h1, e1⟩ := List.getElem?_eq_some_iff.mp a
  obtain ⟨h2, e2⟩ := List.getElem?_eq_some_iff.mp b
  exact (List.getElem_inj hN).mp (e1.trans e2.symm)
theorem store_ok2 {M : Model} {A : Around} {E : Value → Shared → Prop} {i : Nat} {x : Str} {v : V} {u : Value} {Q : Unit → Shared → Prop} (I : Inv X pins σ H s) (hN : X.N.Nodup) (hi : X.N[i]? = some x) (hx : Loc X.env.scope x) (r : RelV v u)
    (h : ∀ s', Inv X pins (σ.set i (some v)) H s' → (∃ a, Heap.SameBut a s.heap s'.heap ∧ (a = X.env.locals ∨ X.env.cells.lookup x = some a)) → Q () s') (hf : X.fn x = true ∨ X.env.scope.names.lookup x = some .local := by first | exact .inl rfl | exact .inr rfl | assumption) : wpAny M A (storeName X.env x u) Q E s := by
  obtain ⟨m, hn, hl⟩ := id I.loc
  have hcls : (X.env.scope.kind == .class || (X.env.scope.kind == .module && X.env.locals != X.env.globals)) = false := by rw [I.ok.kind]; rfl
  have hiσ : i < σ.length := by rw [I.len]; exact (List.getElem?_eq_some_iff.mp hi).1
  have cne := I.cne
  have tracked : ∀ {a : Addr} {h' : Heap}, (∃ o, s.heap.get? a = some o ∧ H a = none) → Heap.SameBut a s.heap h' → HOk X.prog X.w H h' := fun {a h'} ha hs b ob e => by
    obtain ⟨_, _, hfree⟩ := ha
    refine (I.hok b ob e).stay (fun c w' hc q => (hs.2 c ?_).trans q) (fun _ q => q) fun _ _ q => q
    rintro rfl
    rcases hc with rfl | hc
    · rw [hfree] at e; cases e
    · rw [hfree] at hc; cases hc
  rcases hx with hk | hk
  · refine wpAny_storeName_local hk hn (fun h' hn' hs => ?_) hcls
    obtain ⟨oL, _, _, hoL, _⟩ := id hn
    refine h _ ⟨I.ok, I.os, I.bare, ⟨fun b o e n hb hx => ?_, fun b o e n hb hx => ?_, I.base.free, fun b o e hx => ?_, I.base.tups, I.base.frzs, I.base.tbls⟩, ⟨_, hn', fun j y v' e1 e2 e3 => ?_⟩, fun y c e => ?_, I.free, I.freeC, fun p hp => ?_, tracked ⟨oL, hoL, I.free⟩ hs, by simpa using I.len⟩ ⟨_, hs, .inl rfl⟩
    · exact (hs.2 b (Nat.ne_of_lt (Nat.lt_of_lt_of_le (Heap.lt_size e) I.ok.above))).trans (I.base.keep b o e n hb hx)
    · obtain ⟨sl, e1⟩ := I.base.slot b o e n hb hx
      exact ⟨sl, (hs.2 b (Nat.ne_of_lt (Nat.lt_of_lt_of_le (Heap.lt_size e) I.ok.above))).trans e1⟩
    · obtain ⟨o', e1⟩ := I.base.there b o e hx
      exact ⟨o', (hs.2 b (Nat.ne_of_lt (Nat.lt_of_lt_of_le (Heap.lt_size e) I.ok.above))).trans e1⟩
    · by_cases hj : j = i
      · subst hj
        rw [hi] at e1; cases e1
        rw [List.getElem?_set_self hiσ] at e2
        cases e2
        exact ⟨u, r, .inl ⟨hk, by simp⟩⟩
      · rw [List.getElem?_set_ne (Ne.symm hj)] at e2
        obtain ⟨u', r', q⟩ := hl j y v' e1 e2 e3
        refine ⟨u', r', ?_⟩
        rcases q with ⟨k, e⟩ | ⟨k, c, e, z⟩
        · refine .inl ⟨k, ?_⟩
          have : y ≠ x := fun e => hj (nodup_ix hN e1 (e ▸ hi))
          simp [this, e]
        · exact .inr ⟨k, c, e, z.sameBut hs (cne y c e)⟩
    · obtain ⟨w', z⟩ := I.cell y c e
      exact ⟨w', z.sameBut hs (cne y c e)⟩
    · obtain ⟨e, n, ne, nf, d⟩ := I.pin p hp
      exact ⟨(hs.2 p.1 ne).trans e, n, ne, nf, d⟩
  · have hfn : X.fn x = true := by
      rcases hf with z | z
      · exact z
      · rw [z] at hk; cases hk
    obtain ⟨c, hc⟩ := I.ok.has x (.inl hk)
    obtain ⟨w', z⟩ := I.cell x c hc
    refine wpAny_storeName_cell I.ok.kind hk hc z (fun h' hc' hs => ?_)
    obtain ⟨oc, hoc, hocd⟩ := id z
    refine h { s with heap := h' } ⟨I.ok, I.os, I.bare, ⟨fun b o e n hb hx => ?_, fun b o e n hb hx => ?_, I.base.free, fun b o e hx => ?_, I.base.tups, I.base.frzs, I.base.tbls⟩, ⟨m, hn.sameBut hs (Ne.symm (cne x c hc)), fun j y v' e1 e2 e3 => ?_⟩, fun y c' e => ?_, I.free, I.freeC, fun p hp => ?_, tracked ⟨oc, hoc, I.freeC x c hc⟩ hs, by simpa using I.len⟩ ⟨c, hs, .inr hc⟩
    · exact (hs.2 b (Nat.ne_of_lt (Nat.lt_of_lt_of_le (Heap.lt_size e) (I.ok.cab x c hfn hc)))).trans (I.base.keep b o e n hb hx)
    · obtain ⟨sl, e1⟩ := I.base.slot b o e n hb hx
      exact ⟨sl, (hs.2 b (Nat.ne_of_lt (Nat.lt_of_lt_of_le (Heap.lt_size e) (I.ok.cab x c hfn hc)))).trans e1⟩
    · obtain ⟨o', e1⟩ := I.base.there b o e hx
      exact ⟨o', (hs.2 b (Nat.ne_of_lt (Nat.lt_of_lt_of_le (Heap.lt_size e) (I.ok.cab x c hfn hc)))).trans e1⟩
    · by_cases hj : j = i
      · subst hj
        rw [hi] at e1; cases e1
        rw [List.getElem?_set_self hiσ] at e2
        cases e2
        exact ⟨u, r, .inr ⟨.inl hk, c, hc, hc'⟩⟩
      · rw [List.getElem?_set_ne (Ne.symm hj)] at e2
        obtain ⟨u', r', q⟩ := hl j y v' e1 e2 e3
        refine ⟨u', r', ?_⟩
        rcases q with q | ⟨k, c', e, z'⟩
        · exact .inl q
        · refine .inr ⟨k, c', e, z'.sameBut hs ?_⟩
          rintro rfl
          exact hj (nodup_ix hN e1 (I.ok.inj _ _ _ e hc ▸ hi))
    · by_cases hcc : c' = c
      · subst hcc; exact ⟨_, hc'⟩
      · obtain ⟨w2, z2⟩ := I.cell y c' e
        exact ⟨w2, z2.sameBut hs hcc⟩
    · obtain ⟨e, n, ne, nf, d⟩ := I.pin p hp
      refine ⟨(hs.2 p.1 ?_).trans e, n, ne, nf, d⟩
      intro q
      rw [q, hoc] at e
      have q' : oc = p.2 := Option.some.inj e
      exact d w' (by rw [← q']; exact hocd)
theorem store_ok {M : Model} {A : Around} {E : Value → Shared → Prop} {i : Nat} {x : Str} {v : V} {u : Value} {Q : Unit → Shared → Prop} (I : Inv X pins σ H s) (hN : X.N.Nodup) (hi : X.N[i]? = some x) (hx : Loc X.env.scope x) (r : RelV v u)
    (h : ∀ s', Inv X pins (σ.set i (some v)) H s' → Q () s') (hf : X.fn x = true ∨ X.env.scope.names.lookup x = some .local := by first | exact .inl rfl | exact .inr rfl | assumption) : wpAny M A (storeName X.env x u) Q E s :=
  store_ok2 I hN hi hx r (fun s' I' _ => h s' I') hf
theorem Inv.call' {s' : Shared} {ch : List Addr} (I : Inv X pins σ H s) (ho : s'.os = s.os) (u : Un (frs X.stack) ch H H' s.heap s'.heap) (hok : HOk X.prog X.w H' s'.heap) (hg : AllBare s'.gens)
    (hch : ∀ b ∈ ch, (b ∈ X.ex ∨ X.s₀.heap.objs.size ≤ b) ∧ b ≠ X.env.locals ∧ (∀ x c, X.env.cells.lookup x = some c → c ≠ b) ∧ ∀ p ∈ X.pn ++ pins, p.1 ≠ b) : Inv X pins σ H' s' := by
  obtain ⟨h', g', d', t', o'⟩ := s'
  have e : o' = s.os := ho
  subst e
  exact I.call (g' := g') (t' := t') (d' := d') u hok hg hch
end
noncomputable abbrev XK := Value → Option Addr → Hp → Prop
noncomputable abbrev St := List (Option V)
noncomputable abbrev VK := V → Hp → Prop
noncomputable abbrev TE := St → Hp → VK → Prop
noncomputable abbrev TT := St → Hp → (Bool → Hp → Prop) → Prop
noncomputable abbrev TA := St → Hp → (List V → Hp → Prop) → Prop
structure Ends where
  nx : St → Hp → Prop
  rt : VK
  bk : St → Hp → Prop := fun _ _ => False
  ct : St → Hp → Prop := fun _ _ => False
noncomputable abbrev TS := Ends → St → Hp → Prop
noncomputable def EP (X : Cx) (pins : List (Addr × Obj)) (σ : St) (Q : VK) (u : Value) (s' : Shared) : Prop := ∃ v H', Inv X pins σ H' s' ∧ RelV v u ∧ Q v H'
noncomputable def TP (X : Cx) (pins : List (Addr × Obj)) (σ : St) (Q : Bool → Hp → Prop) (b : Bool) (s' : Shared) : Prop := ∃ H', Inv X pins σ H' s' ∧ Q b H'
noncomputable def AP (X : Cx) (pins : List (Addr × Obj)) (σ : St) (Q : List V → Hp → Prop) (us : List Value) (s' : Shared) : Prop := ∃ vs H', Inv X pins σ H' s' ∧ Vals vs us ∧ Q vs H'
noncomputable def SP (X : Cx) (pins : List (Addr × Obj)) (D : Ends) (f : Flow) (s' : Shared) : Prop :=
  match f with
  | .next => ∃ σ' H', Inv X pins σ' H' s' ∧ D.nx σ' H'
  | .brk => ∃ σ' H', Inv X pins σ' H' s' ∧ D.bk σ' H'
  | .cont => ∃ σ' H', Inv X pins σ' H' s' ∧ D.ct σ' H'
  | .ret u => ∃ v σ' H', Inv X pins σ' H' s' ∧ RelV v u ∧ D.rt v H'
noncomputable def PE (X : Cx) (e : Expr) (t : TE) : Prop :=
  ∀ (pins : List (Addr × Obj)) (s : Shared) (σ : St) (H : Hp) (Q : VK), Inv X pins σ H s → t σ H Q → wpAny (model X.prog X.w) X.A (eval e X.env) (EP X pins σ Q) X.xe s
noncomputable def PT (X : Cx) (e : Expr) (t : TT) : Prop :=
  ∀ (pins : List (Addr × Obj)) (s : Shared) (σ : St) (H : Hp) (Q : Bool → Hp → Prop), Inv X pins σ H s → t σ H Q → wpAny (model X.prog X.w) X.A (isTrue e X.env (eval e X.env)) (TP X pins σ Q) X.xe s
noncomputable def PW (X : Cx) (e : Expr) (t : TT) : Prop :=
  ∀ (whole : Sem Value) (pins : List (Addr × Obj)) (s : Shared) (σ : St) (H : Hp) (Q : Bool → Hp → Prop), Inv X pins σ H s → t σ H Q → wpAny (model X.prog X.w) X.A (isTrue e X.env whole) (TP X pins σ Q) X.xe s
theorem PW.pt {X : Cx} {e : Expr} {t : TT} (h : PW X e t) : PT X e t := h _
noncomputable def PA (X : Cx) (es : List Expr) (t : TA) : Prop :=
  ∀ (pos : Pos) (pins : List (Addr × Obj)) (s : Shared) (σ : St) (H : Hp) (Q : List V → Hp → Prop), Inv X pins σ H s → t σ H Q → wpAny (model X.prog X.w) X.A (spliced (backTo pos (starEach es X.env))) (AP X pins σ Q) X.xe s
noncomputable def PS (X : Cx) (st : Stmt) (t : TS) : Prop :=
  ∀ (pins : List (Addr × Obj)) (s : Shared) (σ : St) (H : Hp) (D : Ends), Inv X pins σ H s → t D σ H → wpAny (model X.prog X.w) X.A (exec st X.env) (SP X pins D) X.xe s
noncomputable def PSs (X : Cx) (st : List Stmt) (t : TS) : Prop :=
  ∀ (pins : List (Addr × Obj)) (s : Shared) (σ : St) (H : Hp) (D : Ends), Inv X pins σ H s → t D σ H → wpAny (model X.prog X.w) X.A (execs st X.env) (SP X pins D) X.xe s
theorem thn {α : Type} {t : Sem α} {Q Q' : α → Shared → Prop} {M : Model} {A : Around} {E : Value → Shared → Prop} {s : Shared} (h : wpAny M A t Q E s) (hQ : ∀ a s, Q a s → Q' a s) : wpAny M A t Q' E s := wpAny_mono h hQ fun _ _ x => x
end L2
namespace L2
open PySem PySem.Spec PyProof.Rows
section
variable {X : Cx}
noncomputable def tVar (i : Nat) : TE := fun σ H Q => ∃ v, σ[i]? = some (some v) ∧ Q v H
noncomputable def tC (v : V) : TE := fun _ H Q => Q v H
theorem pe_var {i : Nat} {x : Str} {pos : Pos} (hN : X.N[i]? = some x) (hv : Vis X.env.scope x) (hd : (x == ("__debug__" : Str)) = false := by decide) (hcd : (x == ("__classdict__" : Str)) = false := by decide) : PE X (.Name x pos) (tVar i) := by
  intro pins s σ H Q I h
  obtain ⟨v, e, h⟩ := h
  obtain ⟨m, hn, hl⟩ := I.loc
  obtain ⟨u, r, l⟩ := hl i x v hN e hv
  have fin : EP X pins σ Q u s := ⟨v, H, I, r, h⟩
  rcases l with ⟨hk, hm⟩ | ⟨hk, c, hc, hcell⟩
  · exact wpAny_Name (wpAny_loadName_local I.ok.kind hk hn hm fin) hd
  · rcases hk with hk | hk
    · exact wpAny_Name (wpAny_loadName_cell I.ok.kind hk hc hcell fin) hd
    · exact wpAny_Name (wpAny_loadName_free I.ok.kind hk hc hcell fin hcd) hd
theorem pe_int {i j pos} : PE X (.Constant (.int i) j pos) (tC (.int i)) := fun _ _ _ H _ I h => wpAny_Constant_int ⟨.int i, H, I.tok _, ⟨_, rfl⟩, h⟩
theorem pe_bl {b j pos} : PE X (.Constant (.bool b) j pos) (tC (.bl b)) := fun _ _ _ H _ I h => Constant_bool ⟨.bl b, H, I, rfl, h⟩
theorem pe_non {j pos} : PE X (.Constant .none j pos) (tC .non) := fun _ _ _ H _ I h => Constant_none ⟨.non, H, I, rfl, h⟩
theorem pe_str {x j pos} : PE X (.Constant (.str x) j pos) (tC (.str x)) := fun _ _ _ H _ I h => Calls.Constant_str ⟨.str x, H, I.tok _, ⟨_, rfl⟩, h⟩
noncomputable def Gl (X : Cx) (x : Str) : Prop := X.env.kindOf x = some .globalImplicit
theorem ld_glob {E : Value → Shared → Prop} {pins : List (Addr × Obj)} {s : Shared} {σ : St} {H : Hp} {x : Str} {u : Value} {pos : Pos} {Q : Value → Shared → Prop} (I : Inv X pins σ H s) (hg : Gl X x) (hm : X.mg x = some u) (h : Q u s)
    (hd : (x == ("__debug__" : Str)) = false := by decide) : wpAny (model X.prog X.w) X.A (eval (.Name x pos) X.env) Q E s :=
  Calls.Name_function_global I.ok.kind hg (Calls.loadGlobal_global (by rw [I.ok.glob]; exact I.mod.glob.keeps I.bk) hm h) hd
theorem ld_blt {E : Value → Shared → Prop} {pins : List (Addr × Obj)} {s : Shared} {σ : St} {H : Hp} {x : Str} {u : Value} {pos : Pos} {Q : Value → Shared → Prop} (I : Inv X pins σ H s) (hg : Gl X x) (hm : X.mg x = none) (hv : bootBuiltins x = some u) (h : Q u s)
    (hn : x ≠ "__name__" := by decide) (hd : (x == ("__debug__" : Str)) = false := by decide) : wpAny (model X.prog X.w) X.A (eval (.Name x pos) X.env) Q E s := by
  obtain ⟨mb, h1, h2⟩ := I.mod.blt
  exact Calls.Name_function_global I.ok.kind hg (Calls.loadGlobal_builtin (by rw [I.ok.glob]; exact I.mod.glob.keeps I.bk) hm (by rw [I.ok.blt]; exact h1.keeps I.bk) ((h2 x hn).trans hv) h) hd
theorem pe_glob {x : Str} {v : V} {u : Value} {pos : Pos} (hg : Gl X x) (hm : X.mg x = some u) (r : RelV v u) (hd : (x == ("__debug__" : Str)) = false := by decide) : PE X (.Name x pos) (tC v) :=
  fun _ _ _ H _ I h => ld_glob I hg hm ⟨v, H, I, r, h⟩ hd
theorem pe_bltn {x : Str} {v : V} {u : Value} {pos : Pos} (hg : Gl X x) (hm : X.mg x = none) (hv : bootBuiltins x = some u) (r : RelV v u) (hn : x ≠ "__name__" := by decide) (hd : (x == ("__debug__" : Str)) = false := by decide) : PE X (.Name x pos) (tC v) :=
  fun _ _ _ H _ I h => ld_blt I hg hm hv ⟨v, H, I, r, h⟩ hn hd
variable {a b : Expr} {ta tb : TE} {pos : Pos}
noncomputable def PC (X : Cx) (op : CmpOp) (a b : Expr) (t : TE) : Prop :=
  ∀ (pins : List (Addr × Obj)) (s : Shared) (σ : St) (H : Hp) (Q : VK), Inv X pins σ H s → t σ H Q →
    wpAny (model X.prog X.w) X.A (eval a X.env) (fun v s₁ => wpAny (model X.prog X.w) X.A (eval b X.env) (fun u s₂ => wpAny (model X.prog X.w) X.A (compareOp op v u) (EP X pins σ Q) X.xe s₂) X.xe s₁) X.xe s
noncomputable def tB (t : TE) : TT := fun σ H Q => t σ H fun x H1 => ∃ c, x = .bl c ∧ Q c H1
theorem pt_cmp {op : CmpOp} {t : TE} (h : PC X op a b t) (h1 : behindInMarks op b = false := by first | exact nobehind _ (by decide) (by decide) | rfl) : PT X (.Compare a [op] [b] pos) (tB t) := by
  intro pins s σ H Q I hw
  refine wpAny_isTrue_Compare1 (thn (h pins s σ H _ I hw) fun v s1 h1 => thn h1 fun u s2 h2 => thn h2 fun c s3 ⟨x, H1, I1, r1, q1⟩ => ?_) h1
  obtain ⟨d, rfl, q⟩ := q1
  cases r1
  exact wpAny_truthy_bool ⟨H1, I1, q⟩
theorem pt_val {e : Expr} {t : TE} (h : PE X e t) (he : ∀ whole, isTrue e X.env whole = (do let v ← whole; standAt e.pos; holding [v] (truthy v)) := by intro _; rfl) : PT X e (tB t) := by
  intro pins s σ H Q I hw
  refine isTrue_plain (thn (h pins s σ H _ I hw) fun v s1 ⟨x, H1, I1, r1, q1⟩ => ?_) (he _)
  obtain ⟨d, rfl, q⟩ := q1
  cases r1
  exact wpAny_truthy_bool ⟨H1, I1, q⟩
variable {tA tB' : TT} {rest : List Expr}
noncomputable def tAnd (t u : TT) : TT := fun σ H Q => t σ H fun c H1 => if c = true then u σ H1 Q else Q false H1
noncomputable def tOr (t u : TT) : TT := fun σ H Q => t σ H fun c H1 => if c = true then Q true H1 else u σ H1 Q
noncomputable def tNot (t : TT) : TT := fun σ H Q => t σ H fun c H1 => Q (!c) H1
theorem pw_and1 (ha : PT X a tA) : PW X (.BoolOp .And [a] pos) tA := by
  intro wh pins s σ H Q I h
  refine isTrue_and (thn (ha pins s σ H Q I h) fun c s1 e => ?_)
  cases c with
  | true => exact isTrue_and_nil e
  | false => exact e
theorem pw_or1 (ha : PT X a tA) : PW X (.BoolOp .Or [a] pos) tA := by
  intro wh pins s σ H Q I h
  refine isTrue_or (thn (ha pins s σ H Q I h) fun c s1 e => ?_)
  cases c with
  | false => exact isTrue_or_nil e
  | true => exact e
theorem pw_and (ha : PT X a tA) (hb : PW X (.BoolOp .And (b :: rest) pos) tB') : PW X (.BoolOp .And (a :: b :: rest) pos) (tAnd tA tB') := by
  intro wh pins s σ H Q I h
  refine isTrue_and (thn (ha pins s σ H _ I h) fun c s1 hpt => ?_)
  obtain ⟨H1, I1, q1⟩ := hpt
  cases c with
  | true => exact hb wh pins s1 σ H1 Q I1 q1
  | false => exact ⟨H1, I1, q1⟩
theorem pw_or (ha : PT X a tA) (hb : PW X (.BoolOp .Or (b :: rest) pos) tB') : PW X (.BoolOp .Or (a :: b :: rest) pos) (tOr tA tB') := by
  intro wh pins s σ H Q I h
  refine isTrue_or (thn (ha pins s σ H _ I h) fun c s1 hpt => ?_)
  obtain ⟨H1, I1, q1⟩ := hpt
  cases c with
  | true => exact ⟨H1, I1, q1⟩
  | false => exact hb wh pins s1 σ H1 Q I1 q1
theorem pt_not (ha : PT X a tA) : PT X (.UnaryOp .Not a pos) (tNot tA) := by
  intro pins s σ H Q I h
  exact isTrue_not (ha pins s σ H (fun c H1 => Q (!c) H1) I h)
noncomputable def tAndV (ta tb : TE) : TE := fun σ H Q => ta σ H fun x H1 => ∃ c, x = .bl c ∧ if c = true then tb σ H1 Q else Q (.bl false) H1
theorem pe_one {op} {t : TE} (h : PE X a t) : PE X (.BoolOp op [a] pos) t := fun pins s σ H Q I hw => BoolOp_one (h pins s σ H Q I hw)
theorem pe_and (ha : PE X a ta) (hb : PE X (.BoolOp .And (b :: rest) pos) tb) : PE X (.BoolOp .And (a :: b :: rest) pos) (tAndV ta tb) := by
  intro pins s σ H Q I h
  refine BoolOp_and (thn (ha pins s σ H _ I h) fun v s1 hpt => ?_)
  obtain ⟨x, H1, I1, r1, q1⟩ := hpt
  obtain ⟨c, rfl, q1⟩ := q1
  cases r1
  refine wpAny_truthy_bool ?_
  cases c with
  | true => exact hb pins s1 σ H1 Q I1 q1
  | false => exact ⟨.bl false, H1, I1, rfl, q1⟩
noncomputable def tIf (t : TT) (ta tb : TE) : TE := fun σ H Q => t σ H fun c H1 => if c = true then ta σ H1 Q else tb σ H1 Q
theorem pe_ifExp {c : Expr} (hc : PT X c tA) (ha : PE X a ta) (hb : PE X b tb) : PE X (.IfExp c a b pos) (tIf tA ta tb) := by
  intro pins s σ H Q I h
  refine wpAny_IfExp (thn (hc pins s σ H _ I h) fun d s1 hpt => ?_)
  obtain ⟨H1, I1, q1⟩ := hpt
  cases d with
  | true => exact ha pins s1 σ H1 Q I1 q1
  | false => exact hb pins s1 σ H1 Q I1 q1
end
end L2
namespace L2
open PySem PySem.Spec PyProof.Rows
noncomputable def SqL (K : PySem.W.Frag) (H : Hp) (a : Addr) (xs : List V) : Prop :=
  Rd H a (.lst xs) ∨
    ∃ (o : Obj) (its : Array Value) (n : Nat), K.lookup a = some o ∧ o.cls = .type "list" ∧ o.dict = none ∧ o.data = .seq its n ∧ its.size ≤ sizeLine ∧ Vals xs its.toList
noncomputable def SqT (K : PySem.W.Frag) (H : Hp) (a : Addr) (xs : List V) : Prop :=
  Rd H a (.tup xs) ∨
    ∃ (o : Obj) (its : Array Value) (n : Nat), K.lookup a = some o ∧ o.cls = .type "tuple" ∧ o.data = .seq its n ∧ its.size ≤ sizeLine ∧ Vals xs its.toList
noncomputable def absV : Value → Option V
  | .none => some .non
  | .bool b => some (.bl b)
  | .int i _ => some (.int i)
  | .str x _ => some (.str x)
  | .bytes b _ => some (.byt b)
  | .float b _ => some (.flt b)
  | .ref a => some (.ref a)
  | .type n => some (.ty n)
  | _ => none
theorem RelV.abs {x : V} {u : Value} (r : RelV x u) : absV u = some x := by
  cases x with
  | non => cases r; rfl
  | bl _ => cases r; rfl
  | int _ => obtain ⟨t, rfl⟩ := r; rfl
  | str _ => obtain ⟨t, rfl⟩ := r; rfl
  | byt _ => obtain ⟨t, rfl⟩ := r; rfl
  | flt _ => obtain ⟨t, rfl⟩ := r; rfl
  | ref _ => cases r; rfl
  | ty _ => cases r; rfl
theorem RelV.inj {x y : V} {u : Value} (r : RelV x u) (q : RelV y u) : x = y := Option.some.inj (r.abs.symm.trans q.abs)
theorem Vals.inj : ∀ {xs ys : List V} {us : List Value}, Vals xs us → Vals ys us → xs = ys
  | _, _, _, .nil, .nil => rfl
  | _, _, _, .cons r t, .cons r' t' => by rw [r.inj r', Vals.inj t t']
section
variable {X : Cx} {pins : List (Addr × Obj)} {σ : St} {H : Hp} {s : Shared} {a : Addr} {xs ys : List V}
theorem SqL.of {K : PySem.W.Frag} (h : H a = some (.lst xs)) : SqL K H a xs := .inl (.inl h)
theorem SqT.of {K : PySem.W.Frag} (h : H a = some (.tup xs)) : SqT K H a xs := .inl (.inl h)
theorem Inv.list (I : Inv X pins σ H s) (h : SqL X.K H a xs) : ∃ its : List Value, Vals xs its ∧ PlainL s.heap a its.toArray ∧ xs.length ≤ sizeLine := by
  rcases h with h | ⟨o, its, n, hk, hc, hd, hs, hz, r⟩
  · obtain ⟨z, its, n, r, e⟩ := h.ok I.hok
    exact ⟨its, r, ⟨_, n, e, rfl, rfl, rfl⟩, z⟩
  · refine ⟨its.toList, r, ⟨o, n, I.kIn a o hk, hc, hd, by simpa using hs⟩, ?_⟩
    have e := r.length
    simp only [Array.length_toList] at e
    omega
theorem Inv.tuple (I : Inv X pins σ H s) (h : SqT X.K H a xs) : ∃ its : List Value, Vals xs its ∧ IsTup s.heap a its.toArray ∧ xs.length ≤ sizeLine := by
  rcases h with h | ⟨o, its, n, hk, hc, hs, hz, r⟩
  · obtain ⟨z, its, r, p⟩ := h.ok I.hok
    exact ⟨its, r, p, z⟩
  · refine ⟨its.toList, r, ⟨o, I.kIn a o hk, hc, n, by simpa using hs⟩, ?_⟩
    have e := r.length
    simp only [Array.length_toList] at e
    omega
theorem Inv.list_inj (I : Inv X pins σ H s) (h : SqL X.K H a xs) (h' : SqL X.K H a ys) : xs = ys := by
  obtain ⟨its, r, ⟨o, n, e, _, _, d⟩, _⟩ := I.list h
  obtain ⟨its', r', ⟨o', n', e', _, _, d'⟩, _⟩ := I.list h'
  rw [e] at e'; cases e'
  rw [d] at d'
  injection d' with d1 _
  have : its = its' := by simpa using congrArg Array.toList d1
  subst this
  exact r.inj r'
theorem Inv.tuple_inj (I : Inv X pins σ H s) (h : SqT X.K H a xs) (h' : SqT X.K H a ys) : xs = ys := by
  obtain ⟨its, r, ⟨o, e, _, n, d⟩, _⟩ := I.tuple h
  obtain ⟨its', r', ⟨o', e', _, n', d'⟩, _⟩ := I.tuple h'
  rw [e] at e'; cases e'
  rw [d] at d'
  injection d' with d1 _
  have : its = its' := by simpa using congrArg Array.toList d1
  subst this
  exact r.inj r'
end
noncomputable abbrev Cx.wish (X : Cx) (E : Value → Shared → Prop) : Cx := { X with xe := E }
noncomputable abbrev Cx.nox (X : Cx) : Cx := X.wish fun _ _ => False
theorem Cx.Ok.wish {X : Cx} (ok : X.Ok) (E : Value → Shared → Prop) : (X.wish E).Ok :=
  ⟨ok.mod, ok.kind, ok.glob, ok.blt, ok.above, ok.inj, ok.has, ok.cab, ok.hd, ok.frames, ok.stk, ok.exf, ok.bs, ok.bsz, ok.noex, ok.exfs, ok.funs, ok.frf⟩
theorem Cx.Ok.unwish {X : Cx} {E : Value → Shared → Prop} (ok : (X.wish E).Ok) : X.Ok :=
  ⟨ok.mod, ok.kind, ok.glob, ok.blt, ok.above, ok.inj, ok.has, ok.cab, ok.hd, ok.frames, ok.stk, ok.exf, ok.bs, ok.bsz, ok.noex, ok.exfs, ok.funs, ok.frf⟩
section
variable {X : Cx} {pins : List (Addr × Obj)} {σ : St} {H : Hp} {s : Shared} {E : Value → Shared → Prop}
theorem Inv.wish (I : Inv X pins σ H s) (E : Value → Shared → Prop) : Inv (X.wish E) pins σ H s := ⟨I.ok.wish E, I.os, I.bare, I.base, I.loc, I.cell, I.free, I.freeC, I.pin, I.hok, I.len⟩
theorem Inv.unwish (I : Inv (X.wish E) pins σ H s) : Inv X pins σ H s := ⟨I.ok.unwish, I.os, I.bare, I.base, I.loc, I.cell, I.free, I.freeC, I.pin, I.hok, I.len⟩
theorem SP.unwish {D : Ends} {f : Flow} {s' : Shared} (h : SP (X.wish E) pins D f s') : SP X pins D f s' := by
  cases f with
  | next => obtain ⟨σ', H', I, q⟩ := h; exact ⟨σ', H', I.unwish, q⟩
  | brk => obtain ⟨σ', H', I, q⟩ := h; exact ⟨σ', H', I.unwish, q⟩
  | cont => obtain ⟨σ', H', I, q⟩ := h; exact ⟨σ', H', I.unwish, q⟩
  | ret u => obtain ⟨v, σ', H', I, r, q⟩ := h; exact ⟨v, σ', H', I.unwish, r, q⟩
theorem PSs.nox {st : List Stmt} {t : TS} (h : PSs X.nox st t) : PSs X st t := fun pins s σ H D I hw =>
  wpAny_mono (h pins s σ H D (I.wish _) hw) (fun _ _ q => q.unwish) fun _ _ z => False.elim z
end
section
variable {X : Cx} {st : Stmt} {rest : List Stmt} {t u : TS} {e : Expr} {te : TE} {pos : Pos}
noncomputable def tNext : TS := fun D σ H => D.nx σ H
noncomputable def tSeq (t u : TS) : TS := fun D σ H => t { D with nx := u D } σ H
theorem pss_nil : PSs X [] tNext := fun _ _ σ H _ I h => wpAny_execs_nil ⟨σ, H, I, h⟩
theorem pss_cons (h1 : PS X st t) (h2 : PSs X rest u) : PSs X (st :: rest) (tSeq t u) := by
  intro pins s σ H D I h
  refine wpAny_execs_cons (thn (h1 pins s σ H { D with nx := u D } I h) fun f s1 q => ?_)
  cases f with
  | next =>
    obtain ⟨σ', H', I', q⟩ := q
    exact h2 pins s1 σ' H' D I' q
  | ret v => exact q
  | brk => exact q
  | cont => exact q
theorem pss_one (h1 : PS X st t) : PSs X [st] t := by
  intro pins s σ H D I h
  refine wpAny_execs_cons (thn (h1 pins s σ H D I h) fun f s1 q => ?_)
  cases f with
  | next => exact wpAny_execs_nil q
  | ret v => exact q
  | brk => exact q
  | cont => exact q
theorem Inv.quiet {pins : List (Addr × Obj)} {σ : St} {H : Hp} {s : Shared} (I : Inv X pins σ H s) : interactive X.env = false := by simp [interactive, I.ok.kind]
noncomputable def tDrop (te : TE) : TS := fun D σ H => te σ H fun _ H1 => D.nx σ H1
theorem ps_expr (he : PE X e te) (hs : swapsWith e none pos.line X.env = pure false := by rfl) : PS X (.Expr e pos) (tDrop te) := by
  intro pins s σ H D I h
  exact wpAny_Expr_any (thn (he pins s σ H _ I h) fun v s1 ⟨x, H1, I1, r1, q1⟩ => ⟨σ, H1, I1, q1⟩) I.quiet hs
noncomputable def tRet (te : TE) : TS := fun D σ H => te σ H D.rt
theorem ps_ret (he : PE X e te) : PS X (.Return (some e) pos) (tRet te) := by
  intro pins s σ H D I h
  exact wpAny_Return_some (thn (he pins s σ H _ I h) fun v s1 ⟨x, H1, I1, r1, q1⟩ => ⟨x, σ, H1, I1, r1, q1⟩)
noncomputable def tIfS (c : TT) (t u : TS) : TS := fun D σ H => c σ H fun b H1 => if b = true then t D σ H1 else u D σ H1
theorem ps_if {c : Expr} {a b : List Stmt} {tc : TT} (hc : PT X c tc) (ha : PSs X a t) (hb : PSs X b u) : PS X (.If c a b pos) (tIfS tc t u) := by
  intro pins s σ H D I h
  refine wpAny_If (thn (hc pins s σ H _ I h) fun d s1 hpt => ?_)
  obtain ⟨H1, I1, q1⟩ := hpt
  cases d with
  | true => exact ha pins s1 σ H1 D I1 q1
  | false => exact hb pins s1 σ H1 D I1 q1
noncomputable def tNever : TS := fun _ _ _ => False
theorem ps_never : PS X st tNever := fun _ _ _ _ _ _ h => h.elim
end
noncomputable abbrev TG := V → St → Hp → (St → Hp → Prop) → Prop
noncomputable abbrev TGs := List V → St → Hp → (St → Hp → Prop) → Prop
noncomputable def PG (X : Cx) (target : Expr) (t : TG) : Prop :=
  ∀ (pins : List (Addr × Obj)) (s : Shared) (σ : St) (H : Hp) (v : V) (u : Value) (Q : St → Hp → Prop), Inv X pins σ H s → RelV v u → t v σ H Q →
    wpAny (model X.prog X.w) X.A (assign target X.env u) (fun _ s' => ∃ σ' H', Inv X pins σ' H' s' ∧ Q σ' H') X.xe s
noncomputable def PGs (X : Cx) (ts : List Expr) (t : TGs) : Prop :=
  ∀ (pins : List (Addr × Obj)) (s : Shared) (σ : St) (H : Hp) (vs : List V) (us : List Value) (Q : St → Hp → Prop), Inv X pins σ H s → Vals vs us → t vs σ H Q →
    wpAny (model X.prog X.w) X.A (assignInOrder ((assignEach ts X.env).map (·.2)) us) (fun _ s' => ∃ σ' H', Inv X pins σ' H' s' ∧ Q σ' H') X.xe s
noncomputable abbrev TSet := V → V → V → Hp → (Hp → Prop) → Prop
noncomputable def PSet (X : Cx) (t : TSet) : Prop :=
  ∀ (pins : List (Addr × Obj)) (s : Shared) (σ : St) (H : Hp) (o i v : V) (ov iv u : Value) (Q : Hp → Prop), Inv X pins σ H s → RelV o ov → RelV i iv → RelV v u → t o i v H Q →
    wpAny (model X.prog X.w) X.A (setItem ov iv u) (fun _ s' => ∃ H', Inv X pins σ H' s' ∧ Q H') X.xe s
section
variable {X : Cx} {pos : Pos}
noncomputable def gName (i : Nat) : TG := fun v σ H Q => Q (σ.set i (some v)) H
theorem pg_name {i : Nat} {x : Str} (hN : X.N.Nodup) (hi : X.N[i]? = some x) (hx : Loc X.env.scope x) (hf : X.fn x = true ∨ X.env.scope.names.lookup x = some .local := by first | exact .inl rfl | exact .inr rfl | assumption) : PG X (.Name x pos) (gName i) := by
  intro pins s σ H v u Q I r h
  exact wpAny_assign_Name (store_ok I hN hi hx r (fun s' I' => ⟨_, H, I', h⟩) hf)
noncomputable def gNil : TGs := fun vs σ H Q => vs = [] ∧ Q σ H
noncomputable def gCons (t : TG) (u : TGs) : TGs := fun vs σ H Q => ∃ v r, vs = v :: r ∧ t v σ H fun σ' H' => u r σ' H' Q
theorem pgs_nil : PGs X [] gNil := by
  intro pins s σ H vs us Q I r h
  obtain ⟨e, h⟩ := h
  subst e
  cases r
  exact assignInOrder_nil ⟨σ, H, I, h⟩
theorem pgs_cons {e : Expr} {es : List Expr} {t : TG} {u : TGs} (h1 : PG X e t) (h2 : PGs X es u)
    (hs : (assignEach (e :: es) X.env).map (·.2) = assign e X.env :: (assignEach es X.env).map (·.2) := by rfl) : PGs X (e :: es) (gCons t u) := by
  intro pins s σ H vs us Q I r h
  obtain ⟨v, vr, e1, h⟩ := h
  subst e1
  cases r with
  | cons r rr =>
    rw [hs]
    refine assignInOrder_cons (thn (h1 pins s σ H _ _ _ I r h) fun _ s1 hpt => ?_)
    obtain ⟨σ1, H1, I1, q1⟩ := hpt
    exact h2 pins s1 σ1 H1 _ _ Q I1 rr q1
noncomputable def gTup (K : PySem.W.Frag) (n : Nat) (t : TGs) : TG := fun v σ H Q => ∃ a xs, v = .ref a ∧ SqT K H a xs ∧ xs.length = n ∧ t xs σ H Q
theorem pg_tup {es : List Expr} {k : Nat} {t : TGs} {n : Nat} (hc : X.calm = true) (h : PGs X es t)
    (hn : (assignEach es X.env).length = n := by rfl) (hst : (assignEach es X.env).findIdx? (·.1) = none := by rfl) : PG X (.Tuple es k pos) (gTup X.K n t) := by
  intro pins s σ H v u Q I r hw
  obtain ⟨a, xs, e1, hq, hl, hw⟩ := hw
  subst e1
  cases r
  obtain ⟨its, rv, ht, hz⟩ := I.tuple hq
  refine assign_Tuple_tuple (I.ok.hd hc) ht (by simp [hn, ← hl, rv.length]) hst fun h' hx => ?_
  have I1 : Inv X pins σ H { s with heap := h' } := I.kept (t' := s.toks) fun b o e => hx b o (Nat.ne_of_lt (Heap.lt_size e)) e
  exact h pins _ σ H xs _ Q I1 (by simpa using rv) hw
noncomputable def gSub (to ti : TE) (t : TSet) : TG := fun v σ H Q => to σ H fun o H1 => ti σ H1 fun i H2 => t o i v H2 fun H3 => Q σ H3
theorem pg_sub {o i : Expr} {to ti : TE} {t : TSet} (ho : PE X o to) (hi : PE X i ti) (hs : PSet X t)
    (ha : ∀ v, assign (.Subscript o i pos) X.env v = (do
      let ov ← holding [v] (eval o X.env)
      let iv ← holding [v, ov] (eval i X.env)
      standAt pos
      holding [v, ov, iv] (setItem ov iv v)
      release [v, ov, iv] []) := by intro _; rfl) : PG X (.Subscript o i pos) (gSub to ti t) := by
  intro pins s σ H v u Q I r h
  rw [ha]
  refine wpAny_bind (wpAny_holding (thn (ho pins s σ H _ I h) fun ov s1 hpt => ?_))
  obtain ⟨x, H1, I1, r1, q1⟩ := hpt
  refine wpAny_bind (wpAny_holding (thn (hi pins s1 σ H1 _ I1 q1) fun iv s2 hpt => ?_))
  obtain ⟨y, H2, I2, r2, q2⟩ := hpt
  refine wpAny_bind (wpAny_standAt (wpAny_bind (wpAny_holding (thn (hs pins s2 σ H2 x y v ov iv u _ I2 r1 r2 r q2) fun _ s3 hpt => ?_))))
  obtain ⟨H3, I3, q3⟩ := hpt
  exact wpAny_release ⟨σ, H3, I3, q3⟩
noncomputable def tAsg (te : TE) (g : TG) : TS := fun D σ H => te σ H fun x H1 => g x σ H1 D.nx
theorem ps_asg {tg e : Expr} {te : TE} {g : TG} (he : PE X e te) (hg : PG X tg g) (hs : swapsWithSole [tg] e pos.line X.env = pure false := by rfl) (hw : swappedStores [tg] e X.env = pure none := by rfl)
    (h1 : (assignEach [tg] X.env).map (·.2) = [assign tg X.env] := by rfl) : PS X (.Assign [tg] e pos) (tAsg te g) := by
  intro pins s σ H D I h
  refine wpAny_Assign_stores (thn (he pins s σ H _ I h) fun v s1 ⟨x, H1, I1, r1, q1⟩ => ?_) hs hw
  rw [h1]
  exact thn (hg pins s1 σ H1 x v _ I1 r1 q1) fun _ s2 q => q
theorem ps_set {i : Nat} {x : Str} {e : Expr} {te : TE} {pos' : Pos} (hN : X.N.Nodup) (hi : X.N[i]? = some x) (hx : Loc X.env.scope x) (he : PE X e te) (hs : swapsWith e (some (.Name x pos')) pos.line X.env = pure false := by rfl) (hf : X.fn x = true ∨ X.env.scope.names.lookup x = some .local := by first | exact .inl rfl | exact .inr rfl | assumption) :
    PS X (.Assign [.Name x pos'] e pos) (tAsg te (gName i)) := by
  intro pins s σ H D I h
  refine wpAny_Assign_Name (thn (he pins s σ H _ I h) fun v s1 ⟨y, H1, I1, r1, q1⟩ => ?_) hs
  exact store_ok I1 hN hi hx r1 (fun s2 I2 => ⟨_, H1, I2, q1⟩) hf
end
section
variable {X : Cx} {pos : Pos}
noncomputable def tWhile (c : TT) (tb : TS) : TS := fun D σ H => ∃ W : Nat → St → Hp → Prop, (∃ m, W m σ H) ∧ ∀ m σ H, W m σ H →
  c σ H fun b H1 => if b = true then ∃ N : St → Hp → Prop, (∀ σ' H', N σ' H' → ∃ m', m' < m ∧ W m' σ' H') ∧ tb { D with nx := N, ct := N, bk := D.nx } σ H1 else D.nx σ H1
theorem ps_while {c : Expr} {body : List Stmt} {tc : TT} {tb : TS} (hp : PassesOwn (model X.prog X.w) X.A X.env X.xe) (hc : PT X c tc) (hb : PSs X body tb) : PS X (.While c body [] pos) (tWhile tc tb) := by
  intro pins s σ H D I h
  obtain ⟨W, ⟨m0, w0⟩, turn⟩ := h
  refine wpAny_While (codeAny_whileLoop (fun n s' => ∃ σ' H', Inv X pins σ' H' s' ∧ W n σ' H') ?_ m0 ⟨σ, H, I, w0⟩)
  rintro n s1 ⟨σ1, H1, I1, w1⟩
  refine wpAny_passesOwn hp (thn (hc pins s1 σ1 H1 _ I1 (turn n σ1 H1 w1)) fun b s2 hpt => ?_)
  obtain ⟨H2, I2, q2⟩ := hpt
  cases b with
  | true =>
    obtain ⟨N, hN, q2⟩ := q2
    rw [if_pos rfl]
    refine wpAny_passesOwn hp (thn (hb pins s2 σ1 H2 _ I2 q2) fun f s3 q3 => ?_)
    cases f with
    | next =>
      obtain ⟨σ3, H3, I3, n3⟩ := q3
      obtain ⟨m', hm, w3⟩ := hN σ3 H3 n3
      exact ⟨m', hm, σ3, H3, I3, w3⟩
    | cont =>
      obtain ⟨σ3, H3, I3, n3⟩ := q3
      obtain ⟨m', hm, w3⟩ := hN σ3 H3 n3
      exact ⟨m', hm, σ3, H3, I3, w3⟩
    | brk => exact q3
    | ret v => exact q3
  | false =>
    rw [if_neg Bool.false_ne_true]
    exact wpAny_execs_nil ⟨σ1, H2, I2, q2⟩
end
structure It where
  go : Nat → Hp → Prop
  yld : Nat → Hp → V → Hp → Prop
  stop : Nat → Hp → Prop
noncomputable def FpOk (X : Cx) (pins : List (Addr × Obj)) (H : Hp) (b : Addr) : Prop :=
  H b = none ∧ b ≠ X.env.locals ∧ b ∉ X.fs ∧ (b ∈ X.ex ∨ X.s₀.heap.objs.size ≤ b) ∧ (∀ x c, X.env.cells.lookup x = some c → c ≠ b) ∧ ∀ p ∈ X.pn ++ pins, p.1 ≠ b
theorem Inv.fpOk {X : Cx} {pins : List (Addr × Obj)} {σ : St} {H H' : Hp} {s : Shared} {b : Addr} (I : Inv X pins σ H s) (hb : s.heap.objs.size ≤ b) (hn : H' b = none) : FpOk X pins H' b := by
  refine ⟨hn, Nat.ne_of_gt (Nat.lt_of_lt_of_le I.lt hb), I.nofs hb, .inr (Nat.le_trans I.sz hb), fun x c e z => ?_, fun p hp z => ?_⟩
  · obtain ⟨v, q⟩ := I.cell x c e
    exact absurd (Nat.lt_of_lt_of_le q.lt (by rw [z]; exact hb)) (Nat.lt_irrefl _)
  · exact absurd (Nat.lt_of_lt_of_le (Heap.lt_size (I.pin p hp).1) (by rw [z]; exact hb)) (Nat.lt_irrefl _)
structure Turn (P : Program) (w : World) (K : PySem.W.Frag) (tg : Expr) (J : It) (fp : List Addr) (it : Addr) (tn : Nat → Heap → Prop) : Prop where
  mem : it ∈ fp
  obj : ∀ i h, tn i h → ∀ b ∈ fp, ∃ o, h.get? b = some o ∧ ∀ v, o.data ≠ .cell v
  keep : ∀ i h h', tn i h → (∀ b ∈ fp, ∀ o, h.get? b = some o → h'.get? b = some o) → tn i h'
  item : ∀ (X : Cx), X.prog = P → X.w = w → X.K = K → X.calm = true → ∀ (i : Nat) (pins : List (Addr × Obj)) (s : Shared) (σ : St) (H : Hp) (E : Value → Shared → Prop), Inv X pins σ H s → (∀ b ∈ fp, FpOk X pins H b) → tn i s.heap → J.go i H →
    wpAny (model P w) X.A (pyNext (.ref it)) (fun r s1 => ∃ u, r = some u ∧
      wpAny (model P w) X.A (letOwnedTupleGo tg (.ref it) u) (fun _ s2 => ∃ x H', Inv X pins σ H' s2 ∧ RelV x u ∧ J.yld i H x H' ∧ tn (i + 1) s2.heap ∧ ∀ b ∈ fp, H' b = none) E s1) E s
  done : ∀ (X : Cx), X.prog = P → X.w = w → X.K = K → X.calm = true → ∀ (i : Nat) (pins : List (Addr × Obj)) (s : Shared) (σ : St) (H : Hp) (E : Value → Shared → Prop), Inv X pins σ H s → (∀ b ∈ fp, FpOk X pins H b) → tn i s.heap → J.stop i H →
    wpAny (model P w) X.A (pyNext (.ref it)) (fun r s1 => r = none ∧ Inv X pins σ H s1) E s
  self : ∀ (A : Around) (i : Nat) (s : Shared) (Q : Value → Shared → Prop) (E : Value → Shared → Prop), tn i s.heap → Q (.ref it) s → wpAny (model P w) A (pyIter (.ref it)) Q E s
noncomputable abbrev TI := St → Hp → (It → Hp → Prop) → Prop
noncomputable def PIE (X : Cx) (pins : List (Addr × Obj)) (σ : St) (tg : Expr) (R : It → Hp → Prop) (itv : Value) (s2 : Shared) : Prop :=
  ∃ (it : Addr) (fp : List Addr) (tn : Nat → Heap → Prop) (J : It) (H' : Hp), itv = .ref it ∧ Inv X pins σ H' s2 ∧ Turn X.prog X.w X.K tg J fp it tn ∧ tn 0 s2.heap ∧ (∀ b ∈ fp, FpOk X pins H' b) ∧ R J H'
noncomputable def PI (X : Cx) (tg iter : Expr) (wi : TI) : Prop :=
  ∀ (pins : List (Addr × Obj)) (s : Shared) (σ : St) (H : Hp) (R : It → Hp → Prop), Inv X pins σ H s → wi σ H R →
    wpAny (model X.prog X.w) X.A (eval iter X.env) (fun v s1 => wpAny (model X.prog X.w) X.A (pyIter v) (PIE X pins σ tg R) X.xe s1) X.xe s
theorem go_of {M : Model} {A : Around} {E : Value → Shared → Prop} {s : Shared} {tg : Expr} {it : Addr} {u : Value} {o : Obj} {n : String} {vs : Array Value} {Q : Unit → Shared → Prop} (ho : s.heap.get? it = some o) (hc : o.cls = .type n) (hd : o.data = .fields vs)
    (hn : ["enumerate", "zip", "dict_itemiterator", "dict_reverseitemiterator", "odict_iterator", "itertools.zip_longest", "itertools.pairwise"].contains n = false) (hQ : Q () s) : wpAny M A (letOwnedTupleGo tg (.ref it) u) Q E s := by
  unfold letOwnedTupleGo
  cases tg <;> first
    | exact wpAny_pure hQ
    | (cases u <;> first
        | exact wpAny_pure hQ
        | (refine wpAny_bind (wpAny_load ho ?_)
           rw [hc, hd]
           show wpAny M A (if (["enumerate", "zip", "dict_itemiterator", "dict_reverseitemiterator", "odict_iterator", "itertools.zip_longest", "itertools.pairwise"].contains n && vs[0]? == some (rawInt _)) = true then _ else _) Q E s
           rw [if_neg (by intro h; rw [hn, Bool.false_and] at h; cases h)]
           exact wpAny_pure hQ))
noncomputable def Itl (K : PySem.W.Frag) (a : Addr) : It :=
  ⟨fun i H => ∃ xs x, SqL K H a xs ∧ xs[i]? = some x, fun i H x H' => H' = H ∧ ∀ xs, SqL K H a xs → xs[i]? = some x, fun i H => ∃ xs, SqL K H a xs ∧ xs.length ≤ i⟩
noncomputable def Itt (K : PySem.W.Frag) (a : Addr) : It :=
  ⟨fun i H => ∃ xs x, SqT K H a xs ∧ xs[i]? = some x, fun i H x H' => H' = H ∧ ∀ xs, SqT K H a xs → xs[i]? = some x, fun i H => ∃ xs, SqT K H a xs ∧ xs.length ≤ i⟩
noncomputable def Itr (lo : Int) (n : Nat) : It := ⟨fun i _ => i < n, fun i H x H' => H' = H ∧ x = .int (lo + i), fun i _ => n ≤ i⟩
theorem turn_list {P : Program} {w : World} {K : PySem.W.Frag} {tg : Expr} (a it : Addr) : Turn P w K tg (Itl K a) [it] it (fun i h => h.IsListIter it a i) where
  mem := by simp
  obj := fun i h st b hb => by
    have e : b = it := by simpa using hb
    subst e
    obtain ⟨o, e, c, d⟩ := st
    exact ⟨o, e, fun v z => by rw [d] at z; cases z⟩
  keep := fun i h h' st k => st.at fun o e => k it (by simp) o e
  item := by
    intro X hP hw hK hc i pins s σ H E I hf st hg
    subst hP hw hK
    obtain ⟨xs, x, hq, hx⟩ := hg
    obtain ⟨its, rv, p, hz⟩ := I.list hq
    obtain ⟨u, hu, ru⟩ := rv.get hx
    obtain ⟨f0, f1, f2, f3, f4, f5⟩ := hf it (by simp)
    refine wpAny_pyNext_list_item st p.isList (x := u) (by simpa using hu) fun h' st' sb => ?_
    have I1 : Inv X pins σ H { s with heap := h' } := I.turned (t' := s.toks) (fun b o hb e => (sb.2 b hb).trans e) f0 f1 f3 f4 f5
    obtain ⟨o, e, c, d⟩ := id st'
    exact ⟨u, rfl, go_of (s := { s with heap := h' }) e c d (by decide) ⟨x, H, I1, ru, ⟨rfl, fun ys hy => by rw [I.list_inj hy hq]; exact hx⟩, st', fun b hb => (hf b hb).1⟩⟩
  done := by
    intro X hP hw hK hc i pins s σ H E I hf st hg
    subst hP hw hK
    obtain ⟨xs, hq, hx⟩ := hg
    obtain ⟨its, rv, p, hz⟩ := I.list hq
    obtain ⟨f0, f1, f2, f3, f4, f5⟩ := hf it (by simp)
    have hl := rv.length
    exact wpAny_pyNext_list_end (I.ok.hd hc) st p.isList (by simp; omega) fun h' eb => ⟨rfl, I.turned (t' := s.toks) (fun b o hb e => eb b o hb e) f0 f1 f3 f4 f5⟩
  self := fun _ _ _ _ _ st h => wpAny_pyIter_listiter st h
theorem turn_tuple {P : Program} {w : World} {K : PySem.W.Frag} {tg : Expr} (a it : Addr) : Turn P w K tg (Itt K a) [it] it (fun i h => h.IsTupleIter it a i) where
  mem := by simp
  obj := fun i h st b hb => by
    have e : b = it := by simpa using hb
    subst e
    obtain ⟨o, e, c, d⟩ := st
    exact ⟨o, e, fun v z => by rw [d] at z; cases z⟩
  keep := fun i h h' st k => st.at fun o e => k it (by simp) o e
  item := by
    intro X hP hw hK hc i pins s σ H E I hf st hg
    subst hP hw hK
    obtain ⟨xs, x, hq, hx⟩ := hg
    obtain ⟨its, rv, p, hz⟩ := I.tuple hq
    obtain ⟨u, hu, ru⟩ := rv.get hx
    obtain ⟨f0, f1, f2, f3, f4, f5⟩ := hf it (by simp)
    refine wpAny_pyNext_tuple_item st (show s.heap.IsTuple a its.toArray from p) (x := u) (by simpa using hu) fun h' st' sb => ?_
    have I1 : Inv X pins σ H { s with heap := h' } := I.turned (t' := s.toks) (fun b o hb e => (sb.2 b hb).trans e) f0 f1 f3 f4 f5
    obtain ⟨o, e, c, d⟩ := id st'
    exact ⟨u, rfl, go_of (s := { s with heap := h' }) e c d (by decide) ⟨x, H, I1, ru, ⟨rfl, fun ys hy => by rw [I.tuple_inj hy hq]; exact hx⟩, st', fun b hb => (hf b hb).1⟩⟩
  done := by
    intro X hP hw hK hc i pins s σ H E I hf st hg
    subst hP hw hK
    obtain ⟨xs, hq, hx⟩ := hg
    obtain ⟨its, rv, p, hz⟩ := I.tuple hq
    obtain ⟨f0, f1, f2, f3, f4, f5⟩ := hf it (by simp)
    have hl := rv.length
    exact wpAny_pyNext_tuple_end (I.ok.hd hc) st (show s.heap.IsTuple a its.toArray from p) (by simp; omega) fun h' eb => ⟨rfl, I.turned (t' := s.toks) (fun b o hb e => eb b o hb e) f0 f1 f3 f4 f5⟩
  self := fun _ _ _ _ _ st h => wpAny_pyIter_tupleiter st h
theorem turn_range {P : Program} {w : World} {K : PySem.W.Frag} {tg : Expr} (it : Addr) (lo : Int) (n : Nat) : Turn P w K tg (Itr lo n) [it] it (fun i h => IsRangeIter h it (lo + (i : Nat) * 1) ((n : Int) - (i : Nat)) 1) where
  mem := by simp
  obj := fun i h st b hb => by
    have e : b = it := by simpa using hb
    subst e
    exact ⟨_, st, fun v z => by
      have z' : Data.fields _ = Data.cell v := z
      cases z'⟩
  keep := fun i h h' st k => k it (by simp) _ st
  item := by
    intro X hP hw hK hc i pins s σ H E I hf st hg
    subst hP hw hK
    obtain ⟨f0, f1, f2, f3, f4, f5⟩ := hf it (by simp)
    have W := Walks.range (prog := X.prog) (w := X.w) (I.ok.hd hc) it lo 1 n
    refine W.item i s _ _ hg st fun v h' tk hv st' kk => ?_
    obtain ⟨t, rfl⟩ := hv
    have I1 : Inv X pins σ H { s with heap := h', toks := tk } := I.turned (fun b o hb e => kk b o (by simpa using hb) e) f0 f1 f3 f4 f5
    refine ⟨_, rfl, go_of (s := { s with heap := h', toks := tk }) (n := "range_iterator") st' rfl rfl (by decide) ⟨.int (lo + i), H, I1, ⟨t, ?_⟩, ⟨rfl, rfl⟩, st', fun b hb => (hf b hb).1⟩⟩
    rw [Int.mul_one]
  done := by
    intro X hP hw hK hc i pins s σ H E I hf st hg
    subst hP hw hK
    obtain ⟨f0, f1, f2, f3, f4, f5⟩ := hf it (by simp)
    exact wpAny_pyNext_range_end (I.ok.hd hc) st (by have : n ≤ i := hg; omega) fun h' eb => ⟨rfl, I.turned (t' := s.toks) (fun b o hb e => eb b o hb e) f0 f1 f3 f4 f5⟩
  self := fun _ _ _ _ _ st h => wpAny_pyIter_rangeiter st h
end L2
namespace L2
open PySem PySem.Spec PyProof.Rows
section
variable {X : Cx} {tg : Expr}
noncomputable def iList (K : PySem.W.Frag) (tl : TE) : TI := fun σ H R => tl σ H fun x H1 => ∃ a, x = .ref a ∧ (∃ xs, SqL K H1 a xs) ∧ R (Itl K a) H1
noncomputable def iTup (K : PySem.W.Frag) (tl : TE) : TI := fun σ H R => tl σ H fun x H1 => ∃ a, x = .ref a ∧ (∃ xs, SqT K H1 a xs) ∧ R (Itt K a) H1
theorem pi_list {l : Expr} {tl : TE} (hl : PE X l tl) : PI X tg l (iList X.K tl) := by
  intro pins s σ H R I h
  refine thn (hl pins s σ H _ I h) fun v s1 hpt => ?_
  obtain ⟨x, H1, I1, r1, q1⟩ := hpt
  obtain ⟨a, e, ⟨xs, hq⟩, q⟩ := q1
  subst e
  cases r1
  obtain ⟨its, rv, p, hz⟩ := I1.list hq
  refine wpAny_pyIter_list p.isList ?_
  refine ⟨s1.heap.objs.size, [s1.heap.objs.size], _, _, H1, rfl, I1.kept (t' := s1.toks) fun b o e => Heap.get?_push_of_some _ e, turn_list a _, ⟨_, Heap.get?_push_size _ rfl, rfl, rfl⟩, fun b hb => ?_, q⟩
  have e : b = s1.heap.objs.size := by simpa using hb
  subst e
  exact I1.fpOk (Nat.le_refl _) (I1.hok.fresh (Nat.le_refl _))
theorem pi_tup {l : Expr} {tl : TE} (hl : PE X l tl) : PI X tg l (iTup X.K tl) := by
  intro pins s σ H R I h
  refine thn (hl pins s σ H _ I h) fun v s1 hpt => ?_
  obtain ⟨x, H1, I1, r1, q1⟩ := hpt
  obtain ⟨a, e, ⟨xs, hq⟩, q⟩ := q1
  subst e
  cases r1
  obtain ⟨its, rv, p, hz⟩ := I1.tuple hq
  refine wpAny_pyIter_tuple (show s1.heap.IsTuple a its.toArray from p) ?_
  refine ⟨s1.heap.objs.size, [s1.heap.objs.size], _, _, H1, rfl, I1.kept (t' := s1.toks) fun b o e => Heap.get?_push_of_some _ e, turn_tuple a _, ⟨_, Heap.get?_push_size _ rfl, rfl, rfl⟩, fun b hb => ?_, q⟩
  have e : b = s1.heap.objs.size := by simpa using hb
  subst e
  exact I1.fpOk (Nat.le_refl _) (I1.hok.fresh (Nat.le_refl _))
theorem range_it {pins : List (Addr × Obj)} {σ : St} {H : Hp} {s : Shared} {R : It → Hp → Prop} {E : Value → Shared → Prop} {lo hi : Int} {t u v : Tok} {tk : Nat} (I : Inv X pins σ H s) (h1 : -(2 ^ 62) ≤ lo) (h2 : lo < 2 ^ 62) (h3 : -(2 ^ 62) ≤ hi) (h4 : hi < 2 ^ 62)
    (q : R (Itr lo (hi - lo).toNat) H) : wpAny (model X.prog X.w) X.A (pyIter (.ref s.heap.objs.size)) (PIE X pins σ tg R) E { s with heap := s.heap.push { cls := .type "range", data := .fields #[.int lo t, .int hi u, .int 1 v] }, toks := tk } := by
  refine wpAny_pyIter_range (IsRange.new ..) (small_one h1 h2 h3 h4) ?_
  have I1 : Inv X pins σ H { s with heap := s.heap.push { cls := .type "range", data := .fields #[.int lo t, .int hi u, .int 1 v] }, toks := tk } := I.kept fun b o e => Heap.get?_push_of_some _ e
  refine ⟨(s.heap.push { cls := .type "range", data := .fields #[.int lo t, .int hi u, .int 1 v] }).objs.size, [(s.heap.push { cls := .type "range", data := .fields #[.int lo t, .int hi u, .int 1 v] }).objs.size], _, _, H, rfl,
    I1.kept (t' := tk) fun b o e => Heap.get?_push_of_some _ e, turn_range _ lo (hi - lo).toNat, ?_, fun b hb => ?_, q⟩
  · have e1 : lo + ((0 : Nat) : Int) * 1 = lo := by simp
    have e2 : (((hi - lo).toNat : Nat) : Int) - ((0 : Nat) : Int) = Builtin.Range.rangeSize lo hi 1 := by rw [rangeSize_one]; split <;> omega
    show IsRangeIter _ _ (lo + ((0 : Nat) : Int) * 1) ((((hi - lo).toNat : Nat) : Int) - ((0 : Nat) : Int)) 1
    rw [e1, e2]
    exact Heap.get?_push_size _ rfl
  · have e : b = (s.heap.push { cls := .type "range", data := .fields #[.int lo t, .int hi u, .int 1 v] }).objs.size := by simpa using hb
    subst e
    exact I1.fpOk (Nat.le_refl _) (I1.hok.fresh (Nat.le_refl _))
noncomputable def iRng1 (ta : TA) : TI := fun σ H R => ta σ H fun vs H1 => ∃ j : Int, vs = [.int j] ∧ -(2 ^ 62) ≤ j ∧ j < 2 ^ 62 ∧ R (Itr 0 j.toNat) H1
theorem pi_range1 {a : Expr} {ta : TA} {p pos : Pos} (hg : Gl X "range") (hm : X.mg "range" = none) (ha : PA X [a] ta) (hs : starEach [a] X.env = [(false, eval a X.env)] := by rfl) : PI X tg (.Call (.Name "range" p) [a] [] pos) (iRng1 ta) := by
  intro pins s σ H R I h
  refine Call_ (ld_blt I hg hm boot_range (PyProof.Rows.callWith_type1 (thn (ha pos pins s σ H _ I h) fun us s1 ⟨vs, H1, I1, r1, q1⟩ => ?_) hs rfl))
  obtain ⟨j, e, q1, q2, q⟩ := q1
  subst e
  cases r1 with
  | cons r rr =>
    cases rr
    obtain ⟨t, rfl⟩ := r
    exact call_range_1 (range_it I1 (by omega) (by omega) q1 q2 (by simpa using q))
noncomputable def tFor (wi : TI) (g : TG) (tb : TS) : TS := fun D σ H => wi σ H fun J H1 => ∃ W : Nat → Nat → St → Hp → Prop, (∃ m, W 0 m σ H1) ∧ ∀ i m σ H, W i m σ H →
  (J.stop i H ∧ D.nx σ H) ∨ (J.go i H ∧ ∃ N : St → Hp → Prop, (∀ σ' H', N σ' H' → ∃ m', m' < m ∧ W (i + 1) m' σ' H') ∧ ∀ x H', J.yld i H x H' → g x σ H' fun σ2 H2 => tb { D with nx := N, ct := N, bk := D.nx } σ2 H2)
noncomputable def pinsAt (fp : List Addr) (h : Heap) : List (Addr × Obj) := fp.filterMap fun b => (h.get? b).map fun o => (b, o)
theorem mem_pinsAt {fp : List Addr} {h : Heap} {b : Addr} {o : Obj} (hb : b ∈ fp) (e : h.get? b = some o) : (b, o) ∈ pinsAt fp h := List.mem_filterMap.mpr ⟨b, hb, by rw [e]; rfl⟩
theorem of_pinsAt {fp : List Addr} {h : Heap} {p : Addr × Obj} (hp : p ∈ pinsAt fp h) : p.1 ∈ fp ∧ h.get? p.1 = some p.2 := by
  obtain ⟨b, hb, e⟩ := List.mem_filterMap.mp hp
  cases q : h.get? b with
  | none => rw [q] at e; cases e
  | some o =>
    rw [q] at e
    have e' : (b, o) = p := Option.some.inj e
    subst e'
    exact ⟨hb, q⟩
theorem Inv.pinned {pins : List (Addr × Obj)} {σ : St} {H : Hp} {s : Shared} {fp : List Addr} (I : Inv X pins σ H s) (hf : ∀ b ∈ fp, FpOk X pins H b) (ho : ∀ b ∈ fp, ∃ o, s.heap.get? b = some o ∧ ∀ v, o.data ≠ .cell v) : Inv X (pins ++ pinsAt fp s.heap) σ H s :=
  I.pins_of fun p hp => (List.mem_append.mp hp).elim (fun z => I.pin p (List.mem_append_right _ z)) fun z => by
    obtain ⟨hb, e⟩ := of_pinsAt z
    obtain ⟨f0, f1, f2, _⟩ := hf p.1 hb
    obtain ⟨o, e', d⟩ := ho p.1 hb
    rw [e] at e'; cases e'
    exact ⟨e, f0, f1, f2, d⟩
theorem Inv.unpinned {pins pl : List (Addr × Obj)} {σ : St} {H : Hp} {s : Shared} (I : Inv X (pins ++ pl) σ H s) : Inv X pins σ H s := I.pins_of fun p hp => I.pin p (List.mem_append_right _ (List.mem_append_left _ hp))
theorem ps_for {iter : Expr} {body : List Stmt} {wi : TI} {g : TG} {tb : TS} {pos : Pos} (hp : PassesOwn (model X.prog X.w) X.A X.env X.xe) (hc : X.calm = true) (hi : PI X tg iter wi) (hg : PG X tg g) (hb : PSs X body tb)
    (hs : ∀ x, foldedSetIterable iter X.env x = pure x := by intro _; rfl) : PS X (.For tg iter body [] pos) (tFor wi g tb) := by
  intro pins s σ H D I h
  refine wpAny_For (thn (hi pins s σ H _ I h) fun v s1 h1 => thn h1 fun itv s2 h2 => ?_) hs
  obtain ⟨it, fp, tn, J, H2, e, I2, T, st2, f2, W, ⟨m0, w0⟩, turn⟩ := h2
  subst e
  have stat : ∀ {H' : Hp}, (∀ b ∈ fp, H' b = none) → ∀ b ∈ fp, FpOk X pins H' b := fun hn b hb => ⟨hn b hb, (f2 b hb).2⟩
  refine codeAny_forLoop_any (fun n s' => ∃ i σ' H', Inv X pins σ' H' s' ∧ tn i s'.heap ∧ (∀ b ∈ fp, H' b = none) ∧ W i n σ' H') ?_ m0 ⟨0, σ, H2, I2, st2, fun b hb => (f2 b hb).1, w0⟩
  rintro n s3 ⟨i, σ3, H3, I3, st3, fr3, w3⟩
  rcases turn i n σ3 H3 w3 with ⟨stop, qn⟩ | ⟨go, N, hN, step⟩
  · refine wpAny_passesOwn hp (thn (T.done X rfl rfl rfl hc i pins s3 σ3 H3 X.xe I3 (stat fr3) st3 stop) fun r s4 hpt => ?_)
    obtain ⟨hr, I4⟩ := hpt
    subst hr
    exact wpAny_execs_nil ⟨σ3, H3, I4, qn⟩
  · refine wpAny_passesOwn hp (thn (T.item X rfl rfl rfl hc i pins s3 σ3 H3 X.xe I3 (stat fr3) st3 go) fun r s4 hpt => ?_)
    obtain ⟨u, hr, h4⟩ := hpt
    subst hr
    refine wpAny_passesOwn hp (thn h4 fun _ s5 hpt => ?_)
    obtain ⟨x, H5, I5, r5, y5, st5, fr5⟩ := hpt
    have I5' := I5.pinned (stat fr5) (T.obj _ _ st5)
    refine wpAny_passesOwn hp (thn (hg _ s5 σ3 H5 x u _ I5' r5 (step x H5 y5)) fun _ s6 hpt => ?_)
    obtain ⟨σ6, H6, I6, q6⟩ := hpt
    refine wpAny_passesOwn hp (thn (hb _ s6 σ6 H6 _ I6 q6) fun f s7 q7 => ?_)
    have again : ∀ {σ7 : St} {H7 : Hp}, Inv X (pins ++ pinsAt fp s5.heap) σ7 H7 s7 → N σ7 H7 → ∃ m, m < n ∧ ∃ i σ' H', Inv X pins σ' H' s7 ∧ tn i s7.heap ∧ (∀ b ∈ fp, H' b = none) ∧ W i m σ' H' := fun {σ7 H7} I7 n7 => by
      obtain ⟨m', hm, w7⟩ := hN σ7 H7 n7
      refine ⟨m', hm, i + 1, σ7, H7, I7.unpinned, T.keep _ _ _ st5 fun b hb o e => (I7.pin (b, o) (List.mem_append_right _ (List.mem_append_right _ (mem_pinsAt hb e)))).1, fun b hb => ?_, w7⟩
      obtain ⟨o, e, d⟩ := T.obj _ _ st5 b hb
      exact (I7.pin (b, o) (List.mem_append_right _ (List.mem_append_right _ (mem_pinsAt hb e)))).2.1
    cases f with
    | next => obtain ⟨σ7, H7, I7, n7⟩ := q7; exact again I7 n7
    | cont => obtain ⟨σ7, H7, I7, n7⟩ := q7; exact again I7 n7
    | brk => obtain ⟨σ7, H7, I7, q7⟩ := q7; exact ⟨σ7, H7, I7.unpinned, q7⟩
    | ret v => obtain ⟨x7, σ7, H7, I7, r7, q7⟩ := q7; exact ⟨x7, σ7, H7, I7.unpinned, r7, q7⟩
end
theorem for_list {K : PySem.W.Frag} {a : Addr} {xs : List V} {g : TG} {tb : TS} {D : Ends} {σ : St} {H : Hp} (Pv : Nat → St → Hp → Prop) (h0 : Pv 0 σ H) (hl : ∀ i σ H, i ≤ xs.length → Pv i σ H → SqL K H a xs)
    (hs : ∀ i x σ H, xs[i]? = some x → Pv i σ H → g x σ H fun σ2 H2 => tb { D with nx := Pv (i + 1), ct := Pv (i + 1), bk := D.nx } σ2 H2) (hd : ∀ σ H, Pv xs.length σ H → D.nx σ H) :
    ∃ W : Nat → Nat → St → Hp → Prop, (∃ m, W 0 m σ H) ∧ ∀ i m σ H, W i m σ H →
      ((Itl K a).stop i H ∧ D.nx σ H) ∨ ((Itl K a).go i H ∧ ∃ N : St → Hp → Prop, (∀ σ' H', N σ' H' → ∃ m', m' < m ∧ W (i + 1) m' σ' H') ∧ ∀ x H', (Itl K a).yld i H x H' → g x σ H' fun σ2 H2 => tb { D with nx := N, ct := N, bk := D.nx } σ2 H2) := by
  refine ⟨fun i m σ H => m = xs.length - i ∧ i ≤ xs.length ∧ Pv i σ H, ⟨xs.length, by simp, Nat.zero_le _, h0⟩, ?_⟩
  rintro i m σ H ⟨rfl, hi, p⟩
  have q := hl i σ H hi p
  by_cases hlt : i < xs.length
  · refine .inr ⟨⟨xs, xs[i], q, by simp [hlt]⟩, Pv (i + 1), fun σ' H' p' => ⟨xs.length - (i + 1), by omega, rfl, hlt, p'⟩, fun x H' y => ?_⟩
    obtain ⟨e, y⟩ := y
    subst e
    exact hs i x σ _ (y xs q) p
  · have e : i = xs.length := by omega
    subst e
    exact .inl ⟨⟨xs, q, Nat.le_refl _⟩, hd σ H p⟩
theorem for_tup {K : PySem.W.Frag} {a : Addr} {xs : List V} {g : TG} {tb : TS} {D : Ends} {σ : St} {H : Hp} (Pv : Nat → St → Hp → Prop) (h0 : Pv 0 σ H) (hl : ∀ i σ H, i ≤ xs.length → Pv i σ H → SqT K H a xs)
    (hs : ∀ i x σ H, xs[i]? = some x → Pv i σ H → g x σ H fun σ2 H2 => tb { D with nx := Pv (i + 1), ct := Pv (i + 1), bk := D.nx } σ2 H2) (hd : ∀ σ H, Pv xs.length σ H → D.nx σ H) :
    ∃ W : Nat → Nat → St → Hp → Prop, (∃ m, W 0 m σ H) ∧ ∀ i m σ H, W i m σ H →
      ((Itt K a).stop i H ∧ D.nx σ H) ∨ ((Itt K a).go i H ∧ ∃ N : St → Hp → Prop, (∀ σ' H', N σ' H' → ∃ m', m' < m ∧ W (i + 1) m' σ' H') ∧ ∀ x H', (Itt K a).yld i H x H' → g x σ H' fun σ2 H2 => tb { D with nx := N, ct := N, bk := D.nx } σ2 H2) := by
  refine ⟨fun i m σ H => m = xs.length - i ∧ i ≤ xs.length ∧ Pv i σ H, ⟨xs.length, by simp, Nat.zero_le _, h0⟩, ?_⟩
  rintro i m σ H ⟨rfl, hi, p⟩
  have q := hl i σ H hi p
  by_cases hlt : i < xs.length
  · refine .inr ⟨⟨xs, xs[i], q, by simp [hlt]⟩, Pv (i + 1), fun σ' H' p' => ⟨xs.length - (i + 1), by omega, rfl, hlt, p'⟩, fun x H' y => ?_⟩
    obtain ⟨e, y⟩ := y
    subst e
    exact hs i x σ _ (y xs q) p
  · have e : i = xs.length := by omega
    subst e
    exact .inl ⟨⟨xs, q, Nat.le_refl _⟩, hd σ H p⟩
theorem for_range {lo : Int} {n : Nat} {g : TG} {tb : TS} {D : Ends} {σ : St} {H : Hp} (Pv : Nat → St → Hp → Prop) (h0 : Pv 0 σ H)
    (hs : ∀ i σ H, i < n → Pv i σ H → g (.int (lo + i)) σ H fun σ2 H2 => tb { D with nx := Pv (i + 1), ct := Pv (i + 1), bk := D.nx } σ2 H2) (hd : ∀ σ H, Pv n σ H → D.nx σ H) :
    ∃ W : Nat → Nat → St → Hp → Prop, (∃ m, W 0 m σ H) ∧ ∀ i m σ H, W i m σ H →
      ((Itr lo n).stop i H ∧ D.nx σ H) ∨ ((Itr lo n).go i H ∧ ∃ N : St → Hp → Prop, (∀ σ' H', N σ' H' → ∃ m', m' < m ∧ W (i + 1) m' σ' H') ∧ ∀ x H', (Itr lo n).yld i H x H' → g x σ H' fun σ2 H2 => tb { D with nx := N, ct := N, bk := D.nx } σ2 H2) := by
  refine ⟨fun i m σ H => m = n - i ∧ i ≤ n ∧ Pv i σ H, ⟨n, by simp, Nat.zero_le _, h0⟩, ?_⟩
  rintro i m σ H ⟨rfl, hi, p⟩
  by_cases hlt : i < n
  · refine .inr ⟨hlt, Pv (i + 1), fun σ' H' p' => ⟨n - (i + 1), by omega, rfl, hlt, p'⟩, fun x H' y => ?_⟩
    obtain ⟨e, y⟩ := y
    subst e y
    exact hs i σ _ hlt p
  · have e : i = n := by omega
    subst e
    exact .inl ⟨Nat.le_refl _, hd σ H p⟩
theorem while_by {c : TT} {tb : TS} {D : Ends} {σ : St} {H : Hp} (Pv : St → Hp → Prop) (μ : St → Hp → Nat) (h0 : Pv σ H)
    (hs : ∀ σ H, Pv σ H → c σ H fun b H1 => if b = true then tb { D with nx := fun σ' H' => Pv σ' H' ∧ μ σ' H' < μ σ H, ct := fun σ' H' => Pv σ' H' ∧ μ σ' H' < μ σ H, bk := D.nx } σ H1 else D.nx σ H1)
    (mono : ∀ σ H Q Q', (∀ b H1, Q b H1 → Q' b H1) → c σ H Q → c σ H Q') : tWhile c tb D σ H := by
  refine ⟨fun m σ H => m = μ σ H ∧ Pv σ H, ⟨_, rfl, h0⟩, ?_⟩
  rintro m σ H ⟨rfl, p⟩
  refine mono σ H _ _ (fun b H1 q => ?_) (hs σ H p)
  cases b with
  | true => exact ⟨_, fun σ' H' ⟨p', l⟩ => ⟨_, l, rfl, p'⟩, q⟩
  | false => exact q
end L2
namespace L2
open PySem PySem.Spec PyProof.Rows
noncomputable abbrev R2 := V → V → Hp → VK → Prop
noncomputable def OpR (X : Cx) (f : Value → Value → Sem Value) (r : R2) : Prop :=
  ∀ (pins : List (Addr × Obj)) (s : Shared) (σ : St) (H : Hp) (x y : V) (v u : Value) (Q : VK), Inv X pins σ H s → RelV x v → RelV y u → r x y H Q →
    wpAny (model X.prog X.w) X.A (f v u) (EP X pins σ Q) X.xe s
noncomputable def CallR (X : Cx) (f : Value) (r : List V → Hp → VK → Prop) : Prop :=
  ∀ (pins : List (Addr × Obj)) (s : Shared) (σ : St) (H : Hp) (xs : List V) (us : List Value) (Q : VK), Inv X pins σ H s → Vals xs us → r xs H Q →
    wpAny (model X.prog X.w) X.A (call f us) (EP X pins σ Q) X.xe s
noncomputable def tOp (r : R2) (ta tb : TE) : TE := fun σ H Q => ta σ H fun x H1 => tb σ H1 fun y H2 => r x y H2 Q
noncomputable def rI (C : Int → Int → Prop) (g : Int → Int → V) : R2 := fun x y H Q => ∃ i j, x = .int i ∧ y = .int j ∧ C i j ∧ Q (g i j) H
noncomputable def rI0 (g : Int → Int → V) : R2 := fun x y H Q => ∃ i j, x = .int i ∧ y = .int j ∧ Q (g i j) H
section
variable {X : Cx} {a b c : Expr} {ta tb tc : TE} {pos : Pos}
theorem binT (ha : PE X a ta) (hb : PE X b tb) {pins : List (Addr × Obj)} {s : Shared} {σ : St} {H : Hp} {R : V → V → Hp → Prop} (I : Inv X pins σ H s)
    (h : ta σ H fun x H1 => tb σ H1 fun y H2 => R x y H2) {Q : Value → Shared → Prop} {f : Value → Value → Sem Value}
    (hf : ∀ v u s2 x y H2, Inv X pins σ H2 s2 → RelV x v → RelV y u → R x y H2 → wpAny (model X.prog X.w) X.A (f v u) Q X.xe s2) :
    wpAny (model X.prog X.w) X.A (eval a X.env) (fun v s₁ => wpAny (model X.prog X.w) X.A (eval b X.env) (fun u s₂ => wpAny (model X.prog X.w) X.A (f v u) Q X.xe s₂) X.xe s₁) X.xe s := by
  refine thn (ha pins s σ H _ I h) fun v s1 hpt => ?_
  obtain ⟨x, H1, I1, r1, q1⟩ := hpt
  refine thn (hb pins s1 σ H1 _ I1 q1) fun u s2 hpt => ?_
  obtain ⟨y, H2, I2, r2, q2⟩ := hpt
  exact hf v u s2 x y H2 I2 r1 r2 q2
theorem pe_op {op : Operator} {r : R2} (ho : OpR X (binaryOp op) r) (ha : PE X a ta) (hb : PE X b tb) : PE X (.BinOp a op b pos) (tOp r ta tb) := by
  intro pins s σ H Q I h
  exact wpAny_BinOp (binT ha hb I h fun v u s2 x y H2 I2 rx ry q => ho pins s2 σ H2 x y v u Q I2 rx ry q)
theorem opI {f : Value → Value → Sem Value} {C : Int → Int → Prop} {g : Int → Int → Int}
    (rule : ∀ (i j : Int) (t u : Tok) (s : Shared) (Q : Value → Shared → Prop) (E : Value → Shared → Prop), C i j → Q (.int (g i j) s.toks) { s with toks := s.toks + 1 } → wpAny (model X.prog X.w) X.A (f (.int i t) (.int j u)) Q E s) :
    OpR X f (rI C fun i j => .int (g i j)) := by
  intro pins s σ H x y v u Q I rx ry h
  obtain ⟨i, j, rfl, rfl, hc, q⟩ := h
  obtain ⟨t, rfl⟩ := rx
  obtain ⟨t', rfl⟩ := ry
  exact rule i j t t' s _ _ hc ⟨.int (g i j), H, I.tok _, ⟨_, rfl⟩, q⟩
theorem opI0 {f : Value → Value → Sem Value} {g : Int → Int → Int}
    (rule : ∀ (i j : Int) (t u : Tok) (s : Shared) (Q : Value → Shared → Prop) (E : Value → Shared → Prop), Q (.int (g i j) s.toks) { s with toks := s.toks + 1 } → wpAny (model X.prog X.w) X.A (f (.int i t) (.int j u)) Q E s) :
    OpR X f (rI0 fun i j => .int (g i j)) := by
  intro pins s σ H x y v u Q I rx ry h
  obtain ⟨i, j, rfl, rfl, q⟩ := h
  obtain ⟨t, rfl⟩ := rx
  obtain ⟨t', rfl⟩ := ry
  exact rule i j t t' s _ _ ⟨.int (g i j), H, I.tok _, ⟨_, rfl⟩, q⟩
theorem opB0 {f : Value → Value → Sem Value} {g : Int → Int → Bool}
    (rule : ∀ (i j : Int) (t u : Tok) (s : Shared) (Q : Value → Shared → Prop) (E : Value → Shared → Prop), Q (.bool (g i j)) s → wpAny (model X.prog X.w) X.A (f (.int i t) (.int j u)) Q E s) :
    OpR X f (rI0 fun i j => .bl (g i j)) := by
  intro pins s σ H x y v u Q I rx ry h
  obtain ⟨i, j, rfl, rfl, q⟩ := h
  obtain ⟨t, rfl⟩ := rx
  obtain ⟨t', rfl⟩ := ry
  exact rule i j t t' s _ _ ⟨.bl (g i j), H, I, rfl, q⟩
noncomputable def CDiv (i j : Int) : Prop := 0 < j ∧ j < 1073741824
noncomputable def CMul (i j : Int) : Prop := (-(2 ^ 64) < i ∧ i < 2 ^ 64) ∨ (-(2 ^ 64) < j ∧ j < 2 ^ 64)
theorem CMul.ok {i j : Int} (h : CMul i j) : IntMulOk i j := by
  rcases h with ⟨h1, h2⟩ | ⟨h1, h2⟩
  · exact .of_left (intBits_le_64 h1 h2)
  · exact .of_right (intBits_le_64 h1 h2)
theorem op_add : OpR X (binaryOp .Add) (rI0 fun i j => .int (i + j)) := opI0 fun _ _ _ _ _ _ _ q => add_int q
theorem op_mul : OpR X (binaryOp .Mult) (rI CMul fun i j => .int (i * j)) := opI fun _ _ _ _ _ _ _ hc q => mul_int q hc.ok
theorem op_fdiv : OpR X (binaryOp .FloorDiv) (rI CDiv fun i j => .int (i / j)) := opI fun i j _ _ _ _ _ hc q => by
  have h1 : (0 : Int) < j := hc.1
  have h2 : j < 1073741824 := hc.2
  exact floordiv_int (by omega) (by rw [Int.fdiv_eq_ediv_of_nonneg i (by omega)]; exact q) (.inl (PyProof.noPylong_small (by omega)))
theorem op_mod : OpR X (binaryOp .Mod) (rI (fun _ j => 0 < j) fun i j => .int (i % j)) := opI fun i j _ _ _ _ _ hc q => by
  have h1 : (0 : Int) < j := hc
  exact mod_int' (by omega) (by rw [Int.fmod_eq_emod_of_nonneg i (by omega)]; exact q)
end
noncomputable def scal : V → V → Bool
  | .non, .non => true | .non, .int _ => true | .int _, .non => true | .non, .bl _ => true | .bl _, .non => true | .non, .str _ => true | .str _, .non => true
  | .int _, .int _ => true | .bl _, .bl _ => true | .str _, .str _ => true | .byt _, .byt _ => true
  | .int _, .str _ => true | .str _, .int _ => true | .bl _, .str _ => true | .str _, .bl _ => true
  | _, _ => false
noncomputable def rEq : R2 := fun x y H Q => scal x y = true ∧ Q (.bl (decide (x = y))) H
noncomputable def rNe : R2 := fun x y H Q => scal x y = true ∧ Q (.bl (!decide (x = y))) H
theorem dec_int {i j : Int} : decide (V.int i = V.int j) = (i == j) := by
  rw [Bool.eq_iff_iff]
  simp
theorem dec_bl {i j : Bool} : decide (V.bl i = V.bl j) = (i == j) := by
  rw [Bool.eq_iff_iff]
  simp
theorem dec_str {i j : Str} : decide (V.str i = V.str j) = (i == j) := by
  rw [Bool.eq_iff_iff]
  simp
theorem dec_byt {i j : Array UInt8} : decide (V.byt i = V.byt j) = (i.toList == j.toList) := by
  rw [Bool.eq_iff_iff]
  cases i
  cases j
  simp
section
variable {X : Cx} {a b c : Expr} {ta tb tc : TE} {pos : Pos}
theorem fin_bl {pins : List (Addr × Obj)} {σ : St} {H : Hp} {s : Shared} {Q : VK} {k k' : Bool} (I : Inv X pins σ H s) (q : Q (.bl k) H) (e : k = k') : EP X pins σ Q (.bool k') s := by
  subst e
  exact ⟨.bl k, H, I, rfl, q⟩
theorem op_eq : OpR X (compareOp .Eq) rEq := by
  intro pins s σ H x y v u Q I rx ry h
  obtain ⟨hs, q⟩ := h
  cases x with
  | non =>
    cases rx
    cases y with
    | non => cases ry; exact PySem.EqNone.eq_none_none (fin_bl I q (by simp))
    | bl j => cases ry; exact PySem.EqNone.eq_none_bool (fin_bl I q (by simp))
    | int j => obtain ⟨t', rfl⟩ := ry; exact PySem.EqNone.eq_none_int (fin_bl I q (by simp))
    | str j => obtain ⟨t', rfl⟩ := ry; exact PySem.EqNone.eq_none_str (fin_bl I q (by simp))
    | _ => exact absurd (show false = true from hs) Bool.false_ne_true
  | bl i =>
    cases rx
    cases y with
    | non => cases ry; exact PySem.EqNone.eq_bool_none (fin_bl I q (by simp))
    | bl j => cases ry; exact eq_bool (fin_bl I q dec_bl)
    | str j => obtain ⟨t', rfl⟩ := ry; exact PySem.EqMixed.eq_bool_str (fin_bl I q (by simp))
    | _ => exact absurd (show false = true from hs) Bool.false_ne_true
  | int i =>
    obtain ⟨t, rfl⟩ := rx
    cases y with
    | non => cases ry; exact PySem.EqNone.eq_int_none (fin_bl I q (by simp))
    | int j => obtain ⟨t', rfl⟩ := ry; exact eq_int (fin_bl I q dec_int)
    | str j => obtain ⟨t', rfl⟩ := ry; exact PySem.EqMixed.eq_int_str (fin_bl I q (by simp))
    | _ => exact absurd (show false = true from hs) Bool.false_ne_true
  | str i =>
    obtain ⟨t, rfl⟩ := rx
    cases y with
    | non => cases ry; exact PySem.EqNone.eq_str_none (fin_bl I q (by simp))
    | bl j => cases ry; exact PySem.EqMixed.eq_str_bool (fin_bl I q (by simp))
    | int j => obtain ⟨t', rfl⟩ := ry; exact PySem.EqMixed.eq_str_int (fin_bl I q (by simp))
    | str j => obtain ⟨t', rfl⟩ := ry; exact eq_str (fin_bl I q dec_str)
    | _ => exact absurd (show false = true from hs) Bool.false_ne_true
  | byt i =>
    obtain ⟨t, rfl⟩ := rx
    cases y with
    | byt j => obtain ⟨t', rfl⟩ := ry; exact PySem.W.eq_bytes (fin_bl I q dec_byt)
    | _ => exact absurd (show false = true from hs) Bool.false_ne_true
  | _ => cases y <;> exact absurd (show false = true from hs) Bool.false_ne_true
theorem op_ne : OpR X (compareOp .NotEq) rNe := by
  intro pins s σ H x y v u Q I rx ry h
  obtain ⟨hs, q⟩ := h
  cases x with
  | non =>
    cases rx
    cases y with
    | non => cases ry; exact PySem.EqNone.ne_none_none (fin_bl I q (by simp))
    | bl j => cases ry; exact PySem.EqNone.ne_none_bool (fin_bl I q (by simp))
    | int j => obtain ⟨t', rfl⟩ := ry; exact PySem.EqNone.ne_none_int (fin_bl I q (by simp))
    | str j => obtain ⟨t', rfl⟩ := ry; exact PySem.EqNone.ne_none_str (fin_bl I q (by simp))
    | _ => exact absurd (show false = true from hs) Bool.false_ne_true
  | bl i =>
    cases rx
    cases y with
    | non => cases ry; exact PySem.EqNone.ne_bool_none (fin_bl I q (by simp))
    | bl j => cases ry; exact ne_bool (fin_bl I q (congrArg not dec_bl))
    | str j => obtain ⟨t', rfl⟩ := ry; exact PySem.EqMixed.ne_bool_str (fin_bl I q (by simp))
    | _ => exact absurd (show false = true from hs) Bool.false_ne_true
  | int i =>
    obtain ⟨t, rfl⟩ := rx
    cases y with
    | non => cases ry; exact PySem.EqNone.ne_int_none (fin_bl I q (by simp))
    | int j => obtain ⟨t', rfl⟩ := ry; exact ne_int (fin_bl I q (congrArg not dec_int))
    | str j => obtain ⟨t', rfl⟩ := ry; exact PySem.EqMixed.ne_int_str (fin_bl I q (by simp))
    | _ => exact absurd (show false = true from hs) Bool.false_ne_true
  | str i =>
    obtain ⟨t, rfl⟩ := rx
    cases y with
    | non => cases ry; exact PySem.EqNone.ne_str_none (fin_bl I q (by simp))
    | bl j => cases ry; exact PySem.EqMixed.ne_str_bool (fin_bl I q (by simp))
    | int j => obtain ⟨t', rfl⟩ := ry; exact PySem.EqMixed.ne_str_int (fin_bl I q (by simp))
    | str j => obtain ⟨t', rfl⟩ := ry; exact ne_str (fin_bl I q (congrArg not dec_str))
    | _ => exact absurd (show false = true from hs) Bool.false_ne_true
  | byt i =>
    obtain ⟨t, rfl⟩ := rx
    cases y with
    | byt j => obtain ⟨t', rfl⟩ := ry; exact PySem.W.ne_bytes (fin_bl I q (congrArg not dec_byt))
    | _ => exact absurd (show false = true from hs) Bool.false_ne_true
  | _ => cases y <;> exact absurd (show false = true from hs) Bool.false_ne_true
theorem op_lt : OpR X (compareOp .Lt) (rI0 fun i j => .bl (decide (i < j))) := opB0 fun _ _ _ _ _ _ _ q => lt_int q
theorem op_gt : OpR X (compareOp .Gt) (rI0 fun i j => .bl (decide (j < i))) := opB0 fun _ _ _ _ _ _ _ q => gt_int q
theorem op_isN : OpR X (compareOp .Is) (fun x y H Q => y = .non ∧ Q (.bl (decide (x = .non))) H) := by
  intro pins s σ H x y v u Q I rx ry h
  obtain ⟨rfl, q⟩ := h
  cases ry
  refine is_none_gen (fin_bl I q ?_)
  cases x <;> first
    | (cases rx; rfl)
    | (obtain ⟨t, rfl⟩ := rx; rfl)
theorem op_notN : OpR X (compareOp .IsNot) (fun x y H Q => y = .non ∧ Q (.bl (!decide (x = .non))) H) := by
  intro pins s σ H x y v u Q I rx ry h
  obtain ⟨rfl, q⟩ := h
  cases ry
  refine isnot_none_gen (fin_bl I q ?_)
  cases x <;> first
    | (cases rx; rfl)
    | (obtain ⟨t, rfl⟩ := rx; rfl)
theorem nomark (b : Expr) {op : CmpOp} (h : op ≠ .In := by decide) (h2 : op ≠ .NotIn := by decide) : behindInMarks op b = false := by
  have e1 : (op == CmpOp.In) = false := by cases op <;> first | rfl | exact absurd rfl h
  have e2 : (op == CmpOp.NotIn) = false := by cases op <;> first | rfl | exact absurd rfl h2
  cases b <;> simp [behindInMarks, e1, e2]
theorem pe_cmpR {op : CmpOp} {r : R2} (ho : OpR X (compareOp op) r) (ha : PE X a ta) (hb : PE X b tb) (hm : behindInMarks op b = false) : PE X (.Compare a [op] [b] pos) (tOp r ta tb) := by
  intro pins s σ H Q I h
  exact wpAny_Compare1 (binT ha hb I h fun v u s2 x y H2 I2 rx ry q => ho pins s2 σ H2 x y v u Q I2 rx ry q) hm
noncomputable def tTest (t : TE) : TT := fun σ H Q => t σ H fun x H' => ∃ k, x = .bl k ∧ Q k H'
theorem pt_cmpR {op : CmpOp} {r : R2} (ho : OpR X (compareOp op) r) (ha : PE X a ta) (hb : PE X b tb) (hm : behindInMarks op b = false) : PT X (.Compare a [op] [b] pos) (tTest (tOp r ta tb)) := by
  intro pins s σ H Q I h
  refine wpAny_isTrue_Compare1 (thn (ha pins s σ H _ I h) fun v s1 ⟨x, H1, I1, r1, q1⟩ => thn (hb pins s1 σ H1 _ I1 q1) fun u s2 ⟨y, H2, I2, r2, q2⟩ =>
    thn (ho pins s2 σ H2 x y v u _ I2 r1 r2 q2) fun c s3 ⟨z, H3, I3, r3, k, e, q3⟩ => ?_) hm
  subst e
  cases r3
  exact wpAny_truthy_bool ⟨H3, I3, q3⟩
theorem line63 : (sizeLine : Nat) < 2 ^ 63 := by rw [sizeLine_eq]; decide
theorem vals1 {x : V} {us : List Value} (r : Vals [x] us) : ∃ u, us = [u] ∧ RelV x u := by
  cases r with
  | cons r1 r2 => cases r2; exact ⟨_, rfl, r1⟩
theorem vals2 {x y : V} {us : List Value} (r : Vals [x, y] us) : ∃ u w', us = [u, w'] ∧ RelV x u ∧ RelV y w' := by
  cases r with
  | cons r1 r2 =>
    cases r2 with
    | cons r3 r4 => cases r4; exact ⟨_, _, rfl, r1, r3⟩
end
end L2
namespace L2
open PySem PySem.Spec PyProof.Rows
structure ObjM (h : Heap) (x dx C : Addr) (mA : Str → Option Value) : Prop where
  obj : h.get? x = some (PySem.W.instObj C dx)
  ns : h.Ns1 dx mA
  ne : dx ≠ x
theorem lookIn_ns {h : Heap} {dx : Addr} {mA : Str → Option Value} (n : h.Ns1 dx mA) : ∃ od, h.get? dx = some od ∧ ∀ name, PySem.W.lookIn name od = some (mA name) := by
  obtain ⟨o, es, ep, ho, hd, hk, _, hm⟩ := n
  refine ⟨o, ho, fun name => ?_⟩
  have e := hm name
  unfold nsFind findBy at e
  rw [← Array.find?_toList] at e
  unfold PySem.W.lookIn
  rw [hd]
  dsimp only
  split
  · rename_i y q
    rw [q] at e
    exact congrArg some e
  · rename_i q
    rw [q] at e
    have a : es.toList.any (·.refKey) = false := by
      rw [List.any_eq_false]
      intro y hy
      obtain ⟨z, t, hkey⟩ := hk y (Array.mem_toList_iff.mp hy)
      simp [DictEntry.refKey, hkey]
    have a' : ¬ es.toList.any (·.refKey) = true := by rw [a]; exact Bool.false_ne_true
    rw [if_neg a']
    exact congrArg some e
theorem ObjM.look {h : Heap} {x dx C : Addr} {mA : Str → Option Value} (I : ObjM h x dx C mA) : ∃ od, PySem.W.InstAt h x (PySem.W.instObj C dx) C (some od) ∧ ∀ name, PySem.W.lookIn name od = some (mA name) :=
  let ⟨od, ho, hl⟩ := lookIn_ns I.ns
  ⟨od, ⟨I.obj, rfl, rfl, ho⟩, hl⟩
section
variable {prog : Program} {w : World} {A : Around} {E : Value → Shared → Prop} {s : Shared} {K : PySem.W.Frag} {x dx C f : Addr} {mA : Str → Option Value} {name : Str} {v : Value}
end
theorem RelO.some_of {v : V} {o : Option Value} (r : RelO (some v) o) : ∃ u, o = some u ∧ RelV v u := by
  cases o with
  | none => exact (show False from r).elim
  | some u => exact ⟨u, rfl, r⟩
section
variable {P : Program} {w : World} {H H' : Hp} {h h' : Heap} {a C dx : Addr} {fs fs' : List (Str × V)}
theorem ins_get (hok : HOk P w H h) (e : H a = some (.ins C dx fs)) : ∃ mA, ObjM h a dx C mA ∧ (∀ f, RelO (fs.lookup f) (mA f)) ∧ PySem.Within mA (fs.map (·.1)) ∧ fs.length ≤ 1000 ∧ H dx = some (.own a) := by
  obtain ⟨d, z, ne, ob, mA, n, r, q⟩ := (show ObjOk P w H h a (.ins C dx fs) from hok a _ e)
  exact ⟨mA, ⟨ob, n, ne⟩, r, q, z, d⟩
end
structure Cls (K : PySem.W.Frag) (C : Addr) : Prop where
  pg : PySem.W.plainGet K C Str.empty = true
  hd : PySem.W.hasDictIn K C = true
  po : PySem.W.plainOver K C = true
  sa : PySem.W.findIn K (.ref C) "__setattr__" = some (some (.builtin "object.__setattr__"))
theorem Cls.get {K : PySem.W.Frag} {C : Addr} (c : Cls K C) (f : Str) : PySem.W.plainGet K C f = true := c.pg
section
variable {X : Cx} {pins : List (Addr × Obj)} {σ : St} {H : Hp} {s : Shared} {a C dx : Addr} {fs : List (Str × V)} {f : Str} {v : V} {A : Around} {E : Value → Shared → Prop}
end
section
variable {X : Cx} {o e value : Expr} {f : Str} {pos pos' tpos : Pos} {ta tv : TE}
end
section
variable {X : Cx} {pins : List (Addr × Obj)} {σ : St} {H : Hp} {s : Shared} {A : Around} {E : Value → Shared → Prop} {Q : Value → Shared → Prop} {c : Value} {b : Bool}
inductive TyOf (K : PySem.W.Frag) (H : Hp) : V → Value → Prop where
  | non : TyOf K H .non (.type "NoneType")
  | bl (x : Bool) : TyOf K H (.bl x) (.type "bool")
  | int (i : Int) : TyOf K H (.int i) (.type "int")
  | str (x : Str) : TyOf K H (.str x) (.type "str")
  | flt (x : UInt64) : TyOf K H (.flt x) (.type "float")
  | lst {a : Addr} {xs : List V} (e : H a = some (.lst xs)) : TyOf K H (.ref a) (.type "list")
  | frz {a : Addr} {o : Obj} {xs : List V} (e : H a = some (.frz o (.lst xs))) : TyOf K H (.ref a) (.type "list")
  | tup {a : Addr} {xs : List V} (e : H a = some (.tup xs)) : TyOf K H (.ref a) (.type "tuple")
  | dK {a : Addr} {kvs : List (Key × V)} (e : H a = some (.dK kvs)) : TyOf K H (.ref a) (.type "dict")
  | dT {a : Addr} {kvs : List (List Key × V)} (e : H a = some (.dT kvs)) : TyOf K H (.ref a) (.type "dict")
  | ins {a C dx : Addr} {fs : List (Str × V)} (e : H a = some (.ins C dx fs)) (cl : Cls K C) (ha : PySem.W.findIn K (.ref C) "__class__" = some (some (.builtin "object.__class__")))
      (hn : PySem.W.specialIn K (.builtin "object.__class__") "__get__" = some (some (.builtin "getset_descriptor.__get__"))) (htk : PySem.W.takesIn K (.builtin "object.__class__") = some true)
      (hm : PySem.W.mroIn K C (.type "object") = some true) : TyOf K H (.ref a) (.ref C)
theorem isinst_ok {x : V} {u t : Value} (I : Inv X pins σ H s) (rx : RelV x u) (ty : TyOf X.K H x t) (e : PySem.W.kitOne X.K t c = some b) (h : ∀ tk, Q (.bool b) { s with toks := tk }) :
    wpAny (model X.prog X.w) A (call (.builtin "isinstance") [u, c]) Q E s := by
  cases ty with
  | non => cases (show u = Value.none from rx); exact PySem.W.kia_one PySem.W.kitx_none I.kIn True.intro e (fun z => nomatch z) h
  | bl y => cases (show u = Value.bool y from rx); exact PySem.W.kia_one PySem.W.kitx_bool I.kIn True.intro e (fun z => nomatch z) h
  | int i => obtain ⟨t, q⟩ := (show ∃ t, u = Value.int i t from rx); cases q; exact PySem.W.kia_one PySem.W.kitx_int I.kIn True.intro e (fun z => nomatch z) h
  | str y => obtain ⟨t, q⟩ := (show ∃ t, u = Value.str y t from rx); cases q; exact PySem.W.kia_one PySem.W.kitx_str I.kIn True.intro e (fun z => nomatch z) h
  | flt y => obtain ⟨t, q⟩ := (show ∃ t, u = Value.float y t from rx); cases q; exact PySem.W.kia_one PySem.W.kitx_float I.kIn True.intro e (fun z => nomatch z) h
  | @lst a xs ea =>
    cases (show u = Value.ref a from rx)
    obtain ⟨_, _, n, _, h1⟩ := (show ObjOk X.prog X.w H s.heap a (.lst xs) from I.hok a _ ea)
    exact PySem.W.kia_one PySem.W.kitx_list I.kIn ⟨_, h1, rfl⟩ e (fun z => nomatch z) h
  | @frz a ob xs ea =>
    cases (show u = Value.ref a from rx)
    obtain ⟨_, _, _, n, _, h1⟩ := (show ObjOk X.prog X.w H s.heap a (.frz ob (.lst xs)) from I.hok a _ ea)
    exact PySem.W.kia_one PySem.W.kitx_list I.kIn ⟨_, h1, rfl⟩ e (fun z => nomatch z) h
  | @tup a xs ea =>
    cases (show u = Value.ref a from rx)
    obtain ⟨_, _, _, p⟩ := (show ObjOk X.prog X.w H s.heap a (.tup xs) from I.hok a _ ea)
    obtain ⟨o, h1, h2, _⟩ := p
    exact PySem.W.kia_one PySem.W.kitx_tuple I.kIn ⟨o, h1, h2⟩ e (fun z => nomatch z) h
  | @dK a kvs ea =>
    cases (show u = Value.ref a from rx)
    obtain ⟨_, _, vs, _, p⟩ := (show ObjOk X.prog X.w H s.heap a (.dK kvs) from I.hok a _ ea)
    obtain ⟨o, es, ep, h1, h2, _⟩ := p
    exact PySem.W.kia_one PySem.W.kitx_dict I.kIn ⟨o, h1, h2.1⟩ e (fun z => nomatch z) h
  | @dT a kvs ea =>
    cases (show u = Value.ref a from rx)
    obtain ⟨_, _, xs, _, o, es, ep, h1, h2, _⟩ := (show ObjOk X.prog X.w H s.heap a (.dT kvs) from I.hok a _ ea)
    exact PySem.W.kia_one PySem.W.kitx_dict I.kIn ⟨o, h1, h2.1⟩ e (fun z => nomatch z) h
  | @ins a C dx fs ea cl ha hn htk hm =>
    cases (show u = Value.ref a from rx)
    obtain ⟨mA, O, _⟩ := ins_get I.hok ea
    obtain ⟨od, J, _⟩ := O.look
    exact PySem.W.kia_one (PySem.W.kitx_own (cl.get _) cl.hd ha hn htk hm) I.kIn J e (fun z => nomatch z) h
end
end L2
namespace L2
open PySem PySem.Spec PyProof.Rows
structure Room (k : Nat) (A : Around) : Prop where
  hd : A.handled = none
  dp : A.depth + 3 * k + 5 < recursionLimit
  un : A.units + 16 * k + 200 < cLine
theorem Room.mono {j k : Nat} {A : Around} (r : Room k A) (h : j ≤ k) : Room j A := ⟨r.hd, by have := r.dp; omega, by have := r.un; omega⟩
theorem Room.deeper {k : Nat} {A : Around} (r : Room (k + 1) A) (env : Env) : Room k (A.deeper env) :=
  ⟨r.hd, by have := r.dp; show A.depth + 1 + 3 * k + 5 < _; omega, by have := r.un; show A.units + 3 + 16 * k + 200 < _; omega⟩
theorem Room.depth {k : Nat} {A : Around} (r : Room k A) : A.depth < recursionLimit := by have := r.dp; omega
theorem Room.units {k : Nat} {A : Around} (r : Room k A) : A.units + 64 < cLine := by have := r.un; omega
theorem Room.units0 {k : Nat} {A : Around} (r : Room k A) : A.units < cLine := by have := r.un; omega
noncomputable def tNil : TA := fun _ H Q => Q [] H
noncomputable def tCons (ta : TE) (tr : TA) : TA := fun σ H Q => ta σ H fun x H1 => tr σ H1 fun xs H2 => Q (x :: xs) H2
section
variable {X : Cx} {e : Expr} {es : List Expr} {te : TE} {t : TA} {pos : Pos}
theorem pa_nil : PA X [] tNil := fun _ _ _ _ H Q I h => Calls.spliced_nil ⟨[], H, I, .nil, h⟩
theorem pa_cons (ha : PE X e te) (hr : PA X es t) (hs : starEach (e :: es) X.env = (false, eval e X.env) :: starEach es X.env := by rfl) : PA X (e :: es) (tCons te t) := by
  intro pos pins s σ H Q I h
  rw [hs]
  show wpAny _ _ (spliced ((false, eval e X.env) :: backTo pos (starEach es X.env))) _ _ s
  refine Calls.spliced_cons (thn (ha pins s σ H _ I h) fun u s1 hpt => ?_)
  obtain ⟨x, H1, I1, r1, q1⟩ := hpt
  exact thn (hr pos pins s1 σ H1 _ I1 q1) fun us s2 ⟨xs, H2, I2, r2, q2⟩ => ⟨x :: xs, H2, I2, .cons r1 r2, q2⟩
noncomputable def tTup (t : TA) : TE := fun σ H Q => t σ H fun xs H1 => xs.length ≤ sizeLine ∧ ∀ p, H1 p = none → Q (.ref p) (upd H1 p (.tup xs))
noncomputable def tLst (t : TA) : TE := fun σ H Q => t σ H fun xs H1 => xs.length ≤ sizeLine ∧ ∀ p, H1 p = none → Q (.ref p) (upd H1 p (.lst xs))
theorem pe_tup {x1} (h : PA X es t) : PE X (.Tuple es x1 pos) (tTup t) := by
  intro pins s σ H Q I hq
  refine wpAny_Tuple_spliced (thn (h pos pins s σ H _ I hq) fun us s1 ⟨xs, H1, I1, r, z, q⟩ => ⟨by rw [← r.length]; exact z, ?_⟩)
  have hf : H1 s1.heap.objs.size = none := I1.hok.fresh (Nat.le_refl _)
  refine ⟨.ref s1.heap.objs.size, upd H1 s1.heap.objs.size (.tup xs), I1.laid (t' := s1.toks) (fun b u e => Heap.get?_push_of_some _ e) (Nat.le_refl _) ?_, rfl, q _ hf⟩
  exact ⟨z, us, r, ⟨_, Heap.get?_push_size _ rfl, rfl, _, rfl⟩⟩
theorem pe_lst (h : PA X es t) : PE X (.List es pos) (tLst t) := by
  intro pins s σ H Q I hq
  refine wpAny_List_spliced (thn (h pos pins s σ H _ I hq) fun us s1 ⟨xs, H1, I1, r, z, q⟩ => ⟨by rw [← r.length]; exact z, ?_⟩)
  have hf : H1 s1.heap.objs.size = none := I1.hok.fresh (Nat.le_refl _)
  refine ⟨.ref s1.heap.objs.size, upd H1 s1.heap.objs.size (.lst xs), I1.laid (t' := s1.toks) (fun b u e => Heap.get?_push_of_some _ e) (Nat.le_refl _) ?_, rfl, q _ hf⟩
  exact ⟨z, us, 0, r, Heap.get?_push_size _ rfl⟩
end
noncomputable abbrev Sp := List V → Hp → VK → XK → Prop
noncomputable abbrev CXT := List Env → Hp → Shared → XK → Value → Shared → Prop
structure Env0 (P : Program) (w : World) (K : PySem.W.Frag) (mg : Str → Option Value) (base : Heap) (A : Around) (outer : List Env) (s : Shared) (H : Hp) : Prop where
  frames : A.frames = some outer
  mod : Mod K mg base
  bs : ∀ b o, base.get? b = some o → s.heap.get? b = some o ∧ H b = none
  bsz : base.objs.size ≤ s.heap.objs.size
  funs : s.heap.FunFrames base outer
  frf : ∀ b ∈ frs outer, H b = none
  hok : HOk P w H s.heap
  bare : AllBare s.gens
noncomputable def CE (outer : List Env) (P : Program) (w : World) (H : Hp) (s : Shared) (Q : VK) (u : Value) (s' : Shared) : Prop :=
  ∃ v H', s'.os = s.os ∧ AllBare s'.gens ∧ Un (frs outer) [] H H' s.heap s'.heap ∧ HOk P w H' s'.heap ∧ RelV v u ∧ Q v H'
noncomputable def CR (CX : CXT) (outer : List Env) (P : Program) (w : World) (H : Hp) (s : Shared) (Q : VK) (E : XK) (r : Result) (s' : Shared) : Prop :=
  match r with
  | .ok (.ret u) => CE outer P w H s Q u s'
  | .ok _ => False
  | .error e => CX outer H s E e s'
structure FnOk (P : Program) (w : World) (K : PySem.W.Frag) (mg : Str → Option Value) (base : Heap) (CX : CXT) (k : Nat) (f : Addr) (fd : FuncData) (ps : List Str) (sp : Sp) : Prop where
  len : ∀ vs H Q E, sp vs H Q E → vs.length = ps.length
  run : ∀ (A : Around) (outer : List Env) (s : Shared) (H : Hp) (args : Args) (us : List Value) (vs : List V) (Q : VK) (E : XK), Room k A → Env0 P w K mg base A outer s H → BindsTo s fd args (ps.zip us) → Vals vs us → sp vs H Q E →
    codeAny (model P w) A (.call (.ref f) args) (CR CX outer P w H s Q E) s
section
variable {X : Cx} {pins : List (Addr × Obj)} {σ : St} {H : Hp} {s s' : Shared}
theorem Inv.env0 (I : Inv X pins σ H s) : Env0 X.prog X.w X.K X.mg X.base X.A X.stack s H :=
  ⟨I.ok.frames, I.ok.mod, I.bs, Nat.le_trans I.ok.bsz I.sz, I.stack, I.stkFree, I.hok, I.bare⟩
theorem Inv.after {Q : VK} {u : Value} (I : Inv X pins σ H s) (h : CE X.stack X.prog X.w H s Q u s') : EP X pins σ Q u s' := by
  obtain ⟨v, H', os, bare, un, hok, r, q⟩ := h
  obtain ⟨hh, g, d, t, os'⟩ := s'
  obtain rfl : os' = s.os := os
  exact ⟨v, H', I.call (h' := hh) (g' := g) (d' := d) (t' := t) (ch := []) un hok bare (fun b z => absurd z (by simp)), r, q⟩
end
noncomputable def tCall (sp : Sp) (dvs : List V) (E : XK) (t : TA) : TE := fun σ H Q => t σ H fun vs H1 => sp (vs ++ dvs) H1 Q E
noncomputable def Binds (K : PySem.W.Frag) (fd : FuncData) (ps : List Str) (ds : List Value) : Prop :=
  ∀ (s : Shared) (us : List Value), K.In s.heap → (us ++ ds).length = ps.length → BindsTo s fd ⟨us, []⟩ (ps.zip (us ++ ds))
theorem Binds.all {K : PySem.W.Frag} {fd : FuncData} {ps : List Str} (h : ∀ us : List Value, us.length = ps.length → bindArgs fd ⟨us, []⟩ = pure (ps.zip us)) : Binds K fd ps [] := fun s us _ hl => by
  rw [List.append_nil] at hl ⊢
  exact .of_eq (h us hl)
noncomputable def Passes (CX : CXT) (X : Cx) (E : XK) : Prop := ∀ (pins : List (Addr × Obj)) (σ : St) (H : Hp) (s : Shared) (e : Value) (s' : Shared), Inv X pins σ H s → CX X.stack H s E e s' → X.xe e s'
section
variable {X : Cx} {CX : CXT} {k : Nat} {f C : Addr} {fd : FuncData} {ps : List Str} {sp : Sp} {dvs : List V} {ds : List Value} {E : XK} {x m : Str} {p pos apos : Pos} {e o : Expr} {es : List Expr} {ta : TE} {t : TA}
theorem run_fn {pins : List (Addr × Obj)} {σ : St} {H : Hp} {s : Shared} {Q : VK} {us : List Value} {vs : List V} (F : FnOk X.prog X.w X.K X.mg X.base CX k f fd ps sp) (hr : Room k X.A) (hb : Binds X.K fd ps ds) (hd : Vals dvs ds) (hx : Passes CX X E)
    (I : Inv X pins σ H s) (r : Vals vs us) (h : sp (vs ++ dvs) H Q E) : wpAny (model X.prog X.w) X.A (call (.ref f) us) (EP X pins σ Q) X.xe s := by
  have r2 : Vals (vs ++ dvs) (us ++ ds) := r.append hd
  have hl : (us ++ ds).length = ps.length := by rw [← r2.length]; exact F.len _ _ _ _ h
  refine wpAny_call (codeAny_mono (F.run X.A X.stack s H ⟨us, []⟩ (us ++ ds) (vs ++ dvs) Q E hr I.env0 (hb s us I.kIn hl) r2 h) fun r s' hq => ?_)
  cases r with
  | error e => exact hx pins σ H s e s' I hq
  | ok fl =>
    cases fl with
    | ret u => exact I.after hq
    | next => exact False.elim hq
    | brk => exact False.elim hq
    | cont => exact False.elim hq
theorem pe_call (F : FnOk X.prog X.w X.K X.mg X.base CX k f fd ps sp) (hr : Room k X.A) (hg : Gl X x) (hm : X.mg x = some (.ref f)) (hk : PySem.W.keepIn X.K (.ref f) = true) (hb : Binds X.K fd ps ds) (hd : Vals dvs ds) (hx : Passes CX X E)
    (ha : PA X (e :: es) t) (hdb : (x == ("__debug__" : Str)) = false := by decide) (he : starEach (e :: es) X.env = (false, eval e X.env) :: starEach es X.env := by rfl) (hpl : (backTo pos (starEach es X.env)).any (·.1) = false := by rfl) :
    PE X (.Call (.Name x p) (e :: es) [] pos) (tCall sp dvs E t) := by
  intro pins s σ H Q I h
  refine wpAny_Call_Name_kw (ld_glob I hg hm ?_ hdb)
  refine PySem.W.callWith_K (h₀ := X.base) I.ok.mod.kin hk (thn (ha pos pins s σ H _ I h) fun us s1 ⟨vs, H1, I1, r, q⟩ => ⟨I1.kIn, ?_⟩) he hpl
  exact run_fn F hr hb hd hx I1 r q
end
section
variable {X : Cx} {CX : CXT} {k : Nat} {f C : Addr} {fd : FuncData} {ps ks : List Str} {sp : Sp} {E : XK} {x m : Str} {p pos apos kpos : Pos} {e o : Expr} {es : List Expr} {kws : List Keyword} {te ta : TE} {t tk : TA} {nm : Option Str}
variable {g : List Value → List Value → List Value} {gV : List V → List V → List V}
end
structure FnScope (N P : List Str) (sc : Scope) : Prop where
  kind : sc.kind = .function
  co : sc.isCoroutine = false
  gen : sc.isGenerator = false
  nd : N.Nodup
  pre : N.take P.length = P
  par : ∀ x ∈ P, sc.names.lookup x = some .local ∨ sc.names.lookup x = some .cell
  nofree : ∀ y ∈ sc.names, y.2 ≠ .free
theorem bindL_out {kindOf : Str → Option NameKind} {x : Str} : ∀ {binds : List (Str × Value)} {m : Str → Option Value}, (∀ v, (x, v) ∉ binds) → bindL kindOf binds m x = m x
  | [], _, _ => rfl
  | (n, v) :: r, m, h => by
    unfold bindL
    rw [bindL_out fun w hw => h w (List.mem_cons_of_mem _ hw)]
    split
    · have : x ≠ n := by rintro rfl; exact h v List.mem_cons_self
      simp [this]
    · rfl
theorem bindC_out {kindOf : Str → Option NameKind} {x : Str} : ∀ {binds : List (Str × Value)} {m : Str → Option Value}, (∀ v, (x, v) ∉ binds) → bindC kindOf binds m x = m x
  | [], _, _ => rfl
  | (n, v) :: r, m, h => by
    unfold bindC
    rw [bindC_out fun w hw => h w (List.mem_cons_of_mem _ hw)]
    split
    · rfl
    · have : x ≠ n := by rintro rfl; exact h v List.mem_cons_self
      simp [this]
theorem bindL_get {kindOf : Str → Option NameKind} {x : Str} {v : Value} : ∀ {P : List Str} {vs : List Value} {i : Nat} {m : Str → Option Value}, P.Nodup → P[i]? = some x → vs[i]? = some v → kindOf x = some .local →
    bindL kindOf (P.zip vs) m x = some v
  | [], _, _, _, _, h, _, _ => by simp at h
  | _ :: _, [], _, _, _, _, h, _ => by simp at h
  | p :: P, w :: vs, 0, m, nd, h1, h2, hk => by
    simp at h1 h2; subst h1; subst h2
    show bindL kindOf ((p, w) :: P.zip vs) m p = _
    unfold bindL
    rw [bindL_out fun v hv => (List.nodup_cons.mp nd).1 (List.of_mem_zip hv).1, if_pos hk]
    simp
  | p :: P, w :: vs, i + 1, m, nd, h1, h2, hk => by
    show bindL kindOf ((p, w) :: P.zip vs) m x = _
    unfold bindL
    exact bindL_get (i := i) (List.nodup_cons.mp nd).2 (by simpa using h1) (by simpa using h2) hk
theorem bindC_get {kindOf : Str → Option NameKind} {x : Str} {v : Value} : ∀ {P : List Str} {vs : List Value} {i : Nat} {m : Str → Option Value}, P.Nodup → P[i]? = some x → vs[i]? = some v → kindOf x ≠ some .local →
    bindC kindOf (P.zip vs) m x = some v
  | [], _, _, _, _, h, _, _ => by simp at h
  | _ :: _, [], _, _, _, _, h, _ => by simp at h
  | p :: P, w :: vs, 0, m, nd, h1, h2, hk => by
    simp at h1 h2; subst h1; subst h2
    show bindC kindOf ((p, w) :: P.zip vs) m p = _
    unfold bindC
    rw [bindC_out fun v hv => (List.nodup_cons.mp nd).1 (List.of_mem_zip hv).1, if_neg hk]
    simp
  | p :: P, w :: vs, i + 1, m, nd, h1, h2, hk => by
    show bindC kindOf ((p, w) :: P.zip vs) m x = _
    unfold bindC
    exact bindC_get (i := i) (List.nodup_cons.mp nd).2 (by simpa using h1) (by simpa using h2) hk
noncomputable def start (N : List Str) (vs : List V) : St := vs.map some ++ List.replicate (N.length - vs.length) none
noncomputable def cxOf (CX : CXT) (P : Program) (w : World) (K : PySem.W.Frag) (mg : Str → Option Value) (base : Heap) (N : List Str) (qual : Str) (scope : Scope) (f : Addr) (cd : Value) (A : Around) (outer : List Env) (s : Shared) (H : Hp) (E : XK) : Cx where
  prog := P
  w := w
  K := K
  mg := mg
  base := base
  A := A.deeper (envOfC qual scope s.heap.objs.size f cd)
  N := N
  s₀ := s
  H₀ := H
  env := envOfC qual scope s.heap.objs.size f cd
  outer := outer
  stack := envOfC qual scope s.heap.objs.size f cd :: outer
  ex := []
  calm := true
  fn := fun _ => true
  pn := []
  xe := fun e s' => wpAny (model P w) (A.deeper (envOfC qual scope s.heap.objs.size f cd)) (leaving (envOfC qual scope s.heap.objs.size f cd) e) (fun _ s'' => CX outer H s E e s'') (fun e' s'' => CX outer H s E e' s'') s'
theorem cell_has {sc : Scope} {n : Nat} {x : Str} (h : sc.names.lookup x = some .cell) : ∃ c, (cellsFrom n sc.names []).lookup x = some c := by
  have q := PySem.W.cellsFrom_some sc.names n [] (.inl h)
  exact Option.isSome_iff_exists.mp q
theorem inv_start {CX : CXT} {P : Program} {w : World} {K : PySem.W.Frag} {mg : Str → Option Value} {base : Heap} {N ps : List Str} {qual : Str} {scope : Scope} {f : Addr} {cd : Value} {A : Around} {outer : List Env} {s s1 : Shared} {H : Hp} {E : XK} {us : List Value} {vs : List V}
    (S : FnScope N ps scope) (hd : A.handled = none) (e0 : Env0 P w K mg base A outer s H) (hl : vs.length = ps.length) (r : Vals vs us)
    (x : InCallC s s.heap.objs.size (bindL (envOfC qual scope s.heap.objs.size f cd).kindOf (ps.zip us) fun _ => none) (cellsFrom (s.heap.objs.size + 1) scope.names []) (bindC (envOfC qual scope s.heap.objs.size f cd).kindOf (ps.zip us) fun _ => none) s1) :
    Inv (cxOf CX P w K mg base N qual scope f cd A outer s H E) [] (start N vs) H s1 := by
  have hpl : ps.length ≤ N.length := by have := congrArg List.length S.pre; rw [List.length_take] at this; omega
  obtain ⟨h1, tk, rfl, hk⟩ := x.done
  have noA : ∀ b : Addr, b ∉ (cxOf CX P w K mg base N qual scope f cd A outer s H E).ex := fun b z => absurd (show b ∈ ([] : List Addr) from z) (by simp)
  refine ⟨⟨e0.mod, S.kind, rfl, rfl, Nat.le_refl _, fun y z c h1 h2 => ?_, fun y hy => ?_, fun y c _ h => ?_, fun _ => hd, Around.frames_deeper e0.frames, .inr ⟨rfl, rfl⟩, fun b z => absurd z (noA b), e0.bs, e0.bsz, fun b _ _ => noA b, fun b z => absurd z (noA b), e0.funs, e0.frf⟩,
    rfl, e0.bare, Un.kept hk, ⟨_, x.toInCall.ns, fun i y v h1 h2 h3 => ?_⟩, fun y c h => ⟨_, x.cell y c h⟩, e0.hok.fresh (Nat.le_refl _), fun y c h => ?_, fun p hp => absurd (show p ∈ ([] : List (Addr × Obj)) from hp) (by simp), e0.hok.kept hk, ?_⟩
  · exact name_of_addr x.apart (PySem.mem_of_lookup h1) (PySem.mem_of_lookup h2)
  · have hy : scope.names.lookup y = some .cell ∨ scope.names.lookup y = some .free := hy
    rcases hy with hy | hy
    · exact cell_has hy
    · exact absurd rfl (S.nofree _ (PySem.mem_of_lookup hy))
  · exact Nat.le_of_lt (x.above y c (PySem.mem_of_lookup h))
  · have hi : i < vs.length := by
      unfold start at h2
      by_cases hi : i < vs.length
      · exact hi
      · rw [List.getElem?_append_right (by simpa using hi)] at h2
        rw [List.getElem?_replicate] at h2
        split at h2 <;> cases h2
    have ha : vs[i]? = some v := by
      unfold start at h2
      rw [List.getElem?_append_left (by simpa using hi), List.getElem?_map] at h2
      cases e : vs[i]? with
      | none => rw [e] at h2; cases h2
      | some a => rw [e] at h2; cases h2; rfl
    obtain ⟨u, hu, rv⟩ := r.get ha
    have hp : ps[i]? = some y := by
      rw [← S.pre, List.getElem?_take_of_lt (by omega)]; exact h1
    have ndP : ps.Nodup := by rw [← S.pre]; exact S.nd.sublist (List.take_sublist _ _)
    refine ⟨u, rv, ?_⟩
    rcases S.par y (List.mem_of_getElem? hp) with k | k
    · exact .inl ⟨k, bindL_get ndP hp hu k⟩
    · obtain ⟨c, e⟩ := cell_has (n := s.heap.objs.size + 1) k
      refine .inr ⟨.inl k, c, e, ?_⟩
      have q := x.cell y c e
      rw [bindC_get ndP hp hu (by show scope.names.lookup y ≠ _; rw [k]; decide)] at q
      exact q
  · exact e0.hok.fresh (Nat.le_of_lt (x.above y c (PySem.mem_of_lookup h)))
  · unfold start
    show _ = N.length
    rw [List.length_append, List.length_map, List.length_replicate]
    omega
theorem fn_of {CX : CXT} {P : Program} {w : World} {K : PySem.W.Frag} {mg : Str → Option Value} {base : Heap} {k : Nat} {f : Addr} {name qual : Str} {params : Arguments} {body : List Stmt} {scope : Scope} {dV kV doc pm cdv ct oc : Value} {an od : Option Addr}
    {osl : Array (Option Value)} {N ps : List Str} {sp : Sp} (lk : K.lookup f = some ⟨oc, od, .func (PySem.W.fnOf name qual params body scope dV kV doc pm an cdv ct), osl⟩) (hcd : PySem.W.codeIn K cdv qual = true) (S : FnScope N ps scope)
    (len : ∀ vs H Q E, sp vs H Q E → vs.length = ps.length)
    (hbody : ∀ (A : Around) (outer : List Env) (s : Shared) (H : Hp) (vs : List V) (Q : VK) (E : XK), Room k (A.deeper (envOfC qual scope s.heap.objs.size f cdv)) → sp vs H Q E →
      ∃ t, PSs (cxOf CX P w K mg base N qual scope f cdv A outer s H E) body t ∧ t { nx := fun _ H' => Q .non H', rt := Q } (start N vs) H) :
    FnOk P w K mg base CX (k + 1) f (PySem.W.fnOf name qual params body scope dV kV doc pm an cdv ct) ps sp := by
  refine ⟨len, fun A outer s H args us vs Q E hr e0 hb r hsp => ?_⟩
  have hl := len _ _ _ _ hsp
  have KX : K.In s.heap := e0.mod.kin.keeps fun b o e => (e0.bs b o e).1
  have lim : s.heap.NoLimit := e0.mod.nolimit.keeps fun b o e => (e0.bs b o e).1
  have hkind : ∀ y ∈ ps.zip us, scope.names.lookup y.1 = some .local ∨ (scope.names.lookup y.1 = some .cell ∧ ((cellsFrom (s.heap.objs.size + 1) scope.names []).lookup y.1).isSome = true) := fun ⟨n, v⟩ hy => by
    rcases S.par n (List.of_mem_zip hy).1 with q | q
    · exact .inl q
    · exact .inr ⟨q, PySem.W.cellsFrom_some _ _ _ (.inl q)⟩
  refine codeAny_call_function hr.depth (KX _ _ lk) rfl S.co S.gen rfl (PySem.W.codeRec_of KX hcd) (hb _ _ _ _ ?_)
  refine wpAny_newFunctionEnv_cells S.kind hkind fun env he s1 x => ?_
  subst he
  refine ⟨lim.keeps x.toInCall.keep, codeAny_func ?_⟩
  obtain ⟨t, ht, hq⟩ := hbody A outer s H vs Q E (hr.deeper _) hsp
  have I : Inv (cxOf CX P w K mg base N qual scope f cdv A outer s H E) [] (start N vs) H s1 := inv_start S hr.hd e0 hl r x
  refine wpAny_mono (ht [] s1 (start N vs) H _ I hq) (fun fl s' hs => ?_) fun e s' hs => hs
  have fin : ∀ {σ' : St} {H' : Hp} {v : V} {u : Value}, Inv (cxOf CX P w K mg base N qual scope f cdv A outer s H E) [] σ' H' s' → RelV v u → Q v H' → CE outer P w H s Q u s' :=
    fun {σ' H' v u} J rv q => ⟨v, H', J.os, J.bare, J.base, J.hok, rv, q⟩
  cases fl with
  | ret u =>
    obtain ⟨v, σ', H', J, rv, q⟩ := hs
    exact fin J rv q
  | next =>
    obtain ⟨σ', H', J, q⟩ := hs
    exact fin (v := V.non) (u := Value.none) J rfl q
  | brk =>
    obtain ⟨_, _, _, q⟩ := hs
    exact False.elim q
  | cont =>
    obtain ⟨_, _, _, q⟩ := hs
    exact False.elim q
end L2
namespace L2
open PySem PySem.Spec PyProof.Rows
section
variable {X : Cx} {x : Str} {p pos : Pos} {e : Expr} {es : List Expr} {t : TA} {id T : String} {r : List V → Hp → VK → Prop}
noncomputable def tCB (r : List V → Hp → VK → Prop) (t : TA) : TE := fun σ H Q => t σ H fun vs H1 => r vs H1 Q
theorem pe_callB (hc : CallR X (.builtin id) r) (hg : Gl X x) (hm : X.mg x = none) (hv : bootBuiltins x = some (.builtin id)) (ha : PA X (e :: es) t) (hn : x ≠ "__name__" := by decide) (hdb : (x == ("__debug__" : Str)) = false := by decide)
    (he : starEach (e :: es) X.env = (false, eval e X.env) :: starEach es X.env := by rfl) (hpl : (backTo pos (starEach es X.env)).any (·.1) = false := by rfl) : PE X (.Call (.Name x p) (e :: es) [] pos) (tCB r t) := by
  intro pins s σ H Q I h
  refine wpAny_Call_Name_kw (ld_blt I hg hm hv ?_ hn hdb)
  exact PyProof.Rows.callWith_builtin1 (thn (ha pos pins s σ H _ I h) fun us s1 ⟨vs, H1, I1, r1, q1⟩ => hc pins s1 σ H1 vs us Q I1 r1 q1) he hpl
theorem pe_callTy (hc : CallR X (.type T) r) (hg : Gl X x) (hm : X.mg x = none) (hv : bootBuiltins x = some (.type T)) (ha : PA X (e :: es) t) (hn : x ≠ "__name__" := by decide) (hdb : (x == ("__debug__" : Str)) = false := by decide)
    (he : starEach (e :: es) X.env = (false, eval e X.env) :: starEach es X.env := by rfl) (hpl : (backTo pos (starEach es X.env)).any (·.1) = false := by rfl) : PE X (.Call (.Name x p) (e :: es) [] pos) (tCB r t) := by
  intro pins s σ H Q I h
  refine wpAny_Call_Name_kw (ld_blt I hg hm hv ?_ hn hdb)
  exact PyProof.Rows.callWith_type1 (thn (ha pos pins s σ H _ I h) fun us s1 ⟨vs, H1, I1, r1, q1⟩ => hc pins s1 σ H1 vs us Q I1 r1 q1) he hpl
end
end L2
set_option Elab.async false
set_option linter.all false
set_option maxRecDepth 100000
namespace HT
open PySem PyProof.Rows
section
open PySem.SeqAt
open PySem.AutoSeq1 (wpAny_loadPart')
open PySem.MeetsSeq PySem.MeetsSeq2 PySem.MeetsSeq3
end
section
variable {prog : Program} {w : World} {A : Around} {E : Value → Shared → Prop} {s : Shared}
theorem cat_tup {t b : Addr} {vs ws : List Value} {Q : Value → Shared → Prop} (ht : IsTup s.heap t vs.toArray) (hb : IsTup s.heap b ws.toArray) (hv : vs ≠ [])
    (h1 : ws = [] → Q (.ref t) s) (h2 : ws ≠ [] → Q (.ref s.heap.objs.size) { s with heap := s.heap.push { cls := .type "tuple", data := .seq (vs ++ ws).toArray } })
    (hsz : vs.length + ws.length ≤ sizeLine) : wpAny (model prog w) A (binaryOp .Add (.ref t) (.ref b)) Q E s := by
  obtain ⟨⟨cls, dd, data, sl⟩, ho, hc, n, hd⟩ := id ht
  obtain ⟨⟨cls2, dd2, data2, sl2⟩, ho2, hc2, n2, hd2⟩ := id hb
  simp only at hc hd hc2 hd2
  subst hc hd hc2 hd2
  have e : vs.toArray ++ ws.toArray = (vs ++ ws).toArray := by simp
  by_cases hw : ws = []
  · exact concat_meets ⟨_, ho, rfl⟩ ⟨_, ho2, rfl⟩ noFill_tuple_add seq_tuple_add PySem.F.slot_tuple_add PySem.F.entry_tuple_add (PySem.F.args_tuple_add_2 _ _)
      (tuple_addW1 t b vs.toArray ws.toArray n n2 dd dd2 sl sl2 (by simpa using hv) (by simp [hw])) ⟨ho, ho2, h1 hw⟩
  · refine concat_meets ⟨_, ho, rfl⟩ ⟨_, ho2, rfl⟩ noFill_tuple_add seq_tuple_add PySem.F.slot_tuple_add PySem.F.entry_tuple_add (PySem.F.args_tuple_add_2 _ _)
      (tuple_addW2 t b vs.toArray ws.toArray n n2 dd dd2 sl sl2 (by simpa using hv) (by simpa using hw) (by rw [List.size_toArray, List.size_toArray]; exact hsz)) ⟨ho, ho2, ?_⟩
    rw [e]
    exact h2 hw
noncomputable def sIx (n d : Nat) : Option Int → Nat
  | none => d
  | some v => if v < 0 then (v + (n : Int)).toNat else min v.toNat n
theorem sIx_le (n d : Nat) (hd : d ≤ n) (o : Option Int) : sIx n d o ≤ n := by
  cases o with
  | none => exact hd
  | some v =>
    show (if v < 0 then (v + (n : Int)).toNat else min v.toNat n) ≤ n
    by_cases hv : v < 0
    · rw [if_pos hv]; omega
    · rw [if_neg hv]; exact Nat.min_le_right _ _
theorem clip_eq (v : Int) (n d : Nat) : (if v < 0 then max (v + (n : Int)) 0 else min v (n : Int)) = ((sIx n d (some v) : Nat) : Int) := by
  show (if v < 0 then max (v + (n : Int)) 0 else min v (n : Int)) = (((if v < 0 then (v + (n : Int)).toNat else min v.toNat n) : Nat) : Int)
  by_cases hv : v < 0
  · simp only [if_pos hv]; omega
  · simp only [if_neg hv]; omega
theorem adjust_gen (lo hi : Option Int) (n : Nat) : Builtin.Slice.sliceAdjust lo hi 1 (n : Int) = (((sIx n 0 lo : Nat) : Int), ((sIx n n hi : Nat) : Int)) := by
  have h1 : ¬ ((1 : Int) < 0) := by omega
  unfold Builtin.Slice.sliceAdjust
  simp only [h1, if_false]
  refine Prod.ext ?_ ?_
  · cases lo with
    | none => rfl
    | some v => exact clip_eq v n 0
  · cases hi with
    | none => rfl
    | some v => exact clip_eq v n n
theorem places_gen (i j : Nat) : Builtin.Slice.slicePlaces (i : Int) (j : Int) 1 = j - i := by
  unfold Builtin.Slice.slicePlaces
  have h1 : (1 : Int) > 0 := by omega
  simp only [h1, if_true, Int.ediv_one]
  split <;> omega
theorem slicePart_ {v : Value} {o : Option Int} {Q : Option Int → Shared → Prop} (p : IsPart v o) (h : Q o s) : wpAny (model prog w) A (Builtin.Slice.slicePartIndex v) Q E s := by
  cases p with
  | none => exact slicePart_none h
  | int i t => exact slicePart_int h
theorem sliceApplied_gen {sl : Addr} {vl vu : Value} {lo hi : Option Int} {n : Nat} {Q : Int × Int × Nat → Shared → Prop} (hs : s.heap.IsSliceOf sl vl vu .none) (pl : IsPart vl lo) (pu : IsPart vu hi)
    (h : Q (((sIx n 0 lo : Nat) : Int), 1, sIx n n hi - sIx n 0 lo) s) : wpAny (model prog w) A (Builtin.Slice.sliceApplied (.ref sl) (pure (n : Int))) Q E s := by
  obtain ⟨os, hos, hcs, hds⟩ := id hs
  unfold Builtin.Slice.sliceApplied Builtin.Slice.sliceFields
  refine wpAny_bind (wpAny_bind (wpAny_field hos hds (x := vl) rfl (wpAny_bind (wpAny_field hos hds (x := vu) rfl (wpAny_bind (wpAny_field hos hds (x := .none) rfl (wpAny_pure ?_)))))))
  refine wpAny_bind (slicePart_none ?_)
  show wpAny _ _ (if ((1 : Int) == 0) = true then _ else _) _ _ s
  rw [if_neg (by decide)]
  refine wpAny_bind (slicePart_ pl (wpAny_bind (slicePart_ pu (wpAny_bind (wpAny_pure ?_)))))
  show wpAny _ _ (match Builtin.Slice.sliceAdjust lo hi 1 (n : Int) with | (lo, hi) => pure (lo, (1 : Int), Builtin.Slice.slicePlaces lo hi 1)) _ _ s
  rw [adjust_gen lo hi n]
  show wpAny _ _ (pure (((sIx n 0 lo : Nat) : Int), (1 : Int), Builtin.Slice.slicePlaces ((sIx n 0 lo : Nat) : Int) ((sIx n n hi : Nat) : Int) 1)) _ _ s
  rw [places_gen]
  exact wpAny_pure h
theorem pick_gen (xs : Array Value) (i k : Nat) : ((List.range k).filterMap fun (m : Nat) => xs[((i : Int) + (m : Int) * 1).toNat]?).toArray = ((xs.toList.drop i).take k).toArray := by
  have e : (fun (m : Nat) => xs[((i : Int) + (m : Int) * 1).toNat]?) = fun m => xs[i + m]? := by
    funext m
    have : ((i : Int) + (m : Int) * 1).toNat = i + m := by omega
    rw [this]
  rw [e]
  have := pick_run xs i k
  rw [List.filterMap_map] at this
  have e2 : ((fun x => xs[x]?) ∘ fun x => i + x) = fun m => xs[i + m]? := rfl
  rw [e2] at this
  rw [this]
theorem getItem_tuple_cut {t sl : Addr} {items : Array Value} {vl vu : Value} {lo hi : Option Int} {Q : Value → Shared → Prop} (ht : IsTup s.heap t items) (hs : s.heap.IsSliceOf sl vl vu .none) (pl : IsPart vl lo) (pu : IsPart vu hi)
    (hw : ¬ (sIx items.size 0 lo = 0 ∧ sIx items.size items.size hi = items.size))
    (h : Q (.ref s.heap.objs.size) { s with heap := s.heap.push { cls := .type "tuple", data := .seq ((items.toList.drop (sIx items.size 0 lo)).take (sIx items.size items.size hi - sIx items.size 0 lo)).toArray } })
    (hsz : items.size ≤ sizeLine) : wpAny (model prog w) A (getItem (.ref t) (.ref sl)) Q E s := by
  have htake : sizeOk (.seq ((items.toList.drop (sIx items.size 0 lo)).take (sIx items.size items.size hi - sIx items.size 0 lo)).toArray) := by
    show ((items.toList.drop (sIx items.size 0 lo)).take (sIx items.size items.size hi - sIx items.size 0 lo)).toArray.size ≤ sizeLine
    rw [List.size_toArray, List.length_take, List.length_drop, Array.length_toList]
    omega
  have hj : sIx items.size items.size hi ≤ items.size := sIx_le _ _ (Nat.le_refl _) hi
  obtain ⟨os, hos, hcs, hds⟩ := id hs
  have hTs : s.TypeIs (.ref sl) "slice" := ⟨os, hos, hcs⟩
  unfold getItem
  try with_reducible refine wpAny_holding ?_
  first | refine wpAny_bind (wpAny_pure ?_) | skip
  refine wpAny_bind (wpAny_sequenceKey ht.typeIs (by decide) ?_)
  refine wpAny_bind (wpAny_callSpecial?_slot (name := Str.ofString "__getitem__") ht.typeIs PyProof.Rows.slot_tuple_getitem
    (wpAny_call_entry PyProof.Rows.slot_tuple_getitem ht.typeIs entry_tuple_getitem ?_ (args_tuple_getitem _ _)))
  show wpAny _ _ (Builtin.Tuple.tupleItemsOf (.ref t) >>= _) _ _ s
  refine wpAny_bind (tupleItemsOf_ ht ?_)
  refine wpAny_bind (wpAny_typeOf hTs ?_)
  rw [if_pos (by decide)]
  refine wpAny_bind (sliceApplied_gen hs pl pu ?_)
  have hno : ¬ ((((sIx items.size 0 lo : Nat) : Int) == 0 && (1 : Int) == 1 && (sIx items.size items.size hi - sIx items.size 0 lo) == items.size) = true) := by
    intro q
    rw [Bool.and_eq_true, Bool.and_eq_true] at q
    have q1 : ((sIx items.size 0 lo : Nat) : Int) = 0 := eq_of_beq q.1.1
    have q2 : sIx items.size items.size hi - sIx items.size 0 lo = items.size := eq_of_beq q.2
    exact hw ⟨by omega, by omega⟩
  show wpAny _ _ (if (((sIx items.size 0 lo : Nat) : Int) == 0 && (1 : Int) == 1 && (sIx items.size items.size hi - sIx items.size 0 lo) == items.size) = true then _ else _) _ _ s
  rw [if_neg hno, pick_gen]
  first
    | exact wpAny_bind (m := Builtin.Tuple.tupleExact _) (wpAny_newObj_type (wpAny_pure ⟨_, rfl, wpAny_pure h⟩) htake)
    | exact wpAny_bind (m := Builtin.Tuple.tupleExact _) (wpAny_newObj_type (wpAny_bind (wpAny_pure (wpAny_pure ⟨_, rfl, wpAny_pure h⟩))) htake)
    | exact wpAny_bind (wpAny_bind (m := Builtin.Tuple.tupleExact _) (wpAny_newObj_type (wpAny_pure (wpAny_pure ⟨_, rfl, wpAny_pure h⟩)) htake))
    | exact wpAny_bind (wpAny_bind (m := Builtin.Tuple.tupleExact _) (wpAny_newObj_type (wpAny_pure ⟨_, rfl, wpAny_pure h⟩) htake))
end
end HT
namespace L2
open PySem PySem.Spec PyProof.Rows
noncomputable abbrev TO := St → Hp → (Option Int → Hp → Prop) → Prop
noncomputable def PO (X : Cx) (e : Option Expr) (t : TO) : Prop :=
  ∀ (pins : List (Addr × Obj)) (s : Shared) (σ : St) (H : Hp) (Q : Option Int → Hp → Prop), Inv X pins σ H s → t σ H Q →
    wpAny (model X.prog X.w) X.A (evalPart e X.env) (fun u s' => ∃ o H', Inv X pins σ H' s' ∧ IsPart u o ∧ Q o H') X.xe s
noncomputable def tNoPart : TO := fun _ H Q => Q none H
noncomputable def tPart (t : TE) : TO := fun σ H Q => t σ H fun x H1 => ∃ i, x = .int i ∧ Q (some i) H1
theorem intsAre_of {ns : List Int} : ∀ {us : List Value}, Vals (ns.map V.int) us → IntsAre us ns := by
  induction ns with
  | nil => intro us r; rw [List.map_nil] at r; cases r; exact .nil
  | cons n ns ih =>
    intro us r
    rw [List.map_cons] at r
    cases r with
    | cons r1 r2 =>
      obtain ⟨t, e⟩ := r1
      subst e
      exact .cons n t (ih r2)
section
variable {X : Cx} {e : Expr} {te : TE} {lo hi : Option Expr} {tl th : TO} {pos p2 : Pos}
theorem po_none : PO X none tNoPart := by
  intro pins s σ H Q I h
  rw [evalPart_none]
  exact wpAny_pure ⟨none, H, I, .none, h⟩
theorem po_some (h : PE X e te) : PO X (some e) (tPart te) := by
  intro pins s σ H Q I hw
  rw [evalPart_some]
  refine thn (h pins s σ H _ I hw) fun u s1 hpt => ?_
  obtain ⟨x, H1, I1, r1, q1⟩ := hpt
  obtain ⟨i, rfl, q⟩ := q1
  obtain ⟨t, rfl⟩ := r1
  exact ⟨some i, H1, I1, .int i t, q⟩
noncomputable def SlR (X : Cx) (r : V → Option Int → Option Int → Hp → VK → Prop) : Prop :=
  ∀ (pins : List (Addr × Obj)) (s : Shared) (σ : St) (H : Hp) (x : V) (v vl vu : Value) (lo hi : Option Int) (sl : Addr) (Q : VK), Inv X pins σ H s → RelV x v → s.heap.IsSliceOf sl vl vu .none → IsPart vl lo → IsPart vu hi → r x lo hi H Q →
    ∃ T id, typeLookup (.type T) "__getitem__" = pure (some (.builtin id)) ∧ s.TypeIs v T ∧ wpAny (model X.prog X.w) X.A (getItem v (.ref sl)) (EP X pins σ Q) X.xe s
noncomputable def tSl (r : V → Option Int → Option Int → Hp → VK → Prop) (te : TE) (tl th : TO) : TE := fun σ H Q => te σ H fun x H1 => tl σ H1 fun l H2 => th σ H2 fun u H3 => r x l u H3 Q
theorem pe_slice {r : V → Option Int → Option Int → Hp → VK → Prop} (hr : SlR X r) (he : PE X e te) (hl : PO X lo tl) (hu : PO X hi th) : PE X (.Subscript e (.Slice lo hi none p2) pos) (tSl r te tl th) := by
  intro pins s σ H Q I h
  refine Subscript_ (thn (he pins s σ H _ I h) fun v s1 hpt => ?_)
  obtain ⟨x, H1, I1, r1, q1⟩ := hpt
  refine wpAny_Slice (thn (hl pins s1 σ H1 _ I1 q1) fun vl s2 ⟨l, H2, I2, pl, q2⟩ => thn (hu pins s2 σ H2 _ I2 q2) fun vu s3 hpt => ?_)
  obtain ⟨u, H3, I3, pu, q3⟩ := hpt
  rw [evalPart_none]
  refine wpAny_pure ?_
  have I4 : Inv X pins σ H3 { s3 with heap := s3.heap.push { cls := .type "slice", data := .fields #[vl, vu, .none] } } := I3.kept (t' := s3.toks) fun b ob q => Heap.get?_push_of_some _ q
  obtain ⟨T, id, hT, ht, hg⟩ := hr pins { s3 with heap := s3.heap.push { cls := .type "slice", data := .fields #[vl, vu, .none] } } σ H3 x v vl vu l u s3.heap.objs.size Q I4 r1 (Heap.IsSliceOf.new ..) pl pu q3
  show wpAny (model X.prog X.w) X.A (subscriptTail e (.Slice lo hi none p2) v (.ref s3.heap.objs.size)) (EP X pins σ Q) X.xe { s3 with heap := s3.heap.push { cls := .type "slice", data := .fields #[vl, vu, .none] } }
  exact tail_any (ops := [.ref s3.heap.objs.size, v]) ht hT hg (by with_unfolding_all rfl)
noncomputable def cutV (xs : List V) (lo hi : Option Int) : List V := (xs.drop (HT.sIx xs.length 0 lo)).take (HT.sIx xs.length xs.length hi - HT.sIx xs.length 0 lo)
theorem cutV_length (xs : List V) (lo hi : Option Int) : (cutV xs lo hi).length ≤ xs.length := by
  unfold cutV
  rw [List.length_take, List.length_drop]
  omega
noncomputable def rSlT (K : PySem.W.Frag) : V → Option Int → Option Int → Hp → VK → Prop := fun x lo hi H Q => ∃ a xs, x = .ref a ∧ SqT K H a xs ∧
  ¬ (HT.sIx xs.length 0 lo = 0 ∧ HT.sIx xs.length xs.length hi = xs.length) ∧ ∀ p, H p = none → Q (.ref p) (upd H p (.tup (cutV xs lo hi)))
theorem sl_tup : SlR X (rSlT X.K) := by
  intro pins s σ H x v vl vu lo hi sl Q I rx hs pl pu h
  obtain ⟨a, xs, rfl, hx, hw, q⟩ := h
  cases rx
  obtain ⟨its, r, ht, hz⟩ := I.tuple hx
  have hlen : its.toArray.size = xs.length := by rw [List.size_toArray]; exact r.length.symm
  refine ⟨"tuple", _, PyProof.Rows.slot_tuple_getitem.lookup, ht.typeIs, ?_⟩
  refine HT.getItem_tuple_cut ht hs pl pu (by rw [hlen]; exact hw) ?_ (by rw [hlen]; exact hz)
  rw [hlen]
  refine ⟨.ref s.heap.objs.size, _, I.laid (t' := s.toks) (o := .tup (cutV xs lo hi)) (fun b ob q => Heap.get?_push_of_some _ q) (Nat.le_refl _) ?_, rfl, q _ (I.hok.fresh (Nat.le_refl _))⟩
  exact ⟨Nat.le_trans (cutV_length xs lo hi) hz, _, (r.drop (HT.sIx xs.length 0 lo)).take (HT.sIx xs.length xs.length hi - HT.sIx xs.length 0 lo), IsTup.new _ _⟩
noncomputable def rCatT (K : PySem.W.Frag) : R2 := fun x y H Q => ∃ a b xs ys, x = .ref a ∧ y = .ref b ∧ SqT K H a xs ∧ SqT K H b ys ∧ xs ≠ [] ∧ xs.length + ys.length ≤ sizeLine ∧
  (ys = [] → Q (.ref a) H) ∧ (ys ≠ [] → ∀ p, H p = none → Q (.ref p) (upd H p (.tup (xs ++ ys))))
theorem Vals.nil_iff {xs : List V} {us : List Value} (r : Vals xs us) : us = [] ↔ xs = [] := by
  cases r with
  | nil => simp
  | cons _ _ => simp
theorem op_catT : OpR X (binaryOp .Add) (rCatT X.K) := by
  intro pins s σ H x y v u Q I rx ry h
  obtain ⟨a, b, xs, ys, rfl, rfl, ha, hb, hx, hz, q1, q2⟩ := h
  cases rx
  cases ry
  obtain ⟨its, r1, p1, _⟩ := I.tuple ha
  obtain ⟨its2, r2, p2, _⟩ := I.tuple hb
  refine HT.cat_tup p1 p2 (fun z => hx (r1.nil_iff.mp z)) (fun z => ⟨.ref a, H, I, rfl, q1 (r2.nil_iff.mp z)⟩) (fun z => ?_) (by rw [← r1.length, ← r2.length]; exact hz)
  refine ⟨.ref s.heap.objs.size, _, I.laid (t' := s.toks) (o := .tup (xs ++ ys)) (fun b ob q => Heap.get?_push_of_some _ q) (Nat.le_refl _) ?_, rfl, q2 (fun w => z (r2.nil_iff.mpr w)) _ (I.hok.fresh (Nat.le_refl _))⟩
  exact ⟨by rw [List.length_append]; exact hz, _, r1.append r2, IsTup.new _ _⟩
end
end L2
namespace L2
open PySem PySem.Spec PyProof.Rows
noncomputable def ixN (n : Nat) (i : Int) : Option Nat := if 0 ≤ i then (if i < n then some i.toNat else none) else if -(n : Int) ≤ i then some (i + n).toNat else none
noncomputable def atI {α : Type} (xs : List α) (i : Int) : Option α := (ixN xs.length i).bind fun j => xs[j]?
theorem ixN_seq {n : Nat} {i : Int} {j : Nat} (h : ixN n i = some j) : seqIndex? i n = some j ∧ j < n ∧ -(n : Int) ≤ i ∧ i < n := by
  unfold ixN at h
  by_cases h0 : 0 ≤ i
  · rw [if_pos h0] at h
    by_cases h1 : i < n
    · rw [if_pos h1] at h
      have e : i.toNat = j := Option.some.inj h
      exact ⟨by rw [seqIndex_of h0 h1, e], by omega, by omega, h1⟩
    · rw [if_neg h1] at h; cases h
  · rw [if_neg h0] at h
    by_cases h1 : -(n : Int) ≤ i
    · rw [if_pos h1] at h
      have e : (i + n).toNat = j := Option.some.inj h
      exact ⟨by rw [seqIndex_neg (by omega) h1, e], by omega, h1, by omega⟩
    · rw [if_neg h1] at h; cases h
theorem atI_get {α : Type} {xs : List α} {i : Int} {v : α} (h : atI xs i = some v) : ∃ j, seqIndex? i xs.length = some j ∧ xs[j]? = some v ∧ j < xs.length ∧ -(xs.length : Int) ≤ i ∧ i < xs.length := by
  unfold atI at h
  cases e : ixN xs.length i with
  | none => rw [e] at h; cases h
  | some j =>
    rw [e] at h
    obtain ⟨h1, h2, h3, h4⟩ := ixN_seq e
    exact ⟨j, h1, h, h2, h3, h4⟩
theorem atI_nat {α : Type} {xs : List α} {j : Nat} {v : α} (h : xs[j]? = some v) : atI xs (j : Int) = some v := by
  have hj : j < xs.length := (List.getElem?_eq_some_iff.mp h).1
  have e : ixN xs.length (j : Int) = some j := by
    unfold ixN
    rw [if_pos (by omega), if_pos (by omega)]; simp
  unfold atI; rw [e]; exact h
noncomputable def PlainIx (b : Expr) : Prop := ∀ o i, subscripted b false o i = operate [o, i] (getItem o i)
noncomputable def IxR (X : Cx) (r : R2) : Prop :=
  ∀ (value slice : Expr) (pins : List (Addr × Obj)) (s : Shared) (σ : St) (H : Hp) (x y : V) (v u : Value) (Q : VK), Inv X pins σ H s → RelV x v → RelV y u → r x y H Q →
    subscripted slice false v u = operate [v, u] (getItem v u) → wpAny (model X.prog X.w) X.A (subscriptTail value slice v u) (EP X pins σ Q) X.xe s
noncomputable def MtR (X : Cx) (id : String) (r : V → List V → Hp → VK → Prop) : Prop :=
  ∀ (pins : List (Addr × Obj)) (s : Shared) (σ : St) (H : Hp) (x : V) (xs : List V) (v : Value) (us : List Value) (Q : VK), Inv X pins σ H s → RelV x v → Vals xs us → r x xs H Q →
    wpAny (model X.prog X.w) X.A (call (.builtin id) (v :: us)) (EP X pins σ Q) X.xe s
section
variable {X : Cx} {a b : Expr} {ta tb : TE} {pos : Pos}
theorem pe_ix {r : R2} (hr : IxR X r) (ha : PE X a ta) (hb : PE X b tb) (hs : PlainIx b) : PE X (.Subscript a b pos) (tOp r ta tb) := by
  intro pins s σ H Q I h
  exact Subscript_ (binT ha hb I h fun v u s2 x y H2 I2 rx ry q => hr a b pins s2 σ H2 x y v u Q I2 rx ry q (hs _ _))
noncomputable def rIxL (K : PySem.W.Frag) : R2 := fun x y H Q => ∃ p xs i v, x = .ref p ∧ y = .int i ∧ SqL K H p xs ∧ atI xs i = some v ∧ Q v H
noncomputable def rIxT (K : PySem.W.Frag) : R2 := fun x y H Q => ∃ p xs i v, x = .ref p ∧ y = .int i ∧ SqT K H p xs ∧ atI xs i = some v ∧ Q v H
theorem ix_list : IxR X (rIxL X.K) := by
  intro value slice pins s σ H x y v u Q I rx ry h hs
  obtain ⟨p, xs, i, z, rfl, rfl, hq, he, q⟩ := h
  cases rx
  obtain ⟨t, rfl⟩ := ry
  obtain ⟨its, r, pl, hz⟩ := I.list hq
  obtain ⟨j, h1, h2, h3, h4, h5⟩ := atI_get he
  obtain ⟨w, ew, rw'⟩ := r.get h2
  have hl := r.length
  have hn := line63
  have fin : EP X pins σ Q w s := ⟨z, H, I, rw', q⟩
  by_cases h0 : 0 ≤ i
  · have hj : i.toNat = j := by
      rw [seqIndex_of h0 h5] at h1
      exact Option.some.inj h1
    exact item_listR pl.isList h0 (by omega) (by rw [hj]; simpa using ew) fin hs
  · have hj : (i + (its.toArray.size : Int)).toNat = j := by
      rw [seqIndex_neg (by omega) h4] at h1
      rw [List.size_toArray, ← hl]
      exact Option.some.inj h1
    exact subscriptTail_builtinR (x := w) pl.isList.typeIs slot_list_getitem.lookup
      (wpAny_getItem_list_neg (Q := fun r s' => r = w ∧ EP X pins σ Q r s') pl.isList (by omega) (by rw [List.size_toArray] <;> omega) (by omega) (by rw [hj]; simpa using ew) ⟨rfl, fin⟩) hs
theorem ix_tup : IxR X (rIxT X.K) := by
  intro value slice pins s σ H x y v u Q I rx ry h hs
  obtain ⟨p, xs, i, z, rfl, rfl, hq, he, q⟩ := h
  cases rx
  obtain ⟨t, rfl⟩ := ry
  obtain ⟨its, r, pl, hz⟩ := I.tuple hq
  obtain ⟨j, h1, h2, h3, h4, h5⟩ := atI_get he
  obtain ⟨w, ew, rw'⟩ := r.get h2
  have hl := r.length
  have hn := line63
  have fin : EP X pins σ Q w s := ⟨z, H, I, rw', q⟩
  exact subscriptTail_builtinR (x := w) pl.typeIs slot_tuple_getitem.lookup
    (getItem_tuple (j := j) (Q := fun r s' => r = w ∧ EP X pins σ Q r s') pl (by omega) (by omega) (by rw [List.size_toArray, ← hl]; exact h1) (by simpa using ew) ⟨rfl, fin⟩) hs
theorem mapSeq_set (its : List Value) (n j : Nat) (u : Value) : Obj.mapSeq (·.setIfInBounds j u) { cls := .type "list", data := .seq its.toArray n } = { cls := .type "list", data := .seq (its.set j u).toArray n } := by
  simp [Obj.mapSeq]
theorem Inv.lst {pins : List (Addr × Obj)} {σ : St} {H : Hp} {s : Shared} {p : Addr} {xs : List V} (I : Inv X pins σ H s) (h : H p = some (.lst xs)) :
    ∃ (its : List Value) (n : Nat), Vals xs its ∧ s.heap.get? p = some { cls := .type "list", data := .seq its.toArray n } ∧ xs.length ≤ sizeLine := by
  obtain ⟨z, its, n, r, e⟩ := I.hok p _ h
  exact ⟨its, n, r, e, z⟩
theorem Inv.lstUpd {pins : List (Addr × Obj)} {σ : St} {H : Hp} {s : Shared} {p : Addr} {xs ys : List V} {its its' : List Value} {n n' : Nat} {f : Obj → Obj} (I : Inv X pins σ H s) (h : H p = some (.lst xs))
    (ho : s.heap.get? p = some { cls := .type "list", data := .seq its.toArray n }) (hf : f { cls := .type "list", data := .seq its.toArray n } = { cls := .type "list", data := .seq its'.toArray n' }) (r : Vals ys its') (hz : ys.length ≤ sizeLine) (t : Nat) :
    Inv X pins σ (upd H p (.lst ys)) { s with heap := s.heap.update p f, toks := t } := by
  have e : (s.heap.update p f).get? p = some { cls := .type "list", data := .seq its'.toArray n' } := by
    rw [Heap.get?_update_self f ho (by rw [hf] <;> rfl), hf]
  refine I.write (x := p) (e := p) (by rw [h]; trivial) (.inl rfl) (fun b u hb q => (Heap.get?_update_other _ _ (Ne.symm hb)).trans q) ⟨_, e⟩ ?_
  exact ⟨hz, its', n', r, e⟩
noncomputable def rSetL : V → V → V → Hp → (Hp → Prop) → Prop := fun o i v H Q => ∃ p xs k j, o = .ref p ∧ i = .int k ∧ H p = some (.lst xs) ∧ ixN xs.length k = some j ∧ Q (upd H p (.lst (xs.set j v)))
theorem set_list : PSet X rSetL := by
  intro pins s σ H o i v ov iv u Q I ro ri rv h
  obtain ⟨p, xs, k, j, rfl, rfl, hp, hj, q⟩ := h
  cases ro
  obtain ⟨t, rfl⟩ := ri
  obtain ⟨its, n, r, ho, hz⟩ := I.lst hp
  obtain ⟨h1, h2, h3, h4⟩ := ixN_seq hj
  have hl := r.length
  have hn := line63
  have I' : Inv X pins σ (upd H p (.lst (xs.set j v))) { s with heap := s.heap.update p (Obj.mapSeq (·.setIfInBounds j u)) } :=
    I.lstUpd hp ho (mapSeq_set its n j u) (r.set rv j) (by rw [List.length_set]; exact hz) s.toks
  by_cases h0 : 0 ≤ k
  · have hk : k.toNat = j := by
      rw [seqIndex_of h0 h4] at h1
      exact Option.some.inj h1
    exact PySem.W.ki_setAt ho h0 (by omega) (by rw [List.size_toArray, ← hl]; exact h4) (by rw [hk]; exact ⟨_, I', q⟩)
  · have hk : (k + (its.toArray.size : Int)).toNat = j := by
      rw [seqIndex_neg (by omega) h3] at h1
      rw [List.size_toArray, ← hl]
      exact Option.some.inj h1
    exact PySem.W.ki_setBack ho (by omega) (by rw [List.size_toArray, ← hl]; exact h3) (by omega) (by rw [hk]; exact ⟨_, I', q⟩)
noncomputable def flatV : V → Bool
  | .non => true
  | .bl _ => true
  | .int _ => true
  | .str _ => true
  | _ => false
noncomputable def eqV : V → V → Bool
  | .non, .non => true
  | .bl a, .bl b => a == b
  | .bl a, .int b => (if a then 1 else 0) == b
  | .int a, .bl b => a == (if b then 1 else 0)
  | .int a, .int b => a == b
  | .str a, .str b => a == b
  | _, _ => false
theorem eqAt_V {A : Around} {s : Shared} {y x : V} {u v : Value} (ry : RelV y u) (rx : RelV x v) (fy : flatV y = true) (fx : flatV x = true) : SeqAt.EqAt A s u v (eqV y x) := by
  cases y with
  | non =>
    cases ry
    cases x with
    | non => cases rx; exact SeqAt.EqAt.same _
    | bl b => cases rx; exact SeqAt.EqAt.none_bool b
    | int b => obtain ⟨t, rfl⟩ := rx; exact SeqAt.EqAt.none_int b t
    | str b => obtain ⟨t, rfl⟩ := rx; exact SeqAt.EqAt.none_str b t
    | _ => exact absurd (show false = true from fx) Bool.false_ne_true
  | bl a =>
    cases ry
    cases x with
    | non => cases rx; exact SeqAt.EqAt.bool_none a
    | bl b => cases rx; exact SeqAt.EqAt.bool_bool a b
    | int b => obtain ⟨t, rfl⟩ := rx; exact SeqAt.EqAt.bool_int a b t
    | str b => obtain ⟨t, rfl⟩ := rx; exact SeqAt.EqAt.bool_str a b t
    | _ => exact absurd (show false = true from fx) Bool.false_ne_true
  | int a =>
    obtain ⟨t', rfl⟩ := ry
    cases x with
    | non => cases rx; exact SeqAt.EqAt.int_none a t'
    | bl b => cases rx; exact SeqAt.EqAt.int_bool a t' b
    | int b => obtain ⟨t, rfl⟩ := rx; exact SeqAt.EqAt.int_int a t' b t
    | str b => obtain ⟨t, rfl⟩ := rx; exact SeqAt.EqAt.int_str a t' b t
    | _ => exact absurd (show false = true from fx) Bool.false_ne_true
  | str a =>
    obtain ⟨t', rfl⟩ := ry
    cases x with
    | non => cases rx; exact SeqAt.EqAt.str_none a t'
    | bl b => cases rx; exact SeqAt.EqAt.str_bool a t' b
    | int b => obtain ⟨t, rfl⟩ := rx; exact SeqAt.EqAt.str_int a t' b t
    | str b => obtain ⟨t, rfl⟩ := rx; exact SeqAt.EqAt.str_str a t' b t
    | _ => exact absurd (show false = true from fx) Bool.false_ne_true
  | _ => exact absurd (show false = true from fy) Bool.false_ne_true
theorem call_len_seq : CallR X (.builtin "len") (fun xs H Q => ∃ p ys, xs = [.ref p] ∧ (SqL X.K H p ys ∨ SqT X.K H p ys) ∧ Q (.int ys.length) H) := by
  intro pins s σ H xs us Q I r h
  obtain ⟨p, ys, rfl, hq, q⟩ := h
  obtain ⟨u, rfl, rx⟩ := vals1 r
  cases rx
  have hn := line63
  rcases hq with hq | hq
  · obtain ⟨its, r', pl, hz⟩ := I.list hq
    have hlen := r'.length
    exact Calls.call_len_list pl.isList (by simp only [List.size_toArray] <;> omega) ⟨.int ys.length, H, I.tok _, ⟨s.toks + 1, by rw [List.size_toArray, hlen]⟩, q⟩
  · obtain ⟨its, r', pl, hz⟩ := I.tuple hq
    have hlen := r'.length
    exact len_tuple pl (by simp only [List.size_toArray] <;> omega) ⟨.int ys.length, H, I.tok _, ⟨s.toks + 1, by rw [List.size_toArray, hlen]⟩, q⟩
theorem call_tuple_of : CallR X (.type "tuple") (fun xs H Q => ∃ p ys, xs = [.ref p] ∧ ((SqL X.K H p ys ∧ ∀ l, H l = none → Q (.ref l) (upd H l (.tup ys))) ∨ (SqT X.K H p ys ∧ Q (.ref p) H))) := by
  intro pins s σ H xs us Q I r h
  obtain ⟨p, ys, rfl, h⟩ := h
  obtain ⟨u, rfl, rx⟩ := vals1 r
  cases rx
  rcases h with ⟨hq, q⟩ | ⟨hq, q⟩
  · obtain ⟨its, r', pl, hz⟩ := I.list hq
    have hlen := r'.length
    refine call_tuple_list pl.isList (fun h' kp => ?_) (by simp only [List.size_toArray] <;> omega)
    have I1 : Inv X pins σ H { s with heap := h' } := I.kept (t' := s.toks) kp
    have I2 : Inv X pins σ (upd H h'.objs.size (.tup ys)) { s with heap := h'.push { cls := .type "tuple", data := .seq its.toArray } } :=
      I1.laid (t' := s.toks) (fun b o e => Heap.get?_push_of_some _ e) (Nat.le_refl _) (show ObjOk X.prog X.w _ _ _ (.tup ys) from ⟨hz, its, r', IsTup.new _ _⟩)
    exact ⟨.ref h'.objs.size, _, I2, rfl, q _ (I1.hok.fresh (Nat.le_refl _))⟩
  · obtain ⟨its, r', pl, hz⟩ := I.tuple hq
    exact call_tuple_same pl ⟨.ref p, H, I, rfl, q⟩
noncomputable def tyV (K : PySem.W.Frag) (T : String) (x : V) (H : Hp) : Prop := match x with
  | .str _ => T = "str"
  | .int _ => T = "int"
  | .ref p => (T = "list" ∧ ∃ xs, SqL K H p xs) ∨ (T = "tuple" ∧ ∃ o, K.lookup p = some o ∧ o.cls = .type "tuple" ∧ o.dict = none) ∨
      (T = "dict" ∧ ((∃ kvs, H p = some (.dK kvs)) ∨ ∃ kvs, H p = some (.dT kvs))) ∨ (T = "set" ∧ ∃ S n, H p = some (.set S n))
  | _ => False
theorem tyV_is {pins : List (Addr × Obj)} {σ : St} {H : Hp} {s : Shared} {T : String} {x : V} {v : Value} (I : Inv X pins σ H s) (r : RelV x v) (ty : tyV X.K T x H) :
    s.TypeIs v T ∧ ∀ a, v = .ref a → ∃ ob, s.heap.get? a = some ob ∧ ob.dict = none := by
  cases x with
  | str z =>
    obtain ⟨t, rfl⟩ := r
    cases (show T = "str" from ty)
    exact ⟨typeIs_str s z t, fun _ e => nomatch e⟩
  | int i =>
    obtain ⟨t, rfl⟩ := r
    cases (show T = "int" from ty)
    exact ⟨typeIs_int s i t, fun _ e => nomatch e⟩
  | ref p =>
    cases r
    rcases ty with ⟨rfl, xs, hq⟩ | ⟨rfl, o, hk, hc, hd⟩ | ⟨rfl, hk⟩ | ⟨rfl, S, n, hk⟩
    · obtain ⟨its, _, pl, _⟩ := I.list hq
      refine ⟨pl.isList.typeIs, fun a e => ?_⟩
      cases e
      obtain ⟨o, n, e, c, hd, _⟩ := pl
      exact ⟨o, e, hd⟩
    · refine ⟨⟨o, I.kIn p o hk, hc⟩, fun a e => ?_⟩
      cases e
      exact ⟨o, I.kIn _ o hk, hd⟩
    · have z : ∃ o, s.heap.get? p = some o ∧ o.ExactDict := by
        rcases hk with ⟨kvs, hk⟩ | ⟨kvs, hk⟩
        · obtain ⟨_, _, _, _, o, _, _, e, ex, _⟩ := I.hok p _ hk
          exact ⟨o, e, ex⟩
        · obtain ⟨_, _, _, _, o, _, _, e, ex, _⟩ := I.hok p _ hk
          exact ⟨o, e, ex⟩
      obtain ⟨o, e, ex⟩ := z
      refine ⟨⟨o, e, ex.1⟩, fun a e2 => ?_⟩
      cases e2
      exact ⟨o, e, ex.2.1⟩
    · obtain ⟨o, _, _, _, e, ex, _⟩ := I.hok p _ hk
      refine ⟨⟨o, e, ex.1⟩, fun a e2 => ?_⟩
      cases e2
      exact ⟨o, e, ex.2.1⟩
  | _ => exact False.elim ty
noncomputable def tBM (K : PySem.W.Frag) (T : String) (r : V → List V → Hp → VK → Prop) (to : TE) (t : TA) : TE := fun σ H Q => to σ H fun x H1 => tyV K T x H1 ∧ t σ H1 fun xs H2 => r x xs H2 Q
variable {o e : Expr} {es : List Expr} {to : TE} {t : TA} {name : Str} {apos cpos : Pos} {T id : String} {r : V → List V → Hp → VK → Prop}
theorem pe_bm (pa : PlainAttrs T) (slot : Slot T name id) (hty : typeOf (.builtin id) = pure (.type "method_descriptor")) (hm : MtR X id r) (ho : PE X o to) (ha : PA X (e :: es) t)
    (hbase : attributeBase o name X.env (eval o X.env) = eval o X.env := by rfl)
    (hfew : ((backTo cpos (starEach (e :: es) X.env)).all (fun x => !x.1) && (backToKw cpos (keywordEach [] X.env)).all (fun x => x.1.isSome)
      && decide ((e :: es).length + ([] : List Keyword).length + (if ([] : List Keyword).isEmpty then 0 else 1) < 30)) = true := by rfl)
    (hline : (apos.endLine == cpos.line) = true := by rfl) (hs : starEach (e :: es) X.env = (false, eval e X.env) :: starEach es X.env := by rfl) (hplain : (backTo cpos (starEach es X.env)).any (·.1) = false := by rfl) :
    PE X (.Call (.Attribute o name apos) (e :: es) [] cpos) (tBM X.K T r to t) := by
  intro pins s σ H Q I h
  refine wpAny_Call_method_late hbase hfew hline rfl (thn (ho pins s σ H _ I h) fun v s1 hpt => ?_)
  obtain ⟨x, H1, I1, r1, ty, q1⟩ := hpt
  obtain ⟨h1, h2⟩ := tyV_is I1 r1 ty
  refine ⟨T, id, pa, slot, hty, h1, h2, ?_⟩
  have hA := ha cpos pins s1 σ H1 _ I1 q1
  rw [hs] at hA ⊢
  refine Calls.callWith_builtin (by show (false || (backTo cpos (starEach es X.env)).any (·.1)) = false; rw [hplain] <;> rfl) (Calls.evalArgs_plain ?_)
  exact thn hA fun us s2 ⟨vs, H2, I2, r2, q2⟩ => hm pins s2 σ H2 x vs v us Q I2 r1 r2 q2
end
end L2
namespace L2
open PySem PySem.Spec PyProof.Rows
noncomputable def MtM (X : Cx) (id : String) (r : V → List V → Hp → VK → Prop) : Prop :=
  ∀ (pins : List (Addr × Obj)) (s : Shared) (σ : St) (H : Hp) (x : V) (xs : List V) (v : Value) (us : List Value) (Q : VK), Inv X pins σ H s → RelV x v → Vals xs us → r x xs H Q →
    wpAny (model X.prog X.w) X.A (call (.builtin id) (v :: us)) (EP X pins σ Q) X.xe s
theorem Vals.one : ∀ {x : V} {us : List Value}, Vals [x] us → ∃ u, us = [u] ∧ RelV x u
  | _, _, .cons r .nil => ⟨_, rfl, r⟩
theorem Vals.eraseIdx : ∀ {xs : List V} {us : List Value} (i : Nat), Vals xs us → Vals (xs.eraseIdx i) (us.eraseIdx i)
  | _, _, _, .nil => .nil
  | _, _, 0, .cons _ t => t
  | _, _, i + 1, .cons r t => .cons r (Vals.eraseIdx i t)
theorem len_erase {α : Type} : ∀ (l : List α) (i : Nat), (l.eraseIdx i).length ≤ l.length
  | [], _ => Nat.le_refl _
  | _ :: _, 0 => Nat.le_succ _
  | _ :: r, i + 1 => Nat.succ_le_succ (len_erase r i)
section
variable {X : Cx} {pins : List (Addr × Obj)} {σ : St} {H : Hp} {s : Shared} {l b : Addr} {xs ys zs : List V}
theorem Inv.lset {its its' : List Value} {n : Nat} {f : Array Value → Array Value} {t' : Nat} (I : Inv X pins σ H s) (hH : H l = some (.lst xs))
    (e : s.heap.get? l = some { cls := .type "list", data := .seq its.toArray n }) (hf : f its.toArray = its'.toArray) (hv : Vals ys its') (hz : ys.length ≤ sizeLine) :
    Inv X pins σ (upd H l (.lst ys)) { s with heap := s.heap.update l (Obj.mapSeq f), toks := t' } := by
  have q := PySem.IsL.update e f
  rw [hf] at q
  refine I.write (x := l) (e := l) (by rw [hH]; exact trivial) (.inl rfl) (fun b' u hb hu => (Heap.get?_update_other s.heap (Obj.mapSeq f) (Ne.symm hb)).trans hu) ⟨_, q⟩ ?_
  exact ⟨hz, its', _, hv, q⟩
theorem Inv.lnew {its : List Value} {t' : Nat} (I : Inv X pins σ H s) (hv : Vals ys its) (hz : ys.length ≤ sizeLine) :
    Inv X pins σ (upd H s.heap.objs.size (.lst ys)) { s with heap := s.heap.push { cls := .type "list", data := .seq its.toArray }, toks := t' } :=
  I.laid (fun _ _ q => Heap.get?_push_of_some _ q) (Nat.le_refl _) ⟨hz, its, 0, hv, Heap.get?_push_size _ rfl⟩
theorem Inv.fresh (I : Inv X pins σ H s) : H s.heap.objs.size = none := I.hok.fresh (Nat.le_refl _)
theorem Inv.lstM (I : Inv X pins σ H s) (hH : H l = some (.lst xs)) : xs.length ≤ sizeLine ∧ ∃ (its : List Value) (n : Nat), Vals xs its ∧ xs.length = its.length ∧ s.heap.get? l = some { cls := .type "list", data := .seq its.toArray n } := by
  obtain ⟨z, its, n, r, e⟩ := I.hok l _ hH
  exact ⟨z, its, n, r, r.length, e⟩
end
section
variable {X : Cx}
noncomputable def rAppend : V → List V → Hp → VK → Prop := fun x vs H Q => ∃ l xs y, x = .ref l ∧ vs = [y] ∧ H l = some (.lst xs) ∧ xs.length < sizeLine ∧ Q .non (upd H l (.lst (xs ++ [y])))
theorem mt_append : MtM X "list.append" rAppend := by
  intro pins s σ H x vs v us Q I rx rv h
  obtain ⟨l, xs, y, rfl, rfl, hH, hz, q⟩ := h
  cases rx
  obtain ⟨u, rfl, ru⟩ := rv.one
  obtain ⟨z, its, n, r, hl, e⟩ := I.lstM hH
  refine call_meets F.slot_list_append ⟨_, e, rfl⟩ F.entry_list_append (F.args_list_append_2 _ _) (PySem.list_append l its.toArray n u (by rw [List.size_toArray]; omega)) ⟨e, ?_⟩
  refine ⟨.non, _, I.lset (its' := its ++ [u]) hH e (by simp) (r.append (.cons ru .nil)) ?_, rfl, q⟩
  rw [List.length_append, List.length_singleton]
  omega
noncomputable def rPopAt : V → List V → Hp → VK → Prop := fun x vs H Q => ∃ l xs i k y, x = .ref l ∧ vs = [.int i] ∧ H l = some (.lst xs) ∧ -(2 ^ 63) ≤ i ∧ i < 2 ^ 63 ∧ seqIndex? i xs.length = some k ∧ xs[k]? = some y ∧ Q y (upd H l (.lst (xs.eraseIdx k)))
theorem mt_popAt : MtM X "list.pop" rPopAt := by
  intro pins s σ H x vs v us Q I rx rv h
  obtain ⟨l, xs, i, k, y, rfl, rfl, hH, h1, h2, hk, hy, q⟩ := h
  cases rx
  obtain ⟨u, rfl, ru⟩ := rv.one
  obtain ⟨t, rfl⟩ := ru
  obtain ⟨z, its, n, r, hl, e⟩ := I.lstM hH
  obtain ⟨w, hw, rw'⟩ := r.get hy
  refine call_meets F.slot_list_pop ⟨_, e, rfl⟩ F.entry_list_pop (F.args_list_pop_2 _ _)
    (MeetsSeq.list_pop_at l its.toArray n i t k w (fitsIndex_both h1 h2) (by rw [List.size_toArray, ← hl]; exact hk) (by rw [← Array.getElem?_toList]; exact hw) (by rw [List.size_toArray]; omega)) ⟨e, ?_⟩
  refine ⟨y, _, I.lset (its' := its.eraseIdx k) hH e ?_ (r.eraseIdx k) ?_, rw', q⟩
  · show its.toArray.eraseIdxIfInBounds k = (its.eraseIdx k).toArray
    rw [List.eraseIdxIfInBounds_toArray]
  · have := len_erase xs k
    omega
noncomputable def rCat : R2 := fun x y H Q => ∃ l b xs zs, x = .ref l ∧ y = .ref b ∧ H l = some (.lst xs) ∧ H b = some (.lst zs) ∧ xs.length + zs.length ≤ sizeLine ∧ ∀ p, H p = none → Q (.ref p) (upd H p (.lst (xs ++ zs)))
theorem op_cat : OpR X (binaryOp .Add) rCat := by
  intro pins s σ H x y v u Q I rx ry h
  obtain ⟨l, b, xs, zs, rfl, rfl, hH, hB, hz, q⟩ := h
  cases rx
  cases ry
  obtain ⟨z, its, n, r, hl, e⟩ := I.lstM hH
  obtain ⟨z2, its2, n2, r2, hl2, e2⟩ := I.lstM hB
  refine PySem.P.add_list e e2 ?_ (by rw [List.size_toArray, List.size_toArray]; omega)
  have ea : its.toArray ++ its2.toArray = (its ++ its2).toArray := by simp
  rw [ea]
  exact ⟨.ref _, _, I.lnew (t' := s.toks) (r.append r2) (by rw [List.length_append]; omega), rfl, q _ I.fresh⟩
end
section
variable {prog : Program} {w : World} {A : Around} {E : Value → Shared → Prop} {s : Shared}
end
section
variable {X : Cx}
end
end L2
set_option Elab.async false
set_option linter.all false
set_option maxRecDepth 100000
namespace L2
open PySem PySem.Spec PyProof.Rows
section
variable {κ : Type} [DecidableEq κ]
noncomputable def valV (kvs : List (κ × V)) (k : κ) : Option V := (kvs.find? fun kv => decide (kv.1 = k)).map (·.2)
noncomputable def putK (kvs : List (κ × V)) (k : κ) (v : V) : List (κ × V) :=
  if (kvs.any fun kv => decide (kv.1 = k)) = true then kvs.map (fun kv => if kv.1 = k then (kv.1, v) else kv) else kvs ++ [(k, v)]
theorem valV_pos {p : κ × V} {r : List (κ × V)} {k : κ} (e : p.1 = k) : valV (p :: r) k = some p.2 := by simp [valV, List.find?_cons, e]
theorem valV_neg {p : κ × V} {r : List (κ × V)} {k : κ} (e : ¬ p.1 = k) : valV (p :: r) k = valV r k := by simp [valV, List.find?_cons, e]
theorem valV_any (k : κ) : ∀ kvs : List (κ × V), (kvs.any fun kv => decide (kv.1 = k)) = (valV kvs k).isSome
  | [] => rfl
  | p :: r => by
    rw [List.any_cons]
    by_cases e : p.1 = k
    · simp only [valV_pos e, decide_eq_true e, Bool.true_or, Option.isSome_some]
    · rw [valV_neg e, decide_eq_false e, Bool.false_or]; exact valV_any k r
theorem length_putK (kvs : List (κ × V)) (k : κ) (v : V) : (putK kvs k v).length ≤ kvs.length + 1 := by
  unfold putK
  split
  · rw [List.length_map]; omega
  · rw [List.length_append, List.length_cons, List.length_nil]; omega
theorem RelO.isSome_eq {o : Option V} {u : Option Value} (r : RelO o u) : o.isSome = u.isSome := by
  cases o with
  | none => cases u with
    | none => rfl
    | some _ => exact (show False from r).elim
  | some _ => cases u with
    | none => exact (show False from r).elim
    | some _ => rfl
theorem RelO.getD {o : Option V} {u : Option Value} {d : V} {d' : Value} (r : RelO o u) (rd : RelV d d') : RelV (o.getD d) (u.getD d') := by
  cases o with
  | none => cases u with
    | none => exact rd
    | some _ => exact (show False from r).elim
  | some _ => cases u with
    | none => exact (show False from r).elim
    | some _ => exact r
theorem KV.val {kvs : List (κ × V)} {vs : List (κ × Value)} (r : KV kvs vs) (k : κ) : RelO (valV kvs k) (valueAt vs k) := by
  unfold KV at r
  induction r with
  | nil => exact True.intro
  | @cons p q ps qs h t ih =>
    obtain ⟨h1, h2⟩ := h
    by_cases e : p.1 = k
    · have e' : q.1 = k := h1.symm.trans e
      have b : valueAt (q :: qs) k = some q.2 := by simp [valueAt, List.find?_cons, e']
      rw [valV_pos e, b]; exact h2
    · have e' : ¬ q.1 = k := fun z => e (h1.trans z)
      have b : valueAt (q :: qs) k = valueAt qs k := by simp [valueAt, List.find?_cons, e']
      rw [valV_neg e, b]; exact ih
theorem KV.any {kvs : List (κ × V)} {vs : List (κ × Value)} (r : KV kvs vs) (k : κ) : (kvs.any fun kv => decide (kv.1 = k)) = vs.any fun kv => decide (kv.1 = k) := by
  unfold KV at r
  induction r with
  | nil => rfl
  | cons h t ih => rw [List.any_cons, List.any_cons, ih, h.1]
theorem KV.repl {kvs : List (κ × V)} {vs : List (κ × Value)} (r : KV kvs vs) (k : κ) {y : V} {u : Value} (ry : RelV y u) :
    KV (kvs.map fun kv => if kv.1 = k then (kv.1, y) else kv) (vs.map fun kv => if kv.1 = k then (kv.1, u) else kv) := by
  unfold KV at r ⊢
  induction r with
  | nil => exact .nil
  | @cons p q ps qs h t ih =>
    rw [List.map_cons, List.map_cons]
    refine .cons ?_ ih
    obtain ⟨h1, h2⟩ := h
    by_cases e : p.1 = k
    · rw [if_pos e, if_pos (h1.symm.trans e)]; exact ⟨h1, ry⟩
    · rw [if_neg e, if_neg (fun z => e (h1.trans z))]; exact ⟨h1, h2⟩
theorem KV.put {kvs : List (κ × V)} {vs : List (κ × Value)} (r : KV kvs vs) (k : κ) {y : V} {u : Value} (ry : RelV y u) : KV (putK kvs k y) (stored vs k u) := by
  unfold putK stored
  rw [r.any k]
  by_cases e : (vs.any fun kv => decide (kv.1 = k)) = true
  · rw [if_pos e, if_pos e]; exact r.repl k ry
  · rw [if_neg e, if_neg e]; exact Paired.snoc r ⟨rfl, ry⟩
theorem KV.length {kvs : List (κ × V)} {vs : List (κ × Value)} (r : KV kvs vs) : kvs.length = vs.length := Paired.length r
end
theorem kV_is {P : Program} {w : World} {k : Key} {u : Value} (r : RelV (kV k) u) : (mixKind P w).is k u = true := by
  cases k with
  | inl i => obtain ⟨t, e⟩ := (show ∃ t, u = Value.int i t from r); subst e; exact mixKind_int P w i t
  | inr x => obtain ⟨t, e⟩ := (show ∃ t, u = Value.str x t from r); subst e; exact mixKind_str P w x t
theorem kV_inj {a b : Key} (e : kV a = kV b) : a = b := by
  cases a with
  | inl i => cases b with
    | inl j => have e' : V.int i = V.int j := e; injection e' with e'; rw [e']
    | inr y => exact nomatch (show V.int i = V.str y from e)
  | inr x => cases b with
    | inl j => exact nomatch (show V.str x = V.int j from e)
    | inr y => have e' : V.str x = V.str y := e; injection e' with e'; rw [e']
theorem kVs_inj : ∀ {a b : List Key}, a.map kV = b.map kV → a = b
  | [], [], _ => rfl
  | [], _ :: _, e => by simp at e
  | _ :: _, [], e => by simp at e
  | x :: xs, y :: ys, e => by
    rw [List.map_cons, List.map_cons] at e
    injection e with e1 e2
    rw [kV_inj e1, kVs_inj e2]
theorem items_are {P : Program} {w : World} : ∀ {ks : List Key} {us : List Value}, Vals (ks.map kV) us → ItemsAre (mixKind P w) ks us
  | [], _, r => by rw [List.map_nil] at r; cases r; exact .nil
  | k :: ks, _, r => by
    rw [List.map_cons] at r
    cases r with
    | cons h t => exact .cons (kV_is h) (items_are t)
noncomputable abbrev KT (H : Hp) : List (List Key × V) → List (List Key × Addr × Value) → Prop := Paired fun p q => p.1 = q.1 ∧ H q.2.1 = some (.tup (p.1.map kV)) ∧ RelV p.2 q.2.2
theorem KT.val {H : Hp} {kvs : List (List Key × V)} {xs : List (List Key × Addr × Value)} (r : KT H kvs xs) (k : List Key) : RelO (valV kvs k) ((atKey xs k).map (·.2)) := by
  induction r with
  | nil => exact True.intro
  | @cons p q ps qs h t ih =>
    obtain ⟨h1, _, h2⟩ := h
    by_cases e : p.1 = k
    · have e' : q.1 = k := h1.symm.trans e
      have b : atKey (q :: qs) k = some q.2 := by simp [atKey, List.find?_cons, e']
      rw [valV_pos e, b]; exact h2
    · have e' : ¬ q.1 = k := fun z => e (h1.trans z)
      have b : atKey (q :: qs) k = atKey qs k := by simp [atKey, List.find?_cons, e']
      rw [valV_neg e, b]; exact ih
theorem KT.repl {H : Hp} {kvs : List (List Key × V)} {xs : List (List Key × Addr × Value)} (r : KT H kvs xs) (k : List Key) {y : V} {u : Value} (ry : RelV y u) :
    KT H (kvs.map fun kv => if kv.1 = k then (kv.1, y) else kv) (xs.map (putAt k u)) := by
  induction r with
  | nil => exact .nil
  | @cons p q ps qs h t ih =>
    rw [List.map_cons, List.map_cons]
    refine .cons ?_ ih
    obtain ⟨h1, h2, h3⟩ := h
    unfold putAt
    by_cases e : p.1 = k
    · rw [if_pos e, if_pos (h1.symm.trans e)]; exact ⟨h1, h2, ry⟩
    · rw [if_neg e, if_neg (fun z => e (h1.trans z))]; exact ⟨h1, h2, h3⟩
theorem KT.put {H : Hp} {kvs : List (List Key × V)} {xs : List (List Key × Addr × Value)} (r : KT H kvs xs) (k : List Key) {b : Addr} {y : V} {u : Value} (hb : H b = some (.tup (k.map kV))) (ry : RelV y u) :
    KT H (putK kvs k y) (storedH xs k b u) := by
  have e : (kvs.any fun kv => decide (kv.1 = k)) = (atKey xs k).isSome := by
    rw [valV_any, (r.val k).isSome_eq, Option.isSome_map]
  unfold putK storedH
  rw [e]
  by_cases q : (atKey xs k).isSome = true
  · rw [if_pos q, if_pos q]; exact r.repl k ry
  · rw [if_neg q, if_neg q]; exact Paired.snoc r ⟨rfl, hb, ry⟩
theorem KT.keeps {H H' : Hp} {kvs : List (List Key × V)} {xs : List (List Key × Addr × Value)} (r : KT H kvs xs) (ht : ∀ b ys, H b = some (.tup ys) → H' b = some (.tup ys)) : KT H' kvs xs :=
  Paired.mapP r fun _ _ z => ⟨z.1, ht _ _ z.2.1, z.2.2⟩
section
variable {P : Program} {w : World} {H : Hp} {h : Heap} {a : Addr}
theorem rd_of {u : HO} (ok : HOk P w H h) (e : Rd H a u) : ObjOk P w H h a u := e.ok ok
theorem dk_rd {kvs : List (Key × V)} (ok : HOk P w H h) (e : Rd H a (.dK kvs)) : kvs.length ≤ sizeLine ∧ (a == sysModules) = false ∧ ∃ vs, KV kvs vs ∧ h.DictOf (mixKind P w) a vs :=
  show ObjOk P w H h a (.dK kvs) from rd_of ok e
theorem dk_of {kvs : List (Key × V)} (ok : HOk P w H h) (e : H a = some (.dK kvs)) : kvs.length ≤ sizeLine ∧ (a == sysModules) = false ∧ ∃ vs, KV kvs vs ∧ h.DictOf (mixKind P w) a vs := dk_rd ok (.inl e)
theorem key_of {ks : List Key} (ok : HOk P w H h) (e : H a = some (.tup (ks.map kV))) : (tupleKind (mixKind P w)).is h ks a := by
  obtain ⟨_, its, r, o, h1, h2, n, h3⟩ := (show ObjOk P w H h a (.tup (ks.map kV)) from ok a _ e)
  exact ⟨o, its.toArray, n, h1, h2, h3, by simpa using items_are r⟩
theorem dt_rd {kvs : List (List Key × V)} (ok : HOk P w H h) (e : Rd H a (.dT kvs)) : kvs.length ≤ sizeLine ∧ (a == sysModules) = false ∧
    ∃ xs, KT H kvs xs ∧ h.DictOfH (tupleKind (mixKind P w)) a xs := by
  obtain ⟨z, y, xs, r, o, es, ep, h1, h2, h3, h4, h5⟩ := (show ObjOk P w H h a (.dT kvs) from rd_of ok e)
  refine ⟨z, y, xs, r, o, es, ep, h1, h2, h3, h4, fun x hx => ?_, h5⟩
  have all : ∀ {l : List (List Key × V)} {m : List (List Key × Addr × Value)}, KT H l m → ∀ x ∈ m, (tupleKind (mixKind P w)).is h x.1 x.2.1 := by
    intro l m q
    induction q with
    | nil => intro x hx; exact nomatch hx
    | @cons p q ps qs hq t ih =>
      intro x hx
      rcases List.mem_cons.mp hx with e | hx
      · subst e
        exact key_of ok (by rw [← hq.1]; exact hq.2.1)
      · exact ih x hx
  exact all r x hx
theorem dt_of {kvs : List (List Key × V)} (ok : HOk P w H h) (e : H a = some (.dT kvs)) : kvs.length ≤ sizeLine ∧ (a == sysModules) = false ∧
    ∃ xs, KT H kvs xs ∧ h.DictOfH (tupleKind (mixKind P w)) a xs := dt_rd ok (.inl e)
end
noncomputable def DGet (H : Hp) (a : Addr) (y : V) (r : Option V) : Prop :=
  (∃ kvs k, Rd H a (.dK kvs) ∧ y = kV k ∧ r = valV kvs k) ∨ ∃ kvs k b, Rd H a (.dT kvs) ∧ y = .ref b ∧ H b = some (.tup (k.map kV)) ∧ r = valV kvs k
noncomputable def DPut (H : Hp) (a : Addr) (y v : V) (H' : Hp) : Prop :=
  (∃ kvs k, H a = some (.dK kvs) ∧ y = kV k ∧ kvs.length < sizeLine ∧ H' = upd H a (.dK (putK kvs k v))) ∨
  ∃ kvs k b, H a = some (.dT kvs) ∧ y = .ref b ∧ H b = some (.tup (k.map kV)) ∧ kvs.length < sizeLine ∧ H' = upd H a (.dT (putK kvs k v))
theorem DPut.k {H : Hp} {a : Addr} {kvs : List (Key × V)} {k : Key} {v : V} (e : H a = some (.dK kvs)) (hl : kvs.length < sizeLine) : DPut H a (kV k) v (upd H a (.dK (putK kvs k v))) := .inl ⟨kvs, k, e, rfl, hl, rfl⟩
section
variable {X : Cx} {pins : List (Addr × Obj)} {σ : St} {H : Hp} {s : Shared} {a : Addr} {y v : V} {u r : Value} {o : Option V} {A : Around} {E : Value → Shared → Prop}
theorem Inv.big (I : Inv X pins σ H s) : sysModules < s.heap.objs.size := by
  have h : mainGlobals < s.heap.objs.size := (I.mod.glob.keeps I.bk).lt
  exact Nat.lt_trans (by decide) h
theorem d_getItem {Q : Value → Shared → Prop} (hu : A.units + 1 < cLine) (I : Inv X pins σ H s) (g : DGet H a y (some v)) (ry : RelV y u) (h : ∀ w' s', Inv X pins σ H s' → RelV v w' → Q w' s') :
    wpAny (model X.prog X.w) A (getItem (.ref a) u) Q E s := by
  rcases g with ⟨kvs, k, e, ey, l⟩ | ⟨kvs, k, b, e, ey, eb, l⟩
  · subst ey
    obtain ⟨z, hd, vs, rel, dd⟩ := dk_rd I.hok e
    obtain ⟨w', hw, rw'⟩ := RelO.some_of (v := v) (o := valueAt vs k) (by rw [l]; exact rel.val k)
    exact wpAny_getItem_of (kV_is ry) dd.mapOf hw (h w' _ (I.tok _) rw')
  · subst ey
    cases (show u = Value.ref b from ry)
    obtain ⟨z, hd, xs, rel, dd⟩ := dt_rd I.hok e
    obtain ⟨w', hw, rw'⟩ := RelO.some_of (v := v) (o := (atKey xs k).map (·.2)) (by rw [l]; exact rel.val k)
    obtain ⟨p, hp, hp2⟩ := Option.map_eq_some_iff.mp hw
    refine wpAny_getItem_heap (tupleKind_room_in1 hu) (key_of I.hok eb) dd hp ?_
    rw [hp2]
    exact h w' _ (I.tok _) rw'
theorem d_in {Q : Value → Shared → Prop} (hu : A.units + 1 < cLine) (I : Inv X pins σ H s) (g : DGet H a y o) (ry : RelV y u) (h : ∀ s', Inv X pins σ H s' → Q (.bool o.isSome) s') :
    wpAny (model X.prog X.w) A (compareOp .In u (.ref a)) Q E s := by
  rcases g with ⟨kvs, k, e, ey, l⟩ | ⟨kvs, k, b, e, ey, eb, l⟩
  · subst ey
    obtain ⟨z, hd, vs, rel, dd⟩ := dk_rd I.hok e
    refine wpAny_in_of (kV_is ry) hd dd.mapOf ?_
    rw [← (rel.val k).isSome_eq, ← l]
    exact h _ (I.tok _)
  · subst ey
    cases (show u = Value.ref b from ry)
    obtain ⟨z, hd, xs, rel, dd⟩ := dt_rd I.hok e
    refine wpAny_in_heap (tupleKind_room_in1 hu) (key_of I.hok eb) hd dd ?_
    have q := (rel.val k).isSome_eq
    rw [Option.isSome_map] at q
    rw [← q, ← l]
    exact h _ (I.tok _)
theorem d_notIn {Q : Value → Shared → Prop} (hu : A.units + 1 < cLine) (I : Inv X pins σ H s) (g : DGet H a y o) (ry : RelV y u) (h : ∀ s', Inv X pins σ H s' → Q (.bool (!o.isSome)) s') :
    wpAny (model X.prog X.w) A (compareOp .NotIn u (.ref a)) Q E s := by
  rcases g with ⟨kvs, k, e, ey, l⟩ | ⟨kvs, k, b, e, ey, eb, l⟩
  · subst ey
    obtain ⟨z, hd, vs, rel, dd⟩ := dk_rd I.hok e
    refine wpAny_notIn_of (kV_is ry) hd dd.mapOf ?_
    rw [← (rel.val k).isSome_eq, ← l]
    exact h _ (I.tok _)
  · subst ey
    cases (show u = Value.ref b from ry)
    obtain ⟨z, hd, xs, rel, dd⟩ := dt_rd I.hok e
    refine wpAny_notIn_heap (tupleKind_room_in1 hu) (key_of I.hok eb) hd dd ?_
    have q := (rel.val k).isSome_eq
    rw [Option.isSome_map] at q
    rw [← q, ← l]
    exact h _ (I.tok _)
theorem d_write {h' : Heap} {t' : Nat} {ob : HO} (I : Inv X pins σ H s) (mu : Mut (H a)) (hs : Heap.SameBut a s.heap h') (he : ∃ q, h'.get? a = some q) (new : ObjOk X.prog X.w (upd H a ob) h' a ob) :
    Inv X pins σ (upd H a ob) { s with heap := h', toks := t' } :=
  I.write (x := a) (e := a) mu (.inl rfl) (fun b q hb z => (hs.2 b hb).trans z) he new
theorem dk_new {P : Program} {w : World} {H' : Hp} {h' : Heap} {kvs : List (Key × V)} {vs : List (Key × Value)} (z : kvs.length ≤ sizeLine) (hd : (a == sysModules) = false) (rel : KV kvs vs) (dd : h'.DictOf (mixKind P w) a vs) :
    ObjOk P w H' h' a (.dK kvs) := ⟨z, hd, vs, rel, dd⟩
theorem d_setItem {H' : Hp} {Q : Unit → Shared → Prop} (hu : A.units + 1 < cLine) (I : Inv X pins σ H s) (g : DPut H a y v H') (ry : RelV y u) (rv : RelV v r) (h : ∀ s', Inv X pins σ H' s' → Q () s') :
    wpAny (model X.prog X.w) A (setItem (.ref a) u r) Q E s := by
  rcases g with ⟨kvs, k, e, ey, l, eH⟩ | ⟨kvs, k, b, e, ey, eb, l, eH⟩
  · subst ey eH
    obtain ⟨z, hd, vs, rel, dd⟩ := dk_of I.hok e
    have hz : vs.length ≤ sizeLine := by rw [← rel.length]; exact z
    have hl : (putK kvs k v).length ≤ sizeLine := by have := length_putK kvs k v; omega
    refine wpAny_setItem_pairs (hsz := hz) (kV_is ry) dd fun h' dd' hs => h _ ?_
    have he : ∃ q, h'.get? a = some q := let ⟨q, _, _, hq, _⟩ := dd'; ⟨q, hq⟩
    exact d_write I (by rw [e]; exact True.intro) hs he (dk_new hl hd (rel.put k rv) dd')
  · subst ey eH
    cases (show u = Value.ref b from ry)
    obtain ⟨z, hd, xs, rel, dd⟩ := dt_of I.hok e
    have hz : xs.length ≤ sizeLine := by rw [← Paired.length rel]; exact z
    have hl : (putK kvs k v).length ≤ sizeLine := by have := length_putK kvs k v; omega
    refine wpAny_setItem_heap (hsz := hz) (tupleKind_room_in1 hu) (key_of I.hok eb) dd fun h' dd' hs => h _ ?_
    obtain ⟨q, es, ep, hq, h2, h3, h4, _, h5⟩ := dd'
    refine d_write I (by rw [e]; exact True.intro) hs ⟨q, hq⟩ ⟨hl, hd, _, (rel.put k eb rv).keeps fun c ys ec => ?_, q, es, ep, hq, h2, h3, h4, h5⟩
    rw [upd_ne (ne_of ec e (fun z => nomatch z))]
    exact ec
end
section
variable {X : Cx} {pins : List (Addr × Obj)} {σ : St} {H : Hp} {s : Shared} {a : Addr} {kvs : List (Key × V)} {k : Key} {u : Value} {A : Around} {E : Value → Shared → Prop}
end
noncomputable def NoSl (i : Expr) : Prop := ∀ ov iv, subscripted i false ov iv = operate [ov, iv] (getItem ov iv)
theorem subD_of {prog : Program} {w : World} {A : Around} {E : Value → Shared → Prop} {s : Shared} {env : Env} {value slice : Expr} {pos : Pos} {T id : String} {Q : Value → Shared → Prop}
    (hl : typeLookup (.type T) "__getitem__" = pure (some (.builtin id))) (hs : NoSl slice)
    (h : wpAny (model prog w) A (eval value env) (fun o s₁ => wpAny (model prog w) A (eval slice env) (fun i s₂ => s₂.TypeIs o T ∧ wpAny (model prog w) A (getItem o i) Q E s₂) E s₁) E s) :
    wpAny (model prog w) A (eval (.Subscript value slice pos) env) Q E s := by
  refine Subscript_ (wpAny_mono h (fun o s₁ h₁ => wpAny_mono h₁ (fun i s₂ h₂ => ?_) fun _ _ x => x) fun _ _ x => x)
  obtain ⟨hT, h₂⟩ := h₂
  unfold subscriptTail
  refine wpAny_bind ?_
  rw [getitemInPython_of_ne hT.not_modules]
  refine wpAny_bind (wpAny_specialOf hT hl ?_)
  have fin : wpAny (model prog w) A (subscripted slice false o i) (fun r s₃ => wpAny (model prog w) A (letTemporaryGo value o r >>= fun _ => pure r) Q E s₃) E s₂ := by
    rw [hs o i]
    exact wpAny_operating (wpAny_mono h₂ (fun r s₃ h₃ => wpAny_bind (wpAny_letTemporaryGo (wpAny_pure h₃))) fun _ _ x => x)
  first
    | exact wpAny_pure (wpAny_bind fin)
    | exact wpAny_bind (wpAny_pure (wpAny_bind fin))
    | exact wpAny_bind fin
theorem dict_typeIs {X : Cx} {pins : List (Addr × Obj)} {σ : St} {H : Hp} {s : Shared} {a : Addr} {y : V} {o : Option V} (I : Inv X pins σ H s) (g : DGet H a y o) : s.TypeIs (.ref a) "dict" := by
  rcases g with ⟨kvs, k, e, _, _⟩ | ⟨kvs, k, b, e, _, _, _⟩
  · obtain ⟨_, _, vs, _, dd⟩ := dk_rd I.hok e
    exact dd.typeIs
  · obtain ⟨_, _, xs, _, dd⟩ := dt_rd I.hok e
    exact dd.typeIs
noncomputable def tDGet (td ty : TE) : TE := fun σ H Q => td σ H fun x H1 => ty σ H1 fun y H2 => ∃ a v, x = .ref a ∧ DGet H2 a y (some v) ∧ Q v H2
noncomputable def tDIn (ty td : TE) : TE := fun σ H Q => ty σ H fun y H1 => td σ H1 fun x H2 => ∃ a o, x = .ref a ∧ DGet H2 a y o ∧ Q (.bl o.isSome) H2
noncomputable def tDNotIn (ty td : TE) : TE := fun σ H Q => ty σ H fun y H1 => td σ H1 fun x H2 => ∃ a o, x = .ref a ∧ DGet H2 a y o ∧ Q (.bl (!o.isSome)) H2
noncomputable def sDPut (td ty tv : TE) : TS := fun D σ H => tv σ H fun v H1 => td σ H1 fun x H2 => ty σ H2 fun y H3 => ∃ a H4, x = .ref a ∧ DPut H3 a y v H4 ∧ D.nx σ H4
section
variable {X : Cx} {o i e value : Expr} {pos pos' tpos : Pos} {td ty tv : TE}
theorem pe_dget (hu : X.A.units + 1 < cLine) (ho : PE X o td) (hi : PE X i ty) (hs : NoSl i) : PE X (.Subscript o i pos) (tDGet td ty) := by
  intro pins s σ H Q I h
  refine subD_of PySem.F.slot_dict_getitem.lookup hs (thn (ho pins s σ H _ I h) fun u s1 ⟨x, H1, I1, rx, q1⟩ => thn (hi pins s1 σ H1 _ I1 q1) fun iv s2 hpt => ?_)
  obtain ⟨y, H2, I2, ry, a, v, ex, g, q2⟩ := hpt
  subst ex
  obtain rfl : u = Value.ref a := rx
  exact ⟨dict_typeIs I2 g, d_getItem hu I2 g ry fun w' s3 I3 rw' => ⟨v, H2, I3, rw', q2⟩⟩
theorem pc_din (hu : X.A.units + 1 < cLine) (hi : PE X i ty) (ho : PE X o td) : PC X .In i o (tDIn ty td) := by
  intro pins s σ H Q I h
  refine thn (hi pins s σ H _ I h) fun iv s1 ⟨y, H1, I1, ry, q1⟩ => thn (ho pins s1 σ H1 _ I1 q1) fun u s2 hpt => ?_
  obtain ⟨x, H2, I2, rx, a, ov, ex, g, q2⟩ := hpt
  subst ex
  obtain rfl : u = Value.ref a := rx
  exact d_in hu I2 g ry fun s3 I3 => ⟨.bl ov.isSome, H2, I3, rfl, q2⟩
theorem pc_dnotin (hu : X.A.units + 1 < cLine) (hi : PE X i ty) (ho : PE X o td) : PC X .NotIn i o (tDNotIn ty td) := by
  intro pins s σ H Q I h
  refine thn (hi pins s σ H _ I h) fun iv s1 ⟨y, H1, I1, ry, q1⟩ => thn (ho pins s1 σ H1 _ I1 q1) fun u s2 hpt => ?_
  obtain ⟨x, H2, I2, rx, a, ov, ex, g, q2⟩ := hpt
  subst ex
  obtain rfl : u = Value.ref a := rx
  exact d_notIn hu I2 g ry fun s3 I3 => ⟨.bl (!ov.isSome), H2, I3, rfl, q2⟩
theorem ps_dput (hu : X.A.units + 1 < cLine) (ho : PE X o td) (hi : PE X i ty) (hv : PE X value tv) (hs : swapsWith value (some (.Subscript o i pos')) pos.line X.env = pure false) :
    PS X (.Assign [.Subscript o i pos'] value pos) (sDPut td ty tv) := by
  intro pins s σ H D I h
  refine wpAny_Assign_Subscript (thn (hv pins s σ H _ I h) fun r s1 ⟨v, H1, I1, rv, q1⟩ => thn (ho pins s1 σ H1 _ I1 q1) fun u s2 ⟨x, H2, I2, rx, q2⟩ => thn (hi pins s2 σ H2 _ I2 q2) fun iv s3 ⟨y, H3, I3, ry, a, H4, ex, g, q3⟩ => ?_) hs
  subst ex
  obtain rfl : u = Value.ref a := rx
  exact d_setItem hu I3 g ry rv fun s4 I4 => ⟨σ, H4, I4, q3⟩
end
section
variable {X : Cx} {pos : Pos}
end
structure M1 (X : Cx) (o : Expr) (m : Str) (apos : Pos) (e : Expr) (cpos : Pos) : Prop where
  base : attributeBase o m X.env (eval o X.env) = eval o X.env
  few : ((backTo cpos (starEach [e] X.env)).all (fun x => !x.1) && (backToKw cpos (keywordEach [] X.env)).all (fun x => x.1.isSome)
    && decide (([e] : List Expr).length + ([] : List Keyword).length + (if ([] : List Keyword).isEmpty then 0 else 1) < 30)) = true
  line : (apos.endLine == cpos.line) = true
  trees : backTo cpos (starEach [e] X.env) = [(false, eval e X.env)]
structure M2 (X : Cx) (o : Expr) (m : Str) (apos : Pos) (e f : Expr) (cpos : Pos) : Prop where
  base : attributeBase o m X.env (eval o X.env) = eval o X.env
  few : ((backTo cpos (starEach [e, f] X.env)).all (fun x => !x.1) && (backToKw cpos (keywordEach [] X.env)).all (fun x => x.1.isSome)
    && decide (([e, f] : List Expr).length + ([] : List Keyword).length + (if ([] : List Keyword).isEmpty then 0 else 1) < 30)) = true
  line : (apos.endLine == cpos.line) = true
  trees : backTo cpos (starEach [e, f] X.env) = [(false, eval e X.env), (false, eval f X.env)]
noncomputable def IsD (H : Hp) (a : Addr) : Prop := (∃ kvs, Rd H a (.dK kvs)) ∨ ∃ kvs, Rd H a (.dT kvs)
theorem isD_at {X : Cx} {pins : List (Addr × Obj)} {σ : St} {H : Hp} {s : Shared} {a : Addr} (I : Inv X pins σ H s) (d : IsD H a) :
    s.TypeIs (.ref a) "dict" ∧ (∀ b, Value.ref a = .ref b → ∃ ob, s.heap.get? b = some ob ∧ ob.dict = none) ∧ (a == sysModules) = false := by
  rcases d with ⟨kvs, e⟩ | ⟨kvs, e⟩
  · obtain ⟨_, hd, vs, _, dd⟩ := dk_rd I.hok e
    refine ⟨dd.typeIs, fun b q => ?_, hd⟩
    cases q
    obtain ⟨ob, _, _, h1, h2, _⟩ := dd
    exact ⟨ob, h1, h2.2.1⟩
  · obtain ⟨_, hd, xs, _, dd⟩ := dt_rd I.hok e
    refine ⟨dd.typeIs, fun b q => ?_, hd⟩
    cases q
    obtain ⟨ob, _, _, h1, h2, _⟩ := dd
    exact ⟨ob, h1, h2.2.1⟩
section
variable {X : Cx} {pins : List (Addr × Obj)} {σ : St} {H : Hp} {s : Shared} {a : Addr} {y d : V} {u r : Value} {o : Option V} {A : Around} {E : Value → Shared → Prop}
theorem d_get1 {Q : Value → Shared → Prop} (hu : A.units + 1 < cLine) (I : Inv X pins σ H s) (g : DGet H a y o) (ry : RelV y u) (h : ∀ w' s', Inv X pins σ H s' → RelV (o.getD .non) w' → Q w' s') :
    wpAny (model X.prog X.w) A (call (.builtin "dict.get") [.ref a, u]) Q E s := by
  rcases g with ⟨kvs, k, e, ey, l⟩ | ⟨kvs, k, b, e, ey, eb, l⟩
  · subst ey
    obtain ⟨z, hd, vs, rel, dd⟩ := dk_rd I.hok e
    refine call_meetsIn PySem.F.slot_dict_get dd.typeIs PySem.F.entry_dict_get (PySem.F.args_dict_get_2 _ _) (meets_dict_get (mixKind X.prog X.w) a (kV_is ry) hd) ⟨_, dd.mapOf, h _ _ (I.tok _) ?_⟩
    rw [l]
    exact (rel.val k).getD rfl
  · subst ey
    cases (show u = Value.ref b from ry)
    obtain ⟨z, hd, xs, rel, dd⟩ := dt_rd I.hok e
    refine call_meetsIn PySem.F.slot_dict_get dd.typeIs PySem.F.entry_dict_get (PySem.F.args_dict_get_2 _ _) (meetsH_dict_get (tupleKind (mixKind X.prog X.w)) a b hd) ⟨tupleKind_room_in1 hu, k, xs, key_of I.hok eb, dd, h _ _ (I.tok _) ?_⟩
    rw [l]
    exact (rel.val k).getD rfl
theorem d_get2 {Q : Value → Shared → Prop} (hu : A.units + 1 < cLine) (I : Inv X pins σ H s) (g : DGet H a y o) (ry : RelV y u) (rd : RelV d r) (h : ∀ w' s', Inv X pins σ H s' → RelV (o.getD d) w' → Q w' s') :
    wpAny (model X.prog X.w) A (call (.builtin "dict.get") [.ref a, u, r]) Q E s := by
  rcases g with ⟨kvs, k, e, ey, l⟩ | ⟨kvs, k, b, e, ey, eb, l⟩
  · subst ey
    obtain ⟨z, hd, vs, rel, dd⟩ := dk_rd I.hok e
    refine call_meetsIn PySem.F.slot_dict_get dd.typeIs PySem.F.entry_dict_get (PySem.F.args_dict_get_3 _ _ _) (meets_dict_get_default (mixKind X.prog X.w) a (kV_is ry) hd r) ⟨_, dd.mapOf, h _ _ (I.tok _) ?_⟩
    rw [l]
    exact (rel.val k).getD rd
  · subst ey
    cases (show u = Value.ref b from ry)
    obtain ⟨z, hd, xs, rel, dd⟩ := dt_rd I.hok e
    refine call_meetsIn PySem.F.slot_dict_get dd.typeIs PySem.F.entry_dict_get (PySem.F.args_dict_get_3 _ _ _) (meetsH_dict_get_default (tupleKind (mixKind X.prog X.w)) a b hd r) ⟨tupleKind_room_in1 hu, k, xs, key_of I.hok eb, dd, h _ _ (I.tok _) ?_⟩
    rw [l]
    exact (rel.val k).getD rd
end
noncomputable def tDGet1 (td ty : TE) : TE := fun σ H Q => td σ H fun x H1 => ∃ a, x = .ref a ∧ IsD H1 a ∧ ty σ H1 fun y H2 => ∃ o, DGet H2 a y o ∧ Q (o.getD .non) H2
noncomputable def tDGet2 (td ty tx : TE) : TE := fun σ H Q => td σ H fun x H1 => ∃ a, x = .ref a ∧ IsD H1 a ∧ ty σ H1 fun y H2 => tx σ H2 fun z H3 => ∃ o, DGet H3 a y o ∧ Q (o.getD z) H3
section
variable {X : Cx} {o e f : Expr} {apos cpos : Pos} {td ty tx : TE}
theorem pe_dget1 (hu : X.A.units + 1 < cLine) (ho : PE X o td) (he : PE X e ty) (m : M1 X o "get" apos e cpos) : PE X (.Call (.Attribute o "get" apos) [e] [] cpos) (tDGet1 td ty) := by
  intro pins s σ H Q I h
  refine wpAny_Call_method m.base m.few m.line PySem.F.plainAttrs_dict PySem.F.slot_dict_get PySem.F.type_dict_get (thn (ho pins s σ H _ I h) fun u s1 hpt => ?_)
  obtain ⟨x, H1, I1, rx, a, ex, d, q1⟩ := hpt
  subst ex
  obtain rfl : u = Value.ref a := rx
  obtain ⟨t1, t2, _⟩ := isD_at I1 d
  refine ⟨t1, t2, ?_⟩
  rw [m.trees]
  refine Calls.callWith_builtin rfl (Calls.evalArgs_plain (Calls.spliced_cons (thn (he pins s1 σ H1 _ I1 q1) fun iv s2 ⟨y, H2, I2, ry, ov, g, q2⟩ => Calls.spliced_nil ?_)))
  exact d_get1 hu I2 g ry fun w' s3 I3 rw' => ⟨_, H2, I3, rw', q2⟩
theorem pe_dget2 (hu : X.A.units + 1 < cLine) (ho : PE X o td) (he : PE X e ty) (hf : PE X f tx) (m : M2 X o "get" apos e f cpos) : PE X (.Call (.Attribute o "get" apos) [e, f] [] cpos) (tDGet2 td ty tx) := by
  intro pins s σ H Q I h
  refine wpAny_Call_method m.base m.few m.line PySem.F.plainAttrs_dict PySem.F.slot_dict_get PySem.F.type_dict_get (thn (ho pins s σ H _ I h) fun u s1 hpt => ?_)
  obtain ⟨x, H1, I1, rx, a, ex, d, q1⟩ := hpt
  subst ex
  obtain rfl : u = Value.ref a := rx
  obtain ⟨t1, t2, _⟩ := isD_at I1 d
  refine ⟨t1, t2, ?_⟩
  rw [m.trees]
  refine Calls.callWith_builtin rfl (Calls.evalArgs_plain (Calls.spliced_cons (thn (he pins s1 σ H1 _ I1 q1) fun iv s2 ⟨y, H2, I2, ry, q2⟩ =>
    Calls.spliced_cons (thn (hf pins s2 σ H2 _ I2 q2) fun fv s3 ⟨z, H3, I3, rz, ov, g, q3⟩ => Calls.spliced_nil ?_))))
  exact d_get2 hu I3 g ry rz fun w' s4 I4 rw' => ⟨_, H3, I4, rw', q3⟩
end
section
variable {X : Cx} {pins : List (Addr × Obj)} {σ : St} {H : Hp} {s : Shared} {a : Addr} {kvs : List (Key × V)} {A : Around} {E : Value → Shared → Prop}
end
section
variable {X : Cx} {pins : List (Addr × Obj)} {σ : St} {H : Hp} {s : Shared} {a : Addr} {y : V} {u : Value} {A : Around} {E : Value → Shared → Prop}
end
end L2
set_option Elab.async false
set_option linter.all false
set_option maxRecDepth 100000
namespace Att
open PySem PySem.W PySem.Calls PyProof.Rows
theorem ints_of_wellAll {P : Params} {h : Heap} : ∀ (ns : List Int) (vs : List Value), WellAll P h vs (ns.map WData.int) → IntsAre vs ns := by
  intro ns
  induction ns with
  | nil =>
    intro vs w
    rw [List.map_nil] at w
    cases w
    exact .nil
  | cons n ns ih =>
    intro vs w
    rw [List.map_cons] at w
    cases w with
    | cons a b =>
      cases a
      exact .cons _ _ (ih _ b)
theorem script_of {l : OpenLaw} {n : Nat} (hn : l.most = some n) {P : Params} {h : Heap} {args : List WData} {vals : List Value}
    (hpre : l.row.toRowW.claim.pre args = true) (hwl : WellAll P h vals args) :
    ∃ a vs ns, vals = [Value.ref a] ∧ args = [WData.list (ns.map WData.int)] ∧ h.get? a = some { cls := .type "list", data := .seq vs.toArray } ∧ IntsAre vs ns ∧ ns.length ≤ n := by
  have hsh : WShape.hasAll [] args [.list .int] = true := (pre_splitW hpre).1
  have hc : l.pre.holds [] { args := args } = true := (pre_splitW hpre).2
  obtain ⟨d, r, rfl, h1, h2⟩ := hasAllW_cons hsh
  obtain rfl := hasAllW_nil h2
  obtain ⟨xs, rfl, h3⟩ := hasW_list h1
  obtain ⟨ns, rfl⟩ := items_int h3
  have hlen : ns.length ≤ n := by
    unfold OpenLaw.pre at hc
    have h4 : (WTm.not (.lt (.lit (.int (n : Int))) (.len (.arg 0)))).holds [] { args := [.list (ns.map .int)] } = true := by
      have h4 := (holds_andW hc).1
      rw [hn] at h4
      exact h4
    have h5 := condW_of h4 (w_not (w_lt w_lit (w_len_list (w_arg rfl))))
    rw [List.length_map] at h5
    refine Nat.le_of_not_lt fun q => ?_
    have q' : (n : Int) < ((ns.length : Nat) : Int) := by omega
    first
      | (rw [decide_eq_true q'] at h5; exact absurd h5 (by decide))
      | (simp at h5; omega)
  cases hwl with
  | cons w1 w2 =>
    cases w2
    cases w1 with
    | list ho hall => exact ⟨_, _, ns, rfl, rfl, ho, ints_of_wellAll ns _ hall, hlen⟩
theorem post_true (l : OpenLaw) (args : List WData) : l.row.toRowW.claim.post args (.bool true) args = true :=
  postW_of (r := l.row.toRowW) (X := (true == true))
    (show WShape.has [] (.bool true) .bool = true by first | rfl | decide | simp [WShape.has, WShape.arms, WShape.armsAll])
    (show (WTm.eq .res (.lit (.bool true))).value [] { args := args, res := some (.bool true), after := args } = some (.bool (true == true)) from w_eq_bool (w_res rfl) w_lit) rfl
theorem attach_call {l : OpenLaw} {n : Nat} {q : Program} {loose : List Str} {XP : (Str → Option Value) → Heap → Prop} {YP : World → Heap → Prop} {d : DefRec}
    (hn : l.most = some n) (hdf : d.params.defaults = [])
    (call : ∀ (w : World) (s₀ s₁ : Shared) (mg mb : Str → Option Value) (fa : Addr) (o : Obj) (pm cd doc : Value) (a : Addr) (vs : List Value) (ns : List Int),
      Ground q loose [] XP w s₀ mg mb s₁.heap → YP w s₁.heap →
      s₁.heap.get? fa = some o → o.data = .func (docDef d.name d.params d.body d.scope pm cd doc) → s₁.heap.CodeRec cd d.name → mg d.name = some (.ref fa) →
      s₁.heap.get? a = some { cls := .type "list", data := .seq vs.toArray } → IntsAre vs ns → ns.length ≤ n → s₁.gens = #[] →
      codeAny (model l.prog w) callerA (.call (.ref fa) ⟨[.ref a], []⟩) (fun r s' => r = .ok (.ret (.bool true)) ∧ OldK s₁.heap s'.heap ∧ s'.os = s₁.os ∧ AllBare s'.gens) s₁) :
    WalkO q loose XP YP l.row.toRowW d [] (fun f vs => PySem.call f vs) := by
  intro w s₀ s₁ mg mb G Y fa o pm cd doc dV kV ho hd hcd hD hmg hg args vals as hpre hlay hrd hwl hlo
  obtain rfl : dV = .none := Dflts.none hD hdf
  obtain rfl : kV = .none := Dflts.noKw hD
  obtain ⟨a, vs, ns, rfl, rfl, hobj, hints, hlen⟩ := script_of hn hpre hwl
  refine enter_call (codeAny_mono (call w s₀ s₁ mg mb fa o pm cd doc a vs ns G Y ho (fd_plain hd) hcd hmg hobj hints hlen hg) fun r s' hq => ?_)
  obtain ⟨rfl, h2, h3, h4⟩ := hq
  exact ⟨.inl ⟨.bool true, .bool true, [], rfl, fun _ => rfl, .bool true, post_true l _, fun _ => ⟨List.Pairwise.nil, fun _ hm => (nomatch hm)⟩⟩, h2, h3, h4⟩
section
variable {prog : Program} {w : World} {A : Around} {E : Value → Shared → Prop} {s : Shared} {K : Frag}
end
end Att
namespace L2
open PySem PySem.Spec PyProof.Rows
theorem vals_ints : ∀ {vs : List Value} {ns : List Int}, IntsAre vs ns → Vals (ns.map V.int) vs
  | _, _, .nil => .nil
  | _, _, .cons n t h => .cons ⟨t, rfl⟩ (vals_ints h)
noncomputable def Only (H : Hp) : Prop := ∀ b, H b = none ∨ ∃ o xs, H b = some (.frz o (.lst xs))
theorem law_call {P : Program} {w : World} {K : PySem.W.Frag} {mg mb : Str → Option Value} {CX : CXT} {k : Nat} {fa a : Addr} {fd : FuncData} {x : Str} {sp : Sp} {s₁ : Shared} {vs : List Value} {ns : List Int}
    (KX : K.In s₁.heap) (hns : s₁.heap.Ns mainGlobals mg) (hb : s₁.heap.Ns builtinsNs mb) (hbb : ∀ x : Str, x ≠ "__name__" → mb x = bootBuiltins x) (hlim : s₁.heap.NoLimit) (hg : s₁.gens = #[])
    (ha : s₁.heap.get? a = some { cls := .type "list", data := .seq vs.toArray }) (hi : IntsAre vs ns) (hl : ns.length ≤ sizeLine) (hr : Room k callerA)
    (F : ∀ base : Heap, K.In base → base.Ns mainGlobals mg → FnOk P w K mg base CX k fa fd [x] sp) (hbind : ∀ (s : Shared) (u : Value), BindsTo s fd ⟨[u], []⟩ [(x, u)])
    (hsp : ∀ H : Hp, Only H → SqL K H a (ns.map V.int) → sp [.ref a] H (fun v _ => v = .bl true) fun _ _ _ => False)
    (hCX : ∀ H e s', CX [] H s₁ (fun _ _ _ => False) e s' → False) :
    codeAny (model P w) callerA (.call (.ref fa) ⟨[.ref a], []⟩) (fun r s' => r = .ok (.ret (.bool true)) ∧ OldK s₁.heap s'.heap ∧ s'.os = s₁.os ∧ AllBare s'.gens) s₁ := by
  have rv := vals_ints hi
  have lenV := hi.length
  have core : ∀ H : Hp, Only H → SqL K H a (ns.map V.int) → HOk P w H s₁.heap → (∀ b, H b ≠ none → b = a) → (H a ≠ none → K.lookup a = none) →
      codeAny (model P w) callerA (.call (.ref fa) ⟨[.ref a], []⟩) (fun r s' => r = .ok (.ret (.bool true)) ∧ OldK s₁.heap s'.heap ∧ s'.os = s₁.os ∧ AllBare s'.gens) s₁ := by
    intro H hO hS hok hA hK
    have base_of : ∀ {b : Addr} {o : Obj}, s₁.heap.get? b = some o → H b = none → (hidT s₁.heap H).get? b = some o := fun e n => hidT_get e n
    have noA : ∀ {b : Addr} {o : Obj} {es : Array DictEntry} {ep : Nat}, s₁.heap.get? b = some o → o.data = .dict es ep → H b = none := fun {b o es ep} e d => by
      cases q : H b with
      | none => rfl
      | some u =>
        have e' : b = a := hA b (by rw [q]; simp)
        subst e'
        rw [ha] at e; cases e
        have d' : Data.seq vs.toArray _ = Data.dict es ep := d
        cases d'
    have nsK : ∀ {b : Addr} {m : Str → Option Value}, s₁.heap.Ns b m → (hidT s₁.heap H).Ns b m := fun {b m} ⟨o, es, ep, e, d, r⟩ => ⟨o, es, ep, base_of e (noA e d), d, r⟩
    have hKb : K.In (hidT s₁.heap H) := fun b o e => base_of (KX b o e) (by
      cases q : H b with
      | none => rfl
      | some u =>
        have e' : b = a := hA b (by rw [q]; simp)
        subst e'
        rw [hK (by rw [q]; simp)] at e; cases e)
    have hM : Mod K mg (hidT s₁.heap H) := ⟨hKb, nsK hns, ⟨mb, nsK hb, hbb⟩, let ⟨mc, h1, h2⟩ := hlim; ⟨mc, nsK h1, h2⟩⟩
    have e0 : Env0 P w K mg (hidT s₁.heap H) callerA [] s₁ H := ⟨rfl, hM, fun b o e => of_hidT e, Nat.le_of_eq (hidT_size _ _), trivial, fun b hb => absurd (show b ∈ ([] : List Addr) from hb) (by simp), hok, .of_eq hg⟩
    refine codeAny_mono ((F _ hKb (nsK hns)).run callerA [] s₁ H ⟨[.ref a], []⟩ [.ref a] [.ref a] _ _ hr e0 (hbind s₁ (.ref a)) (.cons rfl .nil) (hsp H hO hS)) fun r s' h => ?_
    cases r with
    | error e => exact (hCX H e s' h).elim
    | ok fl =>
      cases fl with
      | next => exact False.elim h
      | brk => exact False.elim h
      | cont => exact False.elim h
      | ret u =>
        obtain ⟨v, H', os, bare, un, hok', r', q⟩ := h
        have q' : v = .bl true := q
        subst q'
        obtain rfl : u = Value.bool true := r'
        refine ⟨rfl, OldK.of_keep fun b o e => ?_, os, bare⟩
        cases q : H b with
        | none => exact un.keep b o e q (by intro z; exact absurd (show b ∈ ([] : List Addr) from z) (by simp)) (by simp)
        | some u =>
          rcases hO b with z | ⟨ob, xs, z⟩
          · rw [q] at z; cases z
          · have z2 := un.frzs b ob _ z
            obtain ⟨e1, _⟩ := hok b _ z
            obtain ⟨e2, _⟩ := hok' b _ z2
            rw [e] at e1; cases e1
            exact e2
  cases hk : K.lookup a with
  | some o =>
    have e := KX a o hk
    rw [ha] at e
    cases e
    refine core (fun _ => none) (fun _ => .inl rfl) (.inr ⟨_, vs.toArray, _, hk, rfl, rfl, rfl, by rw [List.size_toArray, lenV]; exact hl, by simpa using rv⟩) (fun b u z => by have z' : (none : Option HO) = some u := z; cases z') (fun b z => absurd rfl z) fun z => absurd rfl z
  | none =>
    refine core (fun b => if b = a then some (.frz { cls := .type "list", data := .seq vs.toArray } (.lst (ns.map V.int))) else none) (fun b => ?_) (.inl (.inr ⟨{ cls := .type "list", data := .seq vs.toArray }, if_pos rfl⟩)) (fun b u z => ?_) (fun b z => ?_) fun _ => hk
    · by_cases hb : b = a
      · exact .inr ⟨_, _, if_pos hb⟩
      · exact .inl (if_neg hb)
    · by_cases hb : b = a
      · have z' := (if_pos hb).symm.trans z
        cases z'
        subst hb
        exact ⟨ha, by rw [List.length_map]; exact hl, vs, _, rv, ha⟩
      · have z' := (if_neg hb).symm.trans z
        cases z'
    · by_cases hb : b = a
      · exact hb
      · exact absurd (if_neg hb) z
end L2
namespace L2
open PySem PySem.Spec PyProof.Rows
theorem walk_of {l : PySem.W.OpenLaw} {n k : Nat} {q : Program} {loose : List Str} {XP : (Str → Option Value) → Heap → Prop} {YP : World → Heap → Prop} {d : DefRec} {K : Params → PySem.W.Frag} {CX : World → CXT} {sp : World → Sp} {x : Str}
    (hn : l.most = some n) (hn2 : n ≤ sizeLine) (hdf : d.params.defaults = []) (hr : Room k callerA)
    (hY : ∀ (w : World) (h : Heap), YP w h → (K w.params).In h)
    (F : ∀ (w : World) (mg : Str → Option Value) (fa : Addr) (h : Heap), (K w.params).In h → h.Ns mainGlobals mg → mg d.name = some (.ref fa) →
      ∃ fd : FuncData, (∀ (s : Shared) (u : Value), BindsTo s fd ⟨[u], []⟩ [(x, u)]) ∧
        ∀ base : Heap, (K w.params).In base → base.Ns mainGlobals mg → FnOk l.prog w (K w.params) mg base (CX w) k fa fd [x] (sp w))
    (hsp : ∀ (w : World) (H : Hp) (a : Addr) (ns : List Int), ns.length ≤ n → Only H → SqL (K w.params) H a (ns.map V.int) → sp w [.ref a] H (fun v _ => v = .bl true) fun _ _ _ => False)
    (hCX : ∀ (w : World) (H : Hp) (s : Shared) (e : Value) (s' : Shared), CX w [] H s (fun _ _ _ => False) e s' → False) :
    PySem.W.WalkO q loose XP YP l.row.toRowW d [] (fun f vs => PySem.call f vs) := by
  refine Att.attach_call hn hdf fun w s₀ s₁ mg mb fa o pm cd doc a vs ns G Y ho hd hcd hmg hobj hints hlen hg => ?_
  have KX := hY w _ Y
  obtain ⟨fd, hb, hF⟩ := F w mg fa _ KX G.T.g hmg
  exact law_call KX G.T.g G.T.b G.T.builtins G.T.nolimit hg hobj hints (Nat.le_trans hlen hn2) hr hF hb (fun H hO hS => hsp w H a ns hlen hO hS) fun H e s' => hCX w H s₁ e s'
end L2
namespace L2
open PySem PySem.Spec PyProof.Rows
noncomputable def defArgs (s : Stmt) : Arguments := match s with
  | .FunctionDef _ a _ _ _ _ _ _ _ _ => a
  | _ => { posonlyargs := [], args := [], vararg := none, kwonlyargs := [], kw_defaults := [], kwarg := none, defaults := [] }
noncomputable def defBody (s : Stmt) : List Stmt := match s with
  | .FunctionDef _ _ b _ _ _ _ _ _ _ => b
  | _ => []
noncomputable def defScope (s : Stmt) : Scope := match s with
  | .FunctionDef _ _ _ _ _ _ sc _ _ _ => sc
  | _ => { kind := .function, names := [], isGenerator := false, isCoroutine := false }
noncomputable abbrev CX0 : CXT := fun _ _ _ _ _ _ => False
noncomputable abbrev E0 : XK := fun _ _ _ => False
theorem pass0 {X : Cx} : Passes CX0 X E0 := fun _ _ _ _ _ _ _ h => h.elim
structure Fun (K : PySem.W.Frag) (x qual : Str) (st : Stmt) (f : Addr) (fd : FuncData) : Prop where
  ex : ∃ (oc : Value) (od : Option Addr) (kV doc pm : Value) (an : Option Addr) (cdv ct : Value) (osl : Array (Option Value)),
    fd = PySem.W.fnOf x qual (defArgs st) (defBody st) (defScope st) .none kV doc pm an cdv ct ∧ K.lookup f = some ⟨oc, od, .func fd, osl⟩ ∧ PySem.W.codeIn K cdv qual = true
  kp : PySem.W.keepIn K (.ref f) = true
section
variable {P : Program} {w : World} {K : PySem.W.Frag} {mg : Str → Option Value} {base : Heap}
theorem Fun.ok {x qual : Str} {st : Stmt} {f : Addr} {fd : FuncData} {N ps : List Str} {k : Nat} {sp : Sp} (F : Fun K x qual st f fd) (S : FnScope N ps (defScope st)) (len : ∀ vs H Q E, sp vs H Q E → vs.length = ps.length)
    (hbody : ∀ (cdv : Value) (A : Around) (outer : List Env) (s : Shared) (H : Hp) (vs : List V) (Q : VK) (E : XK), Room k (A.deeper (envOfC qual (defScope st) s.heap.objs.size f cdv)) → sp vs H Q E →
      ∃ t, PSs (cxOf CX0 P w K mg base N qual (defScope st) f cdv A outer s H E).nox (defBody st) t ∧ t { nx := fun _ H' => Q .non H', rt := Q } (start N vs) H) : FnOk P w K mg base CX0 (k + 1) f fd ps sp := by
  obtain ⟨oc, od, kV, doc, pm, an, cdv, ct, osl, rfl, lk, hcd⟩ := F.ex
  refine fn_of lk hcd S len fun A outer s H vs Q E hr hsp => ?_
  obtain ⟨t, h, q⟩ := hbody cdv A outer s H vs Q E hr hsp
  exact ⟨t, h.nox, q⟩
theorem Fun.binds {x qual : Str} {st : Stmt} {f : Addr} {fd : FuncData} {ps : List Str} (F : Fun K x qual st f fd)
    (h : ∀ (kV doc pm : Value) (an : Option Addr) (cdv ct : Value) (us : List Value), us.length = ps.length → bindArgs (PySem.W.fnOf x qual (defArgs st) (defBody st) (defScope st) .none kV doc pm an cdv ct) ⟨us, []⟩ = pure (ps.zip us)) : Binds K fd ps [] := by
  obtain ⟨oc, od, kV, doc, pm, an, cdv, ct, osl, rfl, lk, hcd⟩ := F.ex
  exact .all (h kV doc pm an cdv ct)
theorem fun_mk {x qual : Str} {st : Stmt} {f : Addr} {oc : Value} {od an : Option Addr} {osl : Array (Option Value)} {kV doc pm cdv ct : Value} (l : K.lookup f = some ⟨oc, od, .func (PySem.W.fnOf x qual (defArgs st) (defBody st) (defScope st) .none kV doc pm an cdv ct), osl⟩)
    (c : PySem.W.codeIn K cdv qual = true) (k : PySem.W.keepIn K (.ref f) = true) : Fun K x qual st f (PySem.W.fnOf x qual (defArgs st) (defBody st) (defScope st) .none kV doc pm an cdv ct) := ⟨⟨oc, od, kV, doc, pm, an, cdv, ct, osl, rfl, l, c⟩, k⟩
end
theorem hu_of {A : Around} {k : Nat} (hr : Room k A) : A.units + 1 < cLine := Nat.lt_of_le_of_lt (Nat.add_le_add_left (by decide : 1 ≤ 64) _) hr.units
theorem small1000 {n : Nat} (h : n ≤ 1000) : n < sizeLine := Nat.lt_of_le_of_lt h (by decide)
section
variable {X : Cx}
theorem pv (i : Nat) {x : Str} {pos : Pos} (hN : X.N[i]? = some x := by rfl) (hv : Vis X.env.scope x := by first | exact Or.inl rfl | exact Or.inr (Or.inl rfl) | exact Or.inr (Or.inr rfl)) (hd : (x == ("__debug__" : Str)) = false := by decide)
    (hcd : (x == ("__classdict__" : Str)) = false := by decide) : PE X (.Name x pos) (tVar i) := pe_var hN hv hd hcd
end
theorem iteF {A B : Prop} (h : B) : if false = true then A else B := by
  rw [if_neg Bool.false_ne_true]
  exact h
theorem iteT {A B : Prop} (h : A) : if true = true then A else B := by
  rw [if_pos rfl]
  exact h
theorem ite2 {c A B : Prop} [Decidable c] (h1 : c → A) (h2 : ¬ c → B) : if c then A else B := by
  by_cases h : c
  · rw [if_pos h]
    exact h1 h
  · rw [if_neg h]
    exact h2 h
noncomputable def Same (H H' : Hp) : Prop := ∀ b o, H b = some o → H' b = some o
theorem Same.refl (H : Hp) : Same H H := fun _ _ h => h
theorem Same.trans {H H1 H2 : Hp} (a : Same H H1) (b : Same H1 H2) : Same H H2 := fun c o h => b c o (a c o h)
theorem Same.free {H H' : Hp} (e : Same H H') {l : Addr} (h : H' l = Option.none) : H l = Option.none := by
  cases q : H l with
  | none => rfl
  | some o =>
    rw [e l o q] at h
    cases h
theorem Same.seq {K : PySem.W.Frag} {H H' : Hp} {a : Addr} {xs : List V} (e : Same H H') (h : SqL K H a xs) : SqL K H' a xs := by
  rcases h with (h | ⟨o, h⟩) | h
  · exact .inl (.inl (e _ _ h))
  · exact .inl (.inr ⟨o, e _ _ h⟩)
  · exact .inr h
section
variable {κ : Type} [DecidableEq κ]
end
end L2
set_option Elab.async false
set_option linter.all false
set_option maxRecDepth 100000
namespace L2
open PySem PySem.Spec PyProof.Rows
structure LcOk (X : Cx) (scope : Scope) (cl : List (Str × Addr)) : Prop where
  kind : scope.kind = .function
  clos : closureFor scope X.env = pure cl
  names : ∀ x ∈ scope.names, x.2 = .local → scope.names.lookup x.1 = some .local
  nocell : ∀ x ∈ scope.names, x.2 ≠ .cell
  cells : ∀ x c, cl.lookup x = some c → X.env.cells.lookup x = some c
  has : ∀ x, ((relabel scope X.env).names.lookup x = some .cell ∨ (relabel scope X.env).names.lookup x = some .free) → ∃ c, cl.lookup x = some c
noncomputable abbrev lcCx (X : Cx) (N : List Str) (scope : Scope) (cl : List (Str × Addr)) (s : Shared) (H : Hp) (ex : List Addr) : Cx :=
  { X with N := N, s₀ := s, H₀ := H, env := compEnvC scope cl s.heap.objs.size X.env, outer := X.stack, stack := X.stack, ex := ex, fn := fun _ => false, pn := [], xe := fun _ _ => False }
section
variable {X : Cx} {pins : List (Addr × Obj)} {σ : St} {H : Hp} {s : Shared} {N : List Str} {scope : Scope} {cl : List (Str × Addr)} {fp : List Addr}
theorem lc_ok (I : Inv X pins σ H s) (L : LcOk X scope cl) (hf : ∀ b ∈ fp, FpOk X pins H b) (ho : ∀ b ∈ fp, b < s.heap.objs.size) : (lcCx X N scope cl s H fp).Ok where
  mod := I.ok.mod
  kind := L.kind
  glob := I.ok.glob
  blt := I.ok.blt
  above := Nat.le_refl _
  inj := fun x y c h1 h2 => I.ok.inj x y c (L.cells x c h1) (L.cells y c h2)
  has := fun x hx => L.has x hx
  cab := fun x c h _ => absurd h (by simp)
  hd := I.ok.hd
  frames := I.ok.frames
  stk := .inl rfl
  exf := fun b hb => ⟨Nat.ne_of_lt (ho b hb), fun x c h => (hf b hb).2.2.2.2.1 x c (L.cells x c h)⟩
  bs := I.bs
  bsz := Nat.le_trans I.ok.bsz I.sz
  noex := fun b o e hb => by
    rcases (hf b hb).2.2.2.1 with z | z
    · exact I.ok.noex b o e z
    · exact absurd (Nat.lt_of_lt_of_le (Heap.lt_size e) (Nat.le_trans I.ok.bsz z)) (Nat.lt_irrefl _)
  exfs := fun b hb hs => by
    rcases List.mem_cons.mp (I.stkSub b hs) with z | z
    · exact (hf b hb).2.1 z
    · exact (hf b hb).2.2.1 z
  funs := I.stack
  frf := I.stkFree
noncomputable def lcStart (k : Nat) (js : List Nat) (σ : St) : St := List.replicate k none ++ js.map fun j => (σ[j]?).getD none
theorem lc_start {h₁ : Heap} {tk : Nat} {k : Nat} {js : List Nat} (I : Inv X pins σ H s) (L : LcOk X scope cl) (hf : ∀ b ∈ fp, FpOk X pins H b) (ho : ∀ b ∈ fp, b < s.heap.objs.size)
    (hns : ∃ m, h₁.Ns s.heap.objs.size m) (hk : ∀ b o, s.heap.get? b = some o → h₁.get? b = some o)
    (hN : N.length = k + js.length) (hj : ∀ (i j : Nat) x, js[i]? = some j → N[k + i]? = some x → X.N[j]? = some x ∧ Vis X.env.scope x ∧ X.env.scope.names.lookup x ≠ some .local ∧ ((relabel scope X.env).names.lookup x = some .cell ∨ (relabel scope X.env).names.lookup x = some .free)) :
    Inv (lcCx X N scope cl s H fp) [] (lcStart k js σ) H { s with heap := h₁, toks := tk } := by
  obtain ⟨m, hm⟩ := hns
  have cellK : ∀ c v, s.heap.IsCell c v → h₁.IsCell c v := fun c v ⟨o, e, d⟩ => ⟨o, hk c o e, d⟩
  refine ⟨lc_ok I L hf ho, rfl, I.bare, Un.kept hk, ⟨m, hm, fun i x v e1 e2 e3 => ?_⟩, fun x c e => ?_, I.hok.fresh (Nat.le_refl _), fun x c e => I.freeC x c (L.cells x c e), fun p hp => absurd (show p ∈ ([] : List (Addr × Obj)) from hp) (by simp), I.hok.kept hk, ?_⟩
  · unfold lcStart at e2
    by_cases hi : i < k
    · rw [List.getElem?_append_left (by simpa using hi), List.getElem?_replicate] at e2
      split at e2 <;> cases e2
    · obtain ⟨i', rfl⟩ : ∃ i', i = k + i' := ⟨i - k, by omega⟩
      rw [List.getElem?_append_right (by simp), List.length_replicate, Nat.add_sub_cancel_left, List.getElem?_map] at e2
      cases ej : js[i']? with
      | none => rw [ej] at e2; cases e2
      | some j =>
        rw [ej] at e2
        have e2' : (σ[j]?).getD none = some v := Option.some.inj e2
        obtain ⟨h1, h2, h3, h4⟩ := hj i' j x ej e1
        have e4 : σ[j]? = some (some v) := by
          cases q : σ[j]? with
          | none => rw [q] at e2'; cases e2'
          | some y => rw [q] at e2'; exact congrArg some e2'
        obtain ⟨m0, _, hl⟩ := I.loc
        obtain ⟨u, r, lk⟩ := hl j x v h1 e4 h2
        refine ⟨u, r, .inr ⟨h4, ?_⟩⟩
        rcases lk with ⟨q, _⟩ | ⟨_, c, e5, e6⟩
        · exact absurd q h3
        · obtain ⟨c', e7⟩ := L.has x h4
          have : c' = c := Option.some.inj ((L.cells x c' e7).symm.trans e5)
          subst this
          exact ⟨c', e7, cellK c' _ e6⟩
  · obtain ⟨v, e1⟩ := I.cell x c (L.cells x c e)
    exact ⟨v, cellK c v e1⟩
  · unfold lcStart
    rw [List.length_append, List.length_replicate, List.length_map]
    exact hN.symm
theorem lc_end {H' : Hp} {σ' : St} {s' : Shared} {h' : Heap} (I : Inv X pins σ H s) (hf : ∀ b ∈ fp, FpOk X pins H b) (J : Inv (lcCx X N scope cl s H fp) [] σ' H' s') (hs : Heap.SameBut s.heap.objs.size s'.heap h') : Inv X pins σ H' { s' with heap := h' } := by
  have ne : ∀ b o, s.heap.get? b = some o → b ≠ s.heap.objs.size := fun b o e => Nat.ne_of_lt (Heap.lt_size e)
  have u := J.base
  have u' : Un (frs X.stack) fp H H' s.heap h' :=
    ⟨fun b o e n hb hx => (hs.2 b (ne b o e)).trans (u.keep b o e n hb hx), fun b o e n hb hx => by
      obtain ⟨sl, q⟩ := u.slot b o e n hb hx
      exact ⟨sl, (hs.2 b (ne b o e)).trans q⟩, u.free, fun b o e hx => by
      obtain ⟨o', q⟩ := u.there b o e hx
      exact ⟨o', (hs.2 b (ne b o e)).trans q⟩, u.tups, u.frzs, u.tbls⟩
  have nt : ∀ b o, H' b = some o → b ≠ s.heap.objs.size := fun b o e z => by
    have := J.free
    rw [show (lcCx X N scope cl s H fp).env.locals = s.heap.objs.size from rfl, ← z, e] at this
    cases this
  refine I.call' (s' := { s' with heap := h' }) J.os u' (fun b o e => ?_) J.bare fun b hb => ?_
  · refine (J.hok b o e).stay (fun c v hc q => (hs.2 c ?_).trans q) (fun _ q => q) fun _ _ q => q
    rcases hc with z | z
    · rw [z]; exact nt b o e
    · exact nt c _ z
  · obtain ⟨f0, f1, f2, f3, f4, f5⟩ := hf b hb
    exact ⟨f3, f1, f4, f5⟩
end
section
variable {prog : Program} {w : World} {A : Around} {R : Result → Shared → Prop} {s : Shared}
theorem lc_loop {elt target iter : Expr} {scope : Scope} {pos : Pos} {it acc : Value} {env : Env} (I : Nat → Shared → Prop)
    (turn : ∀ n s, I n s → wpAny (model prog w) A (pyNext it) (fun r s₁ => match r with
      | none => R (.ok .next) s₁
      | some v => wpAny (model prog w) A (letOwnedTupleGo target it v) (fun _ s₂ => wpAny (model prog w) A (assign target env v) (fun _ s₃ => wpAny (model prog w) A (eval elt env) (fun x s₄ =>
          wpAny (model prog w) A (call (.builtin "list.append") [acc, x]) (fun _ s₅ => ∃ m, m < n ∧ I m s₅) (fun _ _ => False) s₄) (fun _ _ => False) s₃) (fun _ _ => False) s₂) (fun _ _ => False) s₁) (fun _ _ => False) s)
    (n : Nat) (h : I n s) : codeAny (model prog w) A (.compLoop (.ListComp elt [⟨target, iter, [], 0⟩] scope pos) 0 it acc env) R s := by
  refine codeAny_loop rfl I (fun n s hI => ?_) n h
  show wpAny _ _ ((compTurn (.ListComp elt [⟨target, iter, [], 0⟩] scope pos) 0 it acc env).onRaise (fun x => do noteFrame x env; theTreesLotGoes x)) _ _ s
  refine wpAny_noted ?_
  rw [compTurn_list1]
  refine wpAny_bind (wpAny_standAt (wpAny_bind (wpAny_mono (turn n s hI) (fun r s₁ h₁ => ?_) fun _ _ h' => h'.elim)))
  cases r with
  | none => exact wpAny_pure h₁
  | some v =>
    refine wpAny_bind (wpAny_mono h₁ (fun _ s₂ h₂ => ?_) fun _ _ h' => h'.elim)
    exact wpAny_bind (wpAny_mono h₂ (fun _ s₂ h₂ => wpAny_bind (wpAny_bind (wpAny_mono h₂ (fun x s₃ h₃ => wpAny_bind (wpAny_mono h₃
      (fun _ s₄ h₄ => wpAny_pure (wpAny_pure ⟨rfl, h₄⟩)) fun _ _ h' => h'.elim)) fun _ _ h' => h'.elim))) fun _ _ h' => h'.elim)
theorem compTurn_list2 (elt target iter c : Expr) (scope : Scope) (pos : Pos) (it acc : Value) (env : Env) :
    compTurn (.ListComp elt [⟨target, iter, [c], 0⟩] scope pos) 0 it acc env = (standAt iter.pos >>= fun _ => pyNext it >>= fun r => match r with
      | none => pure (.done .next)
      | some v => letOwnedTupleGo target it v >>= fun _ => assign target env v >>= fun _ =>
        (forIn [c] true fun c r => if r = true then do let ok ← isTrue c env (eval c env); pure (ForInStep.yield ok) else pure (ForInStep.yield r)) >>= fun ok =>
        if ok = true then (eval elt env >>= fun x => call (.builtin "list.append") [acc, x] >>= fun _ => pure ()) >>= fun _ =>
          again (.compLoop (.ListComp elt [⟨target, iter, [c], 0⟩] scope pos) 0 it acc env)
        else again (.compLoop (.ListComp elt [⟨target, iter, [c], 0⟩] scope pos) 0 it acc env)) := by rfl
theorem lc_loop1 {elt target iter c : Expr} {scope : Scope} {pos : Pos} {it acc : Value} {env : Env} (I : Nat → Shared → Prop)
    (turn : ∀ n s, I n s → wpAny (model prog w) A (pyNext it) (fun r s₁ => match r with
      | none => R (.ok .next) s₁
      | some v => wpAny (model prog w) A (letOwnedTupleGo target it v) (fun _ s₂ => wpAny (model prog w) A (assign target env v) (fun _ s₃ => wpAny (model prog w) A (isTrue c env (eval c env)) (fun ok s₃ =>
          if ok = true then wpAny (model prog w) A (eval elt env) (fun x s₄ =>
            wpAny (model prog w) A (call (.builtin "list.append") [acc, x]) (fun _ s₅ => ∃ m, m < n ∧ I m s₅) (fun _ _ => False) s₄) (fun _ _ => False) s₃
          else ∃ m, m < n ∧ I m s₃) (fun _ _ => False) s₃) (fun _ _ => False) s₂) (fun _ _ => False) s₁) (fun _ _ => False) s)
    (n : Nat) (h : I n s) : codeAny (model prog w) A (.compLoop (.ListComp elt [⟨target, iter, [c], 0⟩] scope pos) 0 it acc env) R s := by
  refine codeAny_loop rfl I (fun n s hI => ?_) n h
  show wpAny _ _ ((compTurn (.ListComp elt [⟨target, iter, [c], 0⟩] scope pos) 0 it acc env).onRaise (fun x => do noteFrame x env; theTreesLotGoes x)) _ _ s
  refine wpAny_noted ?_
  rw [compTurn_list2]
  refine wpAny_bind (wpAny_standAt (wpAny_bind (wpAny_mono (turn n s hI) (fun r s₁ h₁ => ?_) fun _ _ h' => h'.elim)))
  cases r with
  | none => exact wpAny_pure h₁
  | some v =>
    refine wpAny_bind (wpAny_mono h₁ (fun _ s₂ h₂ => ?_) fun _ _ h' => h'.elim)
    refine wpAny_bind (wpAny_mono h₂ (fun _ s₃ h₃ => ?_) fun _ _ h' => h'.elim)
    rw [List.forIn_cons]
    simp only [if_true]
    refine wpAny_bind (wpAny_bind (wpAny_bind (wpAny_mono h₃ (fun ok s₄ h₄ => wpAny_pure ?_) fun _ _ h' => h'.elim)))
    simp only [List.forIn_nil]
    refine wpAny_pure ?_
    cases ok with
    | true =>
      rw [if_pos rfl] at h₄ ⊢
      exact wpAny_bind (wpAny_bind (wpAny_mono h₄ (fun x s₃ h₃ => wpAny_bind (wpAny_mono h₃ (fun _ s₄ h₄ => wpAny_pure (wpAny_pure ⟨rfl, h₄⟩)) fun _ _ h' => h'.elim)) fun _ _ h' => h'.elim))
    | false =>
      rw [if_neg (by simp)] at h₄ ⊢
      exact wpAny_pure ⟨rfl, h₄⟩
end
noncomputable def LcW (k : Nat) (js : List Nat) (g : TG) (te : TE) (σ : St) (Q : VK) (J : It) (H1 : Hp) (p : Addr) : Prop := ∃ W : Nat → Nat → List V → St → Hp → Prop,
  (∃ m, W 0 m [] (lcStart k js σ) (upd H1 p (.lst []))) ∧ ∀ i m ys σ' H', W i m ys σ' H' → (J.stop i H' ∧ Q (.ref p) H') ∨
    (J.go i H' ∧ ys.length < sizeLine ∧ ∀ x H2, J.yld i H' x H2 → g x σ' H2 fun σ2 H3 => te σ2 H3 fun y H4 => H4 p = some (.lst ys) ∧ ∃ m', m' < m ∧ W (i + 1) m' (ys ++ [y]) σ2 (upd H4 p (.lst (ys ++ [y]))))
noncomputable def tLc (k : Nat) (js : List Nat) (wi : TI) (g : TG) (te : TE) : TE := fun σ H Q => wi σ H fun J H1 => ∀ p, H1 p = none → LcW k js g te σ Q J H1 p
noncomputable def LcW1 (k : Nat) (js : List Nat) (g : TG) (tc : TT) (te : TE) (σ : St) (Q : VK) (J : It) (H1 : Hp) (p : Addr) : Prop := ∃ W : Nat → Nat → List V → St → Hp → Prop,
  (∃ m, W 0 m [] (lcStart k js σ) (upd H1 p (.lst []))) ∧ ∀ i m ys σ' H', W i m ys σ' H' → (J.stop i H' ∧ Q (.ref p) H') ∨
    (J.go i H' ∧ ys.length < sizeLine ∧ ∀ x H2, J.yld i H' x H2 → g x σ' H2 fun σ2 H3 => tc σ2 H3 fun b H4 => if b = true then te σ2 H4 fun y H5 => H5 p = some (.lst ys) ∧ ∃ m', m' < m ∧ W (i + 1) m' (ys ++ [y]) σ2 (upd H5 p (.lst (ys ++ [y])))
      else ∃ m', m' < m ∧ W (i + 1) m' ys σ2 H4)
noncomputable def tLc1 (k : Nat) (js : List Nat) (wi : TI) (g : TG) (tc : TT) (te : TE) : TE := fun σ H Q => wi σ H fun J H1 => ∀ p, H1 p = none → LcW1 k js g tc te σ Q J H1 p
section
variable {X : Cx} {N : List Str} {scope : Scope} {cl : List (Str × Addr)} {k : Nat} {js : List Nat}
theorem pe_lc {elt tg iter : Expr} {pos : Pos} {wi : TI} {g : TG} {te : TE} (hc : X.calm = true) (L : LcOk X scope cl) (hN : N.length = k + js.length)
    (hj : ∀ (i j : Nat) x, js[i]? = some j → N[k + i]? = some x → X.N[j]? = some x ∧ Vis X.env.scope x ∧ X.env.scope.names.lookup x ≠ some .local ∧ ((relabel scope X.env).names.lookup x = some .cell ∨ (relabel scope X.env).names.lookup x = some .free))
    (hi : PI X tg iter wi) (hg : ∀ s H fp, PG (lcCx X N scope cl s H fp) tg g) (he : ∀ s H fp, PE (lcCx X N scope cl s H fp) elt te)
    (hs : ∀ x, foldedSetIterable iter X.env x = pure x := by intro _; rfl) : PE X (.ListComp elt [⟨tg, iter, [], 0⟩] scope pos) (tLc k js wi g te) := by
  intro pins s σ H Q I h
  rw [eval_ListComp]
  refine wpAny_comprehension_free (use := none) rfl hs L.clos L.kind L.names ?_
  refine thn (hi pins s σ H _ I h) fun v s1 h1 => thn h1 fun itv s2 h2 => ?_
  obtain ⟨it, fp, tn, J, H2, e, I2, T, st2, f2, hW⟩ := h2
  subst e
  have hfp : ∀ b ∈ fp, b < s2.heap.objs.size := fun b hb => by
    obtain ⟨o, e, _⟩ := T.obj _ _ st2 b hb
    exact Heap.lt_size e
  refine wpAny_newObj_type (wpAny_newFunctionEnv L.nocell (by intro y hy; simp at hy) (fun h₁ hns hsb => ?_) L.kind)
  dsimp only at hns hsb ⊢
  obtain ⟨W, ⟨m0, w0⟩, turn⟩ := hW s2.heap.objs.size (I2.hok.fresh (Nat.le_refl _))
  have I3 : Inv X pins σ (upd H2 s2.heap.objs.size (.lst [])) { s2 with heap := s2.heap.push { cls := .type "list", dict := none, data := .seq ([] : List Value).toArray } } := I2.lnew (t' := s2.toks) .nil (Nat.zero_le _)
  generalize hA : s2.heap.push { cls := .type "list", dict := none, data := .seq ([] : List Value).toArray } = hpA at hns hsb I3 ⊢
  have hszA : hpA.objs.size = s2.heap.objs.size + 1 := by rw [← hA, Heap.size_push]
  have keepA : ∀ b o, s2.heap.get? b = some o → hpA.get? b = some o := fun b o e => by rw [← hA]; exact Heap.get?_push_of_some _ e
  have f3 : ∀ b ∈ fp, FpOk X pins (upd H2 s2.heap.objs.size (.lst [])) b := fun b hb => ⟨by rw [upd_ne (Nat.ne_of_lt (hfp b hb))]; exact (f2 b hb).1, (f2 b hb).2⟩
  have hfp3 : ∀ b ∈ fp, b < hpA.objs.size := fun b hb => by rw [hszA]; exact Nat.lt_succ_of_lt (hfp b hb)
  have keep1 : ∀ b o, hpA.get? b = some o → h₁.get? b = some o := fun b o e => hsb.extBut b o (Nat.ne_of_lt (Heap.lt_size e)) (Heap.get?_push_of_some _ e)
  have J0 := lc_start (N := N) (k := k) (js := js) (tk := s2.toks + ([] : List (Str × Value)).length) I3 L f3 hfp3 ⟨_, hns⟩ keep1 hN hj
  have st1 : tn 0 h₁ := T.keep _ _ _ st2 fun b hb o e => keep1 b o (keepA b o e)
  have stat : ∀ {H' : Hp}, (∀ b ∈ fp, H' b = none) → ∀ b ∈ fp, FpOk (lcCx X N scope cl { s2 with heap := hpA } (upd H2 s2.heap.objs.size (.lst [])) fp) [] H' b := fun hn b hb =>
    ⟨hn b hb, Nat.ne_of_lt (hfp3 b hb), (lc_ok (N := N) I3 L f3 hfp3).exfs b hb, .inl hb, fun x c h => (f3 b hb).2.2.2.2.1 x c (L.cells x c h), fun p hp => absurd (show p ∈ ([] : List (Addr × Obj)) from hp) (by simp)⟩
  have loop : codeAny (model X.prog X.w) X.A (.compLoop (.ListComp elt [⟨tg, iter, [], 0⟩] scope pos) 0 (.ref it) (.ref s2.heap.objs.size) (compEnvC scope cl hpA.objs.size X.env))
      (compPost (model X.prog X.w) X.A X.xe none (EP X pins σ Q) (.ref s2.heap.objs.size) hpA.objs.size) { s2 with heap := h₁, toks := s2.toks + ([] : List (Str × Value)).length } := by
    refine lc_loop (fun n s' => ∃ i ys σ' H', Inv (lcCx X N scope cl { s2 with heap := hpA } (upd H2 s2.heap.objs.size (.lst [])) fp) [] σ' H' s' ∧ tn i s'.heap ∧ (∀ b ∈ fp, H' b = none) ∧ W i n ys σ' H') ?_ m0 ⟨0, [], _, _, J0, st1, fun b hb => (f3 b hb).1, w0⟩
    rintro n s3 ⟨i, ys, σ3, H3, J3, st3, fr3, w3⟩
    rcases turn i n ys σ3 H3 w3 with ⟨stop, qn⟩ | ⟨go, hlen, step⟩
    · refine thn (T.done (lcCx X N scope cl { s2 with heap := hpA } (upd H2 s2.heap.objs.size (.lst [])) fp) rfl rfl rfl hc i [] s3 σ3 H3 (fun _ _ => False) J3 (stat fr3) st3 stop) fun r s4 hpt => ?_
      obtain ⟨hr, J4⟩ := hpt
      subst hr
      obtain ⟨m, hm, _⟩ := J4.loc
      exact ⟨m, hm, fun h' hs' => ⟨.ref s2.heap.objs.size, H3, lc_end I3 f3 J4 hs', rfl, qn⟩⟩
    · refine thn (T.item (lcCx X N scope cl { s2 with heap := hpA } (upd H2 s2.heap.objs.size (.lst [])) fp) rfl rfl rfl hc i [] s3 σ3 H3 (fun _ _ => False) J3 (stat fr3) st3 go) fun r s4 hpt => ?_
      obtain ⟨u, hr, h4⟩ := hpt
      subst hr
      refine thn h4 fun _ s5 hpt => ?_
      obtain ⟨x, H5, J5, r5, y5, st5, fr5⟩ := hpt
      have J5' := J5.pinned (stat fr5) (T.obj _ _ st5)
      refine thn (hg _ _ _ _ s5 σ3 H5 x u _ J5' r5 (step x H5 y5)) fun _ s6 hpt => ?_
      obtain ⟨σ6, H6, J6, q6⟩ := hpt
      refine thn (he _ _ _ _ s6 σ6 H6 _ J6 q6) fun y s7 hpt => ?_
      obtain ⟨vy, H7, J7, r7, q7, m', hm', w7⟩ := hpt
      refine thn (mt_append _ s7 σ6 H7 (.ref s2.heap.objs.size) [vy] _ _ (fun _ H8 => H8 = upd H7 s2.heap.objs.size (.lst (ys ++ [vy]))) J7 rfl (.cons r7 .nil) ⟨_, ys, vy, rfl, rfl, q7, hlen, rfl⟩) fun _ s8 hpt => ?_
      obtain ⟨_, H8, J8, _, e8⟩ := hpt
      subst e8
      refine ⟨m', hm', i + 1, ys ++ [vy], σ6, _, J8.unpinned, T.keep _ _ _ st5 fun b hb o e => (J8.pin (b, o) (List.mem_append_right _ (List.mem_append_right _ (mem_pinsAt hb e)))).1, fun b hb => ?_, w7⟩
      obtain ⟨o, e, d⟩ := T.obj _ _ st5 b hb
      exact (J8.pin (b, o) (List.mem_append_right _ (List.mem_append_right _ (mem_pinsAt hb e)))).2.1
  exact codeAny_compStart_list loop (T.self _ 0 _ _ _ st1 loop)
theorem pe_lc1 {elt tg iter c : Expr} {pos : Pos} {wi : TI} {g : TG} {tc : TT} {te : TE} (hc : X.calm = true) (L : LcOk X scope cl) (hN : N.length = k + js.length)
    (hj : ∀ (i j : Nat) x, js[i]? = some j → N[k + i]? = some x → X.N[j]? = some x ∧ Vis X.env.scope x ∧ X.env.scope.names.lookup x ≠ some .local ∧ ((relabel scope X.env).names.lookup x = some .cell ∨ (relabel scope X.env).names.lookup x = some .free))
    (hi : PI X tg iter wi) (hg : ∀ s H fp, PG (lcCx X N scope cl s H fp) tg g) (ht : ∀ s H fp, PT (lcCx X N scope cl s H fp) c tc) (he : ∀ s H fp, PE (lcCx X N scope cl s H fp) elt te)
    (hs : ∀ x, foldedSetIterable iter X.env x = pure x := by intro _; rfl) : PE X (.ListComp elt [⟨tg, iter, [c], 0⟩] scope pos) (tLc1 k js wi g tc te) := by
  intro pins s σ H Q I h
  rw [eval_ListComp]
  refine wpAny_comprehension_free (use := none) rfl hs L.clos L.kind L.names ?_
  refine thn (hi pins s σ H _ I h) fun v s1 h1 => thn h1 fun itv s2 h2 => ?_
  obtain ⟨it, fp, tn, J, H2, e, I2, T, st2, f2, hW⟩ := h2
  subst e
  have hfp : ∀ b ∈ fp, b < s2.heap.objs.size := fun b hb => by
    obtain ⟨o, e, _⟩ := T.obj _ _ st2 b hb
    exact Heap.lt_size e
  refine wpAny_newObj_type (wpAny_newFunctionEnv L.nocell (by intro y hy; simp at hy) (fun h₁ hns hsb => ?_) L.kind)
  dsimp only at hns hsb ⊢
  obtain ⟨W, ⟨m0, w0⟩, turn⟩ := hW s2.heap.objs.size (I2.hok.fresh (Nat.le_refl _))
  have I3 : Inv X pins σ (upd H2 s2.heap.objs.size (.lst [])) { s2 with heap := s2.heap.push { cls := .type "list", dict := none, data := .seq ([] : List Value).toArray } } := I2.lnew (t' := s2.toks) .nil (Nat.zero_le _)
  generalize hA : s2.heap.push { cls := .type "list", dict := none, data := .seq ([] : List Value).toArray } = hpA at hns hsb I3 ⊢
  have hszA : hpA.objs.size = s2.heap.objs.size + 1 := by rw [← hA, Heap.size_push]
  have keepA : ∀ b o, s2.heap.get? b = some o → hpA.get? b = some o := fun b o e => by rw [← hA]; exact Heap.get?_push_of_some _ e
  have f3 : ∀ b ∈ fp, FpOk X pins (upd H2 s2.heap.objs.size (.lst [])) b := fun b hb => ⟨by rw [upd_ne (Nat.ne_of_lt (hfp b hb))]; exact (f2 b hb).1, (f2 b hb).2⟩
  have hfp3 : ∀ b ∈ fp, b < hpA.objs.size := fun b hb => by rw [hszA]; exact Nat.lt_succ_of_lt (hfp b hb)
  have keep1 : ∀ b o, hpA.get? b = some o → h₁.get? b = some o := fun b o e => hsb.extBut b o (Nat.ne_of_lt (Heap.lt_size e)) (Heap.get?_push_of_some _ e)
  have J0 := lc_start (N := N) (k := k) (js := js) (tk := s2.toks + ([] : List (Str × Value)).length) I3 L f3 hfp3 ⟨_, hns⟩ keep1 hN hj
  have st1 : tn 0 h₁ := T.keep _ _ _ st2 fun b hb o e => keep1 b o (keepA b o e)
  have stat : ∀ {H' : Hp}, (∀ b ∈ fp, H' b = none) → ∀ b ∈ fp, FpOk (lcCx X N scope cl { s2 with heap := hpA } (upd H2 s2.heap.objs.size (.lst [])) fp) [] H' b := fun hn b hb =>
    ⟨hn b hb, Nat.ne_of_lt (hfp3 b hb), (lc_ok (N := N) I3 L f3 hfp3).exfs b hb, .inl hb, fun x c h => (f3 b hb).2.2.2.2.1 x c (L.cells x c h), fun p hp => absurd (show p ∈ ([] : List (Addr × Obj)) from hp) (by simp)⟩
  have loop : codeAny (model X.prog X.w) X.A (.compLoop (.ListComp elt [⟨tg, iter, [c], 0⟩] scope pos) 0 (.ref it) (.ref s2.heap.objs.size) (compEnvC scope cl hpA.objs.size X.env))
      (compPost (model X.prog X.w) X.A X.xe none (EP X pins σ Q) (.ref s2.heap.objs.size) hpA.objs.size) { s2 with heap := h₁, toks := s2.toks + ([] : List (Str × Value)).length } := by
    refine lc_loop1 (fun n s' => ∃ i ys σ' H', Inv (lcCx X N scope cl { s2 with heap := hpA } (upd H2 s2.heap.objs.size (.lst [])) fp) [] σ' H' s' ∧ tn i s'.heap ∧ (∀ b ∈ fp, H' b = none) ∧ W i n ys σ' H') ?_ m0 ⟨0, [], _, _, J0, st1, fun b hb => (f3 b hb).1, w0⟩
    rintro n s3 ⟨i, ys, σ3, H3, J3, st3, fr3, w3⟩
    rcases turn i n ys σ3 H3 w3 with ⟨stop, qn⟩ | ⟨go, hlen, step⟩
    · refine thn (T.done (lcCx X N scope cl { s2 with heap := hpA } (upd H2 s2.heap.objs.size (.lst [])) fp) rfl rfl rfl hc i [] s3 σ3 H3 (fun _ _ => False) J3 (stat fr3) st3 stop) fun r s4 hpt => ?_
      obtain ⟨hr, J4⟩ := hpt
      subst hr
      obtain ⟨m, hm, _⟩ := J4.loc
      exact ⟨m, hm, fun h' hs' => ⟨.ref s2.heap.objs.size, H3, lc_end I3 f3 J4 hs', rfl, qn⟩⟩
    · refine thn (T.item (lcCx X N scope cl { s2 with heap := hpA } (upd H2 s2.heap.objs.size (.lst [])) fp) rfl rfl rfl hc i [] s3 σ3 H3 (fun _ _ => False) J3 (stat fr3) st3 go) fun r s4 hpt => ?_
      obtain ⟨u, hr, h4⟩ := hpt
      subst hr
      refine thn h4 fun _ s5 hpt => ?_
      obtain ⟨x, H5, J5, r5, y5, st5, fr5⟩ := hpt
      have J5' := J5.pinned (stat fr5) (T.obj _ _ st5)
      refine thn (hg _ _ _ _ s5 σ3 H5 x u _ J5' r5 (step x H5 y5)) fun _ s6 hpt => ?_
      obtain ⟨σ6, H6, J6, q6⟩ := hpt
      refine thn (ht _ _ _ _ s6 σ6 H6 _ J6 q6) fun b s6 hpt => ?_
      obtain ⟨H6, J6, q6⟩ := hpt
      cases b with
      | true =>
        rw [if_pos rfl] at q6 ⊢
        refine thn (he _ _ _ _ s6 σ6 H6 _ J6 q6) fun y s7 hpt => ?_
        obtain ⟨vy, H7, J7, r7, q7, m', hm', w7⟩ := hpt
        refine thn (mt_append _ s7 σ6 H7 (.ref s2.heap.objs.size) [vy] _ _ (fun _ H8 => H8 = upd H7 s2.heap.objs.size (.lst (ys ++ [vy]))) J7 rfl (.cons r7 .nil) ⟨_, ys, vy, rfl, rfl, q7, hlen, rfl⟩) fun _ s8 hpt => ?_
        obtain ⟨_, H8, J8, _, e8⟩ := hpt
        subst e8
        refine ⟨m', hm', i + 1, ys ++ [vy], σ6, _, J8.unpinned, T.keep _ _ _ st5 fun b hb o e => (J8.pin (b, o) (List.mem_append_right _ (List.mem_append_right _ (mem_pinsAt hb e)))).1, fun b hb => ?_, w7⟩
        obtain ⟨o, e, d⟩ := T.obj _ _ st5 b hb
        exact (J8.pin (b, o) (List.mem_append_right _ (List.mem_append_right _ (mem_pinsAt hb e)))).2.1
      | false =>
        rw [if_neg (by simp)] at q6 ⊢
        obtain ⟨m', hm', w7⟩ := q6
        refine ⟨m', hm', i + 1, ys, σ6, _, J6.unpinned, T.keep _ _ _ st5 fun b hb o e => (J6.pin (b, o) (List.mem_append_right _ (List.mem_append_right _ (mem_pinsAt hb e)))).1, fun b hb => ?_, w7⟩
        obtain ⟨o, e, d⟩ := T.obj _ _ st5 b hb
        exact (J6.pin (b, o) (List.mem_append_right _ (List.mem_append_right _ (mem_pinsAt hb e)))).2.1
  exact codeAny_compStart_list loop (T.self _ 0 _ _ _ st1 loop)
end
end L2
set_option Elab.async false
set_option linter.all false
set_option maxRecDepth 100000
namespace L2
open PySem PySem.Spec PyProof.Rows
section
variable {X : Cx} {tg : Expr}
theorem call_isinst : CallR X (.builtin "isinstance") (fun xs H Q => ∃ x n t b, xs = [x, .ty n] ∧ TyOf X.K H x t ∧ PySem.W.kitOne X.K t (.type n) = some b ∧ Q (.bl b) H) := by
  intro pins s σ H xs us Q I r h
  obtain ⟨x, n, t, b, rfl, ty, e, q⟩ := h
  obtain ⟨u, u', rfl, ru, ru'⟩ := vals2 r
  cases (show u' = Value.type n from ru')
  exact isinst_ok I ru ty e fun tk => ⟨.bl b, H, I.tok tk, rfl, q⟩
theorem tkey {pins : List (Addr × Obj)} {σ : St} {H : Hp} {s : Shared} {a : Addr} {ks : List Key} (I : Inv X pins σ H s) (h : H a = some (.tup (ks.map kV))) (P : Program) (w : World) : IsTupleKey (mixKind P w) s.heap ks a := by
  obtain ⟨_, its, r, o, e, c, n, d⟩ := I.hok a _ h
  exact ⟨o, its.toArray, n, e, c, d, by simpa using items_are r⟩
theorem vals_refs : ∀ {as : List Addr} {us : List Value}, Vals (as.map V.ref) us → us = as.map Value.ref
  | [], _, .nil => rfl
  | b :: bs, _, .cons r t => by
    have e : _ = Value.ref b := r
    rw [e, vals_refs t]; rfl
theorem op_notIn_tups (hu : X.A.units + 1 < cLine) : OpR X (compareOp .NotIn) (fun x y H Q => ∃ a p ks, ∃ kss : List (Addr × List Key), x = .ref a ∧ H a = some (.tup (ks.map kV)) ∧ y = .ref p ∧ SqL X.K H p ((kss.map (·.1)).map V.ref) ∧
    (∀ z ∈ kss, H z.1 = some (.tup (z.2.map kV))) ∧ Q (.bl (!(kss.any fun z => decide (z.2 = ks)))) H) := by
  intro pins s σ H x y v u Q I rx ry h
  obtain ⟨a, p, ks, kss, rfl, ha, rfl, hq, hk, q⟩ := h
  cases rx
  cases ry
  obtain ⟨its, rv, pl, hz⟩ := I.list hq
  have e := vals_refs rv
  subst e
  let e : Value → Bool := fun v => match v with | .ref b => ((kss.find? fun z => z.1 == b).map fun z => decide (z.2 = ks)).getD false | _ => false
  have he : ∀ z ∈ kss, e (.ref z.1) = decide (z.2 = ks) := fun z hz' => by
    show ((kss.find? fun y => y.1 == z.1).map fun z => decide (z.2 = ks)).getD false = _
    cases ef : kss.find? fun y => y.1 == z.1 with
    | none => have := List.find?_eq_none.mp ef z hz'; simp at this
    | some y =>
      have h1 := List.find?_some ef
      have h2 := List.mem_of_find?_eq_some ef
      have e1 : y.1 = z.1 := by simpa using h1
      have e2 := hk y h2
      rw [e1, hk z hz'] at e2
      have e3 : z.2.map kV = y.2.map kV := by injection (Option.some.inj e2)
      rw [kVs_inj e3]; rfl
  refine SeqAt.notIn_listAt e pl.isList (fun y hy => ?_) ⟨.bl _, H, I, rfl, ?_⟩
  · have hy' : y ∈ (kss.map (·.1)).map Value.ref := by simpa using hy
    obtain ⟨b, hb, rfl⟩ := List.mem_map.mp hy'
    obtain ⟨z, hz', rfl⟩ := List.mem_map.mp hb
    rw [he z hz']
    intro prog w E' Q' hQ
    exact wpAny_eqBool_tuple (knd := mixKind prog w) (by simp; exact hu) (tkey I (hk z hz') prog w) (tkey I ha prog w) hQ
  · have e1 : (((kss.map (·.1)).map Value.ref).toArray.any e) = kss.any fun z => decide (z.2 = ks) := by
      rw [List.any_toArray, List.any_map, List.any_map]
      apply Bool.eq_iff_iff.mpr
      rw [List.any_eq_true, List.any_eq_true]
      constructor
      · rintro ⟨z, hz', h1⟩; exact ⟨z, hz', by rw [← he z hz']; exact h1⟩
      · rintro ⟨z, hz', h1⟩; exact ⟨z, hz', by show e (.ref z.1) = true; rw [he z hz']; exact h1⟩
    rw [e1]
    exact q
end
end L2
set_option Elab.async false
set_option linter.all false
set_option maxRecDepth 100000
namespace L2
open PySem PySem.Spec PyProof.Rows
section
variable {X : Cx} {tg : Expr}
theorem call_rng2 : CallR X (.type "range") (fun xs H Q => ∃ i j, xs = [.int i, .int j] ∧ ∀ p, H p = none → Q (.ref p) (upd H p (.rng i j))) := by
  intro pins s σ H xs us Q I r h
  obtain ⟨i, j, rfl, q⟩ := h
  obtain ⟨u, u', rfl, ⟨t, rfl⟩, ⟨t', rfl⟩⟩ := vals2 r
  refine call_range_2 ⟨.ref s.heap.objs.size, _, I.laid (t' := s.toks + 1) (o := .rng i j) (fun b ob q => Heap.get?_push_of_some _ q) (Nat.le_refl _) ?_, rfl, q _ (I.hok.fresh (Nat.le_refl _))⟩
  exact ⟨t, t', _, Heap.get?_push_size _ rfl⟩
theorem vals_items {lo : Int} {n : Nat} {acc : Array Value} (h : ItemsOf (fun i v => ∃ t, v = .int (lo + i * 1) t) acc n) : Vals ((List.range n).map fun k => V.int (lo + (k : Nat))) acc.toList := by
  obtain ⟨h1, h2⟩ := h
  have key : ∀ (l : List Value) (k : Nat), (∀ (i : Nat) (v : Value), l[i]? = some v → ∃ t, v = Value.int (lo + (k + i : Nat)) t) → Vals ((List.range' k l.length).map fun k => V.int (lo + (k : Nat))) l := by
    intro l
    induction l with
    | nil => intro k _; exact .nil
    | cons v l ih =>
      intro k hv
      rw [List.length_cons, List.range'_succ, List.map_cons]
      refine .cons ?_ (ih (k + 1) fun i w hw => ?_)
      · obtain ⟨t, e⟩ := hv 0 v rfl
        exact ⟨t, e⟩
      · obtain ⟨t, e⟩ := hv (i + 1) w hw
        exact ⟨t, by rw [e, show k + (i + 1) = k + 1 + i by omega]⟩
  have hl : acc.toList.length = n := by simpa using h1
  have := key acc.toList 0 fun i v hv => by
    have hv' : acc[i]? = some v := by simpa using hv
    obtain ⟨t, e⟩ := h2 i v hv'
    exact ⟨t, by rw [e, Int.mul_one, Nat.zero_add]⟩
  rw [hl] at this
  rw [List.range_eq_range']
  exact this
theorem call_list_rng (hc : X.calm = true) : CallR X (.type "list") (fun xs H Q => ∃ p i j, xs = [.ref p] ∧ H p = some (.rng i j) ∧ (-(2 ^ 62) ≤ i ∧ i < 2 ^ 62 ∧ -(2 ^ 62) ≤ j ∧ j < 2 ^ 62) ∧ (j - i).toNat ≤ 1000 ∧
    ∀ l, H l = none → Q (.ref l) (upd H l (.lst ((List.range (j - i).toNat).map fun k => V.int (i + (k : Nat)))))) := by
  intro pins s σ H xs us Q I r h
  obtain ⟨p, i, j, rfl, hp, ⟨b1, b2, b3, b4⟩, hn, q⟩ := h
  obtain ⟨u, rfl, rx⟩ := vals1 r
  cases rx
  obtain ⟨t, t', t'', e⟩ := (show ObjOk X.prog X.w H s.heap p (.rng i j) from I.hok p _ hp)
  have hsz : Builtin.Range.rangeSize i j 1 = ((j - i).toNat : Nat) := by rw [rangeSize_one]; split <;> omega
  refine call_list_range (n := (j - i).toNat) (I.ok.hd hc) e (small_one b1 b2 b3 b4) hsz (by omega) fun h' tk acc c' kp hg hi => ?_
  refine ⟨.ref s.heap.objs.size, _, I.laid (t' := tk) kp (Nat.le_refl _) (show ObjOk X.prog X.w _ h' _ (.lst _) from ⟨?_, acc.toList, c', vals_items hi, by simpa using hg⟩), rfl, q _ (I.hok.fresh (Nat.le_refl _))⟩
  rw [List.length_map, List.length_range, sizeLine_eq]; omega
theorem op_eq_lst0 (hu : X.A.units < cLine) : OpR X (compareOp .Eq) (fun x y H Q => ∃ a b xs, x = .ref a ∧ y = .ref b ∧ SqL X.K H a xs ∧ SqL X.K H b [] ∧ Q (.bl (decide (xs = []))) H) := by
  intro pins s σ H x y v u Q I rx ry h
  obtain ⟨a, b, xs, rfl, rfl, ha, hb, q⟩ := h
  cases rx
  cases ry
  obtain ⟨its, r1, ht, _⟩ := I.list ha
  obtain ⟨its2, r2, hb', _⟩ := I.list hb
  cases r2
  by_cases e : xs = []
  · subst e
    cases r1
    refine SeqAt.eq_listAt (e := fun _ => true) ht.isList hb'.isList rfl hu (fun j h1 h2 => absurd h2 (by simp)) ⟨.bl _, H, I, ?_, q⟩
    rfl
  · have e2 : its ≠ [] := fun z => e (r1.nil_iff.mp z)
    have e3 : its.length ≠ 0 := fun z => e2 (List.length_eq_zero_iff.mp z)
    refine SeqAt.eq_list_lengthsAt ht.isList hb'.isList (by simp [e3]) hu ⟨.bl _, H, I, ?_, q⟩
    show _ = Value.bool _
    simp [e]
end
end L2
set_option Elab.async false
set_option linter.all false
set_option maxRecDepth 100000
namespace ZT
open PySem PySem.SeqAt
section
variable {prog : Program} {w : World} {A : Around} {E : Value → Shared → Prop} {s : Shared}
end
end ZT
set_option Elab.async false
set_option linter.all false
set_option maxRecDepth 100000
namespace L2
open PySem PySem.Spec PyProof.Rows
section
variable {X : Cx} {tg : Expr}
end
end L2
set_option Elab.async false
set_option linter.all false
set_option maxRecDepth 100000
namespace L2
open PySem PySem.Spec PyProof.Rows
section
variable {X : Cx}
noncomputable abbrev Tup1 := Addr × Int × List V
noncomputable def numAt (zs : List Tup1) (i : Nat) : Int := (zs.getD i (0, 0, [])).2.1
theorem ord_of {zs : List Tup1} (h : (zs.map (·.2.1)).Nodup) : SRT.Ord (fun i j => decide (numAt zs i < numAt zs j)) zs.length := by
  refine ⟨fun i _ => by simp, fun i j k _ _ _ h1 h2 => ?_, fun i j hi hj hij => ?_⟩
  · simp only [decide_eq_true_eq] at *; omega
  · simp only [decide_eq_true_eq]
    have : numAt zs i ≠ numAt zs j := by
      unfold numAt
      rw [List.getD_eq_getElem?_getD, List.getD_eq_getElem?_getD, List.getElem?_eq_getElem hi, List.getElem?_eq_getElem hj]
      intro e
      have e' : (zs.map (·.2.1))[i]'(by simpa using hi) = (zs.map (·.2.1))[j]'(by simpa using hj) := by simpa using e
      exact hij ((List.getElem_inj h).mp e')
    omega
theorem lex_same {prog : Program} {w : World} {A : Around} {s : Shared} {b : Bool} {Q : Bool → Shared → Prop} (h : Q false s) : ∀ (l : List Value) (i : Nat), PySem.W.KatLex prog w A b false Q (l.zip l) i s
  | [], i => h
  | v :: l, i => PySem.W.kat_cons (SeqAt.EqAt.same v prog w _ _ (PySem.W.kat_yes (lex_same h l (i + 1))))
theorem call_sorted_tupsS : CallR X (.builtin "sorted") (fun xs H Q => ∃ l, ∃ zs : List Tup1, xs = [.ref l] ∧ (SqL X.K H l ((zs.map (·.1)).map V.ref) ∨ SqT X.K H l ((zs.map (·.1)).map V.ref)) ∧ (∀ z ∈ zs, H z.1 = some (.tup (.int z.2.1 :: z.2.2))) ∧ (zs.map (·.2.1)).Nodup ∧ zs.length < 64 ∧
    ∀ zs' : List Tup1, zs'.Perm zs → zs'.Pairwise (fun a b => a.2.1 < b.2.1) → ∀ p, H p = none → Q (.ref p) (upd H p (.lst ((zs'.map (·.1)).map V.ref)))) := by
  intro pins s σ H xs us Q I r h
  obtain ⟨l, zs, rfl, hq, hk, hnd, h64, q⟩ := h
  obtain ⟨u, rfl, ru⟩ := vals1 r
  cases ru
  obtain ⟨its, rv, pl⟩ : ∃ its, Vals ((zs.map (·.1)).map V.ref) its ∧ (s.heap.IsList l its.toArray ∨ IsTup s.heap l its.toArray) := by
    rcases hq with hq | hq
    · obtain ⟨its, rv, pl, hz⟩ := I.list hq
      exact ⟨its, rv, .inl pl.isList⟩
    · obtain ⟨its, rv, pl, hz⟩ := I.tuple hq
      exact ⟨its, rv, .inr pl⟩
  have e := vals_refs rv
  subst e
  have hlen : ((zs.map (·.1)).map Value.ref).length = zs.length := by simp
  have hobj : ∀ z ∈ zs, ∃ o its n t, s.heap.get? z.1 = some o ∧ o.cls = .type "tuple" ∧ o.data = .seq its n ∧ its.toList = .int z.2.1 t :: its.toList.drop 1 := fun z hz' => by
    obtain ⟨_, its, rr, o, e1, e2, n, e3⟩ := I.hok z.1 _ (hk z hz')
    cases rr with
    | cons r1 r2 =>
      obtain ⟨t, rfl⟩ := r1
      exact ⟨o, _, n, t, e1, e2, e3, by simp⟩
  have hget : ∀ i, i < zs.length → ((zs.map (·.1)).map Value.ref).getD i Value.none = .ref (zs.getD i (0, 0, [])).1 ∧ zs.getD i (0, 0, []) ∈ zs := fun i hi => by
    rw [List.getD_eq_getElem?_getD, List.getD_eq_getElem?_getD, List.getElem?_map, List.getElem?_map, List.getElem?_eq_getElem hi]
    exact ⟨rfl, List.getElem_mem hi⟩
  refine SRT.sorted_byS (κ := tuples' true) (f := fun i j => decide (numAt zs i < numAt zs j)) (by rw [hlen]; exact ord_of hnd) pl (by rw [hlen]; exact h64) ?kind ?less ?fin
  case kind =>
    intro A' s' _ kp Q' h2 hQ'
    have key : ∀ ys : List Tup1, (∀ z ∈ ys, z ∈ zs) → ∃ fs : List Value, PySem.W.KatTups s'.heap ((ys.map (·.1)).map Value.ref) fs ∧ fs.length = ys.length ∧ ∀ v ∈ fs, ∃ i t, v = Value.int i t := by
      intro ys
      induction ys with
      | nil => intro _; exact ⟨[], PySem.W.KatTups.nil, rfl, fun v hv => by simp at hv⟩
      | cons z ys ih =>
        intro hm
        obtain ⟨fs, h1, h2', h3⟩ := ih fun y hy => hm y (by simp [hy])
        obtain ⟨o, its, n, t, e1, e2, e3, e4⟩ := hobj z (hm z (by simp))
        refine ⟨.int z.2.1 t :: fs, PySem.W.KatTups.cons (kp _ _ e1) e2 e3 ?_ h1, by simp [h2'], fun v hv => ?_⟩
        · rw [← Array.getElem?_toList, e4]; rfl
        · rcases List.mem_cons.mp hv with rfl | hv
          · exact ⟨_, _, rfl⟩
          · exact h3 v hv
    obtain ⟨fs, h1, h2', h3⟩ := key zs fun z hz' => hz'
    refine PySem.W.kat_kind (T := .type "int") h1 (by rw [h2']; rw [hlen] at h2; omega) (fun v hv => ?_) (by rfl) hQ'
    obtain ⟨i, t, rfl⟩ := h3 v hv
    exact .now
  case less =>
    intro A' s' _ kp i j C hi hj hC
    rw [hlen] at hi hj
    obtain ⟨gi, mi⟩ := hget i hi
    obtain ⟨gj, mj⟩ := hget j hj
    rw [gi, gj]
    obtain ⟨oi, ii, ni, ti, a1, a2, a3, a4⟩ := hobj _ mi
    obtain ⟨oj, ij, nj, tj, b1, b2, b3, b4⟩ := hobj _ mj
    refine PySem.W.kat_lt (kp _ _ a1) a3 (kp _ _ b1) b3 ?_
    by_cases hij : i = j
    · subst hij
      rw [a1] at b1
      cases b1
      rw [a3] at b3
      cases b3
      have : C false s' := by simpa using hC
      have e2 : decide (ii.size < ii.size) = false := by simp
      rw [e2]
      exact lex_same this _ _
    · have hne : numAt zs i ≠ numAt zs j := by
        rcases (ord_of hnd).tot i j hi hj hij with h1 | h1 <;> simp only [decide_eq_true_eq] at h1 <;> omega
      rw [a4, b4]
      refine PySem.W.kat_cons (wpAny_eqBool_int ?_)
      have e2 : ((zs.getD i (0, 0, [])).2.1 == (zs.getD j (0, 0, [])).2.1) = false := beq_eq_false_iff_ne.mpr hne
      rw [e2]
      refine PySem.W.kat_no ?_
      exact PySem.W.kat_lt_int hC
  case fin =>
    intro p h' hrow hup kp _ hg
    obtain ⟨c, hg⟩ := hg
    rw [hlen] at hrow hup
    obtain ⟨zs', hzs'⟩ : ∃ zs', zs' = p.toList.map fun i => zs.getD i (0, 0, []) := ⟨_, rfl⟩
    have hperm : zs'.Perm zs := by
      rw [hzs']
      refine (hrow.perm.map _).trans ?_
      have : (List.range zs.length).map (fun i => zs.getD i (0, 0, [])) = zs := by
        apply List.ext_getElem?
        intro i
        rw [List.getElem?_map]
        by_cases hi : i < zs.length
        · rw [List.getElem?_range hi, List.getElem?_eq_getElem hi]
          show some (zs.getD i (0, 0, [])) = _
          rw [List.getD_eq_getElem?_getD, List.getElem?_eq_getElem hi]; rfl
        · rw [List.getElem?_eq_none (by rw [List.length_range]; omega), List.getElem?_eq_none (by omega)]; rfl
      rw [this]
    have hpl : p.size = zs.length := hrow.size
    have hpw : zs'.Pairwise (fun a b => a.2.1 < b.2.1) := by
      rw [List.pairwise_iff_getElem]
      intro i j hi hj hij
      have hi' : i < p.size := by rw [hzs', List.length_map, Array.length_toList] at hi; exact hi
      have hj' : j < p.size := by rw [hzs', List.length_map, Array.length_toList] at hj; exact hj
      have := hup i j hij (by omega)
      simp only [decide_eq_true_eq, numAt] at this
      rw [Array.getD_eq_getD_getElem?, Array.getD_eq_getD_getElem?, Array.getElem?_eq_getElem hi', Array.getElem?_eq_getElem hj'] at this
      simpa [hzs'] using this
    have hout : (List.toArray (p.toList.map fun i => ((zs.map (·.1)).map Value.ref).getD i Value.none)) = ((zs'.map (·.1)).map Value.ref).toArray := by
      congr 1
      rw [hzs']
      simp only [List.map_map]
      apply List.map_congr_left
      intro i hi
      have hi' : i < zs.length := List.mem_range.mp (hrow.perm.mem_iff.mp hi)
      have := (hget i hi').1
      simp only [List.map_map] at this
      exact this
    rw [hout] at hg
    have hv : Vals ((zs'.map (·.1)).map V.ref) ((zs'.map (·.1)).map Value.ref) := by
      generalize zs'.map (·.1) = as
      induction as with
      | nil => exact .nil
      | cons a as ih => exact .cons rfl ih
    refine ⟨.ref (s.heap.objs.size + 1), _, I.laid (t' := s.toks) (o := .lst ((zs'.map (·.1)).map V.ref)) kp (Nat.le_succ _) ⟨?_, _, c, hv, hg⟩, rfl, q zs' hperm hpw _ (I.hok.fresh (Nat.le_succ _))⟩
    rw [List.length_map, List.length_map, hperm.length_eq, sizeLine_eq]; omega
theorem call_sorted_tups : CallR X (.builtin "sorted") (fun xs H Q => ∃ l, ∃ zs : List Tup1, xs = [.ref l] ∧ SqL X.K H l ((zs.map (·.1)).map V.ref) ∧ (∀ z ∈ zs, H z.1 = some (.tup (.int z.2.1 :: z.2.2))) ∧ (zs.map (·.2.1)).Nodup ∧ zs.length < 64 ∧
    ∀ zs' : List Tup1, zs'.Perm zs → zs'.Pairwise (fun a b => a.2.1 < b.2.1) → ∀ p, H p = none → Q (.ref p) (upd H p (.lst ((zs'.map (·.1)).map V.ref)))) :=
  fun pins s σ H xs us Q I r ⟨l, zs, e, hq, h⟩ => call_sorted_tupsS pins s σ H xs us Q I r ⟨l, zs, e, .inl hq, h⟩
end
end L2
set_option Elab.async false
set_option linter.all false
set_option maxRecDepth 100000
namespace L2
open PySem PySem.Spec PyProof.Rows
theorem relabel_same {scope : Scope} {env : Env} (h : ∀ y ∈ scope.names, y.2 ≠ .free) : relabel scope env = scope := by
  unfold relabel
  rw [map_eq_self (l := scope.names) (fun x hx => by
    obtain ⟨n, k⟩ := x
    have : (k == NameKind.free) = false := by simpa using h _ hx
    simp [this])]
theorem lc_ok0 {X : Cx} {scope : Scope} (hk : scope.kind = .function) (hf : ∀ y ∈ scope.names, y.2 ≠ .free) (hc : ∀ y ∈ scope.names, y.2 ≠ .cell) (hn : ∀ x ∈ scope.names, x.2 = .local → scope.names.lookup x.1 = some .local) : LcOk X scope [] :=
  ⟨hk, closureFor_none hf, hn, hc, fun x c h => by simp at h, fun x h => by
    rw [relabel_same hf] at h
    rcases h with h | h
    · exact absurd rfl (hc _ (PySem.mem_of_lookup h))
    · exact absurd rfl (hf _ (PySem.mem_of_lookup h))⟩
theorem lc_by {k : Nat} {js : List Nat} {J : It} {g : TG} {te : TE} {σ : St} {H1 : Hp} {Q : VK} {p : Addr} (n : Nat) (hn : n ≤ 1000) (Pv : Nat → List V → St → Hp → Prop) (h0 : Pv 0 [] (lcStart k js σ) (upd H1 p (.lst [])))
    (hy : ∀ i ys σ' H', Pv i ys σ' H' → ys.length ≤ i) (go : ∀ i ys σ' H', i < n → Pv i ys σ' H' → J.go i H') (stop : ∀ ys σ' H', Pv n ys σ' H' → J.stop n H' ∧ Q (.ref p) H')
    (step : ∀ i ys σ' H', i < n → Pv i ys σ' H' → ∀ x H2, J.yld i H' x H2 → g x σ' H2 fun σ2 H3 => te σ2 H3 fun y H4 => H4 p = some (.lst ys) ∧ Pv (i + 1) (ys ++ [y]) σ2 (upd H4 p (.lst (ys ++ [y]))))
    (mg : ∀ x σ H (Q Q' : St → Hp → Prop), (∀ σ H, Q σ H → Q' σ H) → g x σ H Q → g x σ H Q') (me : ∀ σ H (Q Q' : VK), (∀ y H, Q y H → Q' y H) → te σ H Q → te σ H Q') :
    LcW k js g te σ Q J H1 p := by
  refine ⟨fun i m ys σ' H' => m = n - i ∧ i ≤ n ∧ Pv i ys σ' H', ⟨n, by simp, Nat.zero_le _, h0⟩, ?_⟩
  rintro i m ys σ' H' ⟨rfl, hi, hp⟩
  by_cases hlt : i < n
  · refine .inr ⟨go i ys σ' H' hlt hp, ?_, fun x H2 y => ?_⟩
    · have := hy i ys σ' H' hp
      exact Nat.lt_of_le_of_lt this (small1000 (by omega))
    · refine mg _ _ _ _ _ (fun σ2 H3 h3 => me _ _ _ _ (fun z H4 h4 => ⟨h4.1, n - (i + 1), by omega, rfl, hlt, h4.2⟩) h3) (step i ys σ' H' hlt hp x H2 y)
  · have e : i = n := by omega
    subst e
    exact .inl (stop ys σ' H' hp)
theorem same_upd {H : Hp} {p : Addr} {o : HO} (h : H p = none) : Same H (upd H p o) := fun b u e => by rw [upd_ne (ne_of_none e h)]; exact e
theorem upd_keep {H : Hp} {p a : Addr} {o u : HO} (h : H p = none) (e : H a = some u) : upd H p o a = some u := by rw [upd_ne (ne_of_none e h)]; exact e
theorem same_over {H0 H : Hp} {p : Addr} {o : HO} (h0 : H0 p = none) (s : Same H0 H) : Same H0 (upd H p o) := fun b u e => by
  rw [upd_ne (ne_of_none e h0)]
  exact s b u e
end L2
set_option Elab.async false
set_option linter.all false
set_option maxRecDepth 100000
namespace L2
open PySem PySem.Spec PyProof.Rows
section
variable {P : Program} {w : World} {l : List Env} {H H' : Hp} {h1 h2 h3 B : Heap} {ea : Addr} {cls a0 : Value}
end
section
variable {X : Cx} {pins : List (Addr × Obj)} {σ : St} {H H' : Hp} {s s' : Shared} {ea C : Addr} {E : XK}
end
end L2
set_option linter.all false
set_option Elab.async false
set_option maxRecDepth 100000
namespace XI
open PySem PySem.Spec PySem.W
section
variable {prog : Program} {w : World} {A : Around} {E : Value → Shared → Prop} {h : Heap} {g : Array GenState} {d : Drawn} {t : Nat} {os : OsState} {a : Addr} {o : Obj} {vs : Array Value}
  {nm q : Str} {C N : Addr} {bs bm : List Value} {hdct : Bool} {sn : List Str} {sub : List Value} {ab : Bool} {col : Option Bool} {dd : Option Addr} {k0 k1 k2 k3 k5 : Option Value} {newId : String}
end
end XI
set_option Elab.async false
set_option linter.all false
set_option maxRecDepth 100000
namespace L2
open PySem PySem.Spec PyProof.Rows
section
variable {X : Cx}
end
end L2
set_option Elab.async false
set_option linter.all false
set_option maxRecDepth 100000
namespace L2
open PySem PySem.Spec PyProof.Rows
section
variable {X : Cx} {pins : List (Addr × Obj)} {σ : St} {H : Hp} {s : Shared}
end
section
variable {X : Cx}
end
end L2
set_option linter.all false
set_option Elab.async false
set_option maxRecDepth 100000
namespace DL
open PySem PySem.Spec PyProof.Rows
theorem entry_loop : entryFor table "dict.update.loop" = some Builtin.«dict.update.loop» := entryFor_of_tree (by kernel_rfl)
theorem plain_loop : plainId "dict.update.loop" = true := by decide +kernel
theorem list_no_keys : typeLookup (.type "list") "keys" = pure none := by rw [typeLookup_type, builtinLookup_eq_fast]; kernel_rfl
section
variable {prog : Program} {w : World} {A : Around} {E : Value → Shared → Prop} {s : Shared}
theorem miss_by {a : Addr} {xs : Array Value} {k : Nat} {sl : Array (Option Value)} {u : Tok} {Q : Value → Shared → Prop} (hx : s.heap.get? a = some { cls := .type "list", dict := none, data := .seq xs k, slots := sl }) (hA : A.handled = none)
    (h : ∀ h' tk e, Heap.NewExcOf s.heap h' e "AttributeError" → E (.ref e) { s with heap := h', toks := tk }) :
    wpAny (model prog w) A (getAttrBy (.ref a) (.str "keys" u) false) Q E s := by
  obtain ⟨hp, g, d, tk, os⟩ := s
  have hT : ∀ tk', (⟨hp, g, d, tk', os⟩ : Shared).TypeIs (.ref a) "list" := fun _ => ⟨_, hx, rfl⟩
  have f1 := sub_AttributeError
  have f3 := F.slot_list_getattribute.lookup
  have f4 := F.slot_list_getattribute.bind (.ref a)
  have f5 := am_list_getattr_none
  unfold getAttrBy
  repeat (any_goals (first | assumption | exact hT _ | ((with_reducible show wpAny _ _ (call (Value.builtin "list.__getattribute__") _ _) _ _ _); refine call_meets F.slot_list_getattribute (hT _) am_entry_list_getattribute (F.args_list_getattribute_2 _ _) (meets_getattribute_miss_list a xs k sl "keys" _ list_no_keys (by decide) (by size_fits)) ⟨hx, hA, fun h' tk' e hx' => ?_⟩) | wp_step))
  obtain ⟨t', u', he⟩ := hx'.there
  show wpAny _ _ (getattributeRaised _ _ _ _ _ _ _) _ _ _
  unfold getattributeRaised
  repeat (any_goals (first | assumption | wp_step))
  exact h _ _ _ hx'.of
theorem no_keys {a : Addr} {xs : Array Value} {k : Nat} {sl : Array (Option Value)} {Q : Option Value → Shared → Prop} (hx : s.heap.get? a = some { cls := .type "list", dict := none, data := .seq xs k, slots := sl }) (hA : A.handled = none)
    (h : ∀ h' tk, (∀ b o, s.heap.get? b = some o → h'.get? b = some o) → Q none { s with heap := h', toks := tk }) :
    wpAny (model prog w) A (getAttr? (.ref a) "keys") Q E s := by
  obtain ⟨hp, g, d, tk, os⟩ := s
  have f1 := sub_AttributeError
  unfold getAttr? getAttrBy?
  repeat (any_goals (first | assumption | ((with_reducible show wpAny _ _ (getAttrBy _ _ false) _ _ _); refine miss_by (s := ⟨hp, g, d, _, os⟩) hx hA fun h' tk' e hx' => ?_) | wp_step))
  obtain ⟨⟨oc, od, odt, osl⟩, vs, he, hc, _, _⟩ := hx'.there
  simp only at hc
  subst hc
  repeat (any_goals (first | assumption | with_reducible refine wpAny_loadPart_at he ?_ | wp_step))
  exact h h' tk' fun b o e => hx'.keeps b o e
end
section
variable {prog : Program} {w : World} {A : Around} {E : Value → Shared → Prop} {R : Result → Shared → Prop} {I : Addr} {fp wr : List Addr} {G : Array GenState → Array GenState → Prop} {n : Nat} {P : Nat → Value → Prop} {St : Nat → Shared → Prop}
theorem code_loop (W : WalksS prog w A.in1 I fp wr G n P St) (d : Addr) (hdf : d ∉ fp) (ad : Nat → Addr) (kk vv : Nat → Value) (hval : ∀ i v, P i v → v = .ref (ad i)) (had : ∀ i, i < n → ad i ∉ d :: wr)
    (D : Nat → Heap → Prop) (hD : ∀ i (h h' : Heap), D i h → (∀ b o, b ∉ wr → h.get? b = some o → h'.get? b = some o) → D i h')
    (step : ∀ i (s : Shared) (E : Value → Shared → Prop) (Q : Unit → Shared → Prop), i < n → D i s.heap → (∀ h' tk, s.toks ≤ tk → Heap.SameBut d s.heap h' → D (i + 1) h' → Q () { s with heap := h', toks := tk }) → wpAny (model prog w) A.in1 (dictSet d (kk i) (vv i)) Q E s) :
    ∀ (k i : Nat) (s : Shared) (tk : Tok), n - i = k → i ≤ n → St i s → D i s.heap → (∀ j, j < n → IsTup s.heap (ad j) #[kk j, vv j]) →
      (∀ s', Moved (d :: wr) G s s' → D n s'.heap → R (.ok (.ret .none)) s') →
      codeAny (model prog w) A (.builtin "dict.update.loop" ⟨[.ref d, .ref I, .int i tk, .none], []⟩) R s := by
  have hdw : d ∉ wr := fun h => hdf (W.sub _ h)
  have hsub : ∀ b ∈ wr, b ∈ d :: wr := fun b hb => List.mem_cons_of_mem _ hb
  have hadw : ∀ i, i < n → ad i ∉ wr := fun i hi h => had i hi (List.mem_cons_of_mem _ h)
  have hadd : ∀ i, i < n → ad i ≠ d := fun i hi h => had i hi (by rw [h]; exact List.mem_cons_self)
  intro k
  induction k with
  | zero =>
    intro i s tk hk hi hst hDi htp hR
    have hin : i = n := by omega
    subst hin
    refine codeAny_builtin entry_loop ?_
    rw [Around.under_plainId plain_loop _]
    show wpAny _ A.in1 (pyNext (.ref I) >>= _) _ _ s
    refine wpAny_bind (W.done s _ _ hst fun s' hm => ?_)
    show wpAny _ A.in1 (Builtin.Dict.addKeywords d [] >>= fun _ => ret Value.none) _ _ s'
    exact wpAny_bind (wpAny_pure (wpAny_pure (hR s' (hm.mono hsub) (hD _ _ _ hDi hm.heap))))
  | succ k ih =>
    intro i s tk hk hi hst hDi htp hR
    have hlt : i < n := by omega
    refine codeAny_builtin entry_loop ?_
    rw [Around.under_plainId plain_loop _]
    show wpAny _ A.in1 (pyNext (.ref I) >>= _) _ _ s
    refine wpAny_bind (W.item i s _ _ hlt hst fun v s' hP hst' hm => ?_)
    have hv := hval i v hP
    subst hv
    have hDi' : D i s'.heap := hD _ _ _ hDi hm.heap
    have htp' : ∀ j, j < n → IsTup s'.heap (ad j) #[kk j, vv j] := fun j hj => by
      obtain ⟨o, ho, r⟩ := htp j hj
      exact ⟨o, hm.heap _ o (hadw j hj) ho, r⟩
    obtain ⟨ot, hot, hct, nt, hdt⟩ := htp' i hlt
    have hT : s'.TypeIs (.ref (ad i)) "tuple" := ⟨ot, hot, hct⟩
    refine wpAny_bind (wpAny_holding ?_)
    refine wpAny_bind (wpAny_tryCatch ?_)
    unfold Builtin.Dict.pairItems
    refine wpAny_bind (wpAny_typeOf hT ?_)
    rw [if_pos (by decide)]
    generalize hDS : dictSet = DS
    obtain ⟨hp, g, dr, t, os⟩ := s'
    obtain ⟨ocls, odict, odata, oslots⟩ := ot
    simp only at hct hdt
    subst hct hdt
    repeat (any_goals (first | assumption | with_reducible refine wpAny_loadPart_at hot ?_ | wp_step))
    subst hDS
    refine step i _ _ _ hlt hDi' fun h' tk' htk hsb hD' => ?_
    have hsb' : Heap.SameBut d hp h' := hsb
    have hkeep : ∀ b o, b ∉ d :: wr → hp.get? b = some o → h'.get? b = some o := fun b o hb e => by
      rw [hsb'.2 b (fun z : b = d => hb (by rw [z]; exact List.mem_cons_self))]; exact e
    refine wpAny_pure ⟨plainId_quiet plain_loop _, ?_⟩
    refine ih (i + 1) _ _ (by omega) hlt (W.frame _ _ _ _ hst' htk fun b hb o e => ?_) hD' (fun j hj => ?_) fun s'' hm'' hD'' => ?_
    · rw [hsb'.2 b (fun h : b = d => hdf (by rw [← h]; exact hb))]; exact e
    · obtain ⟨o, ho, r⟩ := htp' j hj
      exact ⟨o, hkeep _ o (had j hj) ho, r⟩
    · exact hR s'' (Moved.trans W.gtrans ((hm.mono hsub).then_heap htk fun b o hb e => hkeep b o hb e) hm'') hD''
end
section
variable {prog : Program} {w : World} {A : Around} {E : Value → Shared → Prop} {s : Shared}
theorem call_dict_list {l : Addr} {items : Array Value} {nl : Nat} {sl : Array (Option Value)} {Q : Value → Shared → Prop} (hh : A.handled = none) (hl : s.heap.get? l = some { cls := .type "list", dict := none, data := .seq items nl, slots := sl })
    (ad : Nat → Addr) (kk vv : Nat → Value) (hi : ∀ (i : Nat) (v : Value), items[i]? = some v → v = Value.ref (ad i)) (ht : ∀ i, i < items.size → IsTup s.heap (ad i) #[kk i, vv i])
    (D : Nat → Heap → Prop) (hD0 : ∀ h', h'.get? s.heap.objs.size = some { cls := .type "dict", data := .dict #[] } → (∀ b o, s.heap.get? b = some o → h'.get? b = some o) → D 0 h')
    (hD : ∀ i (h h' : Heap), D i h → (∀ b o, b ≤ s.heap.objs.size → h.get? b = some o → h'.get? b = some o) → D i h')
    (step : ∀ i (s' : Shared) (E : Value → Shared → Prop) (Q : Unit → Shared → Prop), i < items.size → D i s'.heap → (∀ h' tk, s'.toks ≤ tk → Heap.SameBut s.heap.objs.size s'.heap h' → D (i + 1) h' → Q () { s' with heap := h', toks := tk }) →
      wpAny (model prog w) A.in1.in1 (dictSet s.heap.objs.size (kk i) (vv i)) Q E s')
    (h : ∀ h' tk, D items.size h' → (∀ b o, s.heap.get? b = some o → h'.get? b = some o) → Q (.ref s.heap.objs.size) { s with heap := h', toks := tk }) :
    wpAny (model prog w) A (call (.type "dict") [.ref l]) Q E s := by
  refine callType_codes (Q₁ := fun obj s₁ => obj = .ref s.heap.objs.size ∧ s₁ = { s with heap := s.heap.push { cls := .type "dict", data := .dict #[] } }) F.kt_called_dict (F.kt_typeCall_dict_1 _) F.entry_dict_init (kt_code_dict_new _ ⟨rfl, rfl⟩) ?_
  rintro obj s₁ ⟨rfl, rfl⟩
  have hnew : (s.heap.push { cls := .type "dict", data := .dict #[] }).get? s.heap.objs.size = some { cls := .type "dict", data := .dict #[] } := Heap.get?_push_size _ rfl
  have hTd : Shared.TypeIs { s with heap := s.heap.push { cls := .type "dict", data := .dict #[] } } (.ref s.heap.objs.size) "dict" := ⟨_, hnew, rfl⟩
  have hl' : (s.heap.push { cls := .type "dict", data := .dict #[] }).get? l = some { cls := .type "list", dict := none, data := .seq items nl, slots := sl } := Heap.get?_push_of_some _ hl
  have hTl : Shared.TypeIs { s with heap := s.heap.push { cls := .type "dict", data := .dict #[] } } (.ref l) "list" := ⟨_, hl', rfl⟩
  refine ⟨hTd, F.args_dict_init_2 _ _, ?_⟩
  unfold Builtin.«dict.__init__»
  refine wpAny_bind ?_
  unfold Builtin.Dict.selfAndRest
  refine wpAny_bind (wpAny_notOrdered_dict hTd ?_)
  show wpAny _ _ (pure (s.heap.objs.size, [Value.ref l])) _ _ _
  refine wpAny_pure ?_
  show wpAny _ _ (Builtin.Dict.updateFrom "dict.__init__" s.heap.objs.size (.ref l) [] .none) _ _ _
  unfold Builtin.Dict.updateFrom
  refine wpAny_bind (wpAny_typeOf hTl ?_)
  rw [if_pos (by decide)]
  refine wpAny_bind (no_keys (s := { s with heap := s.heap.push { cls := .type "dict", data := .dict #[] } }) hl' (show A.in1.in1.handled = none by simp [hh]) fun h1 tk1 hk1 => ?_)
  have hk1' : ∀ b o, (s.heap.push { cls := .type "dict", data := .dict #[] }).get? b = some o → h1.get? b = some o := hk1
  have hL1 : h1.IsList l items := ⟨_, hk1' _ _ hl', rfl, nl, rfl⟩
  rw [if_pos (show (none : Option Value).isNone = true from rfl)]
  refine wpAny_bind (wpAny_rule ?_)
  refine wpAny_bind (wpAny_pyIter_list hL1 ?_)
  have hlS : l < s.heap.objs.size := Heap.lt_size hl
  have hS1 : s.heap.objs.size < h1.objs.size := Heap.lt_size (hk1' _ _ hnew)
  have k0 : ∀ b o, s.heap.get? b = some o → h1.get? b = some o := fun b o e => hk1' b o (Heap.get?_push_of_some _ e)
  have hadlt : ∀ i, i < items.size → ad i < s.heap.objs.size := fun i hi' => by
    obtain ⟨o, ho, _⟩ := ht i hi'
    exact Heap.lt_size ho
  refine wpAny_pure ⟨plainId_quiet plain_loop _, code_loop (A := A.in1) ((Walks.list (show A.in1.in1.handled = none by simp [hh]) h1.objs.size l (Nat.ne_of_lt (Nat.lt_trans hlS hS1)) items).toS) s.heap.objs.size ?hdf ad kk vv hi ?had D ?hD' (fun i s' E Q hi' hDi hq => step i s' E Q hi' hDi hq)
    (items.size - 0) 0 _ 0 (by omega) (Nat.zero_le _) ⟨⟨_, Heap.get?_push_size _ rfl, rfl, rfl⟩, hL1.push _⟩ ?hD0' ?ht' fun s' hm hDn => ?_⟩
  case hdf =>
    simp only [List.mem_cons, List.not_mem_nil, or_false, not_or]
    exact ⟨Nat.ne_of_lt hS1, Nat.ne_of_gt hlS⟩
  case had =>
    intro i hi'
    simp only [List.mem_cons, List.not_mem_nil, or_false, not_or]
    exact ⟨Nat.ne_of_lt (hadlt i hi'), Nat.ne_of_lt (Nat.lt_trans (hadlt i hi') hS1)⟩
  case hD' =>
    intro i g g' hDi hk
    refine hD i g g' hDi fun b o hb e => hk b o ?_ e
    simp only [List.mem_cons, List.not_mem_nil, or_false]
    exact Nat.ne_of_lt (Nat.lt_of_le_of_lt hb hS1)
  case hD0' =>
    exact hD0 _ (Heap.get?_push_of_some _ (hk1' _ _ hnew)) fun b o e => Heap.get?_push_of_some _ (k0 b o e)
  case ht' =>
    intro j hj
    obtain ⟨o, ho, r⟩ := ht j hj
    exact ⟨o, Heap.get?_push_of_some _ (k0 _ _ ho), r⟩
  obtain ⟨h', g', d', tk', os'⟩ := s'
  have eg : g' = s.gens := hm.gens
  have ed : d' = s.drawn := hm.drawn
  have eo : os' = s.os := hm.os
  subst eg; subst ed; subst eo
  refine ⟨rfl, h h' tk' hDn fun b o e => ?_⟩
  have hb : b < s.heap.objs.size := Heap.lt_size e
  refine hm.heap b o ?_ (Heap.get?_push_of_some _ (k0 b o e))
  simp only [List.mem_cons, List.not_mem_nil, or_false, not_or]
  exact ⟨Nat.ne_of_lt hb, Nat.ne_of_lt (Nat.lt_trans hb hS1)⟩
end
end DL
set_option Elab.async false
set_option linter.all false
set_option maxRecDepth 100000
namespace L2
open PySem PySem.Spec PyProof.Rows
section
variable {X : Cx}
theorem cpl_at {pins : List (Addr × Obj)} {σ : St} {H : Hp} {s : Shared} (I : Inv X pins σ H s) {a : Addr} {x y : V} (h : H a = some (.tup [x, y])) : ∃ u v, RelV x u ∧ RelV y v ∧ IsTup s.heap a #[u, v] := by
  obtain ⟨_, its, r, ht⟩ := I.hok a _ h
  cases r with
  | cons r1 r =>
    cases r with
    | cons r2 r => cases r; exact ⟨_, _, r1, r2, by simpa using ht⟩
theorem cpl_vals {κ : Type} {pins : List (Addr × Obj)} {σ : St} {H : Hp} {s : Shared} (I : Inv X pins σ H s) {zs : List (Addr × κ × V)} (kf : Addr × κ × V → V) (hk : ∀ z ∈ zs, H z.1 = some (.tup [kf z, z.2.2])) :
    ∃ f : Addr × κ × V → Value × Value, ∀ z ∈ zs, RelV (kf z) (f z).1 ∧ RelV z.2.2 (f z).2 ∧ IsTup s.heap z.1 #[(f z).1, (f z).2] := by
  have hch : ∀ z : Addr × κ × V, ∃ p : Value × Value, z ∈ zs → RelV (kf z) p.1 ∧ RelV z.2.2 p.2 ∧ IsTup s.heap z.1 #[p.1, p.2] := fun z => by
    by_cases hz' : z ∈ zs
    · obtain ⟨u, v, a, b, c⟩ := cpl_at I (hk z hz')
      exact ⟨(u, v), fun _ => ⟨a, b, c⟩⟩
    · exact ⟨(.none, .none), fun h => absurd h hz'⟩
  exact ⟨fun z => Classical.choose (hch z), fun z hz => Classical.choose_spec (hch z) hz⟩
theorem getD_mem {α : Type} {l : List α} {i : Nat} {d : α} (h : i < l.length) : l.getD i d ∈ l ∧ l[i]? = some (l.getD i d) := by
  rw [List.getD_eq_getElem?_getD, List.getElem?_eq_getElem h]
  exact ⟨List.getElem_mem h, rfl⟩
theorem refs_item {κ : Type} {zs : List (Addr × κ × V)} {d : Addr × κ × V} {i : Nat} {v : Value} (h : (((zs.map (·.1)).map Value.ref).toArray)[i]? = some v) : v = Value.ref (zs.getD i d).1 := by
  have h' : ((zs.map (·.1)).map Value.ref)[i]? = some v := by simpa using h
  rw [List.getElem?_map, List.getElem?_map] at h'
  rw [List.getD_eq_getElem?_getD]
  cases e : zs[i]? with
  | none => rw [e] at h'; cases h'
  | some z => rw [e] at h'; exact (Option.some.inj h').symm
theorem take_snoc {α : Type} {l : List α} {i : Nat} {x : α} (h : l[i]? = some x) : l.take (i + 1) = l.take i ++ [x] := by rw [List.take_succ, h]; rfl
theorem fresh_key {α κ : Type} {l : List α} {f : α → κ} {i : Nat} {x : α} (hn : (l.map f).Nodup) (h : l[i]? = some x) : f x ∉ (l.take i).map f := by
  intro hm
  obtain ⟨y, hy, e⟩ := List.mem_map.mp hm
  obtain ⟨j, hj, e2⟩ := List.mem_iff_getElem.mp hy
  have hj' : j < i := by rw [List.length_take] at hj; omega
  have hi : i < l.length := (List.getElem?_eq_some_iff.mp h).1
  have e3 : (l.map f)[j]'(by rw [List.length_map]; omega) = (l.map f)[i]'(by rw [List.length_map]; omega) := by
    rw [List.getElem_map, List.getElem_map]
    rw [List.getElem_take] at e2
    rw [e2, e, (List.getElem?_eq_some_iff.mp h).2]
  have := (List.getElem_inj hn).mp e3
  omega
theorem call_dictK0 (hc : X.calm = true) : CallR X (.type "dict") (fun xs H Q => ∃ l, ∃ zs : List (Addr × Key × V), xs = [.ref l] ∧ H l = some (.lst ((zs.map (·.1)).map V.ref)) ∧ (∀ z ∈ zs, H z.1 = some (.tup [kV z.2.1, z.2.2])) ∧ zs.length ≤ 1000 ∧
    (zs.map (·.2.1)).Nodup ∧ ((∀ d o, H d = none → Q (.ref d) (upd H d (.frz o (.dK (zs.map (·.2)))))) ∨ ∀ d, H d = none → Q (.ref d) (upd H d (.dK (zs.map (·.2)))))) := by
  intro pins s σ H xs us Q I r h
  obtain ⟨l, zs, rfl, hl, hk, hz, hnd, q⟩ := h
  obtain ⟨u, rfl, ru⟩ := vals1 r
  cases ru
  obtain ⟨_, its, nl, rv, ho⟩ := I.hok l _ hl
  have e := vals_refs rv
  subst e
  obtain ⟨f, hf⟩ := cpl_vals I (fun z => kV z.2.1) hk
  have hsz : (((zs.map (·.1)).map Value.ref).toArray).size = zs.length := by simp
  refine DL.call_dict_list (s := s) (I.ok.hd hc) ho (fun i => (zs.getD i (0, .inl 0, .non)).1) (fun i => (f (zs.getD i (0, .inl 0, .non))).1) (fun i => (f (zs.getD i (0, .inl 0, .non))).2) (fun i v hv => refs_item hv) (fun i hi => ?_)
    (fun i h' => h'.DictOf (mixKind X.prog X.w) s.heap.objs.size ((zs.take i).map fun z => (z.2.1, (f z).2))) (fun h' hg _ => ?_) (fun i g g' hd hk => ?_) (fun i s' E Q hi hd hq => ?_) fun h' tk hd hkeep => ?_
  · rw [hsz] at hi
    exact (hf _ (getD_mem hi).1).2.2
  · exact ⟨_, #[], 0, hg, ⟨rfl, rfl, rfl⟩, rfl, fun _ he => by simp at he, Pairs.nil, List.nodup_nil⟩
  · obtain ⟨o, es, ep, ho, r⟩ := hd
    exact ⟨o, es, ep, hk _ o (Nat.le_refl _) ho, r⟩
  · rw [hsz] at hi
    obtain ⟨hm, hg⟩ := getD_mem (d := ((0, .inl 0, .non) : Addr × Key × V)) hi
    refine wpAny_dictSet_pairs (hsz := by rw [List.length_map, List.length_take]; have := small1000 hz; omega) (k := (zs.getD i (0, .inl 0, .non)).2.1) (kV_is (hf _ hm).1) hd fun h' hd' hs => hq h' _ (Nat.le_succ _) hs ?_
    have e1 := take_snoc hg
    have e2 := fresh_key hnd hg
    rw [e1, List.map_append]
    unfold stored at hd'
    rw [if_neg] at hd'
    · exact hd'
    · intro ha
      obtain ⟨p, hp, he⟩ := List.any_eq_true.mp ha
      obtain ⟨z, hz', rfl⟩ := List.mem_map.mp hp
      exact e2 (List.mem_map.mpr ⟨z, hz', of_decide_eq_true he⟩)
  · rw [hsz, List.take_length] at hd
    obtain ⟨ob, hob⟩ : ∃ ob, h'.get? s.heap.objs.size = some ob := let ⟨o, _, _, ho, _⟩ := hd; ⟨o, ho⟩
    have hrel : KV (zs.map (·.2)) (zs.map fun z => (z.2.1, (f z).2)) := by
      have : ∀ ys : List (Addr × Key × V), (∀ z ∈ ys, z ∈ zs) → KV (ys.map (·.2)) (ys.map fun z => (z.2.1, (f z).2)) := by
        intro ys
        induction ys with
        | nil => intro _; exact .nil
        | cons z ys ih => intro hm; exact .cons ⟨rfl, (hf z (hm z (by simp))).2.1⟩ (ih fun y hy => hm y (by simp [hy]))
      exact this zs fun z hz => hz
    have hdk : ∀ H' : Hp, ObjOk X.prog X.w H' h' s.heap.objs.size (.dK (zs.map (·.2))) := fun H' => dk_new (Nat.le_of_lt (small1000 (by rw [List.length_map]; exact hz))) (beq_eq_false_iff_ne.mpr (Ne.symm (Nat.ne_of_lt I.big))) hrel hd
    rcases q with q | q
    · exact ⟨.ref s.heap.objs.size, _, I.laid (t' := tk) (o := .frz ob (.dK (zs.map (·.2)))) hkeep (Nat.le_refl _) ⟨hob, hdk _⟩, rfl, q _ ob (I.hok.fresh (Nat.le_refl _))⟩
    · exact ⟨.ref s.heap.objs.size, _, I.laid (t' := tk) (o := .dK (zs.map (·.2))) hkeep (Nat.le_refl _) (hdk _), rfl, q _ (I.hok.fresh (Nat.le_refl _))⟩
theorem call_dictKm (hc : X.calm = true) : CallR X (.type "dict") (fun xs H Q => ∃ l, ∃ zs : List (Addr × Key × V), xs = [.ref l] ∧ H l = some (.lst ((zs.map (·.1)).map V.ref)) ∧ (∀ z ∈ zs, H z.1 = some (.tup [kV z.2.1, z.2.2])) ∧ zs.length ≤ 1000 ∧ (zs.map (·.2.1)).Nodup ∧ ∀ d, H d = none → Q (.ref d) (upd H d (.dK (zs.map (·.2))))) :=
  fun pins s σ H xs us Q I r ⟨l, zs, h1, h2, h3, h4, h5, q⟩ => call_dictK0 hc pins s σ H xs us Q I r ⟨l, zs, h1, h2, h3, h4, h5, .inr q⟩
end
end L2
set_option Elab.async false
set_option linter.all false
set_option maxRecDepth 100000
namespace L2
open PySem PySem.Spec PyProof.Rows
noncomputable def RawD (h : Heap) (d : Addr) (es : Array DictEntry) (ep : Nat) : Prop := ∃ o, h.get? d = some o ∧ o.ExactDict ∧ o.data = .dict es ep
section
variable {prog : Program} {w : World} {A : Around} {E : Value → Shared → Prop} {s : Shared}
theorem raw_iter {d : Addr} {es : Array DictEntry} {ep : Nat} {Q : Value → Shared → Prop} (hd : (d == sysModules) = false) (hm : RawD s.heap d es ep)
    (hQ : Q (.ref s.heap.objs.size) { s with heap := s.heap.push { cls := .type "dict_keyiterator", data := .fields #[.ref d, .int 0 0, .int es.size 0, .int ep 0] } }) :
    wpAny (model prog w) A (pyIter (.ref d)) Q E s := by
  obtain ⟨o, ho, hc, hdat⟩ := id hm
  have hT : s.TypeIs (.ref d) "dict" := ⟨o, ho, hc.1⟩
  refine wpAny_pyIter_slot hT PySem.F.slot_dict_iter (wpAny_call_entry PySem.F.slot_dict_iter hT PySem.F.entry_dict_iter ?_ (PySem.F.args_dict_iter_1 _))
  unfold Builtin.«dict.__iter__»
  refine wpAny_bind ?_
  unfold Builtin.Dict.dictSlotNone
  refine wpAny_bind (wpAny_notOrdered_dict hT ?_)
  show wpAny _ _ (pure (Value.ref d)) _ _ s
  refine wpAny_pure ?_
  show wpAny _ _ (Builtin.Dict.showsAll d >>= _) _ _ s
  unfold Builtin.Dict.showsAll
  rw [if_neg (by rw [hd]; exact Bool.false_ne_true)]
  refine wpAny_bind (wpAny_pure ?_)
  refine wpAny_bind (wpAny_dictEntries ho hdat ?_)
  refine wpAny_bind (wpAny_dictEpoch ho hdat ?_)
  refine wpAny_bind (wpAny_newObj_type (wpAny_pure ⟨_, rfl, "dict_keyiterator", _, ⟨_, Heap.get?_push_size _ rfl, rfl⟩, PySem.F.slot_dict_keyiterator_next.lookup, ?_⟩))
  simpa [rawInt] using hQ
theorem raw_item {it d : Addr} {i ep : Nat} {es : Array DictEntry} {e : DictEntry} {Q : Option Value → Shared → Prop} (hit : s.heap.IsKeyIter it d i es.size ep) (hm : RawD s.heap d es ep) (hx : es[i]? = some e)
    (hQ : ∀ h', h'.IsKeyIter it d (i + 1) es.size ep → Heap.SameBut it s.heap h' → Q (some e.key) { s with heap := h' }) :
    wpAny (model prog w) A (pyNext (.ref it)) Q E s := by
  obtain ⟨o, ho, hc, hd⟩ := id hit
  obtain ⟨od, hod, hcd, hdd⟩ := id hm
  unfold pyNext
  refine wpAny_bind (wpAny_attempt (wpAny_callSpecial?_slot (name := Str.ofString "__next__") hit.typeIs PySem.F.slot_dict_keyiterator_next
    (wpAny_call_entry PySem.F.slot_dict_keyiterator_next hit.typeIs PySem.F.entry_dict_keyiterator_next ?_ (PySem.F.args_dict_keyiterator_next_1 _))))
  refine wpAny_bind (wpAny_pure ?_)
  refine wpAny_bind ?_
  refine wpAny_bind ?_
  first | refine wpAny_bind (wpAny_typeNameOfWhole_keyiter hit.typeIs (wpAny_pure ?_)) | refine wpAny_bind (wpAny_typeNameOf_keyiter hit.typeIs (wpAny_pure ?_))
  refine wpAny_bind (wpAny_fieldsOf ho hd ?_)
  have hown : Builtin.Dict_items.ownsTuple "dict_keyiterator" = false := by decide
  simp only [hown, Bool.false_eq_true, if_false]
  show wpAny _ _ (if (Value.ref d == Value.none) = true then _ else _) _ _ s
  rw [if_neg (show ¬ ((Value.ref d == Value.none) = true) from Bool.false_ne_true)]
  refine wpAny_bind (wpAny_pure ?_)
  refine wpAny_bind (wpAny_dictEntries hod hdd ?_)
  rw [if_neg (by simp)]
  refine wpAny_bind (wpAny_pure ?_)
  refine wpAny_bind (wpAny_dictEpoch hod hdd ?_)
  rw [if_neg (by simp)]
  refine wpAny_pure ?_
  have hlt' : i < es.size := (Array.getElem?_eq_some_iff.mp hx).1
  have he : es[i] = e := (Array.getElem?_eq_some_iff.mp hx).2
  simp only [show ¬ ((i : Int) < 0) from by omega, if_false, Int.toNat_natCast, Array.getElem?_eq_getElem hlt']
  refine wpAny_bind ?_
  first | refine wpAny_bind (wpAny_typeNameOfWhole_keyiter hit.typeIs (wpAny_pure ?_)) | refine wpAny_bind (wpAny_typeNameOf_keyiter hit.typeIs (wpAny_pure ?_))
  refine wpAny_bind (wpAny_isOneOf_keyiter hit.typeIs ?_)
  show wpAny _ _ (setField (.ref it) 1 (rawInt ((i : Int) + 1)) >>= _) _ _ s
  refine wpAny_bind (wpAny_setField ho hd (by simp) ?_)
  have hit' : (s.heap.update it (Obj.mapFields (·.setIfInBounds 1 (rawInt ((i : Int) + 1))))).IsKeyIter it d (i + 1) es.size ep :=
    ⟨_, Heap.get?_update_self _ ho (Obj.isFreed_of_fields (Obj.data_mapFields hd _)), (Obj.cls_mapFields ..).trans hc, by rw [Obj.data_mapFields hd]; simp [rawInt]⟩
  refine wpAny_bind (wpAny_holding ?_)
  refine wpAny_bind (wpAny_isOneOf_keyiter (s := { s with heap := s.heap.update it (Obj.mapFields (·.setIfInBounds 1 (rawInt ((i : Int) + 1)))) }) hit'.typeIs ?_)
  show wpAny _ _ (pure es[i].key) _ _ _
  rw [he]
  exact wpAny_pure (wpAny_pure ⟨_, rfl, wpAny_pure (hQ _ hit' (Heap.SameBut.update ..))⟩)
theorem raw_end {it d : Addr} {i ep : Nat} {es : Array DictEntry} {Q : Option Value → Shared → Prop} (hh : A.handled = none) (hit : s.heap.IsKeyIter it d i es.size ep) (hm : RawD s.heap d es ep) (hge : es.size ≤ i)
    (hQ : ∀ h', Heap.ExtBut it s.heap h' → Q none { s with heap := h' }) : wpAny (model prog w) A (pyNext (.ref it)) Q E s := by
  obtain ⟨o, ho, hc, hd⟩ := id hit
  obtain ⟨od, hod, hcd, hdd⟩ := id hm
  unfold pyNext
  refine wpAny_bind (wpAny_attempt (wpAny_callSpecial?_slot (name := Str.ofString "__next__") hit.typeIs PySem.F.slot_dict_keyiterator_next
    (wpAny_call_entry PySem.F.slot_dict_keyiterator_next hit.typeIs PySem.F.entry_dict_keyiterator_next ?_ (PySem.F.args_dict_keyiterator_next_1 _))))
  refine wpAny_bind (wpAny_pure ?_)
  refine wpAny_bind ?_
  refine wpAny_bind ?_
  first | refine wpAny_bind (wpAny_typeNameOfWhole_keyiter hit.typeIs (wpAny_pure ?_)) | refine wpAny_bind (wpAny_typeNameOf_keyiter hit.typeIs (wpAny_pure ?_))
  refine wpAny_bind (wpAny_fieldsOf ho hd ?_)
  have hown : Builtin.Dict_items.ownsTuple "dict_keyiterator" = false := by decide
  simp only [hown, Bool.false_eq_true, if_false]
  show wpAny _ _ (if (Value.ref d == Value.none) = true then _ else _) _ _ s
  rw [if_neg (show ¬ ((Value.ref d == Value.none) = true) from Bool.false_ne_true)]
  refine wpAny_bind (wpAny_pure ?_)
  refine wpAny_bind (wpAny_dictEntries hod hdd ?_)
  rw [if_neg (by simp)]
  refine wpAny_bind (wpAny_pure ?_)
  refine wpAny_bind (wpAny_dictEpoch hod hdd ?_)
  rw [if_neg (by simp)]
  refine wpAny_pure ?_
  simp only [show ¬ ((i : Int) < 0) from by omega, if_false, Int.toNat_natCast, Array.getElem?_eq_none hge]
  refine wpAny_bind ?_
  first | refine wpAny_bind (wpAny_typeNameOfWhole_keyiter hit.typeIs (wpAny_pure ?_)) | refine wpAny_bind (wpAny_typeNameOf_keyiter hit.typeIs (wpAny_pure ?_))
  show wpAny _ _ (setField (.ref it) 0 .none >>= _) _ _ s
  refine wpAny_bind (wpAny_setField ho hd (by simp) ?_)
  show wpAny _ _ (newExc (.type "StopIteration") [] >>= _) _ _ _
  refine wpAny_bind ?_
  simp only [newExc, newTuple]
  refine wpAny_bind (wpAny_newObj_type ?_ (by size_fits))
  refine wpAny_bind (m := firstArgMember _ _) (wpAny_of_eq (a := Value.none) (by first | rfl | (simp only [firstArgMember]; rfl)) ?_)
  refine wpAny_newObj_type ?_ (by size_fits)
  simp only [raiseNew]
  refine wpAny_bind (wpAny_handled ?_)
  rw [show A.in1.handled = none from hh]
  refine wpAny_bind (wpAny_pure (wpAny_throw ?_))
  refine wpAny_bind (wpAny_isInstance (T := "StopIteration") (b := true) ⟨_, Heap.get?_push_size _ rfl, rfl⟩ isSubtype_stop ?_)
  exact wpAny_pure (hQ _ (((Heap.SameBut.update ..).extBut.push _).push _))
end
noncomputable def Itk (d : Addr) (o : Obj) (u : HO) (ks : List V) : It := ⟨fun i H => H d = some (.frz o u) ∧ i < ks.length, fun i H x H' => H' = H ∧ ks[i]? = some x, fun i H => H d = some (.frz o u) ∧ ks.length ≤ i⟩
theorem turn_keys {P : Program} {w : World} {K : PySem.W.Frag} {tg : Expr} {d it : Addr} {o : Obj} {u : HO} {es : Array DictEntry} {ep : Nat} {ks : List V} (hx : o.ExactDict) (hd : o.data = .dict es ep) (hv : Vals ks (es.toList.map (·.key))) :
    Turn P w K tg (Itk d o u ks) [it] it (fun i h => h.IsKeyIter it d i es.size ep) where
  mem := by simp
  obj := fun i h st b hb => by
    have e : b = it := by simpa using hb
    subst e
    obtain ⟨o, e, c, d⟩ := st
    exact ⟨o, e, fun v z => by rw [d] at z; cases z⟩
  keep := fun i h h' st k => st.at fun o e => k it (by simp) o e
  item := by
    intro X hP hw hK hc i pins s σ H E I hf st hg
    subst hP hw hK
    obtain ⟨hH, hi⟩ := hg
    have ho := (I.hok d _ hH).1
    have hl : ks.length = es.size := by rw [hv.length, List.length_map, Array.length_toList]
    have hi' : i < es.size := by omega
    obtain ⟨v, hv1, hv2⟩ := hv.get (List.getElem?_eq_getElem hi)
    obtain ⟨f0, f1, f2, f3, f4, f5⟩ := hf it (by simp)
    have ev : v = es[i].key := by
      rw [List.getElem?_map, Array.getElem?_toList, Array.getElem?_eq_getElem hi'] at hv1
      exact (Option.some.inj hv1).symm
    refine raw_item st ⟨o, ho, hx, hd⟩ (Array.getElem?_eq_getElem hi') fun h' st' sb => ?_
    have I1 : Inv X pins σ H { s with heap := h' } := I.turned (t' := s.toks) (fun b o hb e => (sb.2 b hb).trans e) f0 f1 f3 f4 f5
    obtain ⟨oi, e, c, dd⟩ := id st'
    exact ⟨_, rfl, go_of (s := { s with heap := h' }) e c dd (by decide) ⟨ks[i], H, I1, ev ▸ hv2, ⟨rfl, List.getElem?_eq_getElem hi⟩, st', fun b hb => (hf b hb).1⟩⟩
  done := by
    intro X hP hw hK hc i pins s σ H E I hf st hg
    subst hP hw hK
    obtain ⟨hH, hi⟩ := hg
    have ho := (I.hok d _ hH).1
    have hl : ks.length = es.size := by rw [hv.length, List.length_map, Array.length_toList]
    obtain ⟨f0, f1, f2, f3, f4, f5⟩ := hf it (by simp)
    exact raw_end (I.ok.hd hc) st ⟨o, ho, hx, hd⟩ (by omega) fun h' eb => ⟨rfl, I.turned (t' := s.toks) (fun b o hb e => eb b o hb e) f0 f1 f3 f4 f5⟩
  self := fun _ _ _ _ _ st h => wpAny_pyIter_keyiter st h
section
variable {X : Cx} {tg : Expr}
end
end L2
set_option Elab.async false
set_option linter.all false
set_option maxRecDepth 100000
namespace L2
open PySem PySem.Spec PyProof.Rows
section
variable {prog : Program} {w : World} {A : Around} {E : Value → Shared → Prop} {s : Shared}
end
section
variable {X : Cx}
theorem kv_keys {P : Program} {w : World} {kvs : List (Key × V)} {vs : List (Key × Value)} {acc : Array Value} (rel : KV kvs vs) (h : ItemsOf (fun i v => ∃ k x, vs[i]? = some (k, x) ∧ (mixKind P w).is k v = true) acc vs.length) : Vals (kvs.map fun p => kV p.1) acc.toList := by
  obtain ⟨h1, h2⟩ := h
  have hl : acc.toList.length = vs.length := by simpa using h1
  have h3 : ∀ (i : Nat) (v : Value), acc.toList[i]? = some v → ∃ k x, vs[i]? = some (k, x) ∧ (mixKind P w).is k v = true := fun i v hv => h2 i v (by simpa using hv)
  clear h1 h2
  generalize acc.toList = l at hl h3
  induction rel generalizing l with
  | nil =>
    cases l with
    | nil => exact .nil
    | cons a r => simp at hl
  | @cons p q kvs vs r _ ih =>
    cases l with
    | nil => simp at hl
    | cons a l =>
      refine .cons ?_ (ih l (by simpa using hl) fun i v hv => by simpa using h3 (i + 1) v (by simpa using hv))
      obtain ⟨k, x, e1, e2⟩ := h3 0 a rfl
      have e3 : q = (k, x) := by simpa using e1
      show RelV (kV p.1) a
      rw [r.1, e3]
      rcases keyIs_shape e2 with ⟨i, t, e4, e5⟩ | ⟨y, t, e4, e5⟩
      · rw [e4, e5]; exact ⟨t, rfl⟩
      · rw [e4, e5]; exact ⟨t, rfl⟩
end
end L2
set_option Elab.async false
set_option linter.all false
set_option maxRecDepth 100000
namespace HT
open PySem PyProof.Rows
section
open PySem.SeqAt
open PySem.AutoSeq1 (wpAny_loadPart')
open PySem.MeetsSeq PySem.MeetsSeq2 PySem.MeetsSeq3
end
section
variable {prog : Program} {w : World} {A : Around} {E : Value → Shared → Prop} {s : Shared}
end
end HT
set_option Elab.async false
set_option linter.all false
set_option maxRecDepth 100000
namespace L2
open PySem PySem.Spec PyProof.Rows
section
variable {X : Cx}
theorem getD_map {α β : Type} {l : List α} {f : α → β} {d : α} {e : β} {i : Nat} (h : i < l.length) : (l.map f).getD i e = f (l.getD i d) := by
  rw [List.getD_eq_getElem?_getD, List.getD_eq_getElem?_getD, List.getElem?_map, List.getElem?_eq_getElem h]; rfl
theorem vals_pick {α : Type} {zs : List α} {val : α → V} {d : α} : ∀ {us : List Value}, Vals (zs.map val) us → ∀ (ps : List Nat), (∀ i ∈ ps, i < zs.length) → Vals ((ps.map fun i => zs.getD i d).map val) (ps.map fun i => us.getD i Value.none) := by
  intro us rv ps
  induction ps with
  | nil => intro _; exact .nil
  | cons i ps ih =>
    intro h
    refine .cons ?_ (ih fun j hj => h j (by simp [hj]))
    have hi := h i (by simp)
    obtain ⟨u, hu, r⟩ := rv.get (i := i) (x := val (zs.getD i d)) (by rw [List.getElem?_map, (getD_mem (d := d) hi).2]; rfl)
    have : us.getD i Value.none = u := by rw [List.getD_eq_getElem?_getD, hu]; rfl
    show RelV (val (zs.getD i d)) (us.getD i Value.none)
    rw [this]
    exact r
theorem ints_of {ns : List Int} {us : List Value} (r : Vals (ns.map V.int) us) : IntsAre us ns := intsAre_of r
end
end L2
set_option Elab.async false
set_option linter.all false
set_option maxRecDepth 100000
namespace SRT
open PySem PySem.W PyProof.Rows
section
variable {prog : Program} {w : World} {A : Around} {E : Value → Shared → Prop} {s : Shared}
theorem sorted_tail {f : Nat → Nat → Bool} {vs : List Value} {κ : SortKind} {Q : Value → Shared → Prop} (O : Ord f vs.length) (h64 : vs.length < 64)
    (hk : ∀ (A' : Around) (s' : Shared), A'.units ≤ A.units + 1 → (∀ b o, s.heap.get? b = some o → s'.heap.get? b = some o) → ∀ Q : SortKind → Shared → Prop, 2 ≤ vs.length → Q κ s' → wpAny (model prog w) A' (keyKind' vs.toArray) Q (fun _ _ => False) s')
    (hlt : ∀ (A' : Around) (s' : Shared), A'.units ≤ A.units + 1 → (∀ b o, s.heap.get? b = some o → s'.heap.get? b = some o) → ∀ (i j : Nat) (C : Bool → Shared → Prop), i < vs.length → j < vs.length → C (f i j) s' → wpAny (model prog w) A' (keyLt' κ (vs.getD i Value.none) (vs.getD j Value.none)) C (fun _ _ => False) s')
    (h : ∀ (p : Array Nat) (h' : Heap), Row vs.length p → Up f p vs.length → (∀ b o, s.heap.get? b = some o → h'.get? b = some o) → (∃ k, h'.get? s.heap.objs.size = some (seqObj "list" (List.toArray (p.toList.map fun i => vs.getD i Value.none)) k)) → Q (.ref s.heap.objs.size) { s with heap := h' }) :
    wpAny (model prog w) A (do
      let l ← newList vs
      let _ ← holding [l] (call (.builtin "list.sort") [l] [])
      ret l) (fun fin s' => ∃ v, fin = .done (.ret v) ∧ Q v s') E s := by
  refine wpAny_bind (wpAny_newList ?_ (by rw [sizeLine_eq]; omega))
  have hoL : (s.heap.push (seqObj "list" vs.toArray 0)).get? s.heap.objs.size = some (seqObj "list" vs.toArray 0) := Heap.get?_push_size _ rfl
  have keep : ∀ b o, s.heap.get? b = some o → (s.heap.push (seqObj "list" vs.toArray 0)).get? b = some o := fun b o q => Heap.get?_push_of_some _ q
  have neD : ∀ b o, s.heap.get? b = some o → b ≠ s.heap.objs.size := fun b o q => Nat.ne_of_lt (Heap.lt_size q)
  show wpAny _ _ _ _ _ { s with heap := s.heap.push (seqObj "list" vs.toArray 0) }
  refine wpAny_bind (wpAny_holding (wpAny_call_entry slot_list_sort ⟨_, hoL, rfl⟩ entry_list_sort (list_sort_by (κ := κ) (s := { s with heap := s.heap.push (seqObj "list" vs.toArray 0) }) O hoL h64 ?_ ?_ fun p hr hu => ⟨_, rfl, ?_⟩) (args_list_sort _)))
  · intro s' hs' Q' h2 hq
    exact hk _ s' (by simp [Around.in1_units]) (fun b o e => hs' b o (neD b o e) (keep b o e)) Q' h2 hq
  · intro s' hs' i j C hi hj hC
    exact hlt _ s' (by simp [Around.in1_units]) (fun b o e => hs' b o (neD b o e) (keep b o e)) i j C hi hj hC
  · refine wpAny_pure ⟨_, rfl, h p _ hr hu (fun b o e => ?_) ?_⟩
    · unfold sortedHeap
      rw [Heap.get?_update_ne _ _ _ _ (neD b o e)]
      refine Heap.get?_push_of_some _ (Heap.get?_push_of_some _ ?_)
      rw [Heap.get?_update_ne _ _ _ _ (neD b o e)]
      exact keep b o e
    · unfold sortedHeap
      obtain ⟨e1, ho1⟩ : ∃ e1, ((s.heap.push (seqObj "list" vs.toArray 0)).update s.heap.objs.size (Obj.mapSeq fun _ => (#[] : Array Value))).get? s.heap.objs.size = some (seqObj "list" #[] e1) := ⟨_, get?_update_seq hoL fun _ => #[]⟩
      exact ⟨_, get?_update_seq (Heap.get?_push_of_some _ (Heap.get?_push_of_some _ ho1)) _⟩
theorem collect_src {T : String} {r d : Addr} {n : Nat} {P : Nat → Value → Prop} {OK : Heap → Prop} {Q : List Value → Shared → Prop} (K : PySem.W.KdlSrc prog w T r d n P OK) (hh : A.handled = none) (hok : OK s.heap) (hn : n ≤ sizeLine)
    (hQ : ∀ h' tk acc, (∀ b o, s.heap.get? b = some o → h'.get? b = some o) → s.heap.objs.size < h'.objs.size → ItemsOf P acc n → Q acc.toList { s with heap := h', toks := tk }) : wpAny (model prog w) A (collect (.ref r)) Q E s := by
  unfold collect
  refine wpAny_bind (wpAny_runValue (codeAny_builtin entry_proto_collect' ?_))
  show wpAny _ _ (do again (.builtin "list.__iadd__" ⟨[← newList [], .ref r], []⟩)) _ _ s
  refine wpAny_bind (wpAny_newList (wpAny_pure ⟨Code.quiet_builtin _ (by decide +kernel), codeAny_builtin entry_list_iadd' ?_⟩))
  rw [Around.under_plainId PySem.F.plain_list_iadd _]
  show wpAny _ _ (Builtin.List.listExtendWith (.ref s.heap.objs.size) (.ref r) (.ref s.heap.objs.size)) _ _ { s with heap := s.heap.push (seqObj "list" #[] 0) }
  have hlt := K.there _ hok
  have hS : (s.heap.push (seqObj "list" #[] 0)).get? s.heap.objs.size = some (seqObj "list" #[] 0) := Heap.get?_push_size _ rfl
  have key := PySem.W.kdl_extend (A := A) (s := { s with heap := s.heap.push (seqObj "list" #[] 0) }) (R := fun r s' => ∃ h' tk acc c', r = .ok (.ret (.ref s.heap.objs.size)) ∧ s' = { s with heap := h', toks := tk } ∧ (∀ b o, s.heap.get? b = some o → h'.get? b = some o) ∧ h'.get? s.heap.objs.size = some { cls := .type "list", dict := none, data := .seq acc c', slots := #[] } ∧ ItemsOf P acc n)
    K hh (K.keep _ _ hok fun b _ o e => Heap.get?_push_of_some _ e) s.heap.objs.size (Nat.ne_of_gt hlt.1) (Nat.ne_of_gt hlt.2) (.ref s.heap.objs.size) 0 hS (fun h' tk acc' c' hk hS' hacc => ⟨h', tk, acc', c', rfl, rfl, fun b o e => hk b o (Nat.ne_of_lt (Heap.lt_size e)) (Heap.get?_push_of_some _ e), hS', hacc⟩) hn
  have fin : ∀ (h' : Heap) (tk : Nat) (acc : Array Value) (c' : Nat), (∀ b o, s.heap.get? b = some o → h'.get? b = some o) → h'.get? s.heap.objs.size = some { cls := .type "list", dict := none, data := .seq acc c', slots := #[] } → ItemsOf P acc n → wpAny (model prog w) A (do
      let o ← load s.heap.objs.size
      match o.data with
      | .seq xs _ => pure xs.toList
      | _ => unsupported "internal:collect") Q E { s with heap := h', toks := tk } := fun h' tk acc c' hk hS' hacc => by
    refine wpAny_bind (wpAny_load hS' ?_)
    exact wpAny_pure (hQ h' tk acc hk (Heap.lt_size hS') hacc)
  refine wpAny_mono key (fun fn s' hf => ?_) fun e s' hf => ?_
  · cases fn with
    | done f =>
      obtain ⟨h', tk, acc, c', e1, e2, hk, hS', hacc⟩ := hf
      cases e1
      subst e2
      exact fin h' tk acc c' hk hS' hacc
    | again c =>
      refine ⟨hf.1, codeAny_mono hf.2 fun r s' hr => ?_⟩
      obtain ⟨h', tk, acc, c', e1, e2, hk, hS', hacc⟩ := hr
      subst e1 e2
      exact fin h' tk acc c' hk hS' hacc
  · obtain ⟨h', tk, acc, c', e1, _⟩ := hf
    cases e1
theorem sorted_src {T : String} {r d : Addr} {n : Nat} {P : Nat → Value → Prop} {OK : Heap → Prop} {κ : SortKind} {Q : Value → Shared → Prop} (K : PySem.W.KdlSrc prog w T r d n P OK) (hh : A.handled = none) (hok : OK s.heap) (hn : n ≤ sizeLine)
    (hQ : ∀ (h1 : Heap) (tk : Nat) (vs : List Value), (∀ b o, s.heap.get? b = some o → h1.get? b = some o) → s.heap.objs.size < h1.objs.size → ItemsOf P vs.toArray n → ∃ f : Nat → Nat → Bool, Ord f vs.length ∧ vs.length < 64 ∧
      (∀ (A' : Around) (s' : Shared), A'.units ≤ A.units + 2 → (∀ b o, s.heap.get? b = some o → s'.heap.get? b = some o) → ∀ Q : SortKind → Shared → Prop, 2 ≤ vs.length → Q κ s' → wpAny (model prog w) A' (keyKind' vs.toArray) Q (fun _ _ => False) s') ∧
      (∀ (A' : Around) (s' : Shared), A'.units ≤ A.units + 2 → (∀ b o, s.heap.get? b = some o → s'.heap.get? b = some o) → ∀ (i j : Nat) (C : Bool → Shared → Prop), i < vs.length → j < vs.length → C (f i j) s' → wpAny (model prog w) A' (keyLt' κ (vs.getD i Value.none) (vs.getD j Value.none)) C (fun _ _ => False) s') ∧
      ∀ (p : Array Nat) (h' : Heap), Row vs.length p → Up f p vs.length → (∀ b o, s.heap.get? b = some o → h'.get? b = some o) → (∃ k, h'.get? h1.objs.size = some (seqObj "list" (List.toArray (p.toList.map fun i => vs.getD i Value.none)) k)) → Q (.ref h1.objs.size) { s with heap := h', toks := tk }) :
    wpAny (model prog w) A (call (.builtin "sorted") [.ref r]) Q E s := by
  refine Calls.call_function_entry kind_sorted plain_sorted entry_sorted (args_sorted1 _) ?_
  unfold Builtin.«sorted»
  refine wpAny_bind (m := checkCount "sorted" 1 1 _) (wpAny_pure ?_)
  refine wpAny_bind (collect_src K hh hok hn fun h1 tk acc hk hlt hacc => ?_)
  obtain ⟨f, O, h64, hkk, hltt, hq⟩ := hQ h1 tk acc.toList hk hlt (by rw [Array.toArray_toList]; exact hacc)
  exact sorted_tail (s := { s with heap := h1, toks := tk }) O h64 (fun A' s' hu hk' => hkk A' s' (by have := hu; simp only [Around.in1_units] at this; omega) fun b o e => hk' b o (hk b o e)) (fun A' s' hu hk' => hltt A' s' (by have := hu; simp only [Around.in1_units] at this; omega) fun b o e => hk' b o (hk b o e))
    fun p h' hr hu' hk' hg => hq p h' hr hu' (fun b o e => hk' b o (hk b o e)) hg
end
end SRT
set_option Elab.async false
set_option linter.all false
set_option maxRecDepth 100000
namespace L2
open PySem PySem.Spec PyProof.Rows
section
variable {X : Cx}
noncomputable def IntS (w : World) (a : Addr) (ns : List Int) : HO := .ext fun h => TB.IS w h a ns
theorem Inv.intS {pins : List (Addr × Obj)} {σ : St} {H : Hp} {s : Shared} (I : Inv X pins σ H s) {a : Addr} {ns : List Int} (h : H a = some (IntS X.w a ns)) : TB.IS X.w s.heap a ns := (I.hok a _ h).1
theorem Inv.layS {pins : List (Addr × Obj)} {σ : St} {H : Hp} {s : Shared} (I : Inv X pins σ H s) {h' : Heap} {t' : Nat} {a : Addr} {ns : List Int} (k : ∀ b u, s.heap.get? b = some u → h'.get? b = some u) (hp : s.heap.objs.size ≤ a) (hS : TB.IS X.w h' a ns) :
    Inv X pins σ (upd H a (IntS X.w a ns)) { s with heap := h', toks := t' } := by
  obtain ⟨o, es, ep, t, ho, r⟩ := id hS
  exact I.laid k hp ⟨hS, ⟨o, ho⟩, fun h1 h2 hI hh => hI.at hh⟩
theorem call_set_ints (hc : X.calm = true) : CallR X (.type "set") (fun xs H Q => ∃ p, ∃ ns : List Int, xs = [.ref p] ∧ SqL X.K H p (ns.map V.int) ∧ ns.length ≤ 60 ∧
    ∀ ms : List Int, ms.Nodup → (∀ x, x ∈ ms ↔ x ∈ ns) → ∀ q, H q = none → Q (.ref q) (upd H q (IntS X.w q ms))) := by
  intro pins s σ H xs us Q I r h
  obtain ⟨p, ns, rfl, hq, hl, q⟩ := h
  obtain ⟨u, rfl, ru⟩ := vals1 r
  cases ru
  obtain ⟨its, rv, pl, hz⟩ := I.list hq
  have hsz : its.toArray.size = ns.length := by rw [List.size_toArray, ← rv.length, List.length_map]
  have gi : ∀ i, i < ns.length → ∃ t, its[i]? = some (.int (ns.getD i 0) t) := fun i hi => by
    obtain ⟨v, hv, r⟩ := rv.get (i := i) (x := .int (ns.getD i 0)) (by rw [List.getElem?_map, (getD_mem (d := (0 : Int)) hi).2]; rfl)
    obtain ⟨t, rfl⟩ := r
    exact ⟨t, hv⟩
  refine TB.set_ints (val := fun i => ns.getD i 0) (I.ok.hd hc) pl.isList (fun i v hv => ?_) (by rw [hsz]; exact hl) fun h' tk ms hS hm hkeep => ?_
  · have hv' : its[i]? = some v := by simpa using hv
    have hi : i < ns.length := by
      have := (List.getElem?_eq_some_iff.mp hv').1
      rw [← rv.length, List.length_map] at this
      exact this
    obtain ⟨t, e⟩ := gi i hi
    rw [e] at hv'
    exact ⟨t, (Option.some.inj hv').symm⟩
  · rw [hsz] at hm
    have hnd : ms.Nodup := by obtain ⟨o, es, ep, t, _, _, _, S⟩ := hS; exact S.nd
    refine ⟨.ref s.heap.objs.size, _, I.layS (t' := tk) (fun b o e => hkeep b o (Heap.lt_size e) e) (Nat.le_refl _) hS, rfl, q ms hnd (fun x => ?_) _ (I.hok.fresh (Nat.le_refl _))⟩
    rw [hm x]
    constructor
    · rintro ⟨j, hj, e⟩
      rw [← e]
      exact (getD_mem (d := (0 : Int)) hj).1
    · intro hx
      obtain ⟨j, hj, e⟩ := List.mem_iff_getElem.mp hx
      exact ⟨j, hj, by show ns.getD j 0 = x; rw [List.getD_eq_getElem?_getD, List.getElem?_eq_getElem hj, e]; rfl⟩
theorem call_sorted_is (hc : X.calm = true) : CallR X (.builtin "sorted") (fun xs H Q => ∃ l, ∃ ns : List Int, xs = [.ref l] ∧ H l = some (IntS X.w l ns) ∧ ns.length ≤ 60 ∧
    ∀ ms : List Int, ms.Perm ns → ms.Pairwise (fun a b => a < b) → ∀ p, H p = none → Q (.ref p) (upd H p (.lst (ms.map V.int)))) := by
  intro pins s σ H xs us Q I r h
  obtain ⟨l, ns, rfl, hl, h60, q⟩ := h
  obtain ⟨u, rfl, ru⟩ := vals1 r
  cases ru
  obtain ⟨o, es, ep, t, ho, hex, hd, S⟩ := I.intS hl
  obtain ⟨tk0, hent⟩ := S.ent
  obtain ⟨ns', hperm, hord⟩ := TB.ents_perm (TB.ord_perm X.w l ep es) hent
  have hnd' : ns'.Nodup := hperm.nodup_iff.mpr S.nd
  have hl' : ns'.length = ns.length := hperm.length_eq
  refine SRT.sorted_src (κ := oneType') (TB.src_set S hex hd) (I.ok.hd hc) ho (by rw [S.size, sizeLine_eq]; omega) fun h1 tk vs hk1 hlt1 hit => ?_
  have evs : vs = ns'.map fun n => Value.int n (tk0 n) := by
    apply List.ext_getElem?
    intro i
    have hvl : vs.length = es.size := by have := hit.1; rw [List.size_toArray] at this; exact this
    by_cases hi : i < vs.length
    · have : Option.map (fun x => x.2) (TB.ordS X.w l ep es)[i]? = some vs[i] := hit.2 i vs[i] (by rw [List.getElem?_toArray]; exact List.getElem?_eq_getElem hi)
      rw [List.getElem?_eq_getElem hi, List.getElem?_map]
      rw [← Array.getElem?_toList, hord, List.getElem?_map] at this
      cases e : ns'[i]? with
      | none => rw [e] at this; cases this
      | some n =>
        rw [e] at this
        have e2 : (TB.iEnt tk0 n).2 = vs[i] := Option.some.inj this
        show some vs[i] = some (Value.int n (tk0 n))
        rw [← e2]; rfl
    · rw [List.getElem?_eq_none (by omega), List.getElem?_eq_none (by rw [List.length_map, hl', ← S.size]; omega)]
  have hvl : vs.length = ns'.length := by rw [evs, List.length_map]
  have gd : ∀ i, i < ns'.length → vs.getD i Value.none = .int (ns'.getD i 0) (tk0 (ns'.getD i 0)) := fun i hi => by
    rw [evs, getD_map (d := (0 : Int)) hi]
  have rv : Vals (ns'.map V.int) vs := by
    rw [evs]
    clear hperm hord hnd' hl' evs hvl gd hit
    induction ns' with
    | nil => exact .nil
    | cons n ns' ih => exact .cons ⟨_, rfl⟩ ih
  refine ⟨fun i j => decide (ns'.getD i 0 < ns'.getD j 0), ⟨fun i _ => by simp, fun i j k _ _ _ h1 h2 => ?_, fun i j hi hj hij => ?_⟩, by omega, fun A' s' _ _ Q' h2 hQ => ?_, fun A' s' _ _ i j C hi hj hC => ?_, fun p h' hrow hup kp hg => ?_⟩
  · simp only [decide_eq_true_eq] at *; omega
  · simp only [decide_eq_true_eq]
    have : ns'.getD i 0 ≠ ns'.getD j 0 := by
      rw [List.getD_eq_getElem?_getD, List.getD_eq_getElem?_getD, List.getElem?_eq_getElem (by omega), List.getElem?_eq_getElem (by omega)]
      exact fun e => hij ((List.getElem_inj hnd').mp e)
    omega
  · rw [ksk_kind (keys := vs.toArray) (kz := ns') (by simpa using ints_of rv) (by rw [List.size_toArray]; omega)]
    exact wpAny_pure hQ
  · rw [gd i (by omega), gd j (by omega)]
    exact PySem.W.kat_lt_int hC
  · obtain ⟨c, hg⟩ := hg
    rw [hvl] at hrow hup
    have hin : ∀ i ∈ p.toList, i < ns'.length := fun i hi => List.mem_range.mp (hrow.perm.mem_iff.mp hi)
    have hperm2 : (p.toList.map fun i => ns'.getD i 0).Perm ns' := by
      refine (hrow.perm.map _).trans ?_
      have : (List.range ns'.length).map (fun i => ns'.getD i 0) = ns' := by
        apply List.ext_getElem?
        intro i
        rw [List.getElem?_map]
        by_cases hi : i < ns'.length
        · rw [List.getElem?_range hi, (getD_mem (d := (0 : Int)) hi).2]; rfl
        · rw [List.getElem?_eq_none (by rw [List.length_range]; omega), List.getElem?_eq_none (by omega)]; rfl
      rw [this]
    have hpl : p.size = ns'.length := hrow.size
    have hpw : (p.toList.map fun i => ns'.getD i 0).Pairwise (fun a b => a < b) := by
      rw [List.pairwise_iff_getElem]
      intro i j hi hj hij
      have hi' : i < p.size := by rw [List.length_map, Array.length_toList] at hi; exact hi
      have hj' : j < p.size := by rw [List.length_map, Array.length_toList] at hj; exact hj
      have := hup i j hij (by omega)
      simp only [] at this
      rw [Array.getD_eq_getD_getElem?, Array.getD_eq_getD_getElem?, Array.getElem?_eq_getElem hi', Array.getElem?_eq_getElem hj'] at this
      simpa using this
    refine ⟨.ref h1.objs.size, _, I.laid (t' := tk) (o := .lst ((p.toList.map fun i => ns'.getD i 0).map V.int)) kp (Nat.le_of_lt hlt1) ⟨?_, _, c, vals_pick rv p.toList hin, hg⟩, rfl, q _ (hperm2.trans hperm) hpw _ (I.hok.fresh (Nat.le_of_lt hlt1))⟩
    rw [List.length_map, hperm2.length_eq, sizeLine_eq]; omega
end
end L2
set_option linter.all false
set_option maxRecDepth 100000
namespace TB
open PySem PySem.SetTable
theorem laid_ok {mask finger moves : Nat} {led plain : Bool} {hashes : Array Int} (c : Cyc mask) (hl : hashes.size ≤ mask + 1) :
    ∃ (t' : SetTable) (zs : List (Nat × Nat)), SetTable.laid mask finger moves led plain hashes = some (t', (zs.map (·.2)).toArray) ∧ t'.mask = mask ∧ t'.led = led ∧ t'.plain = plain ∧
      Tb t' (zs.map (·.1)) ∧ (zs.map (·.2)).Perm (List.range hashes.size) := by
  obtain ⟨owner, e, L⟩ := layClean_ok c hashes hl
  refine ⟨{ mask := mask, place := ((live mask owner).map (·.1)).toArray, dummies := #[], finger := finger, led := led, moves := moves, plain := plain }, live mask owner, ?_, rfl, rfl, rfl, ⟨rfl, rfl, ?_, ?_⟩, ?_⟩
  · unfold laid
    rw [e]; rfl
  · unfold Up live
    rw [List.map_filterMap]
    have e1 : ((List.range (mask + 1)).filterMap fun j => ((owner.getD j none).map (j, ·)).map (·.1)) = (List.range (mask + 1)).filter fun j => (owner.getD j none).isSome := by
      generalize List.range (mask + 1) = l
      induction l with
      | nil => rfl
      | cons x l ih =>
        cases ex : owner.getD x none with
        | none => rw [List.filterMap_cons_none (by rw [ex]; rfl), List.filter_cons_of_neg (by simp [ex])]; exact ih
        | some i => rw [List.filterMap_cons_some (b := x) (by rw [ex]; rfl), List.filter_cons_of_pos (by simp [ex]), ih]
    rw [e1]
    exact List.Pairwise.sublist List.filter_sublist List.pairwise_lt_range
  · intro j hj
    obtain ⟨z, hz, rfl⟩ := List.mem_map.mp hj
    unfold live at hz
    obtain ⟨k, hk, e1⟩ := List.mem_filterMap.mp hz
    cases ex : owner.getD k none with
    | none => rw [ex] at e1; cases e1
    | some i =>
      rw [ex] at e1
      have e2 : (k, i) = z := Option.some.inj e1
      subst e2
      have := List.mem_range.mp hk
      show k ≤ mask
      omega
  · have := L.perm
    rw [Array.length_toList] at this
    exact this
theorem pick_all {es : Array (Int × Value)} {zs : List (Nat × Nat)} (h : (zs.map (·.2)).Perm (List.range es.size)) : (((zs.map (·.2)).toArray).filterMap (fun i => es[i]?)).toList.Perm es.toList := by
  rw [Array.toList_filterMap]
  exact (h.filterMap _).trans (by rw [filterMap_getElem?_range])
section
variable {prog : Program} {w : World} {A : Around} {E : Value → Shared → Prop} {s : Shared}
theorem relay_is {a : Addr} {ns : List Int} {wanted : Nat} {Q : Unit → Shared → Prop} (hS : IS w s.heap a ns) (hw : wanted ≤ 255) (hroom : ns.length * 5 < (sizeAbove wanted - 1) * 3)
    (h : ∀ h' ns' o es ep t, Heap.SameBut a s.heap h' → h'.get? a = some o → o.ExactSet → o.data = .set es ep t → ISt w es t ns' → ns'.Perm ns → t.mask = sizeAbove wanted - 1 → Q () { s with heap := h' }) : wpAny (model prog w) A (setRelay a wanted) Q E s := by
  obtain ⟨o, es, ep, t, ho, hex, hd, S⟩ := hS
  obtain ⟨hmk, hle, h256⟩ := mk_above hw
  have hsz := S.size
  have hge := hmk.ge
  unfold setRelay
  refine wpAny_bind (wpAny_setState_of ho hd S.fits ?_)
  dsimp only
  rw [if_neg (by rw [sizeLine_eq]; omega)]
  obtain ⟨t', zs, e, hm, hled, hpl, T, hperm, _⟩ := relaid_ok (t := t) (hashes := es.map (·.1)) (wanted := wanted) hmk.cyc (by rw [Array.size_map]; omega)
  rw [Array.size_map] at hperm
  have hp := pick_all hperm
  have hsz2 : (((zs.map (·.2)).toArray).filterMap (fun i => es[i]?)).size = es.size := by rw [← Array.length_toList, hp.length_eq, Array.length_toList]
  obtain ⟨tk, hent⟩ := S.ent
  obtain ⟨ns', hns', hes'⟩ := ents_perm hp hent
  have hzl : zs.length = es.size := by
    have := hperm.length_eq
    rw [List.length_map, List.length_range] at this
    exact this
  have hnl : ns'.length = ns.length := hns'.length_eq
  refine wpAny_bind ?_
  rw [e]
  show wpAny _ _ (@ite _ _ _ _ _) _ _ _
  rw [if_neg (by rw [hsz2]; simp)]
  refine wpAny_pure ?_
  dsimp only
  refine wpAny_storeSet_of ho hd ?_ (by rw [hsz2, sizeLine_eq]; omega)
  exact h _ ns' _ _ _ t' (Heap.SameBut.update s.heap a _) (stored ho hd _ t') hex rfl ⟨⟨tk, hes'⟩, hns'.nodup_iff.mpr S.nd, ⟨_, T, by rw [List.length_map]; omega⟩, by rw [hm]; exact hmk, by rw [hm, hnl]; exact hroom, by rw [hpl]; exact S.pl, fun z => by rw [hled]; exact S.led z⟩ hns' hm
theorem room_is {a : Addr} {ns : List Int} {more : Nat} {Q : Unit → Shared → Prop} (hS : IS w s.heap a ns) (hw : ns.length + more ≤ 120)
    (h : ∀ h' ns' o es ep t, Heap.SameBut a s.heap h' → h'.get? a = some o → o.ExactSet → o.data = .set es ep t → ISt w es t ns' → ns'.Perm ns → (ns.length + more) * 5 < t.mask * 3 → Q () { s with heap := h' }) : wpAny (model prog w) A (setRoomFor a more) Q E s := by
  obtain ⟨o, es, ep, t, ho, hex, hd, S⟩ := id hS
  obtain ⟨l, T, hl⟩ := S.tb
  have hfill : t.fill = ns.length := by rw [fill_of T, hl]
  have hpl : t.place.size = ns.length := by rw [T.pl, List.size_toArray, hl]
  unfold setRoomFor
  refine wpAny_bind (wpAny_setState_of ho hd S.fits ?_)
  dsimp only
  by_cases hc : (t.fill + more) * 5 ≥ t.mask * 3
  · have e : t.roomFor more = some ((t.place.size + more) * 2) := by unfold SetTable.roomFor; rw [if_pos hc]
    rw [e]
    dsimp only
    rw [hpl]
    obtain ⟨hmk, hle, _⟩ := mk_above (w := (ns.length + more) * 2) (by omega)
    have hge := hmk.ge
    have hge2 := S.mkm.ge
    refine relay_is hS (by omega) (by omega) fun h' ns' o' es' ep' t' hsb ho' hex' hd' S' hp hm => h h' ns' o' es' ep' t' hsb ho' hex' hd' S' hp ?_
    rw [hm]
    omega
  · have e : t.roomFor more = none := by unfold SetTable.roomFor; rw [if_neg hc]
    rw [e]
    dsimp only
    have es' : s = { s with heap := s.heap } := by cases s; rfl
    rw [es']
    exact wpAny_pure (h s.heap ns o es ep t (Heap.SameBut.refl a s.heap) ho hex hd S (.refl _) (by rw [hfill] at hc; omega))
theorem merge_new {a b : Addr} {ns : List Int} {each : Sem Unit} {Q : Unit → Shared → Prop} (hab : a ≠ b) (ha : IS w s.heap a []) (hb : IS w s.heap b ns) (hn : ns.length ≤ 60)
    (h : ∀ h' ns', Heap.SameBut a s.heap h' → IS w h' a ns' → ns'.Perm ns → Q () { s with heap := h' }) : wpAny (model prog w) A (setMerge a b each) Q E s := by
  obtain ⟨ob, eb, epb, tb, hob, hexb, hdb, Sb⟩ := id hb
  unfold setMerge
  have hne : (a == b) = false := by simpa using hab
  rw [hne]
  simp only [Bool.false_eq_true, if_false]
  refine wpAny_bind (wpAny_setState_of hob hdb Sb.fits ?_)
  dsimp only
  have es' : s = { s with heap := s.heap } := by cases s; rfl
  by_cases he : eb.isEmpty = true
  · rw [he]
    simp only [if_true]
    have hz : ns = [] := by
      have := Sb.size
      have h0 : eb.size = 0 := by simpa [Array.isEmpty] using he
      exact List.length_eq_zero_iff.mp (by omega)
    subst hz
    rw [es']
    exact wpAny_pure (h s.heap [] (Heap.SameBut.refl a s.heap) ha (.refl _))
  · have he' : eb.isEmpty = false := by simpa using he
    rw [he']
    simp only [Bool.false_eq_true, if_false]
    have hsb := Sb.size
    refine wpAny_bind (room_is ha (by rw [List.length_nil]; omega) fun h1 ns1 o1 es1 ep1 t1 hs1 ho1 hex1 hd1 S1 hp1 hrm1 => ?_)
    have e1 : ns1 = [] := hp1.eq_nil
    subst e1
    rw [List.length_nil, Nat.zero_add] at hrm1
    have hob1 : h1.get? b = some ob := (hs1.2 b (Ne.symm hab)).trans hob
    refine wpAny_bind (wpAny_setState_of (s := { s with heap := h1 }) ho1 hd1 S1.fits ?_)
    dsimp only
    obtain ⟨l1, T1, hl1⟩ := S1.tb
    have hfill1 : t1.fill = 0 := by rw [fill_of T1, hl1]; rfl
    obtain ⟨lb, Tb1, hlb⟩ := Sb.tb
    obtain ⟨tk, hent⟩ := Sb.ent
    have hge1 := S1.mkm.ge
    cases hr : t1.road tb with
    | slotForSlot =>
      dsimp only
      refine wpAny_storeSet_of (s := { s with heap := h1 }) ho1 hd1 ?_ (by rw [hsb, sizeLine_eq]; omega)
      refine h _ ns (hs1.trans (Heap.SameBut.update ..)) ⟨_, _, _, _, stored (s := { s with heap := h1 }) ho1 hd1 _ _, hex1, rfl, ⟨⟨tk, hent⟩, Sb.nd, ⟨lb, ⟨Tb1.pl, Tb1.nd, Tb1.up, Tb1.le⟩, hlb⟩, Sb.mkm, Sb.room, by show (t1.plain && tb.plain) = true; rw [S1.pl, Sb.pl]; rfl, fun z => by show (t1.led && tb.led) = true; rw [S1.led z, Sb.led z]; rfl⟩⟩ (.refl _)
    | clean =>
      dsimp only
      obtain ⟨t', zs, e, hm, hled, hpl, T, hperm⟩ := laid_ok (mask := t1.mask) (finger := t1.finger) (moves := t1.moves) (led := t1.led && tb.led) (plain := t1.plain && tb.plain) (hashes := eb.map (·.1)) S1.mkm.cyc (by rw [Array.size_map]; omega)
      rw [Array.size_map] at hperm
      have hp := pick_all hperm
      have hsz2 : (((zs.map (·.2)).toArray).filterMap (fun i => eb[i]?)).size = eb.size := by rw [← Array.length_toList, hp.length_eq, Array.length_toList]
      obtain ⟨ns', hns', hes'⟩ := ents_perm hp hent
      have hzl : zs.length = eb.size := by
        have := hperm.length_eq
        rw [List.length_map, List.length_range] at this
        exact this
      have hnl : ns'.length = ns.length := hns'.length_eq
      refine wpAny_bind ?_
      rw [e]
      show wpAny _ _ (@ite _ _ _ _ _) _ _ _
      rw [if_neg (by rw [hsz2]; simp)]
      refine wpAny_pure ?_
      dsimp only
      refine wpAny_storeSet_of (s := { s with heap := h1 }) ho1 hd1 ?_ (by rw [hsz2, hsb, sizeLine_eq]; omega)
      exact h _ ns' (hs1.trans (Heap.SameBut.update ..)) ⟨_, _, _, _, stored (s := { s with heap := h1 }) ho1 hd1 _ _, hex1, rfl, ⟨⟨tk, hes'⟩, hns'.nodup_iff.mpr Sb.nd, ⟨_, T, by rw [List.length_map]; omega⟩, by rw [hm]; exact S1.mkm, by rw [hm, hnl, ← hsb]; exact hrm1, by rw [hpl, S1.pl, Sb.pl]; rfl, fun z => by rw [hled, S1.led z, Sb.led z]; rfl⟩⟩ hns'
    | oneByOne =>
      exfalso
      unfold SetTable.road at hr
      rw [hfill1] at hr
      simp only [bne_self_eq_false, Bool.false_eq_true, if_false] at hr
      split at hr <;> cases hr
end
end TB
set_option linter.all false
set_option maxRecDepth 100000
namespace TB
open PySem PySem.SetTable
section
variable {prog : Program} {w : World} {A : Around} {E : Value → Shared → Prop} {s : Shared}
theorem walk_is {b : Addr} {o : Obj} {es : Array (Int × Value)} {ep : Nat} {t : SetTable} {ns : List Int} {Q : Array (Int × Value) → Shared → Prop} (S : ISt w es t ns) (ho : s.heap.get? b = some o) (hd : o.data = .set es ep t) (h : Q (ordS w b ep es) s) : wpAny (model prog w) A (setWalk b) Q E s := by
  unfold setWalk
  refine wpAny_bind (wpAny_setState_of ho hd S.fits ?_)
  unfold setsByText
  refine wpAny_bind (wpAny_bind (wpAny_askSetting (wpAny_pure ?_)))
  show wpAny _ _ (if bt w = true then _ else _) _ _ _
  unfold ordS at h
  cases hb : bt w with
  | true =>
    rw [hb] at h
    simp only [if_true] at h ⊢
    exact wpAny_bind (wpAny_askSetting (wpAny_pure h))
  | false =>
    rw [hb] at h
    simp only [Bool.false_eq_true, if_false] at h ⊢
    show wpAny _ _ (if (!t.plain && decide (es.size > 1)) = true then _ else _) _ _ _
    rw [not_drawn S]
    simp only [Bool.false_eq_true, if_false]
    refine wpAny_bind ?_
    show wpAny _ _ (if (!t.led && decide (es.size > 1)) = true then _ else _) _ _ _
    rw [S.led hb]
    simp only [Bool.not_true, Bool.false_and, Bool.false_eq_true, if_false]
    exact wpAny_pure (wpAny_pure h)
theorem walk_unseen {b : Addr} {os : List Addr} {f : Option Addr} {o : Obj} {es : Array (Int × Value)} {ep : Nat} {t : SetTable} {ns : List Int} {Q : Array (Int × Value) → Shared → Prop} (S : ISt w es t ns) (ho : s.heap.get? b = some o) (hd : o.data = .set es ep t) (h : Q (ordS w b ep es) s) : wpAny (model prog w) A (setWalkUnseen b os f) Q E s := by
  unfold setWalkUnseen
  refine wpAny_bind (wpAny_setState_of ho hd S.fits ?_)
  dsimp only
  refine wpAny_bind ?_
  unfold setsByText
  refine wpAny_bind (wpAny_askSetting (wpAny_pure ?_))
  have hc : ((model prog w).w.params.followText "set-order" || t.led && t.plain || decide (es.size ≤ 1)) = true := by
    cases hb : bt w with
    | true =>
      have : (model prog w).w.params.followText "set-order" = true := hb
      rw [this]; rfl
    | false => rw [S.led hb, S.pl]; simp
  show wpAny _ _ (if ((model prog w).w.params.followText "set-order" || t.led && t.plain || decide (es.size ≤ 1)) = true then _ else _) _ _ _
  rw [hc]
  simp only [if_true]
  exact walk_is S ho hd h
theorem merge_is {a b : Addr} {ms ns : List Int} {each : Sem Unit} {Q : Unit → Shared → Prop} (hab : a ≠ b) (ha : IS w s.heap a ms) (hb : IS w s.heap b ns) (hn : ms.length + ns.length ≤ 60)
    (hE : ∀ (h' : Heap) (Q' : Unit → Shared → Prop), Heap.SameBut a s.heap h' → Q' () { s with heap := h' } → wpAny (model prog w) A each Q' E { s with heap := h' })
    (h : ∀ h' us, Heap.SameBut a s.heap h' → IS w h' a us → (∀ x, x ∈ us ↔ x ∈ ms ∨ x ∈ ns) → Q () { s with heap := h' }) : wpAny (model prog w) A (setMerge a b each) Q E s := by
  by_cases hms : ms = []
  · subst hms
    exact merge_new hab ha hb (by omega) fun h' ns' hsb hS hp => h h' ns' hsb hS fun x => by rw [hp.mem_iff]; simp
  · obtain ⟨ob, eb, epb, tb, hob, hexb, hdb, Sb⟩ := id hb
    have hml : 0 < ms.length := List.length_pos_iff.mpr hms
    unfold setMerge
    have hne : (a == b) = false := by simpa using hab
    rw [hne]
    simp only [Bool.false_eq_true, if_false]
    refine wpAny_bind (wpAny_setState_of hob hdb Sb.fits ?_)
    dsimp only
    have es' : s = { s with heap := s.heap } := by cases s; rfl
    by_cases he : eb.isEmpty = true
    · rw [he]
      simp only [if_true]
      have hz : ns = [] := by
        have := Sb.size
        have h0 : eb.size = 0 := by simpa [Array.isEmpty] using he
        exact List.length_eq_zero_iff.mp (by omega)
      subst hz
      rw [es']
      exact wpAny_pure (h s.heap ms (Heap.SameBut.refl a s.heap) ha fun x => by simp)
    · have he' : eb.isEmpty = false := by simpa using he
      rw [he']
      simp only [Bool.false_eq_true, if_false]
      have hsb := Sb.size
      refine wpAny_bind (room_is ha (by omega) fun h1 ns1 o1 es1 ep1 t1 hs1 ho1 hex1 hd1 S1 hp1 hrm1 => ?_)
      have hob1 : h1.get? b = some ob := (hs1.2 b (Ne.symm hab)).trans hob
      refine wpAny_bind (wpAny_setState_of (s := { s with heap := h1 }) ho1 hd1 S1.fits ?_)
      dsimp only
      obtain ⟨l1, T1, hl1⟩ := S1.tb
      have hfill1 : t1.fill ≠ 0 := by rw [fill_of T1, hl1, hp1.length_eq]; omega
      have hroad : t1.road tb = .oneByOne := by
        unfold SetTable.road
        rw [if_pos (by simpa using hfill1)]
      rw [hroad]
      dsimp only
      refine wpAny_bind (walk_unseen (s := { s with heap := h1 }) Sb hob1 hdb ?_)
      obtain ⟨tk, hent⟩ := Sb.ent
      obtain ⟨ns', hns', hord⟩ := ents_perm (ord_perm w b epb eb) hent
      have hnl : ns'.length = ns.length := hns'.length_eq
      rw [← Array.forIn_toList, hord]
      refine wpAny_bind ?_
      refine wpAny_forIn_list _ (fun rest _ s' => ∃ h' us i, s' = { s with heap := h' } ∧ rest = (ns'.drop i).map (iEnt tk) ∧ Heap.SameBut a s.heap h' ∧ IS w h' a us ∧ (∀ x, x ∈ us ↔ x ∈ ms ∨ x ∈ ns'.take i) ∧ us.length ≤ ms.length + i ∧ i ≤ ns'.length) _ ?_ ?_ _ _
        ⟨h1, ns1, 0, rfl, rfl, hs1, ⟨o1, es1, ep1, t1, ho1, hex1, hd1, S1⟩, fun x => by rw [hp1.mem_iff]; simp, by rw [hp1.length_eq]; omega, Nat.zero_le _⟩
      · rintro ⟨hh, xx⟩ rest bb s' ⟨h', us, i, rfl, hr, hsb', hS', hmem, hlen, hi⟩
        have hlt : i < ns'.length := by
          rcases Nat.lt_or_ge i ns'.length with z | z
          · exact z
          · rw [List.drop_of_length_le z] at hr; cases hr
        rw [List.drop_eq_getElem_cons hlt, List.map_cons] at hr
        injection hr with hr1 hr2
        have hr3 : hh = hashInt ns'[i] ∧ xx = Value.int ns'[i] (tk ns'[i]) := by
          have : (hh, xx) = (hashInt ns'[i], Value.int ns'[i] (tk ns'[i])) := hr1
          injection this with q1 q2
          exact ⟨q1, q2⟩
        obtain ⟨rfl, rfl⟩ := hr3
        refine wpAny_bind (wpAny_holding (add_int (s := { s with heap := h' }) hS' (by omega) fun r h2 us2 hsb2 hS2 hor => ?_))
        refine wpAny_bind (hE h2 _ (hsb'.trans hsb2) ?_)
        have hob2 : h2.get? b = some ob := ((hsb'.trans hsb2).2 b (Ne.symm hab)).trans hob
        refine wpAny_bind (wpAny_setState_of (s := { s with heap := h2 }) hob2 hdb Sb.fits ?_)
        rw [if_neg (by simp)]
        refine wpAny_pure ⟨h2, us2, i + 1, rfl, hr2, hsb'.trans hsb2, hS2, fun x => ?_, ?_, hlt⟩
        · have ht : ns'.take (i + 1) = ns'.take i ++ [ns'[i]] := by rw [List.take_succ, List.getElem?_eq_getElem hlt]; rfl
          rw [ht, List.mem_append, List.mem_singleton]
          rcases hor with ⟨hin, e⟩ | ⟨_, e⟩
          · rw [e, hmem x]
            constructor
            · rintro (z | z)
              · exact .inl z
              · exact .inr (.inl z)
            · rintro (z | z | z)
              · exact .inl z
              · exact .inr z
              · rw [z]; exact (hmem _).mp hin
          · rw [e.mem_iff, List.mem_cons, hmem x]
            constructor
            · rintro (z | z | z)
              · exact .inr (.inr z)
              · exact .inl z
              · exact .inr (.inl z)
            · rintro (z | z | z)
              · exact .inr (.inl z)
              · exact .inr (.inr z)
              · exact .inl z
        · rcases hor with ⟨_, e⟩ | ⟨_, e⟩
          · rw [e]; omega
          · have := e.length_eq
            rw [List.length_cons] at this
            omega
      · rintro bb s' ⟨h', us, i, rfl, hr, hsb', hS', hmem, hlen, hi⟩
        have hie : ns'.drop i = [] := by simpa using hr.symm
        have hin : i = ns'.length := by
          have := congrArg List.length hie
          rw [List.length_drop, List.length_nil] at this
          omega
        refine wpAny_pure (h h' us hsb' hS' fun x => ?_)
        rw [hmem x, hin, List.take_length, hns'.mem_iff]
end
end TB
set_option linter.all false
set_option maxRecDepth 100000
namespace TB
open PySem PySem.SetTable
theorem entry_set_or : entryFor table "set.__or__" = some Builtin.«frozenset.__or__» :=
  entryFor_alias (id' := "frozenset.__or__") (by kernel_rfl) rfl (by decide +kernel) (by kernel_rfl)
section
variable {prog : Program} {w : World} {A : Around} {E : Value → Shared → Prop} {s : Shared}
theorem new_is {Q : Value → Shared → Prop} (h : ∀ h', (∀ b o, s.heap.get? b = some o → h'.get? b = some o) → IS w h' s.heap.objs.size [] → Q (.ref s.heap.objs.size) { s with heap := h' }) : wpAny (model prog w) A (newSet (.type "set")) Q E s := by
  unfold newSet setsByText
  refine wpAny_bind (wpAny_bind (wpAny_askSetting (wpAny_pure ?_)))
  dsimp only
  simp only [newObj]
  exact wpAny_bind (wpAny_alloc (wpAny_pure (h _ (fun b o e => Heap.get?_push_of_some _ e) (is_fresh (Heap.get?_push_size _ rfl)))))
theorem any_set {a : Addr} {Q : Bool → Shared → Prop} (hT : s.TypeIs (.ref a) "set") (h : Q true s) : wpAny (model prog w) A (Builtin.Frozenset.isAnySet (.ref a)) Q E s := by
  unfold Builtin.Frozenset.isAnySet
  refine wpAny_bind (wpAny_isInstance (b := true) hT sub_set_self ?_)
  exact wpAny_pure h
theorem copy_is {a : Addr} {ns : List Int} {Q : Value → Shared → Prop} (ha : IS w s.heap a ns) (hn : ns.length ≤ 60)
    (h : ∀ h' us, (∀ b o, s.heap.get? b = some o → h'.get? b = some o) → IS w h' s.heap.objs.size us → us.Perm ns → Q (.ref s.heap.objs.size) { s with heap := h' }) : wpAny (model prog w) A (Builtin.Frozenset.copyOf a) Q E s := by
  obtain ⟨o, es, ep, t, ho, hex, hd, S⟩ := id ha
  have hT : s.TypeIs (.ref a) "set" := ⟨o, ho, hex.1⟩
  unfold Builtin.Frozenset.copyOf Builtin.Frozenset.baseOf
  refine wpAny_bind ?_
  refine wpAny_bind (wpAny_isInstance (b := true) hT sub_set_self ?_)
  refine wpAny_pure ?_
  simp only [if_true]
  refine wpAny_bind (new_is fun h1 hk hS => ?_)
  refine wpAny_bind ?_
  show wpAny _ _ (pure s.heap.objs.size) _ _ _
  refine wpAny_pure ?_
  have hlt : a < s.heap.objs.size := Heap.lt_size ho
  refine wpAny_bind (merge_new (s := { s with heap := h1 }) (Nat.ne_of_gt hlt) hS (ha.at fun o e => hk a o e) hn fun h' us hsb hS' hp => ?_)
  refine wpAny_pure (h h' us (fun b o e => ?_) hS' hp)
  rw [hsb.2 b (Nat.ne_of_lt (Heap.lt_size e))]
  exact hk b o e
theorem union_is {a b : Addr} {ms ns : List Int} {Q : Value → Shared → Prop} (hab : a ≠ b) (ha : IS w s.heap a ms) (hb : IS w s.heap b ns) (hn : ms.length + ns.length ≤ 60)
    (h : ∀ h' us, (∀ b o, s.heap.get? b = some o → h'.get? b = some o) → IS w h' s.heap.objs.size us → (∀ x, x ∈ us ↔ x ∈ ms ∨ x ∈ ns) → Q (.ref s.heap.objs.size) { s with heap := h' }) : wpAny (model prog w) A (binaryOp .BitOr (.ref a) (.ref b)) Q E s := by
  obtain ⟨oa, ea, epa, ta, hoa, hexa, hda, Sa⟩ := id ha
  obtain ⟨ob, eb, epb, tb, hob, hexb, hdb, Sb⟩ := id hb
  have hTa : s.TypeIs (.ref a) "set" := ⟨oa, hoa, hexa.1⟩
  have hTb : s.TypeIs (.ref b) "set" := ⟨ob, hob, hexb.1⟩
  refine wpAny_binaryOp_same hTa hTb F.fills_set_or F.slot_set_or (wpAny_call_entry F.slot_set_or hTa entry_set_or ?_ (F.args_set_or_2 _ _))
  unfold Builtin.«frozenset.__or__»
  refine wpAny_bind ?_
  unfold Builtin.Frozenset.slot1
  refine wpAny_bind (wpAny_pure (wpAny_pure ?_))
  dsimp only
  simp only [Bool.false_eq_true, if_false]
  refine wpAny_bind ?_
  refine wpAny_bind (any_set hTa ?_)
  show wpAny _ _ (Builtin.Frozenset.isAnySet (.ref b)) _ _ _
  refine any_set hTb ?_
  simp only [Bool.not_true, Bool.false_eq_true, if_false]
  refine wpAny_bind ?_
  show wpAny _ _ (pure a) _ _ _
  refine wpAny_pure ?_
  refine wpAny_bind ?_
  refine wpAny_bind (copy_is ha (by omega) fun h1 us hk hS hp => ?_)
  have hne : (Value.ref b != Value.ref a) = true := by
    rw [bne_iff_ne]
    intro e
    injection e with e
    exact hab e.symm
  rw [hne]
  simp only [if_true]
  refine wpAny_bind ?_
  show wpAny _ _ (pure s.heap.objs.size) _ _ _
  refine wpAny_pure ?_
  refine wpAny_bind ?_
  refine wpAny_holding ?_
  unfold Builtin.Frozenset.updateFrom
  have hob1 : h1.get? b = some ob := hk b ob hob
  have hTb1 : Shared.TypeIs { s with heap := h1 } (.ref b) "set" := ⟨ob, hob1, hexb.1⟩
  refine wpAny_bind (any_set hTb1 ?_)
  simp only [if_true]
  refine wpAny_bind ?_
  show wpAny _ _ (pure b) _ _ _
  refine wpAny_pure ?_
  unfold Builtin.Frozenset.merge
  refine wpAny_bind (wpAny_setEpoch_of (s := { s with heap := h1 }) hob1 hdb Sb.fits ?_)
  have hbn : s.heap.objs.size ≠ b := Nat.ne_of_gt (Heap.lt_size hob)
  refine merge_is (s := { s with heap := h1 }) hbn hS (hb.at fun o e => hk b o e) (by rw [hp.length_eq]; exact hn) (fun h' Q' hsb hq => ?_) fun h' vs hsb hS' hmem => ?_
  · unfold Builtin.Frozenset.unchanged
    have hob2 : h'.get? b = some ob := (hsb.2 b (Ne.symm hbn)).trans hob1
    refine wpAny_bind (wpAny_setEpoch_of (s := { s with heap := h' }) hob2 hdb Sb.fits ?_)
    rw [if_neg (by simp)]
    exact wpAny_pure hq
  · refine wpAny_pure (wpAny_pure ⟨_, rfl, (fun e => nomatch e), h h' vs (fun c o e => ?_) hS' fun x => by rw [hmem x, hp.mem_iff]⟩)
    rw [hsb.2 c (Nat.ne_of_lt (Heap.lt_size e))]
    exact hk c o e
theorem set_dict {d : Addr} {od : Obj} {ed : Array DictEntry} {epd : Nat} {ks : List Int} {Q : Value → Shared → Prop} (hod : s.heap.get? d = some od) (hexd : od.ExactDict) (hdd : od.data = .dict ed epd) (hsm : (d == sysModules) = false)
    (hk : ∀ (i : Nat) (e : DictEntry), ed[i]? = some e → ∃ k t, ks[i]? = some k ∧ e.key = .int k t ∧ e.hash = hashInt k) (hlen : ed.size = ks.length) (hn : ks.length ≤ 60)
    (h : ∀ h' us, (∀ b o, s.heap.get? b = some o → h'.get? b = some o) → IS w h' s.heap.objs.size us → (∀ x, x ∈ us ↔ x ∈ ks) → Q (.ref s.heap.objs.size) { s with heap := h' }) : wpAny (model prog w) A (call (.type "set") [.ref d]) Q E s := by
  refine call_set_new ?_
  have hS : (s.heap.push { cls := .type "set", dict := none, data := .set #[] 0 (.fresh 0 0 (!bt w)) }).get? s.heap.objs.size = some { cls := .type "set", dict := none, data := .set #[] 0 (.fresh 0 0 (!bt w)) } := Heap.get?_push_size _ rfl
  have hI : IS w (s.heap.push { cls := .type "set", dict := none, data := .set #[] 0 (.fresh 0 0 (!bt w)) }) s.heap.objs.size [] := is_fresh hS
  have hod1 : (s.heap.push { cls := .type "set", dict := none, data := .set #[] 0 (.fresh 0 0 (!bt w)) }).get? d = some od := Heap.get?_push_of_some _ hod
  have hkeep : ∀ b o, s.heap.get? b = some o → (s.heap.push { cls := .type "set", dict := none, data := .set #[] 0 (.fresh 0 0 (!bt w)) }).get? b = some o := fun b o e => Heap.get?_push_of_some _ e
  have hdS : s.heap.objs.size ≠ d := Nat.ne_of_gt (Heap.lt_size hod)
  generalize (s.heap.push { cls := .type "set", dict := none, data := .set #[] 0 (.fresh 0 0 (!bt w)) }) = h0 at hS hI hod1 hkeep ⊢
  have hT : Shared.TypeIs { s with heap := h0 } (.ref d) "dict" := ⟨od, hod1, hexd.1⟩
  have hTS : Shared.TypeIs { s with heap := h0 } (.ref s.heap.objs.size) "set" := ⟨_, hS, rfl⟩
  have h1 : isSubtype (.type "dict") (.type "set") = pure false := by rw [isSubtype_type]; kernel_rfl
  have h2 : isSubtype (.type "dict") (.type "frozenset") = pure false := by rw [isSubtype_type]; kernel_rfl
  generalize hU : @Builtin.Frozenset.updateFrom = U
  unfold Builtin.«set.__init__» noKeywords
  wp_walk
  rw [hdd]
  refine wpAny_pure ?_
  refine wpAny_bind (wpAny_dictEntries (s := { s with heap := h0 }) hod1 hdd ?_)
  refine wpAny_bind (room_is (s := { s with heap := h0 }) hI (by rw [List.length_nil]; omega) fun h3 ns3 o3 es3 ep3 t3 hs3 ho3 hex3 hd3 S3 hp3 _ => ?_)
  have e3 : ns3 = [] := hp3.eq_nil
  subst e3
  have hod3 : h3.get? d = some od := (hs3.2 d (Ne.symm hdS)).trans hod1
  refine wpAny_bind (wpAny_dictEntries (s := { s with heap := h3 }) hod3 hdd ?_)
  refine wpAny_bind ?_
  rw [Std.Legacy.Range.forIn_eq_forIn_range']
  simp only [Std.Legacy.Range.size, Nat.sub_zero, Nat.add_sub_cancel, Nat.div_one]
  refine wpAny_forIn_list _ (fun rest _ s' => ∃ h' us i, s' = { s with heap := h' } ∧ rest = List.range' i (ed.size - i) ∧ i ≤ ed.size ∧ Heap.SameBut s.heap.objs.size h0 h' ∧ IS w h' s.heap.objs.size us ∧ (∀ x, x ∈ us ↔ x ∈ ks.take i) ∧ us.length ≤ i) _ ?_ ?_ _ _
    ⟨h3, [], 0, rfl, by simp, Nat.zero_le _, hs3, ⟨o3, es3, ep3, t3, ho3, hex3, hd3, S3⟩, fun x => by simp, Nat.le_refl _⟩
  · rintro x rest b s' ⟨h', us, i, rfl, hr, hi, hsb, hS', hmem, hl⟩
    have hlt : i < ed.size := by
      rcases Nat.lt_or_ge i ed.size with h | h
      · exact h
      · rw [Nat.sub_eq_zero_of_le h] at hr; simp at hr
    obtain ⟨rfl, hrest⟩ : x = i ∧ rest = List.range' (i + 1) (ed.size - (i + 1)) := by
      have e : ed.size - i = (ed.size - (i + 1)) + 1 := by omega
      rw [e, List.range'_succ] at hr
      injection hr with h1 h2
      exact ⟨h1, h2⟩
    have hod' : h'.get? d = some od := (hsb.2 d (Ne.symm hdS)).trans hod1
    refine wpAny_bind (wpAny_dictEntries (s := { s with heap := h' }) hod' hdd ?_)
    have hx : ed[x]? = some ed[x] := Array.getElem?_eq_getElem hlt
    obtain ⟨k, kt, hk1, hk2, hk3⟩ := hk x _ hx
    rw [hx]
    show wpAny _ _ (holding [ed[x].key] (setAddHashed s.heap.objs.size ed[x].key ed[x].hash) >>= _) _ _ _
    rw [hk2, hk3]
    refine wpAny_bind (wpAny_holding (add_int (s := { s with heap := h' }) hS' (by omega) fun r h2 us2 hsb2 hS2 hor => ?_))
    have hod2 : h2.get? d = some od := (hsb2.2 d (Ne.symm hdS)).trans hod'
    refine wpAny_bind (wpAny_dictEpoch (s := { s with heap := h2 }) hod2 hdd ?_)
    rw [if_neg (by simp)]
    refine wpAny_pure ⟨h2, us2, x + 1, rfl, hrest, hlt, hsb.trans hsb2, hS2, fun y => ?_, ?_⟩
    · have ht : ks.take (x + 1) = ks.take x ++ [k] := by rw [List.take_succ, hk1]; rfl
      rw [ht, List.mem_append, List.mem_singleton]
      rcases hor with ⟨hin, e⟩ | ⟨_, e⟩
      · rw [e, hmem y]
        constructor
        · exact .inl
        · rintro (z | z)
          · exact z
          · rw [z]; exact (hmem _).mp hin
      · rw [e.mem_iff, List.mem_cons, hmem y]
        exact Or.comm
    · rcases hor with ⟨_, e⟩ | ⟨_, e⟩
      · rw [e]; omega
      · have := e.length_eq
        rw [List.length_cons] at this
        omega
  · rintro b s' ⟨h', us, i, rfl, hr, hi, hsb, hS', hmem, hl⟩
    have hin : i = ed.size := by
      have := congrArg List.length hr
      rw [List.length_nil, List.length_range'] at this
      omega
    refine wpAny_pure (wpAny_pure ⟨rfl, h h' us (fun c o e => ?_) hS' fun x => ?_⟩)
    · rw [hsb.2 c (Nat.ne_of_lt (Heap.lt_size e))]
      exact hkeep c o e
    · rw [hmem x, hin, hlen, List.take_length]
end
end TB
set_option Elab.async false
set_option linter.all false
set_option maxRecDepth 100000
namespace L2
open PySem PySem.Spec PyProof.Rows
noncomputable def Alike (H : Hp) : Nat → V → V → Prop
  | 0, x, y => x = y ∧ flatV x = true
  | n + 1, x, y => (x = y ∧ flatV x = true) ∨ ∃ a b xs ys, x = .ref a ∧ y = .ref b ∧ H a = some (.tup xs) ∧ H b = some (.tup ys) ∧ xs.length = ys.length ∧ ∀ (i : Nat) x' y', xs[i]? = some x' → ys[i]? = some y' → Alike H n x' y'
theorem eqV_same {x : V} (f : flatV x = true) : eqV x x = true := by
  cases x <;> first | rfl | (simp [eqV]; done) | (exact absurd (show false = true from f) Bool.false_ne_true)
theorem alike_flat {H : Hp} {n : Nat} {x y : V} (h : x = y ∧ flatV x = true) : Alike H n x y := by
  cases n with
  | zero => exact h
  | succ n => exact .inl h
section
variable {X : Cx} {pins : List (Addr × Obj)} {σ : St} {H : Hp} {s : Shared}
theorem alike_eq (I : Inv X pins σ H s) : ∀ (n : Nat) {A : Around} {x y : V} {u v : Value}, RelV x u → RelV y v → Alike H n x y → A.units + n < cLine → SeqAt.EqAt A s u v true := by
  intro n
  induction n with
  | zero =>
    intro A x y u v ru rv h hu
    obtain ⟨e, f⟩ := h
    subst e
    have := eqAt_V (A := A) (s := s) ru rv f f
    rw [eqV_same f] at this
    exact this
  | succ n ih =>
    intro A x y u v ru rv h hu
    rcases h with ⟨e, f⟩ | ⟨a, b, xs, ys, rfl, rfl, ha, hb, hl, hx⟩
    · subst e
      have := eqAt_V (A := A) (s := s) ru rv f f
      rw [eqV_same f] at this
      exact this
    · cases ru
      cases rv
      by_cases hab : a = b
      · subst hab
        exact SeqAt.EqAt.same _
      · obtain ⟨_, us, r1, t1⟩ := I.hok a _ ha
        obtain ⟨_, ws, r2, t2⟩ := I.hok b _ hb
        have l1 := r1.length
        have l2 := r2.length
        have := SeqAt.RcAt.tuples (A := A) (s := s) (e := fun _ => true) t1 t2 (by omega) (fun j h1 h2 => by
          have h1' : j < xs.length := by rw [l1]; simpa using h1
          have h2' : j < ys.length := by rw [l2]; simpa using h2
          obtain ⟨u', hu1, hu2⟩ := r1.get (List.getElem?_eq_getElem h1')
          obtain ⟨v', hv1, hv2⟩ := r2.get (List.getElem?_eq_getElem h2')
          have e1 : us.toArray[j] = u' := by
            have : us[j]? = some us.toArray[j] := by rw [List.getElem?_eq_getElem (by simpa using h1)]; simp
            rw [hu1] at this
            exact (Option.some.inj this).symm
          have e2 : ws.toArray[j] = v' := by
            have : ws[j]? = some ws.toArray[j] := by rw [List.getElem?_eq_getElem (by simpa using h2)]; simp
            rw [hv1] at this
            exact (Option.some.inj this).symm
          rw [e1, e2]
          exact ih hu2 hv2 (hx j _ _ (List.getElem?_eq_getElem h1') (List.getElem?_eq_getElem h2')) (by simp [Around.in1_units]; omega))
        have e3 : ((List.range (min us.toArray.size ws.toArray.size)).all (fun _ => true) && us.toArray.size == ws.toArray.size) = true := by
          have : us.toArray.size = ws.toArray.size := by simp only [List.size_toArray]; omega
          simp [this]
        rw [e3] at this
        exact SeqAt.EqAt.of_refs hab this
end
section
variable {X : Cx}
noncomputable def AlikeAll (H : Hp) (xs ys : List V) : Prop := xs.length = ys.length ∧ ∀ (i : Nat) x y, xs[i]? = some x → ys[i]? = some y → Alike H 3 x y
theorem alike_at {pins : List (Addr × Obj)} {σ : St} {H : Hp} {s : Shared} (I : Inv X pins σ H s) {xs ys : List V} {us ws : List Value} (r1 : Vals xs us) (r2 : Vals ys ws) (h : AlikeAll H xs ys) {A : Around} (hu : A.units + 3 < cLine) :
    ∀ j (h1 : j < us.toArray.size) (h2 : j < ws.toArray.size), SeqAt.EqAt A s us.toArray[j] ws.toArray[j] true := fun j h1 h2 => by
  have h1' : j < xs.length := by rw [r1.length]; simpa using h1
  have h2' : j < ys.length := by rw [r2.length]; simpa using h2
  obtain ⟨u', hu1, hu2⟩ := r1.get (List.getElem?_eq_getElem h1')
  obtain ⟨v', hv1, hv2⟩ := r2.get (List.getElem?_eq_getElem h2')
  have e1 : us.toArray[j] = u' := by
    have : us[j]? = some us.toArray[j] := by rw [List.getElem?_eq_getElem (by simpa using h1)]; simp
    rw [hu1] at this
    exact (Option.some.inj this).symm
  have e2 : ws.toArray[j] = v' := by
    have : ws[j]? = some ws.toArray[j] := by rw [List.getElem?_eq_getElem (by simpa using h2)]; simp
    rw [hv1] at this
    exact (Option.some.inj this).symm
  rw [e1, e2]
  exact alike_eq I 3 hu2 hv2 (h.2 j _ _ (List.getElem?_eq_getElem h1') (List.getElem?_eq_getElem h2')) hu
theorem op_neX (hu : X.A.units + 4 < cLine) : OpR X (compareOp .NotEq) (fun x y H Q => rNe x y H Q ∨ (∃ a b xs ys, x = .ref a ∧ y = .ref b ∧ AlikeAll H xs ys ∧ ((H a = some (.lst xs) ∧ H b = some (.lst ys)) ∨ (H a = some (.tup xs) ∧ H b = some (.tup ys))) ∧ Q (.bl false) H)) := by
  intro pins s σ H x y v u Q I rx ry h
  rcases h with h | ⟨a, b, xs, ys, rfl, rfl, hx, h, q⟩
  · exact op_ne pins s σ H x y v u Q I rx ry h
  · cases rx
    cases ry
    rcases h with ⟨ha, hb⟩ | ⟨ha, hb⟩
    · obtain ⟨_, us, n1, r1, o1⟩ := I.hok a _ ha
      obtain ⟨_, ws, n2, r2, o2⟩ := I.hok b _ hb
      have hl := hx.1
      have l1 := r1.length
      have l2 := r2.length
      refine SeqAt.RcNeAt.lists (e := fun _ => true) ⟨_, o1, rfl, n1, rfl⟩ ⟨_, o2, rfl, n2, rfl⟩ (by simp only [List.size_toArray]; omega) (by omega) (alike_at I r1 r2 hx (by simp [Around.in1_units]; omega)) _ _ _ _ ⟨.bl false, H, I, ?_, q⟩
      show _ = Value.bool false
      simp
    · obtain ⟨_, us, r1, t1⟩ := I.hok a _ ha
      obtain ⟨_, ws, r2, t2⟩ := I.hok b _ hb
      have hl := hx.1
      have l1 := r1.length
      have l2 := r2.length
      refine SeqAt.RcNeAt.tuples (e := fun _ => true) t1 t2 (by omega) (alike_at I r1 r2 hx (by simp [Around.in1_units]; omega)) _ _ _ _ ⟨.bl false, H, I, ?_, q⟩
      show _ = Value.bool false
      have : us.toArray.size = ws.toArray.size := by simp only [List.size_toArray]; omega
      simp [this]
end
end L2
set_option Elab.async false
set_option linter.all false
set_option maxRecDepth 100000
namespace L2
open PySem PySem.Spec PyProof.Rows
section
variable {prog : Program} {w : World} {A : Around} {E : Value → Shared → Prop} {s : Shared}
end
section
variable {P : Program} {w : World}
end
section
variable {X : Cx} {o e : Expr} {td ty : TE} {apos cpos : Pos}
end
end L2
set_option Elab.async false
set_option linter.all false
set_option maxRecDepth 100000
namespace L2
open PySem PySem.Spec PyProof.Rows
noncomputable def Ext (p : Addr) (H H' : Hp) : Prop := ∀ b o, b ≠ p → H b = some o → H' b = some o
theorem Ext.of {p : Addr} {H H' : Hp} (s : Same H H') : Ext p H H' := fun b o _ e => s b o e
theorem Ext.upd {p : Addr} {H : Hp} {o : HO} : Ext p H (upd H p o) := fun b u hb e => by rw [upd_ne hb]; exact e
theorem Ext.trans {p : Addr} {H H1 H2 : Hp} (a : Ext p H H1) (b : Ext p H1 H2) : Ext p H H2 := fun c o hc e => b c o hc (a c o hc e)
noncomputable def MonoE (te : TE) : Prop := ∀ σ H (Q Q' : VK), (∀ y H, Q y H → Q' y H) → te σ H Q → te σ H Q'
theorem lc_map {js : List Nat} {J : It} {te : TE} {σ : St} {H1 : Hp} {Q : VK} {p : Addr} {fr : List (Option V)} (n : Nat) (hn : n ≤ 1000) (hp : H1 p = none) (hfr : lcStart 1 js σ = none :: fr) (R : Nat → V → Hp → Prop) (hR : ∀ i y H H', R i y H → Ext p H H' → R i y H')
    (go : ∀ i H', i < n → Same H1 H' → J.go i H') (stop : ∀ H', Same H1 H' → J.stop n H') (me : MonoE te)
    (step : ∀ i H' x H2, i < n → Same H1 H' → (∃ ys, H' p = some (.lst ys)) → J.yld i H' x H2 → H2 = H' ∧ te (some x :: fr) H' fun y H4 => Same H' H4 ∧ R i y H4)
    (fin : ∀ ys H', Same H1 H' → H' p = some (.lst ys) → ys.length = n → (∀ (j : Nat) y, ys[j]? = some y → R j y H') → Q (.ref p) H') : LcW 1 js (gName 0) te σ Q J H1 p := by
  refine lc_by (k := 1) (js := js) (J := J) (p := p) n hn (fun i ys σ' H' => (∃ o, σ' = o :: fr) ∧ Same H1 H' ∧ H' p = some (.lst ys) ∧ ys.length = i ∧ ∀ (j : Nat) y, ys[j]? = some y → R j y H') ⟨⟨none, hfr⟩, same_upd hp, upd_same, rfl, fun j y h => by simp at h⟩
    (fun i ys σ' H' h => by have := h.2.2.2.1; omega) (fun i ys σ' H' hi h => go i H' hi h.2.1) (fun ys σ' H' h => ⟨stop H' h.2.1, fin ys H' h.2.1 h.2.2.1 h.2.2.2.1 h.2.2.2.2⟩) (fun i ys σ' H' hi h x H2 hy => ?_) ?_ me
  · obtain ⟨⟨o, rfl⟩, s1, hl, hlen, hrs⟩ := h
    obtain ⟨rfl, ht⟩ := step i H' x H2 hi s1 ⟨ys, hl⟩ hy
    refine me _ _ _ _ (fun y H4 h4 => ?_) ht
    obtain ⟨s4, r4⟩ := h4
    refine ⟨s4 _ _ hl, ⟨some x, rfl⟩, same_over hp (s1.trans s4), upd_same, by rw [List.length_append, hlen]; rfl, fun j z hz => ?_⟩
    have ex : Ext p H2 (upd H4 p (.lst (ys ++ [y]))) := (Ext.of s4).trans Ext.upd
    by_cases hj : j < ys.length
    · rw [List.getElem?_append_left hj] at hz
      exact hR _ _ _ _ (hrs j z hz) ex
    · rw [List.getElem?_append_right (by omega)] at hz
      have hj' : j - ys.length = 0 := by
        cases e : j - ys.length with
        | zero => rfl
        | succ m => rw [e] at hz; simp at hz
      rw [hj'] at hz
      have ez : y = z := by simpa using hz
      subst ez
      have ej : j = i := by omega
      subst ej
      exact hR _ _ _ _ r4 Ext.upd
  · intro _ _ _ _ _ m q
    exact m _ _ q
theorem new_ne {H : Hp} {p q : Addr} (hp : ∃ ys, H p = some (.lst ys)) (hq : H q = none) : q ≠ p := fun e => by
  obtain ⟨ys, h⟩ := hp
  rw [← e, hq] at h
  cases h
end L2
set_option Elab.async false
set_option linter.all false
set_option maxRecDepth 100000
namespace L2
open PySem PySem.Spec PyProof.Rows
section
variable {X : Cx} {N : List Str} {scope : Scope} {cl : List (Str × Addr)} {k : Nat} {js : List Nat}
theorem ps_setLc {elt tg iter : Expr} {pos spos py : Pos} {y : Str} {ii : Nat} {wi : TI} {g : TG} {te : TE} (hXN : X.N.Nodup) (hii : X.N[ii]? = some y) (hx : Loc X.env.scope y) (hc : X.calm = true) (L : LcOk X scope cl) (hN : N.length = k + js.length)
    (hj : ∀ (i j : Nat) x, js[i]? = some j → N[k + i]? = some x → X.N[j]? = some x ∧ Vis X.env.scope x ∧ X.env.scope.names.lookup x ≠ some .local ∧ ((relabel scope X.env).names.lookup x = some .cell ∨ (relabel scope X.env).names.lookup x = some .free))
    (hi : PI X tg iter wi) (hg : ∀ s H fp, PG (lcCx X N scope cl s H fp) tg g) (he : ∀ s H fp, PE (lcCx X N scope cl s H fp) elt te)
    (hs : ∀ x, foldedSetIterable iter X.env x = pure x := by intro _; rfl) (hsw : swapsWith (.ListComp elt [⟨tg, iter, [], 0⟩] scope pos) (some (.Name y py)) spos.line X.env = pure true := by rfl)
    (hf : X.fn y = true ∨ X.env.scope.names.lookup y = some .local := by first | exact .inl rfl | exact .inr rfl | assumption) : PS X (.Assign [.Name y py] (.ListComp elt [⟨tg, iter, [], 0⟩] scope pos) spos) (tAsg (tLc k js wi g te) (gName ii)) := by
  intro pins s σ H D I h
  rw [exec_Assign_Name_used _ _ _ _ hsw]
  refine wpAny_bind (wpAny_standAt (wpAny_bind ?_))
  show wpAny _ X.A (do let _ ← comprehension (.ListComp elt [⟨tg, iter, [], 0⟩] scope pos) scope X.env _ (newList []) false (eval iter X.env) (some (assign (.Name y py) X.env))) _ _ s
  refine wpAny_bind (wpAny_mono (wpAny_comprehension_free (use := some (assign (.Name y py) X.env)) (Q := fun _ s' => ∃ σ' H', Inv X pins σ' H' s' ∧ D.nx σ' H') rfl hs L.clos L.kind L.names ?_) (fun _ s' hq => wpAny_pure (wpAny_pure hq)) fun _ _ e => e)
  refine thn (hi pins s σ H _ I h) fun v s1 h1 => thn h1 fun itv s2 h2 => ?_
  obtain ⟨it, fp, tn, J, H2, e, I2, T, st2, f2, hW⟩ := h2
  subst e
  have hfp : ∀ b ∈ fp, b < s2.heap.objs.size := fun b hb => by
    obtain ⟨o, e, _⟩ := T.obj _ _ st2 b hb
    exact Heap.lt_size e
  refine wpAny_newObj_type (wpAny_newFunctionEnv L.nocell (by intro y hy; simp at hy) (fun h₁ hns hsb => ?_) L.kind)
  dsimp only at hns hsb ⊢
  obtain ⟨W, ⟨m0, w0⟩, turn⟩ := hW s2.heap.objs.size (I2.hok.fresh (Nat.le_refl _))
  have I3 : Inv X pins σ (upd H2 s2.heap.objs.size (.lst [])) { s2 with heap := s2.heap.push { cls := .type "list", dict := none, data := .seq ([] : List Value).toArray } } := I2.lnew (t' := s2.toks) .nil (Nat.zero_le _)
  generalize hA : s2.heap.push { cls := .type "list", dict := none, data := .seq ([] : List Value).toArray } = hpA at hns hsb I3 ⊢
  have hszA : hpA.objs.size = s2.heap.objs.size + 1 := by rw [← hA, Heap.size_push]
  have keepA : ∀ b o, s2.heap.get? b = some o → hpA.get? b = some o := fun b o e => by rw [← hA]; exact Heap.get?_push_of_some _ e
  have f3 : ∀ b ∈ fp, FpOk X pins (upd H2 s2.heap.objs.size (.lst [])) b := fun b hb => ⟨by rw [upd_ne (Nat.ne_of_lt (hfp b hb))]; exact (f2 b hb).1, (f2 b hb).2⟩
  have hfp3 : ∀ b ∈ fp, b < hpA.objs.size := fun b hb => by rw [hszA]; exact Nat.lt_succ_of_lt (hfp b hb)
  have keep1 : ∀ b o, hpA.get? b = some o → h₁.get? b = some o := fun b o e => hsb.extBut b o (Nat.ne_of_lt (Heap.lt_size e)) (Heap.get?_push_of_some _ e)
  have J0 := lc_start (N := N) (k := k) (js := js) (tk := s2.toks + ([] : List (Str × Value)).length) I3 L f3 hfp3 ⟨_, hns⟩ keep1 hN hj
  have st1 : tn 0 h₁ := T.keep _ _ _ st2 fun b hb o e => keep1 b o (keepA b o e)
  have stat : ∀ {H' : Hp}, (∀ b ∈ fp, H' b = none) → ∀ b ∈ fp, FpOk (lcCx X N scope cl { s2 with heap := hpA } (upd H2 s2.heap.objs.size (.lst [])) fp) [] H' b := fun hn b hb =>
    ⟨hn b hb, Nat.ne_of_lt (hfp3 b hb), (lc_ok (N := N) I3 L f3 hfp3).exfs b hb, .inl hb, fun x c h => (f3 b hb).2.2.2.2.1 x c (L.cells x c h), fun p hp => absurd (show p ∈ ([] : List (Addr × Obj)) from hp) (by simp)⟩
  have loop : codeAny (model X.prog X.w) X.A (.compLoop (.ListComp elt [⟨tg, iter, [], 0⟩] scope pos) 0 (.ref it) (.ref s2.heap.objs.size) (compEnvC scope cl hpA.objs.size X.env))
      (compPost (model X.prog X.w) X.A X.xe (some (assign (.Name y py) X.env)) (fun _ s' => ∃ σ' H', Inv X pins σ' H' s' ∧ D.nx σ' H') (.ref s2.heap.objs.size) hpA.objs.size) { s2 with heap := h₁, toks := s2.toks + ([] : List (Str × Value)).length } := by
    refine lc_loop (fun n s' => ∃ i ys σ' H', Inv (lcCx X N scope cl { s2 with heap := hpA } (upd H2 s2.heap.objs.size (.lst [])) fp) [] σ' H' s' ∧ tn i s'.heap ∧ (∀ b ∈ fp, H' b = none) ∧ W i n ys σ' H') ?_ m0 ⟨0, [], _, _, J0, st1, fun b hb => (f3 b hb).1, w0⟩
    rintro n s3 ⟨i, ys, σ3, H3, J3, st3, fr3, w3⟩
    rcases turn i n ys σ3 H3 w3 with ⟨stop, qn⟩ | ⟨go, hlen, step⟩
    · refine thn (T.done (lcCx X N scope cl { s2 with heap := hpA } (upd H2 s2.heap.objs.size (.lst [])) fp) rfl rfl rfl hc i [] s3 σ3 H3 (fun _ _ => False) J3 (stat fr3) st3 stop) fun r s4 hpt => ?_
      obtain ⟨hr, J4⟩ := hpt
      subst hr
      obtain ⟨m, hm, _⟩ := J4.loc
      have I4 : Inv X pins σ H3 s4 := lc_end I3 f3 J4 (Heap.SameBut.refl _ _)
      obtain ⟨f0, f1, f2, f3', f4, f5⟩ := I3.fpOk (b := hpA.objs.size) (Nat.le_refl _) (H' := H3) J4.free
      show wpAny _ _ (assign (.Name y py) X.env (.ref s2.heap.objs.size)) _ _ _
      refine wpAny_assign_Name (store_ok2 I4 hXN hii hx (v := .ref s2.heap.objs.size) rfl (fun s5 I5 ⟨a, sb, ha⟩ => ⟨m, hm.sameBut sb ?_, fun h' hs' => ⟨_, H3, I5.turned (t' := s5.toks) (fun b o hb e => (hs'.2 b hb).trans e) f0 f1 f3' f4 f5, qn⟩⟩) hf)
      rcases ha with e | e
      · rw [e]; exact f1
      · exact fun z => f4 _ _ e z.symm
    · refine thn (T.item (lcCx X N scope cl { s2 with heap := hpA } (upd H2 s2.heap.objs.size (.lst [])) fp) rfl rfl rfl hc i [] s3 σ3 H3 (fun _ _ => False) J3 (stat fr3) st3 go) fun r s4 hpt => ?_
      obtain ⟨u, hr, h4⟩ := hpt
      subst hr
      refine thn h4 fun _ s5 hpt => ?_
      obtain ⟨x, H5, J5, r5, y5, st5, fr5⟩ := hpt
      have J5' := J5.pinned (stat fr5) (T.obj _ _ st5)
      refine thn (hg _ _ _ _ s5 σ3 H5 x u _ J5' r5 (step x H5 y5)) fun _ s6 hpt => ?_
      obtain ⟨σ6, H6, J6, q6⟩ := hpt
      refine thn (he _ _ _ _ s6 σ6 H6 _ J6 q6) fun y s7 hpt => ?_
      obtain ⟨vy, H7, J7, r7, q7, m', hm', w7⟩ := hpt
      refine thn (mt_append _ s7 σ6 H7 (.ref s2.heap.objs.size) [vy] _ _ (fun _ H8 => H8 = upd H7 s2.heap.objs.size (.lst (ys ++ [vy]))) J7 rfl (.cons r7 .nil) ⟨_, ys, vy, rfl, rfl, q7, hlen, rfl⟩) fun _ s8 hpt => ?_
      obtain ⟨_, H8, J8, _, e8⟩ := hpt
      subst e8
      refine ⟨m', hm', i + 1, ys ++ [vy], σ6, _, J8.unpinned, T.keep _ _ _ st5 fun b hb o e => (J8.pin (b, o) (List.mem_append_right _ (List.mem_append_right _ (mem_pinsAt hb e)))).1, fun b hb => ?_, w7⟩
      obtain ⟨o, e, d⟩ := T.obj _ _ st5 b hb
      exact (J8.pin (b, o) (List.mem_append_right _ (List.mem_append_right _ (mem_pinsAt hb e)))).2.1
  exact codeAny_compStart_list loop (T.self _ 0 _ _ _ st1 loop)
end
end L2
set_option Elab.async false
set_option linter.all false
set_option maxRecDepth 100000
namespace L2
open PySem PySem.Spec PyProof.Rows
section
variable {X : Cx}
end
end L2
set_option Elab.async false
set_option linter.all false
set_option maxRecDepth 100000
set_option maxHeartbeats 4000000
namespace L2
open PySem PySem.Spec PyProof.Rows
section
variable {X : Cx} {tg : Expr}
noncomputable def iDK (td : TE) : TI := fun σ H R => td σ H fun v H1 => ∃ d kvs, v = .ref d ∧ H1 d = some (.dK kvs) ∧ ∀ o, R (Itk d o (.dK kvs) (kvs.map fun p => kV p.1)) (upd H1 d (.frz o (.dK kvs)))
theorem pi_dK {l : Expr} {tl : TE} (hl : PE X l tl) : PI X tg l (iDK tl) := by
  intro pins s σ H R I h
  refine thn (hl pins s σ H _ I h) fun v s1 hpt => ?_
  obtain ⟨x, H1, I1, r1, q1⟩ := hpt
  obtain ⟨d, kvs, e, hH, q⟩ := q1
  subst e
  cases r1
  obtain ⟨hz, hsm, vs, rel, o, es, ep, ho, hx, hd, hk, hp, hn⟩ := I1.hok d _ hH
  have I2 : Inv X pins σ (upd H1 d (.frz o (.dK kvs))) s1 := I1.write (t' := s1.toks) (x := d) (e := d) (by rw [hH]; trivial) (.inl rfl) (fun _ _ _ q => q) ⟨o, ho⟩ ⟨ho, hz, hsm, vs, rel, o, es, ep, ho, hx, hd, hk, hp, hn⟩
  refine raw_iter hsm ⟨o, ho, hx, hd⟩ ?_
  refine ⟨s1.heap.objs.size, [s1.heap.objs.size], _, _, upd H1 d (.frz o (.dK kvs)), rfl, I2.kept (t' := s1.toks) fun b o e => Heap.get?_push_of_some _ e, turn_keys hx hd ?_, ⟨_, Heap.get?_push_size _ rfl, rfl, rfl⟩, fun b hb => ?_, q o⟩
  · have key : ∀ (es : List DictEntry) (vs : List (Key × Value)) (kvs : List (Key × V)), Pairs (mixKind X.prog X.w) es vs → KV kvs vs → Vals (kvs.map fun p => kV p.1) (es.map (·.key)) := by
      intro es vs kvs hp
      induction hp generalizing kvs with
      | nil => intro r; cases r; exact .nil
      | cons h1 h2 _ ih =>
        intro r
        cases r with
        | cons r1 r2 =>
          refine .cons ?_ (ih _ r2)
          dsimp only
          rw [r1.1]
          rcases keyIs_shape h1 with ⟨i, t, e1, e2⟩ | ⟨x, t, e1, e2⟩
          · rw [e1, e2]; exact ⟨t, rfl⟩
          · rw [e1, e2]; exact ⟨t, rfl⟩
    exact key _ _ _ hp rel
  · have e : b = s1.heap.objs.size := by simpa using hb
    subst e
    exact I2.fpOk (Nat.le_refl _) (I2.hok.fresh (Nat.le_refl _))
theorem op_in_tups (hu : X.A.units + 1 < cLine) : OpR X (compareOp .In) (fun x y H Q => ∃ a p ks, ∃ kss : List (Addr × List Key), x = .ref a ∧ H a = some (.tup (ks.map kV)) ∧ y = .ref p ∧ SqL X.K H p ((kss.map (·.1)).map V.ref) ∧
    (∀ z ∈ kss, H z.1 = some (.tup (z.2.map kV))) ∧ Q (.bl (kss.any fun z => decide (z.2 = ks))) H) := by
  intro pins s σ H x y v u Q I rx ry h
  obtain ⟨a, p, ks, kss, rfl, ha, rfl, hq, hk, q⟩ := h
  cases rx
  cases ry
  obtain ⟨its, rv, pl, hz⟩ := I.list hq
  have e := vals_refs rv
  subst e
  let e : Value → Bool := fun v => match v with | .ref b => ((kss.find? fun z => z.1 == b).map fun z => decide (z.2 = ks)).getD false | _ => false
  have he : ∀ z ∈ kss, e (.ref z.1) = decide (z.2 = ks) := fun z hz' => by
    show ((kss.find? fun y => y.1 == z.1).map fun z => decide (z.2 = ks)).getD false = _
    cases ef : kss.find? fun y => y.1 == z.1 with
    | none => have := List.find?_eq_none.mp ef z hz'; simp at this
    | some y =>
      have h1 := List.find?_some ef
      have h2 := List.mem_of_find?_eq_some ef
      have e1 : y.1 = z.1 := by simpa using h1
      have e2 := hk y h2
      rw [e1, hk z hz'] at e2
      have e3 : z.2.map kV = y.2.map kV := by injection (Option.some.inj e2)
      rw [kVs_inj e3]; rfl
  refine SeqAt.in_listAt e pl.isList (fun y hy => ?_) ⟨.bl _, H, I, rfl, ?_⟩
  · have hy' : y ∈ (kss.map (·.1)).map Value.ref := by simpa using hy
    obtain ⟨b, hb, rfl⟩ := List.mem_map.mp hy'
    obtain ⟨z, hz', rfl⟩ := List.mem_map.mp hb
    rw [he z hz']
    intro prog w E' Q' hQ
    exact wpAny_eqBool_tuple (knd := mixKind prog w) (by simp; exact hu) (tkey I (hk z hz') prog w) (tkey I ha prog w) hQ
  · have e1 : (((kss.map (·.1)).map Value.ref).toArray.any e) = kss.any fun z => decide (z.2 = ks) := by
      rw [List.any_toArray, List.any_map, List.any_map]
      apply Bool.eq_iff_iff.mpr
      rw [List.any_eq_true, List.any_eq_true]
      constructor
      · rintro ⟨z, hz', h1⟩; exact ⟨z, hz', by rw [← he z hz']; exact h1⟩
      · rintro ⟨z, hz', h1⟩; exact ⟨z, hz', by show e (.ref z.1) = true; rw [he z hz']; exact h1⟩
    rw [e1]
    exact q
theorem op_eqX (hu : X.A.units + 4 < cLine) : OpR X (compareOp .Eq) (fun x y H Q => rEq x y H Q ∨ (∃ a b xs ys, x = .ref a ∧ y = .ref b ∧ AlikeAll H xs ys ∧ ((H a = some (.lst xs) ∧ H b = some (.lst ys)) ∨ (H a = some (.tup xs) ∧ H b = some (.tup ys))) ∧ Q (.bl true) H)) := by
  intro pins s σ H x y v u Q I rx ry h
  rcases h with h | ⟨a, b, xs, ys, rfl, rfl, hx, h, q⟩
  · exact op_eq pins s σ H x y v u Q I rx ry h
  · cases rx
    cases ry
    rcases h with ⟨ha, hb⟩ | ⟨ha, hb⟩
    · obtain ⟨_, us, n1, r1, o1⟩ := I.hok a _ ha
      obtain ⟨_, ws, n2, r2, o2⟩ := I.hok b _ hb
      have hl := hx.1
      have l1 := r1.length
      have l2 := r2.length
      refine SeqAt.eq_listAt (e := fun _ => true) ⟨_, o1, rfl, n1, rfl⟩ ⟨_, o2, rfl, n2, rfl⟩ (by simp only [List.size_toArray]; omega) (by omega) (alike_at I r1 r2 hx (by simp [Around.in1_units]; omega)) ⟨.bl true, H, I, ?_, q⟩
      show _ = Value.bool true
      simp
    · obtain ⟨_, us, r1, t1⟩ := I.hok a _ ha
      obtain ⟨_, ws, r2, t2⟩ := I.hok b _ hb
      have hl := hx.1
      have l1 := r1.length
      have l2 := r2.length
      refine SeqAt.eq_tupleAt (e := fun _ => true) t1 t2 (by omega) (alike_at I r1 r2 hx (by simp [Around.in1_units]; omega)) ⟨.bl true, H, I, ?_, q⟩
      show _ = Value.bool true
      have : us.toArray.size = ws.toArray.size := by simp only [List.size_toArray]; omega
      simp [this]
end
end L2
set_option Elab.async false
set_option linter.all false
set_option maxRecDepth 100000
set_option maxHeartbeats 4000000
namespace L2
open PySem PySem.Spec PyProof.Rows
theorem Same.seqT {K : PySem.W.Frag} {H H' : Hp} {a : Addr} {xs : List V} (e : Same H H') (h : SqT K H a xs) : SqT K H' a xs := by
  rcases h with (h | ⟨o, h⟩) | h
  · exact .inl (.inl (e _ _ h))
  · exact .inl (.inr ⟨o, e _ _ h⟩)
  · exact .inr h
structure Src (J : It) (H1 : Hp) (xs : List V) : Prop where
  go : ∀ i H', i < xs.length → Same H1 H' → J.go i H'
  stop : ∀ H', Same H1 H' → J.stop xs.length H'
  yl : ∀ i H' x H2, i < xs.length → Same H1 H' → J.yld i H' x H2 → H2 = H' ∧ xs[i]? = some x
theorem src_tup {K : PySem.W.Frag} {a : Addr} {xs : List V} {H1 : Hp} (h : SqT K H1 a xs) : Src (Itt K a) H1 xs :=
  ⟨fun i H' hi s => ⟨xs, xs[i], s.seqT h, List.getElem?_eq_getElem hi⟩, fun H' s => ⟨xs, s.seqT h, Nat.le_refl _⟩, fun i H' x H2 _ s ⟨e, y⟩ => ⟨e, y xs (by subst e; exact s.seqT h)⟩⟩
theorem src_lst {K : PySem.W.Frag} {a : Addr} {xs : List V} {H1 : Hp} (h : SqL K H1 a xs) : Src (Itl K a) H1 xs :=
  ⟨fun i H' hi s => ⟨xs, xs[i], s.seq h, List.getElem?_eq_getElem hi⟩, fun H' s => ⟨xs, s.seq h, Nat.le_refl _⟩, fun i H' x H2 _ s ⟨e, y⟩ => ⟨e, y xs (by subst e; exact s.seq h)⟩⟩
theorem src_keys {d : Addr} {o : Obj} {u : HO} {ks : List V} {H1 : Hp} (h : H1 d = some (.frz o u)) : Src (Itk d o u ks) H1 ks :=
  ⟨fun i H' hi s => ⟨s _ _ h, hi⟩, fun H' s => ⟨s _ _ h, Nat.le_refl _⟩, fun i H' x H2 _ s ⟨e, y⟩ => ⟨e, y⟩⟩
theorem Paired.snoc {α β : Type} {R : α → β → Prop} : ∀ {as : List α} {bs : List β} {a : α} {b : β}, Paired R as bs → R a b → Paired R (as ++ [a]) (bs ++ [b])
  | _, _, _, _, .nil, h => .cons h .nil
  | _, _, _, _, .cons r t, h => .cons r (Paired.snoc t h)
theorem lc_sel {α : Type} {js : List Nat} {J : It} {tc : TT} {te : TE} {σ : St} {H1 : Hp} {Q : VK} {p : Addr} {fr : List (Option V)} (zs : List α) (val : α → V) (hn : zs.length ≤ 1000) (hp : H1 p = none) (S : Src J H1 (zs.map val)) (hfr : lcStart 1 js σ = none :: fr) (g : α → Bool) (R : α → V → Hp → Prop)
    (hR : ∀ z y H H', R z y H → Ext p H H' → R z y H')
    (cond : ∀ z H' (k : Bool → Hp → Prop), z ∈ zs → Same H1 H' → (∃ ys, H' p = some (.lst ys)) → (∀ H4, Same H' H4 → k (g z) H4) → tc (some (val z) :: fr) H' k)
    (elt : ∀ z H' (k : VK), z ∈ zs → g z = true → Same H1 H' → (∃ ys, H' p = some (.lst ys)) → (∀ y H4, Same H' H4 → R z y H4 → k y H4) → te (some (val z) :: fr) H' k)
    (fin : ∀ ys H', Same H1 H' → H' p = some (.lst ys) → Paired (fun z y => R z y H') (zs.filter g) ys → Q (.ref p) H') : LcW1 1 js (gName 0) tc te σ Q J H1 p := by
  have grow : ∀ {as : List α} {ys : List V} {H H' : Hp}, Ext p H H' → Paired (fun z y => R z y H) as ys → Paired (fun z y => R z y H') as ys := fun ex r => Paired.mapP r fun a b h => hR a b _ _ h ex
  have hlen : ∀ {as : List α} {ys : List V} {H : Hp}, Paired (fun z y => R z y H) as ys → ys.length = as.length := fun r => (Paired.length r).symm
  refine ⟨fun i m ys σ' H' => m = zs.length - i ∧ i ≤ zs.length ∧ (∃ o, σ' = o :: fr) ∧ Same H1 H' ∧ H' p = some (.lst ys) ∧ Paired (fun z y => R z y H') ((zs.take i).filter g) ys, ⟨zs.length, by simp, Nat.zero_le _, ⟨none, hfr⟩, same_upd hp, upd_same, .nil⟩, ?_⟩
  rintro i m ys σ' H' ⟨rfl, hi, ⟨o, rfl⟩, s1, hl, hys⟩
  by_cases hlt : i < zs.length
  · have hlt' : i < (zs.map val).length := by rw [List.length_map]; exact hlt
    refine .inr ⟨S.go i H' hlt' s1, ?_, fun x H2 hy => ?_⟩
    · have h1 : ys.length ≤ zs.length := by
        rw [hlen hys]
        exact Nat.le_trans (List.length_filter_le _ _) (by rw [List.length_take]; omega)
      exact Nat.lt_of_le_of_lt h1 (small1000 hn)
    · obtain ⟨rfl, hx⟩ := S.yl i H' x H2 hlt' s1 hy
      have gz : zs[i]? = some zs[i] := List.getElem?_eq_getElem hlt
      have mz := List.mem_of_getElem? gz
      rw [List.getElem?_map, gz] at hx
      have ex : val zs[i] = x := Option.some.inj hx
      have et : zs.take (i + 1) = zs.take i ++ [zs[i]] := take_snoc gz
      subst ex
      generalize zs[i] = z at gz mz et ⊢
      refine cond z H2 _ mz s1 ⟨ys, hl⟩ fun H4 s4 => ?_
      cases hb : g z with
      | true =>
        rw [if_pos rfl]
        refine elt z H4 _ mz hb (s1.trans s4) ⟨ys, s4 _ _ hl⟩ fun y H5 s5 r5 => ⟨s5 _ _ (s4 _ _ hl), zs.length - (i + 1), by omega, rfl, hlt, ⟨_, rfl⟩, same_over hp ((s1.trans s4).trans s5), upd_same, ?_⟩
        rw [et, List.filter_append, List.filter_cons_of_pos hb]
        exact Paired.snoc (grow ((Ext.of (s4.trans s5)).trans Ext.upd) hys) (hR _ _ _ _ r5 Ext.upd)
      | false =>
        rw [if_neg (by simp)]
        refine ⟨zs.length - (i + 1), by omega, rfl, hlt, ⟨_, rfl⟩, s1.trans s4, s4 _ _ hl, ?_⟩
        rw [et, List.filter_append, List.filter_cons_of_neg (by simp [hb]), List.filter_nil, List.append_nil]
        exact grow (Ext.of s4) hys
  · have e : i = zs.length := by omega
    subst e
    have st := S.stop H' s1
    rw [List.length_map] at st
    refine .inl ⟨st, fin ys H' s1 hl ?_⟩
    rw [List.take_length] at hys
    exact hys
theorem lc_each {α : Type} {js : List Nat} {J : It} {te : TE} {σ : St} {H1 : Hp} {Q : VK} {p : Addr} {fr : List (Option V)} (zs : List α) (val : α → V) (hn : zs.length ≤ 1000) (hp : H1 p = none) (S : Src J H1 (zs.map val)) (hfr : lcStart 1 js σ = none :: fr) (R : α → V → Hp → Prop)
    (hR : ∀ z y H H', R z y H → Ext p H H' → R z y H')
    (elt : ∀ z H' (k : VK), z ∈ zs → Same H1 H' → (∃ ys, H' p = some (.lst ys)) → (∀ y H4, Same H' H4 → R z y H4 → k y H4) → te (some (val z) :: fr) H' k)
    (fin : ∀ ys H', Same H1 H' → H' p = some (.lst ys) → Paired (fun z y => R z y H') zs ys → Q (.ref p) H') : LcW 1 js (gName 0) te σ Q J H1 p := by
  have grow : ∀ {as : List α} {ys : List V} {H H' : Hp}, Ext p H H' → Paired (fun z y => R z y H) as ys → Paired (fun z y => R z y H') as ys := fun ex r => Paired.mapP r fun a b h => hR a b _ _ h ex
  have hlen : ∀ {as : List α} {ys : List V} {H : Hp}, Paired (fun z y => R z y H) as ys → ys.length = as.length := fun r => (Paired.length r).symm
  refine ⟨fun i m ys σ' H' => m = zs.length - i ∧ i ≤ zs.length ∧ (∃ o, σ' = o :: fr) ∧ Same H1 H' ∧ H' p = some (.lst ys) ∧ Paired (fun z y => R z y H') (zs.take i) ys, ⟨zs.length, by simp, Nat.zero_le _, ⟨none, hfr⟩, same_upd hp, upd_same, .nil⟩, ?_⟩
  rintro i m ys σ' H' ⟨rfl, hi, ⟨o, rfl⟩, s1, hl, hys⟩
  by_cases hlt : i < zs.length
  · have hlt' : i < (zs.map val).length := by rw [List.length_map]; exact hlt
    refine .inr ⟨S.go i H' hlt' s1, ?_, fun x H2 hy => ?_⟩
    · have h1 : ys.length ≤ zs.length := by
        rw [hlen hys, List.length_take]; omega
      exact Nat.lt_of_le_of_lt h1 (small1000 hn)
    · obtain ⟨rfl, hx⟩ := S.yl i H' x H2 hlt' s1 hy
      have gz : zs[i]? = some zs[i] := List.getElem?_eq_getElem hlt
      have mz := List.mem_of_getElem? gz
      rw [List.getElem?_map, gz] at hx
      have ex : val zs[i] = x := Option.some.inj hx
      have et : zs.take (i + 1) = zs.take i ++ [zs[i]] := take_snoc gz
      subst ex
      generalize zs[i] = z at gz mz et ⊢
      refine elt z H2 _ mz s1 ⟨ys, hl⟩ fun y H5 s5 r5 => ⟨s5 _ _ hl, zs.length - (i + 1), by omega, rfl, hlt, ⟨_, rfl⟩, same_over hp (s1.trans s5), upd_same, ?_⟩
      rw [et]
      exact Paired.snoc (grow ((Ext.of s5).trans Ext.upd) hys) (hR _ _ _ _ r5 Ext.upd)
  · have e : i = zs.length := by omega
    subst e
    have st := S.stop H' s1
    rw [List.length_map] at st
    refine .inl ⟨st, fin ys H' s1 hl ?_⟩
    rw [List.take_length] at hys
    exact hys
theorem paired_ex {α β : Type} {R : α → V → Prop} {val : β → V} {S : α → β → Prop} {zs : List α} {ys : List V} (h : Paired R zs ys) (f : ∀ z y, z ∈ zs → R z y → ∃ b, y = val b ∧ S z b) :
    ∃ bs : List (α × β), bs.map (·.1) = zs ∧ ys = bs.map (fun x => val x.2) ∧ ∀ x ∈ bs, S x.1 x.2 := by
  induction h with
  | nil => exact ⟨[], rfl, rfl, by simp⟩
  | @cons a y as bs r _ ih =>
    obtain ⟨cs, e1, e2, e3⟩ := ih fun z y hz => f z y (by simp [hz])
    obtain ⟨b, e, s⟩ := f _ _ (by simp) r
    refine ⟨(a, b) :: cs, by rw [List.map_cons, e1], by rw [List.map_cons, ← e2, e], fun x hx => ?_⟩
    rcases List.mem_cons.mp hx with rfl | hx
    · exact s
    · exact e3 x hx
theorem paired_map {α : Type} {R : α → V → Prop} {f : α → V} {zs : List α} {ys : List V} (h : Paired R zs ys) (hf : ∀ z y, z ∈ zs → R z y → y = f z) : ys = zs.map f := by
  induction h with
  | nil => rfl
  | cons r _ ih => rw [List.map_cons, ← ih fun z y hz => hf z y (by simp [hz]), hf _ _ (by simp) r]
theorem Inv.thaw {X : Cx} {pins : List (Addr × Obj)} {σ : St} {H : Hp} {s : Shared} {d : Addr} {o : Obj} {kvs : List (Key × V)} (I : Inv X pins σ H s) (h : H d = some (.frz o (.dK kvs))) (h0 : X.H₀ d = none) : Inv X pins σ (upd H d (.dK kvs)) s := by
  have nd : ∀ b u, H b = some u → (∀ o' u', u ≠ .frz o' u') → b ≠ d := fun b u e hn z => by
    subst z; rw [h] at e; cases e; exact hn _ _ rfl
  have nn : ∀ b, H b = none → b ≠ d := fun b e z => by
    subst z; rw [h] at e; cases e
  refine ⟨I.ok, I.os, I.bare, ⟨I.base.keep, I.base.slot, fun b o e n hx => ?_, I.base.there, fun b xs e => ?_, fun b o' u e => ?_, fun b ps e => ?_⟩, I.loc, I.cell, ?_, fun x c e => ?_, fun p hp => ?_, fun b u e => ?_, I.len⟩
  · have := I.base.free b o e n hx
    rw [upd_ne (nn b this)]; exact this
  · have := I.base.tups b xs e
    rw [upd_ne (nd b _ this fun _ _ z => by cases z)]; exact this
  · have hb : b ≠ d := fun z => by subst z; rw [h0] at e; cases e
    rw [upd_ne hb]; exact I.base.frzs b o' u e
  · obtain ⟨m, this⟩ := I.base.tbls b ps e
    exact ⟨m, by rw [upd_ne (nd b _ this fun _ _ z => by cases z)]; exact this⟩
  · rw [upd_ne (nn _ I.free)]; exact I.free
  · rw [upd_ne (nn _ (I.freeC x c e))]; exact I.freeC x c e
  · obtain ⟨e, n, r⟩ := I.pin p hp
    exact ⟨e, by rw [upd_ne (nn _ n)]; exact n, r⟩
  · by_cases hb : b = d
    · subst hb
      rw [upd_same] at e
      cases e
      obtain ⟨_, q⟩ := I.hok b _ h
      exact q
    · rw [upd_ne hb] at e
      exact (I.hok b u e).stay (fun _ _ _ q => q) (fun c q => by rw [upd_ne (nd c _ q fun _ _ z => by cases z)]; exact q) fun c xs q => by rw [upd_ne (nd c _ q fun _ _ z => by cases z)]; exact q
noncomputable def tThaw (H₀ : Hp) (t : TS) : TS := fun D σ H => ∃ d o kvs, H₀ d = none ∧ H d = some (.frz o (.dK kvs)) ∧ t D σ (upd H d (.dK kvs))
theorem ps_thaw {X : Cx} {st : Stmt} {t : TS} (hs : PS X st t) : PS X st (tThaw X.H₀ t) := fun pins s σ H D I ⟨d, o, kvs, h0, h, ht⟩ => hs pins s σ _ D (I.thaw h h0) ht
end L2
set_option Elab.async false
set_option linter.all false
set_option maxRecDepth 100000
set_option maxHeartbeats 4000000
namespace L2
open PySem PySem.Spec PyProof.Rows
section
variable {X : Cx}
theorem Inv.dK {pins : List (Addr × Obj)} {σ : St} {H : Hp} {s : Shared} (I : Inv X pins σ H s) {a : Addr} {kvs : List (Key × V)} (h : Rd H a (.dK kvs)) :
    kvs.length ≤ sizeLine ∧ (a == sysModules) = false ∧ ∃ vs, KV kvs vs ∧ s.heap.DictOf (mixKind X.prog X.w) a vs := by
  rcases h with h | ⟨o, h⟩
  · obtain ⟨hz, hsm, vs, rel, dd⟩ := I.hok a _ h
    exact ⟨hz, hsm, vs, rel, dd⟩
  · obtain ⟨_, hz, hsm, vs, rel, dd⟩ := I.hok a _ h
    exact ⟨hz, hsm, vs, rel, dd⟩
theorem call_listR (hc : X.calm = true) : CallR X (.type "list") (fun xs H Q => ∃ d kvs, xs = [.ref d] ∧ Rd H d (.dK kvs) ∧ ∀ l, H l = none → Q (.ref l) (upd H l (.lst (kvs.map fun p => kV p.1)))) := by
  intro pins s σ H xs us Q I r h
  obtain ⟨d, kvs, rfl, hH, q⟩ := h
  obtain ⟨u, rfl, ru⟩ := vals1 r
  cases ru
  obtain ⟨hz, hsm, vs, rel, dd⟩ := I.dK hH
  obtain ⟨ep, da⟩ := dd.dictAt
  have hzv : vs.length ≤ sizeLine := by rw [← rel.length]; exact hz
  refine PySem.W.kdl_call (PySem.W.kdl_dict hsm) (I.ok.hd hc) da hzv fun h' tk acc c kp hg hi => ?_
  refine ⟨.ref s.heap.objs.size, _, I.laid (t' := tk) kp (Nat.le_refl _) (show ObjOk X.prog X.w _ h' _ (.lst _) from ⟨by rw [List.length_map]; exact hz, acc.toList, c, kv_keys rel hi, by simpa using hg⟩), rfl, q _ (I.hok.fresh (Nat.le_refl _))⟩
noncomputable def flat2 : V → Bool
  | .non => true
  | .int _ => true
  | .str _ => true
  | _ => false
theorem flat2_flat {x : V} (h : flat2 x = true) : flatV x = true := by cases x <;> first | rfl | cases h
theorem flat2_eq {x y : V} (hx : flat2 x = true) (hy : flat2 y = true) : eqV x y = decide (x = y) := by
  cases x <;> cases y <;> simp_all [eqV, flat2] <;> rw [Bool.eq_iff_iff] <;> simp
noncomputable def OT (H : Hp) (x : V) (o : Option (List V)) : Prop := (x = .non ∧ o = none) ∨ ∃ a xs, x = .ref a ∧ H a = some (.tup xs) ∧ o = some xs ∧ ∀ v ∈ xs, flat2 v = true
theorem all_eq {xs ys : List V} (hl : xs.length = ys.length) : ((List.range xs.length).all fun i => decide (xs.getD i .non = ys.getD i .non)) = decide (xs = ys) := by
  rw [Bool.eq_iff_iff, List.all_eq_true, decide_eq_true_eq]
  constructor
  · intro h
    apply List.ext_getElem?
    intro i
    by_cases hi : i < xs.length
    · have := h i (List.mem_range.mpr hi)
      rw [decide_eq_true_eq, List.getD_eq_getElem?_getD, List.getD_eq_getElem?_getD, List.getElem?_eq_getElem hi, List.getElem?_eq_getElem (by omega)] at this
      rw [List.getElem?_eq_getElem hi, List.getElem?_eq_getElem (by omega)]
      exact congrArg some this
    · rw [List.getElem?_eq_none (by omega), List.getElem?_eq_none (by omega)]
  · intro h i hi
    rw [h]
    simp
theorem op_neO (hu : X.A.units + 1 < cLine) : OpR X (compareOp .NotEq) (fun x y H Q => ∃ ox oy, OT H x ox ∧ OT H y oy ∧ Q (.bl (!decide (ox = oy))) H) := by
  intro pins s σ H x y v u Q I rx ry h
  obtain ⟨ox, oy, hx, hy, q⟩ := h
  have hu0 : X.A.units < cLine := by omega
  rcases hx with ⟨rfl, rfl⟩ | ⟨a, xs, rfl, ha, rfl, fx⟩ <;> rcases hy with ⟨rfl, rfl⟩ | ⟨b, ys, rfl, hb, rfl, fy⟩ <;> cases rx <;> cases ry
  · exact SeqAt.RcNeAt.none_none _ _ _ _ ⟨.bl false, H, I, rfl, q⟩
  · obtain ⟨_, ws, r2, t2⟩ := I.hok b _ hb
    exact SeqAt.RcNeAt.none_tuple t2 hu0 _ _ _ _ ⟨.bl true, H, I, rfl, q⟩
  · obtain ⟨_, us, r1, t1⟩ := I.hok a _ ha
    exact SeqAt.RcNeAt.tuple_none t1 hu0 _ _ _ _ ⟨.bl true, H, I, rfl, q⟩
  · obtain ⟨_, us, r1, t1⟩ := I.hok a _ ha
    obtain ⟨_, ws, r2, t2⟩ := I.hok b _ hb
    have l1 := r1.length
    have l2 := r2.length
    refine SeqAt.RcNeAt.tuples (e := fun i => decide (xs.getD i .non = ys.getD i .non)) t1 t2 hu0 (fun j h1 h2 => ?_) _ _ _ _ ⟨.bl _, H, I, rfl, ?_⟩
    · have h1' : j < xs.length := by rw [l1]; simpa using h1
      have h2' : j < ys.length := by rw [l2]; simpa using h2
      obtain ⟨u', hu1, hu2⟩ := r1.get (List.getElem?_eq_getElem h1')
      obtain ⟨v', hv1, hv2⟩ := r2.get (List.getElem?_eq_getElem h2')
      have e1 : us.toArray[j] = u' := by
        have : us[j]? = some us.toArray[j] := by rw [List.getElem?_eq_getElem (by simpa using h1)]; simp
        rw [hu1] at this
        exact (Option.some.inj this).symm
      have e2 : ws.toArray[j] = v' := by
        have : ws[j]? = some ws.toArray[j] := by rw [List.getElem?_eq_getElem (by simpa using h2)]; simp
        rw [hv1] at this
        exact (Option.some.inj this).symm
      rw [e1, e2, List.getD_eq_getElem?_getD, List.getD_eq_getElem?_getD, List.getElem?_eq_getElem h1', List.getElem?_eq_getElem h2']
      have f1 := fx _ (List.getElem_mem h1')
      have f2 := fy _ (List.getElem_mem h2')
      show SeqAt.EqAt _ _ _ _ (decide (xs[j] = ys[j]))
      rw [← flat2_eq f1 f2]
      exact eqAt_V hu2 hv2 (flat2_flat f1) (flat2_flat f2)
    · have e : ((List.range (min us.toArray.size ws.toArray.size)).all (fun i => decide (xs.getD i .non = ys.getD i .non)) && us.toArray.size == ws.toArray.size) = decide (some xs = some ys) := by
        simp only [List.size_toArray, ← l1, ← l2]
        by_cases hl : xs.length = ys.length
        · rw [← hl, Nat.min_self, all_eq hl]
          simp
        · have : (xs.length == ys.length) = false := by simpa using hl
          rw [this, Bool.and_false]
          refine (decide_eq_false ?_).symm
          intro e
          injection e with e
          exact hl (by rw [e])
      rw [e]
      exact q
end
end L2
namespace L2
open PySem PySem.Spec PyProof.Rows
theorem nodup_le {α : Type} [DecidableEq α] : ∀ {l m : List α}, l.Nodup → (∀ x ∈ l, x ∈ m) → l.length ≤ m.length
  | [], _, _, _ => Nat.zero_le _
  | x :: l, m, hn, h => by
    obtain ⟨h1, h2⟩ := List.nodup_cons.mp hn
    have hx := h x List.mem_cons_self
    have ih := nodup_le (l := l) (m := m.erase x) h2 fun y hy => (List.mem_erase_of_ne (by rintro rfl; exact h1 hy)).mpr (h y (List.mem_cons_of_mem _ hy))
    rw [List.length_erase_of_mem hx] at ih
    have := List.length_pos_of_mem hx
    rw [List.length_cons]
    omega
end L2
set_option Elab.async false
set_option linter.all false
set_option maxRecDepth 100000
set_option maxHeartbeats 4000000
namespace L2
open PySem PySem.Spec PyProof.Rows
section
variable {X : Cx}
theorem call_set_dK : CallR X (.type "set") (fun xs H Q => ∃ d kvs, ∃ ks : List Int, xs = [.ref d] ∧ Rd H d (.dK kvs) ∧ kvs.map (·.1) = ks.map (Sum.inl : Int → Key) ∧ ks.length ≤ 60 ∧
    ∀ ms : List Int, ms.Nodup → (∀ x, x ∈ ms ↔ x ∈ ks) → ∀ q, H q = none → Q (.ref q) (upd H q (IntS X.w q ms))) := by
  intro pins s σ H xs us Q I r h
  obtain ⟨d, kvs, ks, rfl, hH, hks, hl, q⟩ := h
  obtain ⟨u, rfl, ru⟩ := vals1 r
  cases ru
  obtain ⟨hz, hsm, vs, rel, o, es, ep, ho, hx, hd, hk, hp, hn⟩ := I.dK hH
  have hlen : es.size = ks.length := by
    have e1 := hp.length
    have e2 := rel.length
    have e3 := congrArg List.length hks
    rw [List.length_map, List.length_map] at e3
    rw [Array.length_toList] at e1
    omega
  have key : ∀ (es : List DictEntry) (vs : List (Key × Value)) (kvs : List (Key × V)) (ks : List Int), Pairs (mixKind X.prog X.w) es vs → KV kvs vs → kvs.map (·.1) = ks.map (Sum.inl : Int → Key) → (∀ e ∈ es, ∃ k, (mixKind X.prog X.w).is k e.key = true ∧ e.hash = (mixKind X.prog X.w).hash k) →
      ∀ (i : Nat) (e : DictEntry), es[i]? = some e → ∃ k t, ks[i]? = some k ∧ e.key = .int k t ∧ e.hash = hashInt k := by
    intro es vs kvs ks hp
    induction hp generalizing kvs ks with
    | nil => intro _ _ _ i e he; simp at he
    | @cons e0 kv0 es0 kvs0 h1 h2 _ ih =>
      intro r hks hk i e he
      cases r with
      | @cons p _ kvs1 _ r1 r2 =>
        cases ks with
        | nil => simp at hks
        | cons k ks =>
          rw [List.map_cons, List.map_cons] at hks
          injection hks with g1 g2
          cases i with
          | zero =>
            have ee : e0 = e := by simpa using he
            subst ee
            have g3 : kv0.1 = Sum.inl k := r1.1.symm.trans g1
            rw [g3] at h1
            obtain ⟨k', hk1, hk2⟩ := hk _ List.mem_cons_self
            have g4 : k' = Sum.inl k := (mixKind X.prog X.w).inj _ _ _ hk1 h1
            subst g4
            have h1' : keyIs (Sum.inl k) e0.key = true := h1
            rcases keyIs_shape h1' with ⟨j, t, e1, e2⟩ | ⟨y, t, e1, e2⟩
            · injection e1 with e1
              subst e1
              exact ⟨k, t, rfl, e2, hk2⟩
            · cases e1
          | succ i => exact ih _ ks r2 g2 (fun e he => hk e (List.mem_cons_of_mem _ he)) i e (by simpa using he)
  refine TB.set_dict (ks := ks) ho hx hd hsm (fun i e he => ?_) hlen hl fun h' us hkeep hS hmem => ?_
  · exact key es.toList vs kvs ks hp rel hks (fun e he => hk e (by simpa using he)) i e (by rw [Array.getElem?_toList]; exact he)
  · have hnd : us.Nodup := by obtain ⟨_, _, _, _, _, _, _, S⟩ := hS; exact S.nd
    exact ⟨.ref s.heap.objs.size, _, I.layS (t' := s.toks) hkeep (Nat.le_refl _) hS, rfl, q us hnd hmem _ (I.hok.fresh (Nat.le_refl _))⟩
theorem op_union : OpR X (binaryOp .BitOr) (fun x y H Q => ∃ a b, ∃ ms ns : List Int, x = .ref a ∧ y = .ref b ∧ a ≠ b ∧ H a = some (IntS X.w a ms) ∧ H b = some (IntS X.w b ns) ∧ ms.length + ns.length ≤ 60 ∧
    ∀ us : List Int, us.Nodup → (∀ x, x ∈ us ↔ x ∈ ms ∨ x ∈ ns) → ∀ q, H q = none → Q (.ref q) (upd H q (IntS X.w q us))) := by
  intro pins s σ H x y v u Q I rx ry h
  obtain ⟨a, b, ms, ns, rfl, rfl, hab, ha, hb, hl, q⟩ := h
  cases rx
  cases ry
  refine TB.union_is hab (I.intS ha) (I.intS hb) hl fun h' us hkeep hS hmem => ?_
  have hnd : us.Nodup := by obtain ⟨_, _, _, _, _, _, _, S⟩ := hS; exact S.nd
  exact ⟨.ref s.heap.objs.size, _, I.layS (t' := s.toks) hkeep (Nat.le_refl _) hS, rfl, q us hnd hmem _ (I.hok.fresh (Nat.le_refl _))⟩
end
end L2
set_option linter.all false
namespace TW
structure Nd (S : Type) where
  num : Int
  par : Int
  nm : S
  st : Option Int
section
variable {S : Type}
inductive Reach (ns : List (Nd S)) (f : Int) : Nd S → Prop where
  | base {n : Nd S} : n ∈ ns → n.par = f → Reach ns f n
  | step {m n : Nd S} : Reach ns f m → m.st = none → n ∈ ns → n.par = m.num → Reach ns f n
theorem Reach.mem {ns : List (Nd S)} {f : Int} {n : Nd S} (h : Reach ns f n) : n ∈ ns := by
  cases h <;> assumption
theorem Reach.mono {ns ms : List (Nd S)} {f : Int} {n : Nd S} (h : Reach ns f n) (hs : ∀ x ∈ ns, x ∈ ms) : Reach ms f n := by
  induction h with
  | base hm hp => exact .base (hs _ hm) hp
  | step _ hf hm hp ih => exact .step ih hf (hs _ hm) hp
noncomputable def folders (l : List (Nd S)) : List Int := (l.filter fun n => n.st.isNone).map (·.num)
theorem mem_folders {l : List (Nd S)} {k : Int} : k ∈ folders l ↔ ∃ m ∈ l, m.st = none ∧ m.num = k := by
  unfold folders
  rw [List.mem_map]
  constructor
  · rintro ⟨m, hm, e⟩
    rw [List.mem_filter] at hm
    exact ⟨m, hm.1, by simpa using hm.2, e⟩
  · rintro ⟨m, hm, h, e⟩
    exact ⟨m, List.mem_filter.mpr ⟨hm, by simp [h]⟩, e⟩
theorem folders_len (l : List (Nd S)) : (folders l).length ≤ l.length := by
  unfold folders; rw [List.length_map]; exact List.length_filter_le _ _
noncomputable def Rise (ns : List (Nd S)) : Prop := ns.Pairwise fun a b => a.num < b.num
noncomputable def Places (ns : List (Nd S)) : Prop := (ns.map fun n => (n.par, n.nm)).Nodup
structure Tree (ns : List (Nd S)) : Prop where
  rise : Rise ns
  own : Places ns
  down : ∀ n ∈ ns, Reach ns 0 n
inductive Built : List (Nd S) → Prop where
  | nil : Built []
  | snoc {l : List (Nd S)} {n : Nd S} : Built l → (n.par = 0 ∨ ∃ m ∈ l, m.st = none ∧ m.num = n.par) → Built (l ++ [n])
theorem Built.down {l : List (Nd S)} (b : Built l) : ∀ n ∈ l, Reach l 0 n := by
  induction b with
  | nil => simp
  | @snoc l n b h ih =>
    intro x hx
    have up : ∀ y ∈ l, y ∈ l ++ [n] := fun y hy => List.mem_append_left _ hy
    rcases List.mem_append.mp hx with hx | hx
    · exact (ih x hx).mono up
    · have e : x = n := by simpa using hx
      subst e
      rcases h with h | ⟨m, hm, hf, he⟩
      · exact .base (by simp) h
      · exact .step ((ih m hm).mono up) hf (by simp) he.symm
theorem tree_of {l t : List (Nd S)} (b : Built l) (p : t.Perm l) (hr : t.Pairwise fun a b => a.num ≤ b.num) (hn : (l.map (·.num)).Nodup) (ho : Places l) : Tree t := by
  refine ⟨?_, ?_, fun n hn' => ?_⟩
  · have hn' : (t.map (·.num)).Nodup := ((p.map _).nodup_iff).mpr hn
    unfold List.Nodup at hn'
    rw [List.pairwise_map] at hn'
    unfold Rise
    exact hr.imp₂ (fun a b h1 h2 => by omega) hn'
  · unfold Places
    exact ((p.map _).nodup_iff).mpr ho
  · exact (b.down n (p.mem_iff.mp hn')).mono fun x hx => p.mem_iff.mpr hx
theorem rise_inj {t : List (Nd S)} (h : Rise t) {a b : Nd S} (ha : a ∈ t) (hb : b ∈ t) (e : a.num = b.num) : a = b := by
  unfold Rise at h
  induction t with
  | nil => simp at ha
  | cons x r ih =>
    rw [List.pairwise_cons] at h
    rcases List.mem_cons.mp ha with ea | ha'
    · rcases List.mem_cons.mp hb with eb | hb'
      · rw [ea, eb]
      · have := h.1 b hb'; rw [← ea] at this; omega
    · rcases List.mem_cons.mp hb with eb | hb'
      · have := h.1 a ha'; rw [← eb] at this; omega
      · exact ih h.2 ha' hb'
end
end TW
set_option linter.all false
namespace TW
section
variable {S : Type}
inductive PathTo (ns : List (Nd S)) : Int → List S → Prop where
  | top : PathTo ns 0 []
  | node {n : Nd S} {p : List S} : n ∈ ns → PathTo ns n.par p → PathTo ns n.num (p ++ [n.nm])
structure Tree1 (ns : List (Nd S)) : Prop extends Tree ns where
  pos : ∀ n ∈ ns, 1 ≤ n.num
theorem Tree1.inj {ns : List (Nd S)} (T : Tree1 ns) {a b : Nd S} (ha : a ∈ ns) (hb : b ∈ ns) (e : a.num = b.num) : a = b := rise_inj T.rise ha hb e
theorem PathTo.zero {ns : List (Nd S)} (T : Tree1 ns) {k : Int} {p : List S} (h : PathTo ns k p) (e : k = 0) : p = [] := by
  cases h with
  | top => rfl
  | @node n p hm _ => have := T.pos n hm; omega
theorem PathTo.inv {ns : List (Nd S)} (T : Tree1 ns) {k : Int} {p : List S} (h : PathTo ns k p) {n : Nd S} (hn : n ∈ ns) (e : k = n.num) : ∃ q, p = q ++ [n.nm] ∧ PathTo ns n.par q := by
  cases h with
  | top => have := T.pos n hn; omega
  | @node m q hm hq =>
    have : m = n := T.inj hm hn e
    subst this
    exact ⟨q, rfl, hq⟩
theorem PathTo.uniq {ns : List (Nd S)} (T : Tree1 ns) {k : Int} {p : List S} (h : PathTo ns k p) : ∀ {q : List S}, PathTo ns k q → p = q := by
  induction h with
  | top => intro q hq; exact (hq.zero T rfl).symm
  | @node n p hm _ ih =>
    intro q hq
    obtain ⟨q', e, hq'⟩ := hq.inv T hm rfl
    rw [e, ih hq']
theorem PathTo.ex {ns : List (Nd S)} (T : Tree1 ns) {n : Nd S} (hn : n ∈ ns) : ∃ p, PathTo ns n.num p := by
  have key : ∀ x, Reach ns 0 x → ∃ p, PathTo ns x.num p := by
    intro x r
    induction r with
    | base hm hp => exact ⟨_, .node hm (by rw [hp]; exact .top)⟩
    | step _ _ hm hp ih =>
      obtain ⟨p, h⟩ := ih
      exact ⟨_, .node hm (by rw [hp]; exact h)⟩
  exact key n (T.down n hn)
inductive Und (ns : List (Nd S)) (g : Int) : Int → Prop where
  | here : Und ns g g
  | up {n : Nd S} : n ∈ ns → Und ns g n.par → Und ns g n.num
theorem Und.zero {ns : List (Nd S)} (T : Tree1 ns) {g k : Int} (h : Und ns g k) (e : k = 0) : g = 0 := by
  cases h with
  | here => exact e
  | @up n hm _ => have := T.pos n hm; omega
theorem Und.inv {ns : List (Nd S)} (T : Tree1 ns) {g k : Int} (h : Und ns g k) {n : Nd S} (hn : n ∈ ns) (e : k = n.num) (hg : k ≠ g) : Und ns g n.par := by
  cases h with
  | here => exact absurd rfl hg
  | @up m hm hu =>
    have : m = n := T.inj hm hn e
    subst this
    exact hu
theorem parent_of {ns : List (Nd S)} (T : Tree1 ns) {n : Nd S} (hn : n ∈ ns) : n.par = 0 ∨ ∃ m ∈ ns, m.st = none ∧ m.num = n.par := by
  have := T.down n hn
  cases this with
  | base _ hp => exact .inl hp
  | @step m _ hr hf _ hp => exact .inr ⟨m, hr.mem, hf, hp.symm⟩
theorem reach_und {ns : List (Nd S)} (T : Tree1 ns) {g : Int} {n : Nd S} (h : Reach ns g n) : Und ns g n.num ∧ ∃ p q, PathTo ns n.num (p ++ q) ∧ q ≠ [] ∧ PathTo ns g p := by
  induction h with
  | @base n hm hp =>
    obtain ⟨p, h⟩ := PathTo.ex T hm
    obtain ⟨q, e, hq⟩ := h.inv T hm rfl
    refine ⟨.up hm (by rw [hp]; exact .here), q, [n.nm], by rw [← e]; exact h, by simp, by rw [← hp]; exact hq⟩
  | @step m n hr hf hm hp ih =>
    obtain ⟨hu, p, q, h1, h2, h3⟩ := ih
    refine ⟨.up hm (by rw [hp]; exact hu), p, q ++ [n.nm], ?_, by simp, h3⟩
    rw [← List.append_assoc]
    exact .node hm (by rw [hp]; exact h1)
theorem reach_ne {ns : List (Nd S)} (T : Tree1 ns) {g : Int} {n : Nd S} (h : Reach ns g n) : n.num ≠ g := by
  obtain ⟨_, p, q, h1, h2, h3⟩ := reach_und T h
  intro e
  rw [e] at h1
  have := h1.uniq T h3
  have hl := congrArg List.length this
  rw [List.length_append] at hl
  have : q.length ≠ 0 := fun z => h2 (List.length_eq_zero_iff.mp z)
  omega
theorem und_reach {ns : List (Nd S)} (T : Tree1 ns) {g : Int} (hg : 1 ≤ g) : ∀ {k : Int} {p : List S}, PathTo ns k p → ∀ {n : Nd S}, n ∈ ns → k = n.num → Und ns g k → k ≠ g → Reach ns g n := by
  intro k p h
  induction h with
  | top => intro n hn e; have := T.pos n hn; omega
  | @node m p hm hp ih =>
    intro n hn e hu hne
    have : m = n := T.inj hm hn e
    subst this
    have hu' := hu.inv T hm rfl hne
    by_cases hpg : m.par = g
    · exact .base hm hpg
    · rcases parent_of T hm with h0 | ⟨r, hr, hf, er⟩
      · have := hu'.zero T h0
        omega
      · exact .step (ih hr er.symm hu' hpg) hf hm er.symm
theorem below_iff {ns : List (Nd S)} (T : Tree1 ns) {g : Int} (hg : 1 ≤ g) {n : Nd S} (hn : n ∈ ns) : Reach ns g n ↔ n.num ≠ g ∧ Und ns g n.num := by
  constructor
  · intro h
    exact ⟨reach_ne T h, (reach_und T h).1⟩
  · rintro ⟨h1, h2⟩
    obtain ⟨p, hp⟩ := PathTo.ex T hn
    exact und_reach T hg hp hn rfl h2 h1
end
end TW
set_option linter.all false
namespace TW
section
variable {S : Type}
theorem rise_nums {t : List (Nd S)} : Rise t ↔ (t.map (·.num)).Pairwise (fun a b : Int => a < b) := by
  unfold Rise
  rw [List.pairwise_map]
noncomputable def Fold (t : List (Nd S)) (p : Int) : Prop := p = 0 ∨ ∃ m ∈ t, m.st = none ∧ m.num = p
theorem made {t u : List (Nd S)} {n : Nd S} (T : Tree1 t) (hp : u.Perm (n :: t)) (hr : Rise u) (h1 : 1 ≤ n.num) (hf : Fold t n.par) (ho : ∀ m ∈ t, ¬ (m.par = n.par ∧ m.nm = n.nm)) : Tree1 u := by
  have hm : ∀ x, x ∈ u ↔ x = n ∨ x ∈ t := fun x => by rw [hp.mem_iff, List.mem_cons]
  have ht : ∀ x, x ∈ t → x ∈ u := fun x hx => (hm x).mpr (.inr hx)
  refine ⟨⟨hr, ?_, fun x hx => ?_⟩, fun x hx => ?_⟩
  · unfold Places
    rw [(hp.map fun n : Nd S => (n.par, n.nm)).nodup_iff, List.map_cons, List.nodup_cons]
    refine ⟨fun hx => ?_, T.own⟩
    obtain ⟨m, h2, e⟩ := List.mem_map.mp hx
    injection e with e1 e2
    exact ho m h2 ⟨e1, e2⟩
  · rcases (hm x).mp hx with e | hx
    · subst e
      rcases hf with e | ⟨m, h2, h3, e⟩
      · exact .base hx e
      · exact .step ((T.down m h2).mono ht) h3 hx e.symm
    · exact (T.down x hx).mono ht
  · rcases (hm x).mp hx with e | hx
    · subst e; exact h1
    · exact T.pos x hx
noncomputable def put (z : Nd S) (m : Nd S) : Nd S := if m.num = z.num then z else m
theorem put_num (z m : Nd S) : (put z m).num = m.num := by
  unfold put
  split
  · rename_i h; exact h.symm
  · rfl
theorem put_other {z m : Nd S} (h : m.num ≠ z.num) : put z m = m := by unfold put; rw [if_neg h]
theorem put_here {z m : Nd S} (h : m.num = z.num) : put z m = z := by unfold put; rw [if_pos h]
theorem put_nums (z : Nd S) (t : List (Nd S)) : (t.map (put z)).map (·.num) = t.map (·.num) := by
  rw [List.map_map]
  apply List.map_congr_left
  intro m _
  exact put_num z m
theorem put_rise {z : Nd S} {t : List (Nd S)} (h : Rise t) : Rise (t.map (put z)) := by
  rw [rise_nums, put_nums, ← rise_nums]; exact h
theorem put_pos {z : Nd S} {t : List (Nd S)} (T : Tree1 t) : ∀ n ∈ t.map (put z), 1 ≤ n.num := fun n hn => by
  obtain ⟨m, hm, rfl⟩ := List.mem_map.mp hn
  rw [put_num]
  exact T.pos m hm
theorem wrote {t : List (Nd S)} {y z : Nd S} (T : Tree1 t) (hy : y ∈ t) (e1 : z.num = y.num) (e2 : z.par = y.par) (e3 : z.nm = y.nm) (hs : y.st ≠ none) : Tree1 (t.map (put z)) := by
  have par : ∀ m ∈ t, (put z m).par = m.par ∧ (put z m).nm = m.nm := fun m hm => by
    by_cases h : m.num = z.num
    · have : m = y := T.inj hm hy (h.trans e1)
      subst this
      rw [put_here h]
      exact ⟨e2, e3⟩
    · rw [put_other h]; exact ⟨rfl, rfl⟩
  refine ⟨⟨put_rise T.rise, ?_, fun n hn => ?_⟩, put_pos T⟩
  · have : (t.map (put z)).map (fun n => (n.par, n.nm)) = t.map (fun n => (n.par, n.nm)) := by
      rw [List.map_map]
      apply List.map_congr_left
      intro m hm
      show ((put z m).par, (put z m).nm) = _
      rw [(par m hm).1, (par m hm).2]
    unfold Places
    rw [this]
    exact T.own
  · obtain ⟨m, hm, rfl⟩ := List.mem_map.mp hn
    have key : ∀ x, Reach t 0 x → Reach (t.map (put z)) 0 (put z x) := by
      intro x r
      induction r with
      | @base x hx hp => exact .base (List.mem_map.mpr ⟨x, hx, rfl⟩) (by rw [(par x hx).1]; exact hp)
      | @step a x ra hf hx hp ih =>
        have ha : put z a = a := put_other fun e => hs (by rw [← T.inj ra.mem hy (e.trans e1)]; exact hf)
        rw [ha] at ih
        exact .step ih hf (List.mem_map.mpr ⟨x, hx, rfl⟩) (by rw [(par x hx).1]; exact hp)
    exact key m (T.down m hm)
theorem not_under {t : List (Nd S)} {k : Int} {n : Nd S} (r : Reach t 0 n) (h : ¬ Und t k n.num) {u : List (Nd S)} (hu : ∀ x ∈ t, ¬ Und t k x.num → x ∈ u) : Reach u 0 n := by
  induction r with
  | @base n hm hp => exact .base (hu n hm h) hp
  | @step m n rm hf hn hp ih => exact .step (ih fun hx => h (.up hn (by rw [hp]; exact hx))) hf (hu n hn h) hp
theorem dropped {t : List (Nd S)} {k : Int} (T : Tree1 t) {p : Nd S → Bool} (hp : ∀ n ∈ t, p n = true ↔ ¬ Und t k n.num) : Tree1 (t.filter p) := by
  refine ⟨⟨T.rise.sublist List.filter_sublist, T.own.sublist (List.filter_sublist.map _), fun n hn => ?_⟩, fun n hn => T.pos n (List.mem_filter.mp hn).1⟩
  obtain ⟨h1, h2⟩ := List.mem_filter.mp hn
  exact not_under (T.down n h1) ((hp n h1).mp h2) fun x hx hu => List.mem_filter.mpr ⟨hx, (hp x hx).mpr hu⟩
theorem moved {t : List (Nd S)} {y z : Nd S} (T : Tree1 t) (hy : y ∈ t) (e1 : z.num = y.num) (e4 : z.st = y.st) (hf : Fold t z.par) (hi : z.par ≠ 0 → ¬ Und t y.num z.par) (ho : ∀ m ∈ t, m.num ≠ y.num → ¬ (m.par = z.par ∧ m.nm = z.nm)) : Tree1 (t.map (put z)) := by
  have hz : z ∈ t.map (put z) := List.mem_map.mpr ⟨y, hy, put_here e1.symm⟩
  have other : ∀ m ∈ t, m.num ≠ y.num → m ∈ t.map (put z) := fun m hm h => List.mem_map.mpr ⟨m, hm, put_other (by rw [e1]; exact h)⟩
  have free : ∀ n ∈ t, ¬ Und t y.num n.num → Reach (t.map (put z)) 0 n := fun n hn h => not_under (T.down n hn) h fun x hx hu => other x hx fun e => hu (by rw [e]; exact .here)
  have rz : Reach (t.map (put z)) 0 z := by
    rcases hf with e | ⟨m, h2, h3, e⟩
    · exact .base hz e
    · have h0 : z.par ≠ 0 := fun e' => by have := T.pos m h2; omega
      exact .step (free m h2 (by rw [e]; exact hi h0)) h3 hz e.symm
  refine ⟨⟨put_rise T.rise, ?_, fun n hn => ?_⟩, put_pos T⟩
  · have h := T.own
    have hr := T.rise
    unfold Places Rise List.Nodup at *
    rw [List.pairwise_map] at h
    rw [List.map_map, List.pairwise_map]
    have both := h.and hr
    refine both.imp_of_mem fun {a b} ha hb hab => ?_
    obtain ⟨h1, h2⟩ := hab
    show ((put z a).par, (put z a).nm) ≠ ((put z b).par, (put z b).nm)
    by_cases ea : a.num = y.num
    · have eb : b.num ≠ y.num := by omega
      rw [put_here (by rw [e1]; exact ea), put_other (by rw [e1]; exact eb)]
      intro e
      injection e with q1 q2
      exact ho b hb eb ⟨q1.symm, q2.symm⟩
    · by_cases eb : b.num = y.num
      · rw [put_here (m := b) (by rw [e1]; exact eb), put_other (by rw [e1]; exact ea)]
        intro e
        injection e with q1 q2
        exact ho a ha ea ⟨q1, q2⟩
      · rw [put_other (by rw [e1]; exact ea), put_other (by rw [e1]; exact eb)]
        exact h1
  · obtain ⟨m, hm, rfl⟩ := List.mem_map.mp hn
    by_cases em : m.num = y.num
    · rw [put_here (by rw [e1]; exact em)]
      exact rz
    · rw [put_other (by rw [e1]; exact em)]
      by_cases hu : Und t y.num m.num
      · have r : Reach t y.num m := (below_iff T (T.pos y hy) hm).mpr ⟨em, hu⟩
        clear hu em hm hn
        induction r with
        | @base n hn hp =>
          have hzs : z.st = none := by
            rcases parent_of T hn with e | ⟨a, ha, h3, e⟩
            · have := T.pos y hy; omega
            · have : a = y := T.inj ha hy (e.trans hp)
              subst this
              rw [e4]; exact h3
          have hne : n.num ≠ y.num := reach_ne T (.base hn hp)
          exact .step rz hzs (other n hn hne) (by rw [hp, e1])
        | @step a n ra hfa hn hp ih => exact .step ih hfa (other n hn (reach_ne T (.step ra hfa hn hp))) hp
      · exact free m hm hu
end
end TW
set_option linter.all false
namespace TW
section
variable {S : Type}
inductive Deed (S : Type) where
  | make (n p : Int) (nm : S) (st : Option Int)
  | write (n st : Int)
  | move (n p : Int) (nm : S)
  | drop (n : Int)
inductive Wd where
  | known | noNode | notFile | notFolder | inside | taken
noncomputable def HasN (t : List (Nd S)) (k : Int) : Prop := ∃ m ∈ t, m.num = k
inductive Told (t : List (Nd S)) : Deed S → Sum Wd (List (Nd S)) → Prop where
  | mKnown {n p : Int} {nm : S} {st : Option Int} : HasN t n → Told t (.make n p nm st) (.inl .known)
  | mNo {n p : Int} {nm : S} {st : Option Int} : ¬ HasN t n → p ≠ 0 → ¬ HasN t p → Told t (.make n p nm st) (.inl .noNode)
  | mFile {n p : Int} {nm : S} {st : Option Int} {m : Nd S} : ¬ HasN t n → p ≠ 0 → m ∈ t → m.num = p → m.st ≠ none → Told t (.make n p nm st) (.inl .notFolder)
  | mTaken {n p : Int} {nm : S} {st : Option Int} {m : Nd S} : ¬ HasN t n → Fold t p → m ∈ t → m.par = p → m.nm = nm → Told t (.make n p nm st) (.inl .taken)
  | made {n p : Int} {nm : S} {st : Option Int} {u : List (Nd S)} : ¬ HasN t n → Fold t p → (∀ m ∈ t, ¬ (m.par = p ∧ m.nm = nm)) → u.Perm (⟨n, p, nm, st⟩ :: t) → Rise u → Told t (.make n p nm st) (.inr u)
  | wNo {n st : Int} : ¬ HasN t n → Told t (.write n st) (.inl .noNode)
  | wFold {n st : Int} {y : Nd S} : y ∈ t → y.num = n → y.st = none → Told t (.write n st) (.inl .notFile)
  | wrote {n st : Int} {y : Nd S} : y ∈ t → y.num = n → y.st ≠ none → Told t (.write n st) (.inr (t.map (put ⟨n, y.par, y.nm, some st⟩)))
  | vNo {n p : Int} {nm : S} : ¬ HasN t n → Told t (.move n p nm) (.inl .noNode)
  | vNoP {n p : Int} {nm : S} : HasN t n → p ≠ 0 → ¬ HasN t p → Told t (.move n p nm) (.inl .noNode)
  | vFile {n p : Int} {nm : S} {m : Nd S} : HasN t n → p ≠ 0 → m ∈ t → m.num = p → m.st ≠ none → Told t (.move n p nm) (.inl .notFolder)
  | vIn {n p : Int} {nm : S} : HasN t n → Fold t p → p ≠ 0 → Und t n p → Told t (.move n p nm) (.inl .inside)
  | vTaken {n p : Int} {nm : S} {m : Nd S} : HasN t n → Fold t p → (p ≠ 0 → ¬ Und t n p) → m ∈ t → m.num ≠ n → m.par = p → m.nm = nm → Told t (.move n p nm) (.inl .taken)
  | moved {n p : Int} {nm : S} {y : Nd S} : y ∈ t → y.num = n → Fold t p → (p ≠ 0 → ¬ Und t n p) → (∀ m ∈ t, m.num ≠ n → ¬ (m.par = p ∧ m.nm = nm)) → Told t (.move n p nm) (.inr (t.map (put ⟨n, p, nm, y.st⟩)))
  | dNo {n : Int} : ¬ HasN t n → Told t (.drop n) (.inl .noNode)
  | dropped {n : Int} {f : Nd S → Bool} : HasN t n → (∀ m ∈ t, f m = true ↔ ¬ Und t n m.num) → Told t (.drop n) (.inr (t.filter f))
theorem rise_one {t u : List (Nd S)} (ht : Rise t) (hu : Rise u) (h : t.Perm u) : t = u := by
  have main : ∀ {l m : List (Nd S)}, Rise l → Rise m → (∀ x, x ∈ l ↔ x ∈ m) → l = m := by
    intro l
    induction l with
    | nil =>
      intro m _ _ h
      cases m with
      | nil => rfl
      | cons b m => exact absurd ((h b).mpr (by simp)) (by simp)
    | cons a l ih =>
      intro m hl hm h
      cases m with
      | nil => exact absurd ((h a).mp (by simp)) (by simp)
      | cons b m =>
        unfold Rise at hl hm ih
        rw [List.pairwise_cons] at hl hm
        have e : a = b := by
          rcases List.mem_cons.mp ((h a).mp (by simp)) with e | h1
          · exact e
          · rcases List.mem_cons.mp ((h b).mpr (by simp)) with e | h2
            · exact e.symm
            · have := hl.1 b h2
              have := hm.1 a h1
              omega
        subst e
        rw [ih hl.2 hm.2 fun x => ?_]
        constructor
        · intro hx
          rcases List.mem_cons.mp ((h x).mp (by simp [hx])) with e | h1
          · subst e; have := hl.1 x hx; omega
          · exact h1
        · intro hx
          rcases List.mem_cons.mp ((h x).mpr (by simp [hx])) with e | h1
          · subst e; have := hm.1 x hx; omega
          · exact h1
  exact main ht hu fun x => h.mem_iff
noncomputable def Deed.pos : Deed S → Prop
  | .make n _ _ _ => 1 ≤ n
  | _ => True
theorem Told.tree {t u : List (Nd S)} (T : Tree1 t) {d : Deed S} (h : Told t d (.inr u)) (hp : d.pos) : Tree1 u := by
  generalize er : (Sum.inr u : Sum Wd (List (Nd S))) = r at h
  cases h with
  | made a1 a2 a3 a4 a5 =>
    injection er with er
    subst er
    exact TW.made T a4 a5 hp a2 fun m hm => a3 m hm
  | wrote a1 a2 a3 =>
    injection er with er
    subst er a2
    exact TW.wrote T a1 rfl rfl rfl a3
  | moved a1 a2 a3 a4 a5 =>
    injection er with er
    subst er a2
    exact TW.moved T a1 rfl rfl a3 a4 a5
  | dropped a1 a2 =>
    injection er with er
    subst er
    exact TW.dropped T a2
  | _ => cases er
theorem Told.all {t u : List (Nd S)} {P : Nd S → Prop} (ht : ∀ n ∈ t, P n) {d : Deed S} (h : Told t d (.inr u))
    (hm : ∀ n p nm st, d = .make n p nm st → P ⟨n, p, nm, st⟩) (hw : ∀ n st, d = .write n st → ∀ y ∈ t, y.num = n → P ⟨n, y.par, y.nm, some st⟩) (hv : ∀ n p nm, d = .move n p nm → ∀ y ∈ t, y.num = n → P ⟨n, p, nm, y.st⟩) : ∀ n ∈ u, P n := by
  have hput : ∀ z : Nd S, P z → ∀ n ∈ t.map (put z), P n := fun z hz n hn => by
    obtain ⟨m, hm, rfl⟩ := List.mem_map.mp hn
    by_cases e : m.num = z.num
    · rw [put_here e]; exact hz
    · rw [put_other e]; exact ht m hm
  generalize er : (Sum.inr u : Sum Wd (List (Nd S))) = r at h
  cases h with
  | made a1 a2 a3 a4 a5 =>
    injection er with er
    subst er
    intro n hn
    rcases List.mem_cons.mp (a4.mem_iff.mp hn) with e | h
    · subst e; exact hm _ _ _ _ rfl
    · exact ht n h
  | wrote a1 a2 a3 =>
    injection er with er
    subst er
    exact hput _ (hw _ _ rfl _ a1 a2)
  | moved a1 a2 a3 a4 a5 =>
    injection er with er
    subst er
    exact hput _ (hv _ _ _ rfl _ a1 a2)
  | dropped a1 a2 =>
    injection er with er
    subst er
    intro n hn
    exact ht n (List.mem_filter.mp hn).1
  | _ => cases er
theorem Told.len {t u : List (Nd S)} {d : Deed S} (h : Told t d (.inr u)) : u.length ≤ t.length + 1 := by
  generalize er : (Sum.inr u : Sum Wd (List (Nd S))) = r at h
  cases h with
  | made a1 a2 a3 a4 a5 =>
    injection er with er
    subst er
    rw [a4.length_eq]; simp
  | wrote a1 a2 a3 =>
    injection er with er
    subst er
    simp
  | moved a1 a2 a3 a4 a5 =>
    injection er with er
    subst er
    simp
  | dropped a1 a2 =>
    injection er with er
    subst er
    exact Nat.le_succ_of_le (List.length_filter_le _ _)
  | _ => cases er
end
end TW
namespace TW
section
variable {S : Type}
end
end TW
set_option Elab.async false
set_option linter.all false
set_option maxRecDepth 100000
set_option maxHeartbeats 8000000
namespace L2
open PySem PySem.Spec PyProof.Rows
section
variable {P : Program} {w : World} {K : PySem.W.Frag} {mg : Str → Option Value} {base : Heap}
theorem LcOk.mk' {X : Cx} {scope : Scope} {cl : List (Str × Addr)} (fs : List Str) (hk : scope.kind = .function) (hc : closureFor scope X.env = pure cl) (hn : ∀ x ∈ scope.names, x.2 = .local → scope.names.lookup x.1 = some .local) (hnc : ∀ x ∈ scope.names, x.2 ≠ .cell)
    (hcl : ∀ y ∈ cl, X.env.cells.lookup y.1 = some y.2) (hfs : cl.map (·.1) = fs) (hall : scope.names.all (fun y => !(y.2 == .free) || fs.contains y.1) = true) : LcOk X scope cl := by
  refine ⟨hk, hc, hn, hnc, fun x c h => hcl (x, c) (PySem.mem_of_lookup h), fun x h => ?_⟩
  have hm : ∃ k, (x, k) ∈ (relabel scope X.env).names ∧ (k = .cell ∨ k = .free) := by
    rcases h with h | h
    · exact ⟨_, PySem.mem_of_lookup h, .inl rfl⟩
    · exact ⟨_, PySem.mem_of_lookup h, .inr rfl⟩
  obtain ⟨k, hm, hk'⟩ := hm
  unfold relabel at hm
  obtain ⟨⟨y, k0⟩, hy, e⟩ := List.mem_map.mp hm
  have hfree : x = y ∧ k0 = .free := by
    cases k0 with
    | free =>
      simp only at e
      split at e
      · injection e with e1 e2; exact ⟨e1.symm, rfl⟩
      · injection e with e1 e2; exact ⟨e1.symm, rfl⟩
    | cell => exact absurd rfl (hnc _ hy)
    | _ =>
      exfalso
      have e2 : k = _ := (congrArg Prod.snd e).symm
      simp at e2
      rcases hk' with z | z <;> rw [z] at e2 <;> cases e2
  obtain ⟨rfl, rfl⟩ := hfree
  have := List.all_eq_true.mp hall _ hy
  have hin : fs.contains x = true := by simpa using this
  rw [← hfs] at hin
  have hmem : x ∈ cl.map (·.1) := List.contains_iff_mem.mp hin
  cases e : cl.lookup x with
  | some c => exact ⟨c, rfl⟩
  | none =>
    exfalso
    obtain ⟨y, hy, ey⟩ := List.mem_map.mp hmem
    have := List.lookup_eq_none_iff.mp e y hy
    rw [ey] at this
    simp at this
end
end L2
namespace TK
open PySem L2
noncomputable abbrev Nd := TW.Nd Str
noncomputable def stV : Option Int → V
  | none => .non
  | some i => .int i
noncomputable def vals (n : Nd) : List V := [.int n.num, .int n.par, .str n.nm, stV n.st]
noncomputable abbrev ZN := List (Addr × Nd)
noncomputable def refs (zs : ZN) : List V := (zs.map (·.1)).map V.ref
noncomputable def nds (zs : ZN) : List Nd := zs.map (·.2)
noncomputable def At (H : Hp) (zs : ZN) : Prop := ∀ z ∈ zs, H z.1 = some (.tup (vals z.2))
theorem At.same {H H' : Hp} {zs : ZN} (h : At H zs) (s : Same H H') : At H' zs := fun z hz => s _ _ (h z hz)
theorem refs_len (zs : ZN) : (refs zs).length = zs.length := by simp [refs]
theorem nds_len (zs : ZN) : (nds zs).length = zs.length := by simp [nds]
theorem refs_get {zs : ZN} {i : Nat} {x : V} (h : (refs zs)[i]? = some x) : ∃ z, zs[i]? = some z ∧ x = .ref z.1 := by
  unfold refs at h
  rw [List.getElem?_map, List.getElem?_map] at h
  cases e : zs[i]? with
  | none => rw [e] at h; cases h
  | some z => rw [e] at h; exact ⟨z, rfl, (Option.some.inj h).symm⟩
theorem get_refs {zs : ZN} {i : Nat} {z : Addr × Nd} (h : zs[i]? = some z) : (refs zs)[i]? = some (.ref z.1) := by
  unfold refs
  rw [List.getElem?_map, List.getElem?_map, h]; rfl
theorem at0 (n : Nd) : atI (vals n) 0 = some (.int n.num) := rfl
theorem at3 (n : Nd) : atI (vals n) 3 = some (stV n.st) := rfl
theorem one_of {σ : St} (h : σ.length = 1) : ∃ a, σ = [a] := by
  match σ, h with
  | [a], _ => exact ⟨a, rfl⟩
theorem le_line {n : Nat} (h : n ≤ 1000) : n ≤ sizeLine := Nat.le_of_lt (small1000 h)
theorem le2 : 2 ≤ sizeLine := le_line (by decide)
theorem hu4_of {A : Around} {k : Nat} (hr : Room k A) : A.units + 4 < cLine := Nat.lt_of_le_of_lt (Nat.add_le_add_left (by decide : 4 ≤ 64) _) hr.units
noncomputable def plK (n : Nd) : List Key := [.inl n.par, .inr n.nm]
theorem refs_snoc (zs : ZN) (z : Addr × Nd) : refs (zs ++ [z]) = refs zs ++ [.ref z.1] := by simp [refs]
noncomputable def ScrAt (K : PySem.W.Frag) (H : Hp) (a : Addr) : Prop := ∃ ns : List Int, SqL K H a (ns.map V.int)
theorem ScrAt.same {K : PySem.W.Frag} {H H' : Hp} {a : Addr} (h : ScrAt K H a) (s : Same H H') : ScrAt K H' a := let ⟨ns, e⟩ := h; ⟨ns, s.seq e⟩
theorem atI_ints {ns : List Int} {i : Int} (h0 : 0 ≤ i) (h1 : i < ns.length) : ∃ j, atI (ns.map V.int) i = some (.int j) := by
  refine ⟨ns[i.toNat]'(by omega), ?_⟩
  have := atI_nat (xs := ns.map V.int) (j := i.toNat) (v := .int (ns[i.toNat]'(by omega))) (by rw [List.getElem?_map, List.getElem?_eq_getElem (by omega)]; rfl)
  rw [show ((i.toNat : Nat) : Int) = i by omega] at this
  exact this
noncomputable def Has (P : Program) (w : World) (K : PySem.W.Frag) (mg : Str → Option Value) (base : Heap) (k : Nat) (x : Str) (ps : List Str) (sp : Sp) : Prop := ∃ f fd, FnOk P w K mg base CX0 k f fd ps sp ∧ mg x = some (.ref f) ∧ PySem.W.keepIn K (.ref f) = true ∧ Binds K fd ps []
noncomputable def Good (n : Nd) : Prop := 1 ≤ n.num ∧ n.num ≤ 12 ∧ (n.nm = "a" ∨ n.nm = "b" ∨ n.nm = "c" ∨ n.nm = "abcde") ∧ (n.st = none ∨ n.st = some 0 ∨ n.st = some 1 ∨ n.st = some 2 ∨ n.st = some 999)
structure Bd (zs : ZN) (lf : List Int) : Prop where
  built : TW.Built (nds zs)
  nd : ((nds zs).map (·.num) ++ lf).Nodup
  rng : ∀ x ∈ lf, 1 ≤ x ∧ x ≤ 12
  own : TW.Places (nds zs)
  ok : ∀ z ∈ zs, Good z.2
theorem Bd.skip {zs : ZN} {lf : List Int} (b : Bd zs lf) (i : Nat) : Bd zs (lf.eraseIdx i) :=
  ⟨b.built, List.Nodup.sublist (List.Sublist.append (List.Sublist.refl _) (List.eraseIdx_sublist lf i)) b.nd, fun x hx => b.rng x ((List.eraseIdx_sublist lf i).mem hx), b.own, b.ok⟩
theorem erase_perm : ∀ {l : List Int} {i : Nat} {x : Int}, l[i]? = some x → (x :: l.eraseIdx i).Perm l
  | a :: l, 0, x, h => by
    have : a = x := by simpa using h
    subst this
    exact List.Perm.refl _
  | a :: l, i + 1, x, h => by
    have h' : l[i]? = some x := by simpa using h
    exact (List.Perm.swap a x _).trans (List.Perm.cons a (erase_perm h'))
  | [], i, x, h => by simp at h
theorem Bd.add {zs : ZN} {lf : List Int} {i : Nat} {q : Addr} {n : Nd} (b : Bd zs lf) (hi : lf[i]? = some n.num) (hp : n.par ∈ (0 : Int) :: TW.folders (nds zs)) (ho : ∀ z ∈ zs, ¬ (z.2.par = n.par ∧ z.2.nm = n.nm))
    (h3 : n.nm = "a" ∨ n.nm = "b" ∨ n.nm = "c" ∨ n.nm = "abcde") (h4 : n.st = none ∨ n.st = some 0 ∨ n.st = some 1 ∨ n.st = some 2 ∨ n.st = some 999) : Bd (zs ++ [(q, n)]) (lf.eraseIdx i) := by
  have e : nds (zs ++ [(q, n)]) = nds zs ++ [n] := by simp [nds]
  have pm := erase_perm hi
  refine ⟨?_, ?_, fun x hx => b.rng x ((List.eraseIdx_sublist lf i).mem hx), ?_, fun z hz => ?_⟩
  · rw [e]
    refine .snoc b.built ?_
    rcases List.mem_cons.mp hp with h | h
    · exact .inl h
    · exact .inr (TW.mem_folders.mp h)
  · rw [e, List.map_append, List.append_assoc]
    exact ((List.Perm.append_left _ pm).nodup_iff).mpr b.nd
  · rw [e]
    unfold TW.Places
    rw [List.map_append, List.nodup_append]
    refine ⟨b.own, by simp, fun x hx y hy => ?_⟩
    have ey : y = (n.par, n.nm) := by simpa using hy
    subst ey
    obtain ⟨m, hm, rfl⟩ := List.mem_map.mp hx
    obtain ⟨z, hz, rfl⟩ := List.mem_map.mp hm
    intro h
    injection h with h1 h2
    exact ho z hz ⟨h1, h2⟩
  · rcases List.mem_append.mp hz with h | h
    · exact b.ok z h
    · have ez : z = (q, n) := by simpa using h
      subst ez
      have := b.rng n.num (List.mem_of_getElem? hi)
      exact ⟨this.1, this.2, h3, h4⟩
noncomputable def tp (z : Addr × Nd) : Tup1 := (z.1, z.2.num, [.int z.2.par, .str z.2.nm, stV z.2.st])
noncomputable def un (t : Tup1) : Addr × Nd := (t.1, match t.2.2 with
  | [.int p, .str s, .int i] => ⟨t.2.1, p, s, some i⟩
  | [.int p, .str s, _] => ⟨t.2.1, p, s, none⟩
  | _ => ⟨0, 0, "", none⟩)
theorem un_tp (z : Addr × Nd) : un (tp z) = z := by
  obtain ⟨a, ⟨n, p, s, st⟩⟩ := z
  cases st <;> rfl
theorem back {zs : ZN} {ts : List Tup1} (h : ts.Perm (zs.map tp)) : (ts.map un).Perm zs ∧ (ts.map un).map tp = ts := by
  constructor
  · have := h.map un
    rw [List.map_map] at this
    have e : zs.map (un ∘ tp) = zs.map id := List.map_congr_left fun z _ => un_tp z
    rw [e, List.map_id] at this
    exact this
  · rw [List.map_map, List.map_congr_left (g := id)]
    · simp
    · intro t ht
      obtain ⟨z, _, rfl⟩ := List.mem_map.mp (h.mem_iff.mp ht)
      show tp (un (tp z)) = tp z
      rw [un_tp]
theorem tp_refs (zs : ZN) : ((zs.map tp).map (·.1)).map V.ref = refs zs := by
  unfold refs
  simp only [List.map_map]
  rfl
theorem seq_of {n : Nat} {j : Int} (h0 : 0 ≤ j) (h1 : j < n) : seqIndex? j n = some j.toNat := (ixN_seq (by unfold ixN; rw [if_pos h0, if_pos h1])).1
theorem erase_map : ∀ (l : List Int) (i : Nat), (l.map V.int).eraseIdx i = (l.eraseIdx i).map V.int
  | [], i => by simp
  | a :: l, 0 => rfl
  | a :: l, i + 1 => by
    show V.int a :: (l.map V.int).eraseIdx i = V.int a :: (l.eraseIdx i).map V.int
    rw [erase_map l i]
theorem pick_in {ns : List Int} {i : Int} (h0 : 0 ≤ i) (h1 : i < ns.length) : ∃ x ∈ ns, atI (ns.map V.int) i = some (.int x) := by
  refine ⟨ns[i.toNat]'(by omega), List.getElem_mem _, ?_⟩
  have := atI_nat (xs := ns.map V.int) (j := i.toNat) (v := .int (ns[i.toNat]'(by omega))) (by rw [List.getElem?_map, List.getElem?_eq_getElem (by omega)]; rfl)
  rw [show ((i.toNat : Nat) : Int) = i by omega] at this
  exact this
theorem pick_nm {j : Int} (h0 : 0 ≤ j) (h1 : j < 4) : ∃ x : Str, (x = "a" ∨ x = "b" ∨ x = "c" ∨ x = "abcde") ∧ atI [V.str "a", .str "b", .str "c", .str "abcde"] j = some (.str x) := by
  obtain rfl | rfl | rfl | rfl : j = 0 ∨ j = 1 ∨ j = 2 ∨ j = 3 := by omega
  · exact ⟨"a", .inl rfl, rfl⟩
  · exact ⟨"b", .inr (.inl rfl), rfl⟩
  · exact ⟨"c", .inr (.inr (.inl rfl)), rfl⟩
  · exact ⟨"abcde", .inr (.inr (.inr rfl)), rfl⟩
theorem pick_st {j : Int} (h0 : 0 ≤ j) (h1 : j < 4) : ∃ i : Int, (some i = none ∨ some i = some (0 : Int) ∨ some i = some 1 ∨ some i = some 2 ∨ some i = some 999) ∧ atI [V.int 0, .int 1, .int 2, .int 999] j = some (.int i) := by
  obtain rfl | rfl | rfl | rfl : j = 0 ∨ j = 1 ∨ j = 2 ∨ j = 3 := by omega
  · exact ⟨0, .inr (.inl rfl), rfl⟩
  · exact ⟨1, .inr (.inr (.inl rfl)), rfl⟩
  · exact ⟨2, .inr (.inr (.inr (.inl rfl))), rfl⟩
  · exact ⟨999, .inr (.inr (.inr (.inr rfl))), rfl⟩
structure Sta (H : Hp) (pl pf pn : Addr) (Hx : Hp) (lf fs : List Int) (zs : ZN) : Prop where
  same : Same H Hx
  l : Hx pl = some (.lst (lf.map V.int))
  f : Hx pf = some (.lst (fs.map V.int))
  n : Hx pn = some (.lst (refs zs))
  nd : At Hx zs
  l0 : H pl = none
  f0 : H pf = none
  n0 : H pn = none
  lf' : pl ≠ pf
  ln' : pl ≠ pn
  fn' : pf ≠ pn
theorem Sta.grow {H Hx Hy : Hp} {pl pf pn : Addr} {lf fs : List Int} {zs : ZN} (a : Sta H pl pf pn Hx lf fs zs) (s : Same Hx Hy) : Sta H pl pf pn Hy lf fs zs :=
  ⟨a.same.trans s, s _ _ a.l, s _ _ a.f, s _ _ a.n, a.nd.same s, a.l0, a.f0, a.n0, a.lf', a.ln', a.fn'⟩
theorem At.over {H : Hp} {p : Addr} {xs : List V} {o : HO} {zs : ZN} (h : At H zs) (hp : H p = some (.lst xs)) : At (upd H p o) zs := fun z hz => by
  rw [upd_ne]
  · exact h z hz
  · intro e
    have := h z hz
    rw [e, hp] at this
    cases this
theorem Sta.pop {H Hx : Hp} {pl pf pn : Addr} {lf fs : List Int} {zs : ZN} (a : Sta H pl pf pn Hx lf fs zs) (lf2 : List Int) : Sta H pl pf pn (upd Hx pl (.lst (lf2.map V.int))) lf2 fs zs :=
  ⟨same_over a.l0 a.same, upd_same, by rw [upd_ne (Ne.symm a.lf')]; exact a.f, by rw [upd_ne (Ne.symm a.ln')]; exact a.n, a.nd.over a.l, a.l0, a.f0, a.n0, a.lf', a.ln', a.fn'⟩
theorem Sta.fold {H Hx : Hp} {pl pf pn : Addr} {lf fs : List Int} {zs : ZN} (a : Sta H pl pf pn Hx lf fs zs) (x : Int) : Sta H pl pf pn (upd Hx pf (.lst (fs.map V.int ++ [.int x]))) lf (fs ++ [x]) zs :=
  ⟨same_over a.f0 a.same, by rw [upd_ne a.lf']; exact a.l, by rw [upd_same]; simp, by rw [upd_ne (Ne.symm a.fn')]; exact a.n, a.nd.over a.f, a.l0, a.f0, a.n0, a.lf', a.ln', a.fn'⟩
theorem Sta.node {H Hx : Hp} {pl pf pn q : Addr} {lf fs : List Int} {zs : ZN} {n : Nd} (a : Sta H pl pf pn Hx lf fs zs) (hq : Hx q = some (.tup (vals n))) : Sta H pl pf pn (upd Hx pn (.lst (refs zs ++ [.ref q]))) lf fs (zs ++ [(q, n)]) :=
  ⟨same_over a.n0 a.same, by rw [upd_ne a.ln']; exact a.l, by rw [upd_ne a.fn']; exact a.f, by rw [upd_same, refs_snoc], (fun z hz => by
    rcases List.mem_append.mp hz with h | h
    · exact a.nd.over a.n z h
    · have ez : z = (q, n) := by simpa using h
      subst ez
      rw [upd_ne]
      · exact hq
      · intro e
        have e' : q = pn := e
        rw [e', a.n] at hq
        cases hq), a.l0, a.f0, a.n0, a.lf', a.ln', a.fn'⟩
noncomputable def lf0 (m : Int) : List Int := (List.range (m + 4 - 1).toNat).map fun k => (1 : Int) + (k : Nat)
theorem lf0_len {m : Int} (h : 0 ≤ m) : ((lf0 m).length : Int) = m + 3 := by unfold lf0; rw [List.length_map, List.length_range]; omega
theorem lf0_rng {m : Int} (h : m ≤ 9) : ∀ x ∈ lf0 m, 1 ≤ x ∧ x ≤ 12 := fun x hx => by
  unfold lf0 at hx
  obtain ⟨k, hk, rfl⟩ := List.mem_map.mp hx
  have := List.mem_range.mp hk
  omega
theorem lf0_nd (m : Int) : (lf0 m).Nodup := by
  unfold lf0 List.Nodup
  rw [List.pairwise_map]
  exact List.nodup_range.imp fun h e => h (by omega)
theorem Bd.zero {m : Int} (h : m ≤ 9) : Bd [] (lf0 m) := ⟨.nil, by show (([] : List Int) ++ lf0 m).Nodup; rw [List.nil_append]; exact lf0_nd m, lf0_rng h, by unfold TW.Places nds; simp, by simp⟩
theorem nums_nd {ns : List Nd} (T : TW.Tree1 ns) : (ns.map (·.num)).Nodup := by
  have h := T.rise
  unfold TW.Rise at h
  unfold List.Nodup
  rw [List.pairwise_map]
  exact h.imp fun h e => by omega
theorem valV_mem {κ : Type} [DecidableEq κ] {kvs : List (κ × V)} (hn : (kvs.map (·.1)).Nodup) {k : κ} {v : V} (h : (k, v) ∈ kvs) : valV kvs k = some v := by
  induction kvs with
  | nil => simp at h
  | cons y kvs ih =>
    have hn' : y.1 ∉ kvs.map (·.1) ∧ (kvs.map (·.1)).Nodup := by simpa using hn
    rcases List.mem_cons.mp h with e | h'
    · subst e; exact valV_pos rfl
    · rw [valV_neg]
      · exact ih hn'.2 h'
      · intro e
        exact hn'.1 (List.mem_map.mpr ⟨_, h', e.symm⟩)
theorem valV_no {κ : Type} [DecidableEq κ] {kvs : List (κ × V)} {k : κ} (h : k ∉ kvs.map (·.1)) : valV kvs k = none := by
  induction kvs with
  | nil => rfl
  | cons y kvs ih =>
    have h' : ¬ k = y.1 ∧ k ∉ kvs.map (·.1) := by simpa using h
    rw [valV_neg (fun e => h'.1 e.symm)]
    exact ih h'.2
theorem node_at {zs : ZN} {k : Int} {q : List Str} (T : TW.Tree1 (nds zs)) (h : TW.PathTo (nds zs) k q) (hk : k ≠ 0) : ∃ z ∈ zs, z.2.num = k ∧ ∃ q', q = q' ++ [z.2.nm] ∧ TW.PathTo (nds zs) z.2.par q' := by
  cases h with
  | top => exact absurd rfl hk
  | @node n q' hm hq' =>
    obtain ⟨z, hz, rfl⟩ := List.mem_map.mp hm
    exact ⟨z, hz, rfl, q', rfl, hq'⟩
structure Tre (H : Hp) (t : Addr) (zs : ZN) : Prop where
  tup : H t = some (.tup (refs zs))
  nod : At H zs
  tr : TW.Tree1 (nds zs)
  len : zs.length ≤ 30
theorem Tre.same {H H' : Hp} {t : Addr} {zs : ZN} (h : Tre H t zs) (s : Same H H') : Tre H' t zs := ⟨s _ _ h.tup, h.nod.same s, h.tr, h.len⟩
theorem _root_.L2.Same.rd {H H' : Hp} (s : Same H H') {a : Addr} {u : HO} (r : Rd H a u) : Rd H' a u := by
  rcases r with r | ⟨o, r⟩
  · exact .inl (s _ _ r)
  · exact .inr ⟨o, s _ _ r⟩
noncomputable def bookK (as : List (Addr × (Addr × Nd))) : List (Key × V) := as.map fun a => ((Sum.inl a.2.2.num : Key), V.ref a.1)
noncomputable def rest3 (n : Nd) : List V := [.int n.par, .str n.nm, stV n.st]
structure Book (H : Hp) (d : Addr) (as : List (Addr × (Addr × Nd))) (zs : ZN) : Prop where
  dict : Rd H d (.dK (bookK as))
  of : as.map (·.2) = zs
  at' : ∀ a ∈ as, H a.1 = some (.tup (rest3 a.2.2))
theorem Book.same {H H' : Hp} {d : Addr} {as : List (Addr × (Addr × Nd))} {zs : ZN} (b : Book H d as zs) (s : Same H H') : Book H' d as zs := ⟨s.rd b.dict, b.of, fun a ha => s _ _ (b.at' a ha)⟩
theorem bookK_keys {as : List (Addr × (Addr × Nd))} {zs : ZN} (h : as.map (·.2) = zs) : (bookK as).map (·.1) = ((nds zs).map (·.num)).map (Sum.inl : Int → Key) := by
  rw [← h]; unfold bookK nds; simp only [List.map_map]; rfl
theorem bookK_nd {as : List (Addr × (Addr × Nd))} {zs : ZN} (h : as.map (·.2) = zs) (hn : ((nds zs).map (·.num)).Nodup) : ((bookK as).map (·.1)).Nodup := by
  rw [bookK_keys h]
  unfold List.Nodup at hn ⊢
  rw [List.pairwise_map]
  exact hn.imp fun h e => h (by injection e)
theorem Book.get {H : Hp} {d : Addr} {as : List (Addr × (Addr × Nd))} {zs : ZN} (b : Book H d as zs) (hn : ((nds zs).map (·.num)).Nodup) {z : Addr × Nd} (hz : z ∈ zs) : ∃ q, DGet H d (.int z.2.num) (some (.ref q)) ∧ H q = some (.tup (rest3 z.2)) := by
  have : z ∈ as.map (·.2) := by rw [b.of]; exact hz
  obtain ⟨a, ha, rfl⟩ := List.mem_map.mp this
  refine ⟨a.1, .inl ⟨bookK as, Sum.inl a.2.2.num, b.dict, rfl, ?_⟩, b.at' a ha⟩
  exact (valV_mem (bookK_nd b.of hn) (List.mem_map.mpr ⟨a, ha, rfl⟩)).symm
theorem Book.not {H : Hp} {d : Addr} {as : List (Addr × (Addr × Nd))} {zs : ZN} (b : Book H d as zs) {k : Int} (hk : ∀ z ∈ zs, z.2.num ≠ k) : DGet H d (.int k) none := by
  refine .inl ⟨bookK as, Sum.inl k, b.dict, rfl, (valV_no fun hm => ?_).symm⟩
  rw [bookK_keys b.of] at hm
  obtain ⟨i, hi, e⟩ := List.mem_map.mp hm
  obtain ⟨n, hn, rfl⟩ := List.mem_map.mp hi
  obtain ⟨z, hz, rfl⟩ := List.mem_map.mp hn
  injection e with e
  exact hk z hz e
noncomputable def plen (ns : List Nd) (k : Int) : Nat := open Classical in if h : ∃ p, TW.PathTo ns k p then (Classical.choose h).length else 0
theorem plen_of {ns : List Nd} (T : TW.Tree1 ns) {k : Int} {p : List Str} (h : TW.PathTo ns k p) : plen ns k = p.length := by
  unfold plen
  have hx : ∃ p, TW.PathTo ns k p := ⟨p, h⟩
  rw [dif_pos hx]
  rw [(Classical.choose_spec hx).uniq T h]
theorem r3_0 (n : Nd) : atI (rest3 n) 0 = some (.int n.par) := rfl
theorem stV_non (o : Option Int) : (!decide (stV o = V.non)) = o.isSome := by cases o <;> simp [stV]
theorem refs_map (zs : ZN) : zs.map (fun z => V.ref z.1) = refs zs := by simp [refs]
theorem read_sorted {K : PySem.W.Frag} {H : Hp} {l : Addr} {zs : ZN} {Q : VK} (hl : SqL K H l (refs zs) ∨ SqT K H l (refs zs)) (hA : At H zs) (hn : ((nds zs).map (·.num)).Nodup) (h64 : zs.length < 64)
    (q : ∀ us t' H', Same H H' → H' t' = some (.tup (refs us)) → At H' us → us.Perm zs → TW.Rise (nds us) → Q (.ref t') H') :
    ∃ l', ∃ ts : List Tup1, [V.ref l] = [V.ref l'] ∧ (SqL K H l' ((ts.map (·.1)).map V.ref) ∨ SqT K H l' ((ts.map (·.1)).map V.ref)) ∧ (∀ z ∈ ts, H z.1 = some (.tup (.int z.2.1 :: z.2.2))) ∧ (ts.map (·.2.1)).Nodup ∧ ts.length < 64 ∧
      ∀ ts' : List Tup1, ts'.Perm ts → ts'.Pairwise (fun a b => a.2.1 < b.2.1) → ∀ p, H p = none → ∃ p' ys, [V.ref p] = [V.ref p'] ∧ ((SqL K (upd H p (.lst ((ts'.map (·.1)).map V.ref))) p' ys ∧ ∀ l, upd H p (.lst ((ts'.map (·.1)).map V.ref)) l = none → Q (.ref l) (upd (upd H p (.lst ((ts'.map (·.1)).map V.ref))) l (.tup ys))) ∨
        (SqT K (upd H p (.lst ((ts'.map (·.1)).map V.ref))) p' ys ∧ Q (.ref p') (upd H p (.lst ((ts'.map (·.1)).map V.ref))))) := by
  have hnum : (zs.map tp).map (·.2.1) = (nds zs).map (·.num) := by
    unfold nds
    simp only [List.map_map]
    rfl
  refine ⟨l, zs.map tp, rfl, by rw [tp_refs]; exact hl, fun z hz => ?_, by rw [hnum]; exact hn, by rw [List.length_map]; exact h64, fun ts pm up p hp => ?_⟩
  · obtain ⟨y, hy, rfl⟩ := List.mem_map.mp hz
    exact hA y hy
  · obtain ⟨pm2, eb⟩ := back pm
    have er : (ts.map (·.1)).map V.ref = refs (ts.map un) := by rw [← tp_refs, eb]
    rw [er]
    refine ⟨p, _, rfl, .inl ⟨SqL.of upd_same, fun l hl => ?_⟩⟩
    refine q (ts.map un) l _ ((same_upd hp).trans (same_upd hl)) upd_same ?_ pm2 ?_
    · intro z hz
      exact ((same_upd hp).trans (same_upd hl)) _ _ (hA z (pm2.mem_iff.mp hz))
    · unfold nds TW.Rise
      rw [List.pairwise_map]
      have up2 : ((ts.map un).map tp).Pairwise (fun a b => a.2.1 < b.2.1) := by rw [eb]; exact up
      rw [List.pairwise_map] at up2
      exact up2
noncomputable def deedV : TW.Deed Str → List V
  | .make n p nm st => [.str "make", .int n, .int p, .str nm, stV st]
  | .write n st => [.str "write", .int n, .int st]
  | .move n p nm => [.str "move", .int n, .int p, .str nm]
  | .drop n => [.str "drop", .int n]
noncomputable def DeedOk : TW.Deed Str → Prop
  | .make n p nm _ => 1 ≤ n ∧ n ≤ 60 ∧ 0 ≤ p ∧ p ≤ 60 ∧ nm.length ≤ 100
  | .write n _ => 1 ≤ n ∧ n ≤ 60
  | .move n p nm => 1 ≤ n ∧ n ≤ 60 ∧ 0 ≤ p ∧ p ≤ 60 ∧ nm.length ≤ 100
  | .drop n => 1 ≤ n ∧ n ≤ 60
theorem DeedOk.pos {d : TW.Deed Str} (h : DeedOk d) : d.pos := by
  cases d <;> first | exact h.1 | trivial
theorem mem_nds {zs : ZN} {z : Addr × Nd} (h : z ∈ zs) : z.2 ∈ nds zs := List.mem_map.mpr ⟨z, h, rfl⟩
theorem of_nds {zs : ZN} {n : Nd} (h : n ∈ nds zs) : ∃ z ∈ zs, z.2 = n := List.mem_map.mp h
theorem hasN_no {zs : ZN} {k : Int} (h : ¬ ∃ z ∈ zs, z.2.num = k) : ¬ TW.HasN (nds zs) k := fun ⟨m, hm, e⟩ => by
  obtain ⟨z, hz, rfl⟩ := of_nds hm
  exact h ⟨z, hz, e⟩
theorem hasN_yes {zs : ZN} {k : Int} {z : Addr × Nd} (hz : z ∈ zs) (e : z.2.num = k) : TW.HasN (nds zs) k := ⟨z.2, mem_nds hz, e⟩
noncomputable def wordN : TW.Wd → Str
  | .known => "known"
  | .noNode => "no node"
  | .notFile => "not file"
  | .notFolder => "not folder"
  | .inside => "inside"
  | .taken => "taken"
noncomputable def bookN (bs : List (Addr × Nd)) : List (Key × V) := bs.map fun b => ((Sum.inl b.2.num : Key), V.ref b.1)
theorem bookK_N (as : List (Addr × (Addr × Nd))) : bookK as = bookN (as.map fun a => (a.1, a.2.2)) := by
  unfold bookK bookN; rw [List.map_map]; rfl
theorem bookN_keys (bs : List (Addr × Nd)) : (bookN bs).map (fun p => kV p.1) = bs.map fun b => V.int b.2.num := by
  unfold bookN; rw [List.map_map]; rfl
theorem bookN_val {bs : List (Addr × Nd)} (hn : (bs.map (·.2.num)).Nodup) {b : Addr × Nd} (hb : b ∈ bs) : valV (bookN bs) (Sum.inl b.2.num : Key) = some (.ref b.1) := by
  refine valV_mem ?_ (List.mem_map.mpr ⟨b, hb, rfl⟩)
  unfold bookN
  rw [List.map_map]
  unfold List.Nodup at hn ⊢
  rw [List.pairwise_map] at hn ⊢
  exact hn.imp fun h e => h (by injection e)
theorem bookN_put (bs : List (Addr × Nd)) (c : Addr) (n : Nd) : putK (bookN bs) (Sum.inl n.num : Key) (.ref c) = bookN (if ∃ b ∈ bs, b.2.num = n.num then bs.map (fun b => if b.2.num = n.num then (c, n) else b) else bs ++ [(c, n)]) := by
  unfold putK
  by_cases h : ∃ b ∈ bs, b.2.num = n.num
  · obtain ⟨b, hb, e⟩ := h
    have ha : ((bookN bs).any fun kv => decide (kv.1 = (Sum.inl n.num : Key))) = true := by
      rw [List.any_eq_true]
      exact ⟨_, List.mem_map.mpr ⟨b, hb, rfl⟩, by simp [e]⟩
    rw [if_pos ha, if_pos ⟨b, hb, e⟩]
    unfold bookN
    rw [List.map_map, List.map_map]
    apply List.map_congr_left
    intro x _
    show (if (Sum.inl x.2.num : Key) = Sum.inl n.num then ((Sum.inl x.2.num : Key), V.ref c) else ((Sum.inl x.2.num : Key), V.ref x.1)) = _
    by_cases e : x.2.num = n.num
    · rw [if_pos (by rw [e])]
      show _ = ((Sum.inl (if x.2.num = n.num then (c, n) else x).2.num : Key), V.ref (if x.2.num = n.num then (c, n) else x).1)
      rw [if_pos e, e]
    · rw [if_neg (fun h => e (by injection h))]
      show _ = ((Sum.inl (if x.2.num = n.num then (c, n) else x).2.num : Key), V.ref (if x.2.num = n.num then (c, n) else x).1)
      rw [if_neg e]
  · have ha : ¬ ((bookN bs).any fun kv => decide (kv.1 = (Sum.inl n.num : Key))) = true := fun ha => h (by
      obtain ⟨y, hy, e⟩ := List.any_eq_true.mp ha
      obtain ⟨b, hb, rfl⟩ := List.mem_map.mp hy
      have e' : (Sum.inl b.2.num : Key) = Sum.inl n.num := by simpa using e
      exact ⟨b, hb, by injection e'⟩)
    rw [if_neg ha, if_neg h]
    unfold bookN
    rw [List.map_append]; rfl
theorem r3_2 (n : Nd) : atI (rest3 n) 2 = some (stV n.st) := rfl
theorem upd_book {H : Hp} {d q : Addr} {as : List (Addr × (Addr × Nd))} {zs : ZN} {new : Nd} (hd : H d = some (.dK (bookK as))) (hof : as.map (·.2) = zs) (hat : ∀ a ∈ as, H a.1 = some (.tup (rest3 a.2.2))) (hq : H q = some (.tup (rest3 new))) (hnd : ((nds zs).map (·.num)).Nodup) :
    ∃ bs : List (Addr × Nd), upd H d (.dK (putK (bookK as) (Sum.inl new.num : Key) (.ref q))) d = some (.dK (bookN bs)) ∧ (∀ b ∈ bs, upd H d (.dK (putK (bookK as) (Sum.inl new.num : Key) (.ref q))) b.1 = some (.tup (rest3 b.2))) ∧ (bs.map (·.2.num)).Nodup ∧ bs.length ≤ zs.length + 1 ∧
      ((TW.HasN (nds zs) new.num ∧ bs.map (·.2) = (nds zs).map (TW.put new)) ∨ (¬ TW.HasN (nds zs) new.num ∧ bs.map (·.2) = nds zs ++ [new])) := by
  have en : (as.map fun a => (a.1, a.2.2)).map (·.2) = nds zs := by rw [← hof]; unfold nds; rw [List.map_map, List.map_map]; rfl
  have hl : (as.map fun a => (a.1, a.2.2)).length = zs.length := by rw [← hof, List.length_map, List.length_map]
  have ne : ∀ a xs, H a = some (.tup xs) → a ≠ d := fun a xs h e => by rw [e, hd] at h; cases h
  have hat' : ∀ b ∈ as.map (fun a => (a.1, a.2.2)), H b.1 = some (.tup (rest3 b.2)) := fun b hb => by
    obtain ⟨a, ha, rfl⟩ := List.mem_map.mp hb
    exact hat a ha
  rw [bookK_N, bookN_put]
  generalize as.map (fun a => (a.1, a.2.2)) = cs at en hl hat' ⊢
  have hh : (∃ b ∈ cs, b.2.num = new.num) ↔ TW.HasN (nds zs) new.num := by
    rw [← en]
    constructor
    · rintro ⟨b, hb, e⟩; exact ⟨b.2, List.mem_map.mpr ⟨b, hb, rfl⟩, e⟩
    · rintro ⟨m, hm, e⟩
      obtain ⟨b, hb, rfl⟩ := List.mem_map.mp hm
      exact ⟨b, hb, e⟩
  have hn2 : (cs.map (·.2.num)).Nodup := by
    have : cs.map (·.2.num) = (nds zs).map (·.num) := by rw [← en, List.map_map]; rfl
    rw [this]; exact hnd
  by_cases h : ∃ b ∈ cs, b.2.num = new.num
  · rw [if_pos h]
    refine ⟨_, upd_same, fun b hb => ?_, ?_, by rw [List.length_map]; omega, .inl ⟨hh.mp h, ?_⟩⟩
    · obtain ⟨c, hc, rfl⟩ := List.mem_map.mp hb
      by_cases e : c.2.num = new.num
      · rw [if_pos e, upd_ne (ne _ _ hq)]; exact hq
      · rw [if_neg e, upd_ne (ne _ _ (hat' c hc))]; exact hat' c hc
    · have : (cs.map fun b => if b.2.num = new.num then (q, new) else b).map (·.2.num) = cs.map (·.2.num) := by
        rw [List.map_map]
        apply List.map_congr_left
        intro c _
        show (if c.2.num = new.num then (q, new) else c).2.num = c.2.num
        by_cases e : c.2.num = new.num
        · rw [if_pos e]; exact e.symm
        · rw [if_neg e]
      rw [this]; exact hn2
    · rw [← en, List.map_map, List.map_map]
      apply List.map_congr_left
      intro c _
      show (if c.2.num = new.num then (q, new) else c).2 = TW.put new c.2
      unfold TW.put
      by_cases e : c.2.num = new.num
      · rw [if_pos e, if_pos e]
      · rw [if_neg e, if_neg e]
  · rw [if_neg h]
    refine ⟨_, upd_same, fun b hb => ?_, ?_, by rw [List.length_append]; simp; omega, .inr ⟨fun x => h (hh.mpr x), by rw [List.map_append, en]; rfl⟩⟩
    · rcases List.mem_append.mp hb with hb | hb
      · rw [upd_ne (ne _ _ (hat' b hb))]; exact hat' b hb
      · have e : b = (q, new) := by simpa using hb
        subst e
        rw [upd_ne (ne _ _ hq)]; exact hq
    · rw [List.map_append, List.nodup_append]
      refine ⟨hn2, by simp, fun x hx y hy e => ?_⟩
      have ey : y = new.num := by simpa using hy
      obtain ⟨b, hb, eb⟩ := List.mem_map.mp hx
      exact h ⟨b, hb, by rw [eb, e, ey]⟩
noncomputable def MkMv (t : List Nd) (dd : TW.Deed Str) (n p : Int) (nm : Str) : Prop := (∃ st, dd = .make n p nm st ∧ ¬ TW.HasN t n) ∨ (dd = .move n p nm ∧ TW.HasN t n)
theorem MkMv.no {t : List Nd} {dd : TW.Deed Str} {n p : Int} {nm : Str} (h : MkMv t dd n p nm) (h0 : p ≠ 0) (hp : ¬ TW.HasN t p) : TW.Told t dd (.inl .noNode) := by
  rcases h with ⟨st, rfl, hn⟩ | ⟨rfl, hn⟩
  · exact .mNo hn h0 hp
  · exact .vNoP hn h0 hp
theorem MkMv.file {t : List Nd} {dd : TW.Deed Str} {n p : Int} {nm : Str} (h : MkMv t dd n p nm) (h0 : p ≠ 0) {m : Nd} (hm : m ∈ t) (e : m.num = p) (hs : m.st ≠ none) : TW.Told t dd (.inl .notFolder) := by
  rcases h with ⟨st, rfl, hn⟩ | ⟨rfl, hn⟩
  · exact .mFile hn h0 hm e hs
  · exact .vFile hn h0 hm e hs
noncomputable def NotIn (t : List Nd) (dd : TW.Deed Str) (n p : Int) : Prop := (∃ nm, dd = .move n p nm) → p ≠ 0 → ¬ TW.Und t n p
theorem MkMv.taken {t : List Nd} {dd : TW.Deed Str} {n p : Int} {nm : Str} (h : MkMv t dd n p nm) (hF : TW.Fold t p) (hi : NotIn t dd n p) {m : Nd} (hm : m ∈ t) (hne : m.num ≠ n) (e1 : m.par = p) (e2 : m.nm = nm) : TW.Told t dd (.inl .taken) := by
  rcases h with ⟨st, rfl, hn⟩ | ⟨rfl, hn⟩
  · exact .mTaken hn hF hm e1 e2
  · exact .vTaken hn hF (hi ⟨_, rfl⟩) hm hne e1 e2
noncomputable def NmOk (x : Str) : Prop := x = "a" ∨ x = "b" ∨ x = "c" ∨ x = "abcde"
noncomputable def StOk (s : Option Int) : Prop := ∀ i, s = some i → 0 ≤ i ∧ i ≤ 999
noncomputable def NdOk (n : Nd) : Prop := 1 ≤ n.num ∧ n.num ≤ 60 ∧ NmOk n.nm ∧ StOk n.st
noncomputable def DeedFine : TW.Deed Str → Prop
  | .make n p nm st => 1 ≤ n ∧ n ≤ 60 ∧ 0 ≤ p ∧ p ≤ 60 ∧ NmOk nm ∧ StOk st
  | .write n st => 1 ≤ n ∧ n ≤ 60 ∧ 0 ≤ st ∧ st ≤ 999
  | .move n p nm => 1 ≤ n ∧ n ≤ 60 ∧ 0 ≤ p ∧ p ≤ 60 ∧ NmOk nm
  | .drop n => 1 ≤ n ∧ n ≤ 60
theorem NmOk.len {x : Str} (h : NmOk x) : x.length ≤ 100 := by
  rcases h with rfl | rfl | rfl | rfl <;> decide +kernel
theorem DeedFine.ok {d : TW.Deed Str} (h : DeedFine d) : DeedOk d := by
  cases d with
  | make n p nm st => obtain ⟨h1, h2, h3, h4, h5, _⟩ := h; exact ⟨h1, h2, h3, h4, h5.len⟩
  | write n st => exact ⟨h.1, h.2.1⟩
  | move n p nm => obtain ⟨h1, h2, h3, h4, h5⟩ := h; exact ⟨h1, h2, h3, h4, h5.len⟩
  | drop n => exact h
theorem NdOk.told {t u : List Nd} {d : TW.Deed Str} (ht : ∀ n ∈ t, NdOk n) (hd : DeedFine d) (h : TW.Told t d (.inr u)) : ∀ n ∈ u, NdOk n := by
  refine h.all ht (fun n p nm st e => ?_) (fun n st e y hy ey => ?_) (fun n p nm e y hy ey => ?_)
  · subst e
    obtain ⟨h1, h2, h3, h4, h5, h6⟩ := hd
    exact ⟨h1, h2, h5, h6⟩
  · subst e
    obtain ⟨h1, h2, h3, h4⟩ := hd
    exact ⟨h1, h2, (ht y hy).2.2.1, fun i e => by injection e with e; omega⟩
  · subst e
    obtain ⟨h1, h2, h3, h4, h5⟩ := hd
    exact ⟨h1, h2, h5, (ht y hy).2.2.2⟩
theorem Good.ok {n : Nd} (h : Good n) : NdOk n := by
  obtain ⟨h1, h2, h3, h4⟩ := h
  refine ⟨h1, by omega, h3, fun i e => ?_⟩
  rcases h4 with h | h | h | h | h <;> rw [h] at e <;> cases e <;> decide
theorem at_ints {ns : List Int} {i : Int} (h0 : 0 ≤ i) (h1 : i < ns.length) {P : Int → Prop} (hP : ∀ x ∈ ns, P x) : ∃ x, atI (ns.map V.int) i = some (.int x) ∧ P x := by
  obtain ⟨x, hx, e⟩ := pick_in h0 h1
  exact ⟨x, e, hP x hx⟩
end TK
set_option Elab.async false
set_option linter.all false
namespace TW
section
variable {S : Type}
noncomputable def findN (t : List (Nd S)) (k : Int) : Option (Nd S) := t.find? fun n => n.num == k
theorem findN_some {t : List (Nd S)} (T : Tree1 t) {m : Nd S} (hm : m ∈ t) {k : Int} (e : m.num = k) : findN t k = some m := by
  subst e
  unfold findN
  cases h : t.find? fun n => n.num == m.num with
  | none => have := List.find?_eq_none.mp h m hm; simp at this
  | some y =>
    have h1 := List.find?_some h
    have h2 := List.mem_of_find?_eq_some h
    have h3 : y.num = m.num := by simpa using h1
    rw [T.inj h2 hm h3]
theorem findN_none {t : List (Nd S)} {k : Int} (h : ∀ m ∈ t, m.num ≠ k) : findN t k = none := by
  unfold findN
  rw [List.find?_eq_none]
  intro m hm
  simpa using h m hm
theorem find_same {t u : List (Nd S)} (T : Tree1 t) (U : Tree1 u) {k : Int} (h : ∀ m, m.num = k → (m ∈ u ↔ m ∈ t)) : findN u k = findN t k := by
  by_cases hk : ∃ m ∈ t, m.num = k
  · obtain ⟨m, hm, e⟩ := hk
    rw [findN_some T hm e, findN_some U ((h m e).mpr hm) e]
  · rw [findN_none fun m hm e => hk ⟨m, hm, e⟩, findN_none fun m hm e => hk ⟨m, (h m e).mp hm, e⟩]
noncomputable def Deed.key : Deed S → Int
  | .make n _ _ _ => n
  | .write n _ => n
  | .move n _ _ => n
  | .drop n => n
theorem put_mem {t : List (Nd S)} {z : Nd S} {m : Nd S} (h : m.num ≠ z.num) : m ∈ t.map (put z) ↔ m ∈ t := by
  rw [List.mem_map]
  constructor
  · rintro ⟨y, hy, e⟩
    by_cases e2 : y.num = z.num
    · rw [put_here e2] at e
      exact absurd (by rw [← e]) h
    · rw [put_other e2] at e
      rw [← e]; exact hy
  · intro hm
    exact ⟨m, hm, put_other h⟩
theorem Told.others {t u : List (Nd S)} (T : Tree1 t) (U : Tree1 u) {d : Deed S} (h : Told t d (.inr u)) {k : Int} (hk : k ≠ d.key) :
    findN u k = findN t k ∨ ((∃ n, d = .drop n) ∧ Und t d.key k ∧ (∃ m ∈ t, m.num = k) ∧ ∀ m ∈ u, m.num ≠ k) := by
  generalize er : (Sum.inr u : Sum Wd (List (Nd S))) = r at h
  cases h with
  | @made n p nm st _ a1 a2 a3 a4 a5 =>
    injection er with er
    subst er
    refine .inl (find_same T U fun m e => ?_)
    rw [a4.mem_iff, List.mem_cons]
    constructor
    · rintro (e2 | hm)
      · rw [e2] at e
        exact absurd e.symm hk
      · exact hm
    · exact .inr
  | @wrote n st y a1 a2 a3 =>
    injection er with er
    subst er
    exact .inl (find_same T U fun m e => put_mem (by rw [e]; exact hk))
  | @moved n p nm y a1 a2 a3 a4 a5 =>
    injection er with er
    subst er
    exact .inl (find_same T U fun m e => put_mem (by rw [e]; exact hk))
  | @dropped n f a1 a2 =>
    injection er with er
    subst er
    by_cases hu : (∃ m ∈ t, m.num = k) ∧ Und t n k
    · obtain ⟨⟨m, hm, e⟩, hu⟩ := hu
      refine .inr ⟨⟨n, rfl⟩, hu, ⟨m, hm, e⟩, fun y hy e2 => ?_⟩
      obtain ⟨hy1, hy2⟩ := List.mem_filter.mp hy
      exact (a2 y hy1).mp hy2 (by rw [e2]; exact hu)
    · refine .inl (find_same T U fun m e => ?_)
      rw [List.mem_filter]
      constructor
      · exact fun h => h.1
      · intro hm
        refine ⟨hm, (a2 m hm).mpr fun z => hu ⟨⟨m, hm, e⟩, by rw [e] at z; exact z⟩⟩
  | _ => cases er
end
end TW
set_option Elab.async false
set_option linter.all false
namespace TW
section
variable {S : Type}
structure Row (S : Type) where
  k : Int
  o : Option (Nd S)
  n : Option (Nd S)
structure Chg (t u : List (Nd S)) (rs : List (Row S)) : Prop where
  up : rs.Pairwise fun a b => a.k < b.k
  mem : ∀ r, r ∈ rs ↔ r.o = findN t r.k ∧ r.n = findN u r.k ∧ r.o ≠ r.n
theorem findN_num {t : List (Nd S)} {k : Int} {m : Nd S} (h : findN t k = some m) : m ∈ t ∧ m.num = k := by
  unfold findN at h
  have h1 := List.find?_some h
  have h2 := List.mem_of_find?_eq_some h
  exact ⟨h2, by simpa using h1⟩
theorem up_uniq : ∀ {a b : List (Row S)}, a.Pairwise (fun x y => x.k < y.k) → b.Pairwise (fun x y => x.k < y.k) → (∀ r, r ∈ a ↔ r ∈ b) → a = b
  | [], [], _, _, _ => rfl
  | [], y :: b, _, _, h => absurd ((h y).mpr List.mem_cons_self) (by simp)
  | x :: a, [], _, _, h => absurd ((h x).mp List.mem_cons_self) (by simp)
  | x :: a, y :: b, ha, hb, h => by
    obtain ⟨a1, a2⟩ := List.pairwise_cons.mp ha
    obtain ⟨b1, b2⟩ := List.pairwise_cons.mp hb
    have e : x = y := by
      rcases List.mem_cons.mp ((h x).mp List.mem_cons_self) with e | e
      · exact e
      · rcases List.mem_cons.mp ((h y).mpr List.mem_cons_self) with e' | e'
        · exact e'.symm
        · have q1 := b1 x e
          have q2 := a1 y e'
          omega
    subst e
    congr 1
    refine up_uniq a2 b2 fun r => ⟨fun hr => ?_, fun hr => ?_⟩
    · rcases List.mem_cons.mp ((h r).mp (List.mem_cons_of_mem _ hr)) with e | e
      · have := a1 r hr
        rw [e] at this
        omega
      · exact e
    · rcases List.mem_cons.mp ((h r).mpr (List.mem_cons_of_mem _ hr)) with e | e
      · have := b1 r hr
        rw [e] at this
        omega
      · exact e
theorem Chg.uniq {t u : List (Nd S)} {a b : List (Row S)} (ha : Chg t u a) (hb : Chg t u b) : a = b := up_uniq ha.up hb.up fun r => (ha.mem r).trans (hb.mem r).symm
noncomputable def Row.swap (r : Row S) : Row S := ⟨r.k, r.n, r.o⟩
theorem Chg.swap {t u : List (Nd S)} {a : List (Row S)} (h : Chg t u a) : Chg u t (a.map Row.swap) := by
  refine ⟨?_, fun r => ?_⟩
  · rw [List.pairwise_map]; exact h.up
  · rw [List.mem_map]
    constructor
    · rintro ⟨x, hx, rfl⟩
      obtain ⟨h1, h2, h3⟩ := (h.mem x).mp hx
      exact ⟨h2, h1, Ne.symm h3⟩
    · rintro ⟨h1, h2, h3⟩
      exact ⟨r.swap, (h.mem r.swap).mpr ⟨h2, h1, Ne.symm h3⟩, rfl⟩
theorem Chg.nil {t : List (Nd S)} {a : List (Row S)} (h : Chg t t a) : a = [] := by
  cases a with
  | nil => rfl
  | cons x a =>
    obtain ⟨h1, h2, h3⟩ := (h.mem x).mp List.mem_cons_self
    exact absurd (h1.trans h2.symm) h3
noncomputable def rowOf (t u : List (Nd S)) (k : Int) : Row S := ⟨k, findN t k, findN u k⟩
theorem chg_of [DecidableEq (Nd S)] {t u : List (Nd S)} {ns : List Int} (hu : ns.Pairwise (· < ·)) (hm : ∀ k, findN t k ≠ none ∨ findN u k ≠ none → k ∈ ns ∨ findN t k = findN u k) : Chg t u ((ns.map (rowOf t u)).filter fun r => decide (r.o ≠ r.n)) := by
  refine ⟨?_, fun r => ?_⟩
  · refine List.Pairwise.filter _ ?_
    rw [List.pairwise_map]
    exact hu
  · rw [List.mem_filter, List.mem_map, decide_eq_true_eq]
    constructor
    · rintro ⟨⟨k, hk, rfl⟩, hne⟩
      exact ⟨rfl, rfl, hne⟩
    · rintro ⟨h1, h2, h3⟩
      refine ⟨⟨r.k, ?_, ?_⟩, h3⟩
      · have h4 : findN t r.k ≠ findN u r.k := by rw [← h1, ← h2]; exact h3
        have h5 : findN t r.k ≠ none ∨ findN u r.k ≠ none := by
          by_cases z : findN t r.k = none
          · exact .inr fun z2 => h4 (z.trans z2.symm)
          · exact .inl z
        rcases hm r.k h5 with z | z
        · exact z
        · exact absurd z h4
      · show (⟨r.k, findN t r.k, findN u r.k⟩ : Row S) = r
        rw [← h1, ← h2]
end
end TW
set_option Elab.async false
set_option linter.all false
set_option maxRecDepth 100000
set_option maxHeartbeats 4000000
namespace L2
open PySem PySem.Spec PyProof.Rows
theorem lc_eachG {α : Type} {k : Nat} {js : List Nat} {J : It} {g : TG} {te : TE} {σ : St} {H1 : Hp} {Q : VK} {p : Addr} {fr : List (Option V)} (zs : List α) (val : α → V) (hn : zs.length ≤ 1000) (hp : H1 p = none) (S : Src J H1 (zs.map val)) (hfr : ∃ σ0 : St, σ0.length = k ∧ lcStart k js σ = σ0 ++ fr) (R : α → V → Hp → Prop)
    (hR : ∀ z y H H', R z y H → Ext p H H' → R z y H')
    (elt : ∀ z (σ0 : St) H' (kk : St → VK), σ0.length = k → z ∈ zs → Same H1 H' → (∃ ys, H' p = some (.lst ys)) → (∀ σ2 y H4, (∃ σ0' : St, σ0'.length = k ∧ σ2 = σ0' ++ fr) → Same H' H4 → R z y H4 → kk σ2 y H4) → g (val z) (σ0 ++ fr) H' fun σ2 H3 => te σ2 H3 (kk σ2))
    (fin : ∀ ys H', Same H1 H' → H' p = some (.lst ys) → Paired (fun z y => R z y H') zs ys → Q (.ref p) H') : LcW k js g te σ Q J H1 p := by
  have grow : ∀ {as : List α} {ys : List V} {H H' : Hp}, Ext p H H' → Paired (fun z y => R z y H) as ys → Paired (fun z y => R z y H') as ys := fun ex r => Paired.mapP r fun a b h => hR a b _ _ h ex
  have hlen : ∀ {as : List α} {ys : List V} {H : Hp}, Paired (fun z y => R z y H) as ys → ys.length = as.length := fun r => (Paired.length r).symm
  refine ⟨fun i m ys σ' H' => m = zs.length - i ∧ i ≤ zs.length ∧ (∃ σ0 : St, σ0.length = k ∧ σ' = σ0 ++ fr) ∧ Same H1 H' ∧ H' p = some (.lst ys) ∧ Paired (fun z y => R z y H') (zs.take i) ys, ⟨zs.length, by simp, Nat.zero_le _, hfr, same_upd hp, upd_same, .nil⟩, ?_⟩
  rintro i m ys σ' H' ⟨rfl, hi, ⟨σ0, hσ0, rfl⟩, s1, hl, hys⟩
  by_cases hlt : i < zs.length
  · have hlt' : i < (zs.map val).length := by rw [List.length_map]; exact hlt
    refine .inr ⟨S.go i H' hlt' s1, ?_, fun x H2 hy => ?_⟩
    · have h1 : ys.length ≤ zs.length := by
        rw [hlen hys, List.length_take]; omega
      exact Nat.lt_of_le_of_lt h1 (small1000 hn)
    · obtain ⟨rfl, hx⟩ := S.yl i H' x H2 hlt' s1 hy
      have gz : zs[i]? = some zs[i] := List.getElem?_eq_getElem hlt
      have mz := List.mem_of_getElem? gz
      rw [List.getElem?_map, gz] at hx
      have ex : val zs[i] = x := Option.some.inj hx
      have et : zs.take (i + 1) = zs.take i ++ [zs[i]] := take_snoc gz
      subst ex
      generalize zs[i] = z at gz mz et ⊢
      refine elt z σ0 H2 _ hσ0 mz s1 ⟨ys, hl⟩ fun σ2 y H5 hσ2 s5 r5 => ⟨s5 _ _ hl, zs.length - (i + 1), by omega, rfl, hlt, hσ2, same_over hp (s1.trans s5), upd_same, ?_⟩
      rw [et]
      exact Paired.snoc (grow ((Ext.of s5).trans Ext.upd) hys) (hR _ _ _ _ r5 Ext.upd)
  · have e : i = zs.length := by omega
    subst e
    have st := S.stop H' s1
    rw [List.length_map] at st
    refine .inl ⟨st, fin ys H' s1 hl ?_⟩
    rw [List.take_length] at hys
    exact hys
end L2
namespace TK
open PySem L2
noncomputable instance decNd : DecidableEq (TW.Nd Str) := fun a b => Classical.propDecidable _
noncomputable abbrev Row := TW.Row Str
noncomputable def OptV (H : Hp) (v : V) (o : Option Nd) : Prop := (v = .non ∧ o = none) ∨ ∃ q n, v = .ref q ∧ H q = some (.tup (rest3 n)) ∧ o = some n
theorem OptV.same {H H' : Hp} {v : V} {o : Option Nd} (h : OptV H v o) (s : Same H H') : OptV H' v o := by
  rcases h with h | ⟨q, n, e, h, e2⟩
  · exact .inl h
  · exact .inr ⟨q, n, e, s _ _ h, e2⟩
theorem rest3_flat (n : Nd) : ∀ v ∈ rest3 n, flat2 v = true := fun v hv => by
  unfold rest3 at hv
  simp only [List.mem_cons, List.not_mem_nil, or_false] at hv
  rcases hv with rfl | rfl | rfl
  · rfl
  · rfl
  · cases n.st <;> rfl
theorem OptV.ot {H : Hp} {v : V} {o : Option Nd} (h : OptV H v o) : OT H v (o.map rest3) := by
  rcases h with ⟨e, e2⟩ | ⟨q, n, e, h, e2⟩
  · exact .inl ⟨e, by rw [e2]; rfl⟩
  · exact .inr ⟨q, rest3 n, e, h, by rw [e2]; rfl, rest3_flat n⟩
theorem rest3_inj {a b : Nd} (h : rest3 a = rest3 b) (e : a.num = b.num) : a = b := by
  obtain ⟨n1, p1, m1, s1⟩ := a
  obtain ⟨n2, p2, m2, s2⟩ := b
  unfold rest3 at h
  simp only [List.cons.injEq, V.int.injEq, V.str.injEq, and_true] at h
  obtain ⟨h1, h2, h3⟩ := h
  have h4 : s1 = s2 := by
    cases s1 <;> cases s2 <;> simp_all [stV]
  simp only at e
  subst e h1 h2 h4
  rfl
noncomputable def RowN (r : Row) : Prop := (∀ n, r.o = some n → n.num = r.k) ∧ ∀ n, r.n = some n → n.num = r.k
theorem RowN.eq {r : Row} (h : RowN r) : r.o.map rest3 = r.n.map rest3 ↔ r.o = r.n := by
  obtain ⟨k, o, n⟩ := r
  constructor
  · intro e
    cases o with
    | none => cases n with
      | none => rfl
      | some b => cases e
    | some a => cases n with
      | none => cases e
      | some b =>
        have e2 : rest3 a = rest3 b := Option.some.inj e
        exact congrArg some (rest3_inj e2 ((h.1 a rfl).trans (h.2 b rfl).symm))
  · intro e
    show o.map rest3 = n.map rest3
    have : o = n := e
    rw [this]
structure RowAt (H : Hp) (e : Addr) (r : Row) : Prop where
  at' : ∃ vo vn, H e = some (.tup [.int r.k, vo, vn]) ∧ OptV H vo r.o ∧ OptV H vn r.n
  ok : RowN r
theorem RowAt.same {H H' : Hp} {e : Addr} {r : Row} (h : RowAt H e r) (s : Same H H') : RowAt H' e r := by
  obtain ⟨⟨vo, vn, h1, h2, h3⟩, hk⟩ := h
  exact ⟨⟨vo, vn, s _ _ h1, h2.same s, h3.same s⟩, hk⟩
noncomputable abbrev ZR := List (Addr × Row)
noncomputable def rrefs (es : ZR) : List V := es.map fun e => V.ref e.1
noncomputable def rows (es : ZR) : List Row := es.map (·.2)
structure ChgAt (H : Hp) (c : Addr) (es : ZR) : Prop where
  tup : H c = some (.tup (rrefs es))
  at' : ∀ e ∈ es, RowAt H e.1 e.2
  len : es.length ≤ 60
theorem ChgAt.same {H H' : Hp} {c : Addr} {es : ZR} (h : ChgAt H c es) (s : Same H H') : ChgAt H' c es := ⟨s _ _ h.tup, fun e he => (h.at' e he).same s, h.len⟩
theorem rowOf_ok {t u : List Nd} (k : Int) : RowN (TW.rowOf t u k) := ⟨fun n h => (TW.findN_num h).2, fun n h => (TW.findN_num h).2⟩
theorem alike_opt {H : Hp} {v w : V} {o : Option Nd} (hv : OptV H v o) (hw : OptV H w o) : Alike H 2 v w := by
  rcases hv with ⟨rfl, rfl⟩ | ⟨q, n, rfl, hq, rfl⟩
  · rcases hw with ⟨rfl, _⟩ | ⟨q, n, _, _, e⟩
    · exact alike_flat ⟨rfl, rfl⟩
    · cases e
  · rcases hw with ⟨_, e⟩ | ⟨q2, n2, rfl, hq2, e⟩
    · cases e
    · have : n = n2 := Option.some.inj e
      subst this
      exact .inr ⟨q, q2, _, _, rfl, rfl, hq, hq2, rfl, fun i x y hx hy => by
        have e : x = y := Option.some.inj (hx.symm.trans hy)
        subst e
        exact alike_flat ⟨rfl, flat2_flat (rest3_flat n x (List.mem_of_getElem? hx))⟩⟩
theorem alike_rows {H : Hp} {es fs : ZR} (h : rows es = rows fs) (he : ∀ e ∈ es, RowAt H e.1 e.2) (hf : ∀ e ∈ fs, RowAt H e.1 e.2) : AlikeAll H (rrefs es) (rrefs fs) := by
  have hl : es.length = fs.length := by
    have := congrArg List.length h
    unfold rows at this
    rw [List.length_map, List.length_map] at this
    exact this
  refine ⟨by unfold rrefs; rw [List.length_map, List.length_map]; exact hl, fun i x y hx hy => ?_⟩
  unfold rrefs at hx hy
  rw [List.getElem?_map] at hx hy
  cases ga : es[i]? with
  | none => rw [ga] at hx; cases hx
  | some a =>
    cases gb : fs[i]? with
    | none => rw [gb] at hy; cases hy
    | some b =>
      rw [ga] at hx
      rw [gb] at hy
      have ex : V.ref a.1 = x := Option.some.inj hx
      have ey : V.ref b.1 = y := Option.some.inj hy
      subst ex ey
      have e : a.2 = b.2 := by
        have h1 : (rows es)[i]? = some a.2 := by unfold rows; rw [List.getElem?_map, ga]; rfl
        have h2 : (rows fs)[i]? = some b.2 := by unfold rows; rw [List.getElem?_map, gb]; rfl
        rw [h, h2] at h1
        exact (Option.some.inj h1).symm
      obtain ⟨⟨vo, vn, a1, a2, a3⟩, _⟩ := he a (List.mem_of_getElem? ga)
      obtain ⟨⟨wo, wn, b1, b2, b3⟩, _⟩ := hf b (List.mem_of_getElem? gb)
      rw [← e] at b1 b2 b3
      refine .inr ⟨a.1, b.1, _, _, rfl, rfl, a1, b1, rfl, fun j x' y' hx' hy' => ?_⟩
      match j, hx', hy' with
      | 0, hx', hy' =>
        cases hx'
        cases hy'
        exact alike_flat ⟨rfl, rfl⟩
      | 1, hx', hy' =>
        cases hx'
        cases hy'
        exact alike_opt a2 b2
      | 2, hx', hy' =>
        cases hx'
        cases hy'
        exact alike_opt a3 b3
      | j + 3, hx', hy' => simp at hx'
end TK
namespace TK
open PySem L2
theorem Book.optV {H : Hp} {d : Addr} {as : List (Addr × (Addr × Nd))} {zs : ZN} (b : Book H d as zs) (T : TW.Tree1 (nds zs)) (k : Int) : ∃ r, DGet H d (.int k) r ∧ OptV H (r.getD .non) (TW.findN (nds zs) k) := by
  by_cases hk : ∃ z ∈ zs, z.2.num = k
  · obtain ⟨z, hz, rfl⟩ := hk
    obtain ⟨q, hq1, hq2⟩ := b.get (nums_nd T) hz
    refine ⟨_, hq1, ?_⟩
    rw [TW.findN_some T (mem_nds hz) rfl]
    exact .inr ⟨q, z.2, rfl, hq2, rfl⟩
  · refine ⟨none, b.not fun z hz e => hk ⟨z, hz, e⟩, ?_⟩
    rw [TW.findN_none fun m hm e => ?_]
    · exact .inl ⟨rfl, rfl⟩
    · obtain ⟨z, hz, rfl⟩ := of_nds hm
      exact hk ⟨z, hz, e⟩
theorem bookK_ints {as : List (Addr × (Addr × Nd))} {zs : ZN} (h : as.map (·.2) = zs) : (bookK as).map (·.1) = ((nds zs).map (·.num)).map (Sum.inl : Int → Key) := bookK_keys h
theorem rows_filter {es : ZR} {t u : List Nd} {ns : List Int} (h : rows es = ns.map (TW.rowOf t u)) : rows (es.filter fun e => !decide (e.2.o = e.2.n)) = (ns.map (TW.rowOf t u)).filter fun r => decide (r.o ≠ r.n) := by
  rw [← h]
  unfold rows
  rw [List.filter_map]
  congr 1
  apply List.filter_congr
  intro e _
  show (!decide (e.2.o = e.2.n)) = decide (e.2.o ≠ e.2.n)
  by_cases z : e.2.o = e.2.n <;> simp [z]
theorem nums_find {t : List Nd} {k : Int} (h : TW.findN t k ≠ none) : k ∈ t.map (·.num) := by
  cases e : TW.findN t k with
  | none => exact absurd e h
  | some m =>
    obtain ⟨h1, h2⟩ := TW.findN_num e
    exact List.mem_map.mpr ⟨m, h1, h2⟩
end TK
set_option Elab.async false
set_option linter.all false
set_option maxRecDepth 100000
set_option maxHeartbeats 8000000
namespace TK
open PySem L2
noncomputable def top (i : Nat) : Stmt := PySem.Challenge.pw_treewatch_k20_changes.main.body.getD i (.Pass ⟨0, 0, 0, 0⟩)
noncomputable abbrev sByn : Stmt := top 4
noncomputable abbrev s_parts_by_number : Stmt := top 7
noncomputable abbrev s_unlike_entries : Stmt := top 8
noncomputable abbrev s_change_between : Stmt := top 9
noncomputable abbrev s_turned_back : Stmt := top 10
noncomputable abbrev s_joined : Stmt := top 11
noncomputable abbrev s_kind_of : Stmt := top 12
noncomputable abbrev s_counted : Stmt := top 13
noncomputable abbrev sCell : Stmt := top 15
noncomputable abbrev sPick : Stmt := top 16
noncomputable abbrev sBuild : Stmt := top 17
noncomputable abbrev sBook : Stmt := top 18
noncomputable abbrev sUnder : Stmt := top 20
noncomputable abbrev sLDone : Stmt := top 21
noncomputable abbrev sDeed : Stmt := top 22
noncomputable abbrev sFur : Stmt := top 23
noncomputable abbrev s_law_between : Stmt := top 24
noncomputable abbrev s_law_counts : Stmt := top 25
noncomputable abbrev sLaw : Stmt := top 26
structure Txt (mg : Str → Option Value) : Prop where
  isin : mg "isinstance" = none
  dict : mg "dict" = none
  len : mg "len" = none
  tuple : mg "tuple" = none
  list : mg "list" = none
  range : mg "range" = none
  sorted : mg "sorted" = none
  reversed : mg "reversed" = none
  ValueError : mg "ValueError" = none
  str : mg "str" = none
  set : mg "set" = none
  max : mg "max" = none
  min : mg "min" = none
  sum : mg "sum" = none
  zip : mg "zip" = none
  enumerate : mg "enumerate" = none
  all : mg "all" = none
  int : mg "int" = none
  bool : mg "bool" = none
end TK
set_option Elab.async false
set_option linter.all false
set_option maxRecDepth 100000
set_option maxHeartbeats 8000000
namespace TK
open PySem L2
section
variable {P : Program} {w : World} {K : PySem.W.Frag} {mg : Str → Option Value} {base : Heap}
noncomputable def spPart : Sp := fun vs H Q _ => ∃ t zs, vs = [.ref t] ∧ Tre H t zs ∧ ∀ d as H', Same H H' → H d = none → Book H' d as zs → H' d = some (.dK (bookK as)) → Q (.ref d) H'
theorem scPart : FnScope ["tree"] ["tree"] (defScope s_parts_by_number) := ⟨rfl, rfl, rfl, by decide +kernel, rfl, by decide +kernel, by decide +kernel⟩
theorem ok_part {f : Addr} {fd : FuncData} (F : Fun K "parts_by_number" "parts_by_number" s_parts_by_number f fd) (T : Txt mg) : FnOk P w K mg base CX0 1 f fd ["tree"] spPart := by
  refine F.ok scPart (fun vs H Q E h => ?_) (fun cdv A outer s H vs Q E hr h => ?_)
  · obtain ⟨t, zs, rfl, _⟩ := h
    rfl
  · obtain ⟨t, zs, rfl, tr, k⟩ := h
    have hnd := nums_nd tr.tr
    have hl := tr.len
    have ht := tr.tup
    have hA := tr.nod
    refine ⟨_, pss_one (ps_ret (pe_callTy (call_dictKm rfl) rfl T.dict PyProof.Rows.boot_dict (pa_cons (pe_lc (N := ["node"]) (k := 1) (js := []) (g := gName 0) rfl (lc_ok0 rfl (by decide +kernel) (by decide +kernel) (by decide +kernel)) rfl (fun i j x h => by simp at h)
      (pi_tup (pv 0)) (fun s H fp => pg_name (i := 0) (show (["node"] : List Str).Nodup by decide +kernel) rfl (Or.inl rfl) (Or.inr rfl))
      (fun s H fp => pe_tup (pa_cons (pe_ix (r := rIxT K) ix_tup (pv 0) pe_int (fun _ _ => rfl)) (pa_cons (pe_slice (r := rSlT K) sl_tup (pv 0) (po_some pe_int) po_none) pa_nil)))) pa_nil))), ?_⟩
    refine ⟨_, rfl, t, rfl, ⟨_, SqT.of ht⟩, fun p hp => ?_⟩
    refine lc_map (fr := []) zs.length (by omega) hp rfl (fun i y H' => ∃ q t' z, zs[i]? = some z ∧ y = .ref q ∧ q ≠ p ∧ t' ≠ p ∧ H' q = some (.tup [.int z.2.num, .ref t']) ∧ H' t' = some (.tup (rest3 z.2))) (fun i y H1 H2 h ex => ?_) (fun i H' hi s1 => ?_) (fun H' s1 => ?_) ?_ (fun i H' x H2 hi s1 hpl hy => ?_) (fun ys H' s1 hp' hlen hys => ?_)
    · obtain ⟨q, t', z, e1, e2, e3, e4, e5, e6⟩ := h
      exact ⟨q, t', z, e1, e2, e3, e4, ex q _ e3 e5, ex t' _ e4 e6⟩
    · exact ⟨_, _, SqT.of (s1 _ _ ht), get_refs (List.getElem?_eq_getElem hi)⟩
    · exact ⟨_, SqT.of (s1 _ _ ht), by rw [refs_len]; exact Nat.le_refl _⟩
    · rintro _ _ _ _ m ⟨v1, b1, p1, xs, i1, v2, c1, c2, c3, c4, v3, b3, i3, d0, a3, xs3, d1, d2, d3, q⟩
      refine ⟨v1, b1, p1, xs, i1, v2, c1, c2, c3, c4, v3, b3, i3, d0, a3, xs3, d1, d2, d3, fun l hl => ?_⟩
      obtain ⟨hz', q'⟩ := q l hl
      exact ⟨hz', fun l' hl' => m _ _ (q' l' hl')⟩
    · obtain ⟨rfl, hx⟩ := hy
      obtain ⟨z, gz, rfl⟩ := refs_get (hx _ (SqT.of (s1 _ _ ht)))
      have mz := List.mem_of_getElem? gz
      have hz1 := s1 _ _ (hA z mz)
      have ecut : cutV (vals z.2) (some 1) none = rest3 z.2 := rfl
      refine ⟨rfl, _, rfl, z.1, _, _, _, rfl, rfl, SqT.of hz1, at0 z.2, _, rfl, _, rfl, z.1, _, rfl, SqT.of hz1, (by intro h; exact absurd h.1 (show ¬ HT.sIx 4 0 (some 1) = 0 by decide)), fun t' ht' => ?_⟩
      rw [ecut]
      have s2 := same_upd (o := .tup (rest3 z.2)) ht'
      have hpl2 : ∃ ys, upd H2 t' (.tup (rest3 z.2)) p = some (.lst ys) := let ⟨ys, e⟩ := hpl; ⟨ys, s2 _ _ e⟩
      refine ⟨le2, fun q hq => ⟨s2.trans (same_upd hq), q, t', z, gz, rfl, new_ne hpl2 hq, new_ne hpl ht', upd_same, upd_keep hq upd_same⟩⟩
    · obtain ⟨as, e1, e2, e3⟩ : ∃ as : List ((Addr × Addr) × (Addr × Nd)), as.map (·.2) = zs ∧ ys = (as.map (·.1.1)).map V.ref ∧ ∀ a ∈ as, H' a.1.1 = some (.tup [.int a.2.2.num, .ref a.1.2]) ∧ H' a.1.2 = some (.tup (rest3 a.2.2)) := by
        clear hp'
        have main : ∀ (ys : List V) (xs : ZN), ys.length = xs.length → (∀ (i : Nat) y, ys[i]? = some y → ∃ q t' z, xs[i]? = some z ∧ y = .ref q ∧ q ≠ p ∧ t' ≠ p ∧ H' q = some (.tup [.int z.2.num, .ref t']) ∧ H' t' = some (.tup (rest3 z.2))) →
            ∃ as : List ((Addr × Addr) × (Addr × Nd)), as.map (·.2) = xs ∧ ys = (as.map (·.1.1)).map V.ref ∧ ∀ a ∈ as, H' a.1.1 = some (.tup [.int a.2.2.num, .ref a.1.2]) ∧ H' a.1.2 = some (.tup (rest3 a.2.2)) := by
          intro ys
          induction ys with
          | nil =>
            intro xs hl _
            have : xs = [] := List.length_eq_zero_iff.mp hl.symm
            subst this
            exact ⟨[], rfl, rfl, by simp⟩
          | cons y ys ih =>
            intro xs hl h
            cases xs with
            | nil => simp at hl
            | cons x xs =>
              obtain ⟨as, e1, e2, e3⟩ := ih xs (by simpa using hl) fun i y hy => by simpa using h (i + 1) y (by simpa using hy)
              obtain ⟨q, t', z, f1, f2, f3, f4, f5, f6⟩ := h 0 y rfl
              have : x = z := by simpa using f1
              subst this
              refine ⟨((q, t'), x) :: as, by simp [e1], by simp [e2, f2], fun a ha => ?_⟩
              rcases List.mem_cons.mp ha with rfl | ha
              · exact ⟨f5, f6⟩
              · exact e3 a ha
        exact main ys zs hlen hys
      have hal : as.length = zs.length := by rw [← e1, List.length_map]
      refine ⟨p, as.map fun a => (a.1.1, (Sum.inl a.2.2.num : Key), V.ref a.1.2), rfl, ?_, ?_, ?_, ?_, fun d hd => ?_⟩
      · rw [hp', e2, List.map_map, List.map_map, List.map_map]; rfl
      · intro z hz
        obtain ⟨a, ha, rfl⟩ := List.mem_map.mp hz
        exact (e3 a ha).1
      · rw [List.length_map]; omega
      · rw [List.map_map]
        have : (as.map ((fun x : Addr × Key × V => x.2.1) ∘ fun a => (a.1.1, (Sum.inl a.2.2.num : Key), V.ref a.1.2))) = ((nds zs).map (·.num)).map (Sum.inl : Int → Key) := by
          rw [← e1]; unfold nds; simp only [List.map_map]; rfl
        rw [this]
        unfold List.Nodup at hnd ⊢
        rw [List.pairwise_map]
        exact hnd.imp fun h e => h (by injection e)
      · have sd := same_upd (o := .dK ((as.map fun a => (a.1.1, (Sum.inl a.2.2.num : Key), V.ref a.1.2)).map (·.2))) hd
        have ed : upd H' d (.dK ((as.map fun a => (a.1.1, (Sum.inl a.2.2.num : Key), V.ref a.1.2)).map (·.2))) d = some (.dK (bookK (as.map fun a => (a.1.2, a.2)))) := by
          rw [upd_same]
          refine congrArg (fun x => some (HO.dK x)) ?_
          unfold bookK
          simp only [List.map_map]; rfl
        refine k d (as.map fun a => (a.1.2, a.2)) _ (s1.trans sd) (s1.free hd) ⟨.inl ed, by rw [List.map_map]; exact e1, fun a ha => ?_⟩ ed
        obtain ⟨b, hb, rfl⟩ := List.mem_map.mp ha
        exact sd _ _ (e3 b hb).2
noncomputable def unl (e : Addr × Row) : Bool := !decide (e.2.o = e.2.n)
noncomputable def spUnl : Sp := fun vs H Q _ => ∃ l es, vs = [.ref l] ∧ H l = some (.lst (rrefs es)) ∧ (∀ e ∈ es, RowAt H e.1 e.2) ∧ es.length ≤ 60 ∧ ∀ c H', Same H H' → ChgAt H' c (es.filter unl) → Q (.ref c) H'
theorem scUnl : FnScope ["entries"] ["entries"] (defScope s_unlike_entries) := ⟨rfl, rfl, rfl, by decide +kernel, rfl, by decide +kernel, by decide +kernel⟩
theorem ok_unl {f : Addr} {fd : FuncData} (F : Fun K "unlike_entries" "unlike_entries" s_unlike_entries f fd) (T : Txt mg) : FnOk P w K mg base CX0 1 f fd ["entries"] spUnl := by
  refine F.ok scUnl (fun vs H Q E h => ?_) (fun cdv A outer s H vs Q E hr h => ?_)
  · obtain ⟨l, es, rfl, _⟩ := h
    rfl
  · obtain ⟨l, es, rfl, hl, he, hn, k⟩ := h
    refine ⟨_, pss_one (ps_ret (pe_callTy call_tuple_of rfl T.tuple rfl (pa_cons (pe_lc1 (N := ["entry"]) (cl := []) (k := 1) (js := []) (g := gName 0) rfl (lc_ok0 rfl (by decide +kernel) (by decide +kernel) (by decide +kernel)) rfl (fun i j x h => by simp at h)
      (pi_list (pv 0)) (fun s H fp => pg_name (i := 0) (show (["entry"] : List Str).Nodup by decide +kernel) rfl (Or.inl rfl) (Or.inr rfl))
      (fun s H fp => pt_cmpR (op_neO (hu_of hr)) (pe_ix (r := rIxT K) ix_tup (pv 0) pe_int (fun _ _ => rfl)) (pe_ix (r := rIxT K) ix_tup (pv 0) pe_int (fun _ _ => rfl)) (nomark _)) (fun s H fp => pv 0)) pa_nil))), ?_⟩
    refine ⟨_, rfl, l, rfl, ⟨_, SqL.of hl⟩, fun p hp => ?_⟩
    refine lc_sel (fr := []) es (fun e => V.ref e.1) (by omega) hp (src_lst (SqL.of hl)) rfl unl (fun e y _ => y = .ref e.1) (fun e y H H' h _ => h) (fun e H' k' me s1 _ hk => ?_) (fun e H' k' me _ s1 _ hk => ⟨_, rfl, hk _ H' (Same.refl _) rfl⟩) (fun ys H' s1 hp' hys => ?_)
    · obtain ⟨⟨vo, vn, h1, h2, h3⟩, ok⟩ := (he e me).same s1
      refine ⟨_, rfl, e.1, _, _, _, rfl, rfl, SqT.of h1, rfl, _, rfl, e.1, _, _, _, rfl, rfl, SqT.of h1, rfl, _, _, h2.ot, h3.ot, _, rfl, ?_⟩
      have eb : (!decide (e.2.o.map rest3 = e.2.n.map rest3)) = unl e := by
        unfold unl
        have := ok.eq
        by_cases z : e.2.o = e.2.n
        · rw [decide_eq_true (this.mpr z), decide_eq_true z]
        · rw [decide_eq_false (fun q => z (this.mp q)), decide_eq_false z]
      rw [eb]
      exact hk H' (Same.refl _)
    · have ey := paired_map (f := fun e : Addr × Row => V.ref e.1) hys (fun e y _ h => h)
      refine ⟨p, _, rfl, .inl ⟨SqL.of hp', fun c hc => ?_⟩⟩
      have s2 := s1.trans (same_upd (o := .tup ys) hc)
      exact k c _ s2 ⟨by rw [upd_same, ey]; rfl, fun e me => (he e (List.mem_filter.mp me).1).same s2, Nat.le_trans (List.length_filter_le _ _) hn⟩
end
end TK
set_option Elab.async false
set_option linter.all false
set_option maxRecDepth 100000
set_option maxHeartbeats 4000000
namespace L2
open PySem PySem.Spec PyProof.Rows
section
variable {X : Cx}
theorem op_eqT (hu : X.A.units + 1 < cLine) : OpR X (compareOp .Eq) (fun x y H Q => ∃ a b xs ys, x = .ref a ∧ y = .ref b ∧ H a = some (.tup xs) ∧ H b = some (.tup ys) ∧ (∀ v ∈ xs, flat2 v = true) ∧ (∀ v ∈ ys, flat2 v = true) ∧ Q (.bl (decide (xs = ys))) H) := by
  intro pins s σ H x y v u Q I rx ry h
  obtain ⟨a, b, xs, ys, rfl, rfl, ha, hb, fx, fy, q⟩ := h
  have hu0 : X.A.units < cLine := by omega
  cases rx
  cases ry
  obtain ⟨_, us, r1, t1⟩ := I.hok a _ ha
  obtain ⟨_, ws, r2, t2⟩ := I.hok b _ hb
  have l1 := r1.length
  have l2 := r2.length
  refine SeqAt.eq_tupleAt (e := fun i => decide (xs.getD i .non = ys.getD i .non)) t1 t2 hu0 (fun j h1 h2 => ?_) ⟨.bl _, H, I, rfl, ?_⟩
  · have h1' : j < xs.length := by rw [l1]; simpa using h1
    have h2' : j < ys.length := by rw [l2]; simpa using h2
    obtain ⟨u', hu1, hu2⟩ := r1.get (List.getElem?_eq_getElem h1')
    obtain ⟨v', hv1, hv2⟩ := r2.get (List.getElem?_eq_getElem h2')
    have e1 : us.toArray[j] = u' := by
      have : us[j]? = some us.toArray[j] := by rw [List.getElem?_eq_getElem (by simpa using h1)]; simp
      rw [hu1] at this
      exact (Option.some.inj this).symm
    have e2 : ws.toArray[j] = v' := by
      have : ws[j]? = some ws.toArray[j] := by rw [List.getElem?_eq_getElem (by simpa using h2)]; simp
      rw [hv1] at this
      exact (Option.some.inj this).symm
    rw [e1, e2, List.getD_eq_getElem?_getD, List.getD_eq_getElem?_getD, List.getElem?_eq_getElem h1', List.getElem?_eq_getElem h2']
    have f1 := fx _ (List.getElem_mem h1')
    have f2 := fy _ (List.getElem_mem h2')
    show SeqAt.EqAt _ _ _ _ (decide (xs[j] = ys[j]))
    rw [← flat2_eq f1 f2]
    exact eqAt_V hu2 hv2 (flat2_flat f1) (flat2_flat f2)
  · have e : ((List.range (min us.toArray.size ws.toArray.size)).all (fun i => decide (xs.getD i .non = ys.getD i .non)) && us.toArray.size == ws.toArray.size) = decide (xs = ys) := by
      simp only [List.size_toArray, ← l1, ← l2]
      by_cases hl : xs.length = ys.length
      · rw [← hl, Nat.min_self, all_eq hl]
        simp
      · have : (xs.length == ys.length) = false := by simpa using hl
        rw [this, Bool.and_false]
        exact (decide_eq_false fun e => hl (by rw [e])).symm
    rw [e]
    exact q
theorem vals_str : ∀ {xs : List Str} {us : List Value}, Vals (xs.map V.str) us → ∃ ts : List Tok, us = (xs.zip ts).map (fun z => Value.str z.1 z.2) ∧ ts.length = xs.length
  | [], _, .nil => ⟨[], rfl, rfl⟩
  | x :: xs, _, .cons ⟨t, e⟩ r => by
    obtain ⟨ts, e1, e2⟩ := vals_str r
    subst e
    exact ⟨t :: ts, by rw [e1]; rfl, by rw [List.length_cons, e2, List.length_cons]⟩
theorem mt_countS : MtM X "list.count" (fun x vs H Q => ∃ l, ∃ xs : List Str, ∃ y, x = .ref l ∧ vs = [.str y] ∧ H l = some (.lst (xs.map V.str)) ∧ Q (.int (xs.count y : Nat)) H) := by
  intro pins s σ H x vs v us Q I rx rv h
  obtain ⟨l, xs, y, rfl, rfl, hl, q⟩ := h
  cases rx
  obtain ⟨u, rfl, ru⟩ := vals1 rv
  obtain ⟨t, rfl⟩ := ru
  obtain ⟨_, its, n, r, ho⟩ := I.hok l _ hl
  obtain ⟨ts, e, hts⟩ := vals_str r
  let eq : Value → Bool := fun z => match z with | .str a _ => decide (a = y) | _ => false
  refine call_meets PySem.F.slot_list_count ⟨_, ho, rfl⟩ PySem.F.entry_list_count (PySem.F.args_list_count_2 _ _) (SeqAt.list_countAt l _ n none #[] (.str y t) eq) ⟨ho, fun z hz => ?_, ⟨.int (xs.count y : Nat), H, I.tok _, ?_, q⟩⟩
  · have hz' : z ∈ its := by simpa using hz
    rw [e] at hz'
    obtain ⟨p, _, rfl⟩ := List.mem_map.mp hz'
    show SeqAt.EqAt _ _ (.str p.1 p.2) (.str y t) (decide (p.1 = y))
    intro prog w E Q h
    exact wpAny_eqBool_str h
  · have : (its.toArray.toList.countP eq) = xs.count y := by
      have key : ∀ (xs : List Str) (ts : List Tok), ts.length = xs.length → (((xs.zip ts).map fun z => Value.str z.1 z.2).countP eq) = xs.count y := by
        intro xs
        induction xs with
        | nil => intro ts _; simp
        | cons a xs ih =>
          intro ts hl
          cases ts with
          | nil => simp at hl
          | cons t ts =>
            have := ih ts (by simpa using hl)
            rw [List.zip_cons_cons, List.map_cons, List.countP_cons, this, List.count_cons]
            congr 1
      rw [e]
      exact key xs ts hts
    rw [this]
    exact ⟨_, rfl⟩
end
end L2
set_option Elab.async false
set_option linter.all false
set_option maxRecDepth 100000
set_option maxHeartbeats 8000000
namespace TK
open PySem L2
theorem three_of {σ : St} (h : σ.length = 3) : ∃ a b c, σ = [a, b, c] := by
  cases σ with
  | nil => cases h
  | cons a σ => cases σ with
    | nil => cases h
    | cons b σ => cases σ with
      | nil => cases h
      | cons c σ => cases σ with
        | nil => exact ⟨a, b, c, rfl⟩
        | cons d σ => cases h
section
variable {P : Program} {w : World} {K : PySem.W.Frag} {mg : Str → Option Value} {base : Heap}
noncomputable def spTb : Sp := fun vs H Q _ => ∃ c es, vs = [.ref c] ∧ ChgAt H c es ∧ ∀ c' es' H', Same H H' → ChgAt H' c' es' → rows es' = (rows es).map TW.Row.swap → Q (.ref c') H'
theorem scTb : FnScope ["change"] ["change"] (defScope s_turned_back) := ⟨rfl, rfl, rfl, by decide +kernel, rfl, by decide +kernel, by decide +kernel⟩
theorem ok_tb {f : Addr} {fd : FuncData} (F : Fun K "turned_back" "turned_back" s_turned_back f fd) (T : Txt mg) : FnOk P w K mg base CX0 1 f fd ["change"] spTb := by
  refine F.ok scTb (fun vs H Q E h => ?_) (fun cdv A outer s H vs Q E hr h => ?_)
  · obtain ⟨c, es, rfl, _⟩ := h
    rfl
  · obtain ⟨c, es, rfl, hc, q⟩ := h
    have hlen := hc.len
    refine ⟨_, pss_one (ps_ret (pe_callTy call_tuple_of rfl T.tuple rfl (pa_cons (pe_lc (N := ["number", "old", "new"]) (cl := []) (k := 3) (js := []) (g := gTup K 3 (gCons (gName 0) (gCons (gName 1) (gCons (gName 2) gNil)))) rfl (lc_ok0 rfl (by decide +kernel) (by decide +kernel) (by decide +kernel)) rfl (fun i j x h => by simp at h)
      (pi_tup (pv 0))
      (fun s H fp => pg_tup (n := 3) rfl (pgs_cons (pg_name (i := 0) (show (["number", "old", "new"] : List Str).Nodup by decide +kernel) rfl (Or.inl rfl) (Or.inr rfl)) (pgs_cons (pg_name (i := 1) (show (["number", "old", "new"] : List Str).Nodup by decide +kernel) rfl (Or.inl rfl) (Or.inr rfl)) (pgs_cons (pg_name (i := 2) (show (["number", "old", "new"] : List Str).Nodup by decide +kernel) rfl (Or.inl rfl) (Or.inr rfl)) pgs_nil))))
      (fun s H fp => pe_tup (pa_cons (pv 0) (pa_cons (pv 2) (pa_cons (pv 1) pa_nil))))) pa_nil))), ?_⟩
    refine ⟨_, rfl, c, rfl, ⟨_, SqT.of hc.tup⟩, fun p hp => ?_⟩
    refine lc_eachG (fr := []) es (fun e => V.ref e.1) (by omega) hp (src_tup (SqT.of hc.tup)) ⟨_, rfl, rfl⟩ (fun e y H' => ∃ q vo vn, y = .ref q ∧ q ≠ p ∧ H' q = some (.tup [.int e.2.k, vn, vo]) ∧ OptV H' vo e.2.o ∧ OptV H' vn e.2.n ∧ vo ≠ .ref p ∧ vn ≠ .ref p) (fun e y H H' h ex => ?_) (fun e σ0 H' kk hσ me s1 hpl hk => ?_) (fun ys H' s1 hp' hys => ?_)
    · obtain ⟨q, vo, vn, e1, ne, h1, h2, h3, n1, n2⟩ := h
      have ov : ∀ {v : V} {o : Option Nd}, v ≠ .ref p → OptV H v o → OptV H' v o := fun hv h => by
        rcases h with h | ⟨q, n, e, h, e2⟩
        · exact .inl h
        · exact .inr ⟨q, n, e, ex q _ (fun z => hv (by rw [e, z])) h, e2⟩
      exact ⟨q, vo, vn, e1, ne, ex q _ ne h1, ov n1 h2, ov n2 h3, n1, n2⟩
    · obtain ⟨x0, x1, x2, rfl⟩ := three_of hσ
      obtain ⟨⟨vo, vn, h1, h2, h3⟩, _⟩ := (hc.at' e me).same s1
      have np : ∀ {v : V} {o : Option Nd}, OptV H' v o → v ≠ .ref p := fun h e => by
        rcases h with ⟨h, _⟩ | ⟨q, n, e2, h, _⟩
        · rw [h] at e; cases e
        · rw [e2] at e
          injection e with e
          obtain ⟨ys, hy⟩ := hpl
          rw [e, hy] at h
          cases h
      refine ⟨e.1, _, rfl, SqT.of h1, rfl, _, _, rfl, _, _, rfl, _, _, rfl, rfl, ?_⟩
      refine ⟨_, rfl, _, rfl, _, rfl, (show 3 ≤ sizeLine from le_line (by decide)), fun q hq => ?_⟩
      have s2 := same_upd (o := .tup [.int e.2.k, vn, vo]) hq
      exact hk _ _ _ ⟨[some (.int e.2.k), some vo, some vn], rfl, rfl⟩ s2 ⟨q, vo, vn, rfl, new_ne hpl hq, upd_same, h2.same s2, h3.same s2, np h2, np h3⟩
    · obtain ⟨cs, e1, e2, e3⟩ := paired_ex (val := V.ref) (S := fun (e : Addr × Row) (q : Addr) => ∃ vo vn, H' q = some (.tup [.int e.2.k, vn, vo]) ∧ OptV H' vo e.2.o ∧ OptV H' vn e.2.n) hys (fun e y _ ⟨q, vo, vn, e, _, h1, h2, h3, _⟩ => ⟨q, e, vo, vn, h1, h2, h3⟩)
      refine ⟨p, _, rfl, .inl ⟨SqL.of hp', fun c' hc' => ?_⟩⟩
      have s2 := same_upd (o := .tup ys) hc'
      have hcl : cs.length = es.length := by rw [← e1, List.length_map]
      refine q c' (cs.map fun x => (x.2, x.1.2.swap)) _ (s1.trans s2) ⟨by rw [upd_same, e2]; unfold rrefs; rw [List.map_map]; rfl, fun e he => ?_, by rw [List.length_map]; omega⟩ ?_
      · obtain ⟨x, hx, rfl⟩ := List.mem_map.mp he
        obtain ⟨vo, vn, h1, h2, h3⟩ := e3 x hx
        have mx : x.1 ∈ es := by rw [← e1]; exact List.mem_map.mpr ⟨x, hx, rfl⟩
        have ok := (hc.at' x.1 mx).ok
        exact ⟨⟨vn, vo, s2 _ _ h1, h3.same s2, h2.same s2⟩, ⟨ok.2, ok.1⟩⟩
      · unfold rows
        rw [List.map_map, ← e1, List.map_map, List.map_map]
        rfl
noncomputable def kindS (o n : Option Nd) : Str := match o, n with
  | none, _ => "made"
  | some _, none => "gone"
  | some a, some b => if a.par = b.par ∧ a.nm = b.nm then "written" else if a.st = b.st then "moved" else "moved and written"
noncomputable def spKind : Sp := fun vs H Q _ => ∃ vo vn o n, vs = [vo, vn] ∧ OptV H vo o ∧ OptV H vn n ∧ ∀ H', Same H H' → Q (.str (kindS o n)) H'
theorem scKind : FnScope ["old", "new"] ["old", "new"] (defScope s_kind_of) := ⟨rfl, rfl, rfl, by decide +kernel, rfl, by decide +kernel, by decide +kernel⟩
theorem ok_kind {f : Addr} {fd : FuncData} (F : Fun K "kind_of" "kind_of" s_kind_of f fd) : FnOk P w K mg base CX0 1 f fd ["old", "new"] spKind := by
  refine F.ok scKind (fun vs H Q E h => ?_) (fun cdv A outer s H vs Q E hr h => ?_)
  · obtain ⟨vo, vn, o, n, rfl, _⟩ := h
    rfl
  · obtain ⟨vo, vn, o, n, rfl, ho, hn, q⟩ := h
    refine ⟨_, pss_cons (ps_if (pt_cmpR op_isN (pv 0) pe_non (nomark _)) (pss_one (ps_ret pe_str)) pss_nil)
      (pss_cons (ps_if (pt_cmpR op_isN (pv 1) pe_non (nomark _)) (pss_one (ps_ret pe_str)) pss_nil)
      (pss_cons (ps_if (pt_cmpR (op_eqT (hu_of hr)) (pe_slice sl_tup (pv 0) po_none (po_some pe_int)) (pe_slice sl_tup (pv 1) po_none (po_some pe_int)) (nomark _)) (pss_one (ps_ret pe_str)) pss_nil)
      (pss_cons (ps_if (pt_cmpR op_eq (pe_ix ix_tup (pv 0) pe_int (fun _ _ => rfl)) (pe_ix ix_tup (pv 1) pe_int (fun _ _ => rfl)) (nomark _)) (pss_one (ps_ret pe_str)) pss_nil)
      (pss_one (ps_ret pe_str))))), ?_⟩
    rcases ho with ⟨rfl, rfl⟩ | ⟨qa, a, rfl, ha, rfl⟩
    · exact ⟨_, rfl, rfl, _, rfl, iteT (q H (Same.refl _))⟩
    · refine ⟨_, rfl, rfl, _, rfl, iteF ?_⟩
      rcases hn with ⟨rfl, rfl⟩ | ⟨qb, b, rfl, hb, rfl⟩
      · exact ⟨_, rfl, rfl, _, rfl, iteT (q H (Same.refl _))⟩
      · refine ⟨_, rfl, rfl, _, rfl, iteF ?_⟩
        have ea : cutV (rest3 a) none (some 2) = [.int a.par, .str a.nm] := rfl
        have eb : cutV (rest3 b) none (some 2) = [.int b.par, .str b.nm] := rfl
        refine ⟨_, rfl, _, rfl, qa, _, rfl, SqT.of ha, (fun h => absurd h.2 (show ¬ HT.sIx 3 3 (some 2) = 3 by decide)), fun c1 hc1 => ?_⟩
        rw [ea]
        have s1 := same_upd (o := .tup [.int a.par, .str a.nm]) hc1
        have g1 : upd H c1 (.tup [.int a.par, .str a.nm]) c1 = some (.tup [.int a.par, .str a.nm]) := upd_same
        generalize upd H c1 (.tup [.int a.par, .str a.nm]) = H1 at s1 g1 ⊢
        refine ⟨_, rfl, _, rfl, qb, _, rfl, SqT.of (s1 _ _ hb), (fun h => absurd h.2 (show ¬ HT.sIx 3 3 (some 2) = 3 by decide)), fun c2 hc2 => ?_⟩
        rw [eb]
        have s2 := s1.trans (same_upd (o := .tup [.int b.par, .str b.nm]) hc2)
        have g2 : upd H1 c2 (.tup [.int b.par, .str b.nm]) c2 = some (.tup [.int b.par, .str b.nm]) := upd_same
        have g1' : upd H1 c2 (.tup [.int b.par, .str b.nm]) c1 = some (.tup [.int a.par, .str a.nm]) := upd_keep hc2 g1
        generalize upd H1 c2 (.tup [.int b.par, .str b.nm]) = H2 at s2 g2 g1' ⊢
        have fl : ∀ n : Nd, ∀ v ∈ [V.int n.par, .str n.nm], flat2 v = true := fun n v hv => by
          simp only [List.mem_cons, List.not_mem_nil, or_false] at hv
          rcases hv with rfl | rfl <;> rfl
        refine ⟨c1, c2, _, _, rfl, rfl, g1', g2, fl a, fl b, _, rfl, ?_⟩
        by_cases h1 : a.par = b.par ∧ a.nm = b.nm
        · have e1 : decide ([V.int a.par, .str a.nm] = [V.int b.par, .str b.nm]) = true := by rw [h1.1, h1.2]; simp
          rw [e1]
          have hq := q H2 s2
          have e2 : kindS (some a) (some b) = "written" := by
            show (if a.par = b.par ∧ a.nm = b.nm then ("written" : Str) else if a.st = b.st then "moved" else "moved and written") = _
            rw [if_pos h1]
          rw [e2] at hq
          exact iteT hq
        · have e1 : decide ([V.int a.par, .str a.nm] = [V.int b.par, .str b.nm]) = false := by
            refine decide_eq_false fun e => h1 ?_
            simp only [List.cons.injEq, V.int.injEq, V.str.injEq, and_true] at e
            exact e
          rw [e1]
          have e2 : kindS (some a) (some b) = if a.st = b.st then ("moved" : Str) else ("moved and written" : Str) := by
            show (if a.par = b.par ∧ a.nm = b.nm then ("written" : Str) else if a.st = b.st then "moved" else "moved and written") = _
            rw [if_neg h1]
          refine iteF ⟨_, rfl, qa, _, _, _, rfl, rfl, SqT.of (s2 _ _ ha), r3_2 a, _, rfl, qb, _, _, _, rfl, rfl, SqT.of (s2 _ _ hb), r3_2 b, ?_, _, rfl, ?_⟩
          · cases a.st <;> cases b.st <;> rfl
          · have hq := q H2 s2
            rw [e2] at hq
            by_cases h2 : a.st = b.st
            · have e3 : decide (stV a.st = stV b.st) = true := by rw [h2]; simp
              rw [e3]
              rw [if_pos h2] at hq
              exact iteT hq
            · have e3 : decide (stV a.st = stV b.st) = false := by
                refine decide_eq_false fun e => h2 ?_
                cases ha' : a.st <;> cases hb' : b.st <;> rw [ha', hb'] at e <;> simp_all [stV]
              rw [e3]
              rw [if_neg h2] at hq
              exact iteF hq
end
end TK
set_option Elab.async false
set_option linter.all false
set_option maxRecDepth 100000
set_option maxHeartbeats 8000000
namespace TK
open PySem L2
noncomputable def chgK (es : ZR) : List (Key × V) := es.map fun e => ((Sum.inl e.2.k : Key), V.ref e.1)
section
variable {P : Program} {w : World} {K : PySem.W.Frag} {mg : Str → Option Value} {base : Heap}
noncomputable def spBynC : Sp := fun vs H Q _ => ∃ c es, vs = [.ref c] ∧ ChgAt H c es ∧ (es.map (·.2.k)).Nodup ∧ ∀ d H', Same H H' → H d = none → H' d = some (.dK (chgK es)) → Q (.ref d) H'
theorem scBynC : FnScope ["tree"] ["tree"] (defScope sByn) := ⟨rfl, rfl, rfl, by decide +kernel, rfl, by decide +kernel, by decide +kernel⟩
theorem ok_bynC {f : Addr} {fd : FuncData} (F : Fun K "by_number" "by_number" sByn f fd) (T : Txt mg) : FnOk P w K mg base CX0 1 f fd ["tree"] spBynC := by
  refine F.ok scBynC (fun vs H Q E h => ?_) (fun cdv A outer s H vs Q E hr h => ?_)
  · obtain ⟨c, es, rfl, _⟩ := h
    rfl
  · obtain ⟨c, es, rfl, hc, hnd, q⟩ := h
    have hlen := hc.len
    refine ⟨_, pss_one (ps_ret (pe_callTy (call_dictKm rfl) rfl T.dict PyProof.Rows.boot_dict (pa_cons (pe_lc (N := ["node"]) (k := 1) (js := []) (g := gName 0) rfl (lc_ok0 rfl (by decide +kernel) (by decide +kernel) (by decide +kernel)) rfl (fun i j x h => by simp at h)
      (pi_tup (pv 0)) (fun s H fp => pg_name (i := 0) (show (["node"] : List Str).Nodup by decide +kernel) rfl (Or.inl rfl) (Or.inr rfl))
      (fun s H fp => pe_tup (pa_cons (pe_ix (r := rIxT K) ix_tup (pv 0) pe_int (fun _ _ => rfl)) (pa_cons (pv 0) pa_nil)))) pa_nil))), ?_⟩
    refine ⟨_, rfl, c, rfl, ⟨_, SqT.of hc.tup⟩, fun p hp => ?_⟩
    refine lc_each (fr := []) es (fun e => V.ref e.1) (by omega) hp (src_tup (SqT.of hc.tup)) rfl (fun e y H' => ∃ q, y = .ref q ∧ q ≠ p ∧ H' q = some (.tup [.int e.2.k, .ref e.1])) (fun e y H H' ⟨q, e1, ne, h⟩ ex => ⟨q, e1, ne, ex q _ ne h⟩) (fun e H' kk me s1 hpl hk => ?_) (fun ys H' s1 hp' hys => ?_)
    · obtain ⟨⟨vo, vn, h1, _, _⟩, _⟩ := (hc.at' e me).same s1
      refine ⟨_, rfl, e.1, _, _, _, rfl, rfl, SqT.of h1, rfl, _, rfl, le2, fun q hq => ?_⟩
      exact hk _ _ (same_upd hq) ⟨q, rfl, new_ne hpl hq, upd_same⟩
    · obtain ⟨cs, e1, e2, e3⟩ := paired_ex (val := V.ref) (S := fun (e : Addr × Row) (q : Addr) => H' q = some (.tup [.int e.2.k, .ref e.1])) hys (fun e y _ ⟨q, e, _, h⟩ => ⟨q, e, h⟩)
      have hcl : cs.length = es.length := by rw [← e1, List.length_map]
      have ek : (cs.map fun x => (x.2, (Sum.inl x.1.2.k : Key), V.ref x.1.1)).map (·.2) = chgK es := by
        unfold chgK
        rw [List.map_map, ← e1, List.map_map]; rfl
      refine ⟨p, cs.map fun x => (x.2, (Sum.inl x.1.2.k : Key), V.ref x.1.1), rfl, ?_, fun z hz => ?_, by rw [List.length_map]; omega, ?_, fun d hd => ?_⟩
      · rw [hp', e2, List.map_map, List.map_map]; rfl
      · obtain ⟨x, hx, rfl⟩ := List.mem_map.mp hz
        exact e3 x hx
      · have e4 : (cs.map fun x => (x.2, (Sum.inl x.1.2.k : Key), V.ref x.1.1)).map (·.2.1) = (es.map (·.2.k)).map (Sum.inl : Int → Key) := by
          rw [← e1]; simp only [List.map_map]; rfl
        rw [e4]
        unfold List.Nodup at hnd ⊢
        rw [List.pairwise_map]
        exact hnd.imp fun h e => h (by injection e)
      · rw [ek]
        exact q d _ (s1.trans (same_upd hd)) (s1.free hd) upd_same
end
theorem chgK_get {H : Hp} {d : Addr} {es : ZR} (hd : H d = some (.dK (chgK es))) (hn : (es.map (·.2.k)).Nodup) (k : Int) : (∃ e ∈ es, e.2.k = k ∧ DGet H d (.int k) (some (.ref e.1))) ∨ ((∀ e ∈ es, e.2.k ≠ k) ∧ DGet H d (.int k) none) := by
  have hb : ((es.map fun e => (e.1, (⟨e.2.k, 0, "", none⟩ : Nd))).map (·.2.num)).Nodup := by rw [List.map_map]; exact hn
  have hK : chgK es = bookN (es.map fun e => (e.1, (⟨e.2.k, 0, "", none⟩ : Nd))) := by unfold chgK bookN; rw [List.map_map]; rfl
  by_cases h : ∃ e ∈ es, e.2.k = k
  · obtain ⟨e, he, rfl⟩ := h
    refine .inl ⟨e, he, rfl, .inl ⟨chgK es, Sum.inl e.2.k, .inl hd, rfl, ?_⟩⟩
    rw [hK]
    exact (bookN_val hb (b := (e.1, ⟨e.2.k, 0, "", none⟩)) (List.mem_map.mpr ⟨e, he, rfl⟩)).symm
  · have h' : ∀ e ∈ es, e.2.k ≠ k := fun e he z => h ⟨e, he, z⟩
    refine .inr ⟨h', .inl ⟨chgK es, Sum.inl k, .inl hd, rfl, ?_⟩⟩
    symm
    refine valV_no fun hp => ?_
    unfold chgK at hp
    rw [List.map_map] at hp
    obtain ⟨e, he, z⟩ := List.mem_map.mp hp
    have z' : (Sum.inl e.2.k : Key) = Sum.inl k := z
    injection z' with z'
    exact h' e he z'
end TK
set_option Elab.async false
set_option linter.all false
set_option maxRecDepth 100000
set_option maxHeartbeats 8000000
namespace TK
open PySem L2
noncomputable def cbS (i : Nat) : Stmt := (defBody s_change_between).getD i (.Pass ⟨0, 0, 0, 0⟩)
noncomputable def CN : List Str := ["one", "other", "before", "after", "numbers"]
theorem scCb : FnScope CN ["one", "other"] (defScope s_change_between) := ⟨rfl, rfl, rfl, by decide +kernel, rfl, by decide +kernel, by decide +kernel⟩
noncomputable abbrev CbX (P : Program) (w : World) (K : PySem.W.Frag) (mg : Str → Option Value) (base : Heap) (f : Addr) (cdv : Value) (A : Around) (outer : List Env) (s : Shared) (H : Hp) (E : XK) : Cx := (cxOf CX0 P w K mg base CN "change_between" (defScope s_change_between) f cdv A outer s H E).nox
section
variable {P : Program} {w : World} {K : PySem.W.Frag} {mg : Str → Option Value} {base : Heap} {f : Addr} {cdv : Value} {A : Around} {outer : List Env} {s : Shared} {H0 : Hp} {E : XK}
theorem cb2 (T : Txt mg) : ∃ t, PS (CbX P w K mg base f cdv A outer s H0 E) (cbS 2) t ∧ ∀ (D : Ends) (H : Hp) (x0 x1 x4 : Option V) (d d2 : Addr) (as bs : List (Addr × (Addr × Nd))) (zs us : ZN), Book H d as zs → Book H d2 bs us → zs.length ≤ 30 → us.length ≤ 30 →
      (∀ (l : Addr) (ns : List Int) (H' : Hp), Same H H' → H' l = some (.lst (ns.map V.int)) → ns.Pairwise (· < ·) → ns.length ≤ 60 → (∀ k, k ∈ ns ↔ k ∈ (nds zs).map (·.num) ∨ k ∈ (nds us).map (·.num)) → D.nx [x0, x1, some (.ref d), some (.ref d2), some (.ref l)] H') → t D [x0, x1, some (.ref d), some (.ref d2), x4] H := by
  refine ⟨_, ps_set (i := 4) scCb.nd rfl (Or.inl rfl) (pe_callB (call_sorted_is rfl) rfl T.sorted PyProof.Rows.boot_sorted (pa_cons (pe_op op_union (pe_callTy call_set_dK rfl T.set rfl (pa_cons (pv 2) pa_nil)) (pe_callTy call_set_dK rfl T.set rfl (pa_cons (pv 3) pa_nil))) pa_nil)), ?_⟩
  intro D H x0 x1 x4 d d2 as bs zs us bk bk2 hl1 hl2 q
  refine ⟨_, rfl, d, _, (nds zs).map (·.num), rfl, bk.dict, bookK_ints bk.of, by rw [List.length_map, nds_len]; omega, fun m1 hn1 hm1 p1 hp1 => ?_⟩
  have s1 := same_upd (o := IntS (CbX P w K mg base f cdv A outer s H0 E).w p1 m1) hp1
  have g1 : upd H p1 (IntS (CbX P w K mg base f cdv A outer s H0 E).w p1 m1) p1 = some (IntS (CbX P w K mg base f cdv A outer s H0 E).w p1 m1) := upd_same
  generalize upd H p1 (IntS (CbX P w K mg base f cdv A outer s H0 E).w p1 m1) = H1 at s1 g1 ⊢
  refine ⟨_, rfl, d2, _, (nds us).map (·.num), rfl, (bk2.same s1).dict, bookK_ints bk2.of, by rw [List.length_map, nds_len]; omega, fun m2 hn2 hm2 p2 hp2 => ?_⟩
  have s2 := s1.trans (same_upd (o := IntS (CbX P w K mg base f cdv A outer s H0 E).w p2 m2) hp2)
  have g2 : upd H1 p2 (IntS (CbX P w K mg base f cdv A outer s H0 E).w p2 m2) p2 = some (IntS (CbX P w K mg base f cdv A outer s H0 E).w p2 m2) := upd_same
  have g1' : upd H1 p2 (IntS (CbX P w K mg base f cdv A outer s H0 E).w p2 m2) p1 = some (IntS (CbX P w K mg base f cdv A outer s H0 E).w p1 m1) := upd_keep hp2 g1
  have hne : p1 ≠ p2 := fun e => by rw [← e, g1] at hp2; cases hp2
  generalize upd H1 p2 (IntS (CbX P w K mg base f cdv A outer s H0 E).w p2 m2) = H2 at s2 g2 g1' ⊢
  have k1 : m1.length ≤ 30 := by
    have := nodup_le hn1 fun x hx => (hm1 x).mp hx
    rw [List.length_map, nds_len] at this
    omega
  have k2 : m2.length ≤ 30 := by
    have := nodup_le hn2 fun x hx => (hm2 x).mp hx
    rw [List.length_map, nds_len] at this
    omega
  refine ⟨p1, p2, m1, m2, rfl, rfl, hne, g1', g2, by omega, fun m3 hn3 hm3 p3 hp3 => ?_⟩
  have k3 : m3.length ≤ 60 := by
    have := nodup_le (m := m1 ++ m2) hn3 fun x hx => List.mem_append.mpr ((hm3 x).mp hx)
    rw [List.length_append] at this
    omega
  have s3 := s2.trans (same_upd (o := IntS (CbX P w K mg base f cdv A outer s H0 E).w p3 m3) hp3)
  refine ⟨p3, m3, rfl, upd_same, k3, fun ns hns hup l hl => ?_⟩
  have s4 := s3.trans (same_upd (o := .lst (ns.map V.int)) hl)
  refine q l ns _ s4 upd_same hup (by rw [hns.length_eq]; exact k3) fun k => ?_
  rw [hns.mem_iff, hm3 k, hm1 k, hm2 k]
theorem cb3 (hr : Room 1 (A.deeper (PyProof.Rows.envOfC "change_between" (defScope s_change_between) s.heap.objs.size f cdv))) (CU : Has P w K mg base 1 "unlike_entries" ["entries"] spUnl) :
    ∃ t, PS (CbX P w K mg base f cdv A outer s H0 E) (cbS 3) t ∧ ∀ (D : Ends) (H : Hp) (x0 x1 : Option V) (d d2 l : Addr) (as bs : List (Addr × (Addr × Nd))) (zs us : ZN) (ns : List Int), Book H d as zs → Book H d2 bs us → TW.Tree1 (nds zs) → TW.Tree1 (nds us) → H l = some (.lst (ns.map V.int)) → ns.Pairwise (· < ·) → ns.length ≤ 60 → (∀ k, k ∈ ns ↔ k ∈ (nds zs).map (·.num) ∨ k ∈ (nds us).map (·.num)) →
      (∀ c es H', Same H H' → ChgAt H' c es → TW.Chg (nds zs) (nds us) (rows es) → D.rt (.ref c) H') → t D [x0, x1, some (.ref d), some (.ref d2), some (.ref l)] H := by
  obtain ⟨fU, fdU, GU, mU, kU, bU⟩ := CU
  refine ⟨_, ps_ret (pe_call GU hr rfl mU kU bU .nil pass0 (pa_cons (pe_lc (N := ["number", "after", "before"]) (cl := [("before", s.heap.objs.size + 1), ("after", s.heap.objs.size + 2)]) (k := 1) (js := [3, 2]) (g := gName 0) rfl
      (LcOk.mk' ["before", "after"] rfl rfl (by decide +kernel) (by decide +kernel) ?hcl rfl (by decide +kernel)) rfl ?hj (pi_list (pv 4)) (fun s H fp => pg_name (i := 0) (show (["number", "after", "before"] : List Str).Nodup by decide +kernel) rfl (Or.inl rfl) (Or.inr rfl))
      (fun s H fp => pe_tup (pa_cons (pv 0) (pa_cons (pe_dget1 (hu_of hr) (pv 2) (pv 0) ⟨rfl, rfl, rfl, rfl⟩) (pa_cons (pe_dget1 (hu_of hr) (pv 1) (pv 0) ⟨rfl, rfl, rfl, rfl⟩) pa_nil))))) pa_nil)), ?_⟩
  case hcl =>
    intro y hy
    rcases List.mem_cons.mp hy with e | hy
    · rw [e]; rfl
    · rcases List.mem_cons.mp hy with e | hy
      · rw [e]; rfl
      · cases hy
  case hj =>
    intro i j x h1 h2
    match i, h1, h2 with
    | 0, h1, h2 =>
      cases h1
      cases h2
      exact ⟨rfl, Or.inr (Or.inl rfl), (show ((defScope s_change_between).names.lookup ("after" : Str) ≠ some NameKind.local) by decide +kernel), by first | exact Or.inl rfl | exact Or.inr rfl⟩
    | 1, h1, h2 =>
      cases h1
      cases h2
      exact ⟨rfl, Or.inr (Or.inl rfl), (show ((defScope s_change_between).names.lookup ("before" : Str) ≠ some NameKind.local) by decide +kernel), by first | exact Or.inl rfl | exact Or.inr rfl⟩
    | i + 2, h1, h2 => simp at h1
  intro D H x0 x1 d d2 l as bs zs us ns bk bk2 T1 T2 hl hup hn hm q
  refine ⟨_, rfl, l, rfl, ⟨_, SqL.of hl⟩, fun p hp => ?_⟩
  refine lc_each (fr := [some (.ref d2), some (.ref d)]) ns V.int (by omega) hp (src_lst (SqL.of hl)) rfl (fun k y H' => ∃ c vo vn, y = .ref c ∧ c ≠ p ∧ H' c = some (.tup [.int k, vo, vn]) ∧ OptV H' vo (TW.findN (nds zs) k) ∧ OptV H' vn (TW.findN (nds us) k) ∧ vo ≠ .ref p ∧ vn ≠ .ref p) (fun k y H H' h ex => ?_) (fun k H' kk mk s1 hpl hk => ?_) (fun ys H' s1 hp' hys => ?_)
  · obtain ⟨c, vo, vn, e, ne, h1, h2, h3, n1, n2⟩ := h
    have ov : ∀ {v : V} {o : Option Nd}, v ≠ .ref p → OptV H v o → OptV H' v o := fun hv h => by
      rcases h with h | ⟨q, n, e, h, e2⟩
      · exact .inl h
      · exact .inr ⟨q, n, e, ex q _ (fun z => hv (by rw [e, z])) h, e2⟩
    exact ⟨c, vo, vn, e, ne, ex c _ ne h1, ov n1 h2, ov n2 h3, n1, n2⟩
  · obtain ⟨r1, hr1, ho1⟩ := (bk.same s1).optV T1 k
    obtain ⟨r2, hr2, ho2⟩ := (bk2.same s1).optV T2 k
    have np : ∀ {v : V} {o : Option Nd}, OptV H' v o → v ≠ .ref p := fun h e => by
      rcases h with ⟨h, _⟩ | ⟨q, n, e2, h, _⟩
      · rw [h] at e; cases e
      · rw [e2] at e
        injection e with e
        obtain ⟨ys, hy⟩ := hpl
        rw [e, hy] at h
        cases h
    refine ⟨_, rfl, _, rfl, d, rfl, .inl ⟨_, (bk.same s1).dict⟩, _, rfl, r1, hr1, _, rfl, d2, rfl, .inl ⟨_, (bk2.same s1).dict⟩, _, rfl, r2, hr2, (show 3 ≤ sizeLine from le_line (by decide)), fun c hc => ?_⟩
    have s2 := same_upd (o := .tup [.int k, r1.getD .non, r2.getD .non]) hc
    exact hk _ _ s2 ⟨c, _, _, rfl, new_ne hpl hc, upd_same, ho1.same s2, ho2.same s2, np ho1, np ho2⟩
  · obtain ⟨cs, e1, e2, e3⟩ := paired_ex (val := V.ref) (S := fun (k : Int) (c : Addr) => RowAt H' c (TW.rowOf (nds zs) (nds us) k)) hys (fun k y _ ⟨c, vo, vn, e, _, h1, h2, h3, _⟩ => ⟨c, e, ⟨vo, vn, h1, h2, h3⟩, rowOf_ok k⟩)
    have hcl : cs.length = ns.length := by rw [← e1, List.length_map]
    have er : rows (cs.map fun x => (x.2, TW.rowOf (nds zs) (nds us) x.1)) = ns.map (TW.rowOf (nds zs) (nds us)) := by
      unfold rows
      rw [List.map_map, ← e1, List.map_map]; rfl
    refine ⟨p, cs.map fun x => (x.2, TW.rowOf (nds zs) (nds us) x.1), rfl, by rw [hp', e2]; unfold rrefs; rw [List.map_map]; rfl, fun e he => ?_, by rw [List.length_map]; omega, fun c H2 s2 hc => ?_⟩
    · obtain ⟨x, hx, rfl⟩ := List.mem_map.mp he
      exact e3 x hx
    · refine q c _ H2 (s1.trans s2) hc ?_
      have : rows ((cs.map fun x => (x.2, TW.rowOf (nds zs) (nds us) x.1)).filter unl) = _ := rows_filter er
      rw [this]
      refine TW.chg_of hup fun k hk => .inl ((hm k).mpr ?_)
      rcases hk with h | h
      · exact .inl (nums_find h)
      · exact .inr (nums_find h)
end
section
variable {P : Program} {w : World} {K : PySem.W.Frag} {mg : Str → Option Value} {base : Heap}
noncomputable def spChB : Sp := fun vs H Q _ => ∃ t u zs us, vs = [.ref t, .ref u] ∧ Tre H t zs ∧ Tre H u us ∧ ∀ c es H', Same H H' → ChgAt H' c es → TW.Chg (nds zs) (nds us) (rows es) → Q (.ref c) H'
theorem ok_chb {f : Addr} {fd : FuncData} (F : Fun K "change_between" "change_between" s_change_between f fd) (T : Txt mg) (CP : Has P w K mg base 1 "parts_by_number" ["tree"] spPart) (CU : Has P w K mg base 1 "unlike_entries" ["entries"] spUnl) : FnOk P w K mg base CX0 2 f fd ["one", "other"] spChB := by
  obtain ⟨fP, fdP, GP, mP, kP, bP⟩ := CP
  refine F.ok scCb (fun vs H Q E h => ?_) (fun cdv A outer s H vs Q E hr h => ?_)
  · obtain ⟨t, u, zs, us, rfl, _⟩ := h
    rfl
  · obtain ⟨t, u, zs, us, rfl, tr, tr2, q⟩ := h
    have hr1 : Room 1 _ := hr.mono (by decide)
    obtain ⟨t2, p2, h2⟩ := cb2 (P := P) (w := w) (K := K) (base := base) (f := f) (cdv := cdv) (A := A) (outer := outer) (s := s) (H0 := H) (E := E) T
    obtain ⟨t3, p3, h3⟩ := cb3 (P := P) (w := w) (base := base) (f := f) (cdv := cdv) (A := A) (outer := outer) (s := s) (H0 := H) (E := E) hr1 CU
    refine ⟨_, pss_cons (ps_set (i := 2) scCb.nd rfl (Or.inr rfl) (pe_call GP hr1 rfl mP kP bP .nil pass0 (pa_cons (pv 0) pa_nil)))
      (pss_cons (ps_set (i := 3) scCb.nd rfl (Or.inr rfl) (pe_call GP hr1 rfl mP kP bP .nil pass0 (pa_cons (pv 1) pa_nil))) (pss_cons p2 (pss_one p3))), ?_⟩
    refine ⟨_, rfl, t, zs, rfl, tr, fun d as H1 s1 _ bk _ => ?_⟩
    refine ⟨_, rfl, u, us, rfl, tr2.same s1, fun d2 bs H2 s2 _ bk2 _ => ?_⟩
    refine h2 _ H2 _ _ _ d d2 as bs zs us (bk.same s2) bk2 tr.len tr2.len fun l ns H3 s3 hl hup hn hm => ?_
    exact h3 _ H3 _ _ d d2 l as bs zs us ns ((bk.same s2).same s3) (bk2.same s3) tr.tr tr2.tr hl hup hn hm fun c es H4 s4 hc hch => q c es H4 (((s1.trans s2).trans s3).trans s4) hc hch
end
end TK
set_option Elab.async false
set_option linter.all false
set_option maxRecDepth 100000
set_option maxHeartbeats 8000000
namespace TK
open PySem L2
noncomputable def joS (i : Nat) : Stmt := (defBody s_joined).getD i (.Pass ⟨0, 0, 0, 0⟩)
noncomputable def JN : List Str := ["one", "other", "earlier", "later", "entries", "number", "first", "last"]
theorem scJo : FnScope JN ["one", "other"] (defScope s_joined) := ⟨rfl, rfl, rfl, by decide +kernel, rfl, by decide +kernel, by decide +kernel⟩
noncomputable abbrev JX (P : Program) (w : World) (K : PySem.W.Frag) (mg : Str → Option Value) (base : Heap) (f : Addr) (cdv : Value) (A : Around) (outer : List Env) (s : Shared) (H : Hp) (E : XK) : Cx := (cxOf CX0 P w K mg base JN "joined" (defScope s_joined) f cdv A outer s H E).nox
theorem row_in {t u : List Nd} {es : ZR} (h : TW.Chg t u (rows es)) {e : Addr × Row} (he : e ∈ es) : e.2.o = TW.findN t e.2.k ∧ e.2.n = TW.findN u e.2.k := by
  obtain ⟨h1, h2, _⟩ := (h.mem e.2).mp (List.mem_map.mpr ⟨e, he, rfl⟩)
  exact ⟨h1, h2⟩
theorem row_out {t u : List Nd} {es : ZR} (h : TW.Chg t u (rows es)) {k : Int} (hk : ∀ e ∈ es, e.2.k ≠ k) : TW.findN t k = TW.findN u k := by
  by_cases z : TW.findN t k = TW.findN u k
  · exact z
  · have := (h.mem ⟨k, TW.findN t k, TW.findN u k⟩).mpr ⟨rfl, rfl, z⟩
    obtain ⟨e, he, e2⟩ := List.mem_map.mp this
    exact absurd (by rw [e2]) (hk e he)
theorem chg_nd {t u : List Nd} {es : ZR} (h : TW.Chg t u (rows es)) : (es.map (·.2.k)).Nodup := by
  have := h.up
  unfold rows at this
  rw [List.pairwise_map] at this
  unfold List.Nodup
  rw [List.pairwise_map]
  exact this.imp fun h e => by omega
theorem OptV.over {H : Hp} {l : Addr} {xs : List V} {o' : HO} {v : V} {o : Option Nd} (h : OptV H v o) (hl : H l = some (.lst xs)) : OptV (upd H l o') v o := by
  rcases h with h | ⟨q, n, e, h, e2⟩
  · exact .inl h
  · refine .inr ⟨q, n, e, ?_, e2⟩
    rw [upd_ne]
    · exact h
    · rintro rfl
      rw [hl] at h
      cases h
theorem RowAt.over {H : Hp} {l : Addr} {xs : List V} {o' : HO} {e : Addr} {r : Row} (h : RowAt H e r) (hl : H l = some (.lst xs)) : RowAt (upd H l o') e r := by
  obtain ⟨⟨vo, vn, h1, h2, h3⟩, hk⟩ := h
  refine ⟨⟨vo, vn, ?_, h2.over hl, h3.over hl⟩, hk⟩
  rw [upd_ne]
  · exact h1
  · rintro rfl
    rw [hl] at h1
    cases h1
structure Jo (H0 H : Hp) (c c2 d d2 l l2 : Addr) (es fs gs : ZR) (ns : List Int) (t v : List Nd) (i : Nat) : Prop where
  s0 : Same H0 H
  c1 : ∀ e ∈ es, RowAt H e.1 e.2
  c2' : ∀ e ∈ fs, RowAt H e.1 e.2
  d1 : H d = some (.dK (chgK es))
  d2' : H d2 = some (.dK (chgK fs))
  l1 : H l = some (.lst (rrefs gs))
  l2' : H l2 = some (.lst (ns.map V.int))
  at' : ∀ g ∈ gs, RowAt H g.1 g.2
  rw' : rows gs = (ns.take i).map (TW.rowOf t v)
theorem Jo.more {H0 H : Hp} {c c2 d d2 l l2 q : Addr} {es fs gs : ZR} {ns : List Int} {t v : List Nd} {i : Nat} {k : Int} {vo vn : V} (h : Jo H0 H c c2 d d2 l l2 es fs gs ns t v i) (hl0 : H0 l = none) (hln : l2 ≠ l) (hk : ns[i]? = some k) (hq : H q = none) (ho : OptV H vo (TW.findN t k)) (hn : OptV H vn (TW.findN v k)) :
    Jo H0 (upd (upd H q (.tup [.int k, vo, vn])) l (.lst (rrefs gs ++ [.ref q]))) c c2 d d2 l l2 es fs (gs ++ [(q, TW.rowOf t v k)]) ns t v (i + 1) := by
  have s1 := same_upd (o := .tup [.int k, vo, vn]) hq
  have hl1 := s1 _ _ h.l1
  have ndl : ∀ {a : Addr} {u : List (Key × V)}, H a = some (.dK u) → upd (upd H q (.tup [.int k, vo, vn])) l (.lst (rrefs gs ++ [.ref q])) a = some (.dK u) := fun {a u} ha => by
    rw [upd_ne]
    · exact s1 _ _ ha
    · rintro rfl
      rw [h.l1] at ha
      cases ha
  refine ⟨same_over hl0 (h.s0.trans s1), fun e he => ((h.c1 e he).same s1).over hl1, fun e he => ((h.c2' e he).same s1).over hl1, ndl h.d1, ndl h.d2', ?_, ?_, fun g hg => ?_, ?_⟩
  · rw [upd_same]; unfold rrefs; rw [List.map_append]; rfl
  · rw [upd_ne hln]; exact s1 _ _ h.l2'
  · rcases List.mem_append.mp hg with hg | hg
    · exact ((h.at' g hg).same s1).over hl1
    · have e : g = (q, TW.rowOf t v k) := by simpa using hg
      subst e
      have r : RowAt (upd H q (.tup [.int k, vo, vn])) q (TW.rowOf t v k) := ⟨⟨vo, vn, upd_same, ho.same s1, hn.same s1⟩, rowOf_ok k⟩
      exact r.over hl1
  · have ht : ns.take (i + 1) = ns.take i ++ [k] := by rw [List.take_succ, hk]; rfl
    rw [ht, List.map_append, ← h.rw']
    unfold rows
    rw [List.map_append]
    rfl
section
variable {P : Program} {w : World} {K : PySem.W.Frag} {mg : Str → Option Value} {base : Heap} {f : Addr} {cdv : Value} {A : Around} {outer : List Env} {s : Shared} {H0 : Hp} {E : XK}
noncomputable abbrev joσ (c c2 d d2 l : Addr) (x5 x6 x7 : Option V) : St := [some (.ref c), some (.ref c2), some (.ref d), some (.ref d2), some (.ref l), x5, x6, x7]
theorem jo3 (T : Txt mg) (hr : Room 1 (A.deeper (PyProof.Rows.envOfC "joined" (defScope s_joined) s.heap.objs.size f cdv))) :
    ∃ rd, PS (JX P w K mg base f cdv A outer s H0 E) (joS 3) rd ∧ ∀ (D : Ends) (H : Hp) (c c2 d d2 l : Addr) (es fs : ZR) (t u v : List Nd), H0 l = none → Same H0 H → H l = some (.lst []) → ChgAt H c es → ChgAt H c2 fs → H d = some (.dK (chgK es)) → H d2 = some (.dK (chgK fs)) → TW.Chg t u (rows es) → TW.Chg u v (rows fs) → es.length ≤ 30 → fs.length ≤ 30 →
      (∀ (ns : List Int) (gs : ZR) (x5 x6 x7 : Option V) (H' : Hp), Same H0 H' → H' l = some (.lst (rrefs gs)) → (∀ g ∈ gs, RowAt H' g.1 g.2) → rows gs = ns.map (TW.rowOf t v) → ns.Pairwise (· < ·) → ns.length ≤ 60 → (∀ k, k ∈ ns ↔ (∃ e ∈ es, e.2.k = k) ∨ ∃ e ∈ fs, e.2.k = k) → D.nx (joσ c c2 d d2 l x5 x6 x7) H') → rd D (joσ c c2 d d2 l none none none) H := by
  refine ⟨_, ps_for PassesOwn.never rfl (pi_list (pe_callB (call_sorted_is rfl) rfl T.sorted PyProof.Rows.boot_sorted (pa_cons (pe_op op_union (pe_callTy call_set_dK rfl T.set rfl (pa_cons (pv 2) pa_nil)) (pe_callTy call_set_dK rfl T.set rfl (pa_cons (pv 3) pa_nil))) pa_nil))) (pg_name (i := 5) scJo.nd rfl (Or.inl rfl))
    (pss_cons (ps_set (i := 6) scJo.nd rfl (Or.inl rfl) (pe_dget2 (hu_of hr) (pv 2) (pv 5) (pe_dget1 (hu_of hr) (pv 3) (pv 5) ⟨rfl, rfl, rfl, rfl⟩) ⟨rfl, rfl, rfl, rfl⟩))
    (pss_cons (ps_set (i := 7) scJo.nd rfl (Or.inl rfl) (pe_dget2 (hu_of hr) (pv 3) (pv 5) (pe_dget1 (hu_of hr) (pv 2) (pv 5) ⟨rfl, rfl, rfl, rfl⟩) ⟨rfl, rfl, rfl, rfl⟩))
    (pss_cons (ps_if (PW.pt (pw_and (pt_cmp (pc_din (hu_of hr) (pv 5) (pv 2))) (pw_and (pt_cmp (pc_din (hu_of hr) (pv 5) (pv 3))) (pw_and1 (pt_cmpR (op_neO (hu_of hr)) (pe_ix ix_tup (pv 6) pe_int (fun _ _ => rfl)) (pe_ix ix_tup (pv 7) pe_int (fun _ _ => rfl)) (nomark _)))))) (pss_one ps_never) pss_nil)
    (pss_one (ps_expr (pe_bm PySem.F.plainAttrs_list PySem.F.slot_list_append PySem.F.type_list_append mt_append (pv 4) (pa_cons (pe_tup (pa_cons (pv 5) (pa_cons (pe_ix ix_tup (pv 6) pe_int (fun _ _ => rfl)) (pa_cons (pe_ix ix_tup (pv 7) pe_int (fun _ _ => rfl)) pa_nil)))) pa_nil))))))), ?_⟩
  intro D H c c2 d d2 l es fs t u v hl0 s0 hl hc hc2 hd hd2 ch1 ch2 le1 le2' q
  have nd1 := chg_nd ch1
  have nd2 := chg_nd ch2
  have ke : (chgK es).map (·.1) = (es.map (·.2.k)).map (Sum.inl : Int → Key) := by unfold chgK; rw [List.map_map, List.map_map]; rfl
  have kf : (chgK fs).map (·.1) = (fs.map (·.2.k)).map (Sum.inl : Int → Key) := by unfold chgK; rw [List.map_map, List.map_map]; rfl
  refine ⟨_, rfl, d, _, es.map (·.2.k), rfl, .inl hd, ke, by rw [List.length_map]; omega, fun m1 hn1 hm1 p1 hp1 => ?_⟩
  have s1 := same_upd (o := IntS (JX P w K mg base f cdv A outer s H0 E).w p1 m1) hp1
  have g1 : upd H p1 (IntS (JX P w K mg base f cdv A outer s H0 E).w p1 m1) p1 = some (IntS (JX P w K mg base f cdv A outer s H0 E).w p1 m1) := upd_same
  generalize upd H p1 (IntS (JX P w K mg base f cdv A outer s H0 E).w p1 m1) = H1 at s1 g1 ⊢
  refine ⟨_, rfl, d2, _, fs.map (·.2.k), rfl, .inl (s1 _ _ hd2), kf, by rw [List.length_map]; omega, fun m2 hn2 hm2 p2 hp2 => ?_⟩
  have s2 := s1.trans (same_upd (o := IntS (JX P w K mg base f cdv A outer s H0 E).w p2 m2) hp2)
  have g2 : upd H1 p2 (IntS (JX P w K mg base f cdv A outer s H0 E).w p2 m2) p2 = some (IntS (JX P w K mg base f cdv A outer s H0 E).w p2 m2) := upd_same
  have g1' : upd H1 p2 (IntS (JX P w K mg base f cdv A outer s H0 E).w p2 m2) p1 = some (IntS (JX P w K mg base f cdv A outer s H0 E).w p1 m1) := upd_keep hp2 g1
  have hne : p1 ≠ p2 := fun e => by rw [← e, g1] at hp2; cases hp2
  generalize upd H1 p2 (IntS (JX P w K mg base f cdv A outer s H0 E).w p2 m2) = H2 at s2 g2 g1' ⊢
  have k1 : m1.length ≤ 30 := by
    have := nodup_le hn1 fun x hx => (hm1 x).mp hx
    rw [List.length_map] at this
    omega
  have k2 : m2.length ≤ 30 := by
    have := nodup_le hn2 fun x hx => (hm2 x).mp hx
    rw [List.length_map] at this
    omega
  refine ⟨p1, p2, m1, m2, rfl, rfl, hne, g1', g2, by omega, fun m3 hn3 hm3 p3 hp3 => ?_⟩
  have k3 : m3.length ≤ 60 := by
    have := nodup_le (m := m1 ++ m2) hn3 fun x hx => List.mem_append.mpr ((hm3 x).mp hx)
    rw [List.length_append] at this
    omega
  have s3 := s2.trans (same_upd (o := IntS (JX P w K mg base f cdv A outer s H0 E).w p3 m3) hp3)
  refine ⟨p3, m3, rfl, upd_same, k3, fun ns hns hup l2 hl2 => ?_⟩
  have s4 := s3.trans (same_upd (o := .lst (ns.map V.int)) hl2)
  have g4 : upd (upd H2 p3 (IntS (JX P w K mg base f cdv A outer s H0 E).w p3 m3)) l2 (.lst (ns.map V.int)) l2 = some (.lst (ns.map V.int)) := upd_same
  generalize upd (upd H2 p3 (IntS (JX P w K mg base f cdv A outer s H0 E).w p3 m3)) l2 (.lst (ns.map V.int)) = H4 at s4 g4 ⊢
  have hln : l2 ≠ l := fun e => by
    have h1 := s3 _ _ hl
    rw [e, h1] at hl2
    cases hl2
  have hnl : ns.length ≤ 60 := by rw [hns.length_eq]; exact k3
  have hmem : ∀ k, k ∈ ns ↔ (∃ e ∈ es, e.2.k = k) ∨ ∃ e ∈ fs, e.2.k = k := fun k => by
    rw [hns.mem_iff, hm3 k, hm1 k, hm2 k, List.mem_map, List.mem_map]
  have J0 : Jo H0 H4 c c2 d d2 l l2 es fs [] ns t v 0 := ⟨s0.trans s4, fun e he => (hc.at' e he).same s4, fun e he => (hc2.at' e he).same s4, s4 _ _ hd, s4 _ _ hd2, s4 _ _ hl, g4, by simp, by simp [rows]⟩
  refine ⟨l2, rfl, ⟨_, SqL.of g4⟩, for_list (xs := ns.map V.int) (fun i σ H' => ∃ gs x5 x6 x7, σ = joσ c c2 d d2 l x5 x6 x7 ∧ Jo H0 H' c c2 d d2 l l2 es fs gs ns t v i) ⟨[], none, none, none, rfl, J0⟩ (fun i σ H' _ ⟨_, _, _, _, _, J⟩ => SqL.of J.l2') (fun i x σ H' hx h => ?_) (fun σ H' h => ?_)⟩
  · obtain ⟨gs, x5, x6, x7, rfl, J⟩ := h
    rw [List.getElem?_map] at hx
    cases gx : ns[i]? with
    | none => rw [gx] at hx; cases hx
    | some k =>
      rw [gx] at hx
      cases hx
      have hi : i < ns.length := (List.getElem?_eq_some_iff.mp gx).1
      have hgl : gs.length ≤ 60 := by
        have := congrArg List.length J.rw'
        unfold rows at this
        rw [List.length_map, List.length_map, List.length_take] at this
        omega
      have isd1 : IsD H' d := .inl ⟨_, .inl J.d1⟩
      have isd2 : IsD H' d2 := .inl ⟨_, .inl J.d2'⟩
      have small : (rrefs gs).length < sizeLine := small1000 (by unfold rrefs; rw [List.length_map]; omega)
      rcases chgK_get J.d1 nd1 k with ⟨e1, he1, ek1, gd1⟩ | ⟨no1, gd1⟩
      · obtain ⟨⟨vo1, vn1, a1, a2, a3⟩, _⟩ := J.c1 e1 he1
        obtain ⟨r1, r2⟩ := row_in ch1 he1
        rw [ek1] at a1 r1 r2
        rcases chgK_get J.d2' nd2 k with ⟨e2, he2, ek2, gd2⟩ | ⟨no2, gd2⟩
        · obtain ⟨⟨vo2, vn2, b1, b2, b3⟩, _⟩ := J.c2' e2 he2
          obtain ⟨w1, w2⟩ := row_in ch2 he2
          rw [ek2] at b1 w1 w2
          refine ⟨_, rfl, d, rfl, isd1, _, rfl, _, rfl, d2, rfl, isd2, _, rfl, _, gd2, _, gd1, ?_⟩
          refine ⟨_, rfl, d2, rfl, isd2, _, rfl, _, rfl, d, rfl, isd1, _, rfl, _, gd1, _, gd2, ?_⟩
          refine ⟨_, rfl, _, rfl, d, _, rfl, gd1, _, rfl, iteT ⟨_, rfl, _, rfl, d2, _, rfl, gd2, _, rfl, iteT ⟨_, rfl, e1.1, _, _, _, rfl, rfl, SqT.of a1, rfl, _, rfl, e2.1, _, _, _, rfl, rfl, SqT.of b1, rfl, _, _, a3.ot, b2.ot, _, rfl, ?_⟩⟩⟩
          have e6 : (!decide (e1.2.n.map rest3 = e2.2.o.map rest3)) = false := by rw [r2, w1]; simp
          rw [e6]
          refine iteF ⟨_, rfl, .inl ⟨rfl, _, SqL.of J.l1⟩, _, rfl, _, rfl, e1.1, _, _, _, rfl, rfl, SqT.of a1, rfl, _, rfl, e2.1, _, _, _, rfl, rfl, SqT.of b1, rfl, (show 3 ≤ sizeLine from le_line (by decide)), fun q hq => ⟨l, _, _, rfl, rfl, upd_keep hq J.l1, small, ?_⟩⟩
          exact ⟨_, _, _, _, rfl, J.more hl0 hln gx hq (by rw [← r1]; exact a2) (by rw [← w2]; exact b3)⟩
        · have out := row_out ch2 no2
          refine ⟨_, rfl, d, rfl, isd1, _, rfl, _, rfl, d2, rfl, isd2, _, rfl, _, gd2, _, gd1, ?_⟩
          refine ⟨_, rfl, d2, rfl, isd2, _, rfl, _, rfl, d, rfl, isd1, _, rfl, _, gd1, _, gd2, ?_⟩
          refine ⟨_, rfl, _, rfl, d, _, rfl, gd1, _, rfl, iteT ⟨_, rfl, _, rfl, d2, _, rfl, gd2, _, rfl, iteF (iteF ?_)⟩⟩
          refine ⟨_, rfl, .inl ⟨rfl, _, SqL.of J.l1⟩, _, rfl, _, rfl, e1.1, _, _, _, rfl, rfl, SqT.of a1, rfl, _, rfl, e1.1, _, _, _, rfl, rfl, SqT.of a1, rfl, (show 3 ≤ sizeLine from le_line (by decide)), fun q hq => ⟨l, _, _, rfl, rfl, upd_keep hq J.l1, small, ?_⟩⟩
          exact ⟨_, _, _, _, rfl, J.more hl0 hln gx hq (by rw [← r1]; exact a2) (by rw [← out, ← r2]; exact a3)⟩
      · have out1 := row_out ch1 no1
        rcases chgK_get J.d2' nd2 k with ⟨e2, he2, ek2, gd2⟩ | ⟨no2, gd2⟩
        · obtain ⟨⟨vo2, vn2, b1, b2, b3⟩, _⟩ := J.c2' e2 he2
          obtain ⟨w1, w2⟩ := row_in ch2 he2
          rw [ek2] at b1 w1 w2
          refine ⟨_, rfl, d, rfl, isd1, _, rfl, _, rfl, d2, rfl, isd2, _, rfl, _, gd2, _, gd1, ?_⟩
          refine ⟨_, rfl, d2, rfl, isd2, _, rfl, _, rfl, d, rfl, isd1, _, rfl, _, gd1, _, gd2, ?_⟩
          refine ⟨_, rfl, _, rfl, d, _, rfl, gd1, _, rfl, iteF (iteF ?_)⟩
          refine ⟨_, rfl, .inl ⟨rfl, _, SqL.of J.l1⟩, _, rfl, _, rfl, e2.1, _, _, _, rfl, rfl, SqT.of b1, rfl, _, rfl, e2.1, _, _, _, rfl, rfl, SqT.of b1, rfl, (show 3 ≤ sizeLine from le_line (by decide)), fun q hq => ⟨l, _, _, rfl, rfl, upd_keep hq J.l1, small, ?_⟩⟩
          exact ⟨_, _, _, _, rfl, J.more hl0 hln gx hq (by rw [out1, ← w1]; exact b2) (by rw [← w2]; exact b3)⟩
        · exfalso
          rcases (hmem k).mp (List.mem_of_getElem? gx) with ⟨e, he, z⟩ | ⟨e, he, z⟩
          · exact no1 e he z
          · exact no2 e he z
  · obtain ⟨gs, x5, x6, x7, rfl, J⟩ := h
    have := J.rw'
    rw [List.length_map, List.take_length] at this
    exact q ns gs x5 x6 x7 H' J.s0 J.l1 J.at' this hup hnl hmem
end
end TK
set_option Elab.async false
set_option linter.all false
set_option maxRecDepth 100000
set_option maxHeartbeats 8000000
namespace TK
open PySem L2
section
variable {P : Program} {w : World} {K : PySem.W.Frag} {mg : Str → Option Value} {base : Heap}
noncomputable def spJo : Sp := fun vs H Q _ => ∃ c c2 es fs t u v, vs = [.ref c, .ref c2] ∧ ChgAt H c es ∧ ChgAt H c2 fs ∧ TW.Chg t u (rows es) ∧ TW.Chg u v (rows fs) ∧ es.length ≤ 30 ∧ fs.length ≤ 30 ∧ ∀ c' gs H', Same H H' → ChgAt H' c' gs → TW.Chg t v (rows gs) → Q (.ref c') H'
theorem ok_jo {f : Addr} {fd : FuncData} (F : Fun K "joined" "joined" s_joined f fd) (T : Txt mg) (CB : Has P w K mg base 1 "by_number" ["tree"] spBynC) (CU : Has P w K mg base 1 "unlike_entries" ["entries"] spUnl) : FnOk P w K mg base CX0 2 f fd ["one", "other"] spJo := by
  obtain ⟨fB, fdB, GB, mB, kB, bB⟩ := CB
  obtain ⟨fU, fdU, GU, mU, kU, bU⟩ := CU
  refine F.ok scJo (fun vs H Q E h => ?_) (fun cdv A outer s H vs Q E hr h => ?_)
  · obtain ⟨c, c2, es, fs, t, u, v, rfl, _⟩ := h
    rfl
  · obtain ⟨c, c2, es, fs, t, u, v, rfl, hc, hc2, ch1, ch2, l1, l2, q⟩ := h
    have hr1 : Room 1 _ := hr.mono (by decide)
    obtain ⟨t3, p3, h3⟩ := jo3 (P := P) (w := w) (K := K) (base := base) (f := f) (cdv := cdv) (A := A) (outer := outer) (s := s) (H0 := H) (E := E) T hr1
    refine ⟨_, pss_cons (ps_set (i := 2) scJo.nd rfl (Or.inl rfl) (pe_call GB hr1 rfl mB kB bB .nil pass0 (pa_cons (pv 0) pa_nil)))
      (pss_cons (ps_set (i := 3) scJo.nd rfl (Or.inl rfl) (pe_call GB hr1 rfl mB kB bB .nil pass0 (pa_cons (pv 1) pa_nil)))
      (pss_cons (ps_set (i := 4) scJo.nd rfl (Or.inl rfl) (pe_lst pa_nil)) (pss_cons p3
      (pss_one (ps_ret (pe_call GU hr1 rfl mU kU bU .nil pass0 (pa_cons (pv 4) pa_nil))))))), ?_⟩
    refine ⟨_, rfl, c, es, rfl, hc, chg_nd ch1, fun d H1 s1 _ hd => ?_⟩
    refine ⟨_, rfl, c2, fs, rfl, hc2.same s1, chg_nd ch2, fun d2 H2 s2 _ hd2 => ?_⟩
    refine ⟨Nat.zero_le _, fun l hl => ?_⟩
    have s3 := same_upd (o := .lst []) hl
    have s12 := s1.trans s2
    refine h3 _ _ c c2 d d2 l es fs t u v (s12.free hl) (s12.trans s3) upd_same ((hc.same s12).same s3) ((hc2.same s12).same s3) (s3 _ _ (s2 _ _ hd)) (s3 _ _ hd2) ch1 ch2 l1 l2 fun ns gs x5 x6 x7 H4 s4 hl4 hg4 hrows hup hn hm => ?_
    have hgl : gs.length ≤ 60 := by
      have := congrArg List.length hrows
      unfold rows at this
      rw [List.length_map, List.length_map] at this
      omega
    refine ⟨_, rfl, l, gs, rfl, hl4, hg4, hgl, fun c' H5 s5 hc' => ?_⟩
    refine q c' _ H5 (s4.trans s5) hc' ?_
    have e1 : rows (gs.filter unl) = _ := rows_filter hrows
    rw [e1]
    refine TW.chg_of hup fun k hk => ?_
    by_cases z : TW.findN t k = TW.findN v k
    · exact .inr z
    · refine .inl ((hm k).mpr ?_)
      by_cases a : ∃ e ∈ es, e.2.k = k
      · exact .inl a
      · by_cases b : ∃ e ∈ fs, e.2.k = k
        · exact .inr b
        · exact absurd ((row_out ch1 fun e he ek => a ⟨e, he, ek⟩).trans (row_out ch2 fun e he ek => b ⟨e, he, ek⟩)) z
end
end TK
set_option Elab.async false
set_option linter.all false
set_option maxRecDepth 100000
set_option maxHeartbeats 8000000
namespace TK
open PySem L2
section
variable {P : Program} {w : World} {K : PySem.W.Frag} {mg : Str → Option Value} {base : Heap}
noncomputable def spBook : Sp := fun vs H Q _ => ∃ t zs, vs = [.ref t] ∧ Tre H t zs ∧ ∀ d as H', Same H H' → H d = none → Book H' d as zs → H' d = some (.dK (bookK as)) → Q (.ref d) H'
theorem scBook : FnScope ["_law_tree_here"] ["_law_tree_here"] (defScope sBook) := ⟨rfl, rfl, rfl, by decide +kernel, rfl, by decide +kernel, by decide +kernel⟩
theorem ok_book {f : Addr} {fd : FuncData} (F : Fun K "_law_book" "_law_book" sBook f fd) (T : Txt mg) : FnOk P w K mg base CX0 1 f fd ["_law_tree_here"] spBook := by
  refine F.ok scBook (fun vs H Q E h => ?_) (fun cdv A outer s H vs Q E hr h => ?_)
  · obtain ⟨t, zs, rfl, _⟩ := h
    rfl
  · obtain ⟨t, zs, rfl, tr, k⟩ := h
    have hnd := nums_nd tr.tr
    have hl := tr.len
    have ht := tr.tup
    have hA := tr.nod
    refine ⟨_, pss_one (ps_ret (pe_callTy (call_dictKm rfl) rfl T.dict PyProof.Rows.boot_dict (pa_cons (pe_lc (N := ["_law_node"]) (k := 1) (js := []) (g := gName 0) rfl (lc_ok0 rfl (by decide +kernel) (by decide +kernel) (by decide +kernel)) rfl (fun i j x h => by simp at h)
      (pi_tup (pv 0)) (fun s H fp => pg_name (i := 0) (show (["_law_node"] : List Str).Nodup by decide +kernel) rfl (Or.inl rfl) (Or.inr rfl))
      (fun s H fp => pe_tup (pa_cons (pe_ix (r := rIxT K) ix_tup (pv 0) pe_int (fun _ _ => rfl)) (pa_cons (pe_slice (r := rSlT K) sl_tup (pv 0) (po_some pe_int) po_none) pa_nil)))) pa_nil))), ?_⟩
    refine ⟨_, rfl, t, rfl, ⟨_, SqT.of ht⟩, fun p hp => ?_⟩
    refine lc_map (fr := []) zs.length (by omega) hp rfl (fun i y H' => ∃ q t' z, zs[i]? = some z ∧ y = .ref q ∧ q ≠ p ∧ t' ≠ p ∧ H' q = some (.tup [.int z.2.num, .ref t']) ∧ H' t' = some (.tup (rest3 z.2))) (fun i y H1 H2 h ex => ?_) (fun i H' hi s1 => ?_) (fun H' s1 => ?_) ?_ (fun i H' x H2 hi s1 hpl hy => ?_) (fun ys H' s1 hp' hlen hys => ?_)
    · obtain ⟨q, t', z, e1, e2, e3, e4, e5, e6⟩ := h
      exact ⟨q, t', z, e1, e2, e3, e4, ex q _ e3 e5, ex t' _ e4 e6⟩
    · exact ⟨_, _, SqT.of (s1 _ _ ht), get_refs (List.getElem?_eq_getElem hi)⟩
    · exact ⟨_, SqT.of (s1 _ _ ht), by rw [refs_len]; exact Nat.le_refl _⟩
    · rintro _ _ _ _ m ⟨v1, b1, p1, xs, i1, v2, c1, c2, c3, c4, v3, b3, i3, d0, a3, xs3, d1, d2, d3, q⟩
      refine ⟨v1, b1, p1, xs, i1, v2, c1, c2, c3, c4, v3, b3, i3, d0, a3, xs3, d1, d2, d3, fun l hl => ?_⟩
      obtain ⟨hz', q'⟩ := q l hl
      exact ⟨hz', fun l' hl' => m _ _ (q' l' hl')⟩
    · obtain ⟨rfl, hx⟩ := hy
      obtain ⟨z, gz, rfl⟩ := refs_get (hx _ (SqT.of (s1 _ _ ht)))
      have mz := List.mem_of_getElem? gz
      have hz1 := s1 _ _ (hA z mz)
      have ecut : cutV (vals z.2) (some 1) none = rest3 z.2 := rfl
      refine ⟨rfl, _, rfl, z.1, _, _, _, rfl, rfl, SqT.of hz1, at0 z.2, _, rfl, _, rfl, z.1, _, rfl, SqT.of hz1, (by intro h; exact absurd h.1 (show ¬ HT.sIx 4 0 (some 1) = 0 by decide)), fun t' ht' => ?_⟩
      rw [ecut]
      have s2 := same_upd (o := .tup (rest3 z.2)) ht'
      have hpl2 : ∃ ys, upd H2 t' (.tup (rest3 z.2)) p = some (.lst ys) := let ⟨ys, e⟩ := hpl; ⟨ys, s2 _ _ e⟩
      refine ⟨le2, fun q hq => ⟨s2.trans (same_upd hq), q, t', z, gz, rfl, new_ne hpl2 hq, new_ne hpl ht', upd_same, upd_keep hq upd_same⟩⟩
    · obtain ⟨as, e1, e2, e3⟩ : ∃ as : List ((Addr × Addr) × (Addr × Nd)), as.map (·.2) = zs ∧ ys = (as.map (·.1.1)).map V.ref ∧ ∀ a ∈ as, H' a.1.1 = some (.tup [.int a.2.2.num, .ref a.1.2]) ∧ H' a.1.2 = some (.tup (rest3 a.2.2)) := by
        clear hp'
        have main : ∀ (ys : List V) (xs : ZN), ys.length = xs.length → (∀ (i : Nat) y, ys[i]? = some y → ∃ q t' z, xs[i]? = some z ∧ y = .ref q ∧ q ≠ p ∧ t' ≠ p ∧ H' q = some (.tup [.int z.2.num, .ref t']) ∧ H' t' = some (.tup (rest3 z.2))) →
            ∃ as : List ((Addr × Addr) × (Addr × Nd)), as.map (·.2) = xs ∧ ys = (as.map (·.1.1)).map V.ref ∧ ∀ a ∈ as, H' a.1.1 = some (.tup [.int a.2.2.num, .ref a.1.2]) ∧ H' a.1.2 = some (.tup (rest3 a.2.2)) := by
          intro ys
          induction ys with
          | nil =>
            intro xs hl _
            have : xs = [] := List.length_eq_zero_iff.mp hl.symm
            subst this
            exact ⟨[], rfl, rfl, by simp⟩
          | cons y ys ih =>
            intro xs hl h
            cases xs with
            | nil => simp at hl
            | cons x xs =>
              obtain ⟨as, e1, e2, e3⟩ := ih xs (by simpa using hl) fun i y hy => by simpa using h (i + 1) y (by simpa using hy)
              obtain ⟨q, t', z, f1, f2, f3, f4, f5, f6⟩ := h 0 y rfl
              have : x = z := by simpa using f1
              subst this
              refine ⟨((q, t'), x) :: as, by simp [e1], by simp [e2, f2], fun a ha => ?_⟩
              rcases List.mem_cons.mp ha with rfl | ha
              · exact ⟨f5, f6⟩
              · exact e3 a ha
        exact main ys zs hlen hys
      have hal : as.length = zs.length := by rw [← e1, List.length_map]
      refine ⟨p, as.map fun a => (a.1.1, (Sum.inl a.2.2.num : Key), V.ref a.1.2), rfl, ?_, ?_, ?_, ?_, fun d hd => ?_⟩
      · rw [hp', e2, List.map_map, List.map_map, List.map_map]; rfl
      · intro z hz
        obtain ⟨a, ha, rfl⟩ := List.mem_map.mp hz
        exact (e3 a ha).1
      · rw [List.length_map]; omega
      · rw [List.map_map]
        have : (as.map ((fun x : Addr × Key × V => x.2.1) ∘ fun a => (a.1.1, (Sum.inl a.2.2.num : Key), V.ref a.1.2))) = ((nds zs).map (·.num)).map (Sum.inl : Int → Key) := by
          rw [← e1]; unfold nds; simp only [List.map_map]; rfl
        rw [this]
        unfold List.Nodup at hnd ⊢
        rw [List.pairwise_map]
        exact hnd.imp fun h e => h (by injection e)
      · have sd := same_upd (o := .dK ((as.map fun a => (a.1.1, (Sum.inl a.2.2.num : Key), V.ref a.1.2)).map (·.2))) hd
        have ed : upd H' d (.dK ((as.map fun a => (a.1.1, (Sum.inl a.2.2.num : Key), V.ref a.1.2)).map (·.2))) d = some (.dK (bookK (as.map fun a => (a.1.2, a.2)))) := by
          rw [upd_same]
          refine congrArg (fun x => some (HO.dK x)) ?_
          unfold bookK
          simp only [List.map_map]; rfl
        refine k d (as.map fun a => (a.1.2, a.2)) _ (s1.trans sd) (s1.free hd) ⟨.inl ed, by rw [List.map_map]; exact e1, fun a ha => ?_⟩ ed
        obtain ⟨b, hb, rfl⟩ := List.mem_map.mp ha
        exact sd _ _ (e3 b hb).2
noncomputable def spUnd : Sp := fun vs H Q _ => ∃ d k g as zs p, vs = [.ref d, .int k, .int g] ∧ Book H d as zs ∧ TW.Tree1 (nds zs) ∧ TW.PathTo (nds zs) k p ∧ 1 ≤ g ∧ ∀ b, (b = true ↔ TW.Und (nds zs) g k) → Q (.bl b) H
theorem scUnd : FnScope ["_law_book_here", "_law_number", "_law_goal"] ["_law_book_here", "_law_number", "_law_goal"] (defScope sUnder) := ⟨rfl, rfl, rfl, by decide +kernel, rfl, by decide +kernel, by decide +kernel⟩
theorem ok_und {f : Addr} {fd : FuncData} (F : Fun K "_law_under" "_law_under" sUnder f fd) : FnOk P w K mg base CX0 1 f fd ["_law_book_here", "_law_number", "_law_goal"] spUnd := by
  refine F.ok scUnd (fun vs H Q E h => ?_) (fun cdv A outer s H vs Q E hr h => ?_)
  · obtain ⟨d, k, g, as, zs, p, rfl, _⟩ := h
    rfl
  · obtain ⟨d, k, g, as, zs, p, rfl, bk, hTr, hp, hg, q⟩ := h
    have hnd := nums_nd hTr
    refine ⟨_, pss_cons (ps_while PassesOwn.never (PW.pt (pw_and (pt_cmpR op_ne (pv 1) pe_int (nomark _)) (pw_and1 (pt_cmpR op_ne (pv 1) (pv 2) (nomark _)))))
        (pss_one (ps_set (i := 1) scUnd.nd rfl (Or.inl rfl) (pe_ix ix_tup (pe_dget (hu_of hr) (pv 0) (pv 1) (fun _ _ => rfl)) pe_int (fun _ _ => rfl)))))
      (pss_one (ps_ret (pe_cmpR op_eq (pv 1) (pv 2) (nomark _)))), ?_⟩
    refine while_by (fun σ H' => ∃ at' q', σ = [some (.ref d), some (.int at'), some (.int g)] ∧ TW.PathTo (nds zs) at' q' ∧ (TW.Und (nds zs) g k ↔ TW.Und (nds zs) g at') ∧ H' = H)
      (fun σ H' => match σ with | [_, some (.int k), _] => plen (nds zs) k | _ => 0) ⟨k, p, rfl, hp, Iff.rfl, rfl⟩ (fun σ H' h => ?_) ?_
    · obtain ⟨at', q', rfl, hq', hu, rfl⟩ := h
      have last : ∀ b : Bool, (b = true ↔ TW.Und (nds zs) g at') → Q (.bl b) H' := fun b hb => q b (hb.trans hu.symm)
      refine ⟨_, rfl, rfl, _, rfl, ?_⟩
      by_cases h0 : at' = 0
      · have hne : decide (V.int at' = V.int 0) = true := by simp [h0]
        rw [hne]
        refine iteF (iteF ⟨_, rfl, _, rfl, rfl, last _ ?_⟩)
        rw [decide_eq_true_eq]
        constructor
        · intro e; injection e with e; omega
        · intro hx; have := hx.zero hTr h0; omega
      · have hne : decide (V.int at' = V.int 0) = false := by simp [h0]
        rw [hne]
        refine iteT ⟨_, rfl, _, rfl, rfl, _, rfl, ?_⟩
        by_cases hg' : at' = g
        · have hne : decide (V.int at' = V.int g) = true := by simp [hg']
          rw [hne]
          refine iteF ⟨_, rfl, _, rfl, rfl, last _ ?_⟩
          rw [hne]
          constructor
          · intro _; rw [hg']; exact .here
          · intro _; rfl
        · have hne : decide (V.int at' = V.int g) = false := by simp [hg']
          rw [hne]
          refine iteT ?_
          obtain ⟨z, hz, e1, q'', e2, hq''⟩ := node_at hTr hq' h0
          subst e1
          obtain ⟨b, hb1, hb2⟩ := bk.get hnd hz
          refine ⟨_, rfl, _, rfl, d, _, rfl, hb1, b, _, _, _, rfl, rfl, SqT.of hb2, r3_0 z.2, ?_⟩
          have mz : z.2 ∈ nds zs := List.mem_map.mpr ⟨z, hz, rfl⟩
          refine ⟨⟨z.2.par, q'', rfl, hq'', hu.trans ⟨fun h => h.inv hTr mz rfl hg', fun h => .up mz h⟩, rfl⟩, ?_⟩
          show plen (nds zs) z.2.par < plen (nds zs) z.2.num
          rw [plen_of hTr hq'', plen_of hTr hq', e2]
          simp
    · rintro σ H1 Q1 Q2 m ⟨v, e, h2, b, e3, q⟩
      refine ⟨v, e, h2, b, e3, ?_⟩
      cases b with
      | false => exact m _ _ q
      | true =>
        obtain ⟨v1, f1, v2, f2, h3, b', e4, q'⟩ := q
        exact ⟨v1, f1, v2, f2, h3, b', e4, m _ _ q'⟩
end
end TK
set_option Elab.async false
set_option linter.all false
set_option maxRecDepth 100000
set_option maxHeartbeats 8000000
namespace TK
open PySem L2
noncomputable def btS (i : Nat) : Stmt := (defBody s_law_between).getD i (.Pass ⟨0, 0, 0, 0⟩)
noncomputable def BN : List Str := ["_law_one", "_law_other", "_law_first", "_law_second", "_law_numbers", "_law_pairs"]
theorem scBt : FnScope BN ["_law_one", "_law_other"] (defScope s_law_between) := ⟨rfl, rfl, rfl, by decide +kernel, rfl, by decide +kernel, by decide +kernel⟩
noncomputable abbrev BtX (P : Program) (w : World) (K : PySem.W.Frag) (mg : Str → Option Value) (base : Heap) (f : Addr) (cdv : Value) (A : Around) (outer : List Env) (s : Shared) (H : Hp) (E : XK) : Cx := (cxOf CX0 P w K mg base BN "_law_between" (defScope s_law_between) f cdv A outer s H E).nox
section
variable {P : Program} {w : World} {K : PySem.W.Frag} {mg : Str → Option Value} {base : Heap} {f : Addr} {cdv : Value} {A : Around} {outer : List Env} {s : Shared} {H0 : Hp} {E : XK}
theorem bt2 (T : Txt mg) : ∃ t, PS (BtX P w K mg base f cdv A outer s H0 E) (btS 2) t ∧ ∀ (D : Ends) (H : Hp) (x0 x1 x5 : Option V) (d d2 : Addr) (as bs : List (Addr × (Addr × Nd))) (zs us : ZN), Book H d as zs → Book H d2 bs us → zs.length ≤ 30 → us.length ≤ 30 →
      (∀ (l : Addr) (ns : List Int) (H' : Hp), Same H H' → H' l = some (.lst (ns.map V.int)) → ns.Pairwise (· < ·) → ns.length ≤ 60 → (∀ k, k ∈ ns ↔ k ∈ (nds zs).map (·.num) ∨ k ∈ (nds us).map (·.num)) → D.nx [x0, x1, some (.ref d), some (.ref d2), some (.ref l), x5] H') → t D [x0, x1, some (.ref d), some (.ref d2), none, x5] H := by
  refine ⟨_, ps_set (i := 4) scBt.nd rfl (Or.inl rfl) (pe_callB (call_sorted_is rfl) rfl T.sorted PyProof.Rows.boot_sorted (pa_cons (pe_callTy (call_set_ints rfl) rfl T.set rfl (pa_cons (pe_op op_cat (pe_callTy (call_listR rfl) rfl T.list rfl (pa_cons (pv 2) pa_nil)) (pe_callTy (call_listR rfl) rfl T.list rfl (pa_cons (pv 3) pa_nil))) pa_nil)) pa_nil)), ?_⟩
  intro D H x0 x1 x5 d d2 as bs zs us bk bk2 hl1 hl2 q
  have e1 : (bookK as).map (fun p => kV p.1) = ((nds zs).map (·.num)).map V.int := by
    rw [bookK_N, bookN_keys, ← bk.of]; unfold nds; simp only [List.map_map]; rfl
  have e2 : (bookK bs).map (fun p => kV p.1) = ((nds us).map (·.num)).map V.int := by
    rw [bookK_N, bookN_keys, ← bk2.of]; unfold nds; simp only [List.map_map]; rfl
  refine ⟨_, rfl, d, _, rfl, bk.dict, fun l1 hl1' => ?_⟩
  have s1 := same_upd (o := .lst ((bookK as).map fun p => kV p.1)) hl1'
  have g1 : upd H l1 (.lst ((bookK as).map fun p => kV p.1)) l1 = some (.lst (((nds zs).map (·.num)).map V.int)) := by rw [upd_same, e1]
  generalize upd H l1 (.lst ((bookK as).map fun p => kV p.1)) = H1 at s1 g1 ⊢
  refine ⟨_, rfl, d2, _, rfl, (bk2.same s1).dict, fun l2 hl2' => ?_⟩
  have s2 := s1.trans (same_upd (o := .lst ((bookK bs).map fun p => kV p.1)) hl2')
  have g2 : upd H1 l2 (.lst ((bookK bs).map fun p => kV p.1)) l2 = some (.lst (((nds us).map (·.num)).map V.int)) := by rw [upd_same, e2]
  have g1' : upd H1 l2 (.lst ((bookK bs).map fun p => kV p.1)) l1 = some (.lst (((nds zs).map (·.num)).map V.int)) := upd_keep hl2' g1
  generalize upd H1 l2 (.lst ((bookK bs).map fun p => kV p.1)) = H2 at s2 g2 g1' ⊢
  refine ⟨l1, l2, _, _, rfl, rfl, g1', g2, by simp only [List.length_map, nds_len]; exact le_line (by omega), fun l3 hl3 => ?_⟩
  have s3 := s2.trans (same_upd (o := .lst (((nds zs).map (·.num)).map V.int ++ ((nds us).map (·.num)).map V.int)) hl3)
  have g3 : upd H2 l3 (.lst (((nds zs).map (·.num)).map V.int ++ ((nds us).map (·.num)).map V.int)) l3 = some (.lst (((nds zs).map (·.num) ++ (nds us).map (·.num)).map V.int)) := by rw [upd_same, List.map_append]
  generalize upd H2 l3 (.lst (((nds zs).map (·.num)).map V.int ++ ((nds us).map (·.num)).map V.int)) = H3 at s3 g3 ⊢
  refine ⟨l3, _, rfl, SqL.of g3, by simp only [List.length_append, List.length_map, nds_len]; omega, fun ms hms hmem p4 hp4 => ?_⟩
  have s4 := s3.trans (same_upd (o := IntS (BtX P w K mg base f cdv A outer s H0 E).w p4 ms) hp4)
  have hml : ms.length ≤ 60 := by
    have := nodup_le hms fun x hx => (hmem x).mp hx
    simp only [List.length_append, List.length_map, nds_len] at this
    omega
  refine ⟨p4, ms, rfl, upd_same, hml, fun ns hns hup p5 hp5 => ?_⟩
  have s5 := s4.trans (same_upd (o := .lst (ns.map V.int)) hp5)
  refine q p5 ns _ s5 upd_same hup (by rw [hns.length_eq]; exact hml) fun k => ?_
  rw [hns.mem_iff, hmem k, List.mem_append]
theorem bt3 (hr : Room 1 (A.deeper (PyProof.Rows.envOfC "_law_between" (defScope s_law_between) s.heap.objs.size f cdv))) :
    ∃ t, PS (BtX P w K mg base f cdv A outer s H0 E) (btS 3) t ∧ ∀ (D : Ends) (H : Hp) (x0 x1 : Option V) (d d2 l : Addr) (as bs : List (Addr × (Addr × Nd))) (zs us : ZN) (ns : List Int), Book H d as zs → Book H d2 bs us → TW.Tree1 (nds zs) → TW.Tree1 (nds us) → H l = some (.lst (ns.map V.int)) → ns.length ≤ 60 →
      (∀ (p : Addr) (es : ZR) (H' : Hp), Same H H' → H' p = some (.lst (rrefs es)) → (∀ e ∈ es, RowAt H' e.1 e.2) → rows es = ns.map (TW.rowOf (nds zs) (nds us)) → D.nx [x0, x1, some (.ref d), some (.ref d2), some (.ref l), some (.ref p)] H') → t D [x0, x1, some (.ref d), some (.ref d2), some (.ref l), none] H := by
  refine ⟨_, ps_setLc (ii := 5) (N := ["_law_number", "_law_first", "_law_second"]) (cl := [("_law_second", s.heap.objs.size + 2), ("_law_first", s.heap.objs.size + 1)]) (k := 1) (js := [2, 3]) (g := gName 0) scBt.nd rfl (Or.inl rfl) rfl
      (LcOk.mk' ["_law_second", "_law_first"] rfl rfl (by decide +kernel) (by decide +kernel) ?hcl rfl (by decide +kernel)) rfl ?hj (pi_list (pv 4)) (fun s H fp => pg_name (i := 0) (show (["_law_number", "_law_first", "_law_second"] : List Str).Nodup by decide +kernel) rfl (Or.inl rfl) (Or.inr rfl))
      (fun s H fp => pe_tup (pa_cons (pv 0) (pa_cons (pe_dget1 (hu_of hr) (pv 1) (pv 0) ⟨rfl, rfl, rfl, rfl⟩) (pa_cons (pe_dget1 (hu_of hr) (pv 2) (pv 0) ⟨rfl, rfl, rfl, rfl⟩) pa_nil)))), ?_⟩
  case hcl =>
    intro y hy
    rcases List.mem_cons.mp hy with e | hy
    · rw [e]; rfl
    · rcases List.mem_cons.mp hy with e | hy
      · rw [e]; rfl
      · cases hy
  case hj =>
    intro i j x h1 h2
    match i, h1, h2 with
    | 0, h1, h2 =>
      cases h1
      cases h2
      exact ⟨rfl, Or.inr (Or.inl rfl), (show ((defScope s_law_between).names.lookup ("_law_first" : Str) ≠ some NameKind.local) by decide +kernel), by first | exact Or.inl rfl | exact Or.inr rfl⟩
    | 1, h1, h2 =>
      cases h1
      cases h2
      exact ⟨rfl, Or.inr (Or.inl rfl), (show ((defScope s_law_between).names.lookup ("_law_second" : Str) ≠ some NameKind.local) by decide +kernel), by first | exact Or.inl rfl | exact Or.inr rfl⟩
    | i + 2, h1, h2 => simp at h1
  intro D H x0 x1 d d2 l as bs zs us ns bk bk2 T1 T2 hl hn q
  refine ⟨_, rfl, l, rfl, ⟨_, SqL.of hl⟩, fun p hp => ?_⟩
  refine lc_each (fr := [some (.ref d), some (.ref d2)]) ns V.int (by omega) hp (src_lst (SqL.of hl)) rfl (fun k y H' => ∃ c vo vn, y = .ref c ∧ c ≠ p ∧ H' c = some (.tup [.int k, vo, vn]) ∧ OptV H' vo (TW.findN (nds zs) k) ∧ OptV H' vn (TW.findN (nds us) k) ∧ vo ≠ .ref p ∧ vn ≠ .ref p) (fun k y H H' h ex => ?_) (fun k H' kk mk s1 hpl hk => ?_) (fun ys H' s1 hp' hys => ?_)
  · obtain ⟨c, vo, vn, e, ne, h1, h2, h3, n1, n2⟩ := h
    have ov : ∀ {v : V} {o : Option Nd}, v ≠ .ref p → OptV H v o → OptV H' v o := fun hv h => by
      rcases h with h | ⟨q, n, e, h, e2⟩
      · exact .inl h
      · exact .inr ⟨q, n, e, ex q _ (fun z => hv (by rw [e, z])) h, e2⟩
    exact ⟨c, vo, vn, e, ne, ex c _ ne h1, ov n1 h2, ov n2 h3, n1, n2⟩
  · obtain ⟨r1, hr1, ho1⟩ := (bk.same s1).optV T1 k
    obtain ⟨r2, hr2, ho2⟩ := (bk2.same s1).optV T2 k
    have np : ∀ {v : V} {o : Option Nd}, OptV H' v o → v ≠ .ref p := fun h e => by
      rcases h with ⟨h, _⟩ | ⟨q, n, e2, h, _⟩
      · rw [h] at e; cases e
      · rw [e2] at e
        injection e with e
        obtain ⟨ys, hy⟩ := hpl
        rw [e, hy] at h
        cases h
    refine ⟨_, rfl, _, rfl, d, rfl, .inl ⟨_, (bk.same s1).dict⟩, _, rfl, r1, hr1, _, rfl, d2, rfl, .inl ⟨_, (bk2.same s1).dict⟩, _, rfl, r2, hr2, (show 3 ≤ sizeLine from le_line (by decide)), fun c hc => ?_⟩
    have s2 := same_upd (o := .tup [.int k, r1.getD .non, r2.getD .non]) hc
    exact hk _ _ s2 ⟨c, _, _, rfl, new_ne hpl hc, upd_same, ho1.same s2, ho2.same s2, np ho1, np ho2⟩
  · obtain ⟨cs, e1, e2, e3⟩ := paired_ex (val := V.ref) (S := fun (k : Int) (c : Addr) => RowAt H' c (TW.rowOf (nds zs) (nds us) k)) hys (fun k y _ ⟨c, vo, vn, e, _, h1, h2, h3, _⟩ => ⟨c, e, ⟨vo, vn, h1, h2, h3⟩, rowOf_ok k⟩)
    refine q p (cs.map fun x => (x.2, TW.rowOf (nds zs) (nds us) x.1)) H' s1 (by rw [hp', e2]; unfold rrefs; rw [List.map_map]; rfl) (fun e he => ?_) ?_
    · obtain ⟨x, hx, rfl⟩ := List.mem_map.mp he
      exact e3 x hx
    · unfold rows
      rw [List.map_map, ← e1, List.map_map]; rfl
end
section
variable {P : Program} {w : World} {K : PySem.W.Frag} {mg : Str → Option Value} {base : Heap}
noncomputable def spLBt : Sp := fun vs H Q _ => ∃ t u zs us, vs = [.ref t, .ref u] ∧ Tre H t zs ∧ Tre H u us ∧ ∀ c es H', Same H H' → ChgAt H' c es → TW.Chg (nds zs) (nds us) (rows es) → Q (.ref c) H'
theorem ok_lbt {f : Addr} {fd : FuncData} (F : Fun K "_law_between" "_law_between" s_law_between f fd) (T : Txt mg) (CP : Has P w K mg base 1 "_law_book" ["_law_tree_here"] spBook) : FnOk P w K mg base CX0 2 f fd ["_law_one", "_law_other"] spLBt := by
  obtain ⟨fP, fdP, GP, mP, kP, bP⟩ := CP
  refine F.ok scBt (fun vs H Q E h => ?_) (fun cdv A outer s H vs Q E hr h => ?_)
  · obtain ⟨t, u, zs, us, rfl, _⟩ := h
    rfl
  · obtain ⟨t, u, zs, us, rfl, tr, tr2, q⟩ := h
    have hr1 : Room 1 _ := hr.mono (by decide)
    obtain ⟨t2, p2, h2⟩ := bt2 (P := P) (w := w) (K := K) (base := base) (f := f) (cdv := cdv) (A := A) (outer := outer) (s := s) (H0 := H) (E := E) T
    obtain ⟨t3, p3, h3⟩ := bt3 (P := P) (w := w) (K := K) (mg := mg) (base := base) (f := f) (cdv := cdv) (A := A) (outer := outer) (s := s) (H0 := H) (E := E) hr1
    refine ⟨_, pss_cons (ps_set (i := 2) scBt.nd rfl (Or.inr rfl) (pe_call GP hr1 rfl mP kP bP .nil pass0 (pa_cons (pv 0) pa_nil)))
      (pss_cons (ps_set (i := 3) scBt.nd rfl (Or.inr rfl) (pe_call GP hr1 rfl mP kP bP .nil pass0 (pa_cons (pv 1) pa_nil))) (pss_cons p2 (pss_cons p3
      (pss_one (ps_ret (pe_callTy call_tuple_of rfl T.tuple rfl (pa_cons (pe_lc1 (N := ["_law_row"]) (cl := []) (k := 1) (js := []) (g := gName 0) rfl (lc_ok0 rfl (by decide +kernel) (by decide +kernel) (by decide +kernel)) rfl (fun i j x h => by simp at h)
        (pi_list (pv 5)) (fun s H fp => pg_name (i := 0) (show (["_law_row"] : List Str).Nodup by decide +kernel) rfl (Or.inl rfl) (Or.inr rfl))
        (fun s H fp => pt_cmpR (op_neO (hu_of hr)) (pe_ix (r := rIxT K) ix_tup (pv 0) pe_int (fun _ _ => rfl)) (pe_ix (r := rIxT K) ix_tup (pv 0) pe_int (fun _ _ => rfl)) (nomark _)) (fun s H fp => pv 0)) pa_nil))))))), ?_⟩
    refine ⟨_, rfl, t, zs, rfl, tr, fun d as H1 s1 _ bk _ => ?_⟩
    refine ⟨_, rfl, u, us, rfl, tr2.same s1, fun d2 bs H2 s2 _ bk2 _ => ?_⟩
    refine h2 _ H2 _ _ _ d d2 as bs zs us (bk.same s2) bk2 tr.len tr2.len fun l ns H3 s3 hl hup hn hm => ?_
    refine h3 _ H3 _ _ d d2 l as bs zs us ns ((bk.same s2).same s3) (bk2.same s3) tr.tr tr2.tr hl hn fun l4 es H4 s4 hl4 he hrows => ?_
    have hel : es.length ≤ 60 := by
      have := congrArg List.length hrows
      unfold rows at this
      rw [List.length_map, List.length_map] at this
      omega
    refine ⟨_, rfl, l4, rfl, ⟨_, SqL.of hl4⟩, fun p hp => ?_⟩
    refine lc_sel (fr := []) es (fun e => V.ref e.1) (by omega) hp (src_lst (SqL.of hl4)) rfl unl (fun e y _ => y = .ref e.1) (fun e y H H' h _ => h) (fun e H' k' me s5 _ hk => ?_) (fun e H' k' me _ s5 _ hk => ⟨_, rfl, hk _ H' (Same.refl _) rfl⟩) (fun ys H' s5 hp' hys => ?_)
    · obtain ⟨⟨vo, vn, g1, g2, g3⟩, ok⟩ := (he e me).same s5
      refine ⟨_, rfl, e.1, _, _, _, rfl, rfl, SqT.of g1, rfl, _, rfl, e.1, _, _, _, rfl, rfl, SqT.of g1, rfl, _, _, g2.ot, g3.ot, _, rfl, ?_⟩
      have eb : (!decide (e.2.o.map rest3 = e.2.n.map rest3)) = unl e := by
        unfold unl
        have := ok.eq
        by_cases z : e.2.o = e.2.n
        · rw [decide_eq_true (this.mpr z), decide_eq_true z]
        · rw [decide_eq_false (fun q => z (this.mp q)), decide_eq_false z]
      rw [eb]
      exact hk H' (Same.refl _)
    · have ey := paired_map (f := fun e : Addr × Row => V.ref e.1) hys (fun e y _ h => h)
      refine ⟨p, _, rfl, .inl ⟨SqL.of hp', fun c hc => ?_⟩⟩
      have s6 := s5.trans (same_upd (o := .tup ys) hc)
      refine q c (es.filter unl) _ ((((s1.trans s2).trans s3).trans s4).trans s6) ⟨by rw [upd_same, ey]; rfl, fun e me => (he e (List.mem_filter.mp me).1).same s6, Nat.le_trans (List.length_filter_le _ _) hel⟩ ?_
      have e1 : rows (es.filter unl) = _ := rows_filter hrows
      rw [e1]
      refine TW.chg_of hup fun k hk => .inl ((hm k).mpr ?_)
      rcases hk with h | h
      · exact .inl (nums_find h)
      · exact .inr (nums_find h)
end
end TK
set_option Elab.async false
set_option linter.all false
set_option maxRecDepth 100000
set_option maxHeartbeats 8000000
namespace TK
open PySem L2
noncomputable def ldS (i : Nat) : Stmt := (defBody sLDone).getD i (.Pass ⟨0, 0, 0, 0⟩)
noncomputable def DN : List Str := ["_law_tree_here", "_law_deed_here", "_law_book_here", "_law_number", "_law_parent"]
theorem scLDone : FnScope DN ["_law_tree_here", "_law_deed_here"] (defScope sLDone) := ⟨rfl, rfl, rfl, by decide +kernel, rfl, by decide +kernel, by decide +kernel⟩
noncomputable abbrev DX (P : Program) (w : World) (K : PySem.W.Frag) (mg : Str → Option Value) (base : Heap) (f : Addr) (cdv : Value) (A : Around) (outer : List Env) (s : Shared) (H : Hp) (E : XK) : Cx := (cxOf CX0 P w K mg base DN "_law_done" (defScope sLDone) f cdv A outer s H E).nox
section
variable {P : Program} {w : World} {K : PySem.W.Frag} {mg : Str → Option Value} {base : Heap} {f : Addr} {cdv : Value} {A : Around} {outer : List Env} {s : Shared} {H0 : Hp} {E : XK}
theorem ld_end (T : Txt mg) (hr : Room 1 (A.deeper (PyProof.Rows.envOfC "_law_done" (defScope sLDone) s.heap.objs.size f cdv))) :
    ∃ t, PS (DX P w K mg base f cdv A outer s H0 E) (ldS 6) t ∧ ∀ (D : Ends) (H : Hp) (σ : St) (x0 x1 x3 x4 : Option V) (d : Addr) (bs : List (Addr × Nd)), σ = [x0, x1, some (.ref d), x3, x4] → H d = some (.dK (bookN bs)) → (∀ b ∈ bs, H b.1 = some (.tup (rest3 b.2))) → (bs.map (·.2.num)).Nodup → bs.length ≤ 60 →
      (∀ o us t' H', Same (upd H d (.frz o (.dK (bookN bs)))) H' → H' t' = some (.tup (refs us)) → At H' us → (nds us).Perm (bs.map (·.2)) → TW.Rise (nds us) → D.rt (.ref t') H') → t D σ H := by
  refine ⟨_, ps_ret (pe_callTy call_tuple_of rfl T.tuple rfl (pa_cons (pe_callB call_sorted_tupsS rfl T.sorted PyProof.Rows.boot_sorted (pa_cons (pe_lc (N := ["_law_one", "_law_book_here"]) (cl := [("_law_book_here", s.heap.objs.size + 1)]) (k := 1) (js := [2]) (g := gName 0) rfl
        (LcOk.mk' ["_law_book_here"] rfl rfl (by decide +kernel) (by decide +kernel) ?hcl rfl (by decide +kernel)) rfl ?hj (pi_dK (pv 2)) (fun s H fp => pg_name (i := 0) (show (["_law_one", "_law_book_here"] : List Str).Nodup by decide +kernel) rfl (Or.inl rfl) (Or.inr rfl))
        (fun s H fp => pe_op (r := rCatT K) op_catT (pe_tup (pa_cons (pv 0) pa_nil)) (pe_dget (hu_of hr) (pv 1) (pv 0) (fun _ _ => rfl)))) pa_nil)) pa_nil)), ?_⟩
  case hcl =>
    intro y hy
    rcases List.mem_cons.mp hy with e | hy
    · rw [e]; rfl
    · cases hy
  case hj =>
    intro i j x h1 h2
    match i, h1, h2 with
    | 0, h1, h2 =>
      cases h1
      cases h2
      exact ⟨rfl, Or.inr (Or.inl rfl), (show ((defScope sLDone).names.lookup ("_law_book_here" : Str) ≠ some NameKind.local) by decide +kernel), by first | exact Or.inl rfl | exact Or.inr rfl⟩
    | i + 1, h1, h2 => simp at h1
  rintro D H _ x0 x1 x3 x4 d bs rfl hd hb hnd hl q
  refine ⟨_, rfl, d, _, rfl, hd, fun o p hp => ?_⟩
  have hb1 : ∀ b ∈ bs, upd H d (.frz o (.dK (bookN bs))) b.1 = some (.tup (rest3 b.2)) := fun b mb => by
    rw [upd_ne]
    · exact hb b mb
    · intro e
      have := hb b mb
      rw [e, hd] at this
      cases this
  have hd1 : upd H d (.frz o (.dK (bookN bs))) d = some (.frz o (.dK (bookN bs))) := upd_same
  have sq : ∀ us t' H', Same (upd H d (.frz o (.dK (bookN bs)))) H' → H' t' = some (.tup (refs us)) → At H' us → (nds us).Perm (bs.map (·.2)) → TW.Rise (nds us) → D.rt (.ref t') H' := q o
  generalize upd H d (.frz o (.dK (bookN bs))) = H1 at hb1 hd1 sq hp ⊢
  rw [bookN_keys]
  refine lc_each (fr := [some (.ref d)]) bs (fun b => V.int b.2.num) (by omega) hp (src_keys hd1) rfl (fun b y H' => ∃ q, y = .ref q ∧ q ≠ p ∧ H' q = some (.tup (vals b.2))) (fun b y H H' ⟨q, e, ne, h⟩ ex => ⟨q, e, ne, ex q _ ne h⟩) (fun b H' k mb s1 hpl hk => ?_) (fun ys H' s1 hp' hys => ?_)
  · refine ⟨_, rfl, (show 1 ≤ sizeLine from le_line (by decide)), fun c hc => ?_⟩
    have s2 := same_upd (o := .tup [.int b.2.num]) hc
    refine ⟨_, rfl, _, rfl, d, _, rfl, .inl ⟨bookN bs, Sum.inl b.2.num, .inr ⟨o, s2 _ _ (s1 _ _ hd1)⟩, rfl, (bookN_val hnd mb).symm⟩, c, b.1, _, _, rfl, rfl, SqT.of upd_same, SqT.of (s2 _ _ (s1 _ _ (hb1 b mb))), by simp, (show 4 ≤ sizeLine from le_line (by decide)), fun h => absurd h (List.cons_ne_nil _ _), fun _ q hq => ?_⟩
    have hpl2 : ∃ ys, upd H' c (.tup [.int b.2.num]) p = some (.lst ys) := let ⟨ys, e⟩ := hpl; ⟨ys, s2 _ _ e⟩
    exact hk _ _ (s2.trans (same_upd hq)) ⟨q, rfl, new_ne hpl2 hq, upd_same⟩
  · obtain ⟨cs, e1, e2, e3⟩ := paired_ex (val := V.ref) (S := fun (b : Addr × Nd) (q : Addr) => H' q = some (.tup (vals b.2))) hys (fun b y _ ⟨q, e, _, h⟩ => ⟨q, e, h⟩)
    have er : ys = refs (cs.map fun x => (x.2, x.1.2)) := by rw [e2, ← refs_map, List.map_map]; rfl
    have en : nds (cs.map fun x => (x.2, x.1.2)) = bs.map (·.2) := by rw [← e1]; unfold nds; rw [List.map_map, List.map_map]; rfl
    have hcl : cs.length = bs.length := by rw [← e1, List.length_map]
    refine read_sorted (zs := cs.map fun x => (x.2, x.1.2)) (.inl (SqL.of (by rw [hp', er]))) (fun z hz => ?_) ?_ (by rw [List.length_map]; omega) (fun us t' H2 s2 ht' hA' hpm hrise => ?_)
    · obtain ⟨x, hx, rfl⟩ := List.mem_map.mp hz
      exact e3 x hx
    · rw [en, List.map_map]
      exact hnd
    · refine sq us t' H2 (s1.trans s2) ht' hA' ?_ hrise
      have : (nds us).Perm (nds (cs.map fun x => (x.2, x.1.2))) := hpm.map _
      rw [en] at this
      exact this
theorem ld_drop (T : Txt mg) (hr : Room 1 (A.deeper (PyProof.Rows.envOfC "_law_done" (defScope sLDone) s.heap.objs.size f cdv))) (CU : Has P w K mg base 1 "_law_under" ["_law_book_here", "_law_number", "_law_goal"] spUnd) :
    ∃ t, PS (DX P w K mg base f cdv A outer s H0 E) (ldS 4) t ∧ ∀ (D : Ends) (H : Hp) (σ : St) (a c d : Addr) (dd : TW.Deed Str) (n : Int) (as : List (Addr × (Addr × Nd))) (zs : ZN), σ = [some (.ref a), some (.ref c), some (.ref d), some (.int n), none] → Tre H a zs → H c = some (.tup (deedV dd)) → Book H d as zs → 1 ≤ n →
      ((∃ k, dd = .drop k) → ∀ us t' H' (g : Nd → Bool), Same H H' → H' t' = some (.tup (refs us)) → At H' us → nds us = (nds zs).filter g → (∀ m ∈ nds zs, g m = true ↔ ¬ TW.Und (nds zs) n m.num) → D.rt (.ref t') H') → ((¬ ∃ k, dd = .drop k) → D.nx σ H) → t D σ H := by
  obtain ⟨fU, fdU, GU, mU, kU, bU⟩ := CU
  refine ⟨_, ps_if (pt_cmpR op_eq (pe_ix ix_tup (pv 1) pe_int (fun _ _ => rfl)) pe_str (nomark _)) (pss_one (ps_ret (pe_callTy call_tuple_of rfl T.tuple rfl (pa_cons (pe_lc1 (N := ["_law_node", "_law_book_here", "_law_number"]) (cl := [("_law_number", s.heap.objs.size + 2), ("_law_book_here", s.heap.objs.size + 1)]) (k := 1) (js := [2, 3]) (g := gName 0) rfl
        (LcOk.mk' ["_law_number", "_law_book_here"] rfl rfl (by decide +kernel) (by decide +kernel) ?hcl rfl (by decide +kernel)) rfl ?hj (pi_tup (pv 0)) (fun s H fp => pg_name (i := 0) (show (["_law_node", "_law_book_here", "_law_number"] : List Str).Nodup by decide +kernel) rfl (Or.inl rfl) (Or.inr rfl))
        (fun s H fp => pt_not (pt_val (pe_call (X := lcCx _ _ _ _ _ _ _) GU hr rfl mU kU bU .nil pass0 (pa_cons (pv 1) (pa_cons (pe_ix (r := rIxT K) ix_tup (pv 0) pe_int (fun _ _ => rfl)) (pa_cons (pv 2) pa_nil)))) (fun _ => rfl))) (fun s H fp => pv 0)) pa_nil)))) pss_nil, ?_⟩
  case hcl =>
    intro y hy
    rcases List.mem_cons.mp hy with e | hy
    · rw [e]; rfl
    · rcases List.mem_cons.mp hy with e | hy
      · rw [e]; rfl
      · cases hy
  case hj =>
    intro i j x h1 h2
    match i, h1, h2 with
    | 0, h1, h2 =>
      cases h1
      cases h2
      exact ⟨rfl, Or.inr (Or.inl rfl), (show ((defScope sLDone).names.lookup ("_law_book_here" : Str) ≠ some NameKind.local) by decide +kernel), by first | exact Or.inl rfl | exact Or.inr rfl⟩
    | 1, h1, h2 =>
      cases h1
      cases h2
      exact ⟨rfl, Or.inr (Or.inl rfl), (show ((defScope sLDone).names.lookup ("_law_number" : Str) ≠ some NameKind.local) by decide +kernel), by first | exact Or.inl rfl | exact Or.inr rfl⟩
    | i + 2, h1, h2 => simp at h1
  rintro D H _ a c d dd n as zs rfl tr hc bk hn q1 q2
  have hT := tr.tr
  have hl := tr.len
  have sd : SqT K H c (deedV dd) := SqT.of hc
  cases dd with
  | make n' p nm st => exact ⟨_, rfl, c, _, _, _, rfl, rfl, sd, rfl, rfl, _, rfl, iteF (q2 fun ⟨k, e⟩ => by cases e)⟩
  | write n' st => exact ⟨_, rfl, c, _, _, _, rfl, rfl, sd, rfl, rfl, _, rfl, iteF (q2 fun ⟨k, e⟩ => by cases e)⟩
  | move n' p nm => exact ⟨_, rfl, c, _, _, _, rfl, rfl, sd, rfl, rfl, _, rfl, iteF (q2 fun ⟨k, e⟩ => by cases e)⟩
  | drop n' =>
    refine ⟨_, rfl, c, _, _, _, rfl, rfl, sd, rfl, rfl, _, rfl, iteT ?_⟩
    refine ⟨_, rfl, a, rfl, ⟨_, SqT.of tr.tup⟩, fun p hp => ?_⟩
    classical
    refine lc_sel (fr := [some (.ref d), some (.int n)]) zs (fun z => V.ref z.1) (by omega) hp (src_tup (by rw [refs_map]; exact SqT.of tr.tup)) rfl (fun z => !decide (TW.Und (nds zs) n z.2.num)) (fun z y _ => y = .ref z.1) (fun z y H H' h _ => h) (fun z H' k mz s1 _ hk => ?_) (fun z H' k mz _ s1 _ hk => ⟨_, rfl, hk _ H' (Same.refl _) rfl⟩) (fun ys H' s1 hp' hys => ?_)
    · obtain ⟨pa, hpa⟩ := TW.PathTo.ex hT (mem_nds mz)
      refine ⟨_, rfl, _, rfl, z.1, _, _, _, rfl, rfl, SqT.of (s1 _ _ (tr.nod z mz)), at0 z.2, _, rfl, d, z.2.num, n, as, zs, pa, rfl, bk.same s1, hT, hpa, hn, fun b hb => ⟨b, rfl, ?_⟩⟩
      have : b = decide (TW.Und (nds zs) n z.2.num) := by rw [Bool.eq_iff_iff, hb, decide_eq_true_eq]
      rw [this]
      exact hk H' (Same.refl _)
    · have ey := paired_map (f := fun z : Addr × Nd => V.ref z.1) hys (fun z y _ h => h)
      refine ⟨p, _, rfl, .inl ⟨SqL.of hp', fun l hl' => ?_⟩⟩
      have s2 := s1.trans (same_upd (o := .tup ys) hl')
      refine q1 ⟨n', rfl⟩ (zs.filter fun z => !decide (TW.Und (nds zs) n z.2.num)) l _ (fun m => !decide (TW.Und (nds zs) n m.num)) s2 (by rw [upd_same, ey, refs_map]) (fun y hy => s2 _ _ (tr.nod y (List.mem_filter.mp hy).1)) ?_ fun m _ => ?_
      · have hfm : ∀ g : Nd → Bool, nds (zs.filter fun z => g z.2) = (nds zs).filter g := fun g => by
          unfold nds
          rw [List.filter_map]; rfl
        exact hfm fun m => !decide (TW.Und (nds zs) n m.num)
      · rw [Bool.not_eq_true', decide_eq_false_iff_not]
end
end TK
set_option Elab.async false
set_option linter.all false
set_option maxRecDepth 100000
set_option maxHeartbeats 8000000
namespace TK
open PySem L2
noncomputable def elseB : List Stmt := match ldS 5 with
  | .If _ _ b _ => b
  | _ => []
noncomputable def elS (i : Nat) : Stmt := elseB.getD i (.Pass ⟨0, 0, 0, 0⟩)
structure LD (H0 H : Hp) (a c d : Addr) (dd : TW.Deed Str) (as : List (Addr × (Addr × Nd))) (zs : ZN) : Prop where
  s0 : Same H0 H
  d0 : H0 d = none
  tre : Tre H a zs
  deed : H c = some (.tup (deedV dd))
  book : Book H d as zs
theorem LD.same {H0 H H' : Hp} {a c d : Addr} {dd : TW.Deed Str} {as : List (Addr × (Addr × Nd))} {zs : ZN} (h : LD H0 H a c d dd as zs) (s : Same H H') : LD H0 H' a c d dd as zs :=
  ⟨h.s0.trans s, h.d0, h.tre.same s, s _ _ h.deed, h.book.same s⟩
theorem tup_ne {H : Hp} {a d : Addr} {xs : List V} {kvs : List (Key × V)} (h : H a = some (.tup xs)) (hd : Rd H d (.dK kvs)) : a ≠ d := fun e => by
  rcases hd with hd | ⟨o, hd⟩ <;> rw [e, hd] at h <;> cases h
theorem LD.turn {H0 H : Hp} {a c d : Addr} {dd : TW.Deed Str} {as : List (Addr × (Addr × Nd))} {zs : ZN} (h : LD H0 H a c d dd as zs) {u : HO} (hu : Rd (upd H d u) d (.dK (bookK as))) : LD H0 (upd H d u) a c d dd as zs := by
  have keep : ∀ {b : Addr} {xs : List V}, H b = some (.tup xs) → upd H d u b = some (.tup xs) := fun hb => by rw [upd_ne (tup_ne hb h.book.dict)]; exact hb
  exact ⟨same_over h.d0 h.s0, h.d0, ⟨keep h.tre.tup, fun z hz => keep (h.tre.nod z hz), h.tre.tr, h.tre.len⟩, keep h.deed, ⟨hu, h.book.of, fun a ha => keep (h.book.at' a ha)⟩⟩
section
variable {P : Program} {w : World} {K : PySem.W.Frag} {mg : Str → Option Value} {base : Heap} {f : Addr} {cdv : Value} {A : Around} {outer : List Env} {s : Shared} {H0 : Hp} {E : XK}
theorem ld_put (hr : Room 1 (A.deeper (PyProof.Rows.envOfC "_law_done" (defScope sLDone) s.heap.objs.size f cdv))) :
    ∃ t, PS (DX P w K mg base f cdv A outer s H0 E) (elS 5) t ∧ ∀ (D : Ends) (H : Hp) (a c d : Addr) (dd : TW.Deed Str) (n p : Int) (nm : Str) (as : List (Addr × (Addr × Nd))) (zs : ZN) (x4 : Option V) (o : Obj), LD H0 H a c d dd as zs → H d = some (.frz o (.dK (bookK as))) → MkMv (nds zs) dd n p nm → TW.Fold (nds zs) p → NotIn (nds zs) dd n p → (∀ m ∈ nds zs, m.num ≠ n → ¬ (m.par = p ∧ m.nm = nm)) →
      (∀ bs H', Same H0 H' → H' d = some (.dK (bookN bs)) → (∀ b ∈ bs, H' b.1 = some (.tup (rest3 b.2))) → (bs.map (·.2.num)).Nodup → bs.length ≤ zs.length + 1 → (∀ us, us.Perm (bs.map (·.2)) → TW.Rise us → TW.Told (nds zs) dd (.inr us)) → D.nx [some (.ref a), some (.ref c), some (.ref d), some (.int n), x4] H') →
      t D [some (.ref a), some (.ref c), some (.ref d), some (.int n), x4] H := by
  refine ⟨_, ps_thaw (ps_dput (hu_of hr) (pv 2) (pv 3) (pe_op op_catT (pe_slice sl_tup (pv 1) (po_some pe_int) (po_some pe_int)) (pe_tup (pa_cons (pe_ifExp (pt_cmpR op_eq (pe_ix ix_tup (pv 1) pe_int (fun _ _ => rfl)) pe_str (nomark _)) (pe_ix ix_tup (pv 1) pe_int (fun _ _ => rfl)) (pe_ix ix_tup (pe_dget (hu_of hr) (pv 2) (pv 3) (fun _ _ => rfl)) pe_int (fun _ _ => rfl))) pa_nil))) rfl), ?_⟩
  intro D H a c d dd n p nm as zs x4 o L0 hd mm hF hi hfree qn
  refine ⟨d, o, bookK as, L0.d0, hd, ?_⟩
  have L := L0.turn (u := .dK (bookK as)) (.inl upd_same)
  have hd1 : upd H d (.dK (bookK as)) d = some (.dK (bookK as)) := upd_same
  generalize upd H d (.dK (bookK as)) = H1 at L hd1 ⊢
  have hT := L.tre.tr
  have hnd := nums_nd hT
  have hlen := L.tre.len
  have fin : ∀ (st : Option Int) (q : Addr) (H2 : Hp), Same H1 H2 → H2 q = some (.tup (rest3 ⟨n, p, nm, st⟩)) → (∀ us, (TW.HasN (nds zs) n → us = (nds zs).map (TW.put ⟨n, p, nm, st⟩) → TW.Told (nds zs) dd (.inr us)) ∧ (¬ TW.HasN (nds zs) n → us.Perm (⟨n, p, nm, st⟩ :: nds zs) → TW.Rise us → TW.Told (nds zs) dd (.inr us))) →
      D.nx [some (.ref a), some (.ref c), some (.ref d), some (.int n), x4] (upd H2 d (.dK (putK (bookK as) (Sum.inl n : Key) (.ref q)))) := by
    intro st q H2 s2 hq ht
    have L2' := L.same s2
    obtain ⟨bs, e1, e2, e3, e4, e5⟩ := upd_book (new := ⟨n, p, nm, st⟩) (s2 _ _ hd1) L2'.book.of L2'.book.at' hq hnd
    refine qn bs _ (same_over L.d0 L2'.s0) e1 e2 e3 e4 fun us hp hrise => ?_
    rcases e5 with ⟨h1, h2⟩ | ⟨h1, h2⟩
    · rw [h2] at hp
      exact (ht us).1 h1 (TW.rise_one hrise (TW.put_rise hT.rise) hp)
    · rw [h2] at hp
      exact (ht us).2 h1 (hp.trans List.perm_append_comm) hrise
  have sd : ∀ {H2 : Hp}, Same H1 H2 → SqT K H2 c (deedV dd) := fun s2 => SqT.of (s2 _ _ L.deed)
  rcases mm with ⟨st, rfl, hno⟩ | ⟨rfl, hh⟩
  · refine ⟨_, rfl, _, rfl, _, rfl, c, _, rfl, sd (Same.refl _), (fun h => absurd h.1 (show ¬ HT.sIx 5 0 (some 2) = 0 by decide)), fun t1 ht1 => ?_⟩
    have s2 := same_upd (o := .tup (cutV (deedV (.make n p nm st)) (some 2) (some 4))) ht1
    refine ⟨_, rfl, c, _, _, _, rfl, rfl, sd s2, rfl, rfl, _, rfl, iteT ⟨_, rfl, c, _, _, _, rfl, rfl, sd s2, rfl, (show 1 ≤ sizeLine from le_line (by decide)), fun t2 ht2 => ?_⟩⟩
    have s3 := s2.trans (same_upd (o := .tup [stV st]) ht2)
    refine ⟨t1, t2, [.int p, .str nm], [stV st], rfl, rfl, SqT.of (upd_keep ht2 upd_same), SqT.of upd_same, by simp, (show 3 ≤ sizeLine from le_line (by decide)), fun h => absurd h (List.cons_ne_nil _ _), fun _ q hq => ?_⟩
    have s4 := s3.trans (same_upd (o := .tup ([.int p, .str nm] ++ [stV st])) hq)
    refine ⟨_, rfl, _, rfl, d, _, rfl, DPut.k (k := Sum.inl n) (s4 _ _ hd1) (small1000 ?_), fin st q _ s4 upd_same fun us => ⟨fun h _ => absurd h hno, fun _ hp hrise => .made hno hF (fun m hm h => hfree m hm (fun e => hno ⟨m, hm, e⟩) h) hp hrise⟩⟩
    have := congrArg List.length L.book.of
    unfold bookK
    rw [List.length_map] at this ⊢
    omega
  · refine ⟨_, rfl, _, rfl, _, rfl, c, _, rfl, sd (Same.refl _), (fun h => absurd h.1 (show ¬ HT.sIx 4 0 (some 2) = 0 by decide)), fun t1 ht1 => ?_⟩
    have s2 := same_upd (o := .tup (cutV (deedV (.move n p nm)) (some 2) (some 4))) ht1
    obtain ⟨m, hm, em⟩ := id hh
    obtain ⟨z, hz, rfl⟩ := of_nds hm
    obtain ⟨b, hb1, hb2⟩ := (L.same s2).book.get hnd hz
    rw [em] at hb1
    refine ⟨_, rfl, c, _, _, _, rfl, rfl, sd s2, rfl, rfl, _, rfl, iteF ⟨_, rfl, _, rfl, d, _, rfl, hb1, b, _, _, _, rfl, rfl, SqT.of hb2, r3_2 z.2, (show 1 ≤ sizeLine from le_line (by decide)), fun t2 ht2 => ?_⟩⟩
    have s3 := s2.trans (same_upd (o := .tup [stV z.2.st]) ht2)
    refine ⟨t1, t2, [.int p, .str nm], [stV z.2.st], rfl, rfl, SqT.of (upd_keep ht2 upd_same), SqT.of upd_same, by simp, (show 3 ≤ sizeLine from le_line (by decide)), fun h => absurd h (List.cons_ne_nil _ _), fun _ q hq => ?_⟩
    have s4 := s3.trans (same_upd (o := .tup ([.int p, .str nm] ++ [stV z.2.st])) hq)
    refine ⟨_, rfl, _, rfl, d, _, rfl, DPut.k (k := Sum.inl n) (s4 _ _ hd1) (small1000 ?_), fin z.2.st q _ s4 upd_same fun us => ⟨fun _ e => by rw [e]; exact .moved hm em hF (hi ⟨_, rfl⟩) hfree, fun h => absurd hh h⟩⟩
    have := congrArg List.length L.book.of
    unfold bookK
    rw [List.length_map] at this ⊢
    omega
theorem ld_taken (hr : Room 1 (A.deeper (PyProof.Rows.envOfC "_law_done" (defScope sLDone) s.heap.objs.size f cdv))) :
    ∃ t, PS (DX P w K mg base f cdv A outer s H0 E) (elS 4) t ∧ ∀ (D : Ends) (H : Hp) (a c d : Addr) (dd : TW.Deed Str) (n p : Int) (nm : Str) (as : List (Addr × (Addr × Nd))) (zs : ZN) (x4 : Option V), LD H0 H a c d dd as zs → H d = some (.dK (bookK as)) → MkMv (nds zs) dd n p nm →
      (∀ H', Same H0 H' → (∃ m ∈ nds zs, m.num ≠ n ∧ m.par = p ∧ m.nm = nm) → D.rt (.str "taken") H') →
      (∀ o H', LD H0 H' a c d dd as zs → H' d = some (.frz o (.dK (bookK as))) → (∀ m ∈ nds zs, m.num ≠ n → ¬ (m.par = p ∧ m.nm = nm)) → D.nx [some (.ref a), some (.ref c), some (.ref d), some (.int n), x4] H') →
      t D [some (.ref a), some (.ref c), some (.ref d), some (.int n), x4] H := by
  refine ⟨_, ps_if (pt_cmpR (op_in_tups (hu_of hr)) (pe_slice sl_tup (pv 1) (po_some pe_int) (po_some pe_int)) (pe_lc1 (N := ["_law_one", "_law_book_here", "_law_number"]) (cl := [("_law_number", s.heap.objs.size + 2), ("_law_book_here", s.heap.objs.size + 1)]) (k := 1) (js := [2, 3]) (g := gName 0) rfl
        (LcOk.mk' ["_law_number", "_law_book_here"] rfl rfl (by decide +kernel) (by decide +kernel) ?hcl rfl (by decide +kernel)) rfl ?hj (pi_dK (pv 2)) (fun s H fp => pg_name (i := 0) (show (["_law_one", "_law_book_here", "_law_number"] : List Str).Nodup by decide +kernel) rfl (Or.inl rfl) (Or.inr rfl))
        (fun s H fp => pt_cmpR op_ne (pv 0) (pv 2) (nomark _)) (fun s H fp => pe_slice (r := rSlT K) sl_tup (pe_dget (hu_of hr) (pv 1) (pv 0) (fun _ _ => rfl)) po_none (po_some pe_int))) rfl) (pss_one (ps_ret pe_str)) pss_nil, ?_⟩
  case hcl =>
    intro y hy
    rcases List.mem_cons.mp hy with e | hy
    · rw [e]; rfl
    · rcases List.mem_cons.mp hy with e | hy
      · rw [e]; rfl
      · cases hy
  case hj =>
    intro i j x h1 h2
    match i, h1, h2 with
    | 0, h1, h2 =>
      cases h1
      cases h2
      exact ⟨rfl, Or.inr (Or.inl rfl), (show ((defScope sLDone).names.lookup ("_law_book_here" : Str) ≠ some NameKind.local) by decide +kernel), by first | exact Or.inl rfl | exact Or.inr rfl⟩
    | 1, h1, h2 =>
      cases h1
      cases h2
      exact ⟨rfl, Or.inr (Or.inl rfl), (show ((defScope sLDone).names.lookup ("_law_number" : Str) ≠ some NameKind.local) by decide +kernel), by first | exact Or.inl rfl | exact Or.inr rfl⟩
    | i + 2, h1, h2 => simp at h1
  intro D H a c d dd n p nm as zs x4 L hd mm qt qn
  have hT := L.tre.tr
  have hnd := nums_nd hT
  have hlen := L.tre.len
  have ecut : cutV (deedV dd) (some 2) (some 4) = [Sum.inl p, Sum.inr nm].map kV := by rcases mm with ⟨st, rfl, _⟩ | ⟨rfl, _⟩ <;> rfl
  have nw : ¬ (HT.sIx (deedV dd).length 0 (some 2) = 0 ∧ HT.sIx (deedV dd).length (deedV dd).length (some 4) = (deedV dd).length) := by
    rcases mm with ⟨st, rfl, _⟩ | ⟨rfl, _⟩
    · exact fun h => absurd h.1 (show ¬ HT.sIx 5 0 (some 2) = 0 by decide)
    · exact fun h => absurd h.1 (show ¬ HT.sIx 4 0 (some 2) = 0 by decide)
  refine ⟨_, rfl, _, rfl, _, rfl, c, _, rfl, SqT.of L.deed, nw, fun t1 ht1 => ?_⟩
  have s1 := same_upd (o := .tup (cutV (deedV dd) (some 2) (some 4))) ht1
  have g1 : upd H t1 (.tup (cutV (deedV dd) (some 2) (some 4))) t1 = some (.tup ([Sum.inl p, Sum.inr nm].map kV)) := by rw [upd_same, ecut]
  have L1 := L.same s1
  have hd1 := s1 _ _ hd
  generalize upd H t1 (.tup (cutV (deedV dd) (some 2) (some 4))) = H1 at L1 g1 hd1 ⊢
  refine ⟨_, rfl, d, _, rfl, hd1, fun o p1 hp1 => ?_⟩
  have L2 := L1.turn (u := .frz o (.dK (bookK as))) (.inr ⟨o, upd_same⟩)
  have g2 : upd H1 d (.frz o (.dK (bookK as))) t1 = some (.tup ([Sum.inl p, Sum.inr nm].map kV)) := by rw [upd_ne (tup_ne g1 L1.book.dict)]; exact g1
  have hd2 : upd H1 d (.frz o (.dK (bookK as))) d = some (.frz o (.dK (bookK as))) := upd_same
  generalize upd H1 d (.frz o (.dK (bookK as))) = H2 at L2 g2 hd2 hp1 ⊢
  have eb : (as.map fun a => (a.1, a.2.2)).map (·.2) = nds zs := by rw [← L.book.of]; unfold nds; rw [List.map_map, List.map_map]; rfl
  have hbl : (as.map fun a => (a.1, a.2.2)).length = zs.length := by rw [← L.book.of, List.length_map, List.length_map]
  have hbn : ((as.map fun a => (a.1, a.2.2)).map (·.2.num)).Nodup := by
    have : (as.map fun a => (a.1, a.2.2)).map (·.2.num) = (nds zs).map (·.num) := by rw [← eb]; simp only [List.map_map]; rfl
    rw [this]; exact hnd
  have hba : ∀ b ∈ as.map (fun a => (a.1, a.2.2)), H2 b.1 = some (.tup (rest3 b.2)) := fun b hb => by
    obtain ⟨x, hx, rfl⟩ := List.mem_map.mp hb
    exact L2.book.at' x hx
  rw [bookK_N] at hd2 ⊢
  rw [bookN_keys]
  have hkeep : bookK as = bookN (as.map fun a => (a.1, a.2.2)) := bookK_N as
  generalize as.map (fun a => (a.1, a.2.2)) = bs at eb hbl hbn hba hd2 hkeep ⊢
  refine lc_sel (fr := [some (.ref d), some (.int n)]) bs (fun b => V.int b.2.num) (by omega) hp1 (src_keys hd2) rfl (fun b => !decide (V.int b.2.num = V.int n)) (fun b y H' => ∃ q, y = .ref q ∧ q ≠ p1 ∧ H' q = some (.tup ((plK b.2).map kV))) (fun b y H H' ⟨q, e, ne, h⟩ ex => ⟨q, e, ne, ex q _ ne h⟩) (fun b H' k mb s3 _ hk => ?_) (fun b H' k mb _ s3 hpl hk => ?_) (fun ys H3 s3 hp3 hys => ?_)
  · exact ⟨_, rfl, _, rfl, rfl, _, rfl, hk H' (Same.refl _)⟩
  · refine ⟨_, rfl, _, rfl, d, _, rfl, .inl ⟨bookN bs, Sum.inl b.2.num, .inr ⟨o, s3 _ _ hd2⟩, rfl, (bookN_val hbn mb).symm⟩, _, rfl, b.1, _, rfl, SqT.of (s3 _ _ (hba b mb)), (fun h => absurd h.2 (show ¬ HT.sIx 3 3 (some 2) = 3 by decide)), fun q hq => ?_⟩
    exact hk _ _ (same_upd hq) ⟨q, rfl, new_ne hpl hq, upd_same⟩
  · obtain ⟨cs, e1, e2, e3⟩ := paired_ex (val := V.ref) (S := fun (b : Addr × Nd) (q : Addr) => H3 q = some (.tup ((plK b.2).map kV))) hys (fun b y _ ⟨q, e, _, h⟩ => ⟨q, e, h⟩)
    refine ⟨t1, p1, _, cs.map fun x => (x.2, plK x.1.2), rfl, s3 _ _ g2, rfl, SqL.of (by rw [hp3, e2, List.map_map, List.map_map]; rfl), fun y hy => ?_, _, rfl, ?_⟩
    · obtain ⟨x, hx, rfl⟩ := List.mem_map.mp hy
      exact e3 x hx
    · have L3 := L2.same s3
      cases ha : ((cs.map fun x => (x.2, plK x.1.2)).any fun z => decide (z.2 = [Sum.inl p, Sum.inr nm])) with
      | true =>
        refine iteT (qt H3 L3.s0 ?_)
        obtain ⟨y, hy, e⟩ := List.any_eq_true.mp ha
        obtain ⟨x, hx, rfl⟩ := List.mem_map.mp hy
        have mx : x.1 ∈ bs.filter fun b => !decide (V.int b.2.num = V.int n) := by rw [← e1]; exact List.mem_map.mpr ⟨x, hx, rfl⟩
        obtain ⟨mx1, mx2⟩ := List.mem_filter.mp mx
        have e' : plK x.1.2 = [Sum.inl p, Sum.inr nm] := by simpa using e
        have hp : x.1.2.par = p ∧ x.1.2.nm = nm := by
          unfold plK at e'
          injection e' with q1 q2
          injection q2 with q2 _
          injection q1 with q1
          injection q2 with q2
          exact ⟨q1, q2⟩
        refine ⟨x.1.2, by rw [← eb]; exact List.mem_map.mpr ⟨x.1, mx1, rfl⟩, fun e => ?_, hp⟩
        simp [e] at mx2
      | false =>
        refine iteF (qn o H3 L3 (by rw [hkeep]; exact s3 _ _ hd2) fun m hm hne h => ?_)
        rw [← eb] at hm
        obtain ⟨b, hb, rfl⟩ := List.mem_map.mp hm
        have mb : b ∈ bs.filter fun b => !decide (V.int b.2.num = V.int n) := List.mem_filter.mpr ⟨hb, by simp [hne]⟩
        rw [← e1] at mb
        obtain ⟨x, hx, ex⟩ := List.mem_map.mp mb
        have : ((cs.map fun x => (x.2, plK x.1.2)).any fun z => decide (z.2 = [Sum.inl p, Sum.inr nm])) = true := List.any_eq_true.mpr ⟨_, List.mem_map.mpr ⟨x, hx, rfl⟩, by
          rw [decide_eq_true_eq]
          show plK x.1.2 = _
          rw [ex]; unfold plK; rw [h.1, h.2]⟩
        rw [ha] at this
        cases this
end
end TK
set_option Elab.async false
set_option linter.all false
set_option maxRecDepth 100000
set_option maxHeartbeats 8000000
namespace TK
open PySem L2
section
variable {P : Program} {w : World} {K : PySem.W.Frag} {mg : Str → Option Value} {base : Heap} {f : Addr} {cdv : Value} {A : Around} {outer : List Env} {s : Shared} {H0 : Hp} {E : XK}
theorem ld_inside (hr : Room 1 (A.deeper (PyProof.Rows.envOfC "_law_done" (defScope sLDone) s.heap.objs.size f cdv))) (CU : Has P w K mg base 1 "_law_under" ["_law_book_here", "_law_number", "_law_goal"] spUnd) :
    ∃ t, PS (DX P w K mg base f cdv A outer s H0 E) (elS 3) t ∧ ∀ (D : Ends) (H : Hp) (a c d : Addr) (dd : TW.Deed Str) (n p : Int) (nm : Str) (as : List (Addr × (Addr × Nd))) (zs : ZN), LD H0 H a c d dd as zs → MkMv (nds zs) dd n p nm → TW.Fold (nds zs) p → 1 ≤ n →
      (dd = .move n p nm → p ≠ 0 → TW.Und (nds zs) n p → D.rt (.str "inside") H) → (NotIn (nds zs) dd n p → D.nx [some (.ref a), some (.ref c), some (.ref d), some (.int n), some (.int p)] H) →
      t D [some (.ref a), some (.ref c), some (.ref d), some (.int n), some (.int p)] H := by
  obtain ⟨fU, fdU, GU, mU, kU, bU⟩ := CU
  refine ⟨_, ps_if (PW.pt (pw_and (pt_cmpR op_eq (pe_ix ix_tup (pv 1) pe_int (fun _ _ => rfl)) pe_str (nomark _)) (pw_and (pt_cmpR op_ne (pv 4) pe_int (nomark _)) (pw_and1 (pt_val (pe_call GU hr rfl mU kU bU .nil pass0 (pa_cons (pv 2) (pa_cons (pv 4) (pa_cons (pv 3) pa_nil)))) (fun _ => rfl)))))) (pss_one (ps_ret pe_str)) pss_nil, ?_⟩
  intro D H a c d dd n p nm as zs L mm hF hn1 q1 q2
  have sd : SqT K H c (deedV dd) := SqT.of L.deed
  rcases mm with ⟨st, rfl, hno⟩ | ⟨rfl, hh⟩
  · exact ⟨_, rfl, c, _, _, _, rfl, rfl, sd, rfl, rfl, _, rfl, iteF (iteF (q2 fun ⟨_, e⟩ => by cases e))⟩
  · refine ⟨_, rfl, c, _, _, _, rfl, rfl, sd, rfl, rfl, _, rfl, iteT ⟨_, rfl, rfl, _, rfl, ?_⟩⟩
    by_cases hp0 : p = 0
    · have e1 : (!decide (V.int p = V.int 0)) = false := by simp [hp0]
      rw [e1]
      exact iteF (iteF (q2 fun _ h => absurd hp0 h))
    · have e1 : (!decide (V.int p = V.int 0)) = true := by simp [hp0]
      rw [e1]
      rcases hF with e | ⟨m, hm, _, em⟩
      · exact absurd e hp0
      · obtain ⟨pa, hpa⟩ := TW.PathTo.ex L.tre.tr hm
        rw [em] at hpa
        refine iteT ⟨_, rfl, _, rfl, _, rfl, d, p, n, as, zs, pa, rfl, L.book, L.tre.tr, hpa, hn1, fun b hb => ⟨b, rfl, ?_⟩⟩
        cases b with
        | true => exact iteT (q1 rfl hp0 (hb.mp rfl))
        | false => exact iteF (q2 fun _ _ hu => by have := hb.mpr hu; cases this)
theorem ld_else (hr : Room 1 (A.deeper (PyProof.Rows.envOfC "_law_done" (defScope sLDone) s.heap.objs.size f cdv))) (CU : Has P w K mg base 1 "_law_under" ["_law_book_here", "_law_number", "_law_goal"] spUnd) :
    ∃ t, PSs (DX P w K mg base f cdv A outer s H0 E) elseB t ∧ ∀ (D : Ends) (H : Hp) (a c d : Addr) (dd : TW.Deed Str) (n p : Int) (nm : Str) (as : List (Addr × (Addr × Nd))) (zs : ZN), LD H0 H a c d dd as zs → H d = some (.dK (bookK as)) → MkMv (nds zs) dd n p nm → 1 ≤ n →
      (∀ wd H', Same H0 H' → TW.Told (nds zs) dd (.inl wd) → D.rt (.str (wordN wd)) H') →
      (∀ x4 bs H', Same H0 H' → H' d = some (.dK (bookN bs)) → (∀ b ∈ bs, H' b.1 = some (.tup (rest3 b.2))) → (bs.map (·.2.num)).Nodup → bs.length ≤ zs.length + 1 → (∀ us, us.Perm (bs.map (·.2)) → TW.Rise us → TW.Told (nds zs) dd (.inr us)) → D.nx [some (.ref a), some (.ref c), some (.ref d), some (.int n), x4] H') →
      t D [some (.ref a), some (.ref c), some (.ref d), some (.int n), none] H := by
  obtain ⟨t3, p3, h3⟩ := ld_inside (f := f) (cdv := cdv) (outer := outer) (H0 := H0) (E := E) hr CU
  obtain ⟨t4, p4, h4⟩ := ld_taken (P := P) (w := w) (mg := mg) (base := base) (K := K) (f := f) (cdv := cdv) (outer := outer) (H0 := H0) (E := E) hr
  obtain ⟨t5, p5, h5⟩ := ld_put (P := P) (w := w) (mg := mg) (base := base) (K := K) (f := f) (cdv := cdv) (outer := outer) (H0 := H0) (E := E) hr
  refine ⟨_, pss_cons (ps_set (i := 4) scLDone.nd rfl (Or.inl rfl) (pe_ix ix_tup (pv 1) pe_int (fun _ _ => rfl)))
    (pss_cons (ps_if (PW.pt (pw_and (pt_cmpR op_ne (pv 4) pe_int (nomark _)) (pw_and1 (pt_cmp (pc_dnotin (hu_of hr) (pv 4) (pv 2)))))) (pss_one (ps_ret pe_str)) pss_nil)
    (pss_cons (ps_if (PW.pt (pw_and (pt_cmpR op_ne (pv 4) pe_int (nomark _)) (pw_and1 (pt_cmpR op_notN (pe_ix ix_tup (pe_dget (hu_of hr) (pv 2) (pv 4) (fun _ _ => rfl)) pe_int (fun _ _ => rfl)) pe_non (nomark _))))) (pss_one (ps_ret pe_str)) pss_nil)
    (pss_cons p3 (pss_cons p4 (pss_one p5))))), ?_⟩
  intro D H a c d dd n p nm as zs L hd mm hn1 qw qn
  have hT := L.tre.tr
  have hnd := nums_nd hT
  have a2 : atI (deedV dd) 2 = some (.int p) := by rcases mm with ⟨st, rfl, _⟩ | ⟨rfl, _⟩ <;> rfl
  have rest : TW.Fold (nds zs) p → tSeq t3 (tSeq t4 t5) D [some (.ref a), some (.ref c), some (.ref d), some (.int n), some (.int p)] H := fun hF => by
    refine h3 _ H a c d dd n p nm as zs L mm hF hn1 (fun e h0 hu => ?_) fun hi => ?_
    · subst e
      rcases mm with ⟨st, e, _⟩ | ⟨_, hh⟩
      · cases e
      · exact qw .inside H L.s0 (.vIn hh hF h0 hu)
    · refine h4 _ H a c d dd n p nm as zs _ L hd mm (fun H' s' ⟨m, hm, h1, h2, h3⟩ => qw .taken H' s' (mm.taken hF hi hm h1 h2 h3)) fun o H' L' hd' hfree => ?_
      exact h5 _ H' a c d dd n p nm as zs _ o L' hd' mm hF hi hfree fun bs H2 e1 e2 e3 e4 e5 e6 => qn _ bs H2 e1 e2 e3 e4 e5 e6
  refine ⟨_, rfl, c, _, _, _, rfl, rfl, SqT.of L.deed, a2, ?_⟩
  refine ⟨_, rfl, rfl, _, rfl, ?_⟩
  by_cases hp0 : p = 0
  · have e1 : (!decide (V.int p = V.int 0)) = false := by simp [hp0]
    rw [e1]
    refine iteF (iteF ⟨_, rfl, rfl, _, rfl, ?_⟩)
    rw [e1]
    exact iteF (iteF (rest (.inl hp0)))
  · have e1 : (!decide (V.int p = V.int 0)) = true := by simp [hp0]
    rw [e1]
    by_cases hh : ∃ z ∈ zs, z.2.num = p
    · obtain ⟨z, hz, ez⟩ := hh
      obtain ⟨b, hb1, hb2⟩ := L.book.get hnd hz
      rw [ez] at hb1
      refine iteT ⟨_, rfl, _, rfl, d, _, rfl, hb1, _, rfl, iteF ⟨_, rfl, rfl, _, rfl, ?_⟩⟩
      rw [e1]
      refine iteT ⟨_, rfl, _, rfl, d, _, rfl, hb1, b, _, _, _, rfl, rfl, SqT.of hb2, r3_2 z.2, rfl, _, rfl, ?_⟩
      rw [stV_non]
      cases hs : z.2.st with
      | none => exact iteF (rest (.inr ⟨z.2, mem_nds hz, hs, ez⟩))
      | some i => exact iteT (qw .notFolder H L.s0 (mm.file hp0 (mem_nds hz) ez (by rw [hs]; simp)))
    · exact iteT ⟨_, rfl, _, rfl, d, _, rfl, L.book.not (fun z hz e => hh ⟨z, hz, e⟩), _, rfl, iteT (qw .noNode H L.s0 (mm.no hp0 (hasN_no hh)))⟩
theorem ld_place (hr : Room 1 (A.deeper (PyProof.Rows.envOfC "_law_done" (defScope sLDone) s.heap.objs.size f cdv))) (CU : Has P w K mg base 1 "_law_under" ["_law_book_here", "_law_number", "_law_goal"] spUnd) :
    ∃ t, PS (DX P w K mg base f cdv A outer s H0 E) (ldS 5) t ∧ ∀ (D : Ends) (H : Hp) (a c d : Addr) (dd : TW.Deed Str) (n : Int) (as : List (Addr × (Addr × Nd))) (zs : ZN), LD H0 H a c d dd as zs → H d = some (.dK (bookK as)) → ((∃ st, dd = .write n st ∧ TW.HasN (nds zs) n) ∨ ∃ p nm, MkMv (nds zs) dd n p nm) → 1 ≤ n →
      (∀ wd H', Same H0 H' → TW.Told (nds zs) dd (.inl wd) → D.rt (.str (wordN wd)) H') →
      (∀ x4 bs H', Same H0 H' → H' d = some (.dK (bookN bs)) → (∀ b ∈ bs, H' b.1 = some (.tup (rest3 b.2))) → (bs.map (·.2.num)).Nodup → bs.length ≤ zs.length + 1 → (∀ us, us.Perm (bs.map (·.2)) → TW.Rise us → TW.Told (nds zs) dd (.inr us)) → D.nx [some (.ref a), some (.ref c), some (.ref d), some (.int n), x4] H') →
      t D [some (.ref a), some (.ref c), some (.ref d), some (.int n), none] H := by
  obtain ⟨te, pe, he⟩ := ld_else (f := f) (cdv := cdv) (outer := outer) (H0 := H0) (E := E) hr CU
  refine ⟨_, ps_if (pt_cmpR op_eq (pe_ix ix_tup (pv 1) pe_int (fun _ _ => rfl)) pe_str (nomark _))
    (pss_cons (ps_if (pt_cmpR op_isN (pe_ix ix_tup (pe_dget (hu_of hr) (pv 2) (pv 3) (fun _ _ => rfl)) pe_int (fun _ _ => rfl)) pe_non (nomark _)) (pss_one (ps_ret pe_str)) pss_nil)
    (pss_one (ps_dput (hu_of hr) (pv 2) (pv 3) (pe_op op_catT (pe_slice sl_tup (pe_dget (hu_of hr) (pv 2) (pv 3) (fun _ _ => rfl)) po_none (po_some pe_int)) (pe_tup (pa_cons (pe_ix ix_tup (pv 1) pe_int (fun _ _ => rfl)) pa_nil))) rfl))) pe, ?_⟩
  intro D H a c d dd n as zs L hd hdd hn1 qw qn
  have hT := L.tre.tr
  have hnd := nums_nd hT
  have hlen := L.tre.len
  have sd : SqT K H c (deedV dd) := SqT.of L.deed
  rcases hdd with ⟨st, rfl, m, hm, em⟩ | ⟨p, nm, mm⟩
  · obtain ⟨z, hz, rfl⟩ := of_nds hm
    obtain ⟨b, hb1, hb2⟩ := L.book.get hnd hz
    rw [em] at hb1
    refine ⟨_, rfl, c, _, _, _, rfl, rfl, sd, rfl, rfl, _, rfl, iteT ⟨_, rfl, _, rfl, d, _, rfl, hb1, b, _, _, _, rfl, rfl, SqT.of hb2, r3_2 z.2, rfl, _, rfl, ?_⟩⟩
    cases hs : z.2.st with
    | none => exact iteT (qw .notFile H L.s0 (.wFold hm em hs))
    | some i =>
      refine iteF ⟨_, rfl, _, rfl, d, _, rfl, hb1, _, rfl, b, _, rfl, SqT.of hb2, (fun h => absurd h.2 (show ¬ HT.sIx 3 3 (some 2) = 3 by decide)), fun t1 ht1 => ?_⟩
      have s2 := same_upd (o := .tup (cutV (rest3 z.2) none (some 2))) ht1
      refine ⟨_, rfl, c, _, _, _, rfl, rfl, SqT.of (s2 _ _ L.deed), rfl, (show 1 ≤ sizeLine from le_line (by decide)), fun t2 ht2 => ?_⟩
      have s3 := s2.trans (same_upd (o := .tup [.int st]) ht2)
      refine ⟨t1, t2, [.int z.2.par, .str z.2.nm], [.int st], rfl, rfl, SqT.of (upd_keep ht2 upd_same), SqT.of upd_same, by simp, (show 3 ≤ sizeLine from le_line (by decide)), fun h => absurd h (List.cons_ne_nil _ _), fun _ q hq => ?_⟩
      have s4 := s3.trans (same_upd (o := .tup ([.int z.2.par, .str z.2.nm] ++ [.int st])) hq)
      have hq4 : upd (upd (upd H t1 (.tup (cutV (rest3 z.2) none (some 2)))) t2 (.tup [.int st])) q (.tup ([.int z.2.par, .str z.2.nm] ++ [.int st])) q = some (.tup (rest3 ⟨n, z.2.par, z.2.nm, some st⟩)) := upd_same
      have hbl : (bookK as).length ≤ 1000 := by
        have := congrArg List.length L.book.of
        unfold bookK
        rw [List.length_map] at this ⊢
        omega
      refine ⟨_, rfl, _, rfl, d, _, rfl, DPut.k (k := Sum.inl n) (s4 _ _ hd) (small1000 hbl), ?_⟩
      have L4 := L.same s4
      obtain ⟨bs, e1, e2, e3, e4, e5⟩ := upd_book (new := ⟨n, z.2.par, z.2.nm, some st⟩) (s4 _ _ hd) L4.book.of L4.book.at' hq4 hnd
      refine qn _ bs _ (same_over L.d0 L4.s0) e1 e2 e3 e4 fun us hp hrise => ?_
      rcases e5 with ⟨h1, h2⟩ | ⟨h1, h2⟩
      · rw [h2] at hp
        rw [TW.rise_one hrise (TW.put_rise hT.rise) hp]
        exact .wrote hm em (by rw [hs]; simp)
      · exact absurd ⟨z.2, hm, em⟩ h1
  · rcases id mm with ⟨st, rfl, _⟩ | ⟨rfl, _⟩
    · exact ⟨_, rfl, c, _, _, _, rfl, rfl, sd, rfl, rfl, _, rfl, iteF (he D H a c d _ n p nm as zs L hd mm hn1 qw qn)⟩
    · exact ⟨_, rfl, c, _, _, _, rfl, rfl, sd, rfl, rfl, _, rfl, iteF (he D H a c d _ n p nm as zs L hd mm hn1 qw qn)⟩
end
section
variable {P : Program} {w : World} {K : PySem.W.Frag} {mg : Str → Option Value} {base : Heap}
noncomputable def spLDone : Sp := fun vs H Q _ => ∃ a c dd zs, vs = [.ref a, .ref c] ∧ Tre H a zs ∧ zs.length ≤ 29 ∧ H c = some (.tup (deedV dd)) ∧ DeedOk dd ∧ (∀ us t' H', Same H H' → H' t' = some (.tup (refs us)) → At H' us → TW.Told (nds zs) dd (.inr (nds us)) → Q (.ref t') H') ∧ ∀ wd H', Same H H' → TW.Told (nds zs) dd (.inl wd) → Q (.str (wordN wd)) H'
theorem ok_ldone {f : Addr} {fd : FuncData} (F : Fun K "_law_done" "_law_done" sLDone f fd) (T : Txt mg) (CK : Has P w K mg base 1 "_law_book" ["_law_tree_here"] spBook) (CU : Has P w K mg base 1 "_law_under" ["_law_book_here", "_law_number", "_law_goal"] spUnd) :
    FnOk P w K mg base CX0 2 f fd ["_law_tree_here", "_law_deed_here"] spLDone := by
  obtain ⟨fK, fdK, GK, mK, kK, bK⟩ := CK
  refine F.ok scLDone (fun vs H Q E h => ?_) (fun cdv A outer s H vs Q E hr h => ?_)
  · obtain ⟨a, c, dd, zs, rfl, _⟩ := h
    rfl
  · obtain ⟨a, c, dd, zs, rfl, tr, hl, hc, hok, qo, qw⟩ := h
    obtain ⟨t4, p4, h4⟩ := ld_drop (f := f) (cdv := cdv) (outer := outer) (H0 := H) (E := E) T hr CU
    obtain ⟨t5, p5, h5⟩ := ld_place (f := f) (cdv := cdv) (outer := outer) (H0 := H) (E := E) hr CU
    obtain ⟨t6, p6, h6⟩ := ld_end (P := P) (w := w) (K := K) (mg := mg) (base := base) (f := f) (cdv := cdv) (outer := outer) (H0 := H) (E := E) T hr
    refine ⟨_, pss_cons (ps_set (i := 2) scLDone.nd rfl (Or.inr rfl) (pe_call GK hr rfl mK kK bK .nil pass0 (pa_cons (pv 0) pa_nil)))
      (pss_cons (ps_set (i := 3) scLDone.nd rfl (Or.inr rfl) (pe_ix ix_tup (pv 1) pe_int (fun _ _ => rfl)))
      (pss_cons (ps_if (PW.pt (pw_and (pt_cmpR op_eq (pe_ix ix_tup (pv 1) pe_int (fun _ _ => rfl)) pe_str (nomark _)) (pw_and1 (pt_cmp (pc_din (hu_of hr) (pv 3) (pv 2)))))) (pss_one (ps_ret pe_str)) pss_nil)
      (pss_cons (ps_if (PW.pt (pw_and (pt_cmpR op_ne (pe_ix ix_tup (pv 1) pe_int (fun _ _ => rfl)) pe_str (nomark _)) (pw_and1 (pt_cmp (pc_dnotin (hu_of hr) (pv 3) (pv 2)))))) (pss_one (ps_ret pe_str)) pss_nil)
      (pss_cons p4 (pss_cons p5 (pss_one p6)))))), ?_⟩
    refine ⟨_, rfl, a, zs, rfl, tr, fun d as H1 s1 d0 bk hd => ?_⟩
    have L : LD H H1 a c d dd as zs := ⟨s1, d0, tr.same s1, s1 _ _ hc, bk⟩
    have hnd := nums_nd tr.tr
    have sd : SqT K H1 c (deedV dd) := SqT.of L.deed
    have last : ∀ x4 n bs H', Same H H' → H' d = some (.dK (bookN bs)) → (∀ b ∈ bs, H' b.1 = some (.tup (rest3 b.2))) → (bs.map (·.2.num)).Nodup → bs.length ≤ zs.length + 1 → (∀ us, us.Perm (bs.map (·.2)) → TW.Rise us → TW.Told (nds zs) dd (.inr us)) →
        t6 { nx := fun _ H' => Q .non H', rt := Q } [some (.ref a), some (.ref c), some (.ref d), some (.int n), x4] H' := fun x4 n bs H' s' e1 e2 e3 e4 e5 =>
      h6 _ H' _ _ _ _ _ d bs rfl e1 e2 e3 (by omega) fun o us t' H2 s2 ht' hA' hp hrise => qo us t' H2 ((same_over d0 s').trans s2) ht' hA' (e5 _ hp hrise)
    cases dd with
    | make n p nm st =>
      refine ⟨_, rfl, c, _, _, _, rfl, rfl, sd, rfl, _, rfl, c, _, _, _, rfl, rfl, sd, rfl, rfl, _, rfl, iteT ?_⟩
      by_cases hh : ∃ z ∈ zs, z.2.num = n
      · obtain ⟨z, hz, ez⟩ := hh
        obtain ⟨b, hb1, _⟩ := L.book.get hnd hz
        rw [ez] at hb1
        exact ⟨_, rfl, _, rfl, d, _, rfl, hb1, _, rfl, iteT (qw .known H1 s1 (.mKnown (hasN_yes hz ez)))⟩
      · refine ⟨_, rfl, _, rfl, d, _, rfl, L.book.not (fun z hz e => hh ⟨z, hz, e⟩), _, rfl, iteF ?_⟩
        refine ⟨_, rfl, c, _, _, _, rfl, rfl, sd, rfl, rfl, _, rfl, iteF (iteF ?_)⟩
        refine h4 _ H1 _ a c d _ n as zs rfl L.tre L.deed bk hok.1 (fun ⟨k, e⟩ => by cases e) fun _ => ?_
        exact h5 _ H1 a c d _ n as zs L hd (.inr ⟨p, nm, .inl ⟨st, rfl, hasN_no hh⟩⟩) hok.1 qw fun x4 bs H' => last x4 n bs H'
    | write n st =>
      refine ⟨_, rfl, c, _, _, _, rfl, rfl, sd, rfl, _, rfl, c, _, _, _, rfl, rfl, sd, rfl, rfl, _, rfl, iteF (iteF ?_)⟩
      refine ⟨_, rfl, c, _, _, _, rfl, rfl, sd, rfl, rfl, _, rfl, iteT ?_⟩
      by_cases hh : ∃ z ∈ zs, z.2.num = n
      · obtain ⟨z, hz, ez⟩ := hh
        obtain ⟨b, hb1, _⟩ := L.book.get hnd hz
        rw [ez] at hb1
        refine ⟨_, rfl, _, rfl, d, _, rfl, hb1, _, rfl, iteF ?_⟩
        refine h4 _ H1 _ a c d _ n as zs rfl L.tre L.deed bk hok.1 (fun ⟨k, e⟩ => by cases e) fun _ => ?_
        exact h5 _ H1 a c d _ n as zs L hd (.inl ⟨st, rfl, hasN_yes hz ez⟩) hok.1 qw fun x4 bs H' => last x4 n bs H'
      · exact ⟨_, rfl, _, rfl, d, _, rfl, L.book.not (fun z hz e => hh ⟨z, hz, e⟩), _, rfl, iteT (qw .noNode H1 s1 (.wNo (hasN_no hh)))⟩
    | move n p nm =>
      refine ⟨_, rfl, c, _, _, _, rfl, rfl, sd, rfl, _, rfl, c, _, _, _, rfl, rfl, sd, rfl, rfl, _, rfl, iteF (iteF ?_)⟩
      refine ⟨_, rfl, c, _, _, _, rfl, rfl, sd, rfl, rfl, _, rfl, iteT ?_⟩
      by_cases hh : ∃ z ∈ zs, z.2.num = n
      · obtain ⟨z, hz, ez⟩ := hh
        obtain ⟨b, hb1, _⟩ := L.book.get hnd hz
        rw [ez] at hb1
        refine ⟨_, rfl, _, rfl, d, _, rfl, hb1, _, rfl, iteF ?_⟩
        refine h4 _ H1 _ a c d _ n as zs rfl L.tre L.deed bk hok.1 (fun ⟨k, e⟩ => by cases e) fun _ => ?_
        exact h5 _ H1 a c d _ n as zs L hd (.inr ⟨p, nm, .inr ⟨rfl, hasN_yes hz ez⟩⟩) hok.1 qw fun x4 bs H' => last x4 n bs H'
      · exact ⟨_, rfl, _, rfl, d, _, rfl, L.book.not (fun z hz e => hh ⟨z, hz, e⟩), _, rfl, iteT (qw .noNode H1 s1 (.vNo (hasN_no hh)))⟩
    | drop n =>
      refine ⟨_, rfl, c, _, _, _, rfl, rfl, sd, rfl, _, rfl, c, _, _, _, rfl, rfl, sd, rfl, rfl, _, rfl, iteF (iteF ?_)⟩
      refine ⟨_, rfl, c, _, _, _, rfl, rfl, sd, rfl, rfl, _, rfl, iteT ?_⟩
      by_cases hh : ∃ z ∈ zs, z.2.num = n
      · obtain ⟨z, hz, ez⟩ := hh
        obtain ⟨b, hb1, _⟩ := L.book.get hnd hz
        rw [ez] at hb1
        refine ⟨_, rfl, _, rfl, d, _, rfl, hb1, _, rfl, iteF ?_⟩
        refine h4 _ H1 _ a c d _ n as zs rfl L.tre L.deed bk hok.1 (fun _ us t' H' g s2 ht' hA' e hg => qo us t' H' (s1.trans s2) ht' hA' ?_) fun h => absurd ⟨n, rfl⟩ h
        rw [e]
        exact .dropped (hasN_yes hz ez) hg
      · exact ⟨_, rfl, _, rfl, d, _, rfl, L.book.not (fun z hz e => hh ⟨z, hz, e⟩), _, rfl, iteT (qw .noNode H1 s1 (.dNo (hasN_no hh)))⟩
end
end TK
set_option Elab.async false
set_option linter.all false
set_option maxRecDepth 100000
set_option maxHeartbeats 8000000
namespace TK
open PySem L2
section
variable {P : Program} {w : World} {K : PySem.W.Frag} {mg : Str → Option Value} {base : Heap}
noncomputable def spCell (K : PySem.W.Frag) : Sp := fun vs H Q _ => ∃ a k, vs = [.ref a, .int k] ∧ 0 ≤ k ∧ ScrAt K H a ∧ ∀ r H', Same H H' → Q (.int r) H'
theorem scCell : FnScope ["_law_script", "_law_k"] ["_law_script", "_law_k"] (defScope sCell) := ⟨rfl, rfl, rfl, by decide +kernel, rfl, by decide +kernel, by decide +kernel⟩
theorem ok_cell {f : Addr} {fd : FuncData} (F : Fun K "_law_cell" "_law_cell" sCell f fd) (T : Txt mg) : FnOk P w K mg base CX0 1 f fd ["_law_script", "_law_k"] (spCell K) := by
  refine F.ok scCell (fun vs H Q E h => ?_) (fun cdv A outer s H vs Q E hr h => ?_)
  · obtain ⟨a, k, rfl, _⟩ := h
    rfl
  · obtain ⟨a, k, rfl, hk, ⟨ns, ea⟩, q⟩ := h
    refine ⟨_, pss_cons (ps_if (pt_cmpR op_lt (pv 1) (pe_callB call_len_seq rfl T.len PySem.boot_len (pa_cons (pv 0) pa_nil)) (nomark _)) (pss_one (ps_ret (pe_ix ix_list (pv 0) (pv 1) (fun _ _ => rfl)))) pss_nil)
      (pss_cons (ps_if (pt_cmpR (op_eq_lst0 hr.units0) (pv 0) (pe_lst pa_nil) (nomark _)) (pss_one (ps_ret pe_int)) pss_nil)
      (pss_one (ps_ret (pe_op op_add (pe_op op_mul (pe_ix ix_list (pv 0) (pe_op op_mod (pv 1) (pe_callB call_len_seq rfl T.len PySem.boot_len (pa_cons (pv 0) pa_nil))) (fun _ _ => rfl)) pe_int) (pv 1))))), ?_⟩
    refine ⟨_, rfl, _, rfl, a, _, rfl, .inl (ea), _, _, rfl, rfl, _, rfl, ?_⟩
    rw [List.length_map]
    by_cases h : k < (ns.length : Int)
    · rw [decide_eq_true h]
      obtain ⟨j, ej⟩ := atI_ints hk h
      exact iteT ⟨_, rfl, _, rfl, a, _, _, _, rfl, rfl, ea, ej, q _ _ (Same.refl _)⟩
    · rw [decide_eq_false h]
      refine iteF ⟨_, rfl, Nat.zero_le _, fun p hp => ⟨a, p, _, rfl, rfl, ((same_upd hp).seq ea), SqL.of upd_same, _, rfl, ?_⟩⟩
      by_cases h0 : ns = []
      · subst h0
        exact iteT (q _ _ (same_upd hp))
      · have hne : ¬ ns.map V.int = [] := by simpa using h0
        rw [decide_eq_false hne]
        have hpos : 0 < ns.length := List.length_pos_iff.mpr h0
        have hm1 : 0 ≤ k % (ns.length : Int) := Int.emod_nonneg _ (by omega)
        have hm2 : k % (ns.length : Int) < ns.length := Int.emod_lt_of_pos _ (by omega)
        obtain ⟨j, ej⟩ := atI_ints hm1 hm2
        have ej' : atI (ns.map V.int) (k % ((ns.map V.int).length : Int)) = some (.int j) := by rw [List.length_map]; exact ej
        exact iteF ⟨_, rfl, _, rfl, _, rfl, a, _, rfl, .inl (((same_upd hp).seq ea)), _, _, rfl, rfl, by rw [List.length_map]; omega, a, _, _, _, rfl, rfl, ((same_upd hp).seq ea), ej', _, _, rfl, rfl, .inr ⟨by decide, by decide⟩, _, rfl, _, _, rfl, rfl, q _ _ (same_upd hp)⟩
noncomputable def spPick (K : PySem.W.Frag) : Sp := fun vs H Q _ => ∃ a k m, vs = [.ref a, .int k, .int m] ∧ 0 ≤ k ∧ 0 < m ∧ ScrAt K H a ∧ ∀ r H', 0 ≤ r → r < m → Same H H' → Q (.int r) H'
theorem scPick : FnScope ["_law_script", "_law_k", "_law_many", "_law_drawn"] ["_law_script", "_law_k", "_law_many"] (defScope sPick) := ⟨rfl, rfl, rfl, by decide +kernel, rfl, by decide +kernel, by decide +kernel⟩
theorem ok_pick {f : Addr} {fd : FuncData} (F : Fun K "_law_pick" "_law_pick" sPick f fd) (T : Txt mg) (C : Has P w K mg base 1 "_law_cell" ["_law_script", "_law_k"] (spCell K)) : FnOk P w K mg base CX0 2 f fd ["_law_script", "_law_k", "_law_many"] (spPick K) := by
  obtain ⟨fC, fdC, GC, mC, kC, bC⟩ := C
  refine F.ok scPick (fun vs H Q E h => ?_) (fun cdv A outer s H vs Q E hr h => ?_)
  · obtain ⟨a, k, m, rfl, _⟩ := h
    rfl
  · obtain ⟨a, k, m, rfl, hk, hm, hS, q⟩ := h
    refine ⟨_, (pss_cons (ps_set (i := 3) scPick.nd rfl (Or.inl rfl) (pe_op op_mod (pe_op op_mul (pe_op op_add (pe_call GC hr rfl mC kC bC .nil pass0 (pa_cons (pv 0) (pa_cons (pv 1) pa_nil))) (pe_op op_mul pe_int (pe_op op_add (pv 1) pe_int))) pe_int) pe_int))
      (pss_one (ps_ret (pe_op op_mod (pe_op op_mod (pe_op op_add (pe_op op_mul (pv 3) (pv 3)) (pe_op op_fdiv (pv 3) pe_int)) pe_int) (pv 2))))), ?_⟩
    refine ⟨_, rfl, _, rfl, a, k, rfl, hk, hS, fun r H1 s1 => ?_⟩
    refine ⟨_, rfl, _, _, rfl, rfl, _, _, rfl, rfl, .inl ⟨by decide, by decide⟩, _, _, rfl, rfl, _, _, rfl, rfl, .inr ⟨by decide, by decide⟩, _, _, rfl, rfl, (by decide : (0 : Int) < 2147483399), ?_⟩
    generalize hd : (r + 6151 * (k + 1)) * 40692 % 2147483399 = dr
    have d0 : 0 ≤ dr := by rw [← hd]; exact Int.emod_nonneg _ (by decide)
    have d1 : dr < 2147483399 := by rw [← hd]; exact Int.emod_lt_of_pos _ (by decide)
    refine ⟨_, rfl, _, rfl, _, _, rfl, rfl, .inl ⟨by omega, by omega⟩, _, rfl, _, _, rfl, rfl, ⟨by decide, by decide⟩, _, _, rfl, rfl, _, _, rfl, rfl, (by decide : (0 : Int) < 2147483629), _, rfl, _, _, rfl, rfl, hm, ?_⟩
    exact q _ _ (Int.emod_nonneg _ (by omega)) (Int.emod_lt_of_pos _ hm) s1
end
end TK
set_option Elab.async false
set_option linter.all false
set_option maxRecDepth 100000
set_option maxHeartbeats 8000000
namespace TK
open PySem L2
section
variable {P : Program} {w : World} {K : PySem.W.Frag} {mg : Str → Option Value} {base : Heap}
noncomputable def spBuild (K : PySem.W.Frag) : Sp := fun vs H Q _ => ∃ a at' m, vs = [.ref a, .int at', .int m] ∧ 0 ≤ at' ∧ 0 ≤ m ∧ m ≤ 9 ∧ ScrAt K H a ∧ ∀ t zs H', H' t = some (.tup (refs zs)) → At H' zs → (zs.length : Int) ≤ m → TW.Tree (nds zs) → (∀ z ∈ zs, Good z.2) → Same H H' → Q (.ref t) H'
theorem scB : FnScope ["_law_script", "_law_at", "_law_most", "_law_left", "_law_folders", "_law_nodes", "_law_k", "_law_number", "_law_parent", "_law_name", "_law_stamp"] ["_law_script", "_law_at", "_law_most"] (defScope sBuild) := ⟨rfl, rfl, rfl, by decide +kernel, rfl, by decide +kernel, by decide +kernel⟩
noncomputable def buS (i : Nat) : Stmt := match (defBody sBuild).getD 3 (.Pass ⟨0, 0, 0, 0⟩) with
  | .For _ _ b _ _ => b.getD i (.Pass ⟨0, 0, 0, 0⟩)
  | x => x
noncomputable abbrev BX (P : Program) (w : World) (K : PySem.W.Frag) (mg : Str → Option Value) (base : Heap) (f : Addr) (cdv : Value) (A : Around) (outer : List Env) (s : Shared) (H : Hp) (E : XK) : Cx := (cxOf CX0 P w K mg base ["_law_script", "_law_at", "_law_most", "_law_left", "_law_folders", "_law_nodes", "_law_k", "_law_number", "_law_parent", "_law_name", "_law_stamp"] "_law_tree" (defScope sBuild) f cdv A outer s H E).nox
theorem bd_if {f : Addr} {cdv : Value} {A : Around} {outer : List Env} {s : Shared} {H0 : Hp} {E : XK} (hr : Room 2 (A.deeper (PyProof.Rows.envOfC "_law_tree" (defScope sBuild) s.heap.objs.size f cdv))) :
    ∃ t, PS (BX P w K mg base f cdv A outer s H0 E) (buS 5) t ∧ ∀ (D : Ends) (H H6 : Hp) (pl pf pn : Addr) (x0 x1 x2 x6 : Option V) (lf : List Int) (zs : ZN) (num par : Int) (nm : Str) (st : Option Int), Sta H pl pf pn H6 lf (0 :: TW.folders (nds zs)) zs → zs.length ≤ 20 →
      (∀ H', Sta H pl pf pn H' lf (0 :: TW.folders (nds zs)) zs → D.nx [x0, x1, x2, some (.ref pl), some (.ref pf), some (.ref pn), x6, some (.int num), some (.int par), some (.str nm), some (stV st)] H') →
      (∀ q H', (∀ z ∈ zs, ¬ (z.2.par = par ∧ z.2.nm = nm)) → Sta H pl pf pn H' lf (0 :: TW.folders (nds (zs ++ [(q, ⟨num, par, nm, st⟩)]))) (zs ++ [(q, ⟨num, par, nm, st⟩)]) → D.nx [x0, x1, x2, some (.ref pl), some (.ref pf), some (.ref pn), x6, some (.int num), some (.int par), some (.str nm), some (stV st)] H') →
      t D [x0, x1, x2, some (.ref pl), some (.ref pf), some (.ref pn), x6, some (.int num), some (.int par), some (.str nm), some (stV st)] H6 := by
  refine ⟨_, ps_if (pt_cmpR (op_notIn_tups (hu_of hr)) (pe_tup (pa_cons (pv 8) (pa_cons (pv 9) pa_nil))) (pe_lc (N := ["_law_node"]) (k := 1) (js := []) (g := gName 0) rfl (lc_ok0 rfl (by decide +kernel) (by decide +kernel) (by decide +kernel)) rfl (fun i j x h => by simp at h)
          (pi_list (pv 5)) (fun s H fp => pg_name (i := 0) (show (["_law_node"] : List Str).Nodup by decide +kernel) rfl (Or.inl rfl) (Or.inr rfl))
          (fun s H fp => pe_slice (r := rSlT K) sl_tup (pv 0) (po_some pe_int) (po_some pe_int))) rfl) (pss_cons (ps_expr (pe_bm PySem.F.plainAttrs_list PySem.F.slot_list_append PySem.F.type_list_append mt_append (pv 5) (pa_cons (pe_tup (pa_cons (pv 7) (pa_cons (pv 8) (pa_cons (pv 9) (pa_cons (pv 10) pa_nil))))) pa_nil))) (pss_one (ps_if (pt_cmpR op_isN (pv 10) pe_non (nomark _)) (pss_one (ps_expr (pe_bm PySem.F.plainAttrs_list PySem.F.slot_list_append PySem.F.type_list_append mt_append (pv 4) (pa_cons (pv 7) pa_nil)))) pss_nil))) pss_nil, ?_⟩
  intro D H H6 pl pf pn x0 x1 x2 x6 lf zs num par nm st A6 hzl qs qa
  refine ⟨_, rfl, _, rfl, le2, fun q0 hq0 => ?_⟩
  have A7 := A6.grow (same_upd (o := .tup [.int par, .str nm]) hq0)
  have eq0 : (upd H6 q0 (.tup [.int par, .str nm])) q0 = some (.tup ([Sum.inl par, Sum.inr nm].map kV)) := upd_same
  refine ⟨_, rfl, pn, rfl, ⟨_, SqL.of A7.n⟩, fun p hp => ?_⟩
  generalize upd H6 q0 (.tup [.int par, .str nm]) = H7 at A7 eq0 hp ⊢
  refine lc_by (k := 1) (js := []) (J := Itl K pn) (p := p) zs.length (by omega) (fun i ys σ' H' => ∃ kss : List (Addr × List Key), ys = (kss.map (·.1)).map V.ref ∧ kss.map (·.2) = ((nds zs).take i).map plK ∧ kss.length = i ∧ (∀ z ∈ kss, H' z.1 = some (.tup (z.2.map kV))) ∧ σ'.length = 1 ∧ Same H7 H' ∧ H' p = some (.lst ys))
    ⟨[], rfl, rfl, rfl, by simp, rfl, same_upd hp, upd_same⟩ (fun i ys σ' H' h => ?_) (fun i ys σ' H' hi h => ?_) (fun ys σ' H' h => ?_) (fun i ys σ' H' hi h v H2 hy => ?_) ?_ ?_
  · obtain ⟨kss, rfl, _, e, _⟩ := h
    rw [List.length_map, List.length_map]; omega
  · obtain ⟨_, _, _, _, _, _, s2, _⟩ := h
    exact ⟨_, _, SqL.of (s2 _ _ A7.n), get_refs (List.getElem?_eq_getElem hi)⟩
  · obtain ⟨kss, e1, e2, e3, e4, _, s2, e5⟩ := h
    refine ⟨⟨_, SqL.of (s2 _ _ A7.n), by rw [refs_len]; exact Nat.le_refl _⟩, ?_⟩
    subst e1
    refine ⟨q0, p, _, kss, rfl, s2 _ _ eq0, rfl, SqL.of e5, e4, _, rfl, ?_⟩
    rw [List.take_of_length_le (by rw [nds_len]; exact Nat.le_refl _)] at e2
    have A8 := A7.grow s2
    cases ea : (kss.any fun z => decide (z.2 = [Sum.inl par, Sum.inr nm])) with
    | true => exact iteF (qs _ A8)
    | false =>
      have ho : ∀ z ∈ zs, ¬ (z.2.par = par ∧ z.2.nm = nm) := fun z hz ⟨h1, h2⟩ => by
        have m1 : plK z.2 ∈ kss.map (·.2) := by rw [e2]; exact List.mem_map.mpr ⟨z.2, List.mem_map.mpr ⟨z, hz, rfl⟩, rfl⟩
        obtain ⟨y, hy, ey⟩ := List.mem_map.mp m1
        have : (kss.any fun z => decide (z.2 = [Sum.inl par, Sum.inr nm])) = true := List.any_eq_true.mpr ⟨y, hy, by rw [decide_eq_true_eq, ey]; unfold plK; rw [h1, h2]⟩
        rw [ea] at this; cases this
      refine iteT ⟨_, rfl, .inl ⟨rfl, _, SqL.of A8.n⟩, _, rfl, _, rfl, _, rfl, _, rfl, (show 4 ≤ sizeLine from le_line (by decide)), fun q hq => ⟨pn, _, _, rfl, rfl, upd_keep hq A8.n, small1000 (by rw [refs_len]; omega), ?_⟩⟩
      have A9 := (A8.grow (same_upd (o := .tup (vals ⟨num, par, nm, st⟩)) hq)).node (n := ⟨num, par, nm, st⟩) upd_same
      refine ⟨_, rfl, rfl, _, rfl, ?_⟩
      cases st with
      | some i5 =>
        have ef : (0 :: TW.folders (nds zs)) = (0 : Int) :: TW.folders (nds (zs ++ [(q, ⟨num, par, nm, some i5⟩)])) := by simp [TW.folders, nds]
        rw [ef] at A9
        exact iteF (qa q _ ho A9)
      | none =>
        refine iteT ⟨_, rfl, .inl ⟨rfl, _, SqL.of A9.f⟩, _, rfl, pf, _, _, rfl, rfl, A9.f, small1000 ?_, ?_⟩
        · have := TW.folders_len (nds zs)
          rw [nds_len] at this
          rw [List.length_map, List.length_cons]; omega
        · have A10 := A9.fold num
          have ef : (0 :: TW.folders (nds zs)) ++ [num] = (0 : Int) :: TW.folders (nds (zs ++ [(q, ⟨num, par, nm, none⟩)])) := by simp [TW.folders, nds]
          rw [ef] at A10
          exact qa q _ ho A10
  · obtain ⟨kss, e1, e2, e3, e4, e0, s2, e5⟩ := h
    obtain ⟨o1, rfl⟩ := one_of e0
    obtain ⟨rfl, hx⟩ := hy
    have gx := hx _ (SqL.of (s2 _ _ A7.n))
    obtain ⟨z1, g1, rfl⟩ := refs_get gx
    have m1 := List.mem_of_getElem? g1
    have ecut : cutV (vals z1.2) (some 1) (some 3) = [.int z1.2.par, .str z1.2.nm] := rfl
    refine ⟨_, rfl, _, rfl, _, rfl, z1.1, _, rfl, SqT.of (s2 _ _ (A7.nd z1 m1)), (fun h => by have h1 : (1 : Nat) = 0 := h.1; cases h1), fun q hq => ?_⟩
    rw [ecut]
    refine ⟨upd_keep hq e5, kss ++ [(q, plK z1.2)], by rw [e1]; simp, ?_, by simp [e3], ?_, rfl, same_over hp (s2.trans (same_upd hq)), upd_same⟩
    · rw [List.map_append, e2, List.take_succ, show (nds zs)[i]? = some z1.2 by unfold nds; rw [List.getElem?_map, g1]; rfl, List.map_append]
      rfl
    · intro z hz
      have hqp : q ≠ p := fun z => by rw [z, e5] at hq; cases hq
      rcases List.mem_append.mp hz with hz | hz
      · have := upd_keep (o := .tup [.int z1.2.par, .str z1.2.nm]) hq (e4 z hz)
        rw [upd_ne]
        · exact this
        · intro e
          rw [e, upd_ne (Ne.symm hqp), e5] at this
          cases this
      · have e : z = (q, plK z1.2) := by simpa using hz
        subst e
        rw [upd_ne hqp]
        exact upd_same
  · rintro _ _ _ _ _ m h
    exact m _ _ h
  · rintro _ _ _ _ m ⟨v1, b0, i1, b1, i2, b2, a2, x2, c1, c2, c3, q⟩
    exact ⟨v1, b0, i1, b1, i2, b2, a2, x2, c1, c2, c3, fun p hp => m _ _ (q p hp)⟩
theorem ok_build {f : Addr} {fd : FuncData} (F : Fun K "_law_tree" "_law_tree" sBuild f fd) (T : Txt mg) (C : Has P w K mg base 2 "_law_pick" ["_law_script", "_law_k", "_law_many"] (spPick K)) : FnOk P w K mg base CX0 3 f fd ["_law_script", "_law_at", "_law_most"] (spBuild K) := by
  obtain ⟨fP, fdP, GP, mP, kP, bP⟩ := C
  refine F.ok scB (fun vs H Q E h => ?_) (fun cdv A outer s H vs Q E hr h => ?_)
  · obtain ⟨a, at', m, rfl, _⟩ := h
    rfl
  · obtain ⟨a, at', m, rfl, ha0, hm0, hm9, hS, k⟩ := h
    obtain ⟨t5, p5, h5⟩ := bd_if (P := P) (w := w) (mg := mg) (base := base) (f := f) (cdv := cdv) (A := A) (outer := outer) (s := s) (H0 := H) (E := E) hr
    refine ⟨_, (pss_cons (ps_set (i := 3) scB.nd rfl (Or.inl rfl) (pe_callTy (call_list_rng rfl) rfl T.list rfl (pa_cons (pe_callTy call_rng2 rfl T.range rfl (pa_cons pe_int (pa_cons (pe_op op_add (pv 2) pe_int) pa_nil))) pa_nil)))
        (pss_cons (ps_set (i := 4) scB.nd rfl (Or.inl rfl) (pe_lst (pa_cons pe_int pa_nil)))
        (pss_cons (ps_set (i := 5) scB.nd rfl (Or.inl rfl) (pe_lst pa_nil))
        (pss_cons (ps_for PassesOwn.never rfl (pi_range1 rfl T.range (pa_cons (pe_call GP hr rfl mP kP bP .nil pass0 (pa_cons (pv 0) (pa_cons (pv 1) (pa_cons (pe_op op_add (pv 2) pe_int) pa_nil)))) pa_nil)) (pg_name (i := 6) scB.nd rfl (Or.inl rfl))
        (pss_cons (ps_set (i := 7) scB.nd rfl (Or.inl rfl) (pe_bm PySem.F.plainAttrs_list PySem.F.slot_list_pop PySem.F.type_list_pop mt_popAt (pv 3) (pa_cons (pe_call GP hr rfl mP kP bP .nil pass0 (pa_cons (pv 0) (pa_cons (pe_op op_add (pe_op op_add (pv 1) pe_int) (pe_op op_mul pe_int (pv 6))) (pa_cons (pe_callB call_len_seq rfl T.len PySem.boot_len (pa_cons (pv 3) pa_nil)) pa_nil)))) pa_nil)))
        (pss_cons (ps_set (i := 8) scB.nd rfl (Or.inl rfl) (pe_ix ix_list (pv 4) (pe_call GP hr rfl mP kP bP .nil pass0 (pa_cons (pv 0) (pa_cons (pe_op op_add (pe_op op_add (pv 1) pe_int) (pe_op op_mul pe_int (pv 6))) (pa_cons (pe_callB call_len_seq rfl T.len PySem.boot_len (pa_cons (pv 4) pa_nil)) pa_nil)))) (fun _ _ => rfl)))
        (pss_cons (ps_set (i := 9) scB.nd rfl (Or.inl rfl) (pe_ix ix_list (pe_lst (pa_cons pe_str (pa_cons pe_str (pa_cons pe_str (pa_cons pe_str pa_nil))))) (pe_call GP hr rfl mP kP bP .nil pass0 (pa_cons (pv 0) (pa_cons (pe_op op_add (pe_op op_add (pv 1) pe_int) (pe_op op_mul pe_int (pv 6))) (pa_cons pe_int pa_nil)))) (fun _ _ => rfl)))
        (pss_cons (ps_set (i := 10) scB.nd rfl (Or.inl rfl) pe_non)
        (pss_cons (ps_if (pt_cmpR op_gt (pe_call GP hr rfl mP kP bP .nil pass0 (pa_cons (pv 0) (pa_cons (pe_op op_add (pe_op op_add (pv 1) pe_int) (pe_op op_mul pe_int (pv 6))) (pa_cons pe_int pa_nil)))) pe_int (nomark _)) (pss_one (ps_set (i := 10) scB.nd rfl (Or.inl rfl) (pe_ix ix_list (pe_lst (pa_cons pe_int (pa_cons pe_int (pa_cons pe_int (pa_cons pe_int pa_nil))))) (pe_call GP hr rfl mP kP bP .nil pass0 (pa_cons (pv 0) (pa_cons (pe_op op_add (pe_op op_add (pv 1) pe_int) (pe_op op_mul pe_int (pv 6))) (pa_cons pe_int pa_nil)))) (fun _ _ => rfl)))) pss_nil)
        (pss_one p5)))))))
        (pss_one (ps_ret (pe_callTy call_tuple_of rfl T.tuple rfl (pa_cons (pe_callB call_sorted_tups rfl T.sorted PyProof.Rows.boot_sorted (pa_cons (pv 5) pa_nil)) pa_nil)))))))), ?_⟩
    refine ⟨_, rfl, _, _, rfl, rfl, _, _, rfl, fun p1 hp1 => ⟨p1, _, _, rfl, upd_same, ⟨by decide, by decide, by omega, by omega⟩, by omega, fun pl hpl => ?_⟩⟩
    refine ⟨le_line (by decide), fun pf hpf => ⟨Nat.zero_le _, fun pn hpn => ?_⟩⟩
    have s0 : Same H (upd (upd (upd (upd H p1 (.rng 1 (m + 4))) pl (.lst ((List.range (m + 4 - 1 : Int).toNat).map fun k => V.int (1 + (k : Nat))))) pf (.lst [.int 0])) pn (.lst [])) := (((same_upd hp1).trans (same_upd hpl)).trans (same_upd hpf)).trans (same_upd hpn)
    have hfl : pl ≠ pf := fun e => by rw [← e, upd_same] at hpf; cases hpf
    have hln : pl ≠ pn := fun e => by rw [← e, upd_ne hfl, upd_same] at hpn; cases hpn
    have hfn : pf ≠ pn := fun e => by rw [← e, upd_same] at hpn; cases hpn
    have A0 : Sta H pl pf pn (upd (upd (upd (upd H p1 (.rng 1 (m + 4))) pl (.lst ((List.range (m + 4 - 1 : Int).toNat).map fun k => V.int (1 + (k : Nat))))) pf (.lst [.int 0])) pn (.lst [])) (lf0 m) [0] [] :=
      ⟨s0, by rw [upd_ne hln, upd_ne hfl, upd_same, lf0, List.map_map]; rfl, by rw [upd_ne hfn, upd_same]; rfl, upd_same, fun z hz => by simp at hz, (same_upd hp1).free hpl, ((same_upd hp1).trans (same_upd hpl)).free hpf, (((same_upd hp1).trans (same_upd hpl)).trans (same_upd hpf)).free hpn, hfl, hln, hfn⟩
    have B0 : Bd [] (lf0 m) := Bd.zero hm9
    refine ⟨_, rfl, _, rfl, _, rfl, _, _, rfl, rfl, a, _, _, rfl, ha0, by omega, hS.same s0, fun r H1 r0 r1 s1 => ⟨r, rfl, by omega, by omega, ?_⟩⟩
    refine for_range (n := r.toNat) (fun i σ H' => ∃ lf zs o6 o7 o8 o9 o10, σ = [some (.ref a), some (.int at'), some (.int m), some (.ref pl), some (.ref pf), some (.ref pn), o6, o7, o8, o9, o10] ∧ Sta H pl pf pn H' lf (0 :: TW.folders (nds zs)) zs ∧ Bd zs lf ∧ (lf.length : Int) + i = m + 3 ∧ zs.length ≤ i)
      ⟨_, [], _, _, _, _, _, rfl, A0.grow s1, B0, by rw [lf0_len hm0]; omega, Nat.le_refl _⟩ (fun i σ H' hi h => ?_) (fun σ H' h => ?_)
    · obtain ⟨lf, zs, o6, o7, o8, o9, o10, rfl, A1, B, hlf, hzl⟩ := h
      have hi8 : i < 10 := by omega
      have z0 : (0 : Int) ≤ at' + 1 + 6 * (0 + (i : Int)) := by omega
      refine ⟨_, rfl, .inl ⟨rfl, _, SqL.of A1.l⟩, _, rfl, _, rfl, _, _, rfl, rfl, _, rfl, _, _, rfl, rfl, .inl ⟨by decide, by decide⟩, _, _, rfl, rfl, _, rfl, pl, _, rfl, .inl (SqL.of A1.l), a, _, _, rfl, by omega, by rw [List.length_map]; omega, hS.same A1.same, fun j H2 j0 j1 s2 => ?_⟩
      rw [List.length_map] at j1
      have A2 := A1.grow s2
      obtain ⟨num, gnum⟩ : ∃ num, lf[j.toNat]? = some num := ⟨_, List.getElem?_eq_getElem (by omega)⟩
      refine ⟨pl, _, j, j.toNat, .int num, rfl, rfl, A2.l, by omega, by omega, by rw [List.length_map]; exact seq_of j0 j1, by rw [List.getElem?_map, gnum]; rfl, ?_⟩
      rw [erase_map]
      have A3 := A2.pop (lf.eraseIdx j.toNat)
      have elen : (lf.eraseIdx j.toNat).length = lf.length - 1 := List.length_eraseIdx_of_lt (by omega)
      generalize upd H2 pl (.lst ((lf.eraseIdx j.toNat).map V.int)) = H3 at A3 ⊢
      refine ⟨_, rfl, _, rfl, _, rfl, _, _, rfl, rfl, _, rfl, _, _, rfl, rfl, .inl ⟨by decide, by decide⟩, _, _, rfl, rfl, _, rfl, pf, _, rfl, .inl (SqL.of A3.f), a, _, _, rfl, by omega, by rw [List.length_map, List.length_cons]; omega, hS.same A3.same, fun j2 H4 j20 j21 s4 => ?_⟩
      rw [List.length_map] at j21
      obtain ⟨par, mpar, gpar⟩ := pick_in j20 j21
      have A4 := A3.grow s4
      refine ⟨pf, _, _, _, rfl, rfl, SqL.of A4.f, gpar, ?_⟩
      refine ⟨le_line (by decide), fun p3 hp3 => ?_⟩
      have A5 := A4.grow (same_upd (o := .lst [.str "a", .str "b", .str "c", .str "abcde"]) hp3)
      refine ⟨_, rfl, _, rfl, _, _, rfl, rfl, _, rfl, _, _, rfl, rfl, .inl ⟨by decide, by decide⟩, _, _, rfl, rfl, a, _, _, rfl, by omega, by decide, hS.same A5.same, fun j3 H5 j30 j31 s5 => ?_⟩
      obtain ⟨nm, hnm, gnm⟩ := pick_nm j30 j31
      refine ⟨p3, _, _, _, rfl, rfl, SqL.of (s5 _ _ upd_same), gnm, ?_⟩
      have A6 := A5.grow s5
      refine ⟨_, rfl, _, rfl, _, _, rfl, rfl, _, rfl, _, _, rfl, rfl, .inl ⟨by decide, by decide⟩, _, _, rfl, rfl, a, _, _, rfl, by omega, by decide, hS.same A6.same, fun j4 H6 j40 j41 s6 => ⟨_, _, rfl, rfl, _, rfl, ?_⟩⟩
      have A6' := A6.grow s6
      refine ite2 (fun hgt => ?_) (fun hgt => ?_)
      · refine ⟨le_line (by decide), fun p5 hp5 => ?_⟩
        have A65 := A6'.grow (same_upd (o := .lst [.int 0, .int 1, .int 2, .int 999]) hp5)
        refine ⟨_, rfl, _, rfl, _, _, rfl, rfl, _, rfl, _, _, rfl, rfl, .inl ⟨by decide, by decide⟩, _, _, rfl, rfl, a, _, _, rfl, by omega, by decide, hS.same A65.same, fun j5 H65 j50 j51 s65 => ?_⟩
        obtain ⟨i5, hst5, gst⟩ := pick_st j50 j51
        refine ⟨p5, _, _, _, rfl, rfl, SqL.of (s65 _ _ upd_same), gst, ?_⟩
        have A66 := A65.grow s65
        exact h5 _ H H65 pl pf pn _ _ _ _ (lf.eraseIdx j.toNat) zs num par nm (some i5) A66 (by omega) (fun H' A8 => ⟨_, zs, _, _, _, _, _, rfl, A8, B.skip _, by rw [elen]; omega, by omega⟩)
          (fun q H' ho A9 => ⟨_, _, _, _, _, _, _, rfl, A9, B.add (q := q) (n := ⟨num, par, nm, (some i5)⟩) gnum mpar ho hnm hst5, by rw [elen]; omega, by rw [List.length_append, List.length_singleton]; omega⟩)
      · exact h5 _ H H6 pl pf pn _ _ _ _ (lf.eraseIdx j.toNat) zs num par nm none A6' (by omega) (fun H' A8 => ⟨_, zs, _, _, _, _, _, rfl, A8, B.skip _, by rw [elen]; omega, by omega⟩)
          (fun q H' ho A9 => ⟨_, _, _, _, _, _, _, rfl, A9, B.add (q := q) (n := ⟨num, par, nm, none⟩) gnum mpar ho hnm (.inl rfl), by rw [elen]; omega, by rw [List.length_append, List.length_singleton]; omega⟩)
    · obtain ⟨lf, zs, o6, o7, o8, o9, o10, rfl, A1, B, hlf, hzl⟩ := h
      have hzl8 : (zs.length : Int) ≤ m := by omega
      have hnum : (zs.map tp).map (·.2.1) = (nds zs).map (·.num) := by
        unfold nds
        simp only [List.map_map]
        rfl
      have hnd : ((nds zs).map (·.num)).Nodup := (List.nodup_append.mp B.nd).1
      refine ⟨_, rfl, pn, zs.map tp, rfl, SqL.of (by rw [A1.n, tp_refs]), fun z hz => ?_, by rw [hnum]; exact hnd, by rw [List.length_map]; omega, fun ts pm up p hp => ?_⟩
      · obtain ⟨y, hy, rfl⟩ := List.mem_map.mp hz
        exact A1.nd y hy
      · obtain ⟨pm2, eb⟩ := back pm
        have er : (ts.map (·.1)).map V.ref = refs (ts.map un) := by rw [← tp_refs, eb]
        rw [er]
        refine ⟨p, _, rfl, .inl ⟨SqL.of upd_same, fun l hl => ?_⟩⟩
        have mem : ∀ z, z ∈ ts.map un → z ∈ zs := fun z hz => pm2.mem_iff.mp hz
        refine k l (ts.map un) _ upd_same ?_ (by rw [pm2.length_eq]; exact hzl8) ?_ (fun z hz => B.ok z (mem z hz)) ((A1.same.trans (same_upd hp)).trans (same_upd hl))
        · intro z hz
          exact ((same_upd hp).trans (same_upd hl)) _ _ (A1.nd z (mem z hz))
        · refine TW.tree_of B.built (pm2.map _) ?_ hnd B.own
          unfold nds
          rw [List.pairwise_map]
          have up2 : ((ts.map un).map tp).Pairwise (fun a b => a.2.1 < b.2.1) := by rw [eb]; exact up
          rw [List.pairwise_map] at up2
          exact up2.imp fun h => Int.le_of_lt h
end
end TK
set_option Elab.async false
set_option linter.all false
set_option maxRecDepth 100000
set_option maxHeartbeats 8000000
namespace TK
open PySem L2
noncomputable def edS (i : Nat) : Stmt := (defBody sDeed).getD i (.Pass ⟨0, 0, 0, 0⟩)
noncomputable def EN : List Str := ["_law_script", "_law_at", "_law_tree_here", "_law_numbers", "_law_some", "_law_number", "_law_folders", "_law_parent", "_law_name", "_law_way", "_law_stamp", "_law_new"]
theorem scDeed : FnScope EN ["_law_script", "_law_at", "_law_tree_here"] (defScope sDeed) := ⟨rfl, rfl, rfl, by decide +kernel, rfl, by decide +kernel, by decide +kernel⟩
noncomputable abbrev EX (P : Program) (w : World) (K : PySem.W.Frag) (mg : Str → Option Value) (base : Heap) (f : Addr) (cdv : Value) (A : Around) (outer : List Env) (s : Shared) (H : Hp) (E : XK) : Cx := (cxOf CX0 P w K mg base EN "_law_deed" (defScope sDeed) f cdv A outer s H E).nox
noncomputable def edσ (a t : Addr) (at' : Int) (x3 x4 x5 x6 x7 x8 x9 x10 x11 : Option V) : St := [some (.ref a), some (.int at'), some (.ref t), x3, x4, x5, x6, x7, x8, x9, x10, x11]
section
variable {P : Program} {w : World} {K : PySem.W.Frag} {mg : Str → Option Value} {base : Heap} {f : Addr} {cdv : Value} {A : Around} {outer : List Env} {s : Shared} {H0 : Hp} {E : XK}
theorem ed0 : ∃ t, PS (EX P w K mg base f cdv A outer s H0 E) (edS 0) t ∧ ∀ (D : Ends) (H : Hp) (a t' : Addr) (at' : Int) (zs : ZN), Tre H t' zs →
      (∀ p H', Same H H' → H' p = some (.lst (((nds zs).map (·.num)).map V.int)) → D.nx (edσ a t' at' (some (.ref p)) none none none none none none none none) H') → t D (edσ a t' at' none none none none none none none none none) H := by
  refine ⟨_, ps_setLc (ii := 3) (N := ["_law_node"]) (cl := []) (k := 1) (js := []) (g := gName 0) scDeed.nd rfl (Or.inl rfl) rfl (lc_ok0 rfl (by decide +kernel) (by decide +kernel) (by decide +kernel)) rfl (fun i j x h => by simp at h)
    (pi_tup (pv 2)) (fun s H fp => pg_name (i := 0) (show (["_law_node"] : List Str).Nodup by decide +kernel) rfl (Or.inl rfl) (Or.inr rfl)) (fun s H fp => pe_ix (r := rIxT K) ix_tup (pv 0) pe_int (fun _ _ => rfl)), ?_⟩
  intro D H a t' at' zs tr q
  have hl := tr.len
  refine ⟨_, rfl, t', rfl, ⟨_, SqT.of tr.tup⟩, fun p hp => ?_⟩
  refine lc_each (fr := []) zs (fun z => V.ref z.1) (by omega) hp (src_tup (by rw [refs_map]; exact SqT.of tr.tup)) rfl (fun z y _ => y = .int z.2.num) (fun z y H H' h _ => h) (fun z H' k mz s1 _ hk => ⟨_, rfl, z.1, _, _, _, rfl, rfl, SqT.of (s1 _ _ (tr.nod z mz)), at0 z.2, hk _ H' (Same.refl _) rfl⟩) (fun ys H' s1 hp' hys => ?_)
  have ey := paired_map (f := fun z : Addr × Nd => V.int z.2.num) hys (fun z y _ h => h)
  refine q p H' s1 ?_
  rw [hp', ey]
  unfold nds
  rw [List.map_map, List.map_map]
  rfl
theorem ed1 : ∃ t, PS (EX P w K mg base f cdv A outer s H0 E) (edS 1) t ∧ ∀ (D : Ends) (H : Hp) (a t' p : Addr) (at' : Int) (ns : List Int), H p = some (.lst (ns.map V.int)) → ns.length ≤ 60 →
      (∀ q H', Same H H' → H' q = some (.lst ((ns ++ ns ++ ns ++ [55]).map V.int)) → D.nx (edσ a t' at' (some (.ref p)) (some (.ref q)) none none none none none none none) H') → t D (edσ a t' at' (some (.ref p)) none none none none none none none none) H := by
  refine ⟨_, ps_set (i := 4) scDeed.nd rfl (Or.inl rfl) (pe_op op_cat (pe_op op_cat (pe_op op_cat (pv 3) (pv 3)) (pv 3)) (pe_lst (pa_cons pe_int pa_nil))), ?_⟩
  intro D H a t' p at' ns hp hl q
  refine ⟨_, rfl, _, rfl, p, p, _, _, rfl, rfl, hp, hp, le_line (by rw [List.length_map]; omega), fun p1 h1 => ?_⟩
  have s1 := same_upd (o := .lst (ns.map V.int ++ ns.map V.int)) h1
  refine ⟨_, rfl, p1, p, _, _, rfl, rfl, upd_same, s1 _ _ hp, le_line (by rw [List.length_append, List.length_map]; omega), fun p2 h2 => ?_⟩
  have s2 := s1.trans (same_upd (o := .lst (ns.map V.int ++ ns.map V.int ++ ns.map V.int)) h2)
  refine ⟨le_line (show 1 ≤ 1000 by decide), fun p3 h3 => ?_⟩
  have s3 := s2.trans (same_upd (o := .lst [.int 55]) h3)
  refine ⟨p2, p3, _, _, rfl, rfl, upd_keep h3 upd_same, upd_same, le_line (by rw [List.length_append, List.length_append, List.length_map]; show _ + 1 ≤ 1000; omega), fun p4 h4 => ?_⟩
  refine q p4 _ (s3.trans (same_upd h4)) ?_
  rw [upd_same]
  simp only [List.map_append, List.map_cons, List.map_nil]
theorem ed3 : ∃ t, PS (EX P w K mg base f cdv A outer s H0 E) (edS 3) t ∧ ∀ (D : Ends) (H : Hp) (a t' : Addr) (at' : Int) (zs : ZN) (x3 x4 x5 : Option V), Tre H t' zs →
      (∀ p H' (fs : List Int), Same H H' → H' p = some (.lst (fs.map V.int)) → (∀ x ∈ fs, x = 0 ∨ ∃ m ∈ nds zs, m.num = x) → 1 ≤ fs.length → fs.length ≤ 31 → D.nx (edσ a t' at' x3 x4 x5 (some (.ref p)) none none none none none) H') → t D (edσ a t' at' x3 x4 x5 none none none none none none) H := by
  refine ⟨_, ps_set (i := 6) scDeed.nd rfl (Or.inl rfl) (pe_op op_cat (pe_lc1 (N := ["_law_node"]) (cl := []) (k := 1) (js := []) (g := gName 0) rfl (lc_ok0 rfl (by decide +kernel) (by decide +kernel) (by decide +kernel)) rfl (fun i j x h => by simp at h)
    (pi_tup (pv 2)) (fun s H fp => pg_name (i := 0) (show (["_law_node"] : List Str).Nodup by decide +kernel) rfl (Or.inl rfl) (Or.inr rfl)) (fun s H fp => pt_cmpR op_isN (pe_ix (r := rIxT K) ix_tup (pv 0) pe_int (fun _ _ => rfl)) pe_non (nomark _)) (fun s H fp => pe_ix (r := rIxT K) ix_tup (pv 0) pe_int (fun _ _ => rfl))) (pe_lst (pa_cons pe_int pa_nil))), ?_⟩
  intro D H a t' at' zs x3 x4 x5 tr q
  have hl := tr.len
  refine ⟨_, rfl, t', rfl, ⟨_, SqT.of tr.tup⟩, fun p hp => ?_⟩
  refine lc_sel (fr := []) zs (fun z => V.ref z.1) (by omega) hp (src_tup (by rw [refs_map]; exact SqT.of tr.tup)) rfl (fun z => decide (stV z.2.st = V.non)) (fun z y _ => y = .int z.2.num) (fun z y H H' h _ => h) (fun z H' k mz s1 _ hk => ⟨_, rfl, z.1, _, _, _, rfl, rfl, SqT.of (s1 _ _ (tr.nod z mz)), at3 z.2, rfl, _, rfl, hk H' (Same.refl _)⟩)
    (fun z H' k mz _ s1 _ hk => ⟨_, rfl, z.1, _, _, _, rfl, rfl, SqT.of (s1 _ _ (tr.nod z mz)), at0 z.2, hk _ H' (Same.refl _) rfl⟩) (fun ys H' s1 hp' hys => ?_)
  have ey := paired_map (f := fun z : Addr × Nd => V.int z.2.num) hys (fun z y _ h => h)
  have hfl := List.length_filter_le (fun z : Addr × Nd => decide (stV z.2.st = V.non)) zs
  have ey2 : ys = ((zs.filter fun z : Addr × Nd => decide (stV z.2.st = V.non)).map fun z => z.2.num).map V.int := by rw [ey, List.map_map]; rfl
  refine ⟨le_line (show 1 ≤ 1000 by decide), fun p2 h2 => ?_⟩
  refine ⟨p, p2, _, _, rfl, rfl, upd_keep h2 hp', upd_same, le_line (by rw [ey, List.length_map]; show _ + 1 ≤ 1000; omega), fun p3 h3 => ?_⟩
  refine q p3 _ (((zs.filter fun z : Addr × Nd => decide (stV z.2.st = V.non)).map fun z => z.2.num) ++ [0]) ((s1.trans (same_upd h2)).trans (same_upd h3)) ?_ (fun x hx => ?_) (by simp) (by rw [List.length_append, List.length_map]; simp; omega)
  · rw [upd_same, ey2, List.map_append]; rfl
  · rcases List.mem_append.mp hx with h | h
    · obtain ⟨z, hz, rfl⟩ := List.mem_map.mp h
      exact .inr ⟨z.2, mem_nds (List.mem_filter.mp hz).1, rfl⟩
    · exact .inl (by simpa using h)
end
end TK
set_option Elab.async false
set_option linter.all false
set_option maxRecDepth 100000
set_option maxHeartbeats 8000000
namespace TK
open PySem L2
noncomputable def edMake : List Stmt := match edS 7 with
  | .If _ a _ _ => a
  | _ => []
theorem pick_st6 {j : Int} (h0 : 0 ≤ j) (h1 : j < 6) : ∃ st, atI [V.non, .non, .int 0, .int 1, .int 2, .int 3] j = some (stV st) ∧ StOk st := by
  have hj : j = 0 ∨ j = 1 ∨ j = 2 ∨ j = 3 ∨ j = 4 ∨ j = 5 := by omega
  rcases hj with rfl | rfl | rfl | rfl | rfl | rfl
  · exact ⟨none, rfl, fun i e => by cases e⟩
  · exact ⟨none, rfl, fun i e => by cases e⟩
  · exact ⟨some 0, rfl, fun i e => by cases e; decide⟩
  · exact ⟨some 1, rfl, fun i e => by cases e; decide⟩
  · exact ⟨some 2, rfl, fun i e => by cases e; decide⟩
  · exact ⟨some 3, rfl, fun i e => by cases e; decide⟩
theorem pick_st4 {j : Int} (h0 : 0 ≤ j) (h1 : j < 4) : ∃ i, atI [V.int 0, .int 1, .int 2, .int 998] j = some (.int i) ∧ 0 ≤ i ∧ i ≤ 999 := by
  have hj : j = 0 ∨ j = 1 ∨ j = 2 ∨ j = 3 := by omega
  rcases hj with rfl | rfl | rfl | rfl
  · exact ⟨0, rfl, by decide, by decide⟩
  · exact ⟨1, rfl, by decide, by decide⟩
  · exact ⟨2, rfl, by decide, by decide⟩
  · exact ⟨998, rfl, by decide, by decide⟩
theorem pick_two {j x y : Int} (h0 : 0 ≤ j) (h1 : j < 5) : ∃ z, atI [V.int x, .int y] (j / 4) = some (.int z) ∧ (z = x ∨ z = y) := by
  have hj : j / 4 = 0 ∨ j / 4 = 1 := by omega
  rcases hj with e | e
  · rw [e]; exact ⟨x, rfl, .inl rfl⟩
  · rw [e]; exact ⟨y, rfl, .inr rfl⟩
section
variable {P : Program} {w : World} {K : PySem.W.Frag} {mg : Str → Option Value} {base : Heap} {f : Addr} {cdv : Value} {A : Around} {outer : List Env} {s : Shared} {H0 : Hp} {E : XK}
theorem edM (hr : Room 2 (A.deeper (PyProof.Rows.envOfC "_law_deed" (defScope sDeed) s.heap.objs.size f cdv))) (CP : Has P w K mg base 2 "_law_pick" ["_law_script", "_law_k", "_law_many"] (spPick K)) :
    ∃ t, PSs (EX P w K mg base f cdv A outer s H0 E) edMake t ∧ ∀ (D : Ends) (H : Hp) (a t' : Addr) (at' n p : Int) (nm : Str) (x3 x4 x6 x9 : Option V), ScrAt K H a → 0 ≤ at' → 1 ≤ n → n ≤ 60 → 0 ≤ p → p ≤ 60 → NmOk nm →
      (∀ c dd H', Same H H' → H' c = some (.tup (deedV dd)) → DeedFine dd → D.rt (.ref c) H') → t D (edσ a t' at' x3 x4 (some (.int n)) x6 (some (.int p)) (some (.str nm)) x9 none none) H := by
  obtain ⟨fP, fdP, GP, mP, kP, bP⟩ := CP
  refine ⟨_, pss_cons (ps_set (i := 10) scDeed.nd rfl (Or.inl rfl) (pe_ix ix_list (pe_lst (pa_cons pe_non (pa_cons pe_non (pa_cons pe_int (pa_cons pe_int (pa_cons pe_int (pa_cons pe_int pa_nil))))))) (pe_call GP hr rfl mP kP bP .nil pass0 (pa_cons (pv 0) (pa_cons (pe_op op_add (pv 1) pe_int) (pa_cons pe_int pa_nil)))) (fun _ _ => rfl)))
    (pss_cons (ps_set (i := 11) scDeed.nd rfl (Or.inl rfl) (pe_ix ix_list (pe_lst (pa_cons (pe_op op_add pe_int (pe_call GP hr rfl mP kP bP .nil pass0 (pa_cons (pv 0) (pa_cons (pe_op op_add (pv 1) pe_int) (pa_cons pe_int pa_nil))))) (pa_cons (pv 5) pa_nil))) (pe_op op_fdiv (pe_call GP hr rfl mP kP bP .nil pass0 (pa_cons (pv 0) (pa_cons (pe_op op_add (pv 1) pe_int) (pa_cons pe_int pa_nil)))) pe_int) (fun _ _ => rfl)))
    (pss_one (ps_ret (pe_tup (pa_cons pe_str (pa_cons (pv 11) (pa_cons (pv 7) (pa_cons (pv 8) (pa_cons (pv 10) pa_nil))))))))), ?_⟩
  intro D H a t' at' n p nm x3 x4 x6 x9 hS hat hn1 hn2 hp1 hp2 hnm q
  refine ⟨le_line (show 6 ≤ 1000 by decide), fun l1 hl1 => ?_⟩
  have s1 := same_upd (o := .lst [.non, .non, .int 0, .int 1, .int 2, .int 3]) hl1
  refine ⟨_, rfl, _, rfl, _, _, rfl, rfl, a, _, _, rfl, by omega, by decide, hS.same s1, fun j1 H1 j10 j11 s2 => ?_⟩
  obtain ⟨st, est, hst⟩ := pick_st6 j10 j11
  refine ⟨l1, _, _, _, rfl, rfl, SqL.of (s2 _ _ upd_same), est, ?_⟩
  have s12 := s1.trans s2
  refine ⟨_, rfl, _, rfl, _, _, rfl, rfl, a, _, _, rfl, by omega, by decide, hS.same s12, fun j2 H2 j20 j21 s3 => ?_⟩
  refine ⟨_, _, rfl, rfl, _, rfl, le2, fun l2 hl2 => ?_⟩
  have s13 := s12.trans s3
  have s4 := s13.trans (same_upd (o := .lst [.int (1 + j2), .int n]) hl2)
  refine ⟨_, rfl, _, rfl, _, _, rfl, rfl, a, _, _, rfl, by omega, by decide, hS.same s4, fun j3 H3 j30 j31 s5 => ?_⟩
  obtain ⟨nw, enw, hnw⟩ := pick_two (x := 1 + j2) (y := n) j30 j31
  refine ⟨_, _, rfl, rfl, ⟨by decide, by decide⟩, l2, _, _, _, rfl, rfl, SqL.of (s5 _ _ upd_same), enw, ?_⟩
  refine ⟨_, rfl, _, rfl, _, rfl, _, rfl, (show 5 ≤ sizeLine from le_line (by decide)), fun c hc => ?_⟩
  refine q c (.make nw p nm st) _ ((s4.trans s5).trans (same_upd hc)) upd_same ⟨?_, ?_, hp1, hp2, hnm, hst⟩
  · rcases hnw with e | e <;> omega
  · rcases hnw with e | e <;> omega
theorem ed7 (hr : Room 2 (A.deeper (PyProof.Rows.envOfC "_law_deed" (defScope sDeed) s.heap.objs.size f cdv))) (CP : Has P w K mg base 2 "_law_pick" ["_law_script", "_law_k", "_law_many"] (spPick K)) :
    ∃ t, PS (EX P w K mg base f cdv A outer s H0 E) (edS 7) t ∧ ∀ (D : Ends) (H : Hp) (a t' pn : Addr) (at' n p wy : Int) (nm : Str) (ns : List Int) (x4 x6 : Option V), ScrAt K H a → 0 ≤ at' → 1 ≤ n → n ≤ 60 → 0 ≤ p → p ≤ 60 → NmOk nm → H pn = some (.lst (ns.map V.int)) →
      (∀ c dd H', Same H H' → H' c = some (.tup (deedV dd)) → DeedFine dd → D.rt (.ref c) H') → (∀ H', Same H H' → D.nx (edσ a t' at' (some (.ref pn)) x4 (some (.int n)) x6 (some (.int p)) (some (.str nm)) (some (.int wy)) none none) H') →
      t D (edσ a t' at' (some (.ref pn)) x4 (some (.int n)) x6 (some (.int p)) (some (.str nm)) (some (.int wy)) none none) H := by
  obtain ⟨tM, pM, hM⟩ := edM (f := f) (cdv := cdv) (outer := outer) (H0 := H0) (E := E) hr CP
  refine ⟨_, ps_if (PW.pt (pw_or (pt_cmpR op_lt (pv 9) pe_int (nomark _)) (pw_or1 (pt_cmpR (op_eq_lst0 hr.units0) (pv 3) (pe_lst pa_nil) (nomark _))))) pM pss_nil, ?_⟩
  intro D H a t' pn at' n p wy nm ns x4 x6 hS hat hn1 hn2 hp1 hp2 hnm hpn q qn
  refine ⟨_, rfl, _, _, rfl, rfl, _, rfl, ?_⟩
  refine ite2 (fun hlt => ?_) (fun hlt => ?_)
  · exact iteT (hM D H a t' at' n p nm _ _ _ _ hS hat hn1 hn2 hp1 hp2 hnm q)
  · refine ⟨_, rfl, Nat.zero_le _, fun l hl => ?_⟩
    have s1 := same_upd (o := .lst []) hl
    refine ⟨pn, l, _, rfl, rfl, SqL.of (s1 _ _ hpn), SqL.of upd_same, _, rfl, ?_⟩
    refine ite2 (fun _ => ?_) (fun _ => ?_)
    · exact hM D _ a t' at' n p nm _ _ _ _ (hS.same s1) hat hn1 hn2 hp1 hp2 hnm fun c dd H' s' => q c dd H' (s1.trans s')
    · exact qn _ s1
theorem ed8 (hr : Room 2 (A.deeper (PyProof.Rows.envOfC "_law_deed" (defScope sDeed) s.heap.objs.size f cdv))) (CP : Has P w K mg base 2 "_law_pick" ["_law_script", "_law_k", "_law_many"] (spPick K)) :
    ∃ t, PSs (EX P w K mg base f cdv A outer s H0 E) [edS 8, edS 9, edS 10] t ∧ ∀ (D : Ends) (H : Hp) (a t' : Addr) (at' n p wy : Int) (nm : Str) (x3 x4 x6 : Option V), ScrAt K H a → 0 ≤ at' → 1 ≤ n → n ≤ 60 → 0 ≤ p → p ≤ 60 → NmOk nm →
      (∀ c dd H', Same H H' → H' c = some (.tup (deedV dd)) → DeedFine dd → D.rt (.ref c) H') →
      t D (edσ a t' at' x3 x4 (some (.int n)) x6 (some (.int p)) (some (.str nm)) (some (.int wy)) none none) H := by
  obtain ⟨fP, fdP, GP, mP, kP, bP⟩ := CP
  refine ⟨_, pss_cons (ps_if (pt_cmpR op_eq (pv 9) pe_int (nomark _)) (pss_one (ps_ret (pe_tup (pa_cons pe_str (pa_cons (pv 5) (pa_cons (pe_ix ix_list (pe_lst (pa_cons pe_int (pa_cons pe_int (pa_cons pe_int (pa_cons pe_int pa_nil))))) (pe_call GP hr rfl mP kP bP .nil pass0 (pa_cons (pv 0) (pa_cons (pe_op op_add (pv 1) pe_int) (pa_cons pe_int pa_nil)))) (fun _ _ => rfl)) pa_nil)))))) pss_nil)
    (pss_cons (ps_if (pt_cmpR op_lt (pv 9) pe_int (nomark _)) (pss_one (ps_ret (pe_tup (pa_cons pe_str (pa_cons (pv 5) (pa_cons (pv 7) (pa_cons (pv 8) pa_nil))))))) pss_nil)
    (pss_one (ps_ret (pe_tup (pa_cons pe_str (pa_cons (pv 5) pa_nil)))))), ?_⟩
  intro D H a t' at' n p wy nm x3 x4 x6 hS hat hn1 hn2 hp1 hp2 hnm q
  refine ⟨_, rfl, rfl, _, rfl, ?_⟩
  refine ite2 (fun _ => ?_) (fun _ => ?_)
  · refine ⟨_, rfl, le_line (show 4 ≤ 1000 by decide), fun l1 hl1 => ?_⟩
    have s1 := same_upd (o := .lst [.int 0, .int 1, .int 2, .int 998]) hl1
    refine ⟨_, rfl, _, rfl, _, _, rfl, rfl, a, _, _, rfl, by omega, by decide, hS.same s1, fun j1 H1 j10 j11 s2 => ?_⟩
    obtain ⟨i, ei, hi1, hi2⟩ := pick_st4 j10 j11
    refine ⟨l1, _, _, _, rfl, rfl, SqL.of (s2 _ _ upd_same), ei, (show 3 ≤ sizeLine from le_line (by decide)), fun c hc => ?_⟩
    exact q c (.write n i) _ ((s1.trans s2).trans (same_upd hc)) upd_same ⟨hn1, hn2, hi1, hi2⟩
  · refine ⟨_, rfl, _, _, rfl, rfl, _, rfl, ?_⟩
    refine ite2 (fun _ => ?_) (fun _ => ?_)
    · exact ⟨_, rfl, _, rfl, _, rfl, (show 4 ≤ sizeLine from le_line (by decide)), fun c hc => q c (.move n p nm) _ (same_upd hc) upd_same ⟨hn1, hn2, hp1, hp2, hnm⟩⟩
    · exact ⟨_, rfl, (show 2 ≤ sizeLine from le2), fun c hc => q c (.drop n) _ (same_upd hc) upd_same ⟨hn1, hn2⟩⟩
end
section
variable {P : Program} {w : World} {K : PySem.W.Frag} {mg : Str → Option Value} {base : Heap}
noncomputable def spDeed (K : PySem.W.Frag) : Sp := fun vs H Q _ => ∃ a at' t zs, vs = [.ref a, .int at', .ref t] ∧ 0 ≤ at' ∧ ScrAt K H a ∧ Tre H t zs ∧ (∀ n ∈ nds zs, NdOk n) ∧ ∀ c dd H', Same H H' → H' c = some (.tup (deedV dd)) → DeedFine dd → Q (.ref c) H'
theorem ok_deed {f : Addr} {fd : FuncData} (F : Fun K "_law_deed" "_law_deed" sDeed f fd) (T : Txt mg) (CP : Has P w K mg base 2 "_law_pick" ["_law_script", "_law_k", "_law_many"] (spPick K)) : FnOk P w K mg base CX0 3 f fd ["_law_script", "_law_at", "_law_tree_here"] (spDeed K) := by
  obtain ⟨fP, fdP, GP, mP, kP, bP⟩ := id CP
  refine F.ok scDeed (fun vs H Q E h => ?_) (fun cdv A outer s H vs Q E hr h => ?_)
  · obtain ⟨a, at', t, zs, rfl, _⟩ := h
    rfl
  · obtain ⟨a, at', t, zs, rfl, hat, hS, tr, hok, q⟩ := h
    obtain ⟨t0, p0, h0⟩ := ed0 (P := P) (w := w) (K := K) (mg := mg) (base := base) (f := f) (cdv := cdv) (A := A) (outer := outer) (s := s) (H0 := H) (E := E)
    obtain ⟨t1, p1, h1⟩ := ed1 (P := P) (w := w) (K := K) (mg := mg) (base := base) (f := f) (cdv := cdv) (A := A) (outer := outer) (s := s) (H0 := H) (E := E)
    obtain ⟨t3, p3, h3⟩ := ed3 (P := P) (w := w) (K := K) (mg := mg) (base := base) (f := f) (cdv := cdv) (A := A) (outer := outer) (s := s) (H0 := H) (E := E)
    obtain ⟨t7, p7, h7⟩ := ed7 (f := f) (cdv := cdv) (outer := outer) (H0 := H) (E := E) hr CP
    obtain ⟨t8, p8, h8⟩ := ed8 (f := f) (cdv := cdv) (outer := outer) (H0 := H) (E := E) hr CP
    refine ⟨_, pss_cons p0 (pss_cons p1
      (pss_cons (ps_set (i := 5) scDeed.nd rfl (Or.inl rfl) (pe_ix ix_list (pv 4) (pe_call GP hr rfl mP kP bP .nil pass0 (pa_cons (pv 0) (pa_cons (pv 1) (pa_cons (pe_callB call_len_seq rfl T.len PySem.boot_len (pa_cons (pv 4) pa_nil)) pa_nil)))) (fun _ _ => rfl)))
      (pss_cons p3
      (pss_cons (ps_set (i := 7) scDeed.nd rfl (Or.inl rfl) (pe_ix ix_list (pe_op op_cat (pe_op op_cat (pv 6) (pv 6)) (pv 4)) (pe_call GP hr rfl mP kP bP .nil pass0 (pa_cons (pv 0) (pa_cons (pe_op op_add (pv 1) pe_int) (pa_cons (pe_op op_add (pe_op op_mul pe_int (pe_callB call_len_seq rfl T.len PySem.boot_len (pa_cons (pv 6) pa_nil))) (pe_callB call_len_seq rfl T.len PySem.boot_len (pa_cons (pv 4) pa_nil))) pa_nil)))) (fun _ _ => rfl)))
      (pss_cons (ps_set (i := 8) scDeed.nd rfl (Or.inl rfl) (pe_ix ix_list (pe_lst (pa_cons pe_str (pa_cons pe_str (pa_cons pe_str (pa_cons pe_str pa_nil))))) (pe_call GP hr rfl mP kP bP .nil pass0 (pa_cons (pv 0) (pa_cons (pe_op op_add (pv 1) pe_int) (pa_cons pe_int pa_nil)))) (fun _ _ => rfl)))
      (pss_cons (ps_set (i := 9) scDeed.nd rfl (Or.inl rfl) (pe_call GP hr rfl mP kP bP .nil pass0 (pa_cons (pv 0) (pa_cons (pe_op op_add (pv 1) pe_int) (pa_cons pe_int pa_nil)))))
      (pss_cons p7 p8))))))), ?_⟩
    have hl := tr.len
    have hnr : ∀ x ∈ (nds zs).map (·.num), 1 ≤ x ∧ x ≤ 60 := fun x hx => by
      obtain ⟨n, hn, rfl⟩ := List.mem_map.mp hx
      exact ⟨(hok n hn).1, (hok n hn).2.1⟩
    refine h0 _ H a t at' zs tr fun pn H1 s1 hpn => ?_
    generalize hns : (nds zs).map (·.num) = ns at hpn hnr
    have hnl : ns.length = zs.length := by rw [← hns, List.length_map, nds_len]
    refine h1 _ H1 a t pn at' ns hpn (by omega) fun ps H2 s2 hps => ?_
    have hsr : ∀ x ∈ ns ++ ns ++ ns ++ [55], 1 ≤ x ∧ x ≤ 60 := fun x hx => by
      rcases List.mem_append.mp hx with h | h
      · rcases List.mem_append.mp h with h | h
        · rcases List.mem_append.mp h with h | h <;> exact hnr x h
        · exact hnr x h
      · have : x = 55 := by simpa using h
        omega
    have hsl : (ns ++ ns ++ ns ++ [55]).length ≤ 100 ∧ 1 ≤ (ns ++ ns ++ ns ++ [55]).length := by simp; omega
    generalize ns ++ ns ++ ns ++ [55] = ss at hps hsr hsl ⊢
    have s12 := s1.trans s2
    refine ⟨_, rfl, _, rfl, _, rfl, _, rfl, ps, _, rfl, .inl (SqL.of hps), a, at', _, rfl, hat, by rw [List.length_map]; omega, hS.same s12, fun j H3 j0 j1 s3 => ?_⟩
    rw [List.length_map] at j1
    obtain ⟨n, en, hn1, hn2⟩ := at_ints j0 j1 hsr
    refine ⟨ps, _, _, _, rfl, rfl, SqL.of (s3 _ _ hps), en, ?_⟩
    have s13 := s12.trans s3
    refine h3 _ H3 a t at' zs _ _ _ (tr.same s13) fun pf H4 fs s4 hpf hfs hf1 hf2 => ?_
    have s14 := s13.trans s4
    have hps4 := s4 _ _ (s3 _ _ hps)
    refine ⟨_, rfl, _, rfl, pf, pf, _, _, rfl, rfl, hpf, hpf, le_line (by rw [List.length_map]; omega), fun l1 hl1 => ?_⟩
    have u1 := same_upd (o := .lst (fs.map V.int ++ fs.map V.int)) hl1
    refine ⟨_, rfl, l1, ps, _, _, rfl, rfl, upd_same, u1 _ _ hps4, le_line (by rw [List.length_append, List.length_map, List.length_map]; omega), fun l2 hl2 => ?_⟩
    have u2 := u1.trans (same_upd (o := .lst (fs.map V.int ++ fs.map V.int ++ ss.map V.int)) hl2)
    have hl2' : upd (upd H4 l1 (.lst (fs.map V.int ++ fs.map V.int))) l2 (.lst (fs.map V.int ++ fs.map V.int ++ ss.map V.int)) l2 = some (.lst ((fs ++ fs ++ ss).map V.int)) := by rw [upd_same]; simp only [List.map_append]
    generalize upd (upd H4 l1 (.lst (fs.map V.int ++ fs.map V.int))) l2 (.lst (fs.map V.int ++ fs.map V.int ++ ss.map V.int)) = H5 at u2 hl2' ⊢
    have s15 := s14.trans u2
    refine ⟨_, rfl, _, rfl, _, _, rfl, rfl, _, rfl, pf, _, rfl, .inl (SqL.of (u2 _ _ hpf)), _, _, rfl, rfl, .inl ⟨by decide, by decide⟩, _, rfl, ps, _, rfl, .inl (SqL.of (u2 _ _ hps4)), _, _, rfl, rfl, a, _, _, rfl, by omega, by rw [List.length_map, List.length_map]; omega, hS.same s15, fun j2 H6 j20 j21 s6 => ?_⟩
    rw [List.length_map, List.length_map] at j21
    obtain ⟨p, ep, hp1, hp2⟩ := at_ints (ns := fs ++ fs ++ ss) (P := fun x => 0 ≤ x ∧ x ≤ 60) j20 (by rw [List.length_append, List.length_append]; omega) (fun x hx => by
      have hf : ∀ x ∈ fs, 0 ≤ x ∧ x ≤ 60 := fun x hx => by
        rcases hfs x hx with e | ⟨m, hm, e⟩
        · omega
        · have := hok m hm
          have h1 := this.1
          have h2 := this.2.1
          omega
      rcases List.mem_append.mp hx with h | h
      · rcases List.mem_append.mp h with h | h <;> exact hf x h
      · have := hsr x h; omega)
    refine ⟨l2, _, _, _, rfl, rfl, SqL.of (s6 _ _ hl2'), ep, ?_⟩
    have s16 := s15.trans s6
    refine ⟨le_line (show 4 ≤ 1000 by decide), fun l3 hl3 => ?_⟩
    have s17 := s16.trans (same_upd (o := .lst [.str "a", .str "b", .str "c", .str "abcde"]) hl3)
    refine ⟨_, rfl, _, rfl, _, _, rfl, rfl, a, _, _, rfl, by omega, by decide, hS.same s17, fun j3 H7 j30 j31 s7 => ?_⟩
    obtain ⟨nm, hnm, gnm⟩ := pick_nm j30 j31
    refine ⟨l3, _, _, _, rfl, rfl, SqL.of (s7 _ _ upd_same), gnm, ?_⟩
    have s18 := s17.trans s7
    refine ⟨_, rfl, _, rfl, _, _, rfl, rfl, a, _, _, rfl, by omega, by decide, hS.same s18, fun wy H8 _ _ s8 => ?_⟩
    have s19 := s18.trans s8
    have s29 : Same H1 H8 := ((((s2.trans s3).trans s4).trans u2).trans s6).trans ((same_upd hl3).trans (s7.trans s8))
    refine h7 _ H8 a t pn at' n p wy nm ns _ _ (hS.same s19) hat hn1 hn2 hp1 hp2 hnm (s29 _ _ hpn) (fun c dd H' s' => q c dd H' (s19.trans s')) fun H9 s9 => ?_
    exact h8 _ H9 a t at' n p wy nm _ _ _ (hS.same (s19.trans s9)) hat hn1 hn2 hp1 hp2 hnm fun c dd H' s' => q c dd H' ((s19.trans s9).trans s')
end
end TK
set_option Elab.async false
set_option linter.all false
set_option maxRecDepth 100000
set_option maxHeartbeats 8000000
namespace TK
open PySem L2
section
variable {P : Program} {w : World} {K : PySem.W.Frag} {mg : Str → Option Value} {base : Heap}
noncomputable def spFur (K : PySem.W.Frag) : Sp := fun vs H Q _ => ∃ a at' t m zs, vs = [.ref a, .int at', .ref t, .int m] ∧ 0 ≤ at' ∧ 0 ≤ m ∧ m ≤ 12 ∧ ScrAt K H a ∧ Tre H t zs ∧ (∀ n ∈ nds zs, NdOk n) ∧ (zs.length : Int) + m ≤ 29 ∧ ∀ t' us H', Same H H' → Tre H' t' us → (∀ n ∈ nds us, NdOk n) → (us.length : Int) ≤ zs.length + m → (∃ ms : List Int, (ms.length : Int) ≤ m ∧ ∀ n ∈ nds us, n.num ∈ (nds zs).map (·.num) ∨ n.num ∈ ms) → Q (.ref t') H'
theorem scFur : FnScope ["_law_script", "_law_at", "_law_tree_here", "_law_many", "_law_j", "_law_behind"] ["_law_script", "_law_at", "_law_tree_here", "_law_many"] (defScope sFur) := ⟨rfl, rfl, rfl, by decide +kernel, rfl, by decide +kernel, by decide +kernel⟩
theorem ok_fur {f : Addr} {fd : FuncData} (F : Fun K "_law_further" "_law_further" sFur f fd) (T : Txt mg) (CE : Has P w K mg base 3 "_law_deed" ["_law_script", "_law_at", "_law_tree_here"] (spDeed K)) (CL : Has P w K mg base 2 "_law_done" ["_law_tree_here", "_law_deed_here"] spLDone) : FnOk P w K mg base CX0 4 f fd ["_law_script", "_law_at", "_law_tree_here", "_law_many"] (spFur K) := by
  obtain ⟨fE, fdE, GE, mE, kE, bE⟩ := CE
  obtain ⟨fL, fdL, GL, mL, kL, bL⟩ := CL
  refine F.ok scFur (fun vs H Q E h => ?_) (fun cdv A outer s H vs Q E hr h => ?_)
  · obtain ⟨a, at', t, m, zs, rfl, _⟩ := h
    rfl
  · obtain ⟨a, at', t, m, zs, rfl, ha0, hm0, hm1, hS, tr, hok, hl, q⟩ := h
    have hr2 : Room 2 _ := hr.mono (by decide)
    refine ⟨_, pss_cons (ps_for PassesOwn.never rfl (pi_range1 rfl T.range (pa_cons (pv 3) pa_nil)) (pg_name (i := 4) scFur.nd rfl (Or.inl rfl))
        (pss_cons (ps_set (i := 5) scFur.nd rfl (Or.inl rfl) (pe_call GL hr2 rfl mL kL bL .nil pass0 (pa_cons (pv 2) (pa_cons (pe_call GE hr rfl mE kE bE .nil pass0 (pa_cons (pv 0) (pa_cons (pe_op op_add (pv 1) (pe_op op_mul pe_int (pv 4))) (pa_cons (pv 2) pa_nil)))) pa_nil))))
        (pss_one (ps_if (pt_not (pt_val (pe_callB call_isinst rfl T.isin PyProof.Rows.boot_isinstance (pa_cons (pv 5) (pa_cons (pe_bltn (v := .ty "str") rfl T.str PyProof.Rows.boot_str rfl) pa_nil))) (fun _ => rfl))) (pss_one (ps_set (i := 2) scFur.nd rfl (Or.inl rfl) (pv 5))) pss_nil))))
      (pss_one (ps_ret (pv 2))), ?_⟩
    refine ⟨_, rfl, m, rfl, by omega, by omega, ?_⟩
    refine for_range (n := m.toNat) (fun i σ H' => ∃ t' us x4 x5, σ = [some (.ref a), some (.int at'), some (.ref t'), some (.int m), x4, x5] ∧ Same H H' ∧ H' t' = some (.tup (refs us)) ∧ At H' us ∧ TW.Tree1 (nds us) ∧ (∀ n ∈ nds us, NdOk n) ∧ us.length ≤ zs.length + i ∧ ∃ ms : List Int, ms.length ≤ i ∧ ∀ n ∈ nds us, n.num ∈ (nds zs).map (·.num) ∨ n.num ∈ ms) ⟨t, zs, none, none, rfl, Same.refl _, tr.tup, tr.nod, tr.tr, hok, Nat.le_refl _, [], Nat.le_refl _, fun n hn => .inl (List.mem_map.mpr ⟨n, hn, rfl⟩)⟩ (fun i σ H' hi h => ?_) (fun σ H' h => ?_)
    · obtain ⟨t', us, x4, x5, rfl, s1, ht', hA', hT', hok', hl', ms, hms, hmem⟩ := h
      have hi' : (i : Int) < m := by omega
      have tr' : Tre H' t' us := ⟨ht', hA', hT', by omega⟩
      refine ⟨_, rfl, _, rfl, _, rfl, _, rfl, _, _, rfl, rfl, .inl ⟨by decide, by decide⟩, _, _, rfl, rfl, _, rfl, a, _, t', us, rfl, by omega, hS.same s1, tr', hok', fun c dd H3 s3 hc hf => ?_⟩
      refine ⟨t', c, dd, us, rfl, tr'.same s3, by omega, hc, hf.ok, fun ws t2 H4 s4 ht2 hA2 told => ?_, fun wd H4 s4 told => ?_⟩
      · refine ⟨_, rfl, _, _, _, _, rfl, .tup ht2, (by kernel_rfl : _ = some false), _, rfl, iteT ⟨_, rfl, t2, ws, _, _, rfl, (s1.trans s3).trans s4, ht2, hA2, told.tree hT' hf.ok.pos, NdOk.told hok' hf told, ?_, dd.key :: ms, by rw [List.length_cons]; omega, fun n hn => ?_⟩⟩
        · have := told.len
          rw [nds_len, nds_len] at this
          omega
        · by_cases hk : n.num = dd.key
          · exact .inr (by rw [hk]; exact List.mem_cons_self)
          · have T2 := told.tree hT' hf.ok.pos
            rcases told.others hT' T2 hk with e | ⟨_, _, _, hno⟩
            · rw [TW.findN_some T2 hn rfl] at e
              obtain ⟨h1, h2⟩ := TW.findN_num e.symm
              rcases hmem n h1 with q | q
              · exact .inl q
              · exact .inr (List.mem_cons_of_mem _ q)
            · exact absurd rfl (hno n hn)
      · exact ⟨_, rfl, _, _, _, _, rfl, .str _, (by kernel_rfl : _ = some true), _, rfl, iteF ⟨t', us, _, _, rfl, (s1.trans s3).trans s4, s4 _ _ (s3 _ _ ht'), (hA'.same s3).same s4, hT', hok', by omega, ms, by omega, hmem⟩⟩
    · obtain ⟨t', us, x4, x5, rfl, s1, ht', hA', hT', hok', hl', ms, hms, hmem⟩ := h
      exact ⟨_, rfl, q t' us H' s1 ⟨ht', hA', hT', by omega⟩ hok' (by omega) ⟨ms, by omega, hmem⟩⟩
end
end TK
set_option Elab.async false
set_option linter.all false
set_option maxRecDepth 100000
set_option maxHeartbeats 4000000
namespace L2
open PySem PySem.Spec PyProof.Rows
section
variable {X : Cx}
theorem pe_bmK (K : PySem.W.Frag) {T name id : _} {r : V → List V → Hp → VK → Prop} {o e : Expr} {es : List Expr} {apos cpos : Pos} {to : TE} {t : TA} (pa : PlainAttrs T) (slot : Slot T name id) (hty : typeOf (.builtin id) = pure (.type "method_descriptor")) (hm : MtR X id r) (ho : PE X o to) (ha : PA X (e :: es) t)
    (hK : X.K = K := by rfl)
    (hbase : attributeBase o name X.env (eval o X.env) = eval o X.env := by rfl)
    (hfew : ((backTo cpos (starEach (e :: es) X.env)).all (fun x => !x.1) && (backToKw cpos (keywordEach [] X.env)).all (fun x => x.1.isSome)
      && decide ((e :: es).length + ([] : List Keyword).length + (if ([] : List Keyword).isEmpty then 0 else 1) < 30)) = true := by rfl)
    (hline : (apos.endLine == cpos.line) = true := by rfl) (hs : starEach (e :: es) X.env = (false, eval e X.env) :: starEach es X.env := by rfl) (hplain : (backTo cpos (starEach es X.env)).any (·.1) = false := by rfl) :
    PE X (.Call (.Attribute o name apos) (e :: es) [] cpos) (tBM K T r to t) := by
  subst hK
  exact pe_bm pa slot hty hm ho ha hbase hfew hline hs hplain
end
end L2
set_option Elab.async false
set_option linter.all false
set_option maxRecDepth 100000
set_option maxHeartbeats 8000000
namespace TK
open PySem L2
noncomputable def KS : List Str := ["made", "gone", "written", "moved", "moved and written"]
noncomputable def Kinds (mg : Str → Option Value) (K : PySem.W.Frag) : Prop := ∃ a, mg "KINDS" = some (.ref a) ∧ ∀ H, SqT K H a (KS.map V.str)
noncomputable def cntOf (rs : List Row) : List V := KS.map fun x => V.int ((rs.map fun r => kindS r.o r.n).count x : Nat)
section
variable {P : Program} {w : World} {K : PySem.W.Frag} {mg : Str → Option Value} {base : Heap}
noncomputable def spCnt : Sp := fun vs H Q _ => ∃ c es, vs = [.ref c] ∧ ChgAt H c es ∧ ∀ q H', Same H H' → H' q = some (.tup (cntOf (rows es))) → Q (.ref q) H'
theorem scCnt : FnScope ["change", "kinds"] ["change"] (defScope s_counted) := ⟨rfl, rfl, rfl, by decide +kernel, rfl, by decide +kernel, by decide +kernel⟩
theorem ok_cnt {f : Addr} {fd : FuncData} (F : Fun K "counted" "counted" s_counted f fd) (T : Txt mg) (KK : Kinds mg K) (CK : Has P w K mg base 1 "kind_of" ["old", "new"] spKind) : FnOk P w K mg base CX0 2 f fd ["change"] spCnt := by
  obtain ⟨fK, fdK, GK, mK, kK, bK⟩ := CK
  obtain ⟨aK, hK, hKS⟩ := KK
  refine F.ok scCnt (fun vs H Q E h => ?_) (fun cdv A outer s H vs Q E hr h => ?_)
  · obtain ⟨c, es, rfl, _⟩ := h
    rfl
  · obtain ⟨c, es, rfl, hc, q⟩ := h
    have hlen := hc.len
    have hr1 : Room 1 _ := hr.mono (by decide)
    refine ⟨_, pss_cons (ps_set (i := 1) scCnt.nd rfl (Or.inr rfl) (pe_lc (N := ["number", "old", "new"]) (cl := []) (k := 3) (js := []) (g := gTup K 3 (gCons (gName 0) (gCons (gName 1) (gCons (gName 2) gNil)))) rfl (lc_ok0 rfl (by decide +kernel) (by decide +kernel) (by decide +kernel)) rfl (fun i j x h => by simp at h)
        (pi_tup (pv 0))
        (fun s H fp => pg_tup (n := 3) rfl (pgs_cons (pg_name (i := 0) (show (["number", "old", "new"] : List Str).Nodup by decide +kernel) rfl (Or.inl rfl) (Or.inr rfl)) (pgs_cons (pg_name (i := 1) (show (["number", "old", "new"] : List Str).Nodup by decide +kernel) rfl (Or.inl rfl) (Or.inr rfl)) (pgs_cons (pg_name (i := 2) (show (["number", "old", "new"] : List Str).Nodup by decide +kernel) rfl (Or.inl rfl) (Or.inr rfl)) pgs_nil))))
        (fun s H fp => pe_call (X := lcCx _ _ _ _ _ _ _) GK hr1 rfl mK kK bK .nil pass0 (pa_cons (pv 1) (pa_cons (pv 2) pa_nil)))))
      (pss_one (ps_ret (pe_callTy call_tuple_of rfl T.tuple rfl (pa_cons (pe_lc (N := ["kind", "kinds"]) (cl := [("kinds", s.heap.objs.size + 1)]) (k := 1) (js := [1]) (g := gName 0) rfl
        (LcOk.mk' ["kinds"] rfl rfl (by decide +kernel) (by decide +kernel) ?hcl rfl (by decide +kernel)) rfl ?hj (pi_tup (pe_glob (v := .ref aK) rfl hK rfl)) (fun s H fp => pg_name (i := 0) (show (["kind", "kinds"] : List Str).Nodup by decide +kernel) rfl (Or.inl rfl) (Or.inr rfl))
        (fun s H fp => pe_bmK K (X := lcCx _ _ _ _ _ _ _) PySem.F.plainAttrs_list PySem.F.slot_list_count PySem.F.type_list_count mt_countS (pv 1) (pa_cons (pv 0) pa_nil))) pa_nil)))), ?_⟩
    case hcl =>
      intro y hy
      rcases List.mem_cons.mp hy with e | hy
      · rw [e]; rfl
      · cases hy
    case hj =>
      intro i j x h1 h2
      match i, h1, h2 with
      | 0, h1, h2 =>
        cases h1
        cases h2
        exact ⟨rfl, Or.inr (Or.inl rfl), (show ((defScope s_counted).names.lookup ("kinds" : Str) ≠ some NameKind.local) by decide +kernel), by first | exact Or.inl rfl | exact Or.inr rfl⟩
      | i + 1, h1, h2 => simp at h1
    refine ⟨_, rfl, c, rfl, ⟨_, SqT.of hc.tup⟩, fun p hp => ?_⟩
    refine lc_eachG (fr := []) es (fun e => V.ref e.1) (by omega) hp (src_tup (SqT.of hc.tup)) ⟨_, rfl, rfl⟩ (fun e y _ => y = .str (kindS e.2.o e.2.n)) (fun e y H H' h _ => h) (fun e σ0 H' kk hσ me s1 hpl hk => ?_) (fun ys H1 s1 hp1 hys => ?_)
    · obtain ⟨x0, x1, x2, rfl⟩ := three_of hσ
      obtain ⟨⟨vo, vn, h1, h2, h3⟩, _⟩ := (hc.at' e me).same s1
      refine ⟨e.1, _, rfl, SqT.of h1, rfl, _, _, rfl, _, _, rfl, _, _, rfl, rfl, ?_⟩
      exact ⟨_, rfl, _, rfl, vo, vn, _, _, rfl, h2, h3, fun H2 s2 => hk _ _ _ ⟨[some (.int e.2.k), some vo, some vn], rfl, rfl⟩ s2 rfl⟩
    · have ey := paired_map (f := fun e : Addr × Row => V.str (kindS e.2.o e.2.n)) hys (fun e y _ h => h)
      have hp2 : H1 p = some (.lst (((rows es).map fun r => kindS r.o r.n).map V.str)) := by
        rw [hp1, ey]; unfold rows; rw [List.map_map, List.map_map]; rfl
      refine ⟨aK, rfl, ⟨_, hKS H1⟩, fun p2 hp2' => ?_⟩
      refine lc_each (fr := [some (.ref p)]) KS V.str (by decide) hp2' (src_tup (hKS H1)) rfl (fun x y _ => y = .int (((rows es).map fun r => kindS r.o r.n).count x : Nat)) (fun e y H H' h _ => h) (fun x H' kk mx s2 hpl hk => ?_) (fun zs H2 s2 hp3 hzs => ?_)
      · exact ⟨_, rfl, .inl ⟨rfl, _, SqL.of (s2 _ _ hp2)⟩, _, rfl, p, _, x, rfl, rfl, s2 _ _ hp2, hk _ H' (Same.refl _) rfl⟩
      · have ez := paired_map (f := fun x : Str => V.int (((rows es).map fun r => kindS r.o r.n).count x : Nat)) hzs (fun e y _ h => h)
        refine ⟨p2, _, rfl, .inl ⟨SqL.of hp3, fun q0 hq0 => ?_⟩⟩
        refine q q0 _ ((s1.trans s2).trans (same_upd hq0)) ?_
        rw [upd_same, ez]; rfl
end
end TK
set_option Elab.async false
set_option linter.all false
set_option maxRecDepth 100000
set_option maxHeartbeats 8000000
namespace TK
open PySem L2
noncomputable def cntL (ks : List Str) : List V := KS.map fun x => V.int (ks.count x : Nat)
theorem cntL_len (ks : List Str) : (cntL ks).length = 5 := rfl
theorem cntL_at {ks : List Str} {j : Nat} {x : Str} (hx : KS[j]? = some x) : atI (cntL ks) j = some (V.int (ks.count x : Nat)) := by
  have hj : j < 5 := (List.getElem?_eq_some_iff.mp hx).1
  unfold atI ixN
  rw [cntL_len, if_pos (by omega), if_pos (by omega)]
  show (cntL ks)[(j : Int).toNat]? = _
  rw [Int.toNat_natCast]
  unfold cntL
  rw [List.getElem?_map, hx]
  rfl
theorem KS_nd : KS.Nodup := by decide +kernel
theorem cntL_step {ks : List Str} {j : Nat} {x : Str} (hx : KS[j]? = some x) : (cntL ks).set j (V.int ((ks.count x : Nat) + 1)) = cntL (ks ++ [x]) := by
  apply List.ext_getElem?
  intro i
  have hj : j < 5 := (List.getElem?_eq_some_iff.mp hx).1
  unfold cntL
  rw [List.getElem?_map]
  by_cases e : j = i
  · subst e
    rw [List.getElem?_set_self (by rw [List.length_map]; exact hj), hx]
    show _ = some (V.int _)
    rw [List.count_append, List.count_singleton_self]
    rfl
  · rw [List.getElem?_set_ne e, List.getElem?_map]
    cases h : KS[i]? with
    | none => rfl
    | some y =>
      have ne : y ≠ x := fun z => by
        subst z
        obtain ⟨hi, h2⟩ := List.getElem?_eq_some_iff.mp h
        obtain ⟨hj', h1⟩ := List.getElem?_eq_some_iff.mp hx
        have pw := List.pairwise_iff_getElem.mp KS_nd
        rcases Nat.lt_or_gt_of_ne e with q | q
        · exact pw j i hj' hi q (h1.trans h2.symm)
        · exact pw i j hi hj' q (h2.trans h1.symm)
      show some (V.int _) = some (V.int _)
      rw [List.count_append, (List.count_eq_zero.mpr (by simpa using ne) : ([x] : List Str).count y = 0)]
      rfl
section
variable {P : Program} {w : World} {K : PySem.W.Frag} {mg : Str → Option Value} {base : Heap}
noncomputable def kAt (o n : Option Nd) : Nat := match o, n with
  | none, _ => 0
  | some _, none => 1
  | some a, some b => if a.par = b.par ∧ a.nm = b.nm then 2 else if a.st = b.st then 3 else 4
theorem kAt_S (o n : Option Nd) : KS[kAt o n]? = some (kindS o n) := by
  cases o with
  | none => rfl
  | some a => cases n with
    | none => rfl
    | some b =>
      show KS[if a.par = b.par ∧ a.nm = b.nm then 2 else if a.st = b.st then 3 else 4]? = some (if a.par = b.par ∧ a.nm = b.nm then ("written" : Str) else if a.st = b.st then "moved" else "moved and written")
      by_cases h1 : a.par = b.par ∧ a.nm = b.nm
      · rw [if_pos h1, if_pos h1]; rfl
      · rw [if_neg h1, if_neg h1]
        by_cases h2 : a.st = b.st
        · rw [if_pos h2, if_pos h2]; rfl
        · rw [if_neg h2, if_neg h2]; rfl
noncomputable def spLCo : Sp := fun vs H Q _ => ∃ c es, vs = [.ref c] ∧ ChgAt H c es ∧ ∀ q H', Same H H' → H' q = some (.tup (cntOf (rows es))) → Q (.ref q) H'
noncomputable def LCN : List Str := ["_law_change", "_law_counts_here", "_law_number", "_law_old", "_law_new"]
theorem scLCo : FnScope LCN ["_law_change"] (defScope s_law_counts) := ⟨rfl, rfl, rfl, by decide +kernel, rfl, by decide +kernel, by decide +kernel⟩
theorem stV_eq {a b : Option Int} : decide (stV a = stV b) = decide (a = b) := by
  by_cases h : a = b
  · rw [h]; simp
  · rw [decide_eq_false h]
    refine decide_eq_false fun e => h ?_
    cases a <;> cases b <;> simp_all [stV]
theorem ok_lco {f : Addr} {fd : FuncData} (F : Fun K "_law_counts" "_law_counts" s_law_counts f fd) (T : Txt mg) : FnOk P w K mg base CX0 1 f fd ["_law_change"] spLCo := by
  refine F.ok scLCo (fun vs H Q E h => ?_) (fun cdv A outer s H vs Q E hr h => ?_)
  · obtain ⟨c, es, rfl, _⟩ := h
    rfl
  · obtain ⟨c, es, rfl, hc, q⟩ := h
    have hlen := hc.len
    refine ⟨_, pss_cons (ps_set (i := 1) scLCo.nd rfl (Or.inl rfl) (pe_lst (pa_cons pe_int (pa_cons pe_int (pa_cons pe_int (pa_cons pe_int (pa_cons pe_int pa_nil)))))))
      (pss_cons (ps_for PassesOwn.never rfl (pi_tup (pv 0)) (pg_tup (n := 3) rfl (pgs_cons (pg_name (i := 2) scLCo.nd rfl (Or.inl rfl)) (pgs_cons (pg_name (i := 3) scLCo.nd rfl (Or.inl rfl)) (pgs_cons (pg_name (i := 4) scLCo.nd rfl (Or.inl rfl)) pgs_nil))))
        (pss_one (ps_if (pt_cmpR op_isN (pv 3) pe_non (nomark _)) (pss_one (ps_asg (pe_op op_add (pe_ix ix_list (pv 1) pe_int (fun _ _ => rfl)) pe_int) (pg_sub (pv 1) pe_int set_list)))
          (pss_one (ps_if (pt_cmpR op_isN (pv 4) pe_non (nomark _)) (pss_one (ps_asg (pe_op op_add (pe_ix ix_list (pv 1) pe_int (fun _ _ => rfl)) pe_int) (pg_sub (pv 1) pe_int set_list)))
            (pss_one (ps_if (pt_cmpR (op_eqT (hu_of hr)) (pe_slice sl_tup (pv 3) po_none (po_some pe_int)) (pe_slice sl_tup (pv 4) po_none (po_some pe_int)) (nomark _)) (pss_one (ps_asg (pe_op op_add (pe_ix ix_list (pv 1) pe_int (fun _ _ => rfl)) pe_int) (pg_sub (pv 1) pe_int set_list)))
              (pss_one (ps_asg (pe_op op_add (pe_ix ix_list (pv 1) (pe_ifExp (pt_cmpR op_eq (pe_ix ix_tup (pv 3) pe_int (fun _ _ => rfl)) (pe_ix ix_tup (pv 4) pe_int (fun _ _ => rfl)) (nomark _)) pe_int pe_int) (fun _ _ => rfl)) pe_int) (pg_sub (pv 1) (pe_ifExp (pt_cmpR op_eq (pe_ix ix_tup (pv 3) pe_int (fun _ _ => rfl)) (pe_ix ix_tup (pv 4) pe_int (fun _ _ => rfl)) (nomark _)) pe_int pe_int) set_list))))))))))
      (pss_one (ps_ret (pe_callTy call_tuple_of rfl T.tuple rfl (pa_cons (pv 1) pa_nil))))), ?_⟩
    refine ⟨(show 5 ≤ sizeLine from le_line (by decide)), fun l hl => ?_⟩
    have s0 := same_upd (o := .lst [.int 0, .int 0, .int 0, .int 0, .int 0]) hl
    have g0 : upd H l (.lst [.int 0, .int 0, .int 0, .int 0, .int 0]) l = some (.lst (cntL [])) := upd_same
    generalize upd H l (.lst [.int 0, .int 0, .int 0, .int 0, .int 0]) = H0 at s0 g0 ⊢
    let kk : ZR → List Str := fun es => (rows es).map fun r => kindS r.o r.n
    refine ⟨_, rfl, c, rfl, ⟨_, SqT.of (s0 _ _ hc.tup)⟩, for_tup (xs := rrefs es) (fun i σ H' => ∃ x2 x3 x4, σ = [some (.ref c), some (.ref l), x2, x3, x4] ∧ Same H H' ∧ H' l = some (.lst (cntL (kk (es.take i))))) ⟨none, none, none, rfl, s0, g0⟩ (fun i σ H' _ ⟨_, _, _, _, s1, _⟩ => SqT.of (s1 _ _ hc.tup)) (fun i x σ H' hx h => ?_) (fun σ H' h => ?_)⟩
    · obtain ⟨x2, x3, x4, rfl, s1, g1⟩ := h
      unfold rrefs at hx
      rw [List.getElem?_map] at hx
      cases gx : es[i]? with
      | none => rw [gx] at hx; cases hx
      | some e =>
        rw [gx] at hx
        cases hx
        obtain ⟨⟨vo, vn, h1, h2, h3⟩, _⟩ := (hc.at' e (List.mem_of_getElem? gx)).same s1
        have et : kk (es.take (i + 1)) = kk (es.take i) ++ [kindS e.2.o e.2.n] := by
          show (rows _).map _ = (rows _).map _ ++ _
          unfold rows
          rw [take_snoc gx, List.map_append, List.map_append]
          rfl
        have hk := kAt_S e.2.o e.2.n
        have fin : ∀ (H2 : Hp), Same H H2 → H2 l = some (.lst (cntL (kk (es.take i)))) → (H2 l = some (.lst (cntL (kk (es.take i)))) ∧ ∃ x2 x3 x4, [some (V.ref c), some (V.ref l), some (V.int e.2.k), some vo, some vn] = [some (V.ref c), some (V.ref l), x2, x3, x4] ∧ Same H (upd H2 l (.lst ((cntL (kk (es.take i))).set (kAt e.2.o e.2.n) (V.int (((kk (es.take i)).count (kindS e.2.o e.2.n) : Nat) + 1))))) ∧ upd H2 l (.lst ((cntL (kk (es.take i))).set (kAt e.2.o e.2.n) (V.int (((kk (es.take i)).count (kindS e.2.o e.2.n) : Nat) + 1)))) l = some (.lst (cntL (kk (es.take (i + 1)))))) := fun H2 s2 g2 =>
          ⟨g2, _, _, _, rfl, same_over hl s2, by rw [upd_same, cntL_step hk, et]⟩
        have ca := cntL_at (ks := kk (es.take i)) hk
        refine ⟨e.1, _, rfl, SqT.of h1, rfl, _, _, rfl, _, _, rfl, _, _, rfl, rfl, ?_⟩
        rcases h2 with ⟨rfl, eo⟩ | ⟨qa, a, rfl, ha, eo⟩
        · rw [eo] at fin ca
          obtain ⟨g2, fn⟩ := fin H' s1 g1
          exact ⟨_, rfl, rfl, _, rfl, iteT ⟨_, rfl, l, _, _, _, rfl, rfl, SqL.of g2, ca, _, _, rfl, rfl, _, rfl, l, _, _, _, rfl, rfl, g2, rfl, fn⟩⟩
        · refine ⟨_, rfl, rfl, _, rfl, iteF ?_⟩
          rcases h3 with ⟨rfl, en⟩ | ⟨qb, b, rfl, hb, en⟩
          · rw [eo, en] at fin ca
            obtain ⟨g2, fn⟩ := fin H' s1 g1
            exact ⟨_, rfl, rfl, _, rfl, iteT ⟨_, rfl, l, _, _, _, rfl, rfl, SqL.of g2, ca, _, _, rfl, rfl, _, rfl, l, _, _, _, rfl, rfl, g2, rfl, fn⟩⟩
          · refine ⟨_, rfl, rfl, _, rfl, iteF ?_⟩
            rw [eo, en] at fin ca
            have ea : cutV (rest3 a) none (some 2) = [.int a.par, .str a.nm] := rfl
            have eb : cutV (rest3 b) none (some 2) = [.int b.par, .str b.nm] := rfl
            refine ⟨_, rfl, _, rfl, qa, _, rfl, SqT.of ha, (fun h => absurd h.2 (show ¬ HT.sIx 3 3 (some 2) = 3 by decide)), fun c1 hc1 => ?_⟩
            rw [ea]
            have s2 := same_upd (o := .tup [.int a.par, .str a.nm]) hc1
            have k1 : upd H' c1 (.tup [.int a.par, .str a.nm]) c1 = some (.tup [.int a.par, .str a.nm]) := upd_same
            generalize upd H' c1 (.tup [.int a.par, .str a.nm]) = H1 at s2 k1 ⊢
            refine ⟨_, rfl, _, rfl, qb, _, rfl, SqT.of (s2 _ _ hb), (fun h => absurd h.2 (show ¬ HT.sIx 3 3 (some 2) = 3 by decide)), fun c2 hc2 => ?_⟩
            rw [eb]
            have s3 := s2.trans (same_upd (o := .tup [.int b.par, .str b.nm]) hc2)
            have k2 : upd H1 c2 (.tup [.int b.par, .str b.nm]) c2 = some (.tup [.int b.par, .str b.nm]) := upd_same
            have k1' : upd H1 c2 (.tup [.int b.par, .str b.nm]) c1 = some (.tup [.int a.par, .str a.nm]) := upd_keep hc2 k1
            generalize upd H1 c2 (.tup [.int b.par, .str b.nm]) = H2 at s3 k2 k1' ⊢
            have fl : ∀ n : Nd, ∀ v ∈ [V.int n.par, .str n.nm], flat2 v = true := fun n v hv => by
              simp only [List.mem_cons, List.not_mem_nil, or_false] at hv
              rcases hv with rfl | rfl <;> rfl
            obtain ⟨g2, fn⟩ := fin H2 (s1.trans s3) (s3 _ _ g1)
            have ek : kAt (some a) (some b) = if a.par = b.par ∧ a.nm = b.nm then 2 else if a.st = b.st then 3 else 4 := rfl
            refine ⟨c1, c2, _, _, rfl, rfl, k1', k2, fl a, fl b, _, rfl, ?_⟩
            by_cases z1 : a.par = b.par ∧ a.nm = b.nm
            · have e1 : decide ([V.int a.par, .str a.nm] = [V.int b.par, .str b.nm]) = true := by rw [z1.1, z1.2]; simp
              rw [if_pos z1] at ek
              rw [ek] at fn ca
              rw [e1]
              exact iteT ⟨_, rfl, l, _, _, _, rfl, rfl, SqL.of g2, ca, _, _, rfl, rfl, _, rfl, l, _, _, _, rfl, rfl, g2, rfl, fn⟩
            · have e1 : decide ([V.int a.par, .str a.nm] = [V.int b.par, .str b.nm]) = false := by
                refine decide_eq_false fun e => z1 ?_
                simp only [List.cons.injEq, V.int.injEq, V.str.injEq, and_true] at e
                exact e
              rw [if_neg z1] at ek
              rw [e1]
              refine iteF ⟨_, rfl, _, rfl, qa, _, _, _, rfl, rfl, SqT.of (s3 _ _ ha), r3_2 a, _, rfl, qb, _, _, _, rfl, rfl, SqT.of (s3 _ _ hb), r3_2 b, ?_, _, rfl, ?_⟩
              · cases a.st <;> cases b.st <;> rfl
              · rw [stV_eq]
                by_cases z2 : a.st = b.st
                · rw [if_pos z2] at ek
                  rw [ek] at fn ca
                  rw [decide_eq_true z2]
                  refine iteT ⟨l, _, _, _, rfl, rfl, SqL.of g2, ca, _, _, rfl, rfl, _, rfl, _, rfl, qa, _, _, _, rfl, rfl, SqT.of (s3 _ _ ha), r3_2 a, _, rfl, qb, _, _, _, rfl, rfl, SqT.of (s3 _ _ hb), r3_2 b, ?_, _, rfl, ?_⟩
                  · cases a.st <;> cases b.st <;> rfl
                  · rw [stV_eq, decide_eq_true z2]
                    exact iteT ⟨l, _, _, _, rfl, rfl, g2, rfl, fn⟩
                · rw [if_neg z2] at ek
                  rw [ek] at fn ca
                  rw [decide_eq_false z2]
                  refine iteF ⟨l, _, _, _, rfl, rfl, SqL.of g2, ca, _, _, rfl, rfl, _, rfl, _, rfl, qa, _, _, _, rfl, rfl, SqT.of (s3 _ _ ha), r3_2 a, _, rfl, qb, _, _, _, rfl, rfl, SqT.of (s3 _ _ hb), r3_2 b, ?_, _, rfl, ?_⟩
                  · cases a.st <;> cases b.st <;> rfl
                  · rw [stV_eq, decide_eq_false z2]
                    exact iteF ⟨l, _, _, _, rfl, rfl, g2, rfl, fn⟩
    · obtain ⟨x2, x3, x4, rfl, s1, g1⟩ := h
      have e1 : (rrefs es).length = es.length := by unfold rrefs; rw [List.length_map]
      rw [e1, List.take_length] at g1
      refine ⟨_, rfl, l, _, rfl, .inl ⟨SqL.of g1, fun q0 hq0 => ?_⟩⟩
      exact q q0 _ (s1.trans (same_upd hq0)) upd_same
end
end TK
set_option Elab.async false
set_option linter.all false
set_option maxRecDepth 100000
set_option maxHeartbeats 8000000
namespace TK
open PySem L2
theorem chg_len {t u : List Nd} {es : ZR} {ms : List Int} (h : TW.Chg t u (rows es)) (hm : ∀ n ∈ u, n.num ∈ t.map (·.num) ∨ n.num ∈ ms) : es.length ≤ t.length + ms.length := by
  have hnd : ((rows es).map (·.k)).Nodup := by
    unfold List.Nodup
    rw [List.pairwise_map]
    exact h.up.imp fun hlt e => by omega
  have := nodup_le (m := t.map (·.num) ++ ms) hnd fun k hk => by
    obtain ⟨r, hr, rfl⟩ := List.mem_map.mp hk
    obtain ⟨h1, h2, h3⟩ := (h.mem r).mp hr
    rw [List.mem_append]
    cases e : TW.findN t r.k with
    | some m =>
      obtain ⟨m1, m2⟩ := TW.findN_num e
      exact .inl (List.mem_map.mpr ⟨m, m1, m2⟩)
    | none =>
      cases e2 : TW.findN u r.k with
      | none => exact absurd (h1.trans (e.trans (e2.symm.trans h2.symm))) h3
      | some m =>
        obtain ⟨m1, m2⟩ := TW.findN_num e2
        have := hm m m1
        rw [m2] at this
        exact this
  rw [List.length_map, List.length_append, List.length_map] at this
  unfold rows at this
  rw [List.length_map] at this
  exact this
noncomputable def CHN : List Str := ["_law_script", "_law_one", "_law_other", "_law_third", "_law_first", "_law_second"]
theorem scCh : FnScope CHN ["_law_script"] (defScope sLaw) := ⟨rfl, rfl, rfl, by decide +kernel, rfl, by decide +kernel, by decide +kernel⟩
noncomputable abbrev ChX (P : Program) (w : World) (K : PySem.W.Frag) (mg : Str → Option Value) (base : Heap) (f : Addr) (cdv : Value) (A : Around) (outer : List Env) (s : Shared) (H : Hp) (E : XK) : Cx := (cxOf CX0 P w K mg base CHN "law" (defScope sLaw) f cdv A outer s H E).nox
theorem cnt_alike (H : Hp) (rs : List Row) : AlikeAll H (cntOf rs) (cntOf rs) := ⟨rfl, fun i x y hx hy => by
  have e : x = y := Option.some.inj (hx.symm.trans hy)
  subst e
  unfold cntOf at hx
  rw [List.getElem?_map] at hx
  cases h : KS[i]? with
  | none => rw [h] at hx; cases hx
  | some z =>
    rw [h] at hx
    cases hx
    exact alike_flat ⟨rfl, rfl⟩⟩
section
variable {P : Program} {w : World} {K : PySem.W.Frag} {mg : Str → Option Value} {base : Heap} {f : Addr} {cdv : Value} {A : Around} {outer : List Env} {s : Shared} {H0 : Hp} {E : XK}
theorem ch_tail (hr : Room 4 (A.deeper (PyProof.Rows.envOfC "law" (defScope sLaw) s.heap.objs.size f cdv))) (CB : Has P w K mg base 2 "change_between" ["one", "other"] spChB) (CL : Has P w K mg base 2 "_law_between" ["_law_one", "_law_other"] spLBt) (CC : Has P w K mg base 2 "counted" ["change"] spCnt) (CO : Has P w K mg base 1 "_law_counts" ["_law_change"] spLCo)
    (CT : Has P w K mg base 1 "turned_back" ["change"] spTb) (CJ : Has P w K mg base 2 "joined" ["one", "other"] spJo) :
    ∃ t, PSs (ChX P w K mg base f cdv A outer s H0 E) ((defBody sLaw).drop 4) t ∧ ∀ (D : Ends) (H : Hp) (a t1 t2 t3 : Addr) (z1 z2 z3 : ZN) (m1 m2 : List Int), Tre H t1 z1 → Tre H t2 z2 → Tre H t3 z3 → (∀ n ∈ nds z2, n.num ∈ (nds z1).map (·.num) ∨ n.num ∈ m1) → (∀ n ∈ nds z3, n.num ∈ (nds z2).map (·.num) ∨ n.num ∈ m2) → z1.length + m1.length ≤ 30 → z2.length + m2.length ≤ 30 →
      (∀ H', D.rt (.bl true) H') → t D [some (.ref a), some (.ref t1), some (.ref t2), some (.ref t3), none, none] H := by
  obtain ⟨fB, fdB, GB, mB, kB, bB⟩ := CB
  obtain ⟨fL, fdL, GL, mL, kL, bL⟩ := CL
  obtain ⟨fC, fdC, GC, mC, kC, bC⟩ := CC
  obtain ⟨fO, fdO, GO, mO, kO, bO⟩ := CO
  obtain ⟨fT, fdT, GT, mT, kT, bT⟩ := CT
  obtain ⟨fJ, fdJ, GJ, mJ, kJ, bJ⟩ := CJ
  have hr1 : Room 1 _ := hr.mono (by decide)
  have hr2 : Room 2 _ := hr.mono (by decide)
  have hu4 := hu4_of hr
  refine ⟨_, pss_cons (ps_set (i := 4) scCh.nd rfl (Or.inl rfl) (pe_call GB hr2 rfl mB kB bB .nil pass0 (pa_cons (pv 1) (pa_cons (pv 2) pa_nil))))
    (pss_cons (ps_set (i := 5) scCh.nd rfl (Or.inl rfl) (pe_call GB hr2 rfl mB kB bB .nil pass0 (pa_cons (pv 2) (pa_cons (pv 3) pa_nil))))
    (pss_cons (ps_if (PW.pt (pw_or (pt_cmpR (op_neX hu4) (pv 4) (pe_call GL hr2 rfl mL kL bL .nil pass0 (pa_cons (pv 1) (pa_cons (pv 2) pa_nil))) (nomark _)) (pw_or1 (pt_cmpR (op_neX hu4) (pv 5) (pe_call GL hr2 rfl mL kL bL .nil pass0 (pa_cons (pv 2) (pa_cons (pv 3) pa_nil))) (nomark _))))) (pss_one (ps_ret pe_bl)) pss_nil)
    (pss_cons (ps_if (pt_cmpR (op_neX hu4) (pe_call GC hr2 rfl mC kC bC .nil pass0 (pa_cons (pv 4) pa_nil)) (pe_call GO hr1 rfl mO kO bO .nil pass0 (pa_cons (pv 4) pa_nil)) (nomark _)) (pss_one (ps_ret pe_bl)) pss_nil)
    (pss_cons (ps_if (PW.pt (pw_or (pt_cmpR (op_neX hu4) (pe_call GT hr1 rfl mT kT bT .nil pass0 (pa_cons (pv 4) pa_nil)) (pe_call GL hr2 rfl mL kL bL .nil pass0 (pa_cons (pv 2) (pa_cons (pv 1) pa_nil))) (nomark _)) (pw_or1 (pt_cmpR (op_neX hu4) (pe_call GB hr2 rfl mB kB bB .nil pass0 (pa_cons (pv 1) (pa_cons (pv 1) pa_nil))) (pe_tup pa_nil) (nomark _))))) (pss_one (ps_ret pe_bl)) pss_nil)
    (pss_one (ps_ret (pe_and (pe_cmpR (op_eqX hu4) (pe_call GJ hr2 rfl mJ kJ bJ .nil pass0 (pa_cons (pv 4) (pa_cons (pv 5) pa_nil))) (pe_call GL hr2 rfl mL kL bL .nil pass0 (pa_cons (pv 1) (pa_cons (pv 3) pa_nil))) (nomark _)) (pe_one (pe_cmpR (op_eqX hu4) (pe_call GC hr2 rfl mC kC bC .nil pass0 (pa_cons (pv 5) pa_nil)) (pe_call GO hr1 rfl mO kO bO .nil pass0 (pa_cons (pv 5) pa_nil)) (nomark _)))))))))), ?_⟩
  intro D H a t1 t2 t3 z1 z2 z3 m1 m2 T1 T2 T3 hm1 hm2 hl1 hl2 q
  refine ⟨_, rfl, _, rfl, t1, t2, z1, z2, rfl, T1, T2, fun c1 e1 H1 s1 C1 G1 => ?_⟩
  refine ⟨_, rfl, _, rfl, t2, t3, z2, z3, rfl, T2.same s1, T3.same s1, fun c2 e2 H2 s2 C2 G2 => ?_⟩
  have s12 := s1.trans s2
  have T1' := T1.same s12
  have T2' := T2.same s12
  have T3' := T3.same s12
  have C1' := C1.same s2
  clear T1 T2 T3 C1 s1 s2 s12
  refine ⟨_, rfl, _, rfl, _, rfl, t1, t2, z1, z2, rfl, T1', T2', fun c3 e3 H3 s3 C3 G3 => ?_⟩
  refine .inr ⟨c1, c3, _, _, rfl, rfl, alike_rows (G1.uniq G3) (C1'.same s3).at' C3.at', .inr ⟨(C1'.same s3).tup, C3.tup⟩, _, rfl, iteF ?_⟩
  refine ⟨_, rfl, _, rfl, _, rfl, t2, t3, z2, z3, rfl, T2'.same s3, T3'.same s3, fun c4 e4 H4 s4 C4 G4 => ?_⟩
  have s34 := s3.trans s4
  refine .inr ⟨c2, c4, _, _, rfl, rfl, alike_rows (G2.uniq G4) (C2.same s34).at' C4.at', .inr ⟨(C2.same s34).tup, C4.tup⟩, _, rfl, iteF ?_⟩
  have T1 := T1'.same s34
  have T2 := T2'.same s34
  have T3 := T3'.same s34
  have C1 := C1'.same s34
  have C2' := C2.same s34
  clear T1' T2' T3' C1' C2 C3 C4 s3 s4 s34
  refine ⟨_, rfl, c1, e1, rfl, C1, fun q5 H5 s5 g5 => ?_⟩
  refine ⟨_, rfl, c1, e1, rfl, C1.same s5, fun q6 H6 s6 g6 => ?_⟩
  have s56 := s5.trans s6
  refine .inr ⟨q5, q6, _, _, rfl, rfl, cnt_alike _ _, .inr ⟨s6 _ _ g5, g6⟩, _, rfl, iteF ?_⟩
  have T1' := T1.same s56
  have T2' := T2.same s56
  have T3' := T3.same s56
  have C1' := C1.same s56
  have C2 := C2'.same s56
  clear T1 T2 T3 C1 C2' g5 g6 s5 s6 s56
  refine ⟨_, rfl, c1, e1, rfl, C1', fun c7 e7 H7 s7 C7 r7 => ?_⟩
  refine ⟨_, rfl, _, rfl, t2, t1, z2, z1, rfl, T2'.same s7, T1'.same s7, fun c8 e8 H8 s8 C8 G8 => ?_⟩
  have s78 := s7.trans s8
  refine .inr ⟨c7, c8, _, _, rfl, rfl, alike_rows (r7.trans (G1.swap.uniq G8)) (C7.same s8).at' C8.at', .inr ⟨(C7.same s8).tup, C8.tup⟩, _, rfl, iteF ?_⟩
  refine ⟨_, rfl, _, rfl, t1, t1, z1, z1, rfl, T1'.same s78, T1'.same s78, fun c9 e9 H9 s9 C9 G9 => ?_⟩
  refine ⟨Nat.zero_le _, fun p10 h10 => ?_⟩
  have s10 := same_upd (o := .tup []) h10
  have e9n : rrefs e9 = [] := by
    have := G9.nil
    unfold rows at this
    unfold rrefs
    rw [List.map_eq_nil_iff] at this ⊢
    exact this
  refine .inr ⟨c9, p10, _, [], rfl, rfl, (by rw [e9n]; exact ⟨rfl, fun i x y hx _ => by simp at hx⟩), .inr ⟨(C9.same s10).tup, upd_same⟩, _, rfl, iteF ?_⟩
  have sE := (s78.trans s9).trans s10
  have T1 := T1'.same sE
  have T2 := T2'.same sE
  have T3 := T3'.same sE
  have C1 := C1'.same sE
  have C2' := C2.same sE
  clear T1' T2' T3' C1' C2 C7 C8 C9 s7 s8 s9 s10 s78 sE
  refine ⟨_, rfl, _, rfl, c1, c2, e1, e2, _, _, _, rfl, C1, C2', G1, G2, ?_, ?_, fun c11 e11 H11 s11 C11 G11 => ?_⟩
  · have := chg_len G1 hm1
    rw [nds_len] at this
    omega
  · have := chg_len G2 hm2
    rw [nds_len] at this
    omega
  refine ⟨_, rfl, _, rfl, t1, t3, z1, z3, rfl, T1.same s11, T3.same s11, fun c12 e12 H12 s12 C12 G12 => ?_⟩
  refine .inr ⟨c11, c12, _, _, rfl, rfl, alike_rows (G11.uniq G12) (C11.same s12).at' C12.at', .inr ⟨(C11.same s12).tup, C12.tup⟩, _, rfl, iteT ?_⟩
  have C2 := (C2'.same s11).same s12
  refine ⟨_, rfl, c2, e2, rfl, C2, fun q13 H13 s13 g13 => ?_⟩
  refine ⟨_, rfl, c2, e2, rfl, C2.same s13, fun q14 H14 s14 g14 => ?_⟩
  exact .inr ⟨q13, q14, _, _, rfl, rfl, cnt_alike _ _, .inr ⟨s14 _ _ g13, g14⟩, q _⟩
end
section
variable {P : Program} {w : World} {K : PySem.W.Frag} {mg : Str → Option Value} {base : Heap}
noncomputable def spLaw (K : PySem.W.Frag) : Sp := fun vs H Q _ => ∃ (a : Addr) (ns : List Int), vs = [.ref a] ∧ SqL K H a (ns.map V.int) ∧ ns.length ≤ 63 ∧ ∀ H', Q (.bl true) H'
theorem ok_law {f : Addr} {fd : FuncData} (F : Fun K "law" "law" sLaw f fd) (CT0 : Has P w K mg base 3 "_law_tree" ["_law_script", "_law_at", "_law_most"] (spBuild K)) (CP : Has P w K mg base 2 "_law_pick" ["_law_script", "_law_k", "_law_many"] (spPick K)) (CF : Has P w K mg base 4 "_law_further" ["_law_script", "_law_at", "_law_tree_here", "_law_many"] (spFur K))
    (CB : Has P w K mg base 2 "change_between" ["one", "other"] spChB) (CL : Has P w K mg base 2 "_law_between" ["_law_one", "_law_other"] spLBt) (CC : Has P w K mg base 2 "counted" ["change"] spCnt) (CO : Has P w K mg base 1 "_law_counts" ["_law_change"] spLCo)
    (CT : Has P w K mg base 1 "turned_back" ["change"] spTb) (CJ : Has P w K mg base 2 "joined" ["one", "other"] spJo) :
    FnOk P w K mg base CX0 5 f fd ["_law_script"] (spLaw K) := by
  obtain ⟨fB, fdB, GB, mB, kB, bB⟩ := CT0
  obtain ⟨fP, fdP, GP, mP, kP, bP⟩ := CP
  obtain ⟨fF, fdF, GF, mF, kF, bF⟩ := CF
  refine F.ok scCh (fun vs H Q E h => ?_) (fun cdv A outer s H vs Q E hr h => ?_)
  · obtain ⟨a, ns, rfl, _⟩ := h
    rfl
  · obtain ⟨a, ns, rfl, hS0, hn, q⟩ := h
    have hS : ScrAt K H a := ⟨ns, hS0⟩
    have hr2 : Room 2 _ := hr.mono (by decide)
    have hr3 : Room 3 _ := hr.mono (by decide)
    obtain ⟨tt, pt, ht⟩ := ch_tail (P := P) (w := w) (base := base) (f := f) (cdv := cdv) (A := A) (outer := outer) (s := s) (H0 := H) (E := E) hr CB CL CC CO CT CJ
    refine ⟨_, pss_cons (ps_set (i := 1) scCh.nd rfl (Or.inl rfl) (pe_call GB hr3 rfl mB kB bB .nil pass0 (pa_cons (pv 0) (pa_cons pe_int (pa_cons pe_int pa_nil)))))
      (pss_cons (ps_set (i := 2) scCh.nd rfl (Or.inl rfl) (pe_call GF hr rfl mF kF bF .nil pass0 (pa_cons (pv 0) (pa_cons pe_int (pa_cons (pv 1) (pa_cons (pe_call GP hr2 rfl mP kP bP .nil pass0 (pa_cons (pv 0) (pa_cons pe_int (pa_cons pe_int pa_nil)))) pa_nil))))))
      (pss_cons (ps_set (i := 3) scCh.nd rfl (Or.inl rfl) (pe_call GF hr rfl mF kF bF .nil pass0 (pa_cons (pv 0) (pa_cons pe_int (pa_cons (pv 2) (pa_cons (pe_call GP hr2 rfl mP kP bP .nil pass0 (pa_cons (pv 0) (pa_cons pe_int (pa_cons pe_int pa_nil)))) pa_nil))))))
      (pss_cons (ps_if (pt_cmpR op_eq (pe_call GP hr2 rfl mP kP bP .nil pass0 (pa_cons (pv 0) (pa_cons pe_int (pa_cons pe_int pa_nil)))) pe_int (nomark _)) (pss_one (ps_set (i := 3) scCh.nd rfl (Or.inl rfl) (pe_call GB hr3 rfl mB kB bB .nil pass0 (pa_cons (pv 0) (pa_cons pe_int (pa_cons pe_int pa_nil)))))) pss_nil) pt))), ?_⟩
    refine ⟨_, rfl, a, 0, 8, rfl, by decide, by decide, by decide, hS, fun t1 z1 H1 ht1 hA1 hl1 hT1 hG1 s1 => ?_⟩
    have tr1 : TW.Tree1 (nds z1) := ⟨hT1, fun n hn => by obtain ⟨z, hz, rfl⟩ := of_nds hn; exact (hG1 z hz).1⟩
    have T1 : Tre H1 t1 z1 := ⟨ht1, hA1, tr1, by omega⟩
    have ok1 : ∀ n ∈ nds z1, NdOk n := fun n hn => by obtain ⟨z, hz, rfl⟩ := of_nds hn; exact (hG1 z hz).ok
    refine ⟨_, rfl, _, rfl, _, rfl, a, _, _, rfl, by decide, by decide, hS.same s1, fun r H2 r0 r1 s2 => ?_⟩
    refine ⟨a, 110, t1, r, z1, rfl, by decide, r0, by omega, (hS.same s1).same s2, T1.same s2, ok1, by omega, fun t2 z2 H3 s3 T2 ok2 hl2 ⟨m1, hm1, hmm1⟩ => ?_⟩
    have s13 := (s1.trans s2).trans s3
    refine ⟨_, rfl, _, rfl, _, rfl, a, _, _, rfl, by decide, by decide, hS.same s13, fun r' H4 r0' r1' s4 => ?_⟩
    refine ⟨a, 210, t2, r', z2, rfl, by decide, r0', by omega, (hS.same s13).same s4, T2.same s4, ok2, by omega, fun t3 z3 H5 s5 T3 ok3 hl3 ⟨m2, hm2, hmm2⟩ => ?_⟩
    have s15 := (s13.trans s4).trans s5
    refine ⟨_, rfl, a, _, _, rfl, by decide, by decide, hS.same s15, fun r'' H6 _ _ s6 => ?_⟩
    have s16 := s15.trans s6
    have T1' := (((T1.same s2).same s3).same s4).same (s5.trans s6)
    have T2' := (T2.same s4).same (s5.trans s6)
    refine ⟨rfl, _, rfl, ?_⟩
    cases hd : decide (V.int r'' = V.int 0) with
    | true =>
      refine iteT ⟨_, rfl, a, 310, 8, rfl, by decide, by decide, by decide, hS.same s16, fun t4 z4 H7 ht4 hA4 hl4 hT4 hG4 s7 => ?_⟩
      have tr4 : TW.Tree1 (nds z4) := ⟨hT4, fun n hn => by obtain ⟨z, hz, rfl⟩ := of_nds hn; exact (hG4 z hz).1⟩
      refine ht _ H7 a t1 t2 t4 z1 z2 z4 m1 ((nds z4).map (·.num)) (T1'.same s7) (T2'.same s7) ⟨ht4, hA4, tr4, by omega⟩ hmm1 (fun n hn => .inr (List.mem_map.mpr ⟨n, hn, rfl⟩)) (by omega) ?_ fun H' => q H'
      rw [List.length_map, nds_len]
      omega
    | false => exact iteF (ht _ H6 a t1 t2 t3 z1 z2 z3 m1 m2 T1' T2' (T3.same s6) hmm1 hmm2 (by omega) (by omega) fun H' => q H')
end
end TK
set_option Elab.async false
set_option linter.all false
set_option maxRecDepth 100000
set_option maxHeartbeats 8000000
namespace TK
open PySem PySem.W PyProof.Rows L2
theorem len0 {α : Type} {P : List α → Prop} {us : List α} (hl : us.length = 0) (h : P []) : P us := by cases us with | nil => exact h | cons a r => cases hl
theorem len1 {α : Type} {P : List α → Prop} {us : List α} (hl : us.length = 1) (h : ∀ a0, P [a0]) : P us := by cases us with | nil => cases hl | cons a r => exact len0 (P := fun r => P (a :: r)) (Nat.succ.inj hl) (h a)
theorem len2 {α : Type} {P : List α → Prop} {us : List α} (hl : us.length = 2) (h : ∀ a0 a1, P [a0, a1]) : P us := by cases us with | nil => cases hl | cons a r => exact len1 (P := fun r => P (a :: r)) (Nat.succ.inj hl) (h a)
theorem len3 {α : Type} {P : List α → Prop} {us : List α} (hl : us.length = 3) (h : ∀ a0 a1 a2, P [a0, a1, a2]) : P us := by cases us with | nil => cases hl | cons a r => exact len2 (P := fun r => P (a :: r)) (Nat.succ.inj hl) (h a)
theorem len4 {α : Type} {P : List α → Prop} {us : List α} (hl : us.length = 4) (h : ∀ a0 a1 a2 a3, P [a0, a1, a2, a3]) : P us := by cases us with | nil => cases hl | cons a r => exact len3 (P := fun r => P (a :: r)) (Nat.succ.inj hl) (h a)
theorem all_mk {l : PySem.W.OpenLaw} {w : World} {K : PySem.W.Frag} {h : Heap} {mg : Str → Option Value} {fa f1 f2 f3 f4 f5 f6 f7 f8 f9 f10 f11 f12 f13 f14 f15 f16 f17 f18 f19 : Addr} (X : K.In h) (G : h.Ns mainGlobals mg) (hfa : mg "law" = some (.ref fa))
    {od1 an1 od2 an2 od3 an3 od4 an4 od5 an5 od6 an6 od7 an7 od8 an8 od9 an9 od10 an10 od11 an11 od12 an12 od13 an13 od14 an14 od15 an15 od16 an16 od17 an17 od18 an18 od19 an19 : Option Addr} {sl1 sl2 sl3 sl4 sl5 sl6 sl7 sl8 sl9 sl10 sl11 sl12 sl13 sl14 sl15 sl16 sl17 sl18 sl19 : Array (Option Value)} {oc1 kV1 dc1 pm1 cd1 ct1 oc2 kV2 dc2 pm2 cd2 ct2 oc3 kV3 dc3 pm3 cd3 ct3 oc4 kV4 dc4 pm4 cd4 ct4 oc5 kV5 dc5 pm5 cd5 ct5 oc6 kV6 dc6 pm6 cd6 ct6 oc7 kV7 dc7 pm7 cd7 ct7 oc8 kV8 dc8 pm8 cd8 ct8 oc9 kV9 dc9 pm9 cd9 ct9 oc10 kV10 dc10 pm10 cd10 ct10 oc11 kV11 dc11 pm11 cd11 ct11 oc12 kV12 dc12 pm12 cd12 ct12 oc13 kV13 dc13 pm13 cd13 ct13 oc14 kV14 dc14 pm14 cd14 ct14 oc15 kV15 dc15 pm15 cd15 ct15 oc16 kV16 dc16 pm16 cd16 ct16 oc17 kV17 dc17 pm17 cd17 ct17 oc18 kV18 dc18 pm18 cd18 ct18 oc19 kV19 dc19 pm19 cd19 ct19 : Value}
    (a1 : PySem.W.nsIn K mainGlobals "by_number" = some (some (.ref f1))) (l1 : K.lookup f1 = some ⟨oc1, od1, .func (PySem.W.fnOf "by_number" "by_number" (defArgs sByn) (defBody sByn) (defScope sByn) .none kV1 dc1 pm1 an1 cd1 ct1), sl1⟩) (c1 : PySem.W.codeIn K cd1 "by_number" = true) (k1 : PySem.W.keepIn K (.ref f1) = true)
    (a2 : PySem.W.nsIn K mainGlobals "parts_by_number" = some (some (.ref f2))) (l2 : K.lookup f2 = some ⟨oc2, od2, .func (PySem.W.fnOf "parts_by_number" "parts_by_number" (defArgs s_parts_by_number) (defBody s_parts_by_number) (defScope s_parts_by_number) .none kV2 dc2 pm2 an2 cd2 ct2), sl2⟩) (c2 : PySem.W.codeIn K cd2 "parts_by_number" = true) (k2 : PySem.W.keepIn K (.ref f2) = true)
    (a3 : PySem.W.nsIn K mainGlobals "unlike_entries" = some (some (.ref f3))) (l3 : K.lookup f3 = some ⟨oc3, od3, .func (PySem.W.fnOf "unlike_entries" "unlike_entries" (defArgs s_unlike_entries) (defBody s_unlike_entries) (defScope s_unlike_entries) .none kV3 dc3 pm3 an3 cd3 ct3), sl3⟩) (c3 : PySem.W.codeIn K cd3 "unlike_entries" = true) (k3 : PySem.W.keepIn K (.ref f3) = true)
    (a4 : PySem.W.nsIn K mainGlobals "change_between" = some (some (.ref f4))) (l4 : K.lookup f4 = some ⟨oc4, od4, .func (PySem.W.fnOf "change_between" "change_between" (defArgs s_change_between) (defBody s_change_between) (defScope s_change_between) .none kV4 dc4 pm4 an4 cd4 ct4), sl4⟩) (c4 : PySem.W.codeIn K cd4 "change_between" = true) (k4 : PySem.W.keepIn K (.ref f4) = true)
    (a5 : PySem.W.nsIn K mainGlobals "turned_back" = some (some (.ref f5))) (l5 : K.lookup f5 = some ⟨oc5, od5, .func (PySem.W.fnOf "turned_back" "turned_back" (defArgs s_turned_back) (defBody s_turned_back) (defScope s_turned_back) .none kV5 dc5 pm5 an5 cd5 ct5), sl5⟩) (c5 : PySem.W.codeIn K cd5 "turned_back" = true) (k5 : PySem.W.keepIn K (.ref f5) = true)
    (a6 : PySem.W.nsIn K mainGlobals "joined" = some (some (.ref f6))) (l6 : K.lookup f6 = some ⟨oc6, od6, .func (PySem.W.fnOf "joined" "joined" (defArgs s_joined) (defBody s_joined) (defScope s_joined) .none kV6 dc6 pm6 an6 cd6 ct6), sl6⟩) (c6 : PySem.W.codeIn K cd6 "joined" = true) (k6 : PySem.W.keepIn K (.ref f6) = true)
    (a7 : PySem.W.nsIn K mainGlobals "kind_of" = some (some (.ref f7))) (l7 : K.lookup f7 = some ⟨oc7, od7, .func (PySem.W.fnOf "kind_of" "kind_of" (defArgs s_kind_of) (defBody s_kind_of) (defScope s_kind_of) .none kV7 dc7 pm7 an7 cd7 ct7), sl7⟩) (c7 : PySem.W.codeIn K cd7 "kind_of" = true) (k7 : PySem.W.keepIn K (.ref f7) = true)
    (a8 : PySem.W.nsIn K mainGlobals "counted" = some (some (.ref f8))) (l8 : K.lookup f8 = some ⟨oc8, od8, .func (PySem.W.fnOf "counted" "counted" (defArgs s_counted) (defBody s_counted) (defScope s_counted) .none kV8 dc8 pm8 an8 cd8 ct8), sl8⟩) (c8 : PySem.W.codeIn K cd8 "counted" = true) (k8 : PySem.W.keepIn K (.ref f8) = true)
    (a9 : PySem.W.nsIn K mainGlobals "_law_cell" = some (some (.ref f9))) (l9 : K.lookup f9 = some ⟨oc9, od9, .func (PySem.W.fnOf "_law_cell" "_law_cell" (defArgs sCell) (defBody sCell) (defScope sCell) .none kV9 dc9 pm9 an9 cd9 ct9), sl9⟩) (c9 : PySem.W.codeIn K cd9 "_law_cell" = true) (k9 : PySem.W.keepIn K (.ref f9) = true)
    (a10 : PySem.W.nsIn K mainGlobals "_law_pick" = some (some (.ref f10))) (l10 : K.lookup f10 = some ⟨oc10, od10, .func (PySem.W.fnOf "_law_pick" "_law_pick" (defArgs sPick) (defBody sPick) (defScope sPick) .none kV10 dc10 pm10 an10 cd10 ct10), sl10⟩) (c10 : PySem.W.codeIn K cd10 "_law_pick" = true) (k10 : PySem.W.keepIn K (.ref f10) = true)
    (a11 : PySem.W.nsIn K mainGlobals "_law_tree" = some (some (.ref f11))) (l11 : K.lookup f11 = some ⟨oc11, od11, .func (PySem.W.fnOf "_law_tree" "_law_tree" (defArgs sBuild) (defBody sBuild) (defScope sBuild) .none kV11 dc11 pm11 an11 cd11 ct11), sl11⟩) (c11 : PySem.W.codeIn K cd11 "_law_tree" = true) (k11 : PySem.W.keepIn K (.ref f11) = true)
    (a12 : PySem.W.nsIn K mainGlobals "_law_book" = some (some (.ref f12))) (l12 : K.lookup f12 = some ⟨oc12, od12, .func (PySem.W.fnOf "_law_book" "_law_book" (defArgs sBook) (defBody sBook) (defScope sBook) .none kV12 dc12 pm12 an12 cd12 ct12), sl12⟩) (c12 : PySem.W.codeIn K cd12 "_law_book" = true) (k12 : PySem.W.keepIn K (.ref f12) = true)
    (a13 : PySem.W.nsIn K mainGlobals "_law_under" = some (some (.ref f13))) (l13 : K.lookup f13 = some ⟨oc13, od13, .func (PySem.W.fnOf "_law_under" "_law_under" (defArgs sUnder) (defBody sUnder) (defScope sUnder) .none kV13 dc13 pm13 an13 cd13 ct13), sl13⟩) (c13 : PySem.W.codeIn K cd13 "_law_under" = true) (k13 : PySem.W.keepIn K (.ref f13) = true)
    (a14 : PySem.W.nsIn K mainGlobals "_law_done" = some (some (.ref f14))) (l14 : K.lookup f14 = some ⟨oc14, od14, .func (PySem.W.fnOf "_law_done" "_law_done" (defArgs sLDone) (defBody sLDone) (defScope sLDone) .none kV14 dc14 pm14 an14 cd14 ct14), sl14⟩) (c14 : PySem.W.codeIn K cd14 "_law_done" = true) (k14 : PySem.W.keepIn K (.ref f14) = true)
    (a15 : PySem.W.nsIn K mainGlobals "_law_deed" = some (some (.ref f15))) (l15 : K.lookup f15 = some ⟨oc15, od15, .func (PySem.W.fnOf "_law_deed" "_law_deed" (defArgs sDeed) (defBody sDeed) (defScope sDeed) .none kV15 dc15 pm15 an15 cd15 ct15), sl15⟩) (c15 : PySem.W.codeIn K cd15 "_law_deed" = true) (k15 : PySem.W.keepIn K (.ref f15) = true)
    (a16 : PySem.W.nsIn K mainGlobals "_law_further" = some (some (.ref f16))) (l16 : K.lookup f16 = some ⟨oc16, od16, .func (PySem.W.fnOf "_law_further" "_law_further" (defArgs sFur) (defBody sFur) (defScope sFur) .none kV16 dc16 pm16 an16 cd16 ct16), sl16⟩) (c16 : PySem.W.codeIn K cd16 "_law_further" = true) (k16 : PySem.W.keepIn K (.ref f16) = true)
    (a17 : PySem.W.nsIn K mainGlobals "_law_between" = some (some (.ref f17))) (l17 : K.lookup f17 = some ⟨oc17, od17, .func (PySem.W.fnOf "_law_between" "_law_between" (defArgs s_law_between) (defBody s_law_between) (defScope s_law_between) .none kV17 dc17 pm17 an17 cd17 ct17), sl17⟩) (c17 : PySem.W.codeIn K cd17 "_law_between" = true) (k17 : PySem.W.keepIn K (.ref f17) = true)
    (a18 : PySem.W.nsIn K mainGlobals "_law_counts" = some (some (.ref f18))) (l18 : K.lookup f18 = some ⟨oc18, od18, .func (PySem.W.fnOf "_law_counts" "_law_counts" (defArgs s_law_counts) (defBody s_law_counts) (defScope s_law_counts) .none kV18 dc18 pm18 an18 cd18 ct18), sl18⟩) (c18 : PySem.W.codeIn K cd18 "_law_counts" = true) (k18 : PySem.W.keepIn K (.ref f18) = true)
    (a19 : PySem.W.nsIn K mainGlobals "law" = some (some (.ref f19))) (l19 : K.lookup f19 = some ⟨oc19, od19, .func (PySem.W.fnOf "law" "law" (defArgs sLaw) (defBody sLaw) (defScope sLaw) .none kV19 dc19 pm19 an19 cd19 ct19), sl19⟩) (c19 : PySem.W.codeIn K cd19 "law" = true) (k19 : PySem.W.keepIn K (.ref f19) = true)
    (z1 : PySem.W.nsIn K mainGlobals "isinstance" = some none)
    (z2 : PySem.W.nsIn K mainGlobals "dict" = some none)
    (z3 : PySem.W.nsIn K mainGlobals "len" = some none)
    (z4 : PySem.W.nsIn K mainGlobals "tuple" = some none)
    (z5 : PySem.W.nsIn K mainGlobals "list" = some none)
    (z6 : PySem.W.nsIn K mainGlobals "range" = some none)
    (z7 : PySem.W.nsIn K mainGlobals "sorted" = some none)
    (z8 : PySem.W.nsIn K mainGlobals "reversed" = some none)
    (z9 : PySem.W.nsIn K mainGlobals "ValueError" = some none)
    (z10 : PySem.W.nsIn K mainGlobals "str" = some none)
    (z11 : PySem.W.nsIn K mainGlobals "set" = some none)
    (z12 : PySem.W.nsIn K mainGlobals "max" = some none)
    (z13 : PySem.W.nsIn K mainGlobals "min" = some none)
    (z14 : PySem.W.nsIn K mainGlobals "sum" = some none)
    (z15 : PySem.W.nsIn K mainGlobals "zip" = some none)
    (z16 : PySem.W.nsIn K mainGlobals "enumerate" = some none)
    (z17 : PySem.W.nsIn K mainGlobals "all" = some none)
    (z18 : PySem.W.nsIn K mainGlobals "int" = some none)
    (z19 : PySem.W.nsIn K mainGlobals "bool" = some none)
    {aKi : Addr} {odK : Option Addr} {nK : Nat} {slK : Array (Option Value)} {uK0 uK1 uK2 uK3 uK4 : Tok} (kk1 : PySem.W.nsIn K mainGlobals "KINDS" = some (some (.ref aKi))) (kk2 : K.lookup aKi = some ⟨.type "tuple", odK, .seq #[.str "made" uK0, .str "gone" uK1, .str "written" uK2, .str "moved" uK3, .str "moved and written" uK4] nK, slK⟩) :
    ∃ fd : FuncData, (∀ (s : Shared) (v : Value), BindsTo s fd ⟨[v], []⟩ [("_law_script", v)]) ∧ ∀ base : Heap, K.In base → base.Ns mainGlobals mg → FnOk l.prog w K mg base CX0 5 fa fd ["_law_script"] (spLaw K) := by
  have e := hfa.symm.trans (PySem.W.mg_of X G a19)
  cases e
  have T : Txt mg := ⟨PySem.W.mg_none_of X G z1, PySem.W.mg_none_of X G z2, PySem.W.mg_none_of X G z3, PySem.W.mg_none_of X G z4, PySem.W.mg_none_of X G z5, PySem.W.mg_none_of X G z6, PySem.W.mg_none_of X G z7, PySem.W.mg_none_of X G z8, PySem.W.mg_none_of X G z9, PySem.W.mg_none_of X G z10, PySem.W.mg_none_of X G z11, PySem.W.mg_none_of X G z12, PySem.W.mg_none_of X G z13, PySem.W.mg_none_of X G z14, PySem.W.mg_none_of X G z15, PySem.W.mg_none_of X G z16, PySem.W.mg_none_of X G z17, PySem.W.mg_none_of X G z18, PySem.W.mg_none_of X G z19⟩
  have KK : Kinds mg K := ⟨aKi, PySem.W.mg_of X G kk1, fun H => .inr ⟨_, _, _, kk2, rfl, rfl, (show 5 ≤ sizeLine from le_line (by decide)), .cons ⟨_, rfl⟩ (.cons ⟨_, rfl⟩ (.cons ⟨_, rfl⟩ (.cons ⟨_, rfl⟩ (.cons ⟨_, rfl⟩ .nil))))⟩⟩
  have F1 := fun_mk (st := sByn) l1 c1 k1
  have b1 := F1.binds (ps := ["tree"]) fun _ _ _ _ _ _ us hl => len1 (P := fun us => bindArgs _ ⟨us, []⟩ = pure (List.zip _ us)) hl fun _ => rfl
  have m1 := PySem.W.mg_of X G a1
  have F2 := fun_mk (st := s_parts_by_number) l2 c2 k2
  have b2 := F2.binds (ps := ["tree"]) fun _ _ _ _ _ _ us hl => len1 (P := fun us => bindArgs _ ⟨us, []⟩ = pure (List.zip _ us)) hl fun _ => rfl
  have m2 := PySem.W.mg_of X G a2
  have F3 := fun_mk (st := s_unlike_entries) l3 c3 k3
  have b3 := F3.binds (ps := ["entries"]) fun _ _ _ _ _ _ us hl => len1 (P := fun us => bindArgs _ ⟨us, []⟩ = pure (List.zip _ us)) hl fun _ => rfl
  have m3 := PySem.W.mg_of X G a3
  have F4 := fun_mk (st := s_change_between) l4 c4 k4
  have b4 := F4.binds (ps := ["one", "other"]) fun _ _ _ _ _ _ us hl => len2 (P := fun us => bindArgs _ ⟨us, []⟩ = pure (List.zip _ us)) hl fun _ _ => rfl
  have m4 := PySem.W.mg_of X G a4
  have F5 := fun_mk (st := s_turned_back) l5 c5 k5
  have b5 := F5.binds (ps := ["change"]) fun _ _ _ _ _ _ us hl => len1 (P := fun us => bindArgs _ ⟨us, []⟩ = pure (List.zip _ us)) hl fun _ => rfl
  have m5 := PySem.W.mg_of X G a5
  have F6 := fun_mk (st := s_joined) l6 c6 k6
  have b6 := F6.binds (ps := ["one", "other"]) fun _ _ _ _ _ _ us hl => len2 (P := fun us => bindArgs _ ⟨us, []⟩ = pure (List.zip _ us)) hl fun _ _ => rfl
  have m6 := PySem.W.mg_of X G a6
  have F7 := fun_mk (st := s_kind_of) l7 c7 k7
  have b7 := F7.binds (ps := ["old", "new"]) fun _ _ _ _ _ _ us hl => len2 (P := fun us => bindArgs _ ⟨us, []⟩ = pure (List.zip _ us)) hl fun _ _ => rfl
  have m7 := PySem.W.mg_of X G a7
  have F8 := fun_mk (st := s_counted) l8 c8 k8
  have b8 := F8.binds (ps := ["change"]) fun _ _ _ _ _ _ us hl => len1 (P := fun us => bindArgs _ ⟨us, []⟩ = pure (List.zip _ us)) hl fun _ => rfl
  have m8 := PySem.W.mg_of X G a8
  have F9 := fun_mk (st := sCell) l9 c9 k9
  have b9 := F9.binds (ps := ["_law_script", "_law_k"]) fun _ _ _ _ _ _ us hl => len2 (P := fun us => bindArgs _ ⟨us, []⟩ = pure (List.zip _ us)) hl fun _ _ => rfl
  have m9 := PySem.W.mg_of X G a9
  have F10 := fun_mk (st := sPick) l10 c10 k10
  have b10 := F10.binds (ps := ["_law_script", "_law_k", "_law_many"]) fun _ _ _ _ _ _ us hl => len3 (P := fun us => bindArgs _ ⟨us, []⟩ = pure (List.zip _ us)) hl fun _ _ _ => rfl
  have m10 := PySem.W.mg_of X G a10
  have F11 := fun_mk (st := sBuild) l11 c11 k11
  have b11 := F11.binds (ps := ["_law_script", "_law_at", "_law_most"]) fun _ _ _ _ _ _ us hl => len3 (P := fun us => bindArgs _ ⟨us, []⟩ = pure (List.zip _ us)) hl fun _ _ _ => rfl
  have m11 := PySem.W.mg_of X G a11
  have F12 := fun_mk (st := sBook) l12 c12 k12
  have b12 := F12.binds (ps := ["_law_tree_here"]) fun _ _ _ _ _ _ us hl => len1 (P := fun us => bindArgs _ ⟨us, []⟩ = pure (List.zip _ us)) hl fun _ => rfl
  have m12 := PySem.W.mg_of X G a12
  have F13 := fun_mk (st := sUnder) l13 c13 k13
  have b13 := F13.binds (ps := ["_law_book_here", "_law_number", "_law_goal"]) fun _ _ _ _ _ _ us hl => len3 (P := fun us => bindArgs _ ⟨us, []⟩ = pure (List.zip _ us)) hl fun _ _ _ => rfl
  have m13 := PySem.W.mg_of X G a13
  have F14 := fun_mk (st := sLDone) l14 c14 k14
  have b14 := F14.binds (ps := ["_law_tree_here", "_law_deed_here"]) fun _ _ _ _ _ _ us hl => len2 (P := fun us => bindArgs _ ⟨us, []⟩ = pure (List.zip _ us)) hl fun _ _ => rfl
  have m14 := PySem.W.mg_of X G a14
  have F15 := fun_mk (st := sDeed) l15 c15 k15
  have b15 := F15.binds (ps := ["_law_script", "_law_at", "_law_tree_here"]) fun _ _ _ _ _ _ us hl => len3 (P := fun us => bindArgs _ ⟨us, []⟩ = pure (List.zip _ us)) hl fun _ _ _ => rfl
  have m15 := PySem.W.mg_of X G a15
  have F16 := fun_mk (st := sFur) l16 c16 k16
  have b16 := F16.binds (ps := ["_law_script", "_law_at", "_law_tree_here", "_law_many"]) fun _ _ _ _ _ _ us hl => len4 (P := fun us => bindArgs _ ⟨us, []⟩ = pure (List.zip _ us)) hl fun _ _ _ _ => rfl
  have m16 := PySem.W.mg_of X G a16
  have F17 := fun_mk (st := s_law_between) l17 c17 k17
  have b17 := F17.binds (ps := ["_law_one", "_law_other"]) fun _ _ _ _ _ _ us hl => len2 (P := fun us => bindArgs _ ⟨us, []⟩ = pure (List.zip _ us)) hl fun _ _ => rfl
  have m17 := PySem.W.mg_of X G a17
  have F18 := fun_mk (st := s_law_counts) l18 c18 k18
  have b18 := F18.binds (ps := ["_law_change"]) fun _ _ _ _ _ _ us hl => len1 (P := fun us => bindArgs _ ⟨us, []⟩ = pure (List.zip _ us)) hl fun _ => rfl
  have m18 := PySem.W.mg_of X G a18
  have F19 := fun_mk (st := sLaw) l19 c19 k19
  refine ⟨PySem.W.fnOf "law" "law" (defArgs sLaw) (defBody sLaw) (defScope sLaw) .none kV19 dc19 pm19 an19 cd19 ct19, fun s v => .of_eq rfl, fun base KB _ => ?_⟩
  have C_by_number : Has l.prog w K mg base 1 "by_number" ["tree"] spBynC := ⟨f1, _, ok_bynC F1 T, m1, k1, b1⟩
  have C_parts_by_number : Has l.prog w K mg base 1 "parts_by_number" ["tree"] spPart := ⟨f2, _, ok_part F2 T, m2, k2, b2⟩
  have C_unlike_entries : Has l.prog w K mg base 1 "unlike_entries" ["entries"] spUnl := ⟨f3, _, ok_unl F3 T, m3, k3, b3⟩
  have C_change_between : Has l.prog w K mg base 2 "change_between" ["one", "other"] spChB := ⟨f4, _, ok_chb F4 T C_parts_by_number C_unlike_entries, m4, k4, b4⟩
  have C_turned_back : Has l.prog w K mg base 1 "turned_back" ["change"] spTb := ⟨f5, _, ok_tb F5 T, m5, k5, b5⟩
  have C_joined : Has l.prog w K mg base 2 "joined" ["one", "other"] spJo := ⟨f6, _, ok_jo F6 T C_by_number C_unlike_entries, m6, k6, b6⟩
  have C_kind_of : Has l.prog w K mg base 1 "kind_of" ["old", "new"] spKind := ⟨f7, _, ok_kind F7, m7, k7, b7⟩
  have C_counted : Has l.prog w K mg base 2 "counted" ["change"] spCnt := ⟨f8, _, ok_cnt F8 T KK C_kind_of, m8, k8, b8⟩
  have C__law_cell : Has l.prog w K mg base 1 "_law_cell" ["_law_script", "_law_k"] (spCell K) := ⟨f9, _, ok_cell F9 T, m9, k9, b9⟩
  have C__law_pick : Has l.prog w K mg base 2 "_law_pick" ["_law_script", "_law_k", "_law_many"] (spPick K) := ⟨f10, _, ok_pick F10 T C__law_cell, m10, k10, b10⟩
  have C__law_tree : Has l.prog w K mg base 3 "_law_tree" ["_law_script", "_law_at", "_law_most"] (spBuild K) := ⟨f11, _, ok_build F11 T C__law_pick, m11, k11, b11⟩
  have C__law_book : Has l.prog w K mg base 1 "_law_book" ["_law_tree_here"] spBook := ⟨f12, _, ok_book F12 T, m12, k12, b12⟩
  have C__law_under : Has l.prog w K mg base 1 "_law_under" ["_law_book_here", "_law_number", "_law_goal"] spUnd := ⟨f13, _, ok_und F13, m13, k13, b13⟩
  have C__law_done : Has l.prog w K mg base 2 "_law_done" ["_law_tree_here", "_law_deed_here"] spLDone := ⟨f14, _, ok_ldone F14 T C__law_book C__law_under, m14, k14, b14⟩
  have C__law_deed : Has l.prog w K mg base 3 "_law_deed" ["_law_script", "_law_at", "_law_tree_here"] (spDeed K) := ⟨f15, _, ok_deed F15 T C__law_pick, m15, k15, b15⟩
  have C__law_further : Has l.prog w K mg base 4 "_law_further" ["_law_script", "_law_at", "_law_tree_here", "_law_many"] (spFur K) := ⟨f16, _, ok_fur F16 T C__law_deed C__law_done, m16, k16, b16⟩
  have C__law_between : Has l.prog w K mg base 2 "_law_between" ["_law_one", "_law_other"] spLBt := ⟨f17, _, ok_lbt F17 T C__law_book, m17, k17, b17⟩
  have C__law_counts : Has l.prog w K mg base 1 "_law_counts" ["_law_change"] spLCo := ⟨f18, _, ok_lco F18 T, m18, k18, b18⟩
  exact ok_law F19 C__law_tree C__law_pick C__law_further C_change_between C__law_between C_counted C__law_counts C_turned_back C_joined
theorem walk {l : PySem.W.OpenLaw} {q : Program} {loose : List Str} {XP : (Str → Option Value) → Heap → Prop} {YP : World → Heap → Prop} {d : DefRec} {K : Params → PySem.W.Frag} (hn : l.most = some 63) (hdf : d.params.defaults = [])
    (hY : ∀ (w : World) (h : Heap), YP w h → (K w.params).In h)
    (F : ∀ (w : World) (mg : Str → Option Value) (fa : Addr) (h : Heap), (K w.params).In h → h.Ns mainGlobals mg → mg d.name = some (.ref fa) →
      ∃ fd : FuncData, (∀ (s : Shared) (u : Value), BindsTo s fd ⟨[u], []⟩ [("_law_script", u)]) ∧ ∀ base : Heap, (K w.params).In base → base.Ns mainGlobals mg → FnOk l.prog w (K w.params) mg base CX0 5 fa fd ["_law_script"] (spLaw (K w.params))) :
    PySem.W.WalkO q loose XP YP l.row.toRowW d [] (fun f vs => PySem.call f vs) :=
  L2.walk_of (n := 63) (k := 5) (x := "_law_script") (CX := fun _ => CX0) (sp := fun w => spLaw (K w.params)) hn (by decide) hdf ⟨rfl, by decide, by decide⟩ hY F (fun _ _ a ns hl _ hS => ⟨a, ns, rfl, hS, hl, fun _ => rfl⟩) fun _ _ _ _ _ z => z
end TK
open PySem PySem.W PyProof.Rows
noncomputable def PySem.W.Fast.tw981875211370401754 : Unit := ()
noncomputable def PySem.W.Fast.tw18414902257700163199 : Unit := ()
noncomputable def PySem.W.Fast.tw1017440027446937575 : Unit := ()
set_option maxRecDepth 100000 in
set_option maxHeartbeats 0 in
theorem PySem.Challenge.cw_treewatch_k20_changes_holds : PySem.Challenge.rw_treewatch_k20_changes.Holds := by
  w_on; o_law; k_head; (case hw => w_witness2)
  k_fill
  refine TK.walk (l := PySem.Challenge.rw_treewatch_k20_changes) rfl rfl (fun w h Y => PySem.W.kIn_of Y) ?F
  case F =>
    intro w mg fa h KX G hmg
    refine' TK.all_mk KX G hmg ?a1 ?l1 ?c1 ?k1 ?a2 ?l2 ?c2 ?k2 ?a3 ?l3 ?c3 ?k3 ?a4 ?l4 ?c4 ?k4 ?a5 ?l5 ?c5 ?k5 ?a6 ?l6 ?c6 ?k6 ?a7 ?l7 ?c7 ?k7 ?a8 ?l8 ?c8 ?k8 ?a9 ?l9 ?c9 ?k9 ?a10 ?l10 ?c10 ?k10 ?a11 ?l11 ?c11 ?k11 ?a12 ?l12 ?c12 ?k12 ?a13 ?l13 ?c13 ?k13 ?a14 ?l14 ?c14 ?k14 ?a15 ?l15 ?c15 ?k15 ?a16 ?l16 ?c16 ?k16 ?a17 ?l17 ?c17 ?k17 ?a18 ?l18 ?c18 ?k18 ?a19 ?l19 ?c19 ?k19 ?z1 ?z2 ?z3 ?z4 ?z5 ?z6 ?z7 ?z8 ?z9 ?z10 ?z11 ?z12 ?z13 ?z14 ?z15 ?z16 ?z17 ?z18 ?z19 ?kk1 ?kk2
    (case a1 => k_is); (case l1 => k_is); (case c1 => k_is); (case k1 => k_is); (case a2 => k_is); (case l2 => k_is); (case c2 => k_is); (case k2 => k_is)
    (case a3 => k_is); (case l3 => k_is); (case c3 => k_is); (case k3 => k_is); (case a4 => k_is); (case l4 => k_is); (case c4 => k_is); (case k4 => k_is)
    (case a5 => k_is); (case l5 => k_is); (case c5 => k_is); (case k5 => k_is); (case a6 => k_is); (case l6 => k_is); (case c6 => k_is); (case k6 => k_is)
    (case a7 => k_is); (case l7 => k_is); (case c7 => k_is); (case k7 => k_is); (case a8 => k_is); (case l8 => k_is); (case c8 => k_is); (case k8 => k_is)
    (case a9 => k_is); (case l9 => k_is); (case c9 => k_is); (case k9 => k_is); (case a10 => k_is); (case l10 => k_is); (case c10 => k_is); (case k10 => k_is)
    (case a11 => k_is); (case l11 => k_is); (case c11 => k_is); (case k11 => k_is); (case a12 => k_is); (case l12 => k_is); (case c12 => k_is); (case k12 => k_is)
    (case a13 => k_is); (case l13 => k_is); (case c13 => k_is); (case k13 => k_is); (case a14 => k_is); (case l14 => k_is); (case c14 => k_is); (case k14 => k_is)
    (case a15 => k_is); (case l15 => k_is); (case c15 => k_is); (case k15 => k_is); (case a16 => k_is); (case l16 => k_is); (case c16 => k_is); (case k16 => k_is)
    (case a17 => k_is); (case l17 => k_is); (case c17 => k_is); (case k17 => k_is); (case a18 => k_is); (case l18 => k_is); (case c18 => k_is); (case k18 => k_is)
    (case a19 => k_is); (case l19 => k_is); (case c19 => k_is); (case k19 => k_is); (case z1 => k_is); (case z2 => k_is); (case z3 => k_is); (case z4 => k_is)
    (case z5 => k_is); (case z6 => k_is); (case z7 => k_is); (case z8 => k_is); (case z9 => k_is); (case z10 => k_is); (case z11 => k_is); (case z12 => k_is)
    (case z13 => k_is); (case z14 => k_is); (case z15 => k_is); (case z16 => k_is); (case z17 => k_is); (case z18 => k_is); (case z19 => k_is); (case kk1 => k_is)
    (case kk2 => k_is)
