import PyProof.Rows.All
import Wide.All
import OpenK.AllK
import Wide.FinOn
import Lean
import PyProof.EqAt
import PyProof.EqKinds
import PyProof.TupleCall
import PySem.SetTable
import PyProof.SetScanFacts
import PyProof.TupleKey
import PyProof.SetKind
import PyProof.IsRules
import PyProof.SetRoads
import PyProof.InstSpecial
import PyProof.Rows.SetFrom
import KE.KSortTup
import PyProof.CompFree
import PyProof.StrWalks
import PyProof.EnumMake
import PyProof.ConsumeWalk
import PyProof.ListRange
import PyProof.NeKinds
import PyProof.ZipIter
import PySem.Challenge.RW_treewatch_k01_trees
set_option linter.all false
namespace TW
/-- a node: its number, its parent, its name, its stamp (none: a folder) -/
structure Nd (S : Type) where
  num : Int
  par : Int
  nm : S
  st : Option Int
section
variable {S : Type}
/-- n hangs below f over folders of ns -/
inductive Reach (ns : List (Nd S)) (f : Int) : Nd S → Prop where
  | base {n : Nd S} : n ∈ ns → n.par = f → Reach ns f n
  | step {m n : Nd S} : Reach ns f m → m.st = none → n ∈ ns → n.par = m.num → Reach ns f n
theorem Reach.mem {ns : List (Nd S)} {f : Int} {n : Nd S} (h : Reach ns f n) : n ∈ ns := by
  cases h <;> assumption
theorem Reach.mono {ns ms : List (Nd S)} {f : Int} {n : Nd S} (h : Reach ns f n) (hs : ∀ x ∈ ns, x ∈ ms) : Reach ms f n := by
  induction h with
  | base hm hp => exact .base (hs _ hm) hp
  | step _ hf hm hp ih => exact .step ih hf (hs _ hm) hp

/-! the walk down from a folder -/
def inside (ns : List (Nd S)) (k : Int) : List (Nd S) := ns.filter fun n => decide (n.par = k)
def parIn (dn : List Int) (n : Nd S) : Bool := decide (n.par ∈ dn)
structure Walk (ns : List (Nd S)) (f : Int) (dn : List Int) (fd : List (Nd S)) (pd : List Int) : Prop where
  perm : fd.Perm (ns.filter (parIn dn))
  reach : ∀ n ∈ fd, Reach ns f n
  cover : ∀ k, (k ∈ pd ∨ k ∈ dn) ↔ (k = f ∨ ∃ m ∈ fd, m.st = none ∧ m.num = k)
theorem Walk.start (ns : List (Nd S)) (f : Int) : Walk ns f [] [] [f] := by
  refine ⟨?_, by simp, fun k => by simp⟩
  have e : ns.filter (parIn []) = [] := by
    rw [List.filter_eq_nil_iff]; intro a _; simp [parIn]
  rw [e]
theorem filter_or_perm {α : Type} (p q : α → Bool) (hd : ∀ x, p x = true → q x = true → False) : ∀ l : List α,
    (l.filter p ++ l.filter q).Perm (l.filter fun x => p x || q x)
  | [] => by simp
  | x :: l => by
    have ih := filter_or_perm p q hd l
    cases hp : p x with
    | true =>
      have hq : q x = false := by
        cases h : q x with
        | false => rfl
        | true => exact (hd x hp h).elim
      rw [List.filter_cons_of_pos hp, List.filter_cons_of_neg (by simp [hq]), List.filter_cons_of_pos (by simp [hp])]
      exact List.Perm.cons x ih
    | false =>
      cases hq : q x with
      | true =>
        rw [List.filter_cons_of_neg (by simp [hp]), List.filter_cons_of_pos hq, List.filter_cons_of_pos (by simp [hq])]
        exact List.perm_middle.trans (List.Perm.cons x ih)
      | false =>
        rw [List.filter_cons_of_neg (by simp [hp]), List.filter_cons_of_neg (by simp [hq]), List.filter_cons_of_neg (by simp [hp, hq])]
        exact ih
/-- what a turn finds -/
def here (ns : List (Nd S)) (dn : List Int) (x : Int) : List (Nd S) := if x ∈ dn then [] else inside ns x
def folders (l : List (Nd S)) : List Int := (l.filter fun n => n.st.isNone).map (·.num)
theorem mem_folders {l : List (Nd S)} {k : Int} : k ∈ folders l ↔ ∃ m ∈ l, m.st = none ∧ m.num = k := by
  unfold folders
  rw [List.mem_map]
  constructor
  · rintro ⟨m, hm, e⟩
    rw [List.mem_filter] at hm
    exact ⟨m, hm.1, by simpa using hm.2, e⟩
  · rintro ⟨m, hm, h, e⟩
    exact ⟨m, List.mem_filter.mpr ⟨hm, by simp [h]⟩, e⟩
theorem Walk.turn {ns : List (Nd S)} {f x : Int} {dn : List Int} {fd : List (Nd S)} {pd : List Int} (w : Walk ns f dn fd (pd ++ [x])) :
    Walk ns f (x :: dn) (fd ++ here ns dn x) (pd ++ folders (here ns dn x)) := by
  have hx := (w.cover x).mp (.inl (by simp))
  by_cases hd : x ∈ dn
  · have eh : here ns dn x = [] := by unfold here; rw [if_pos hd]
    rw [eh]
    refine ⟨?_, by simpa using w.reach, fun k => ?_⟩
    · have e : ns.filter (parIn (x :: dn)) = ns.filter (parIn dn) := by
        apply List.filter_congr
        intro n _
        simp only [parIn, List.mem_cons, decide_eq_decide]
        constructor
        · rintro (h | h)
          · rw [h]; exact hd
          · exact h
        · exact .inr
      rw [e, List.append_nil]; exact w.perm
    · have c := w.cover k
      rw [List.append_nil, ← c]
      simp only [folders, List.filter_nil, List.map_nil, List.append_nil, List.mem_append, List.mem_cons, List.not_mem_nil, or_false]
      constructor
      · rintro (h | h | h)
        · exact .inl (.inl h)
        · exact .inl (.inr h)
        · exact .inr h
      · rintro ((h | h) | h)
        · exact .inl h
        · exact .inr (.inl h)
        · exact .inr (.inr h)
  · have eh : here ns dn x = inside ns x := by unfold here; rw [if_neg hd]
    rw [eh]
    refine ⟨?_, fun n hn => ?_, fun k => ?_⟩
    · have e : ns.filter (parIn (x :: dn)) = ns.filter fun n => parIn dn n || decide (n.par = x) := by
        apply List.filter_congr
        intro n _
        rw [Bool.eq_iff_iff]
        simp only [parIn, List.mem_cons, decide_eq_true_eq, Bool.or_eq_true]
        constructor
        · rintro (h | h)
          · exact .inr h
          · exact .inl h
        · rintro (h | h)
          · exact .inr h
          · exact .inl h
      rw [e]
      refine (List.Perm.append_right _ w.perm).trans (filter_or_perm _ _ (fun y h1 h2 => ?_) ns)
      simp only [parIn, decide_eq_true_eq] at h1 h2
      rw [h2] at h1; exact hd h1
    · rcases List.mem_append.mp hn with h | h
      · exact w.reach n h
      · unfold inside at h
        rw [List.mem_filter] at h
        obtain ⟨hm, hp⟩ := h
        simp only [decide_eq_true_eq] at hp
        rcases hx with e | ⟨m, hm', hf, e⟩
        · exact .base hm (hp.trans e)
        · exact .step (w.reach m hm') hf hm (hp.trans e.symm)
    · have c := w.cover k
      simp only [List.mem_append, List.mem_cons, List.not_mem_nil, or_false] at c ⊢
      rw [mem_folders]
      constructor
      · rintro ((h | ⟨m, hm, h1, h2⟩) | h | h)
        · rcases c.mp (.inl (.inl h)) with e | ⟨m, hm, z⟩
          · exact .inl e
          · exact .inr ⟨m, .inl hm, z⟩
        · exact .inr ⟨m, .inr hm, h1, h2⟩
        · rcases c.mp (.inl (.inr h)) with e | ⟨m, hm, z⟩
          · exact .inl e
          · exact .inr ⟨m, .inl hm, z⟩
        · rcases c.mp (.inr h) with e | ⟨m, hm, z⟩
          · exact .inl e
          · exact .inr ⟨m, .inl hm, z⟩
      · rintro (e | ⟨m, hm | hm, z⟩)
        · rcases c.mpr (.inl e) with (h | h) | h
          · exact .inl (.inl h)
          · exact .inr (.inl h)
          · exact .inr (.inr h)
        · rcases c.mpr (.inr ⟨m, hm, z⟩) with (h | h) | h
          · exact .inl (.inl h)
          · exact .inr (.inl h)
          · exact .inr (.inr h)
        · exact .inl (.inr ⟨m, hm, z⟩)
theorem Walk.len {ns : List (Nd S)} {f : Int} {dn : List Int} {fd : List (Nd S)} {pd : List Int} (w : Walk ns f dn fd pd) : fd.length ≤ ns.length := by
  rw [w.perm.length_eq]; exact List.length_filter_le _ _
theorem folders_len (l : List (Nd S)) : (folders l).length ≤ l.length := by
  unfold folders; rw [List.length_map]; exact List.length_filter_le _ _
theorem Walk.mem {ns : List (Nd S)} {f : Int} {dn : List Int} {fd : List (Nd S)} (w : Walk ns f dn fd []) (n : Nd S) : n ∈ fd ↔ Reach ns f n := by
  constructor
  · exact w.reach n
  · have cov : ∀ k, (k = f ∨ ∃ m ∈ fd, m.st = none ∧ m.num = k) → k ∈ dn := fun k h => by
      rcases (w.cover k).mpr h with z | z
      · simp at z
      · exact z
    have back : ∀ x, x ∈ ns → x.par ∈ dn → x ∈ fd := fun x hx hp => w.perm.mem_iff.mpr (List.mem_filter.mpr ⟨hx, by simp [parIn, hp]⟩)
    intro h
    induction h with
    | base hm hp => exact back _ hm (cov _ (.inl hp))
    | step _ hf hm hp ih => exact back _ hm (cov _ (.inr ⟨_, ih, hf, hp.symm⟩))
theorem Walk.all {ns : List (Nd S)} {f : Int} {dn : List Int} {fd : List (Nd S)} (w : Walk ns f dn fd []) : fd.length = ns.length ↔ ∀ n ∈ ns, Reach ns f n := by
  rw [w.perm.length_eq]
  constructor
  · intro h n hn
    have e : ns.filter (parIn dn) = ns := by
      rw [List.filter_eq_self]
      exact List.length_filter_eq_length_iff.mp h
    have : n ∈ ns.filter (parIn dn) := by rw [e]; exact hn
    exact (w.mem n).mp (w.perm.mem_iff.mpr this)
  · intro h
    rw [List.length_filter_eq_length_iff]
    intro n hn
    have := w.perm.mem_iff.mp ((w.mem n).mpr (h n hn))
    exact (List.mem_filter.mp this).2

/-! trees -/
def Rise (ns : List (Nd S)) : Prop := ns.Pairwise fun a b => a.num < b.num
def Places (ns : List (Nd S)) : Prop := (ns.map fun n => (n.par, n.nm)).Nodup
structure Tree (ns : List (Nd S)) : Prop where
  rise : Rise ns
  own : Places ns
  down : ∀ n ∈ ns, Reach ns 0 n
def adj : List (Nd S) → Bool
  | a :: b :: r => decide (a.num < b.num) && adj (b :: r)
  | _ => true
theorem adj_iff : ∀ ns : List (Nd S), adj ns = true ↔ Rise ns
  | [] => by simp [adj, Rise]
  | [a] => by simp [adj, Rise]
  | a :: b :: r => by
    have ih := adj_iff (b :: r)
    unfold adj
    rw [Bool.and_eq_true, ih, decide_eq_true_eq]
    unfold Rise
    rw [List.pairwise_cons (a := a)]
    constructor
    · rintro ⟨h, p⟩
      refine ⟨fun x hx => ?_, p⟩
      rcases List.mem_cons.mp hx with rfl | hx
      · exact h
      · have := (List.pairwise_cons.mp p).1 x hx
        omega
    · rintro ⟨h, p⟩
      exact ⟨h b (by simp), p⟩
theorem adj_zip : ∀ ns : List (Nd S), adj ns = ((ns.zip (ns.drop 1)).all fun p => decide (p.1.num < p.2.num))
  | [] => rfl
  | [a] => rfl
  | a :: b :: r => by
    have ih := adj_zip (b :: r)
    unfold adj
    rw [ih]
    rfl
/-! built one by one -/
inductive Built : List (Nd S) → Prop where
  | nil : Built []
  | snoc {l : List (Nd S)} {n : Nd S} : Built l → (n.par = 0 ∨ ∃ m ∈ l, m.st = none ∧ m.num = n.par) → Built (l ++ [n])
theorem Built.down {l : List (Nd S)} (b : Built l) : ∀ n ∈ l, Reach l 0 n := by
  induction b with
  | nil => simp
  | @snoc l n b h ih =>
    intro x hx
    have up : ∀ y ∈ l, y ∈ l ++ [n] := fun y hy => List.mem_append_left _ hy
    rcases List.mem_append.mp hx with hx | hx
    · exact (ih x hx).mono up
    · have e : x = n := by simpa using hx
      subst e
      rcases h with h | ⟨m, hm, hf, he⟩
      · exact .base (by simp) h
      · exact .step ((ih m hm).mono up) hf (by simp) he.symm
theorem tree_of {l t : List (Nd S)} (b : Built l) (p : t.Perm l) (hr : t.Pairwise fun a b => a.num ≤ b.num) (hn : (l.map (·.num)).Nodup) (ho : Places l) : Tree t := by
  refine ⟨?_, ?_, fun n hn' => ?_⟩
  · have hn' : (t.map (·.num)).Nodup := ((p.map _).nodup_iff).mpr hn
    unfold List.Nodup at hn'
    rw [List.pairwise_map] at hn'
    unfold Rise
    exact hr.imp₂ (fun a b h1 h2 => by omega) hn'
  · unfold Places
    exact ((p.map _).nodup_iff).mpr ho
  · exact (b.down n (p.mem_iff.mp hn')).mono fun x hx => p.mem_iff.mpr hx
/-! spoilt trees -/
theorem bad_parent {t : List (Nd S)} {n : Nd S} (hm : n ∈ t) (h0 : n.par ≠ 0) (h : ∀ m ∈ t, m.num ≠ n.par) : ¬ Tree t := by
  intro T
  have r := T.down n hm
  cases r with
  | base _ hp => exact h0 hp
  | step r' _ _ hp => exact h _ r'.mem hp.symm
theorem rise_inj {t : List (Nd S)} (h : Rise t) {a b : Nd S} (ha : a ∈ t) (hb : b ∈ t) (e : a.num = b.num) : a = b := by
  unfold Rise at h
  induction t with
  | nil => simp at ha
  | cons x r ih =>
    rw [List.pairwise_cons] at h
    rcases List.mem_cons.mp ha with ea | ha'
    · rcases List.mem_cons.mp hb with eb | hb'
      · rw [ea, eb]
      · have := h.1 b hb'; rw [← ea] at this; omega
    · rcases List.mem_cons.mp hb with eb | hb'
      · have := h.1 a ha'; rw [← eb] at this; omega
      · exact ih h.2 ha' hb'
theorem own_parent {t : List (Nd S)} {n : Nd S} (hm : n ∈ t) (h0 : n.num ≠ 0) (h : n.par = n.num) : ¬ Tree t := by
  intro T
  have key : ∀ x, Reach t 0 x → x ≠ n := by
    intro x r
    induction r with
    | base _ hp => rintro rfl; exact h0 (h.symm.trans hp)
    | @step m x rm _ _ hp ih =>
      rintro rfl
      exact ih (rise_inj T.rise rm.mem hm (hp.symm.trans h))
  exact key n (T.down n hm) rfl
theorem told_twice {t : List (Nd S)} {n : Nd S} (hm : n ∈ t) : ¬ Tree (t ++ [n]) := by
  intro T
  have h := T.rise
  unfold Rise at h
  rw [List.pairwise_append] at h
  have := h.2.2 n hm n (by simp)
  omega
theorem place_twice {t : List (Nd S)} {n m : Nd S} (hm : n ∈ t) (h1 : m.par = n.par) (h2 : m.nm = n.nm) : ¬ Tree (t ++ [m]) := by
  intro T
  have h := T.own
  unfold Places at h
  rw [List.map_append, List.nodup_append] at h
  refine h.2.2 (n.par, n.nm) (List.mem_map.mpr ⟨n, hm, rfl⟩) (m.par, m.nm) (by simp) ?_
  rw [h1, h2]
theorem turned {t : List (Nd S)} (T : Tree t) (hl : 1 < t.length) : ¬ Tree t.reverse := by
  intro T'
  have h1 := T.rise
  have h2 := T'.rise
  unfold Rise at h1 h2
  rw [List.pairwise_reverse] at h2
  match t, hl with
  | a :: b :: r, _ =>
    have e1 := (List.pairwise_cons.mp h1).1 b (by simp)
    have e2 := (List.pairwise_cons.mp h2).1 b (by simp)
    omega
end
end TW

set_option linter.all false
namespace TB
open PySem PySem.SetTable
/-! the places that a search meets -/
def adv (mask : Nat) (p : Probe) : Probe :=
  if p.more > 0 then { p with j := p.j + 1, more := p.more - 1 } else
  { p with j := (leap mask p.i p.perturb).1, more := runEnd mask (leap mask p.i p.perturb).1 - (leap mask p.i p.perturb).1, i := (leap mask p.i p.perturb).1, perturb := (leap mask p.i p.perturb).2 }
theorem advance_eq (t : SetTable) (p : Probe) : advance t p = adv t.mask p := rfl
def lvP (mask : Nat) (x : Nat × Nat) : Probe := { j := x.1, more := runEnd mask x.1 - x.1, i := x.1, perturb := x.2, dummy := none }
def st (mask : Nat) (h : Int) : Probe := lvP mask (bits h % (mask + 1), bits h)
theorem probeStart_eq (t : SetTable) (h : Int) : probeStart t h = st t.mask h := rfl
def nth (mask : Nat) : Probe → Nat → Probe
  | p, 0 => p
  | p, n + 1 => nth mask (adv mask p) n
theorem nth_add (mask : Nat) : ∀ (a b : Nat) (p : Probe), nth mask p (a + b) = nth mask (nth mask p a) b
  | 0, b, p => by rw [Nat.zero_add]; rfl
  | a + 1, b, p => by
    rw [show a + 1 + b = (a + b) + 1 by omega]
    show nth mask (adv mask p) (a + b) = nth mask (nth mask (adv mask p) a) b
    exact nth_add mask a b _
theorem nth_succ (mask : Nat) (p : Probe) (n : Nat) : nth mask p (n + 1) = adv mask (nth mask p n) := by
  rw [nth_add]; rfl
def pos (mask : Nat) (h : Int) (n : Nat) : Nat := (nth mask (st mask h) n).j

theorem run_steps (mask : Nat) : ∀ (m : Nat) (p : Probe), p.more = m → nth mask p m = { p with j := p.j + m, more := 0 }
  | 0, p, h => by
    show p = _
    cases p; simp at h; subst h; rfl
  | m + 1, p, h => by
    show nth mask (adv mask p) m = _
    have e : adv mask p = { p with j := p.j + 1, more := m } := by
      unfold adv
      rw [if_pos (by omega), h]; rfl
    rw [e, run_steps mask m _ rfl]
    simp only [Probe.mk.injEq, and_true]
    omega
theorem run_part (mask : Nat) : ∀ (m : Nat) (p : Probe), m ≤ p.more → nth mask p m = { p with j := p.j + m, more := p.more - m }
  | 0, p, h => by
    show p = _
    cases p; rfl
  | m + 1, p, h => by
    show nth mask (adv mask p) m = _
    have e : adv mask p = { p with j := p.j + 1, more := p.more - 1 } := by
      unfold adv
      rw [if_pos (by omega)]
    rw [e, run_part mask m _ (by show m ≤ p.more - 1; omega)]
    simp only [Probe.mk.injEq, and_true]
    omega
theorem leap_steps (mask : Nat) (x : Nat × Nat) : nth mask (lvP mask x) (runEnd mask x.1 - x.1 + 1) = lvP mask (leap mask x.1 x.2) := by
  have e := run_steps mask (runEnd mask x.1 - x.1) (lvP mask x) rfl
  rw [nth_succ, e]
  unfold adv
  rw [if_neg (by simp)]
  rfl
theorem run_le (mask i : Nat) : runEnd mask i - i ≤ 9 := by unfold runEnd; split <;> omega
def lv (mask : Nat) : Nat → Nat × Nat → Nat × Nat
  | 0, x => x
  | k + 1, x => lv mask k (leap mask x.1 x.2)
theorem lv_add (mask : Nat) : ∀ (a b : Nat) (x : Nat × Nat), lv mask (a + b) x = lv mask b (lv mask a x)
  | 0, b, x => by rw [Nat.zero_add]; rfl
  | a + 1, b, x => by
    rw [show a + 1 + b = (a + b) + 1 by omega]
    exact lv_add mask a b _
theorem lv_steps (mask : Nat) : ∀ (k : Nat) (x : Nat × Nat), ∃ n, n ≤ 10 * k ∧ nth mask (lvP mask x) n = lvP mask (lv mask k x)
  | 0, x => ⟨0, by omega, rfl⟩
  | k + 1, x => by
    obtain ⟨n, hn, e⟩ := lv_steps mask k (leap mask x.1 x.2)
    refine ⟨(runEnd mask x.1 - x.1 + 1) + n, ?_, ?_⟩
    · have := run_le mask x.1; omega
    · rw [nth_add, leap_steps]; exact e
theorem lv_perturb (mask : Nat) : ∀ (k : Nat) (x : Nat × Nat), (lv mask k x).2 = x.2 / 32 ^ k
  | 0, x => by simp [lv]
  | k + 1, x => by
    show (lv mask k (leap mask x.1 x.2)).2 = _
    rw [lv_perturb mask k]
    show x.2 / 32 / 32 ^ k = _
    rw [Nat.div_div_eq_div_mul, Nat.pow_succ, Nat.mul_comm 32]
theorem lv_lt (mask : Nat) : ∀ (k : Nat) (x : Nat × Nat), x.1 ≤ mask → (lv mask k x).1 ≤ mask
  | 0, x, h => h
  | k + 1, x, h => lv_lt mask k _ (by show (x.1 * 5 + 1 + x.2 / 32) % (mask + 1) ≤ mask; have := Nat.mod_lt (x.1 * 5 + 1 + x.2 / 32) (show 0 < mask + 1 by omega); omega)
theorem bits_lt (h : Int) : bits h < 2 ^ 64 := by
  unfold bits
  have h1 := Int.emod_nonneg h (b := 2 ^ 64) (by decide)
  have h2 := Int.emod_lt_of_pos h (b := 2 ^ 64) (by decide)
  omega
def orbit (mask : Nat) : Nat → Nat → Nat
  | 0, i => i
  | k + 1, i => orbit mask k ((i * 5 + 1) % (mask + 1))
theorem lv_orbit (mask : Nat) : ∀ (k i : Nat), lv mask k (i, 0) = (orbit mask k i, 0)
  | 0, i => rfl
  | k + 1, i => by
    show lv mask k ((i * 5 + 1 + 0 / 32) % (mask + 1), 0 / 32) = _
    simp only [Nat.zero_div, Nat.add_zero]
    exact lv_orbit mask k _
/-- the places of a table of this size are all met -/
def Cyc (mask : Nat) : Prop := ∀ i, i ≤ mask → ∀ j, j ≤ mask → ∃ k, k ≤ mask ∧ orbit mask k i = j
def cycB (mask : Nat) : Bool := (List.range (mask + 1)).all fun i => (List.range (mask + 1)).all fun j => (List.range (mask + 1)).any fun k => orbit mask k i == j
theorem cyc_of {mask : Nat} (h : cycB mask = true) : Cyc mask := by
  intro i hi j hj
  unfold cycB at h
  rw [List.all_eq_true] at h
  have h1 := h i (List.mem_range.mpr (by omega))
  rw [List.all_eq_true] at h1
  have h2 := h1 j (List.mem_range.mpr (by omega))
  rw [List.any_eq_true] at h2
  obtain ⟨k, hk, e⟩ := h2
  exact ⟨k, by have := List.mem_range.mp hk; omega, by simpa using e⟩
theorem cyc7 : Cyc 7 := cyc_of (by decide +kernel)
theorem cyc31 : Cyc 31 := cyc_of (by decide +kernel)
theorem cover {mask : Nat} (c : Cyc mask) (h : Int) {j : Nat} (hj : j ≤ mask) : ∃ n, n < 10 * turns mask ∧ pos mask h n = j := by
  have h0 : (lv mask 13 (bits h % (mask + 1), bits h)).2 = 0 := by
    rw [lv_perturb]
    have := bits_lt h
    exact Nat.div_eq_of_lt (by have e : (32 : Nat) ^ 13 = 36893488147419103232 := by decide
                               rw [e]; show bits h < _; omega)
  have h1 : (lv mask 13 (bits h % (mask + 1), bits h)).1 ≤ mask := lv_lt mask _ _ (by have := Nat.mod_lt (bits h) (show 0 < mask + 1 by omega); show bits h % (mask + 1) ≤ mask; omega)
  obtain ⟨k, hk, e⟩ := c _ h1 j hj
  obtain ⟨n, hn, en⟩ := lv_steps mask (13 + k) (bits h % (mask + 1), bits h)
  refine ⟨n, by unfold turns; omega, ?_⟩
  unfold pos st
  rw [en, lv_add]
  have ex : lv mask 13 (bits h % (mask + 1), bits h) = ((lv mask 13 (bits h % (mask + 1), bits h)).1, 0) := by rw [← h0]
  rw [ex, lv_orbit]
  exact e
/-! places lie in the table -/
def InT (mask : Nat) (p : Probe) : Prop := p.j + p.more ≤ mask
theorem runEnd_le {mask i : Nat} (h : i ≤ mask) : runEnd mask i ≤ mask ∧ i ≤ runEnd mask i := by unfold runEnd; split <;> omega
theorem inT_adv {mask : Nat} {p : Probe} (h : InT mask p) : InT mask (adv mask p) := by
  unfold adv InT at *
  split
  · show p.j + 1 + (p.more - 1) ≤ mask; omega
  · have hl : (leap mask p.i p.perturb).1 ≤ mask := by
      show (p.i * 5 + 1 + p.perturb / 32) % (mask + 1) ≤ mask
      have := Nat.mod_lt (p.i * 5 + 1 + p.perturb / 32) (show 0 < mask + 1 by omega)
      omega
    have := runEnd_le hl
    show (leap mask p.i p.perturb).1 + (runEnd mask (leap mask p.i p.perturb).1 - (leap mask p.i p.perturb).1) ≤ mask
    omega
theorem inT_nth {mask : Nat} : ∀ (n : Nat) {p : Probe}, InT mask p → InT mask (nth mask p n)
  | 0, _, h => h
  | n + 1, _, h => inT_nth n (inT_adv h)
theorem inT_lv {mask : Nat} {x : Nat × Nat} (h : x.1 ≤ mask) : InT mask (lvP mask x) := by
  have := runEnd_le h
  show x.1 + (runEnd mask x.1 - x.1) ≤ mask
  omega
theorem pos_le (mask : Nat) (h : Int) (n : Nat) : pos mask h n ≤ mask := by
  have : InT mask (nth mask (st mask h) n) := inT_nth n (inT_lv (by have := Nat.mod_lt (bits h) (show 0 < mask + 1 by omega); show bits h % (mask + 1) ≤ mask; omega))
  unfold InT at this
  unfold pos
  omega
/-- the first of those that have it -/
theorem first_of (E : Nat → Prop) : ∀ N, E N → ∃ n, n ≤ N ∧ E n ∧ ∀ m, m < n → ¬ E m
  | N, h => by
    induction N using Nat.strongRecOn with
    | _ N ih =>
      by_cases z : ∃ m, m < N ∧ E m
      · obtain ⟨m, hm, e⟩ := z
        obtain ⟨n, hn, e', no⟩ := ih m hm e
        exact ⟨n, by omega, e', no⟩
      · exact ⟨N, Nat.le_refl _, h, fun m hm e => z ⟨m, hm, e⟩⟩
/-! the search in a table without dummies -/
theorem dummy_nth (mask : Nat) : ∀ (n : Nat) (p : Probe), (nth mask p n).dummy = p.dummy
  | 0, _ => rfl
  | n + 1, p => by
    show (nth mask (adv mask p) n).dummy = _
    rw [dummy_nth mask n]
    unfold adv
    split <;> rfl
theorem go_empty (t : SetTable) (ha : Nat → Int) (h : Int) : ∀ (n : Nat) (p : Probe) (fuel : Nat), n < fuel →
    (∀ m, m < n → ∃ i, t.slot (nth t.mask p m).j = .live i ∧ (ha i == h) = false) → t.slot (nth t.mask p n).j = .empty →
    probe.go t ha h fuel p = some (.empty (nth t.mask p n).j p.dummy)
  | 0, p, fuel + 1, _, _, e => by
    have e' : t.slot p.j = .empty := e
    unfold probe.go
    rw [e']; rfl
  | n + 1, p, fuel + 1, hf, hl, e => by
    obtain ⟨i, h1, h2⟩ := hl 0 (by omega)
    have h1' : t.slot p.j = .live i := h1
    unfold probe.go
    rw [h1']
    simp only [h2, Bool.false_eq_true, if_false, advance_eq]
    rw [go_empty t ha h n (adv t.mask p) fuel (by omega) (fun m hm => hl (m + 1) (by omega)) e]
    congr 2
    exact dummy_nth t.mask 1 p
theorem go_cand (t : SetTable) (ha : Nat → Int) (h : Int) (i : Nat) : ∀ (n : Nat) (p : Probe) (fuel : Nat), n < fuel →
    (∀ m, m < n → ∃ i, t.slot (nth t.mask p m).j = .live i ∧ (ha i == h) = false) → t.slot (nth t.mask p n).j = .live i → (ha i == h) = true →
    probe.go t ha h fuel p = some (.candidate (nth t.mask p n).j i (nth t.mask p (n + 1)))
  | 0, p, fuel + 1, _, _, e, hh => by
    have e' : t.slot p.j = .live i := e
    unfold probe.go
    rw [e']
    simp only [hh, if_true, advance_eq]
    rfl
  | n + 1, p, fuel + 1, hf, hl, e, hh => by
    obtain ⟨i', h1, h2⟩ := hl 0 (by omega)
    have h1' : t.slot p.j = .live i' := h1
    unfold probe.go
    rw [h1']
    simp only [h2, Bool.false_eq_true, if_false, advance_eq]
    rw [go_cand t ha h i n (adv t.mask p) fuel (by omega) (fun m hm => hl (m + 1) (by omega)) e hh]
    rfl
end TB

set_option linter.all false
namespace TB
open PySem PySem.SetTable
/-! the place in a rising array -/
theorem below_go (xs : Array Nat) (j : Nat) (hs : ∀ a b, a < b → b < xs.size → xs.getD a 0 < xs.getD b 0) : ∀ (fuel lo hi : Nat), hi - lo ≤ fuel → lo ≤ hi → hi ≤ xs.size →
    (∀ k, k < lo → xs.getD k 0 < j) → (∀ k, hi ≤ k → k < xs.size → j ≤ xs.getD k 0) →
    below.go xs j fuel lo hi ≤ xs.size ∧ (∀ k, k < below.go xs j fuel lo hi → xs.getD k 0 < j) ∧ (∀ k, below.go xs j fuel lo hi ≤ k → k < xs.size → j ≤ xs.getD k 0)
  | 0, lo, hi, hf, hl, hh, h1, h2 => by
    have e : lo = hi := by omega
    subst e
    exact ⟨hh, h1, h2⟩
  | fuel + 1, lo, hi, hf, hl, hh, h1, h2 => by
    unfold below.go
    by_cases hlt : lo < hi
    · rw [if_pos hlt]
      have hm : (lo + hi) / 2 < hi := by omega
      have hm2 : lo ≤ (lo + hi) / 2 := by omega
      have eg : xs.getD ((lo + hi) / 2) j = xs.getD ((lo + hi) / 2) 0 := by
        rw [Array.getD_eq_getD_getElem?, Array.getD_eq_getD_getElem?, Array.getElem?_eq_getElem (by omega)]; rfl
      simp only [eg]
      split
      · rename_i hc
        refine below_go xs j hs fuel _ hi (by omega) (by omega) hh (fun k hk => ?_) h2
        by_cases e : k = (lo + hi) / 2
        · rw [e]; exact hc
        · have := hs k ((lo + hi) / 2) (by omega) (by omega); omega
      · rename_i hc
        refine below_go xs j hs fuel lo _ (by omega) (by omega) (by omega) h1 (fun k hk hk2 => ?_)
        by_cases e : k = (lo + hi) / 2
        · rw [e]; omega
        · have := hs ((lo + hi) / 2) k (by omega) hk2; omega
    · rw [if_neg hlt]
      have e : lo = hi := by omega
      subst e
      exact ⟨hh, h1, h2⟩
/-- the places, rising -/
def Up (l : List Nat) : Prop := l.Pairwise (· < ·)
theorem up_get {l : List Nat} (h : Up l) {a b : Nat} (hab : a < b) (hb : b < l.length) : l.toArray.getD a 0 < l.toArray.getD b 0 := by
  unfold Up at h
  have := List.pairwise_iff_getElem.mp h a b (by omega) hb hab
  simp [Array.getD_eq_getD_getElem?, show a < l.length by omega, hb]
  exact this
theorem below_spec {l : List Nat} (h : Up l) (j : Nat) : below l.toArray j ≤ l.length ∧ (∀ k (hk : k < l.length), k < below l.toArray j → l[k] < j) ∧ (∀ k (hk : k < l.length), below l.toArray j ≤ k → j ≤ l[k]) := by
  have := below_go l.toArray j (fun a b hab hb => up_get h hab (by simpa using hb)) l.toArray.size 0 l.toArray.size (by omega) (by omega) (Nat.le_refl _) (by intro k hk; omega) (by intro k hk hk2; omega)
  unfold below
  refine ⟨by simpa using this.1, fun k hk h1 => ?_, fun k hk h1 => ?_⟩
  · have := this.2.1 k h1
    simpa [Array.getD_eq_getD_getElem?, hk] using this
  · have := this.2.2 k h1 (by simpa using hk)
    simpa [Array.getD_eq_getD_getElem?, hk] using this
/-- a table of rising places and no dummies -/
structure Tb (t : SetTable) (l : List Nat) : Prop where
  pl : t.place = l.toArray
  nd : t.dummies = #[]
  up : Up l
  le : ∀ j ∈ l, j ≤ t.mask
theorem has_nil (j : Nat) : has #[] j = false := by
  unfold has; simp
theorem slot_in {t : SetTable} {l : List Nat} (T : Tb t l) {i j : Nat} (h : l[i]? = some j) : t.slot j = .live i := by
  obtain ⟨hi, e⟩ := List.getElem?_eq_some_iff.mp h
  obtain ⟨b1, b2, b3⟩ := below_spec T.up j
  have eb : below l.toArray j = i := by
    rcases Nat.lt_trichotomy (below l.toArray j) i with z | z | z
    · have := b3 (below l.toArray j) (by omega) (Nat.le_refl _)
      have := List.pairwise_iff_getElem.mp T.up (below l.toArray j) i (by omega) hi z
      omega
    · exact z
    · have := b2 i hi z; omega
  unfold SetTable.slot
  rw [T.pl, eb]
  simp [h]
theorem slot_out {t : SetTable} {l : List Nat} (T : Tb t l) {j : Nat} (h : j ∉ l) : t.slot j = .empty := by
  unfold SetTable.slot
  rw [T.pl, T.nd, has_nil]
  have : ¬ (l.toArray[below l.toArray j]? == some j) = true := by
    intro z
    have z' : l[below l.toArray j]? = some j := by simpa using z
    exact h (List.mem_of_getElem? z')
  simp only [this, Bool.false_eq_true, if_false]
theorem slot_nd {t : SetTable} {l : List Nat} (T : Tb t l) (j : Nat) : (∃ i, t.slot j = .live i ∧ l[i]? = some j) ∨ (t.slot j = .empty ∧ j ∉ l) := by
  by_cases h : j ∈ l
  · obtain ⟨i, hi, e⟩ := List.mem_iff_getElem.mp h
    have : l[i]? = some j := by rw [List.getElem?_eq_getElem hi, e]
    exact .inl ⟨i, slot_in T this, this⟩
  · exact .inr ⟨slot_out T h, h⟩
/-- put into the place j that is free -/
theorem up_insert {l : List Nat} (h : Up l) {j : Nat} (hj : j ∉ l) : Up (l.take (below l.toArray j) ++ j :: l.drop (below l.toArray j)) := by
  obtain ⟨b1, b2, b3⟩ := below_spec h j
  unfold Up
  rw [List.pairwise_append, List.pairwise_cons]
  have hsub1 : (l.take (below l.toArray j)).Pairwise (· < ·) := List.Pairwise.sublist (List.take_sublist _ _) h
  have hsub2 : (l.drop (below l.toArray j)).Pairwise (· < ·) := List.Pairwise.sublist (List.drop_sublist _ _) h
  have h1 : ∀ a ∈ l.take (below l.toArray j), a < j := by
    intro a ha
    obtain ⟨k, hk, e⟩ := List.mem_iff_getElem.mp ha
    rw [List.length_take] at hk
    rw [List.getElem_take] at e
    rw [← e]
    exact b2 k (by omega) (by omega)
  have h2 : ∀ a ∈ l.drop (below l.toArray j), j < a := by
    intro a ha
    have hne : a ≠ j := fun e => hj (e ▸ List.mem_of_mem_drop ha)
    obtain ⟨k, hk, e⟩ := List.mem_iff_getElem.mp ha
    rw [List.length_drop] at hk
    rw [List.getElem_drop] at e
    have := b3 (below l.toArray j + k) (by omega) (by omega)
    omega
  refine ⟨hsub1, ⟨h2, hsub2⟩, fun a ha b hb => ?_⟩
  rcases List.mem_cons.mp hb with rfl | hb
  · exact h1 a ha
  · have := h1 a ha; have := h2 b hb; omega
theorem tb_put {t : SetTable} {l : List Nat} (T : Tb t l) {j : Nat} (hj : j ∉ l) (hm : j ≤ t.mask) : Tb (t.put j).1 (l.take (below l.toArray j) ++ j :: l.drop (below l.toArray j)) ∧ (t.put j).2 = below l.toArray j ∧ (t.put j).1.mask = t.mask := by
  refine ⟨⟨?_, ?_, up_insert T.up hj, ?_⟩, ?_, rfl⟩
  · show insertAt t.place (below t.place j) j = _
    rw [T.pl]
    apply Array.toList_inj.mp
    rw [SetTable.toList_insertAt]
  · show (if has t.dummies j = true then _ else t.dummies) = #[]
    rw [T.nd, has_nil]; rfl
  · intro a ha
    rcases List.mem_append.mp ha with h | h
    · exact T.le a (List.mem_of_mem_take h)
    · rcases List.mem_cons.mp h with rfl | h
      · exact hm
      · exact T.le a (List.mem_of_mem_drop h)
  · show below t.place j = _
    rw [T.pl]
/-- each entry is met on its way, ahead of all free places: the entries as pairs of a place and a hash -/
def Paths (mask : Nat) (zs : List (Nat × Int)) : Prop := ∀ z ∈ zs, ∃ n, pos mask z.2 n = z.1 ∧ ∀ m, m < n → pos mask z.2 m ∈ zs.map (·.1)
theorem Paths.nil (mask : Nat) : Paths mask [] := by intro z hz; simp at hz
theorem Paths.mono {mask : Nat} {zs ys : List (Nat × Int)} (h : Paths mask zs) (new : Nat × Int) (hm : ∀ z ∈ ys, z ∈ zs ∨ z = new) (hs : ∀ z ∈ zs, z ∈ ys)
    (hn : ∃ n, pos mask new.2 n = new.1 ∧ ∀ m, m < n → pos mask new.2 m ∈ zs.map (·.1)) : Paths mask ys := by
  intro z hz
  have up : ∀ j, j ∈ zs.map (·.1) → j ∈ ys.map (·.1) := fun j hj => by
    obtain ⟨y, hy, e⟩ := List.mem_map.mp hj
    exact List.mem_map.mpr ⟨y, hs y hy, e⟩
  rcases hm z hz with h1 | h1
  · obtain ⟨n, e, p⟩ := h z h1
    exact ⟨n, e, fun m hm => up _ (p m hm)⟩
  · subst h1
    obtain ⟨n, e, p⟩ := hn
    exact ⟨n, e, fun m hm => up _ (p m hm)⟩
end TB

set_option linter.all false
namespace TB
open PySem PySem.SetTable
/-! a table laid anew -/
def emp (owner : Array (Option Nat)) (j : Nat) : Bool := (owner.getD j (some 0)).isNone
theorem free_spec (mask : Nat) (owner : Array (Option Nat)) : ∀ (fuel : Nat) (x : Nat × Nat), x.1 ≤ mask → (∃ k, k < fuel ∧ emp owner (lv mask k x).1 = true) →
    ∃ j n, layClean.free mask owner fuel x.1 x.2 = some j ∧ (nth mask (lvP mask x) n).j = j ∧ emp owner j = true ∧ ∀ m, m < n → emp owner (nth mask (lvP mask x) m).j = false
  | 0, x, _, h => by obtain ⟨k, hk, _⟩ := h; omega
  | fuel + 1, x, hx, h => by
    unfold layClean.free
    have hr := runEnd_le hx
    have hpart : ∀ m, m ≤ runEnd mask x.1 - x.1 → (nth mask (lvP mask x) m).j = x.1 + m := fun m hm => by
      rw [run_part mask m (lvP mask x) hm]; rfl
    cases e : (List.range (runEnd mask x.1 + 1 - x.1)).find? (fun k => (owner.getD (x.1 + k) (some 0)).isNone) with
    | some k =>
      rw [List.find?_range_eq_some] at e
      obtain ⟨e1, e2, e3⟩ := e
      have hk : k ≤ runEnd mask x.1 - x.1 := by have := List.mem_range.mp e2; omega
      refine ⟨x.1 + k, k, rfl, hpart k hk, e1, fun m hm => ?_⟩
      rw [hpart m (by omega)]
      have := e3 m hm
      simpa [emp] using this
    | none =>
      rw [List.find?_range_eq_none] at e
      obtain ⟨k, hk, h1⟩ := h
      have hk0 : k ≠ 0 := by
        rintro rfl
        have := e 0 (by omega)
        have h1' : (owner.getD x.1 (some 0)).isNone = true := h1
        rw [Nat.add_zero, h1'] at this
        simp at this
      obtain ⟨k', rfl⟩ : ∃ k', k = k' + 1 := ⟨k - 1, by omega⟩
      have hl : (leap mask x.1 x.2).1 ≤ mask := lv_lt mask 1 x hx
      obtain ⟨j, n, f1, f2, f3, f4⟩ := free_spec mask owner fuel (leap mask x.1 x.2) hl ⟨k', by omega, h1⟩
      refine ⟨j, (runEnd mask x.1 - x.1 + 1) + n, f1, ?_, f3, fun m hm => ?_⟩
      · rw [nth_add, leap_steps]; exact f2
      · by_cases hm2 : m ≤ runEnd mask x.1 - x.1
        · rw [hpart m hm2]
          have := e m (by omega)
          simpa [emp] using this
        · obtain ⟨m', rfl⟩ : ∃ m', m = (runEnd mask x.1 - x.1 + 1) + m' := ⟨m - (runEnd mask x.1 - x.1 + 1), by omega⟩
          rw [nth_add, leap_steps]
          exact f4 m' (by omega)
theorem free_ok {mask : Nat} (c : Cyc mask) (owner : Array (Option Nat)) (h : Int) {j₀ : Nat} (hj : j₀ ≤ mask) (he : emp owner j₀ = true) :
    ∃ j n, layClean.free mask owner (turns mask) (bits h % (mask + 1)) (bits h) = some j ∧ pos mask h n = j ∧ emp owner j = true ∧ ∀ m, m < n → emp owner (pos mask h m) = false := by
  have h0 : (lv mask 13 (bits h % (mask + 1), bits h)).2 = 0 := by
    rw [lv_perturb]
    have := bits_lt h
    exact Nat.div_eq_of_lt (by have e : (32 : Nat) ^ 13 = 36893488147419103232 := by decide
                               rw [e]; show bits h < _; omega)
  have hx : bits h % (mask + 1) ≤ mask := by have := Nat.mod_lt (bits h) (show 0 < mask + 1 by omega); omega
  have h1 : (lv mask 13 (bits h % (mask + 1), bits h)).1 ≤ mask := lv_lt mask _ _ hx
  obtain ⟨k, hk, e⟩ := c _ h1 j₀ hj
  refine free_spec mask owner (turns mask) (bits h % (mask + 1), bits h) hx ⟨13 + k, by unfold turns; omega, ?_⟩
  rw [lv_add]
  have ex : lv mask 13 (bits h % (mask + 1), bits h) = ((lv mask 13 (bits h % (mask + 1), bits h)).1, 0) := by rw [← h0]
  rw [ex, lv_orbit, e]
  exact he
def live (mask : Nat) (owner : Array (Option Nat)) : List (Nat × Nat) := (List.range (mask + 1)).filterMap fun j => (owner.getD j none).map (j, ·)
theorem filterMap_same {α β : Type} {f g : α → Option β} : ∀ {l : List α}, (∀ x ∈ l, g x = f x) → l.filterMap g = l.filterMap f
  | [], _ => rfl
  | x :: l, h => by
    have ih := filterMap_same (l := l) fun y hy => h y (List.mem_cons_of_mem _ hy)
    have hx := h x List.mem_cons_self
    cases e : f x with
    | none => rw [List.filterMap_cons_none e, List.filterMap_cons_none (hx.trans e), ih]
    | some b => rw [List.filterMap_cons_some e, List.filterMap_cons_some (hx.trans e), ih]
theorem filterMap_put {α β : Type} (f g : α → Option β) (a : α) (v : β) (hf : f a = none) (hg : g a = some v) (hne : ∀ x, x ≠ a → g x = f x) : ∀ (l : List α), l.Nodup → a ∈ l →
    (l.filterMap g).Perm (v :: l.filterMap f)
  | [], _, h => by simp at h
  | x :: l, hn, h => by
    obtain ⟨h1, h2⟩ := List.nodup_cons.mp hn
    by_cases e : x = a
    · subst e
      rw [List.filterMap_cons_some hg, List.filterMap_cons_none hf]
      have : l.filterMap g = l.filterMap f := filterMap_same fun y hy => hne y (fun e => h1 (e ▸ hy))
      rw [this]
    · have ha : a ∈ l := by
        rcases List.mem_cons.mp h with z | z
        · exact absurd z.symm e
        · exact z
      have ih := filterMap_put f g a v hf hg hne l h2 ha
      cases ef : f x with
      | none =>
        rw [List.filterMap_cons_none ef, List.filterMap_cons_none (by rw [hne x e, ef])]
        exact ih
      | some b =>
        rw [List.filterMap_cons_some ef, List.filterMap_cons_some (by rw [hne x e, ef])]
        exact (ih.cons b).trans (List.Perm.swap _ _ _)
structure Lay (mask : Nat) (owner : Array (Option Nat)) (hs : List Int) : Prop where
  size : owner.size = mask + 1
  perm : ((live mask owner).map (·.2)).Perm (List.range hs.length)
  path : ∀ j i, owner.getD j none = some i → ∃ h, hs[i]? = some h ∧ ∃ n, pos mask h n = j ∧ ∀ m, m < n → emp owner (pos mask h m) = false
theorem emp_iff {mask : Nat} {owner : Array (Option Nat)} (hs : owner.size = mask + 1) {j : Nat} (hj : j ≤ mask) : emp owner j = (owner.getD j none).isNone := by
  unfold emp
  rw [Array.getD_eq_getD_getElem?, Array.getD_eq_getD_getElem?, Array.getElem?_eq_getElem (by omega)]
  rfl
theorem lay_nil (mask : Nat) : Lay mask (Array.replicate (mask + 1) none) [] := by
  have e : ∀ j, (Array.replicate (mask + 1) (none : Option Nat)).getD j none = none := fun j => by
    rw [Array.getD_eq_getD_getElem?, Array.getElem?_replicate]
    split <;> rfl
  refine ⟨by simp, ?_, fun j i h => ?_⟩
  · have : live mask (Array.replicate (mask + 1) none) = [] := by
      unfold live
      rw [List.filterMap_eq_nil_iff]
      intro j _
      rw [e]; rfl
    rw [this]; simp
  · rw [e] at h; cases h
theorem lay_room {mask : Nat} {owner : Array (Option Nat)} {hs : List Int} (L : Lay mask owner hs) (hl : hs.length ≤ mask) : ∃ j, j ≤ mask ∧ emp owner j = true := by
  by_cases h : ∃ j, j ≤ mask ∧ emp owner j = true
  · exact h
  · exfalso
    have all : ∀ j, j ≤ mask → ∃ i, owner.getD j none = some i := fun j hj => by
      cases e : owner.getD j none with
      | some i => exact ⟨i, rfl⟩
      | none => exact (h ⟨j, hj, by rw [emp_iff L.size hj, e]; rfl⟩).elim
    have len : (live mask owner).length = mask + 1 := by
      have key : ∀ l : List Nat, (∀ j ∈ l, j ≤ mask) → (l.filterMap fun j => (owner.getD j none).map (j, ·)).length = l.length := by
        intro l
        induction l with
        | nil => intro _; rfl
        | cons x l ih =>
          intro hl
          obtain ⟨i, e⟩ := all x (hl x (by simp))
          rw [List.filterMap_cons_some (by rw [e]; rfl), List.length_cons, List.length_cons, ih fun j hj => hl j (by simp [hj])]
      unfold live
      rw [key _ (fun j hj => by have := List.mem_range.mp hj; omega), List.length_range]
    have := L.perm.length_eq
    rw [List.length_map, List.length_range, len] at this
    omega
theorem getD_set {owner : Array (Option Nat)} {j k : Nat} {v : Option Nat} (hj : j < owner.size) : (owner.setIfInBounds j v).getD k none = if k = j then v else owner.getD k none := by
  rw [Array.getD_eq_getD_getElem?, Array.getD_eq_getD_getElem?, Array.getElem?_setIfInBounds]
  by_cases e : j = k
  · subst e; simp [hj]
  · rw [if_neg e, if_neg (fun z => e z.symm)]
theorem emp_set {mask : Nat} {owner : Array (Option Nat)} {j k i : Nat} (hs : owner.size = mask + 1) (hj : j ≤ mask) (hk : k ≤ mask) (h : emp owner k = false) : emp (owner.setIfInBounds j (some i)) k = false := by
  rw [emp_iff (by simpa using hs) hk, getD_set (by omega)]
  rw [emp_iff hs hk] at h
  split
  · rfl
  · exact h
theorem lay_turn {mask : Nat} (c : Cyc mask) {owner : Array (Option Nat)} {hs : List Int} (L : Lay mask owner hs) (hl : hs.length ≤ mask) (h : Int) :
    ∃ j, layClean.free mask owner (turns mask) (bits h % (mask + 1)) (bits h) = some j ∧ Lay mask (owner.setIfInBounds j (some hs.length)) (hs ++ [h]) := by
  obtain ⟨j₀, hj₀, e₀⟩ := lay_room L hl
  obtain ⟨j, n, e1, e2, e3, e4⟩ := free_ok c owner h hj₀ e₀
  have hj : j ≤ mask := by rw [← e2]; exact pos_le mask h n
  have hjn : owner.getD j none = none := by
    rw [emp_iff L.size hj] at e3
    exact Option.isNone_iff_eq_none.mp e3
  refine ⟨j, e1, by simpa using L.size, ?_, fun k i hk => ?_⟩
  · have p := filterMap_put (fun k => (owner.getD k none).map (k, ·)) (fun k => ((owner.setIfInBounds j (some hs.length)).getD k none).map (k, ·)) j (j, hs.length) (by simp [hjn])
      (by show ((owner.setIfInBounds j (some hs.length)).getD j none).map (j, ·) = _; rw [getD_set (by rw [L.size]; omega), if_pos rfl]; rfl) (fun x hx => by show ((owner.setIfInBounds j (some hs.length)).getD x none).map (x, ·) = (owner.getD x none).map (x, ·); rw [getD_set (by rw [L.size]; omega), if_neg hx]) (List.range (mask + 1)) List.nodup_range (List.mem_range.mpr (by omega))
    have p2 : ((live mask (owner.setIfInBounds j (some hs.length))).map (·.2)).Perm (hs.length :: (live mask owner).map (·.2)) := p.map (·.2)
    rw [List.length_append, List.length_singleton, List.range_succ]
    exact p2.trans ((L.perm.cons _).trans (List.perm_append_singleton _ _).symm)
  · rw [getD_set (by rw [L.size]; omega)] at hk
    by_cases e : k = j
    · subst e
      rw [if_pos rfl] at hk
      cases hk
      exact ⟨h, by simp, n, e2, fun m hm => emp_set L.size hj (pos_le _ _ _) (e4 m hm)⟩
    · rw [if_neg e] at hk
      obtain ⟨h', a1, n', a2, a3⟩ := L.path k i hk
      have hi : i < hs.length := (List.getElem?_eq_some_iff.mp a1).1
      exact ⟨h', by rw [List.getElem?_append_left hi]; exact a1, n', a2, fun m hm => emp_set L.size hj (pos_le _ _ _) (a3 m hm)⟩
theorem layClean_ok {mask : Nat} (c : Cyc mask) (hashes : Array Int) (hl : hashes.size ≤ mask + 1) : ∃ owner, layClean mask hashes = some owner ∧ Lay mask owner hashes.toList := by
  have key : ∀ (r hs : List Int) (owner : Array (Option Nat)), Lay mask owner hs → hs.length + r.length ≤ mask + 1 →
      ∃ owner', r.foldl (fun acc h => do
        let (owner, k) ← acc
        let j ← layClean.free mask owner (turns mask) (bits h % (mask + 1)) (bits h)
        pure (owner.setIfInBounds j (some k), k + 1)) (some (owner, hs.length)) = some (owner', hs.length + r.length) ∧ Lay mask owner' (hs ++ r) := by
    intro r
    induction r with
    | nil => intro hs owner L _; exact ⟨owner, rfl, by simpa using L⟩
    | cons h r ih =>
      intro hs owner L hle
      rw [List.length_cons] at hle
      obtain ⟨j, e, L'⟩ := lay_turn c L (by omega) h
      obtain ⟨owner', e', L''⟩ := ih (hs ++ [h]) _ L' (by rw [List.length_append, List.length_singleton]; omega)
      refine ⟨owner', ?_, by rw [List.append_assoc] at L''; exact L''⟩
      rw [List.foldl_cons]
      have eb : (do
        let (owner, k) ← some (owner, hs.length)
        let j ← layClean.free mask owner (turns mask) (bits h % (mask + 1)) (bits h)
        pure (owner.setIfInBounds j (some k), k + 1)) = some (owner.setIfInBounds j (some hs.length), hs.length + 1) := by
        show (layClean.free mask owner (turns mask) (bits h % (mask + 1)) (bits h)).bind _ = _
        rw [e]; rfl
      rw [eb]
      rw [List.length_append, List.length_singleton] at e'
      rw [e', List.length_cons]
      congr 2
      omega
  obtain ⟨owner', e, L⟩ := key hashes.toList [] _ (lay_nil mask) (by simpa using hl)
  refine ⟨owner', ?_, by simpa using L⟩
  unfold layClean
  rw [← Array.foldl_toList]
  have e2 : (0 : Nat) = ([] : List Int).length := rfl
  rw [e2, e]
  rfl
/-- the new table: its places, and which entry stands at each -/
theorem relaid_ok {t : SetTable} {hashes : Array Int} {wanted : Nat} (c : Cyc (sizeAbove wanted - 1)) (hl : hashes.size ≤ sizeAbove wanted - 1 + 1) :
    ∃ (t' : SetTable) (zs : List (Nat × Nat)), t.relaid hashes wanted = some (t', (zs.map (·.2)).toArray) ∧ t'.mask = sizeAbove wanted - 1 ∧ t'.led = t.led ∧ t'.plain = t.plain ∧
      Tb t' (zs.map (·.1)) ∧ (zs.map (·.2)).Perm (List.range hashes.size) ∧ Paths t'.mask (zs.map fun z => (z.1, hashes.getD z.2 0)) := by
  obtain ⟨owner, e, L⟩ := layClean_ok c hashes hl
  refine ⟨{ mask := sizeAbove wanted - 1, place := ((live (sizeAbove wanted - 1) owner).map (·.1)).toArray, dummies := #[], finger := t.finger, led := t.led, moves := t.movedTo (sizeAbove wanted - 1), plain := t.plain }, live (sizeAbove wanted - 1) owner, ?_, rfl, rfl, rfl, ⟨rfl, rfl, ?_, ?_⟩, ?_, ?_⟩
  · unfold relaid laid
    rw [e]; rfl
  · unfold Up live
    rw [List.map_filterMap]
    have e1 : ((List.range (sizeAbove wanted - 1 + 1)).filterMap fun j => ((owner.getD j none).map (j, ·)).map (·.1)) = (List.range (sizeAbove wanted - 1 + 1)).filter fun j => (owner.getD j none).isSome := by
      generalize List.range (sizeAbove wanted - 1 + 1) = l
      induction l with
      | nil => rfl
      | cons x l ih =>
        cases ex : owner.getD x none with
        | none => rw [List.filterMap_cons_none (by rw [ex]; rfl), List.filter_cons_of_neg (by simp [ex])]; exact ih
        | some i => rw [List.filterMap_cons_some (b := x) (by rw [ex]; rfl), List.filter_cons_of_pos (by simp [ex]), ih]
    rw [e1]
    exact List.Pairwise.sublist List.filter_sublist List.pairwise_lt_range
  · intro j hj
    obtain ⟨z, hz, rfl⟩ := List.mem_map.mp hj
    unfold live at hz
    obtain ⟨k, hk, e1⟩ := List.mem_filterMap.mp hz
    cases ex : owner.getD k none with
    | none => rw [ex] at e1; cases e1
    | some i =>
      rw [ex] at e1
      have e2 : (k, i) = z := Option.some.inj e1
      subst e2
      have := List.mem_range.mp hk
      show k ≤ sizeAbove wanted - 1
      omega
  · have := L.perm
    rw [Array.length_toList] at this
    exact this
  · intro y hy
    obtain ⟨z, hz, rfl⟩ := List.mem_map.mp hy
    have key : ∀ z : Nat × Nat, z ∈ live (sizeAbove wanted - 1) owner ↔ z.1 ≤ sizeAbove wanted - 1 ∧ owner.getD z.1 none = some z.2 := by
      intro z
      unfold live
      rw [List.mem_filterMap]
      constructor
      · rintro ⟨k, hk, e1⟩
        cases ex : owner.getD k none with
        | none => rw [ex] at e1; cases e1
        | some i =>
          rw [ex] at e1
          have e2 : (k, i) = z := Option.some.inj e1
          subst e2
          have := List.mem_range.mp hk
          exact ⟨by omega, ex⟩
      · rintro ⟨h1, h2⟩
        exact ⟨z.1, List.mem_range.mpr (by omega), by rw [h2]; rfl⟩
    obtain ⟨z1, z2⟩ := (key z).mp hz
    obtain ⟨h, a1, n, a2, a3⟩ := L.path _ _ z2
    have eh : hashes.getD z.2 0 = h := by
      have a1' : hashes[z.2]? = some h := by simpa using a1
      rw [Array.getD_eq_getD_getElem?, a1']; rfl
    refine ⟨n, by rw [eh]; exact a2, fun m hm => ?_⟩
    have := a3 m hm
    have hle := pos_le (sizeAbove wanted - 1) h m
    rw [emp_iff L.size hle] at this
    cases ex : owner.getD (pos (sizeAbove wanted - 1) h m) none with
    | none => rw [ex] at this; cases this
    | some i =>
      rw [List.map_map]
      show pos (sizeAbove wanted - 1) (hashes.getD z.2 0) m ∈ _
      rw [eh]
      exact List.mem_map.mpr ⟨(pos (sizeAbove wanted - 1) h m, i), (key _).mpr ⟨hle, ex⟩, rfl⟩
end TB

set_option linter.all false
namespace TB
open PySem PySem.SetTable
section
variable {prog : Program} {w : World} {K : Type} [DecidableEq K] {knd : KeyKind prog w K} {A : Around} {E : Value → Shared → Prop} {s : Shared}
/-! looks at a tuple of plain values -/
theorem ofClass_byValue (n : Nat) {v : Value} (h : carriedByValue v = true) : ofAClassStatement n v = pure false := by
  cases v with
  | ref a => simp [carriedByValue] at h
  | _ => cases n <;> rfl
theorem ofClass_tuple {ks : List K} {a : Addr} {Q : Bool → Shared → Prop} (hk : IsTupleKey knd s.heap ks a) (h : Q false s) : wpAny (model prog w) A (ofAClassStatement 8 (.ref a)) Q E s := by
  have hT := hk.typeIs
  obtain ⟨o, items, n, ho, _, hd, hi⟩ := hk
  unfold ofAClassStatement
  refine wpAny_bind (wpAny_typeOf hT ?_)
  dsimp only
  rw [if_pos (by decide)]
  refine wpAny_bind (wpAny_pure ?_)
  simp only [Bool.not_true, Bool.false_eq_true, if_false]
  refine wpAny_bind (wpAny_seqItems ho hd ?_)
  dsimp only
  refine wpAny_bind ?_
  rw [← Array.forIn_toList]
  refine wpAny_forIn_list _ (fun rest r s' => r.1 = none ∧ s' = s ∧ ∀ v ∈ rest, carriedByValue v = true) _ ?_ ?_ _ _ ⟨rfl, rfl, hi.byValue⟩
  · rintro v rest r s' ⟨hr, rfl, hall⟩
    rw [ofClass_byValue _ (hall v List.mem_cons_self)]
    refine wpAny_bind (wpAny_pure ?_)
    simp only [Bool.false_eq_true, if_false]
    exact wpAny_pure ⟨rfl, rfl, fun u hu' => hall u (List.mem_cons_of_mem _ hu')⟩
  · rintro ⟨r1, r2⟩ s' ⟨hr, rfl, _⟩
    simp only at hr
    subst hr
    exact wpAny_pure h
theorem hashByValue_byValue (n : Nat) {k : K} {v : Value} (h : carriedByValue v = true) (hs : ∃ b, hashByValue n v = pure b) : ∃ b, hashByValue n v = pure b := hs
theorem hbv_scan (n : Nat) {x : Value} (hx : x.scannable = true) : ∃ b, hashByValue n x = pure b := ⟨_, hashByValue_scannable n hx⟩
theorem hbv_tuple {ks : List K} {a : Addr} {Q : Bool → Shared → Prop} (hk : IsTupleKey knd s.heap ks a) (hsc : ∀ k v, knd.is k v = true → v.scannable = true) (h : ∀ b, Q b s) : wpAny (model prog w) A (hashByValue 8 (.ref a)) Q E s := by
  have hT := hk.typeIs
  obtain ⟨o, items, n, ho, _, hd, hi⟩ := hk
  have hall : ∀ v ∈ items.toList, v.scannable = true := by
    generalize items.toList = l at hi
    induction hi with
    | nil => intro v hv; simp at hv
    | cons h1 _ ih =>
      intro v hv
      rcases List.mem_cons.mp hv with rfl | hv
      · exact hsc _ _ h1
      · exact ih v hv
  unfold hashByValue
  refine wpAny_bind (wpAny_specialOf hT F.slot_tuple_hash.lookup ?_)
  show wpAny _ _ (seqItems? (.ref a) >>= _) _ _ s
  refine wpAny_bind (wpAny_seqItems ho hd ?_)
  refine wpAny_bind ?_
  show wpAny _ _ (forIn items _ _) _ _ s
  rw [← Array.forIn_toList]
  refine wpAny_forIn_list _ (fun rest r s' => r.1 = none ∧ s' = s ∧ ∀ v ∈ rest, v.scannable = true) _ ?_ ?_ _ _ ⟨rfl, rfl, hall⟩
  · rintro v rest r s' ⟨hr, rfl, hall⟩
    obtain ⟨b, e⟩ := hbv_scan 7 (hall v List.mem_cons_self)
    rw [e]
    refine wpAny_bind (wpAny_pure ?_)
    cases b with
    | true =>
      simp only [Bool.not_true, Bool.false_eq_true, if_false]
      exact wpAny_pure ⟨rfl, rfl, fun u hu' => hall u (List.mem_cons_of_mem _ hu')⟩
    | false =>
      simp only [Bool.not_false, if_true]
      exact wpAny_pure (wpAny_pure (h false))
  · rintro ⟨r1, r2⟩ s' ⟨hr, rfl, _⟩
    simp only at hr
    subst hr
    exact wpAny_pure (h true)
theorem seen_no {k : List K} {b : Addr} (hb : IsTupleKey knd s.heap k b) (stored : List Value) (hs : ∀ v ∈ stored, ∃ k' b', v = .ref b' ∧ IsTupleKey knd s.heap k' b') {Q : Bool → Shared → Prop} (h : Q false s) :
    wpAny (model prog w) A (searchCouldBeSeen (.ref b) stored) Q E s := by
  unfold searchCouldBeSeen
  refine wpAny_bind ?_
  refine wpAny_forIn_list _ (fun rest r s' => r.1 = none ∧ s' = s ∧ ∀ v ∈ rest, ∃ k' b', v = .ref b' ∧ IsTupleKey knd s.heap k' b') _ ?_ ?_ _ _ ⟨rfl, rfl, hs⟩
  · rintro v rest r s' ⟨hr, rfl, hall⟩
    obtain ⟨k', b', rfl, hb'⟩ := hall v List.mem_cons_self
    have hall' := fun u hu' => hall u (List.mem_cons_of_mem _ hu')
    by_cases hv : (b == b') = true
    · simp only [hv, Bool.true_or, if_true]
      exact wpAny_pure ⟨rfl, rfl, hall'⟩
    · have hv' : (b == b') = false := by simpa using hv
      have hc : carriedByValue (.ref b) = false := rfl
      simp only [hv', hc, Bool.false_and, Bool.or_false, Bool.false_eq_true, if_false]
      refine wpAny_bind (wpAny_eqIsQuiet_tuple hb ?_)
      simp only [Bool.not_true, Bool.false_eq_true, if_false]
      refine wpAny_bind (wpAny_eqIsQuiet_tuple hb' ?_)
      simp only [Bool.not_true, Bool.false_eq_true, if_false]
      refine wpAny_bind (ofClass_tuple hb ?_)
      simp only [Bool.false_eq_true, if_false]
      refine wpAny_bind (ofClass_tuple hb' ?_)
      simp only [Bool.false_eq_true, if_false]
      exact wpAny_pure ⟨rfl, rfl, hall'⟩
  · rintro ⟨r1, r2⟩ s' ⟨hr, rfl, _⟩
    simp only at hr
    subst hr
    exact wpAny_pure h
end
end TB

set_option linter.all false
namespace TB
open PySem PySem.SetTable
section
variable {prog : Program} {w : World} {K : Type} [DecidableEq K] (knd : KeyKind prog w K)
/-- an entry: its place in the table, the tuple, its parts -/
abbrev Ent (K : Type) := Nat × Addr × List K
def ent (z : Ent K) : Int × Value := (tupleKeyHash knd z.2.2, .ref z.2.1)
def pth (z : Ent K) : Nat × Int := (z.1, tupleKeyHash knd z.2.2)
structure TS (h : Heap) (a : Addr) (zs : List (Ent K)) : Prop where
  ob : ∃ o es ep t, h.get? a = some o ∧ o.ExactSet ∧ o.data = .set es ep t ∧ es.toList = zs.map (ent knd) ∧ Tb t (zs.map (·.1)) ∧ (t.mask = 7 ∨ t.mask = 31) ∧ zs.length * 5 < t.mask * 3 ∧ Paths t.mask (zs.map (pth knd))
  keys : ∀ z ∈ zs, IsTupleKey knd h z.2.2 z.2.1
  nd : (zs.map (·.2.2)).Nodup
variable {knd}
variable {A : Around} {E : Value → Shared → Prop} {s : Shared}
theorem fill_of {t : SetTable} {l : List Nat} (T : Tb t l) : t.fill = l.length := by
  unfold SetTable.fill
  rw [T.pl, T.nd]; simp
theorem fits_of {t : SetTable} {l : List Nat} (T : Tb t l) {n : Nat} (hn : l.length = n) (hf : n ≤ t.mask) : t.fits n = true := by
  unfold SetTable.fits
  rw [fill_of T, T.pl]
  simp [hn, hf]
theorem pos_of {mask : Nat} {h : Int} (n0 m : Nat) : (nth mask (nth mask (st mask h) n0) m).j = pos mask h (n0 + m) := by
  unfold pos; rw [nth_add]
theorem search_from {a b : Addr} {o : Obj} {es : Array (Int × Value)} {ep : Nat} {t : SetTable} {zs : List (Ent K)} {k : List K} {Q : SetFound → Shared → Prop} (hu : A.units < cLine)
    (ho : s.heap.get? a = some o) (hd : o.data = .set es ep t) (hes : es.toList = zs.map (ent knd)) (T : Tb t (zs.map (·.1))) (hf : t.fits es.size = true) (hodd : t.gaveWay = false)
    (hk : ∀ z ∈ zs, IsTupleKey knd s.heap z.2.2 z.2.1) (hb : IsTupleKey knd s.heap k b) {N : Nat} (hN : pos t.mask (tupleKeyHash knd k) N ∉ zs.map (·.1)) (hNb : N < 10 * turns t.mask)
    (hN1 : ∀ m, m < N → pos t.mask (tupleKeyHash knd k) m ∈ zs.map (·.1))
    (q1 : (∃ z ∈ zs, z.2.2 = k) → Q (.there none) s) (q2 : (∀ m, m < N → ∀ z ∈ zs, z.1 = pos t.mask (tupleKeyHash knd k) m → z.2.2 ≠ k) → Q (.free (pos t.mask (tupleKeyHash knd k) N) false) s) :
    ∀ (d n0 fuel : Nat) (stand : Option SetTable.Probe), N - n0 = d → n0 ≤ N → d < fuel → stand.getD (t.probeStart (tupleKeyHash knd k)) = nth t.mask (st t.mask (tupleKeyHash knd k)) n0 →
      (∀ m, m < n0 → ∀ z ∈ zs, z.1 = pos t.mask (tupleKeyHash knd k) m → z.2.2 ≠ k) →
      wpAny (model prog w) A (setSearchFrom a (.ref b) (tupleKeyHash knd k) true fuel stand) Q E s := by
  intro d
  induction d using Nat.strongRecOn with
  | _ d ih =>
    intro n0 fuel stand hdd hn0 hfuel hst hpast
    obtain ⟨fuel, rfl⟩ : ∃ f, fuel = f + 1 := ⟨fuel - 1, by omega⟩
    unfold setSearchFrom
    refine wpAny_bind (wpAny_setState_of ho hd hf ?_)
    dsimp only
    rw [hodd]
    simp only [Bool.false_eq_true, if_false]
    rw [hst]
    have hget : ∀ {i : Nat} {z : Ent K}, zs[i]? = some z → es[i]? = some (ent knd z) := fun {i z} e => by
      rw [← Array.getElem?_toList, hes, List.getElem?_map, e]; rfl
    -- the first event
    obtain ⟨n, hn, hev, hno⟩ := first_of (fun m => pos t.mask (tupleKeyHash knd k) (n0 + m) ∉ zs.map (·.1) ∨ ∃ z ∈ zs, z.1 = pos t.mask (tupleKeyHash knd k) (n0 + m) ∧ tupleKeyHash knd z.2.2 = tupleKeyHash knd k) (N - n0)
      (.inl (by rw [show n0 + (N - n0) = N by omega]; exact hN))
    have hlive : ∀ m, pos t.mask (tupleKeyHash knd k) m ∈ zs.map (·.1) → ∃ i z, t.slot (pos t.mask (tupleKeyHash knd k) m) = .live i ∧ zs[i]? = some z ∧ z.1 = pos t.mask (tupleKeyHash knd k) m := fun m hm => by
      obtain ⟨i, hi, e⟩ := List.mem_iff_getElem.mp hm
      have hi' : i < zs.length := by simpa using hi
      have e1 : (zs.map (·.1))[i]? = some (pos t.mask (tupleKeyHash knd k) m) := by rw [List.getElem?_eq_getElem hi, e]
      refine ⟨i, zs[i], slot_in T e1, by simp [hi'], ?_⟩
      rw [List.getElem_map] at e
      exact e
    have hskip : ∀ m, m < n → ∃ i, t.slot (nth t.mask (nth t.mask (st t.mask (tupleKeyHash knd k)) n0) m).j = .live i ∧ ((es[i]?.map (·.1)).getD 0 == tupleKeyHash knd k) = false := fun m hm => by
      have h1 : pos t.mask (tupleKeyHash knd k) (n0 + m) ∈ zs.map (·.1) := by
        by_cases z : pos t.mask (tupleKeyHash knd k) (n0 + m) ∈ zs.map (·.1)
        · exact z
        · exact (hno m hm (.inl z)).elim
      obtain ⟨i, z, e1, e2, e3⟩ := hlive _ h1
      refine ⟨i, by rw [pos_of]; exact e1, ?_⟩
      rw [hget e2]
      show (tupleKeyHash knd z.2.2 == tupleKeyHash knd k) = false
      rw [beq_eq_false_iff_ne]
      intro e4
      exact hno m hm (.inr ⟨z, List.mem_of_getElem? e2, e3, e4⟩)
    by_cases hmem : pos t.mask (tupleKeyHash knd k) (n0 + n) ∈ zs.map (·.1)
    · -- a candidate
      have hcand : ∃ z ∈ zs, z.1 = pos t.mask (tupleKeyHash knd k) (n0 + n) ∧ tupleKeyHash knd z.2.2 = tupleKeyHash knd k := by
        rcases hev with e | e
        · exact (e hmem).elim
        · exact e
      obtain ⟨i, z, e1, e2, e3⟩ := hlive _ hmem
      have hz : z ∈ zs := List.mem_of_getElem? e2
      have hzh : tupleKeyHash knd z.2.2 = tupleKeyHash knd k := by
        obtain ⟨z', hz', f1, f2⟩ := hcand
        have hinj : z' = z := by
          obtain ⟨i', hi', ei'⟩ := List.mem_iff_getElem.mp hz'
          have g1 : (zs.map (·.1))[i']? = some (pos t.mask (tupleKeyHash knd k) (n0 + n)) := by rw [List.getElem?_map, List.getElem?_eq_getElem hi', ei', ← f1]; rfl
          have g2 := slot_in T g1
          rw [e1] at g2
          cases g2
          rw [List.getElem?_eq_getElem hi', ei'] at e2
          exact Option.some.inj e2
        rw [← hinj]; exact f2
      have hnN : n0 + n < N := by
        rcases Nat.lt_or_ge (n0 + n) N with z' | z'
        · exact z'
        · have : n0 + n = N := by omega
          rw [this] at hmem; exact (hN hmem).elim
      have hp := go_cand t (fun i => (es[i]?.map (·.1)).getD 0) (tupleKeyHash knd k) i n (nth t.mask (st t.mask (tupleKeyHash knd k)) n0) (10 * turns t.mask) (by omega) hskip (by rw [pos_of]; exact e1)
        (by rw [hget e2]; show (tupleKeyHash knd z.2.2 == tupleKeyHash knd k) = true; rw [hzh]; simp)
      generalize hg : SetTable.probe t _ (tupleKeyHash knd k) (nth t.mask (st t.mask (tupleKeyHash knd k)) n0) = met
      have hmet : met = some (.candidate (nth t.mask (nth t.mask (st t.mask (tupleKeyHash knd k)) n0) n).j i (nth t.mask (nth t.mask (st t.mask (tupleKeyHash knd k)) n0) (n + 1))) := hg.symm.trans hp
      subst hmet
      dsimp only
      have cont : wpAny (model prog w) A (match es[i]? with
            | some (_, y) => do
              let equal ← holding [y] (eqBool y (.ref b))
              let (es', _, t') ← setState a
              if (true && equal) = true then return SetFound.there none
              let some same := t'.sameMemory t.moves t.mask | unsupported "set.changed-during-lookup:is-the-new-block-at-the-old-address"
              let still ← match (if same then t'.slot (nth t.mask (nth t.mask (st t.mask (tupleKeyHash knd k)) n0) n).j else .empty) with
                | .live i' => match es'[i']? with
                  | some (_, y') => do pure (if ← isSame y' y then some i' else none)
                  | none => pure none
                | _ => pure none
              match still with
              | none => rule "set.search.anew"; setSearchFrom a (.ref b) (tupleKeyHash knd k) true fuel none
              | some i' => if equal then return SetFound.there (some i') else setSearchFrom a (.ref b) (tupleKeyHash knd k) true fuel (some (nth t.mask (nth t.mask (st t.mask (tupleKeyHash knd k)) n0) (n + 1)))
            | _ => unsupported "internal:set-entry") Q E s := by
        rw [hget e2]
        show wpAny _ _ (holding [Value.ref z.2.1] (eqBool (.ref z.2.1) (.ref b)) >>= _) _ _ _
        refine wpAny_bind (wpAny_holding (wpAny_eqBool_tuple hu (hk z hz) hb ?_))
        refine wpAny_bind (wpAny_setState_of ho hd hf ?_)
        dsimp only
        by_cases hkk : z.2.2 = k
        · rw [decide_eq_true hkk]
          simp only [Bool.and_self, if_true]
          exact wpAny_pure (q1 ⟨z, hz, hkk⟩)
        · rw [decide_eq_false hkk]
          simp only [Bool.and_false, Bool.false_eq_true, if_false]
          have hsm : t.sameMemory t.moves t.mask = some true := by unfold SetTable.sameMemory; simp
          rw [hsm]
          simp only [if_true]
          rw [pos_of, e1]
          dsimp only
          rw [hget e2]
          dsimp only
          refine wpAny_bind (wpAny_isSame_ref_self ?_)
          simp only [if_true]
          refine wpAny_bind (wpAny_pure ?_)
          dsimp only
          refine ih (N - (n0 + n + 1)) (by omega) (n0 + n + 1) fuel _ rfl (by omega) (by omega) ?_ ?_
          · show nth t.mask (nth t.mask (st t.mask (tupleKeyHash knd k)) n0) (n + 1) = _
            rw [← nth_add]; rfl
          · intro m hm z' hz' e
            by_cases hlt : m < n0
            · exact hpast m hlt z' hz' e
            · intro hzk
              have hm2 : pos t.mask (tupleKeyHash knd k) m ∈ zs.map (·.1) := List.mem_map.mpr ⟨z', hz', e⟩
              obtain ⟨m', rfl⟩ : ∃ m', m = n0 + m' := ⟨m - n0, by omega⟩
              rcases Nat.lt_or_ge m' n with hlt' | hge
              · exact hno m' hlt' (.inr ⟨z', hz', e, by rw [hzk]⟩)
              · have : m' = n := by omega
                subst this
                obtain ⟨i', hi', ei'⟩ := List.mem_iff_getElem.mp hz'
                have g1 : (zs.map (·.1))[i']? = some (pos t.mask (tupleKeyHash knd k) (n0 + m')) := by rw [List.getElem?_map, List.getElem?_eq_getElem hi', ei', ← e]; rfl
                have g2 := slot_in T g1
                rw [e1] at g2
                cases g2
                rw [List.getElem?_eq_getElem hi', ei'] at e2
                have : z' = z := Option.some.inj e2
                exact hkk (this ▸ hzk)
      cases hl : t.led with
      | true =>
        simp only [Bool.not_true, Bool.false_eq_true, if_false]
        exact cont
      | false =>
        simp only [Bool.not_false, if_true]
        refine wpAny_bind (seen_no hb _ ?_ ?_)
        · intro v hv
          obtain ⟨e, he, rfl⟩ := List.mem_map.mp hv
          rw [Array.toList_filter, hes] at he
          obtain ⟨he1, _⟩ := List.mem_filter.mp he
          obtain ⟨z', hz', rfl⟩ := List.mem_map.mp he1
          exact ⟨z'.2.2, z'.2.1, rfl, hk z' hz'⟩
        · simp only [Bool.false_eq_true, if_false]
          exact cont
    · -- a free place
      have hnN : n0 + n = N := by
        rcases Nat.lt_or_ge (n0 + n) N with z | z
        · exact (hmem (hN1 _ z)).elim
        · omega
      have hp := go_empty t (fun i => (es[i]?.map (·.1)).getD 0) (tupleKeyHash knd k) n (nth t.mask (st t.mask (tupleKeyHash knd k)) n0) (10 * turns t.mask) (by omega) hskip (by rw [pos_of]; exact slot_out T hmem)
      generalize hg : SetTable.probe t _ (tupleKeyHash knd k) (nth t.mask (st t.mask (tupleKeyHash knd k)) n0) = met
      have hmet : met = some (.empty (nth t.mask (nth t.mask (st t.mask (tupleKeyHash knd k)) n0) n).j (nth t.mask (st t.mask (tupleKeyHash knd k)) n0).dummy) := hg.symm.trans hp
      subst hmet
      have hdm : (nth t.mask (st t.mask (tupleKeyHash knd k)) n0).dummy = none := dummy_nth _ _ _
      rw [hdm]
      dsimp only
      rw [pos_of, hnN]
      refine wpAny_pure (q2 fun m hm z hz e hzk => ?_)
      by_cases hlt : m < n0
      · exact hpast m hlt z hz e hzk
      · obtain ⟨m', rfl⟩ : ∃ m', m = n0 + m' := ⟨m - n0, by omega⟩
        exact hno m' (by omega) (.inr ⟨z, hz, e, by rw [hzk]⟩)
end
end TB

set_option linter.all false
namespace TB
open PySem PySem.SetTable
theorem room_of : ∀ (n : Nat) (l : List Nat), (∀ j, j < n → j ∈ l) → n ≤ l.length
  | 0, _, _ => Nat.zero_le _
  | n + 1, l, h => by
    have hn := h n (by omega)
    have ih := room_of n (l.erase n) fun j hj => (List.mem_erase_of_ne (by omega)).mpr (h j (by omega))
    rw [List.length_erase_of_mem hn] at ih
    have : 0 < l.length := List.length_pos_of_mem hn
    omega
theorem free_place (n : Nat) (l : List Nat) (h : l.length ≤ n) : ∃ j, j ≤ n ∧ j ∉ l := by
  by_cases z : ∃ j, j ≤ n ∧ j ∉ l
  · exact z
  · exfalso
    have := room_of (n + 1) l fun j hj => by
      by_cases e : j ∈ l
      · exact e
      · exact (z ⟨j, by omega, e⟩).elim
    omega
section
variable {prog : Program} {w : World} {K : Type} [DecidableEq K] {knd : KeyKind prog w K} {A : Around} {E : Value → Shared → Prop} {s : Shared}
theorem IsTupleKey.same {h h' : Heap} {ks : List K} {a d : Addr} {o : Obj} {es ep t} (x : IsTupleKey knd h ks a) (ho : h.get? d = some o) (hd : o.data = .set es ep t) (hs : Heap.SameBut d h h') : IsTupleKey knd h' ks a := by
  obtain ⟨o', items, n, ho', hc, hd', hi⟩ := x
  have hne : a ≠ d := by
    rintro rfl
    obtain rfl : o' = o := Option.some.inj (ho'.symm.trans ho)
    rw [hd] at hd'; exact nomatch hd'
  exact ⟨o', items, n, (hs.2 a hne).trans ho', hc, hd', hi⟩
theorem tb_plain {t : SetTable} {l : List Nat} (T : Tb t l) (b : Bool) : Tb { t with plain := b } l := ⟨T.pl, T.nd, T.up, T.le⟩
theorem stored {a : Addr} {o : Obj} {es : Array (Int × Value)} {ep : Nat} {t : SetTable} (ho : s.heap.get? a = some o) (hd : o.data = .set es ep t) (es' : Array (Int × Value)) (t' : SetTable) :
    (s.heap.update a (Obj.putSet es' t')).get? a = some { o with data := .set es' (ep + 1) t' } := by
  have := Heap.get?_update_self (Obj.putSet es' t') ho (by rw [putSet_of es' t' hd]; rfl)
  rw [putSet_of es' t' hd] at this; exact this
theorem line18 {n : Nat} (h : n ≤ 64) : n ≤ sizeLine := by rw [sizeLine_eq]; omega
theorem cyc_mask {m : Nat} (h : m = 7 ∨ m = 31) : Cyc m := by
  rcases h with rfl | rfl
  · exact cyc7
  · exact cyc31
theorem add_tuple {a b : Addr} {zs : List (Ent K)} {k : List K} {Q : Bool → Shared → Prop} (hu : A.units < cLine) (hsc : ∀ k v, knd.is k v = true → v.scannable = true) (hS : TS knd s.heap a zs) (hb : IsTupleKey knd s.heap k b) (hroom : zs.length < 18)
    (h : ∀ r h' zs', Heap.SameBut a s.heap h' → TS knd h' a zs' → ((k ∈ zs.map (·.2.2) ∧ zs' = zs) ∨ (k ∉ zs.map (·.2.2) ∧ (zs'.map (·.2)).Perm ((b, k) :: zs.map (·.2)))) → Q r { s with heap := h' }) :
    wpAny (model prog w) A (setAddHashed a (.ref b) (tupleKeyHash knd k)) Q E s := by
  obtain ⟨⟨o, es, ep, t, ho, hex, hd, hes, T, hmask, hfull, hpath⟩, hk, hnd⟩ := id hS
  have hlen : es.size = zs.length := by rw [← Array.length_toList, hes, List.length_map]
  have hle : zs.length ≤ t.mask := by omega
  have hf : t.fits es.size = true := fits_of T (by rw [List.length_map, hlen]) (by rw [hlen]; exact hle)
  have hodd : t.gaveWay = false := by unfold SetTable.gaveWay; rcases hmask with e | e <;> rw [e] <;> rfl
  have cyc := cyc_mask hmask
  -- the first free place
  obtain ⟨j₀, hj₀, hj₀'⟩ := free_place t.mask (zs.map (·.1)) (by rw [List.length_map]; exact hle)
  obtain ⟨n₀, hn₀, en₀⟩ := cover cyc (tupleKeyHash knd k) hj₀
  obtain ⟨N, hNle, hN, hNno⟩ := first_of (fun m => pos t.mask (tupleKeyHash knd k) m ∉ zs.map (·.1)) n₀ (by rw [en₀]; exact hj₀')
  have hN1 : ∀ m, m < N → pos t.mask (tupleKeyHash knd k) m ∈ zs.map (·.1) := fun m hm => by
    by_cases z : pos t.mask (tupleKeyHash knd k) m ∈ zs.map (·.1)
    · exact z
    · exact (hNno m hm z).elim
  have hturns : 10 * turns t.mask < 100000 := by unfold turns; rcases hmask with e | e <;> rw [e] <;> omega
  unfold setAddHashed setAddHashedIn
  refine wpAny_holding (wpAny_bind (wpAny_setState_of ho hd hf ?_))
  dsimp only
  have hby : byScan (.ref b) es = false := rfl
  rw [hby]
  simp only [Bool.false_eq_true, if_false]
  refine wpAny_bind ?_
  unfold setSearch
  refine search_from hu ho hd hes T hf hodd hk hb hN (by omega) hN1 ?_ ?_ N 0 100000 none rfl (by omega) (by omega) rfl (fun m hm => by omega)
  · intro hex'
    dsimp only
    have e : s = { s with heap := s.heap } := by cases s; rfl
    have hq := h false s.heap zs (Heap.SameBut.refl a s.heap) hS (.inl ⟨by
      obtain ⟨z, hz, e⟩ := hex'
      exact List.mem_map.mpr ⟨z, hz, e⟩, rfl⟩)
    rw [e]; exact wpAny_pure hq
  · intro hnone
    have hknew : k ∉ zs.map (·.2.2) := by
      intro hm
      obtain ⟨z, hz, ez⟩ := List.mem_map.mp hm
      obtain ⟨n, e1, e2⟩ := hpath (pth knd z) (List.mem_map.mpr ⟨z, hz, rfl⟩)
      have e1' : pos t.mask (tupleKeyHash knd k) n = z.1 := by rw [← ez]; exact e1
      have e2' : ∀ m, m < n → pos t.mask (tupleKeyHash knd k) m ∈ zs.map (·.1) := fun m hm => by
        have := e2 m hm
        rw [List.map_map] at this
        rw [← ez]; exact this
      have hnN : n < N := by
        rcases Nat.lt_or_ge n N with z' | z'
        · exact z'
        · exfalso
          rcases Nat.lt_or_ge N n with z'' | z''
          · exact hN (e2' N z'')
          · have : n = N := by omega
            subst this
            exact hN (by rw [e1']; exact List.mem_map.mpr ⟨z, hz, rfl⟩)
      exact hnone n hnN z hz e1'.symm ez
    dsimp only
    refine wpAny_bind (wpAny_setState_of ho hd hf ?_)
    dsimp only
    have hpl : pos t.mask (tupleKeyHash knd k) N ≤ t.mask := pos_le _ _ _
    obtain ⟨T1, hp1, hm1⟩ := tb_put T hN hpl
    generalize hput : t.put (pos t.mask (tupleKeyHash knd k) N) = tp at T1 hp1 hm1 ⊢
    obtain ⟨t1, p⟩ := tp
    dsimp only at T1 hp1 hm1 ⊢
    -- the entries with the new one
    obtain ⟨zs1, hzs1⟩ : ∃ zs1, zs1 = zs.take p ++ (pos t.mask (tupleKeyHash knd k) N, b, k) :: zs.drop p := ⟨_, rfl⟩
    have hT1 : zs1.map (·.1) = (zs.map (·.1)).take (below (zs.map (·.1)).toArray (pos t.mask (tupleKeyHash knd k) N)) ++ (pos t.mask (tupleKeyHash knd k) N) :: (zs.map (·.1)).drop (below (zs.map (·.1)).toArray (pos t.mask (tupleKeyHash knd k) N)) := by
      rw [hzs1, ← hp1]; simp [List.map_take, List.map_drop]
    rw [← hT1] at T1
    have hperm : zs1.Perm ((pos t.mask (tupleKeyHash knd k) N, b, k) :: zs) := by
      rw [hzs1]
      refine List.perm_middle.trans ?_
      rw [List.take_append_drop]
    have hlen1 : zs1.length = zs.length + 1 := by rw [hperm.length_eq, List.length_cons]
    have hes1 : (insertAt es p (tupleKeyHash knd k, Value.ref b)).toList = zs1.map (ent knd) := by
      rw [SetTable.toList_insertAt, hes, hzs1]
      simp [List.map_take, List.map_drop, ent]
    have hpath1 : Paths t.mask (zs1.map (pth knd)) := by
      refine Paths.mono hpath (pos t.mask (tupleKeyHash knd k) N, tupleKeyHash knd k) (fun z hz => ?_) (fun z hz => ?_) ⟨N, rfl, fun m hm => by rw [List.map_map]; exact hN1 m hm⟩
      · obtain ⟨y, hy, rfl⟩ := List.mem_map.mp hz
        rcases List.mem_cons.mp (hperm.mem_iff.mp hy) with e | e
        · right; rw [e]; rfl
        · left; exact List.mem_map.mpr ⟨y, e, rfl⟩
      · obtain ⟨y, hy, rfl⟩ := List.mem_map.mp hz
        exact List.mem_map.mpr ⟨y, hperm.mem_iff.mpr (List.mem_cons_of_mem _ hy), rfl⟩
    have hkeys1 : ∀ z ∈ zs1, IsTupleKey knd s.heap z.2.2 z.2.1 := fun z hz => by
      rcases List.mem_cons.mp (hperm.mem_iff.mp hz) with e | e
      · rw [e]; exact hb
      · exact hk z e
    have hkp1 : (zs1.map (·.2.2)).Perm (k :: zs.map (·.2.2)) := hperm.map _
    have hkq1 : (zs1.map (·.2)).Perm ((b, k) :: zs.map (·.2)) := hperm.map _
    have hnd1 : (zs1.map (·.2.2)).Nodup := hkp1.nodup_iff.mpr (List.nodup_cons.mpr ⟨hknew, hnd⟩)
    have hsz1 : (insertAt es p (tupleKeyHash knd k, Value.ref b)).size = zs.length + 1 := by rw [← Array.length_toList, hes1, List.length_map, hlen1]
    -- the tail: the store, and the table laid anew
    have tail : ∀ t2 : SetTable, Tb t2 (zs1.map (·.1)) → t2.mask = t.mask → wpAny (model prog w) A (do
        storeSet a (insertAt es p (tupleKeyHash knd k, Value.ref b)) t2
        if (!false && t2.tooFull) = true then do
            setRelay a (SetTable.grown (es.size + 1))
            pure true
          else pure true) Q E s := by
      intro t2 T2 hm2
      refine wpAny_bind (wpAny_storeSet_of ho hd ?_ (by rw [hsz1]; exact line18 (by omega)))
      have ho1 := stored ho hd (insertAt es p (tupleKeyHash knd k, Value.ref b)) t2
      have hsb1 := Heap.SameBut.update s.heap a (Obj.putSet (insertAt es p (tupleKeyHash knd k, Value.ref b)) t2)
      have hfill : t2.fill = zs.length + 1 := by rw [fill_of T2, List.length_map, hlen1]
      by_cases hfull2 : t2.tooFull = true
      · rw [hfull2]
        simp only [Bool.not_false, Bool.and_self, if_true]
        have h7 : t.mask = 7 ∧ zs.length = 4 := by
          unfold SetTable.tooFull at hfull2
          rw [decide_eq_true_eq, hfill, hm2] at hfull2
          rcases hmask with e | e <;> rw [e] at hfull2 hfull <;> omega
        refine wpAny_bind ?_
        unfold setRelay
        have hf2 : t2.fits (insertAt es p (tupleKeyHash knd k, Value.ref b)).size = true := fits_of T2 (by rw [List.length_map, hlen1, hsz1]) (by rw [hsz1, hm2, h7.1, h7.2]; decide)
        refine wpAny_bind (wpAny_setState_of ho1 rfl hf2 ?_)
        dsimp only
        have hw : SetTable.grown (es.size + 1) = 20 := by rw [hlen, h7.2]; rfl
        have hsa : SetTable.sizeAbove 20 = 32 := by decide
        rw [hw, hsa]
        rw [if_neg (by rw [sizeLine_eq]; decide)]
        have hhs : ((insertAt es p (tupleKeyHash knd k, Value.ref b)).map (·.1)).size = 5 := by rw [Array.size_map, hsz1, h7.2]
        obtain ⟨t3, zi, hrel, hm3, hl3, hp3, T3, hperm3, hpath3⟩ := relaid_ok (t := t2) (hashes := (insertAt es p (tupleKeyHash knd k, Value.ref b)).map (·.1)) (wanted := 20) (by rw [hsa]; exact cyc31) (by rw [hhs, hsa]; decide)
        rw [hhs] at hperm3
        rw [hsa] at hm3
        have hidx : ∀ z ∈ zi, z.2 < 5 := fun z hz => List.mem_range.mp (hperm3.mem_iff.mp (List.mem_map.mpr ⟨z, hz, rfl⟩))
        have hlen5 : zs1.length = 5 := by rw [hlen1, h7.2]
        obtain ⟨zs2, hzs2⟩ : ∃ zs2 : List (Ent K), zs2 = zi.map fun z => (z.1, (zs1.getD z.2 (0, 0, [])).2) := ⟨_, rfl⟩
        have hgetE : ∀ i, i < 5 → (insertAt es p (tupleKeyHash knd k, Value.ref b))[i]? = some (ent knd (zs1.getD i (0, 0, []))) := fun i hi => by
          rw [← Array.getElem?_toList, hes1, List.getElem?_map, List.getD_eq_getElem?_getD, List.getElem?_eq_getElem (by omega)]; rfl
        have hes2 : (((zi.map (·.2)).toArray).filterMap (fun i => (insertAt es p (tupleKeyHash knd k, Value.ref b))[i]?)).toList = zs2.map (ent knd) := by
          rw [Array.toList_filterMap, hzs2]
          show (zi.map (·.2)).filterMap _ = _
          rw [List.filterMap_map, List.map_map]
          have : ∀ l : List (Nat × Nat), (∀ z ∈ l, z.2 < 5) → l.filterMap ((fun i => (insertAt es p (tupleKeyHash knd k, Value.ref b))[i]?) ∘ fun x => x.2) = l.map (ent knd ∘ fun z => (z.1, (zs1.getD z.2 (0, 0, [])).2)) := by
            intro l
            induction l with
            | nil => intro _; rfl
            | cons x l ih =>
              intro hl
              rw [List.filterMap_cons_some (b := ent knd (zs1.getD x.2 (0, 0, []))) (by show (insertAt es p (tupleKeyHash knd k, Value.ref b))[x.2]? = _; exact hgetE _ (hl x (by simp))), List.map_cons, ih fun z hz => hl z (by simp [hz])]
              rfl
          exact this zi hidx
        have hsz2 : (((zi.map (·.2)).toArray).filterMap (fun i => (insertAt es p (tupleKeyHash knd k, Value.ref b))[i]?)).size = 5 := by
          rw [← Array.length_toList, hes2, List.length_map, hzs2, List.length_map]
          have := hperm3.length_eq
          rw [List.length_map, List.length_range] at this
          exact this
        refine wpAny_bind ?_
        rw [hrel]
        show wpAny _ _ (@ite _ _ _ _ _) _ _ _
        rw [if_neg (by rw [hsz2, hsz1, h7.2]; decide)]
        refine wpAny_pure ?_
        dsimp only
        refine wpAny_storeSet_of ho1 rfl ?_ (by rw [hsz2]; exact line18 (by omega))
        have ho2 := stored (s := { s with heap := s.heap.update a (Obj.putSet (insertAt es p (tupleKeyHash knd k, Value.ref b)) t2) }) ho1 rfl (((zi.map (·.2)).toArray).filterMap (fun i => (insertAt es p (tupleKeyHash knd k, Value.ref b))[i]?)) t3
        have hsb2 := hsb1.trans (Heap.SameBut.update (s.heap.update a (Obj.putSet (insertAt es p (tupleKeyHash knd k, Value.ref b)) t2)) a (Obj.putSet (((zi.map (·.2)).toArray).filterMap (fun i => (insertAt es p (tupleKeyHash knd k, Value.ref b))[i]?)) t3))
        have hkq2 : (zs2.map (·.2)).Perm (zs1.map (·.2)) := by
          rw [hzs2, List.map_map]
          have e1 : zi.map ((fun z : Ent K => z.2) ∘ fun z => (z.1, (zs1.getD z.2 (0, 0, [])).2)) = (zi.map (·.2)).map fun i => (zs1.getD i (0, 0, [])).2 := by rw [List.map_map]; rfl
          have e2 : zs1.map (·.2) = (List.range 5).map fun i => (zs1.getD i (0, 0, [])).2 := by
            apply List.ext_getElem?
            intro i
            rw [List.getElem?_map, List.getElem?_map]
            by_cases hi : i < 5
            · rw [List.getElem?_eq_getElem (by omega), List.getElem?_range hi]
              have e3 : zs1.getD i (0, 0, []) = zs1[i]'(by omega) := by rw [List.getD_eq_getElem?_getD, List.getElem?_eq_getElem (by omega)]; rfl
              show some (zs1[i]'(by omega)).2 = some (zs1.getD i (0, 0, [])).2
              rw [e3]
            · rw [List.getElem?_eq_none (by omega), List.getElem?_eq_none (by rw [List.length_range]; omega)]; rfl
          rw [e1, e2]
          exact hperm3.map _
        have hkp2 : (zs2.map (·.2.2)).Perm (zs1.map (·.2.2)) := by
          have := hkq2.map (·.2)
          rw [List.map_map, List.map_map] at this
          exact this
        have hmem2 : ∀ z ∈ zs2, ∃ y ∈ zs1, y.2 = z.2 := fun z hz => by
          rw [hzs2] at hz
          obtain ⟨y, hy, rfl⟩ := List.mem_map.mp hz
          have := hidx y hy
          refine ⟨zs1[y.2]'(by omega), List.getElem_mem _, ?_⟩
          rw [List.getD_eq_getElem?_getD, List.getElem?_eq_getElem (by omega)]; rfl
        refine wpAny_pure (h true _ zs2 hsb2 ⟨⟨_, _, _, t3, ho2, hex, rfl, hes2, ?_, .inr hm3, ?_, ?_⟩, fun z hz => ?_, hkp2.nodup_iff.mpr hnd1⟩ (.inr ⟨hknew, hkq2.trans hkq1⟩))
        · have e1 : zs2.map (·.1) = zi.map (·.1) := by rw [hzs2, List.map_map]; rfl
          rw [e1]; exact T3
        · have : zs2.length = 5 := by
            have := hkp2.length_eq
            rw [List.length_map, List.length_map, hlen5] at this
            exact this
          rw [this, hm3]; decide
        · have e1 : zs2.map (pth knd) = zi.map fun z => (z.1, ((insertAt es p (tupleKeyHash knd k, Value.ref b)).map (·.1)).getD z.2 0) := by
            rw [hzs2, List.map_map]
            apply List.map_congr_left
            intro z hz
            show (z.1, tupleKeyHash knd (zs1.getD z.2 (0, 0, [])).2.2) = _
            congr 1
            rw [Array.getD_eq_getD_getElem?, Array.getElem?_map, hgetE _ (hidx z hz)]; rfl
          rw [e1]; exact hpath3
        · obtain ⟨y, hy, e⟩ := hmem2 z hz
          rw [← e]
          exact IsTupleKey.same (hkeys1 y hy) ho hd hsb2
      · have hnf : t2.tooFull = false := by simpa using hfull2
        rw [hnf]
        simp only [Bool.and_false, Bool.false_eq_true, if_false]
        refine wpAny_pure (h true _ zs1 hsb1 ⟨⟨_, _, _, t2, ho1, hex, rfl, hes1, T2, by rw [hm2]; exact hmask, ?_, by rw [hm2]; exact hpath1⟩, fun z hz => IsTupleKey.same (hkeys1 z hz) ho hd hsb1, hnd1⟩ (.inr ⟨hknew, hkq1⟩))
        unfold SetTable.tooFull at hnf
        rw [decide_eq_false_iff_not, hfill] at hnf
        rw [hlen1]; omega
    cases hpl2 : t1.plain with
    | true =>
      simp only [if_true]
      refine wpAny_bind (hbv_tuple hb hsc fun bb => ?_)
      cases bb with
      | true =>
        simp only [if_true]
        exact tail t1 T1 hm1
      | false =>
        simp only [Bool.false_eq_true, if_false]
        exact tail _ (tb_plain T1 false) hm1
    | false =>
      simp only [Bool.false_eq_true, if_false]
      refine wpAny_bind (wpAny_pure ?_)
      simp only [if_true]
      exact tail t1 T1 hm1
end
end TB

set_option linter.all false
namespace TB
open PySem PySem.SetTable
theorem not_nodup {α : Type} [DecidableEq α] : ∀ l : List α, ¬ l.Nodup → ∃ l' : List α, l'.length + 1 = l.length ∧ ∀ x ∈ l, x ∈ l'
  | [], h => (h List.nodup_nil).elim
  | x :: r, h => by
    by_cases hx : x ∈ r
    · refine ⟨r, rfl, fun y hy => ?_⟩
      rcases List.mem_cons.mp hy with e | e
      · rw [e]; exact hx
      · exact e
    · have hr : ¬ r.Nodup := fun z => h (List.nodup_cons.mpr ⟨hx, z⟩)
      obtain ⟨r', e, s⟩ := not_nodup r hr
      refine ⟨x :: r', by simp [← e], fun y hy => ?_⟩
      rcases List.mem_cons.mp hy with e' | e'
      · rw [e']; simp
      · exact List.mem_cons_of_mem _ (s y e')
theorem count_nodup {α : Type} [DecidableEq α] {z l : List α} (hz : z.Nodup) (h : ∀ x, x ∈ z ↔ x ∈ l) : z.length = l.length ↔ l.Nodup := by
  constructor
  · intro e
    by_cases hl : l.Nodup
    · exact hl
    · obtain ⟨l', e', s⟩ := not_nodup l hl
      have := List.Nodup.length_le_of_subset hz (fun x hx => s x ((h x).mp hx))
      omega
  · intro hl
    exact ((List.perm_ext_iff_of_nodup hz hl).mpr h).length_eq
section
variable {prog : Program} {w : World} {K : Type} [DecidableEq K] {knd : KeyKind prog w K} {A : Around} {R : Result → Shared → Prop} {I : Addr} {fp wr : List Addr} {G : Array GenState → Array GenState → Prop} {n : Nat} {P : Nat → Value → Prop} {St : Nat → Shared → Prop}
theorem tkey_moved {wr : List Addr} {s s' : Shared} {k : List K} {b : Addr} (m : Moved wr G s s') (hb : b ∉ wr) (h : IsTupleKey knd s.heap k b) : IsTupleKey knd s'.heap k b := by
  obtain ⟨o, items, n, ho, r⟩ := h
  exact ⟨o, items, n, m.heap b o hb ho, r⟩
theorem ts_moved {wr : List Addr} {s s' : Shared} {S : Addr} {zs : List (Ent K)} (m : Moved wr G s s') (hS : S ∉ wr) (hz : ∀ z ∈ zs, z.2.1 ∉ wr) (h : TS knd s.heap S zs) : TS knd s'.heap S zs := by
  obtain ⟨⟨o, es, ep, t, ho, r⟩, hk, hn⟩ := h
  exact ⟨⟨o, es, ep, t, m.heap S o hS ho, r⟩, fun z hz' => tkey_moved m (hz z hz') (hk z hz'), hn⟩
theorem codeAny_set_update_loopT (W : WalksS prog w A.in1 I fp wr G n P St) (S : Addr) (hSf : S ∉ fp) (hu : A.in1.units < cLine) (hsc : ∀ k v, knd.is k v = true → v.scannable = true) (key : Nat → List K) (ad : Nat → Addr)
    (hval : ∀ i v, P i v → v = .ref (ad i)) (had : ∀ i, i < n → ad i ∉ S :: fp) (hn : n ≤ 18) :
    ∀ (k i : Nat) (s : Shared) (zs : List (Ent K)), n - i = k → i ≤ n → St i s → TS knd s.heap S zs → zs.length ≤ i → (∀ z ∈ zs, ∃ j, j < n ∧ z.2.1 = ad j) → (∀ k', k' ∈ zs.map (·.2.2) ↔ ∃ j, j < i ∧ key j = k') → (∀ j, j < n → IsTupleKey knd s.heap (key j) (ad j)) →
      (∀ s' zs', Moved (S :: wr) G s s' → TS knd s'.heap S zs' → zs'.length ≤ n → (∀ k', k' ∈ zs'.map (·.2.2) ↔ ∃ j, j < n ∧ key j = k') → R (.ok (.ret .none)) s') →
      codeAny (model prog w) A (.builtin "set.update.loop" ⟨[.ref S, .ref I], []⟩) R s := by
  have hSw : S ∉ wr := fun h => hSf (W.sub _ h)
  have hsub : ∀ b ∈ wr, b ∈ S :: wr := fun b hb => List.mem_cons_of_mem _ hb
  have hadw : ∀ i, i < n → ad i ∉ wr := fun i hi h => had i hi (List.mem_cons_of_mem _ (W.sub _ h))
  have hadS : ∀ i, i < n → ad i ≠ S := fun i hi h => had i hi (by rw [h]; exact List.mem_cons_self)
  intro k
  induction k with
  | zero =>
    intro i s zs hk hi hst hS hl hza hmem hks hR
    have hin : i = n := by omega
    subst hin
    refine codeAny_builtin PyProof.Rows.F.entry_set_update_loop ?_
    rw [Around.under_plainId PyProof.Rows.F.plain_set_update_loop _]
    show wpAny _ A.in1 (pyNext (.ref I) >>= _) _ _ s
    refine wpAny_bind (W.done s _ _ hst fun s' hm => ?_)
    show wpAny _ A.in1 (ret Value.none) _ _ s'
    exact wpAny_pure (hR s' zs (hm.mono hsub) (ts_moved hm hSw (fun z hz => by obtain ⟨j, hj, e⟩ := hza z hz; rw [e]; exact hadw j hj) hS) hl hmem)
  | succ k ih =>
    intro i s zs hk hi hst hS hl hza hmem hks hR
    have hlt : i < n := by omega
    refine codeAny_builtin PyProof.Rows.F.entry_set_update_loop ?_
    rw [Around.under_plainId PyProof.Rows.F.plain_set_update_loop _]
    show wpAny _ A.in1 (pyNext (.ref I) >>= _) _ _ s
    refine wpAny_bind (W.item i s _ _ hlt hst fun v s' hP hst' hm => ?_)
    have hv := hval i v hP
    subst hv
    have hS' : TS knd s'.heap S zs := ts_moved hm hSw (fun z hz => by obtain ⟨j, hj, e⟩ := hza z hz; rw [e]; exact hadw j hj) hS
    have hks' : ∀ j, j < n → IsTupleKey knd s'.heap (key j) (ad j) := fun j hj => tkey_moved hm (hadw j hj) (hks j hj)
    show wpAny _ A.in1 (holding [Value.ref (ad i)] (setAdd S (.ref (ad i))) >>= _) _ _ s'
    refine wpAny_bind (wpAny_holding ?_)
    unfold setAdd
    refine wpAny_holding ?_
    refine wpAny_bind (wpAny_pyHash_tuple hu (hks' i hlt) ?_)
    refine add_tuple (s := { s' with toks := s'.toks + ((key i).length + 1) }) hu hsc hS' (hks' i hlt) (by omega) fun r h' zs' hsb hS2 hor => ?_
    have hsb' : Heap.SameBut S s'.heap h' := hsb
    have hlen' : zs'.length ≤ i + 1 := by
      rcases hor with ⟨_, e⟩ | ⟨_, e⟩
      · rw [e]; omega
      · have := e.length_eq
        rw [List.length_map, List.length_cons, List.length_map] at this
        omega
    have hor2 : (key i ∈ zs.map (·.2.2) ∧ zs' = zs) ∨ (zs'.map (·.2.2)).Perm (key i :: zs.map (·.2.2)) := by
      rcases hor with e | ⟨_, e⟩
      · exact .inl e
      · have := e.map (·.2)
        rw [List.map_map, List.map_cons, List.map_map] at this
        exact .inr this
    have hmem' : ∀ k', k' ∈ zs'.map (·.2.2) ↔ ∃ j, j < i + 1 ∧ key j = k' := fun k' => by
      rcases hor2 with ⟨hin, e⟩ | e
      · rw [e, hmem k']
        constructor
        · rintro ⟨j, hj, e'⟩; exact ⟨j, by omega, e'⟩
        · rintro ⟨j, hj, e'⟩
          by_cases hji : j = i
          · rw [← e', hji]; exact (hmem _).mp hin
          · exact ⟨j, by omega, e'⟩
      · rw [e.mem_iff, List.mem_cons, hmem k']
        constructor
        · rintro (e' | ⟨j, hj, e'⟩)
          · exact ⟨i, by omega, e'.symm⟩
          · exact ⟨j, by omega, e'⟩
        · rintro ⟨j, hj, e'⟩
          by_cases hji : j = i
          · left; rw [← e', hji]
          · exact .inr ⟨j, by omega, e'⟩
    have hkeep : ∀ b o, b ∉ S :: wr → s'.heap.get? b = some o → h'.get? b = some o := fun b o hb e => by
      rw [hsb'.2 b (fun z : b = S => hb (by rw [z]; exact List.mem_cons_self))]; exact e
    have hks2 : ∀ j, j < n → IsTupleKey knd h' (key j) (ad j) := fun j hj => by
      obtain ⟨o, items, m, ho, r⟩ := hks' j hj
      exact ⟨o, items, m, (hsb'.2 _ (hadS j hj)).trans ho, r⟩
    have hza2 : ∀ z ∈ zs', ∃ j, j < n ∧ z.2.1 = ad j := by
      rcases hor with ⟨_, e⟩ | ⟨_, e⟩
      · rw [e]; exact hza
      · intro z hz
        have hz2 : z.2 ∈ zs'.map (·.2) := List.mem_map.mpr ⟨z, hz, rfl⟩
        rcases List.mem_cons.mp (e.mem_iff.mp hz2) with e' | e'
        · exact ⟨i, hlt, by rw [e']⟩
        · obtain ⟨y, hy, ey⟩ := List.mem_map.mp e'
          obtain ⟨j, hj, ej⟩ := hza y hy
          exact ⟨j, hj, by rw [← ey]; exact ej⟩
    refine wpAny_pure ⟨plainId_quiet PyProof.Rows.F.plain_set_update_loop _, ih (i + 1) _ zs' (by omega) hlt (W.frame _ s' _ _ hst' (Nat.le_add_right _ _) fun b hb o e => ?_) hS2 hlen' hza2 hmem' hks2 fun s'' zs'' hm'' hS'' hl'' hmm'' => ?_⟩
    · rw [hsb'.2 b (fun h : b = S => hSf (by rw [← h]; exact hb))]; exact e
    · refine hR s'' zs'' (Moved.trans W.gtrans ((hm.mono hsub).then_heap (Nat.le_add_right _ _) fun b o hb e => ?_) hm'') hS'' hl'' hmm''
      rw [hsb'.2 b (fun h : b = S => hb (by rw [h]; exact List.mem_cons_self))]; exact e
end
section
variable {prog : Program} {w : World} {K : Type} [DecidableEq K] {knd : KeyKind prog w K} {A : Around} {E : Value → Shared → Prop} {s : Shared}
theorem ts_fresh {h : Heap} {a : Addr} (led : Bool) (ho : h.get? a = some { cls := .type "set", dict := none, data := .set #[] 0 (.fresh 0 0 led) }) : TS knd h a [] :=
  ⟨⟨_, #[], 0, _, ho, ⟨rfl, rfl, rfl⟩, rfl, rfl, ⟨rfl, rfl, List.Pairwise.nil, fun _ h => by simp at h⟩, .inl rfl, (by show 0 < 21; decide), Paths.nil _⟩, fun _ h => by simp at h, List.nodup_nil⟩
set_option maxRecDepth 100000 in
set_option maxHeartbeats 3200000 in
theorem call_set_tuples {l : Addr} {items : Array Value} {key : Nat → List K} {ad : Nat → Addr} {Q : Value → Shared → Prop}
    (hh : A.handled = none) (hu : A.units + 4 < cLine) (hsc : ∀ k v, knd.is k v = true → v.scannable = true) (hl : s.heap.IsList l items) (hi : ∀ (i : Nat) (v : Value), items[i]? = some v → v = Value.ref (ad i)) (hk : ∀ i, i < items.size → IsTupleKey knd s.heap (key i) (ad i)) (hb : items.size ≤ 18)
    (h : ∀ (h' : Heap) (tk : Nat) (zs : List (Ent K)), TS knd h' s.heap.objs.size zs → zs.length ≤ items.size → (∀ k', k' ∈ zs.map (·.2.2) ↔ ∃ j, j < items.size ∧ key j = k') →
      (∀ b o, b < s.heap.objs.size → s.heap.get? b = some o → h'.get? b = some o) → Q (.ref s.heap.objs.size) { s with heap := h', toks := tk }) :
    wpAny (model prog w) A (call (.type "set") [.ref l]) Q E s := by
  obtain ⟨c, tl, hmro⟩ := F.called_set.mro
  have hmade := F.called_set.made
  have hsub := F.called_set.sub
  refine wpAny_call (codeAny_of_tree ?_)
  show wpAny _ _ (callAny (.type "set") _) _ _ _
  refine wpAny_pure ⟨Code.quiet_builtin _ (by decide +kernel), codeAny_builtin F.entry_type_call ?_⟩
  rw [Around.under_plain (weight_type_call_type "set" [.ref l] []) rfl]
  have h1 := F.called_set.notType
  have h2 := F.called_set.canCreate
  have hct := F.typeCall_set_1 (.ref l)
  repeat (any_goals (first | assumption | wp_step))
  refine codeAny_mono (code_set_new_1 (.ref l) (E := E) (Q₁ := fun obj s₁ => ∃ led : Bool, obj = .ref s.heap.objs.size ∧ s₁ = { s with heap := s.heap.push { cls := .type "set", dict := none, data := .set #[] 0 (.fresh 0 0 led) } }) fun led => ⟨led, rfl, rfl⟩) fun r s₁ hr => ?_
  cases r with
  | error e => exact hr
  | ok fl =>
    cases fl with
    | ret obj =>
      obtain ⟨led, rfl, rfl⟩ := hr
      have hS : (s.heap.push { cls := .type "set", dict := none, data := .set #[] 0 (.fresh 0 0 led) }).get? s.heap.objs.size = some { cls := .type "set", dict := none, data := .set #[] 0 (.fresh 0 0 led) } := Heap.get?_push_size _ rfl
      have hT : Shared.TypeIs { s with heap := s.heap.push { cls := .type "set", dict := none, data := .set #[] 0 (.fresh 0 0 led) } } (.ref s.heap.objs.size) "set" := ⟨_, hS, rfl⟩
      have hli := F.called_set.init.lookup
      have hbi := F.called_set.init.bind (.ref s.heap.objs.size)
      repeat (any_goals (first | assumption | wp_step))
      refine codeAny_mono (codeAny_call_builtin (R := wants (fun r s₂ => r = .none ∧ ∃ h' tk zs, s₂ = { s with heap := h', toks := tk } ∧ TS knd h' s.heap.objs.size zs ∧ zs.length ≤ items.size ∧ (∀ k', k' ∈ zs.map (·.2.2) ↔ ∃ j, j < items.size ∧ key j = k') ∧
          (∀ b o, b < s.heap.objs.size → s.heap.get? b = some o → h'.get? b = some o)) E) F.called_set.init.plain F.entry_set_init (check_set_init_1 hT ?_)) fun r₂ s₂ hr₂ => ?_
      · obtain ⟨ol, hol, hcl, nl, hdl⟩ := hl
        obtain ⟨ocls, odict, odata, oslots⟩ := ol
        simp only at hcl hdl
        subst hcl; subst hdl
        have hol' : (s.heap.push { cls := .type "set", dict := none, data := .set #[] 0 (.fresh 0 0 led) }).get? l = some { cls := .type "list", dict := odict, data := .seq items nl, slots := oslots } := Heap.get?_push_of_some _ hol
        have hsls := F.sub_list_set
        have hslf := F.sub_list_frozenset
        have hne : (Value.type "list" == Value.type "dict") = false := by decide
        have hl1 : (s.heap.push { cls := .type "set", dict := none, data := .set #[] 0 (.fresh 0 0 led) }).IsList l items := ⟨_, hol', rfl, nl, rfl⟩
        unfold Builtin.«set.__init__» noKeywords Builtin.Frozenset.updateFrom
        generalize hPI : pyIter = PI
        wp_walk
        subst hPI
        refine wpAny_pyIter_list hl1 ?_
        refine wpAny_bind (wpAny_runValue ?_)
        have hlS : l < s.heap.objs.size := Heap.lt_size hol
        have hh3 : A.in1.in1.in1.handled = none := by simp [hh]
        have hneI : l ≠ (s.heap.push { cls := .type "set", dict := none, data := .set #[] 0 (.fresh 0 0 led) }).objs.size := by
          rw [Heap.size_push]; exact Nat.ne_of_lt (Nat.lt_succ_of_lt hlS)
        have hSf : s.heap.objs.size ∉ [(s.heap.push { cls := .type "set", dict := none, data := .set #[] 0 (.fresh 0 0 led) }).objs.size, l] := by
          rw [Heap.size_push]; simp only [List.mem_cons, List.mem_singleton, List.not_mem_nil, or_false, not_or]
          exact ⟨Nat.ne_of_lt (Nat.lt_succ_self _), Nat.ne_of_gt hlS⟩
        have hadlt : ∀ i, i < items.size → ad i < s.heap.objs.size := fun i hi' => by
          obtain ⟨o, _, _, ho, _⟩ := hk i hi'
          exact Heap.lt_size ho
        have hadl : ∀ i, i < items.size → ad i ≠ l := fun i hi' e => by
          obtain ⟨o, _, _, ho, hc, _⟩ := hk i hi'
          rw [e, hol] at ho
          cases ho
          have h' : Value.type "list" = Value.type "tuple" := hc
          injection h' with h'
          exact absurd h' (by decide)
        have had : ∀ i, i < items.size → ad i ∉ s.heap.objs.size :: [(s.heap.push { cls := .type "set", dict := none, data := .set #[] 0 (.fresh 0 0 led) }).objs.size, l] := fun i hi' => by
          rw [Heap.size_push]
          have q1 : ad i < s.heap.objs.size := hadlt i hi'
          have q2 := hadl i hi'
          simp only [List.mem_cons, List.mem_singleton, List.not_mem_nil, or_false, not_or]
          exact ⟨Nat.ne_of_lt q1, Nat.ne_of_lt (Nat.lt_succ_of_lt q1), q2⟩
        refine codeAny_set_update_loopT (knd := knd) ((Walks.list hh3 _ l hneI items).toS) s.heap.objs.size
          hSf (by simp [Around.in1_units]; omega) hsc key ad hi had hb (items.size - 0) 0 _ [] (by omega) (Nat.zero_le _)
          ⟨⟨_, Heap.get?_push_size _ rfl, rfl, rfl⟩, (hl1.push _)⟩ ?hS0 (Nat.zero_le _) (fun _ h => by simp at h) (fun k' => ⟨fun h => by simp at h, fun ⟨j, hj, _⟩ => by omega⟩) ?hks ?hR
        case hS0 =>
          exact ts_fresh led (Heap.get?_push_of_some _ hS)
        case hks =>
          intro j hj
          obtain ⟨o, its, m, ho, r⟩ := hk j hj
          exact ⟨o, its, m, Heap.get?_push_of_some _ (Heap.get?_push_of_some _ ho), r⟩
        case hR =>
          intro s' zs hm hS' hl' hm'
          obtain ⟨h', g', d', tk', os'⟩ := s'
          have eg : g' = s.gens := hm.gens
          have ed : d' = s.drawn := hm.drawn
          have eo : os' = s.os := hm.os
          subst eg; subst ed; subst eo
          show wpAny _ _ _ _ _ _
          refine wpAny_pure ?_
          show wpAny _ _ (ret Value.none) _ _ _
          refine wpAny_pure ⟨rfl, h', tk', zs, rfl, hS', hl', hm', fun b o hb e => ?_⟩
          have hb1 : b ≠ s.heap.objs.size := Nat.ne_of_lt hb
          have hb2 : b ≠ (s.heap.push { cls := .type "set", dict := none, data := .set #[] 0 (.fresh 0 0 led) }).objs.size := by
            rw [Heap.size_push]; exact Nat.ne_of_lt (Nat.lt_succ_of_lt hb)
          exact hm.heap b o (by simp only [List.mem_cons, List.mem_singleton, List.not_mem_nil, or_false, not_or]; exact ⟨hb1, hb2⟩) (Heap.get?_push_of_some _ (Heap.get?_push_of_some _ e))
      · cases r₂ with
        | error e => exact hr₂
        | ok fl₂ =>
          cases fl₂ with
          | ret r =>
            obtain ⟨rfl, h', tk, zs, rfl, hS', hl', hm', hk'⟩ := hr₂
            repeat (any_goals (first | assumption | wp_step))
            exact h _ _ zs hS' hl' hm' hk'
          | _ => exact hr₂.elim
    | _ => exact hr.elim
/-- len(set(..)) -/
theorem len_ts {a : Addr} {zs : List (Ent K)} {Q : Value → Shared → Prop} (hS : TS knd s.heap a zs) (hl : zs.length ≤ 18) (h : ∀ t tk, Q (.int zs.length t) { s with toks := tk }) : wpAny (model prog w) A (call (.builtin "len") [.ref a]) Q E s := by
  obtain ⟨⟨o, es, ep, t, ho, hex, hd, hes, T, hmask, hfull, hpath⟩, hk, hnd⟩ := hS
  have hlen : es.size = zs.length := by rw [← Array.length_toList, hes, List.length_map]
  refine call_len_set ho hex hd (fits_of T (by rw [List.length_map, hlen]) (by rw [hlen]; omega)) (by rw [hlen]; omega) ?_
  rw [hlen]
  exact h _ _
end
end TB

set_option linter.all false
namespace SRT
open PySem PySem.W PyProof.Rows
/-- the sort's questions answered by f -/
def run {α : Type} (f : Nat → Nat → Bool) : KasT α → α
  | .ret a => a
  | .ask i j k => run f (k (f i j))
theorem run_bind {α β : Type} (f : Nat → Nat → Bool) (g : α → KasT β) : ∀ t : KasT α, run f (t.bind g) = run f (g (run f t))
  | .ret a => rfl
  | .ask i j k => run_bind f g (k (f i j))
theorem wp_run {α : Type} {f : Nat → Nat → Bool} {cmp : Nat → Nat → (Bool → Shared → Prop) → Shared → Prop} {s : Shared} (hc : ∀ i j C, C (f i j) s → cmp i j C s) (Q : α → Shared → Prop) : ∀ t : KasT α, Q (run f t) s → t.kasWp cmp Q s
  | .ret a, h => h
  | .ask i j k, h => hc i j _ (wp_run hc Q (k (f i j)) h)
/-- what is asked on the way lies below n -/
def path {α : Type} (f : Nat → Nat → Bool) (n : Nat) : KasT α → Prop
  | .ret _ => True
  | .ask i j k => i < n ∧ j < n ∧ path f n (k (f i j))
theorem path_bind {α β : Type} {f : Nat → Nat → Bool} {n : Nat} {g : α → KasT β} : ∀ {t : KasT α}, path f n t → path f n (g (run f t)) → path f n (t.bind g)
  | .ret a, _, h => h
  | .ask i j k, h, h' => ⟨h.1, h.2.1, path_bind (t := k (f i j)) h.2.2 h'⟩
theorem wp_path {α : Type} {f : Nat → Nat → Bool} {n : Nat} {cmp : Nat → Nat → (Bool → Shared → Prop) → Shared → Prop} {s : Shared} (hc : ∀ i j C, i < n → j < n → C (f i j) s → cmp i j C s) (Q : α → Shared → Prop) : ∀ t : KasT α, path f n t → Q (run f t) s → t.kasWp cmp Q s
  | .ret a, _, h => h
  | .ask i j k, p, h => hc i j _ p.1 p.2.1 (wp_path hc Q (k (f i j)) p.2.2 h)
/-- a strict order of the numbers below n -/
structure Ord (f : Nat → Nat → Bool) (n : Nat) : Prop where
  irr : ∀ i, i < n → f i i = false
  tr : ∀ i j k, i < n → j < n → k < n → f i j = true → f j k = true → f i k = true
  tot : ∀ i j, i < n → j < n → i ≠ j → f i j = true ∨ f j i = true
section
variable {f : Nat → Nat → Bool} {n : Nat}
theorem Ord.asym (O : Ord f n) {i j : Nat} (hi : i < n) (hj : j < n) (h : f i j = true) : f j i = false := by
  cases e : f j i with
  | false => rfl
  | true => have := O.tr i j i hi hj hi h e; rw [O.irr i hi] at this; cases this
/-- a row of the numbers below n, each once -/
structure Row (n : Nat) (p : Array Nat) : Prop where
  perm : p.toList.Perm (List.range n)
theorem Row.size {p : Array Nat} (r : Row n p) : p.size = n := by have := r.perm.length_eq; simpa using this
theorem Row.lt {p : Array Nat} (r : Row n p) {i : Nat} (hi : i < n) : p.getD i 0 < n := by
  have hs := r.size
  have : p.getD i 0 ∈ p.toList := by
    rw [Array.getD_eq_getD_getElem?, Array.getElem?_eq_getElem (by omega)]
    exact Array.getElem_mem_toList (by omega)
  exact List.mem_range.mp (r.perm.mem_iff.mp this)
theorem Row.ne {p : Array Nat} (r : Row n p) {i j : Nat} (hi : i < n) (hj : j < n) (hij : i ≠ j) : p.getD i 0 ≠ p.getD j 0 := by
  have hs := r.size
  have nd : p.toList.Nodup := r.perm.nodup_iff.mpr List.nodup_range
  rw [Array.getD_eq_getD_getElem?, Array.getD_eq_getD_getElem?, Array.getElem?_eq_getElem (by omega), Array.getElem?_eq_getElem (by omega)]
  intro e
  have e' : p.toList[i]'(by simpa using (by omega : i < p.size)) = p.toList[j]'(by simpa using (by omega : j < p.size)) := by simpa using e
  exact hij ((List.getElem_inj nd).mp e')
theorem Row.rev {p : Array Nat} (r : Row n p) (i j : Nat) : Row n (kas_rev p i j) := ⟨(Array.perm_iff_toList_perm.mp (mirror_perm p i j _)).trans r.perm⟩
theorem Row.bub {p : Array Nat} (r : Row n p) (i j : Nat) : Row n (bubble p i j) := ⟨(Array.perm_iff_toList_perm.mp (bubble_perm p i j)).trans r.perm⟩
/-- rising up to m -/
def Up (f : Nat → Nat → Bool) (p : Array Nat) (m : Nat) : Prop := ∀ i j, i < j → j < m → f (p.getD i 0) (p.getD j 0) = true
theorem up_step (O : Ord f n) {p : Array Nat} (r : Row n p) {m : Nat} (hm : m < n) (h1 : 1 ≤ m) (u : Up f p m) (h : f (p.getD m 0) (p.getD (m - 1) 0) = false) : Up f p (m + 1) := by
  have hl : f (p.getD (m - 1) 0) (p.getD m 0) = true := by
    rcases O.tot _ _ (r.lt (i := m) hm) (r.lt (i := m - 1) (by omega)) (r.ne hm (by omega) (by omega)) with z | z
    · rw [h] at z; cases z
    · exact z
  intro i j hij hj
  by_cases e : j = m
  · subst e
    by_cases e2 : i = j - 1
    · rw [e2]; exact hl
    · exact O.tr _ _ _ (r.lt (by omega)) (r.lt (by omega)) (r.lt hm) (u i (j - 1) (by omega) (by omega)) hl
  · exact u i j hij (by omega)
theorem asc_ok (O : Ord f n) {p : Array Nat} (r : Row n p) : ∀ (fuel m : Nat), 1 ≤ m → m + fuel ≤ n → Up f p m →
    m ≤ run f (kas_asc p fuel m) ∧ run f (kas_asc p fuel m) ≤ m + fuel ∧ Up f p (run f (kas_asc p fuel m)) ∧ (run f (kas_asc p fuel m) < m + fuel → f (p.getD (run f (kas_asc p fuel m)) 0) (p.getD (run f (kas_asc p fuel m) - 1) 0) = true)
  | 0, m, _, _, u => ⟨Nat.le_refl _, Nat.le_refl _, u, fun h => absurd h (by simp [kas_asc, run])⟩
  | fuel + 1, m, h1, hm, u => by
    cases e : f (p.getD m 0) (p.getD (m - 1) 0) with
    | true =>
      have er : run f (kas_asc p (fuel + 1) m) = m := by
        show run f (if f (p.getD m 0) (p.getD (m - 1) 0) = true then KasT.ret m else kas_asc p fuel (m + 1)) = m
        rw [e, if_pos rfl]; rfl
      rw [er]
      exact ⟨Nat.le_refl _, by omega, u, fun _ => e⟩
    | false =>
      have er : run f (kas_asc p (fuel + 1) m) = run f (kas_asc p fuel (m + 1)) := by
        show run f (if f (p.getD m 0) (p.getD (m - 1) 0) = true then KasT.ret m else kas_asc p fuel (m + 1)) = _
        rw [e, if_neg (by simp)]
      rw [er]
      obtain ⟨a1, a2, a3, a4⟩ := asc_ok O r fuel (m + 1) (by omega) (by omega) (up_step O r (by omega) h1 u e)
      exact ⟨by omega, by omega, a3, fun h => a4 (by omega)⟩
/-- falling up to m -/
def Down (f : Nat → Nat → Bool) (p : Array Nat) (m : Nat) : Prop := ∀ i j, i < j → j < m → f (p.getD j 0) (p.getD i 0) = true
theorem desc_ok (O : Ord f n) {p : Array Nat} (r : Row n p) : ∀ (fuel m : Nat), 1 ≤ m → m + fuel ≤ n → Down f p m →
    ∃ m', run f (kas_desc fuel p m 0) = (p, m', 0) ∧ m ≤ m' ∧ m' ≤ m + fuel ∧ Down f p m'
  | 0, m, _, _, u => ⟨m, rfl, Nat.le_refl _, Nat.le_refl _, u⟩
  | fuel + 1, m, h1, hm, u => by
    cases e : f (p.getD m 0) (p.getD (m - 1) 0) with
    | true =>
      have er : run f (kas_desc (fuel + 1) p m 0) = run f (kas_desc fuel p (m + 1) 0) := by
        show run f (if f (p.getD m 0) (p.getD (m - 1) 0) = true then (if 0 > 0 then _ else kas_desc fuel p (m + 1) 0) else _) = _
        rw [e, if_pos rfl, if_neg (by omega)]
      rw [er]
      obtain ⟨m', a1, a2, a3, a4⟩ := desc_ok O r fuel (m + 1) (by omega) (by omega) (by
        intro i j hij hj
        by_cases ej : j = m
        · subst ej
          by_cases e2 : i = j - 1
          · rw [e2]; exact e
          · exact O.tr _ _ _ (r.lt (by omega)) (r.lt (i := j - 1) (by omega)) (r.lt (by omega)) e (u i (j - 1) (by omega) (by omega))
        · exact u i j hij (by omega))
      exact ⟨m', a1, by omega, by omega, a4⟩
    | false =>
      have e2 : f (p.getD (m - 1) 0) (p.getD m 0) = true := by
        rcases O.tot _ _ (r.lt (i := m) (by omega)) (r.lt (i := m - 1) (by omega)) (r.ne (by omega) (by omega) (by omega)) with z | z
        · rw [e] at z; cases z
        · exact z
      have er : run f (kas_desc (fuel + 1) p m 0) = (p, m, 0) := by
        show run f (if f (p.getD m 0) (p.getD (m - 1) 0) = true then _ else KasT.ask (p.getD (m - 1) 0) (p.getD m 0) fun d => if d = true then .ret (p, m, 0) else kas_desc fuel p (m + 1) (0 + 1)) = _
        rw [e, if_neg (by simp)]
        show run f (if f (p.getD (m - 1) 0) (p.getD m 0) = true then KasT.ret (p, m, 0) else kas_desc fuel p (m + 1) (0 + 1)) = _
        rw [e2, if_pos rfl]; rfl
      exact ⟨m, er, Nat.le_refl _, by omega, u⟩
theorem rev_get {p : Array Nat} {m : Nat} (hm : m ≤ p.size) (k : Nat) (hk : k < m) : (kas_rev p 0 m).getD k 0 = p.getD (m - 1 - k) 0 := by
  unfold kas_rev
  rw [Array.getD_eq_getD_getElem?, getElem?_mirror_all hm k, if_pos ⟨by omega, hk⟩, Array.getD_eq_getD_getElem?]
  congr 2
  omega
theorem up_rev {p : Array Nat} {m : Nat} (hm : m ≤ p.size) (d : Down f p m) : Up f (kas_rev p 0 m) m := by
  intro i j hij hj
  rw [rev_get hm i (by omega), rev_get hm j hj]
  exact d _ _ (by omega) (by omega)
theorem count_ok (O : Ord f n) {p : Array Nat} (r : Row n p) (h2 : 1 ≤ n) : ∃ m p', run f (kas_count n p) = (m, p') ∧ 1 ≤ m ∧ m ≤ n ∧ Row n p' ∧ Up f p' m := by
  obtain ⟨a1, a2, a3, a4⟩ := asc_ok O r (n - 1) 1 (by omega) (by omega) (by intro i j hij hj; omega)
  have er : run f (kas_count n p) = run f (if (run f (kas_asc p (n - 1) 1) == n) = true then KasT.ret (run f (kas_asc p (n - 1) 1), p) else if run f (kas_asc p (n - 1) 1) > 1 then .ask (p.getD 0 0) (p.getD (run f (kas_asc p (n - 1) 1) - 1) 0) fun c => if c = true then .ret (run f (kas_asc p (n - 1) 1), p) else kas_descPart (run f (kas_asc p (n - 1) 1)) n (kas_rev p 0 (run f (kas_asc p (n - 1) 1)))
    else kas_descPart (run f (kas_asc p (n - 1) 1)) n p) := by
    unfold kas_count
    rw [run_bind]
  rw [er]
  generalize run f (kas_asc p (n - 1) 1) = m at a1 a2 a3 a4 ⊢
  by_cases e : m = n
  · rw [if_pos (by simp [e])]
    exact ⟨m, p, rfl, a1, by omega, r, a3⟩
  · rw [if_neg (by simpa using e)]
    by_cases e1 : m > 1
    · rw [if_pos e1]
      refine ⟨m, p, ?_, a1, by omega, r, a3⟩
      show run f (if f (p.getD 0 0) (p.getD (m - 1) 0) = true then KasT.ret (m, p) else _) = _
      rw [a3 0 (m - 1) (by omega) (by omega), if_pos rfl]; rfl
    · rw [if_neg e1]
      have em : m = 1 := by omega
      subst em
      have hd := a4 (by omega)
      unfold kas_descPart
      obtain ⟨m', b1, b2, b3, b4⟩ := desc_ok O r (n - (1 + 1)) (1 + 1) (by omega) (by omega) (by
        intro i j hij hj
        have : i = 0 ∧ j = 1 := by omega
        rw [this.1, this.2]; exact hd)
      rw [run_bind, b1]
      dsimp only
      rw [if_neg (by omega)]
      unfold kas_tail3
      have hs := r.size
      have ur := up_rev (f := f) (by omega : m' ≤ p.size) b4
      obtain ⟨c1, c2, c3, c4⟩ := asc_ok O (r.rev 0 m') (n - m') m' (by omega) (by omega) ur
      rw [run_bind]
      exact ⟨_, _, rfl, by omega, by omega, r.rev 0 m', c3⟩
theorem place_ok (O : Ord f n) {p : Array Nat} (r : Row n p) {k : Nat} (hk : k < n) (u : Up f p k) : ∀ (fuel l r' : Nat), r' - l ≤ fuel → l ≤ r' → r' ≤ k →
    (∀ i, i < l → f (p.getD i 0) (p.getD k 0) = true) → (∀ i, r' ≤ i → i < k → f (p.getD k 0) (p.getD i 0) = true) →
    run f (kas_place p k fuel l r') ≤ k ∧ (∀ i, i < run f (kas_place p k fuel l r') → f (p.getD i 0) (p.getD k 0) = true) ∧ (∀ i, run f (kas_place p k fuel l r') ≤ i → i < k → f (p.getD k 0) (p.getD i 0) = true)
  | 0, l, r', h1, h2, h3, h4, h5 => by
    have : l = r' := by omega
    subst this
    exact ⟨h3, h4, h5⟩
  | fuel + 1, l, r', h1, h2, h3, h4, h5 => by
    unfold kas_place
    by_cases e : l ≥ r'
    · rw [if_pos e]
      have : l = r' := by omega
      subst this
      exact ⟨h3, h4, h5⟩
    · rw [if_neg e]
      have hmid : (l + r') / 2 < k := by omega
      cases c : f (p.getD k 0) (p.getD ((l + r') / 2) 0) with
      | true =>
        have er : run f (KasT.ask (p.getD k 0) (p.getD ((l + r') / 2) 0) fun c => if c = true then kas_place p k fuel l ((l + r') / 2) else kas_place p k fuel ((l + r') / 2 + 1) r') = run f (kas_place p k fuel l ((l + r') / 2)) := by
          show run f (if f (p.getD k 0) (p.getD ((l + r') / 2) 0) = true then _ else _) = _
          rw [c, if_pos rfl]
        rw [er]
        refine place_ok O r hk u fuel l _ (by omega) (by omega) (by omega) h4 (fun i hi hik => ?_)
        by_cases ei : i = (l + r') / 2
        · rw [ei]; exact c
        · exact O.tr _ _ _ (r.lt hk) (r.lt (i := (l + r') / 2) (by omega)) (r.lt (by omega)) c (u _ _ (by omega) hik)
      | false =>
        have er : run f (KasT.ask (p.getD k 0) (p.getD ((l + r') / 2) 0) fun c => if c = true then kas_place p k fuel l ((l + r') / 2) else kas_place p k fuel ((l + r') / 2 + 1) r') = run f (kas_place p k fuel ((l + r') / 2 + 1) r') := by
          show run f (if f (p.getD k 0) (p.getD ((l + r') / 2) 0) = true then _ else _) = _
          rw [c, if_neg (by simp)]
        rw [er]
        have c' : f (p.getD ((l + r') / 2) 0) (p.getD k 0) = true := by
          rcases O.tot _ _ (r.lt (i := k) hk) (r.lt (i := (l + r') / 2) (by omega)) (r.ne hk (by omega) (by omega)) with z | z
          · rw [c] at z; cases z
          · exact z
        refine place_ok O r hk u fuel _ r' (by omega) (by omega) h3 (fun i hi => ?_) h5
        by_cases ei : i = (l + r') / 2
        · rw [ei]; exact c'
        · exact O.tr _ _ _ (r.lt (by omega)) (r.lt (i := (l + r') / 2) (by omega)) (r.lt hk) (u i _ (by omega) (by omega)) c'
theorem bub_get {p : Array Nat} {k l : Nat} (hk : k < p.size) (hl : l ≤ k) (i : Nat) : (bubble p k (k - l)).getD i 0 = if i = l then p.getD k 0 else if l < i ∧ i ≤ k then p.getD (i - 1) 0 else p.getD i 0 := by
  simp only [Array.getD_eq_getD_getElem?]
  rw [getElem?_bubble hk (k - l) (by omega) i]
  have e : k - (k - l) = l := by omega
  rw [e]
  by_cases h1 : i = l
  · rw [if_pos h1, if_pos h1]
  · rw [if_neg h1, if_neg h1]
    by_cases h2 : l < i ∧ i ≤ k
    · rw [if_pos h2, if_pos h2]
    · rw [if_neg h2, if_neg h2]
theorem bin_ok (O : Ord f n) : ∀ (fuel : Nat) (p : Array Nat) (k : Nat), Row n p → k + fuel = n → Up f p k → Row n (run f (kas_bin fuel p k)) ∧ Up f (run f (kas_bin fuel p k)) n
  | 0, p, k, r, hk, u => by
    have : k = n := by omega
    subst this
    exact ⟨r, u⟩
  | fuel + 1, p, k, r, hk, u => by
    have hkn : k < n := by omega
    obtain ⟨a1, a2, a3⟩ := place_ok O r hkn u k 0 k (by omega) (by omega) (Nat.le_refl _) (fun i hi => by omega) (fun i h1 h2 => by omega)
    have er : run f (kas_bin (fuel + 1) p k) = run f (kas_bin fuel (bubble p k (k - run f (kas_place p k k 0 k))) (k + 1)) := by
      show run f ((kas_place p k k 0 k).bind fun l => kas_bin fuel (bubble p k (k - l)) (k + 1)) = _
      rw [run_bind]
    rw [er]
    generalize run f (kas_place p k k 0 k) = l at a1 a2 a3 ⊢
    have hs := r.size
    refine bin_ok O fuel _ (k + 1) (r.bub _ _) (by omega) ?_
    intro i j hij hj
    rw [bub_get (by omega) a1 i, bub_get (by omega) a1 j]
    by_cases ei : i = l
    · rw [if_pos ei, if_neg (by omega), if_pos ⟨by omega, by omega⟩]
      exact a3 (j - 1) (by omega) (by omega)
    · rw [if_neg ei]
      by_cases ej : j = l
      · rw [if_pos ej, if_neg (by omega)]
        exact a2 i (by omega)
      · rw [if_neg ej]
        by_cases hi2 : l < i ∧ i ≤ k
        · rw [if_pos hi2, if_pos ⟨by omega, by omega⟩]
          exact u _ _ (by omega) (by omega)
        · rw [if_neg hi2]
          by_cases hj2 : l < j ∧ j ≤ k
          · rw [if_pos hj2]
            by_cases e3 : i = j - 1
            · omega
            · exact u i (j - 1) (by omega) (by omega)
          · rw [if_neg hj2]
            exact u i j hij (by omega)
theorem asc_path {p : Array Nat} (r : Row n p) : ∀ (fuel m : Nat), 1 ≤ m → m + fuel ≤ n → path f n (kas_asc p fuel m)
  | 0, m, _, _ => trivial
  | fuel + 1, m, h1, hm => by
    refine ⟨r.lt (by omega), r.lt (by omega), ?_⟩
    show path f n (if f (p.getD m 0) (p.getD (m - 1) 0) = true then KasT.ret m else kas_asc p fuel (m + 1))
    split
    · exact trivial
    · exact asc_path r fuel (m + 1) (by omega) (by omega)
theorem desc_path (O : Ord f n) {p : Array Nat} (r : Row n p) : ∀ (fuel m : Nat), 1 ≤ m → m + fuel ≤ n → path f n (kas_desc fuel p m 0)
  | 0, m, _, _ => trivial
  | fuel + 1, m, h1, hm => by
    refine ⟨r.lt (by omega), r.lt (by omega), ?_⟩
    show path f n (if f (p.getD m 0) (p.getD (m - 1) 0) = true then (if 0 > 0 then _ else kas_desc fuel p (m + 1) 0) else KasT.ask (p.getD (m - 1) 0) (p.getD m 0) fun d => if d = true then .ret (p, m, 0) else kas_desc fuel p (m + 1) (0 + 1))
    cases e : f (p.getD m 0) (p.getD (m - 1) 0) with
    | true =>
      rw [if_pos rfl, if_neg (by omega)]
      exact desc_path O r fuel (m + 1) (by omega) (by omega)
    | false =>
      rw [if_neg (by simp)]
      have e2 : f (p.getD (m - 1) 0) (p.getD m 0) = true := by
        rcases O.tot _ _ (r.lt (i := m) (by omega)) (r.lt (i := m - 1) (by omega)) (r.ne (by omega) (by omega) (by omega)) with z | z
        · rw [e] at z; cases z
        · exact z
      refine ⟨r.lt (by omega), r.lt (by omega), ?_⟩
      dsimp only
      rw [e2, if_pos rfl]
      exact trivial
theorem count_path (O : Ord f n) {p : Array Nat} (r : Row n p) (h2 : 1 ≤ n) : path f n (kas_count n p) := by
  obtain ⟨a1, a2, a3, a4⟩ := asc_ok O r (n - 1) 1 (by omega) (by omega) (by intro i j hij hj; omega)
  unfold kas_count
  refine path_bind (asc_path r _ _ (by omega) (by omega)) ?_
  generalize run f (kas_asc p (n - 1) 1) = m at a1 a2 a3 a4 ⊢
  by_cases e : m = n
  · rw [if_pos (by simp [e])]; exact trivial
  · rw [if_neg (by simpa using e)]
    by_cases e1 : m > 1
    · rw [if_pos e1]
      refine ⟨r.lt (by omega), r.lt (by omega), ?_⟩
      dsimp only
      rw [a3 0 (m - 1) (by omega) (by omega), if_pos rfl]; exact trivial
    · rw [if_neg e1]
      have em : m = 1 := by omega
      subst em
      have hd := a4 (by omega)
      unfold kas_descPart
      refine path_bind (desc_path O r _ _ (by omega) (by omega)) ?_
      obtain ⟨m', b1, b2, b3, b4⟩ := desc_ok O r (n - (1 + 1)) (1 + 1) (by omega) (by omega) (by
        intro i j hij hj
        have : i = 0 ∧ j = 1 := by omega
        rw [this.1, this.2]; exact hd)
      rw [b1]
      dsimp only
      rw [if_neg (by omega)]
      unfold kas_tail3
      exact path_bind (asc_path (r.rev 0 m') _ _ (by omega) (by omega)) trivial
theorem place_path {p : Array Nat} (r : Row n p) {k : Nat} (hk : k < n) : ∀ (fuel l r' : Nat), r' ≤ k → path f n (kas_place p k fuel l r')
  | 0, l, r', _ => trivial
  | fuel + 1, l, r', h => by
    unfold kas_place
    by_cases e : l ≥ r'
    · rw [if_pos e]; exact trivial
    · rw [if_neg e]
      refine ⟨r.lt hk, r.lt (by omega), ?_⟩
      dsimp only
      split
      · exact place_path r hk fuel _ _ (by omega)
      · exact place_path r hk fuel _ _ h
theorem bin_path (O : Ord f n) : ∀ (fuel : Nat) (p : Array Nat) (k : Nat), Row n p → k + fuel = n → Up f p k → path f n (kas_bin fuel p k)
  | 0, p, k, r, hk, u => trivial
  | fuel + 1, p, k, r, hk, u => by
    have hkn : k < n := by omega
    show path f n ((kas_place p k k 0 k).bind fun l => kas_bin fuel (bubble p k (k - l)) (k + 1))
    refine path_bind (place_path r hkn _ _ _ (Nat.le_refl _)) ?_
    obtain ⟨a1, a2, a3⟩ := place_ok O r hkn u k 0 k (by omega) (by omega) (Nat.le_refl _) (fun i hi => by omega) (fun i h1 h2 => by omega)
    generalize run f (kas_place p k k 0 k) = l at a1 a2 a3 ⊢
    have hs := r.size
    refine bin_path O fuel _ (k + 1) (r.bub _ _) (by omega) ?_
    intro i j hij hj
    rw [bub_get (by omega) a1 i, bub_get (by omega) a1 j]
    by_cases ei : i = l
    · rw [if_pos ei, if_neg (by omega), if_pos ⟨by omega, by omega⟩]
      exact a3 (j - 1) (by omega) (by omega)
    · rw [if_neg ei]
      by_cases ej : j = l
      · rw [if_pos ej, if_neg (by omega)]
        exact a2 i (by omega)
      · rw [if_neg ej]
        by_cases hi2 : l < i ∧ i ≤ k
        · rw [if_pos hi2, if_pos ⟨by omega, by omega⟩]
          exact u _ _ (by omega) (by omega)
        · rw [if_neg hi2]
          by_cases hj2 : l < j ∧ j ≤ k
          · rw [if_pos hj2]
            by_cases e3 : i = j - 1
            · omega
            · exact u i (j - 1) (by omega) (by omega)
          · rw [if_neg hj2]
            exact u i j hij (by omega)
theorem sort_path (O : Ord f n) (h : 1 ≤ n) : path f n (kas_sort n) := by
  have r0 : Row n (List.toArray (List.range n)) := ⟨by simp⟩
  obtain ⟨m, p', e, h1, h2, r, u⟩ := count_ok O r0 h
  unfold kas_sort
  refine path_bind (count_path O r0 h) ?_
  rw [e]
  dsimp only
  by_cases hm : m < n
  · rw [if_pos hm]
    have : max m 1 = m := by omega
    rw [this]
    exact bin_path O (n - m) p' m r (by omega) u
  · rw [if_neg hm]; exact trivial
/-- the row that the sort comes to -/
theorem sort_ok (O : Ord f n) (h : 1 ≤ n) : Row n (run f (kas_sort n)) ∧ Up f (run f (kas_sort n)) n := by
  have r0 : Row n (List.toArray (List.range n)) := ⟨by simp⟩
  obtain ⟨m, p', e, h1, h2, r, u⟩ := count_ok O r0 h
  unfold kas_sort
  rw [run_bind, e]
  dsimp only
  by_cases hm : m < n
  · rw [if_pos hm]
    have : max m 1 = m := by omega
    rw [this]
    exact bin_ok O (n - m) p' m r (by omega) u
  · rw [if_neg hm]
    have : m = n := by omega
    subst this
    exact ⟨r, u⟩
end
section
variable {prog : Program} {w : World} {A : Around} {E : Value → Shared → Prop} {s : Shared}
theorem list_sort_by {f : Nat → Nat → Bool} {a : Addr} {vs : List Value} {n : Nat} {κ : SortKind} {P : PySem.Fin → Shared → Prop} (O : Ord f vs.length) (ho : s.heap.get? a = some (seqObj "list" vs.toArray n)) (h64 : vs.length < 64)
    (hk : ∀ s' : Shared, (∀ b o, b ≠ a → s.heap.get? b = some o → s'.heap.get? b = some o) → ∀ Q : SortKind → Shared → Prop, 2 ≤ vs.length → Q κ s' → wpAny (model prog w) A (keyKind' vs.toArray) Q (fun _ _ => False) s')
    (hlt : ∀ s' : Shared, (∀ b o, b ≠ a → s.heap.get? b = some o → s'.heap.get? b = some o) → ∀ (i j : Nat) (C : Bool → Shared → Prop), i < vs.length → j < vs.length → C (f i j) s' → wpAny (model prog w) A (keyLt' κ (vs.getD i Value.none) (vs.getD j Value.none)) C (fun _ _ => False) s')
    (h : ∀ p : Array Nat, Row vs.length p → Up f p vs.length → P (.done (.ret .none)) { s with heap := sortedHeap s.heap a vs (List.toArray (p.toList.map fun i => vs.getD i Value.none)) }) :
    wpAny (model prog w) A (Builtin.«list.sort» ⟨[.ref a], []⟩) P E s := by
  have ha : a < s.heap.objs.size := Heap.lt_size ho
  have s1 := Heap.SameBut.update s.heap a (Obj.mapSeq fun _ => (#[] : Array Value))
  obtain ⟨e1, ho1⟩ : ∃ e1, (s.heap.update a (Obj.mapSeq fun _ => (#[] : Array Value))).get? a = some (seqObj "list" #[] e1) := ⟨_, get?_update_seq ho fun _ => #[]⟩
  rw [list_sort_plain]
  refine wpAny_bind (listItems_at ho rfl ?_)
  refine wpAny_bind (listUpdate_at ho rfl ?_ (by rw [List.size_toArray, sizeLine_eq]; omega) (Nat.zero_le _))
  refine wpAny_bind (seqEpoch_at ho1 rfl ?_)
  refine wpAny_bind (wpAny_newTuple ?_ (by show vs.length ≤ _; rw [sizeLine_eq]; omega))
  refine wpAny_bind (wpAny_newList ?_ (Nat.zero_le _))
  refine wpAny_holding ?_
  have ho6 : (((s.heap.update a (Obj.mapSeq fun _ => (#[] : Array Value))).push (seqObj "tuple" vs.toArray 0)).push (seqObj "list" #[] 0)).get? a = some (seqObj "list" #[] e1) := Heap.get?_push_of_some _ (Heap.get?_push_of_some _ ho1)
  have keep : ∀ b o, b ≠ a → s.heap.get? b = some o → (((s.heap.update a (Obj.mapSeq fun _ => (#[] : Array Value))).push (seqObj "tuple" vs.toArray 0)).push (seqObj "list" #[] 0)).get? b = some o := fun b o hb e =>
    Heap.get?_push_of_some _ (Heap.get?_push_of_some _ ((s1.2 b hb).trans e))
  show wpAny (model prog w) A _ P E { s with heap := ((s.heap.update a (Obj.mapSeq fun _ => (#[] : Array Value))).push (seqObj "tuple" vs.toArray 0)).push (seqObj "list" #[] 0) }
  dsimp only
  by_cases hn2 : vs.toArray.size < 2
  · rw [if_pos hn2, if_pos hn2]
    refine wpAny_bind (wpAny_pure ?_)
    rw [StateT.run_pure]
    refine wpAny_bind (wpAny_pure ?_)
    dsimp only
    have hn2' : vs.length < 2 := by simpa using hn2
    have hr : Row vs.length (List.toArray (List.range vs.length)) := ⟨by simp⟩
    have hu : Up f (List.toArray (List.range vs.length)) vs.length := fun i j hij hj => by omega
    have e2 : (arrOf (SortSt.mk' general' (vs.toArray.zip vs.toArray) #[] 7 none)).map (·.2) = List.toArray ((List.toArray (List.range vs.length)).toList.map fun i => vs.getD i Value.none) := by
      show (vs.toArray.zip vs.toArray).map (·.2) = _
      apply Array.toList_inj.mp
      match vs, hn2' with
      | [], _ => simp
      | [v], _ => simp
    refine wpAny_bind (seqEpoch_at ho6 rfl ?_)
    rw [e2]
    refine wpAny_bind (listUpdate_at ho6 rfl ?_ (Nat.zero_le _) (by rw [List.size_toArray, List.length_map, Array.length_toList, hr.size, sizeLine_eq]; omega))
    show wpAny _ _ (if (e1 != e1) = true then _ else _) _ _ _
    simp only [bne_self_eq_false, Bool.false_eq_true, if_false]
    exact wpAny_pure (h _ hr hu)
  · have hn2' : 2 ≤ vs.length := by rw [List.size_toArray] at hn2; omega
    rw [if_neg hn2, if_neg hn2]
    refine wpAny_bind (wpAny_mono (hk { s with heap := ((s.heap.update a (Obj.mapSeq fun _ => (#[] : Array Value))).push (seqObj "tuple" vs.toArray 0)).push (seqObj "list" #[] 0) } keep (fun k' s' => k' = κ ∧ s' = { s with heap := ((s.heap.update a (Obj.mapSeq fun _ => (#[] : Array Value))).push (seqObj "tuple" vs.toArray 0)).push (seqObj "list" #[] 0) }) hn2' ⟨rfl, rfl⟩) (fun κ' s0 ⟨ek, es⟩ => ?_) fun _ _ x => x.elim)
    subst ek es
    obtain ⟨hrow, hup⟩ := sort_ok O (by omega : 1 ≤ vs.length)
    refine wpAny_bind (wpAny_mono (kat_run (Q := fun st' s' => ∃ p : Array Nat, p.size = vs.length ∧ arrOf st' = p.map (kas_item (vs.toArray.zip vs.toArray)) ∧ failedOf st' = none ∧ p = run f (kas_sort vs.length) ∧ s' = { s with heap := ((s.heap.update a (Obj.mapSeq fun _ => (#[] : Array Value))).push (seqObj "tuple" vs.toArray 0)).push (seqObj "list" #[] 0) })
      rfl hn2' h64 (fun p' st' s' a1 a2 a3 a4 => ⟨p', a1, a2, a3, a4⟩) (wp_path (n := vs.length) (fun i j C hi hj hC => hlt _ keep i j C hi hj hC) (fun p s' => p = run f (kas_sort vs.length) ∧ s' = { s with heap := ((s.heap.update a (Obj.mapSeq fun _ => (#[] : Array Value))).push (seqObj "tuple" vs.toArray 0)).push (seqObj "list" #[] 0) }) _ (sort_path O (by omega)) ⟨rfl, rfl⟩)) ?_ fun _ _ e => e)
    rintro ⟨⟨⟩, st'⟩ s' ⟨p, hp, har, hf, ep, es⟩
    subst es
    dsimp only
    have hout := kat_snds (ks := vs) rfl har
    refine wpAny_bind (seqEpoch_at ho6 rfl ?_)
    rw [hout]
    refine wpAny_bind (listUpdate_at ho6 rfl ?_ (Nat.zero_le _) (by rw [List.size_toArray, List.length_map, Array.length_toList, hp, sizeLine_eq]; omega))
    rw [hf]
    simp only [bne_self_eq_false, Bool.false_eq_true, if_false]
    rw [ep]
    exact wpAny_pure (h _ hrow hup)
/-- sorted(l) -/
theorem sorted_by {f : Nat → Nat → Bool} {l : Addr} {vs : List Value} {κ : SortKind} {Q : Value → Shared → Prop} (O : Ord f vs.length) (hl : s.heap.IsList l vs.toArray) (h64 : vs.length < 64)
    (hk : ∀ (A' : Around) (s' : Shared), A'.units ≤ A.units + 2 → (∀ b o, s.heap.get? b = some o → s'.heap.get? b = some o) → ∀ Q : SortKind → Shared → Prop, 2 ≤ vs.length → Q κ s' → wpAny (model prog w) A' (keyKind' vs.toArray) Q (fun _ _ => False) s')
    (hlt : ∀ (A' : Around) (s' : Shared), A'.units ≤ A.units + 2 → (∀ b o, s.heap.get? b = some o → s'.heap.get? b = some o) → ∀ (i j : Nat) (C : Bool → Shared → Prop), i < vs.length → j < vs.length → C (f i j) s' → wpAny (model prog w) A' (keyLt' κ (vs.getD i Value.none) (vs.getD j Value.none)) C (fun _ _ => False) s')
    (h : ∀ (p : Array Nat) (h' : Heap), Row vs.length p → Up f p vs.length → (∀ b o, s.heap.get? b = some o → h'.get? b = some o) → s.heap.objs.size ≤ s.heap.objs.size + 1 → (∃ k, h'.get? (s.heap.objs.size + 1) = some (seqObj "list" (List.toArray (p.toList.map fun i => vs.getD i Value.none)) k)) → Q (.ref (s.heap.objs.size + 1)) { s with heap := h' }) :
    wpAny (model prog w) A (call (.builtin "sorted") [.ref l]) Q E s := by
  refine Calls.call_function_entry kind_sorted plain_sorted entry_sorted (args_sorted1 _) ?_
  unfold Builtin.«sorted»
  refine wpAny_bind (m := checkCount "sorted" 1 1 _) (wpAny_pure ?_)
  refine wpAny_bind (collect_list hl ?_ (by rw [sizeLine_eq]; omega))
  refine wpAny_bind (wpAny_newList ?_ (by rw [sizeLine_eq]; omega))
  have hsz : ((s.heap.push (seqObj "list" #[] 0)).update s.heap.objs.size (Obj.mapSeq (· ++ vs.toArray))).objs.size = s.heap.objs.size + 1 := by
    rw [Heap.size_update, size_push']
  have hoL : (((s.heap.push (seqObj "list" #[] 0)).update s.heap.objs.size (Obj.mapSeq (· ++ vs.toArray))).push (seqObj "list" vs.toArray 0)).get? (s.heap.objs.size + 1) = some (seqObj "list" vs.toArray 0) := by
    rw [← hsz]; exact Heap.get?_push_size _ rfl
  have keep : ∀ b o, s.heap.get? b = some o → (((s.heap.push (seqObj "list" #[] 0)).update s.heap.objs.size (Obj.mapSeq (· ++ vs.toArray))).push (seqObj "list" vs.toArray 0)).get? b = some o := fun b o q => by
    have hlt : b < s.heap.objs.size := Heap.lt_size q
    rw [Heap.get?_push_ne _ _ _ (by rw [hsz]; exact Nat.ne_of_lt (Nat.lt_succ_of_lt hlt)), Heap.get?_update_ne _ _ _ _ (Nat.ne_of_lt hlt), Heap.get?_push_ne _ _ _ (Nat.ne_of_lt hlt)]
    exact q
  have neD : ∀ b o, s.heap.get? b = some o → b ≠ s.heap.objs.size + 1 := fun b o q => Nat.ne_of_lt (Nat.lt_succ_of_lt (Heap.lt_size q))
  show wpAny _ _ _ _ _ { s with heap := ((s.heap.push (seqObj "list" #[] 0)).update s.heap.objs.size (Obj.mapSeq (· ++ vs.toArray))).push (seqObj "list" vs.toArray 0) }
  rw [hsz]
  refine wpAny_bind (wpAny_holding (wpAny_call_entry slot_list_sort ⟨_, hoL, rfl⟩ entry_list_sort (list_sort_by (κ := κ) (s := { s with heap := ((s.heap.push (seqObj "list" #[] 0)).update s.heap.objs.size (Obj.mapSeq (· ++ vs.toArray))).push (seqObj "list" vs.toArray 0) }) O hoL h64 ?_ ?_ fun p hr hu => ⟨_, rfl, ?_⟩) (args_list_sort _)))
  · intro s' hs' Q' h2 hq
    exact hk _ s' (by simp [Around.in1_units]) (fun b o e => hs' b o (neD b o e) (keep b o e)) Q' h2 hq
  · intro s' hs' i j C hi hj hC
    exact hlt _ s' (by simp [Around.in1_units]) (fun b o e => hs' b o (neD b o e) (keep b o e)) i j C hi hj hC
  · refine wpAny_pure ⟨_, rfl, h p _ hr hu (fun b o e => ?_) (Nat.le_succ _) ?_⟩
    · unfold sortedHeap
      rw [Heap.get?_update_ne _ _ _ _ (neD b o e)]
      refine Heap.get?_push_of_some _ (Heap.get?_push_of_some _ ?_)
      rw [Heap.get?_update_ne _ _ _ _ (neD b o e)]
      exact keep b o e
    · unfold sortedHeap
      obtain ⟨e1, ho1⟩ : ∃ e1, ((((s.heap.push (seqObj "list" #[] 0)).update s.heap.objs.size (Obj.mapSeq (· ++ vs.toArray))).push (seqObj "list" vs.toArray 0)).update (s.heap.objs.size + 1) (Obj.mapSeq fun _ => (#[] : Array Value))).get? (s.heap.objs.size + 1) = some (seqObj "list" #[] e1) := ⟨_, get?_update_seq hoL fun _ => #[]⟩
      exact ⟨_, get?_update_seq (Heap.get?_push_of_some _ (Heap.get?_push_of_some _ ho1)) _⟩
end
end SRT

set_option Elab.async false
set_option linter.all false
set_option maxRecDepth 100000
/-! THE HAND LAYER, for ints, bools, texts, own classes, LISTS and tuples (index, slices, in, append, pop ..), calls, loops. Paste it whole ahead of your own text; what your proof does not reach may be deleted. -/
namespace L2
open PySem PySem.Spec PyProof.Rows

/-- a key: an int or a str -/
abbrev Key := Sum Int Str
def keyIs : Key → Value → Bool
  | .inl k, v => Value.isInt k v
  | .inr x, v => Value.isStrOf x v
def keyH (w : World) : Key → Int
  | .inl k => hashInt k
  | .inr x => hashStr w x
theorem keyIs_shape : ∀ {k : Key} {v : Value}, keyIs k v = true → (∃ i t, k = Sum.inl i ∧ v = Value.int i t) ∨ (∃ x t, k = Sum.inr x ∧ v = Value.str x t)
  | .inl i, v, h => by
    obtain ⟨t, e⟩ := Value.isInt_shape (k := i) (v := v) h
    exact .inl ⟨i, t, rfl, e⟩
  | .inr x, v, h => by
    obtain ⟨t, e⟩ := Value.isStrOf_shape (x := x) (v := v) h
    exact .inr ⟨x, t, rfl, e⟩
theorem keyIs_int (i : Int) (t : Tok) : keyIs (.inl i) (.int i t) = true := by simp [keyIs, Value.isInt]
theorem keyIs_str (x : Str) (t : Tok) : keyIs (.inr x) (.str x t) = true := by simp [keyIs, Value.isStrOf]
theorem key_ll (a b : Int) : decide ((Sum.inl a : Key) = Sum.inl b) = (a == b) := by
  by_cases e : a = b
  · subst e; simp
  · have h : ¬ (Sum.inl a : Key) = Sum.inl b := fun q => e (Sum.inl.inj q)
    rw [decide_eq_false h]
    exact (beq_eq_false_iff_ne.mpr e).symm
theorem key_rr (a b : Str) : decide ((Sum.inr a : Key) = Sum.inr b) = decide (a = b) := by
  by_cases e : a = b
  · subst e; simp
  · have h : ¬ (Sum.inr a : Key) = Sum.inr b := fun q => e (Sum.inr.inj q)
    rw [decide_eq_false h, decide_eq_false e]
theorem key_lr (a : Int) (b : Str) : decide ((Sum.inl a : Key) = Sum.inr b) = false := decide_eq_false (fun q => nomatch q)
theorem key_rl (a : Str) (b : Int) : decide ((Sum.inr a : Key) = Sum.inl b) = false := decide_eq_false (fun q => nomatch q)

def mixKind (prog : Program) (w : World) : PySem.KeyKind prog w Key where
  is := keyIs
  hash := keyH w
  inj := fun v a b ha hb => by
    rcases keyIs_shape ha with ⟨i, t, rfl, rfl⟩ | ⟨x, t, rfl, rfl⟩
    · rcases keyIs_shape hb with ⟨j, u, rfl, e⟩ | ⟨y, u, rfl, e⟩
      · injection e with e1 _; rw [e1]
      · exact nomatch e
    · rcases keyIs_shape hb with ⟨j, u, rfl, e⟩ | ⟨y, u, rfl, e⟩
      · exact nomatch e
      · injection e with e1 _; rw [e1]
  byValue := fun k v h => by
    rcases keyIs_shape h with ⟨i, t, rfl, rfl⟩ | ⟨x, t, rfl, rfl⟩ <;> rfl
  pyHash := fun hv h => by
    rcases keyIs_shape hv with ⟨i, t, rfl, rfl⟩ | ⟨x, t, rfl, rfl⟩
    · exact wpAny_pyHash_int h
    · exact wpAny_pyHash_str h
  eqBool := fun hu hv h => by
    rcases keyIs_shape hu with ⟨i, t, rfl, rfl⟩ | ⟨x, t, rfl, rfl⟩
    · rcases keyIs_shape hv with ⟨j, u, rfl, rfl⟩ | ⟨y, u, rfl, rfl⟩
      · rw [key_ll] at h; exact wpAny_eqBool_int h
      · rw [key_lr] at h; exact SeqAt.EqAt.int_str i t y u _ _ _ _ h
    · rcases keyIs_shape hv with ⟨j, u, rfl, rfl⟩ | ⟨y, u, rfl, rfl⟩
      · rw [key_rl] at h; exact SeqAt.EqAt.str_int x t j u _ _ _ _ h
      · rw [key_rr] at h; exact wpAny_eqBool_str h
  «strs» := fun k x t v h => by
    rcases keyIs_shape h with ⟨i, u, rfl, e⟩ | ⟨y, u, rfl, e⟩
    · exact nomatch e
    · injection e with e1 _
      subst e1
      cases v <;> rfl

theorem mixKind_is (prog : Program) (w : World) (k : Key) (v : Value) : (mixKind prog w).is k v = keyIs k v := rfl
theorem mixKind_int (prog : Program) (w : World) (i : Int) (t : Tok) : (mixKind prog w).is (.inl i) (.int i t) = true := keyIs_int i t
theorem mixKind_str (prog : Program) (w : World) (x : Str) (t : Tok) : (mixKind prog w).is (.inr x) (.str x t) = true := keyIs_str x t
end L2

namespace L2
open PySem PySem.Spec PyProof.Rows

/-- a value, without the heap -/
inductive V where
  | non | bl (b : Bool) | int (i : Int) | str (x : Str) | byt (b : Array UInt8) | flt (b : UInt64) | ref (a : Addr) | ty (n : String)
  deriving DecidableEq

def RelV : V → Value → Prop
  | .non, u => u = Value.none
  | .bl b, u => u = Value.bool b
  | .int i, u => ∃ t, u = Value.int i t
  | .str x, u => ∃ t, u = Value.str x t
  | .byt b, u => ∃ t, u = Value.bytes b t
  | .flt b, u => ∃ t, u = Value.float b t
  | .ref a, u => u = Value.ref a
  | .ty n, u => u = Value.type n

abbrev Vals : List V → List Value → Prop := Paired RelV
theorem Vals.length {xs : List V} {us : List Value} (r : Vals xs us) : xs.length = us.length := Paired.length r
theorem Vals.get : ∀ {xs : List V} {us : List Value} {i : Nat} {x : V}, Vals xs us → xs[i]? = some x → ∃ u, us[i]? = some u ∧ RelV x u
  | _, _, _, _, .nil, e => by simp at e
  | _, _, 0, _, .cons r _, e => by simp at e; subst e; exact ⟨_, rfl, r⟩
  | _, _, i + 1, x, .cons _ t, e => by
    obtain ⟨u, h1, h2⟩ := Vals.get (i := i) (x := x) t (by simpa using e)
    exact ⟨u, by simpa using h1, h2⟩
theorem Vals.set {x : V} {u : Value} (r : RelV x u) : ∀ {xs : List V} {us : List Value} (i : Nat), Vals xs us → Vals (xs.set i x) (us.set i u)
  | _, _, _, .nil => .nil
  | _, _, 0, .cons _ t => .cons r t
  | _, _, i + 1, .cons q t => .cons q (Vals.set r i t)
theorem Vals.append : ∀ {xs ys : List V} {us ws : List Value}, Vals xs us → Vals ys ws → Vals (xs ++ ys) (us ++ ws)
  | _, _, _, _, .nil, s => s
  | _, _, _, _, .cons r t, s => .cons r (Vals.append t s)
theorem Vals.take : ∀ {xs : List V} {us : List Value} (n : Nat), Vals xs us → Vals (xs.take n) (us.take n)
  | _, _, 0, _ => .nil
  | _, _, _ + 1, .nil => .nil
  | _, _, n + 1, .cons r t => .cons r (Vals.take n t)
theorem Vals.drop : ∀ {xs : List V} {us : List Value} (n : Nat), Vals xs us → Vals (xs.drop n) (us.drop n)
  | _, _, 0, r => r
  | _, _, _ + 1, .nil => .nil
  | _, _, n + 1, .cons _ t => Vals.drop n t
theorem Vals.none_of : ∀ {xs : List V} {us : List Value} {i : Nat}, Vals xs us → xs[i]? = none → us[i]? = none := fun {xs us i} r e => by
  have h1 := r.length
  have h2 : xs.length ≤ i := List.getElem?_eq_none_iff.mp e
  exact List.getElem?_eq_none_iff.mpr (by omega)

def RelO : Option V → Option Value → Prop
  | some v, some u => RelV v u
  | none, none => True
  | _, _ => False
def KV {κ : Type} : List (κ × V) → List (κ × Value) → Prop := Paired fun (p : κ × V) (q : κ × Value) => p.1 = q.1 ∧ RelV p.2 q.2

/-- a key of a dict (00_mix): an int or a text -/
def kV : Key → V
  | .inl i => .int i
  | .inr x => .str x

/-- what stands at a tracked address -/
inductive HO where
  /-- a list -/
  | lst (xs : List V)
  /-- a tuple (never changes) -/
  | tup (xs : List V)
  /-- a dict whose keys are ints and texts; one whose keys are tuples of ints and texts (the empty one is both) -/
  | dK (kvs : List (Key × V)) | dT (kvs : List (List Key × V))
  /-- a set of ints: its members, its size -/
  | set (S : Int → Bool) (n : Nat)
  /-- an instance of the class at C, its dict at dx, its attributes -/
  | ins (C dx : Addr) (fs : List (Str × V))
  /-- the dict of the instance at x -/
  | own (x : Addr)
  /-- the dict of an exception -/
  | xd (fs : List (Str × V))
  /-- a bound method, f of x -/
  | met (f x : Addr)
  /-- a range object lo, lo + 1, .. below hi -/
  | rng (lo hi : Int)
  /-- a thing that is known to the object (the script; a dict while a loop walks it): read, never written while it is so -/
  | frz (o : Obj) (u : HO)
  /-- a code object's table -/
  | tbl (ps : Array Value)
  /-- any other thing, by what is true of its one object (a def of one's own: SetO a S n := HO.ext fun h => ..) -/
  | ext (φ : Heap → Prop)

abbrev Hp := Addr → Option HO
def upd (H : Hp) (a : Addr) (o : HO) : Hp := fun b => if b = a then some o else H b
theorem upd_same {H : Hp} {a : Addr} {o : HO} : upd H a o a = some o := by unfold upd; rw [if_pos rfl]
theorem upd_ne {H : Hp} {a b : Addr} {o : HO} (h : b ≠ a) : upd H a o b = H b := by unfold upd; rw [if_neg h]
theorem upd_upd {H : Hp} {a : Addr} {o u : HO} : upd (upd H a o) a u = upd H a u := by
  funext b; unfold upd; split <;> rfl
/-- two objects of different content stand apart -/
theorem ne_of {H : Hp} {a b : Addr} {o u : HO} (h : H a = some o) (h' : H b = some u) (d : o ≠ u) : a ≠ b := by
  intro e; subst e; rw [h] at h'; exact d (Option.some.inj h')
theorem ne_of_none {H : Hp} {a b : Addr} {o : HO} (h : H a = some o) (h' : H b = none) : a ≠ b := by
  intro e; subst e; rw [h] at h'; cases h'

section
variable (P : Program) (w : World)
def ObjOk (H : Hp) (h : Heap) (a : Addr) : HO → Prop
  | .lst xs => xs.length ≤ sizeLine ∧ ∃ (its : List Value) (n : Nat), Vals xs its ∧ h.get? a = some { cls := .type "list", data := .seq its.toArray n }
  | .tup xs => xs.length ≤ sizeLine ∧ ∃ its : List Value, Vals xs its ∧ IsTup h a its.toArray
  | .dK kvs => kvs.length ≤ sizeLine ∧ (a == sysModules) = false ∧ ∃ vs, KV kvs vs ∧ h.DictOf (mixKind P w) a vs
  | .dT kvs => kvs.length ≤ sizeLine ∧ (a == sysModules) = false ∧ ∃ xs : List (List Key × Addr × Value),
      Paired (fun (p : List Key × V) (q : List Key × Addr × Value) => p.1 = q.1 ∧ H q.2.1 = some (.tup (p.1.map kV)) ∧ RelV p.2 q.2.2) kvs xs ∧
      ∃ o es ep, h.get? a = some o ∧ o.ExactDict ∧ o.data = .dict es ep ∧ es.toList = xs.map (entryOfKey (tupleKind (mixKind P w))) ∧ (xs.map (·.1)).Nodup
  | .set S n => h.SetOf (intKind P w) a S n
  | .ins C dx fs => H dx = some (.own a) ∧ fs.length ≤ 1000 ∧ dx ≠ a ∧ h.get? a = some (PySem.W.instObj C dx) ∧
      ∃ mA, h.Ns1 dx mA ∧ (∀ f, RelO (fs.lookup f) (mA f)) ∧ PySem.Within mA (fs.map (·.1))
  | .own _ => ∃ o, h.get? a = some o
  | .xd fs => ∃ mA, h.Ns1 a mA ∧ ∀ f, RelO (fs.lookup f) (mA f)
  | .rng lo hi => ∃ t u v, h.get? a = some { cls := .type "range", data := .fields #[.int lo t, .int hi u, .int 1 v] }
  | .frz o u => h.get? a = some o ∧ ObjOk H h a u
  | .tbl ps => h.get? a = some { cls := .none, data := .fields ps }
  | .met f x => h.get? a = some (PySem.W.methodObj (.ref f) (.ref x))
  | .ext φ => φ h ∧ (∃ o, h.get? a = some o) ∧ ∀ h1 h2 : Heap, φ h1 → (∀ o, h1.get? a = some o → h2.get? a = some o) → φ h2
/-- the abstract heap is held -/
def HOk (H : Hp) (h : Heap) : Prop := ∀ a o, H a = some o → ObjOk P w H h a o
end

section
variable {P : Program} {w : World} {H H' : Hp} {h h' : Heap} {a : Addr} {o : HO}
theorem ObjOk.lt (x : ObjOk P w H h a o) : a < h.objs.size := by
  cases o with
  | lst xs => obtain ⟨_, _, _, _, e⟩ := x; exact Heap.lt_size e
  | tup xs => obtain ⟨_, _, _, p⟩ := x; exact p.lt
  | dK kvs => obtain ⟨_, _, _, _, o, _, _, e, _⟩ := x; exact Heap.lt_size e
  | dT kvs => obtain ⟨_, _, _, _, o, _, _, e, _⟩ := x; exact Heap.lt_size e
  | set S n => obtain ⟨o, _, _, _, e, _⟩ := x; exact Heap.lt_size e
  | ins C dx fs => obtain ⟨_, _, _, e, _⟩ := x; exact Heap.lt_size e
  | own y => obtain ⟨_, e⟩ := x; exact Heap.lt_size e
  | xd fs => obtain ⟨_, ⟨_, _, _, e, _⟩, _⟩ := x; exact Heap.lt_size e
  | rng lo hi => obtain ⟨_, _, _, e⟩ := x; exact Heap.lt_size e
  | frz ob u => obtain ⟨e, _⟩ := x; exact Heap.lt_size e
  | tbl ps => exact Heap.lt_size (show h.get? a = some _ from x)
  | met f y => exact Heap.lt_size (show h.get? a = some _ from x)
  | ext φ => obtain ⟨_, ⟨_, e⟩, _⟩ := x; exact Heap.lt_size e
theorem Paired.mapP {α β : Type} {F G : α → β → Prop} : ∀ {l₁ : List α} {l₂ : List β}, Paired F l₁ l₂ → (∀ a b, F a b → G a b) → Paired G l₁ l₂
  | _, _, .nil, _ => .nil
  | _, _, .cons r t, f => .cons (f _ _ r) (Paired.mapP t f)
theorem Paired.imp' {α β : Type} {F G : α → β → Prop} (f : ∀ a b, F a b → G a b) {l₁ : List α} {l₂ : List β} (r : Paired F l₁ l₂) : Paired G l₁ l₂ := Paired.mapP r f
/-- what an object's description leans on: its own object, its own dict, the tuples -/
theorem ObjOk.stay (x : ObjOk P w H h a o) (k : ∀ b u, (b = a ∨ H b = some (.own a)) → h.get? b = some u → h'.get? b = some u)
    (ho : ∀ b, H b = some (.own a) → H' b = some (.own a)) (ht : ∀ b xs, H b = some (.tup xs) → H' b = some (.tup xs)) : ObjOk P w H' h' a o := by
  induction o with
  | lst xs => obtain ⟨z, its, n, r, e⟩ := x; exact ⟨z, its, n, r, k _ _ (.inl rfl) e⟩
  | tup xs => obtain ⟨z, its, r, ob, e, c⟩ := x; exact ⟨z, its, r, ob, k _ _ (.inl rfl) e, c⟩
  | dK kvs => obtain ⟨z, y, vs, r, ob, es, ep, e, c⟩ := x; exact ⟨z, y, vs, r, ob, es, ep, k _ _ (.inl rfl) e, c⟩
  | dT kvs =>
    obtain ⟨z, y, xs, r, ob, es, ep, e, c⟩ := x
    exact ⟨z, y, xs, Paired.mapP r fun p q z => ⟨z.1, ht _ _ z.2.1, z.2.2⟩, ob, es, ep, k _ _ (.inl rfl) e, c⟩
  | set S n => obtain ⟨ob, es, ep, t, e, c⟩ := x; exact ⟨ob, es, ep, t, k _ _ (.inl rfl) e, c⟩
  | ins C dx fs =>
    obtain ⟨d, z, ne, e, mA, ⟨od, es, ep, e2, c⟩, r⟩ := x
    exact ⟨ho _ d, z, ne, k _ _ (.inl rfl) e, mA, ⟨od, es, ep, k _ _ (.inr d) e2, c⟩, r⟩
  | own y => obtain ⟨ob, e⟩ := x; exact ⟨ob, k _ _ (.inl rfl) e⟩
  | xd fs => obtain ⟨mA, ⟨od, es, ep, e, c⟩, r⟩ := x; exact ⟨mA, ⟨od, es, ep, k _ _ (.inl rfl) e, c⟩, r⟩
  | rng lo hi => obtain ⟨t, u, v, e⟩ := x; exact ⟨t, u, v, k _ _ (.inl rfl) e⟩
  | frz ob u ih => obtain ⟨e, q⟩ := x; exact ⟨k _ _ (.inl rfl) e, ih q⟩
  | tbl ps =>
    have e : h.get? a = some { cls := .none, data := .fields ps } := x
    show h'.get? a = some { cls := .none, data := .fields ps }
    exact k a _ (.inl rfl) e
  | met f y =>
    have e : h.get? a = some (PySem.W.methodObj (.ref f) (.ref y)) := x
    show h'.get? a = some (PySem.W.methodObj (.ref f) (.ref y))
    exact k a _ (.inl rfl) e
  | ext φ => obtain ⟨p, ⟨o, e⟩, st⟩ := x; exact ⟨st _ _ p fun o q => k _ _ (.inl rfl) q, ⟨o, k _ _ (.inl rfl) e⟩, st⟩
theorem HOk.lt (x : HOk P w H h) (e : H a = some o) : a < h.objs.size := (x a o e).lt
theorem HOk.fresh (x : HOk P w H h) (e : h.objs.size ≤ a) : H a = none := by
  cases q : H a with
  | none => rfl
  | some u => exact absurd (Nat.lt_of_lt_of_le (x.lt q) e) (Nat.lt_irrefl _)
/-- every object of the heap is kept -/
theorem HOk.kept (x : HOk P w H h) (k : ∀ b u, h.get? b = some u → h'.get? b = some u) : HOk P w H h' := fun a o e =>
  (x a o e).stay (fun b u _ q => k b u q) (fun _ q => q) fun _ _ q => q
/-- a new object is laid and tracked -/
theorem HOk.laid (x : HOk P w H h) (k : ∀ b u, h.get? b = some u → h'.get? b = some u) (hp : h.objs.size ≤ a) (new : ObjOk P w (upd H a o) h' a o) : HOk P w (upd H a o) h' := fun b u e => by
  have hn := x.fresh hp
  by_cases hb : b = a
  · subst hb; rw [upd_same] at e; cases e; exact new
  · rw [upd_ne hb] at e
    exact (x b u e).stay (fun c v _ q => k c v q) (fun c q => by rw [upd_ne (ne_of_none q hn)]; exact q) fun c xs q => by rw [upd_ne (ne_of_none q hn)]; exact q
end

/-- what may be read as u: it is u, or a known u -/
def Rd (H : Hp) (a : Addr) (u : HO) : Prop := H a = some u ∨ ∃ o, H a = some (.frz o u)
theorem Rd.of {H : Hp} {a : Addr} {u : HO} (h : H a = some u) : Rd H a u := .inl h
theorem Rd.ok {P : Program} {w : World} {H : Hp} {h : Heap} {a : Addr} {u : HO} (r : Rd H a u) (x : HOk P w H h) : ObjOk P w H h a u := by
  rcases r with r | ⟨o, r⟩
  · exact x a u r
  · obtain ⟨_, q⟩ := x a _ r
    exact q
/-- what may be written -/
def Mut : Option HO → Prop
  | some (.lst _) => True
  | some (.dK _) => True
  | some (.dT _) => True
  | some (.set _ _) => True
  | some (.ins _ _ _) => True
  | some (.ext _) => True
  | _ => False
section
variable {P : Program} {w : World} {H : Hp} {h h' : Heap} {x e : Addr} {o' : HO}
/-- the object at e is changed: x itself, or the dict of the instance x -/
theorem HOk.write (ok : HOk P w H h) (mu : Mut (H x)) (he : e = x ∨ H e = some (.own x)) (k : ∀ b u, b ≠ e → h.get? b = some u → h'.get? b = some u) (heo : ∃ u, h'.get? e = some u)
    (new : ObjOk P w (upd H x o') h' x o') : HOk P w (upd H x o') h' := fun b u q => by
  have nown : ∀ c y, H c = some (.own y) → c ≠ x := fun c y r z => by subst z; rw [r] at mu; exact mu
  have ntup : ∀ c xs, H c = some (.tup xs) → c ≠ x := fun c xs r z => by subst z; rw [r] at mu; exact mu
  by_cases hb : b = x
  · subst hb; rw [upd_same] at q; cases q; exact new
  · rw [upd_ne hb] at q
    by_cases hbe : b = e
    · have q' : H b = some (.own x) := by
        rcases he with z | z
        · exact absurd (hbe.trans z) hb
        · rw [hbe]; exact z
      rw [q] at q'; cases q'
      obtain ⟨v, hv⟩ := heo
      exact ⟨v, by rw [hbe]; exact hv⟩
    · refine (ok b u q).stay (fun c v hc r => k c v ?_ r) (fun c r => by rw [upd_ne (nown c b r)]; exact r) fun c xs r => by rw [upd_ne (ntup c xs r)]; exact r
      rcases hc with rfl | hc
      · exact hbe
      · rintro rfl
        rcases he with z | z
        · exact nown c b hc z
        · rw [hc] at z; cases z; exact hb rfl
end

/-! ### kept unless tracked; of the frames at fs (the callers') the slots may change (an exception that passes writes there); of the records at ex (iterators) nothing is said -/
structure Un (fs ex : List Addr) (H H' : Hp) (h h' : Heap) : Prop where
  keep : ∀ b o, h.get? b = some o → H b = none → b ∉ fs → b ∉ ex → h'.get? b = some o
  slot : ∀ b o, h.get? b = some o → H b = none → b ∈ fs → b ∉ ex → ∃ sl, h'.get? b = some { o with slots := sl }
  free : ∀ b o, h.get? b = some o → H b = none → b ∉ ex → H' b = none
  there : ∀ b o, h.get? b = some o → b ∉ ex → ∃ o', h'.get? b = some o'
  tups : ∀ b xs, H b = some (.tup xs) → H' b = some (.tup xs)
  frzs : ∀ b o u, H b = some (.frz o u) → H' b = some (.frz o u)
  tbls : ∀ b ps, H b = some (.tbl ps) → ∃ more, H' b = some (.tbl (ps ++ more))
section
variable {fs fs' ex ex' : List Addr} {H H1 H2 : Hp} {h h1 h2 h' : Heap} {a x e : Addr} {o : HO}
theorem Un.any (u : Un fs ex H H1 h h1) {b : Addr} {ob : Obj} (q : h.get? b = some ob) (n : H b = none) (hx : b ∉ ex) : ∃ sl, h1.get? b = some { ob with slots := sl } := by
  by_cases hb : b ∈ fs
  · exact u.slot b ob q n hb hx
  · exact ⟨ob.slots, u.keep b ob q n hb hx⟩
theorem Un.trans (a : Un fs ex H H1 h h1) (b : Un fs ex H1 H2 h1 h2) : Un fs ex H H2 h h2 where
  keep := fun c ob q n hc hx => b.keep c ob (a.keep c ob q n hc hx) (a.free c ob q n hx) hc hx
  slot := fun c ob q n hc hx => by
    obtain ⟨sl, e1⟩ := a.slot c ob q n hc hx
    obtain ⟨sl', e2⟩ := b.slot c _ e1 (a.free c ob q n hx) hc hx
    exact ⟨sl', e2⟩
  free := fun c ob q n hx => by
    obtain ⟨o', e1⟩ := a.there c ob q hx
    exact b.free c o' e1 (a.free c ob q n hx) hx
  there := fun c ob q hx => by
    obtain ⟨o', e1⟩ := a.there c ob q hx
    exact b.there c o' e1 hx
  tups := fun c xs q => b.tups c xs (a.tups c xs q)
  frzs := fun c ob xs q => b.frzs c ob xs (a.frzs c ob xs q)
  tbls := fun c ps q => by
    obtain ⟨m1, e1⟩ := a.tbls c ps q
    obtain ⟨m2, e2⟩ := b.tbls c _ e1
    exact ⟨m1 ++ m2, by rw [e2, Array.append_assoc]⟩
theorem Un.kept (k : ∀ b u, h.get? b = some u → h'.get? b = some u) : Un fs ex H H h h' :=
  ⟨fun b ob q _ _ _ => k b ob q, fun b ob q _ _ _ => ⟨ob.slots, k b ob q⟩, fun _ _ _ n _ => n, fun b ob q _ => ⟨ob, k b ob q⟩, fun _ _ q => q, fun _ _ _ q => q, fun _ ps q => ⟨#[], by rw [q]; simp⟩⟩
theorem Un.refl : Un fs ex H H h h := Un.kept fun _ _ q => q
theorem Un.laid (k : ∀ b u, h.get? b = some u → h'.get? b = some u) (hp : h.objs.size ≤ a) (hn : H a = none) : Un fs ex H (upd H a o) h h' where
  keep := fun b u q _ _ _ => k b u q
  slot := fun b u q _ _ _ => ⟨u.slots, k b u q⟩
  free := fun b u q n _ => by rw [upd_ne (Nat.ne_of_lt (Nat.lt_of_lt_of_le (Heap.lt_size q) hp))]; exact n
  there := fun b u q _ => ⟨u, k b u q⟩
  tups := fun b xs q => by rw [upd_ne (ne_of_none q hn)]; exact q
  frzs := fun b u xs q => by rw [upd_ne (ne_of_none q hn)]; exact q
  tbls := fun b ps q => ⟨#[], by rw [upd_ne (ne_of_none q hn), q]; simp⟩
theorem Un.write (mu : Mut (H x)) (he : e = x ∨ H e = some (.own x)) (k : ∀ b u, b ≠ e → h.get? b = some u → h'.get? b = some u) (heo : ∃ u, h'.get? e = some u) : Un fs ex H (upd H x o) h h' := by
  have hx : ∀ b, H b = none → b ≠ x := fun b n z => by subst z; rw [n] at mu; exact mu
  have hb : ∀ b, H b = none → b ≠ e := fun b n z => by
    subst z
    rcases he with r | r
    · exact hx b n r
    · rw [n] at r; cases r
  have hm : ∀ b u, H b = some u → ¬ Mut (some u) → b ≠ x := fun b u q nm z => by subst z; rw [q] at mu; exact nm mu
  refine ⟨fun b u q n _ _ => k b u (hb b n) q, fun b u q n _ _ => ⟨u.slots, k b u (hb b n) q⟩, fun b u q n _ => by rw [upd_ne (hx b n)]; exact n, fun b u q _ => ?_,
    fun b xs q => by rw [upd_ne (hm b _ q fun z => z)]; exact q, fun b u xs q => by rw [upd_ne (hm b _ q fun z => z)]; exact q, fun b ps q => ⟨#[], by rw [upd_ne (hm b _ q fun z => z), q]; simp⟩⟩
  by_cases hbe : b = e
  · subst hbe; exact heo
  · exact ⟨u, k b u hbe q⟩
theorem Un.mono (u : Un fs ex H H1 h h1) (hs : ∀ b ∈ fs, b ∈ fs') (hx : ∀ b ∈ ex, b ∈ ex') : Un fs' ex' H H1 h h1 :=
  ⟨fun b ob q n hb he => u.keep b ob q n (fun z => hb (hs b z)) fun z => he (hx b z), fun _ _ q n _ he => u.any q n fun z => he (hx _ z), fun b ob q n he => u.free b ob q n fun z => he (hx b z), fun b ob q he => u.there b ob q fun z => he (hx b z), u.tups, u.frzs, u.tbls⟩
end

/-! ### the heap without what is tracked -/
def trk (h : Heap) (H : Hp) : List Addr := (List.range h.objs.size).filter fun a => (H a).isSome
def hidT (h : Heap) (H : Hp) : Heap := PySem.W.hideAll h (trk h H)
theorem hidT_size (h : Heap) (H : Hp) : (hidT h H).objs.size = h.objs.size := PySem.W.hideAll_size _ _
theorem hidT_get {h : Heap} {H : Hp} {b : Addr} {o : Obj} (e : h.get? b = some o) (n : H b = none) : (hidT h H).get? b = some o :=
  PySem.W.hideAll_get _ e fun hm => by
    have q : (H b).isSome = true := (List.mem_filter.mp hm).2
    rw [n] at q; simp at q
theorem of_hidT {h : Heap} {H : Hp} {b : Addr} {o : Obj} (e : (hidT h H).get? b = some o) : h.get? b = some o ∧ H b = none := by
  have e' : h.get? b = some o := PySem.W.of_hideAll (trk h H) e
  refine ⟨e', ?_⟩
  cases q : H b with
  | none => rfl
  | some x =>
    have hm : b ∈ trk h H := List.mem_filter.mpr ⟨List.mem_range.mpr (Heap.lt_size e'), by simp [q]⟩
    have z : (hidT h H).get? b = none := PySem.W.hideAll_none (trk h H) hm
    rw [z] at e; cases e

/-! ### OpenK's ledger, filled with every new object but one -/
def allNews (g h : Heap) (L : Addr) : List (Addr × Obj) := (List.range h.objs.size).filterMap fun a => if a = L ∨ (g.get? a).isSome = true then none else (h.get? a).map fun o => (a, o)
theorem mem_allNews {g h : Heap} {L a : Addr} {o : Obj} (h1 : a ≠ L) (h2 : g.get? a = none) (h3 : h.get? a = some o) : (a, o) ∈ allNews g h L :=
  List.mem_filterMap.mpr ⟨a, List.mem_range.mpr (Heap.lt_size h3), by simp [h1, h2, h3]⟩
theorem of_mem_allNews {g h : Heap} {L : Addr} {p : Addr × Obj} (hp : p ∈ allNews g h L) : p.1 ≠ L ∧ g.get? p.1 = none ∧ h.get? p.1 = some p.2 := by
  obtain ⟨b, _, e⟩ := List.mem_filterMap.mp hp
  split at e
  · cases e
  · rename_i hn
    cases q : h.get? b with
    | none => rw [q] at e; simp at e
    | some u =>
      rw [q] at e
      simp only [Option.map_some, Option.some.injEq] at e
      subst e
      refine ⟨fun z => hn (.inl z), ?_, q⟩
      show g.get? b = none
      cases r : g.get? b with
      | none => rfl
      | some v => exact (hn (.inr (by simp [r]))).elim
def rest (g h : Heap) (L d : Addr) : List (Addr × Obj) := (allNews g h L).filter fun p => decide (p.1 ≠ d)
theorem rest_ne {g h : Heap} {L d : Addr} : ∀ p ∈ rest g h L d, p.1 ≠ d := fun p hp => of_decide_eq_true (List.mem_filter.mp hp).2
theorem mem_rest {g h : Heap} {L d a : Addr} {o : Obj} (h1 : a ≠ L) (h2 : g.get? a = none) (h3 : h.get? a = some o) (h4 : a ≠ d) : (a, o) ∈ rest g h L d :=
  List.mem_filter.mpr ⟨mem_allNews h1 h2 h3, decide_eq_true h4⟩
theorem news_all {g h : Heap} {L : Addr} : News g L h (allNews g h L) := fun p hp => let ⟨a, b, c⟩ := of_mem_allNews hp; ⟨c, a, b⟩
theorem news_at {g h : Heap} {L d : Addr} {o : Obj} (h1 : d ≠ L) (h2 : g.get? d = none) (h3 : h.get? d = some o) : News g L h ((d, o) :: rest g h L d) := fun p hp => by
  rcases List.mem_cons.mp hp with rfl | hp
  · exact ⟨h3, h1, h2⟩
  · exact news_all p (List.mem_filter.mp hp).1
/-- behind a rule that changed d alone: all else but the frame is kept -/
theorem kept_of_news {g h h' : Heap} {L d : Addr} {m : Str → Option Value} (k : ∀ b o, g.get? b = some o → h.get? b = some o) (F : Fr g L h' m) (N : News g L h' (rest g h L d)) :
    ∀ b o, b ≠ L → b ≠ d → h.get? b = some o → h'.get? b = some o := fun b o h1 h2 e => by
  cases q : g.get? b with
  | some u =>
    have := k b u q
    rw [e] at this; cases this
    exact F.keep b _ q
  | none => exact (N (b, o) (mem_rest h1 q e h2)).1
end L2

namespace L2
open PySem PySem.Spec PyProof.Rows

/-- the module's facts, over the base: the heap at the law's entry without what is tracked there -/
structure Mod (K : PySem.W.Frag) (mg : Str → Option Value) (base : Heap) : Prop where
  kin : K.In base
  glob : base.Ns mainGlobals mg
  blt : ∃ mb, base.Ns builtinsNs mb ∧ ∀ x : Str, x ≠ "__name__" → mb x = bootBuiltins x
  nolimit : base.NoLimit

/-- the context: a def's body (or a comprehension's block) running. base: fixed through the whole law; s₀, H₀: the entry; outer: the frames whose slots others may change (a def's callers); stack: all frames that run;
   ex: iterators that were made ahead of the entry and are walked here (a comprehension's); fn: the names whose cells were made at the entry (a def: all; a comprehension's block: its own); calm: not within an except suite; pn: pins that every state bears; xe: what is wanted of an exception that leaves the code -/
structure Cx where
  prog : Program
  w : World
  K : PySem.W.Frag
  mg : Str → Option Value
  base : Heap
  A : Around
  N : List Str
  s₀ : Shared
  H₀ : Hp
  env : Env
  outer : List Env
  stack : List Env
  ex : List Addr
  fn : Str → Bool
  calm : Bool
  pn : List (Addr × Obj)
  xe : Value → Shared → Prop
/-- the callers' frames -/
def frs (l : List Env) : List Addr := l.filterMap (·.frame)
abbrev Cx.fs (X : Cx) : List Addr := frs X.outer

def Vis (sc : Scope) (x : Str) : Prop := sc.names.lookup x = some .local ∨ sc.names.lookup x = some .cell ∨ sc.names.lookup x = some .free
def Loc (sc : Scope) (x : Str) : Prop := sc.names.lookup x = some .local ∨ sc.names.lookup x = some .cell
def Look (env : Env) (h : Heap) (m : Str → Option Value) (x : Str) (u : Value) : Prop :=
  (env.kindOf x = some .local ∧ m x = some u) ∨ ((env.kindOf x = some .cell ∨ env.kindOf x = some .free) ∧ ∃ c, env.cells.lookup x = some c ∧ h.IsCell c (some u))

structure Cx.Ok (X : Cx) : Prop where
  mod : Mod X.K X.mg X.base
  kind : X.env.scope.kind = .function
  glob : X.env.globals = mainGlobals
  blt : X.env.builtins = builtinsNs
  above : X.s₀.heap.objs.size ≤ X.env.locals
  inj : ∀ x y c, X.env.cells.lookup x = some c → X.env.cells.lookup y = some c → x = y
  has : ∀ x, (X.env.kindOf x = some .cell ∨ X.env.kindOf x = some .free) → ∃ c, X.env.cells.lookup x = some c
  cab : ∀ x c, X.fn x = true → X.env.cells.lookup x = some c → X.s₀.heap.objs.size ≤ c
  hd : X.calm = true → X.A.handled = none
  frames : X.A.frames = some X.stack
  stk : X.stack = X.outer ∨ (X.stack = X.env :: X.outer ∧ X.env.frame = some X.env.locals)
  exf : ∀ b ∈ X.ex, b ≠ X.env.locals ∧ ∀ x c, X.env.cells.lookup x = some c → c ≠ b
  bs : ∀ b o, X.base.get? b = some o → X.s₀.heap.get? b = some o ∧ X.H₀ b = none
  bsz : X.base.objs.size ≤ X.s₀.heap.objs.size
  noex : ∀ b o, X.base.get? b = some o → b ∉ X.ex
  exfs : ∀ b ∈ X.ex, b ∉ X.fs
  funs : X.s₀.heap.FunFrames X.base X.outer
  frf : ∀ b ∈ X.fs, X.H₀ b = none

structure Inv (X : Cx) (pins : List (Addr × Obj)) (σ : List (Option V)) (H : Hp) (s : Shared) : Prop where
  ok : X.Ok
  os : s.os = X.s₀.os
  bare : AllBare s.gens
  base : Un X.fs X.ex X.H₀ H X.s₀.heap s.heap
  loc : ∃ m, s.heap.Ns X.env.locals m ∧ ∀ (i : Nat) (x : Str) (v : V), X.N[i]? = some x → σ[i]? = some (some v) → Vis X.env.scope x → ∃ u, RelV v u ∧ Look X.env s.heap m x u
  cell : ∀ x c, X.env.cells.lookup x = some c → ∃ v, s.heap.IsCell c v
  free : H X.env.locals = none
  freeC : ∀ x c, X.env.cells.lookup x = some c → H c = none
  pin : ∀ p ∈ X.pn ++ pins, s.heap.get? p.1 = some p.2 ∧ H p.1 = none ∧ p.1 ≠ X.env.locals ∧ p.1 ∉ X.fs ∧ ∀ v, p.2.data ≠ .cell v
  hok : HOk X.prog X.w H s.heap
  len : σ.length = X.N.length

section
variable {X : Cx} {pins : List (Addr × Obj)} {σ : List (Option V)} {H H' : Hp} {s : Shared} {h' : Heap}

theorem Cx.Ok.nofr (ok : X.Ok) {b : Addr} {o : Obj} (e : X.base.get? b = some o) : b ∉ X.fs := fun hb => by
  have := (ok.funs.mem hb).1
  rw [e] at this; cases this
theorem Inv.bs (I : Inv X pins σ H s) : ∀ b o, X.base.get? b = some o → s.heap.get? b = some o ∧ H b = none := fun b o e =>
  ⟨I.base.keep b o (I.ok.bs b o e).1 (I.ok.bs b o e).2 (I.ok.nofr e) (I.ok.noex b o e), I.base.free b o (I.ok.bs b o e).1 (I.ok.bs b o e).2 (I.ok.noex b o e)⟩
theorem Inv.bk (I : Inv X pins σ H s) : ∀ b o, X.base.get? b = some o → s.heap.get? b = some o := fun b o e => (I.bs b o e).1
theorem Inv.mod (I : Inv X pins σ H s) : Mod X.K X.mg X.base := I.ok.mod
theorem Inv.kIn (I : Inv X pins σ H s) : X.K.In s.heap := I.ok.mod.kin.keeps I.bk
theorem Inv.nolimit (I : Inv X pins σ H s) : s.heap.NoLimit := I.ok.mod.nolimit.keeps I.bk
/-- the frame over the base: for OpenK's rules (K.In X.base is I.mod.kin) -/
theorem Inv.fr (I : Inv X pins σ H s) : ∃ m, Fr X.base X.env.locals s.heap m :=
  let ⟨m, hn, _⟩ := I.loc
  ⟨m, hn, I.bk, Nat.le_trans I.ok.bsz I.ok.above⟩
theorem Inv.lt (I : Inv X pins σ H s) : X.env.locals < s.heap.objs.size := let ⟨_, hn, _⟩ := I.loc; hn.lt
theorem Inv.sz (I : Inv X pins σ H s) : X.s₀.heap.objs.size ≤ s.heap.objs.size := Nat.le_trans I.ok.above (Nat.le_of_lt I.lt)
theorem Inv.nofs (I : Inv X pins σ H s) {a : Addr} (h : s.heap.objs.size ≤ a) : a ∉ X.fs := fun hb => by
  obtain ⟨_, o, ho, _⟩ := I.ok.funs.mem hb
  exact absurd (Nat.lt_of_lt_of_le (Heap.lt_size ho) (Nat.le_trans I.sz h)) (Nat.lt_irrefl _)
theorem Inv.cne (I : Inv X pins σ H s) : ∀ x c, X.env.cells.lookup x = some c → c ≠ X.env.locals := fun x c e z => by
  obtain ⟨v, o, ho, hd⟩ := I.cell x c e
  obtain ⟨m, ⟨o', es, ep, ho', hd', _⟩, _⟩ := I.loc
  rw [z, ho'] at ho; cases ho; rw [hd'] at hd; cases hd
theorem Inv.funs (I : Inv X pins σ H s) : s.heap.FunFrames X.base X.outer := by
  have all : ∀ (l : List Env), (∀ b ∈ frs l, b ∈ X.fs) → X.s₀.heap.FunFrames X.base l → s.heap.FunFrames X.base l := by
    intro l
    induction l with
    | nil => intro _ _; trivial
    | cons env r ih =>
      intro hs hl
      obtain ⟨hk, ⟨L, o, hf, hn, ho, hd⟩, hr⟩ := hl
      have hL : L ∈ X.fs := hs L (by unfold frs; rw [List.filterMap_cons, hf]; exact List.mem_cons_self)
      obtain ⟨sl, e⟩ := I.base.slot L o ho (I.ok.frf L hL) hL fun z => I.ok.exfs L z hL
      exact ⟨hk, ⟨L, _, hf, hn, e, hd⟩, ih (fun b hb => hs b (by unfold frs; rw [List.filterMap_cons, hf]; exact List.mem_cons_of_mem _ hb)) hr⟩
  exact all X.outer (fun _ hb => hb) I.ok.funs

/-- the frames that run, for a call -/
theorem Inv.stack (I : Inv X pins σ H s) : s.heap.FunFrames X.base X.stack := by
  rcases I.ok.stk with e | ⟨e, hf⟩
  · rw [e]; exact I.funs
  · rw [e]
    obtain ⟨m, hn, _⟩ := I.loc
    refine .cons (by rw [I.ok.kind]; decide) hf hn ?_ I.funs
    exact Heap.get?_none_of_le (Nat.le_trans I.ok.bsz I.ok.above)
theorem Inv.stkSub (I : Inv X pins σ H s) : ∀ b ∈ frs X.stack, b ∈ X.env.locals :: X.fs := fun b hb => by
  rcases I.ok.stk with e | ⟨e, hf⟩
  · rw [e] at hb; exact List.mem_cons_of_mem _ hb
  · rw [e] at hb
    unfold frs at hb
    rw [List.filterMap_cons, hf] at hb
    exact hb
theorem Inv.stkFree (I : Inv X pins σ H s) : ∀ b ∈ frs X.stack, H b = none := fun b hb => by
  rcases List.mem_cons.mp (I.stkSub b hb) with e | hb
  · rw [e]; exact I.free
  · obtain ⟨_, o, ho, _⟩ := I.ok.funs.mem hb
    exact I.base.free b o ho (I.ok.frf b hb) fun z => I.ok.exfs b z hb

/-- THE STEP: the untracked objects but the frame and the records at ch are kept (the callers' frames up to slots), the frame's map is kept, the new abstract heap is held -/
theorem Inv.step {g' : Array GenState} {t' : Nat} {d' : Drawn} {ch : List Addr} (I : Inv X pins σ H s)
    (hch : ∀ b ∈ ch, (b ∈ X.ex ∨ X.s₀.heap.objs.size ≤ b) ∧ b ≠ X.env.locals ∧ (∀ x c, X.env.cells.lookup x = some c → c ≠ b) ∧ ∀ p ∈ X.pn ++ pins, p.1 ≠ b)
    (keep : ∀ b o, b ≠ X.env.locals → b ∉ X.fs → b ∉ ch → s.heap.get? b = some o → H b = none → h'.get? b = some o)
    (slot : ∀ b o, b ≠ X.env.locals → b ∈ X.fs → b ∉ ch → s.heap.get? b = some o → H b = none → ∃ sl, h'.get? b = some { o with slots := sl }) (free : ∀ b o, b ∉ ch → s.heap.get? b = some o → H b = none → H' b = none)
    (there : ∀ b o, b ∉ ch → s.heap.get? b = some o → ∃ o', h'.get? b = some o')
    (tups : ∀ b xs, H b = some (.tup xs) → H' b = some (.tup xs)) (frzs : ∀ b o u, H b = some (.frz o u) → H' b = some (.frz o u)) (tbls : ∀ b ps, H b = some (.tbl ps) → ∃ more, H' b = some (.tbl (ps ++ more)))
    (ns : ∀ m, s.heap.Ns X.env.locals m → h'.Ns X.env.locals m) (hok : HOk X.prog X.w H' h') (hg : AllBare g') :
    Inv X pins σ H' { s with heap := h', gens := g', drawn := d', toks := t' } := by
  have neL : ∀ b o, X.s₀.heap.get? b = some o → b ≠ X.env.locals := fun b o e => Nat.ne_of_lt (Nat.lt_of_lt_of_le (Heap.lt_size e) I.ok.above)
  have neC : ∀ b o, X.s₀.heap.get? b = some o → b ∉ X.ex → b ∉ ch := fun b o e hx hb => by
    rcases (hch b hb).1 with z | z
    · exact hx z
    · exact absurd (Nat.lt_of_lt_of_le (Heap.lt_size e) z) (Nat.lt_irrefl _)
  have cellK : ∀ x c, X.env.cells.lookup x = some c → ∀ v, s.heap.IsCell c v → h'.IsCell c v := fun x c e v ⟨o, ho, hd⟩ => by
    have nch : c ∉ ch := fun z => (hch c z).2.2.1 x c e rfl
    by_cases hc : c ∈ X.fs
    · obtain ⟨sl, q⟩ := slot c o (I.cne x c e) hc nch ho (I.freeC x c e)
      exact ⟨_, q, hd⟩
    · exact ⟨o, keep c o (I.cne x c e) hc nch ho (I.freeC x c e), hd⟩
  refine ⟨I.ok, I.os, hg, ⟨fun b o e n hb hx => ?_, fun b o e n hb hx => ?_, fun b o e n hx => ?_, fun b o e hx => ?_, fun b xs e => tups b xs (I.base.tups b xs e), fun b o xs e => frzs b o xs (I.base.frzs b o xs e), fun b ps e => ?_⟩, ?_, fun x c e => ?_, ?_, fun x c e => ?_, fun p hp => ?_, hok, I.len⟩
  · exact keep b o (neL b o e) hb (neC b o e hx) (I.base.keep b o e n hb hx) (I.base.free b o e n hx)
  · obtain ⟨sl, e1⟩ := I.base.slot b o e n hb hx
    obtain ⟨sl', e2⟩ := slot b _ (neL b o e) hb (neC b o e hx) e1 (I.base.free b o e n hx)
    exact ⟨sl', e2⟩
  · obtain ⟨o', e1⟩ := I.base.there b o e hx
    exact free b o' (neC b o e hx) e1 (I.base.free b o e n hx)
  · obtain ⟨o', e1⟩ := I.base.there b o e hx
    exact there b o' (neC b o e hx) e1
  · obtain ⟨m1, e1⟩ := I.base.tbls b ps e
    obtain ⟨m2, e2⟩ := tbls b _ e1
    exact ⟨m1 ++ m2, by rw [e2, Array.append_assoc]⟩
  · obtain ⟨m, hn, hl⟩ := I.loc
    refine ⟨m, ns m hn, fun i x v e1 e2 e3 => ?_⟩
    obtain ⟨u, r, l⟩ := hl i x v e1 e2 e3
    refine ⟨u, r, ?_⟩
    rcases l with l | ⟨k, c, e, z⟩
    · exact .inl l
    · exact .inr ⟨k, c, e, cellK x c e _ z⟩
  · obtain ⟨v, z⟩ := I.cell x c e
    exact ⟨v, cellK x c e v z⟩
  · obtain ⟨m, ⟨o, _, _, ho, _⟩, _⟩ := I.loc
    exact free _ o (fun z => (hch _ z).2.1 rfl) ho I.free
  · obtain ⟨v, o, ho, hd⟩ := I.cell x c e
    exact free c o (fun z => (hch c z).2.2.1 x c e rfl) ho (I.freeC x c e)
  · obtain ⟨e, n, ne, nf, d⟩ := I.pin p hp
    have nch : p.1 ∉ ch := fun z => (hch p.1 z).2.2.2 p hp rfl
    exact ⟨keep p.1 p.2 ne nf nch e n, free p.1 p.2 nch e n, ne, nf, d⟩
/-- .. where the frame's own object is kept too -/
theorem Inv.un {t' : Nat} (I : Inv X pins σ H s) (u : Un X.fs [] H H' s.heap h') (hok : HOk X.prog X.w H' h') : Inv X pins σ H' { s with heap := h', toks := t' } := by
  obtain ⟨m, ⟨o, es, ep, ho, r⟩, _⟩ := id I.loc
  obtain ⟨sl, hL⟩ := u.any ho I.free (by simp)
  exact I.step (g' := s.gens) (d' := s.drawn) (ch := []) (fun _ z => nomatch z) (fun b o _ hb _ e n => u.keep b o e n hb (by simp)) (fun b o _ hb _ e n => u.slot b o e n hb (by simp)) (fun b o _ e n => u.free b o e n (by simp)) (fun b o _ e => u.there b o e (by simp)) u.tups u.frzs u.tbls (fun m' hm => by
    obtain ⟨o', es', ep', ho', r'⟩ := hm
    rw [ho] at ho'; cases ho'
    exact ⟨_, es', ep', hL, r'⟩) hok I.bare
/-- behind a call (or a comprehension's block): the slots of this frame may have changed too, the records at ch may have turned -/
theorem Inv.call {g' : Array GenState} {t' : Nat} {d' : Drawn} {ch : List Addr} (I : Inv X pins σ H s) (u : Un (frs X.stack) ch H H' s.heap h') (hok : HOk X.prog X.w H' h') (hg : AllBare g')
    (hch : ∀ b ∈ ch, (b ∈ X.ex ∨ X.s₀.heap.objs.size ≤ b) ∧ b ≠ X.env.locals ∧ (∀ x c, X.env.cells.lookup x = some c → c ≠ b) ∧ ∀ p ∈ X.pn ++ pins, p.1 ≠ b) :
    Inv X pins σ H' { s with heap := h', gens := g', drawn := d', toks := t' } := by
  obtain ⟨m, ⟨o, es, ep, ho, r⟩, _⟩ := id I.loc
  obtain ⟨sl, hL⟩ := u.any ho I.free fun z => (hch _ z).2.1 rfl
  exact I.step (ch := ch) hch (fun b o hL hb hc e n => u.keep b o e n (fun z => (List.mem_cons.mp (I.stkSub b z)).elim hL hb) hc) (fun b o _ _ hc e n => u.any e n hc) (fun b o hc e n => u.free b o e n hc) (fun b o hc e => u.there b o e hc) u.tups u.frzs u.tbls (fun m' hm => by
    obtain ⟨o', es', ep', ho', r'⟩ := hm
    rw [ho] at ho'; cases ho'
    exact ⟨_, es', ep', hL, r'⟩) hok hg
/-- an untracked record of ours (an iterator) has turned -/
theorem Inv.turned {t' : Nat} {it : Addr} (I : Inv X pins σ H s) (k : ∀ b o, b ≠ it → s.heap.get? b = some o → h'.get? b = some o) (hn : H it = none) (hL : it ≠ X.env.locals)
    (h1 : it ∈ X.ex ∨ X.s₀.heap.objs.size ≤ it) (h2 : ∀ x c, X.env.cells.lookup x = some c → c ≠ it) (h3 : ∀ p ∈ X.pn ++ pins, p.1 ≠ it) : Inv X pins σ H { s with heap := h', toks := t' } := by
  have nit : ∀ b u, H b = some u → b ≠ it := fun b u e z => by rw [z, hn] at e; cases e
  refine I.step (g' := s.gens) (d' := s.drawn) (ch := [it]) (fun b hb => ?_) (fun b o _ _ hc e _ => k b o (fun z => hc (by simp [z])) e) (fun b o _ _ hc e _ => ⟨o.slots, k b o (fun z => hc (by simp [z])) e⟩) (fun _ _ _ _ n => n)
    (fun b o hc e => ⟨o, k b o (fun z => hc (by simp [z])) e⟩) (fun _ _ e => e) (fun _ _ _ e => e) (fun b ps e => ⟨#[], by rw [e]; simp⟩) (fun m hm => ?_) (fun b u e => ?_) I.bare
  · have e : b = it := by simpa using hb
    subst e
    exact ⟨h1, hL, h2, h3⟩
  · obtain ⟨o, es, ep, ho, r⟩ := hm
    exact ⟨o, es, ep, k _ o (Ne.symm hL) ho, r⟩
  · refine (I.hok b u e).stay (fun c v hc q => k c v ?_ q) (fun _ q => q) fun _ _ q => q
    rcases hc with z | z
    · rw [z]; exact nit b u e
    · exact nit c _ z
theorem Inv.tok (I : Inv X pins σ H s) (t : Nat) : Inv X pins σ H { s with toks := t } := I.un (h' := s.heap) (t' := t) Un.refl I.hok
/-- all objects kept -/
theorem Inv.kept {t' : Nat} (I : Inv X pins σ H s) (k : ∀ b u, s.heap.get? b = some u → h'.get? b = some u) : Inv X pins σ H { s with heap := h', toks := t' } := I.un (Un.kept k) (I.hok.kept k)
/-- a new object laid and tracked -/
theorem Inv.laid {a : Addr} {o : HO} {t' : Nat} (I : Inv X pins σ H s) (k : ∀ b u, s.heap.get? b = some u → h'.get? b = some u) (hp : s.heap.objs.size ≤ a) (new : ObjOk X.prog X.w (upd H a o) h' a o) :
    Inv X pins σ (upd H a o) { s with heap := h', toks := t' } := I.un (Un.laid k hp (I.hok.fresh hp)) (I.hok.laid k hp new)
/-- an object written -/
theorem Inv.write {x e : Addr} {o : HO} {t' : Nat} (I : Inv X pins σ H s) (mu : Mut (H x)) (he : e = x ∨ H e = some (.own x)) (k : ∀ b u, b ≠ e → s.heap.get? b = some u → h'.get? b = some u) (heo : ∃ u, h'.get? e = some u)
    (new : ObjOk X.prog X.w (upd H x o) h' x o) : Inv X pins σ (upd H x o) { s with heap := h', toks := t' } := I.un (Un.write mu he k heo) (I.hok.write mu he k heo new)
/-- forgetting slots, pins -/
theorem Inv.weak {σ' : List (Option V)} (I : Inv X pins σ H s) (hl : σ'.length = σ.length) (w : ∀ (i : Nat) v, σ'[i]? = some (some v) → σ[i]? = some (some v)) : Inv X pins σ' H s :=
  ⟨I.ok, I.os, I.bare, I.base, let ⟨m, hn, hl'⟩ := I.loc; ⟨m, hn, fun i x v e1 e2 e3 => hl' i x v e1 (w i v e2) e3⟩, I.cell, I.free, I.freeC, I.pin, I.hok, hl.trans I.len⟩
theorem Inv.pins_of {pins' : List (Addr × Obj)} (I : Inv X pins σ H s) (h : ∀ p ∈ pins', s.heap.get? p.1 = some p.2 ∧ H p.1 = none ∧ p.1 ≠ X.env.locals ∧ p.1 ∉ X.fs ∧ ∀ v, p.2.data ≠ .cell v) : Inv X pins' σ H s :=
  ⟨I.ok, I.os, I.bare, I.base, I.loc, I.cell, I.free, I.freeC, fun p hp => (List.mem_append.mp hp).elim (fun z => I.pin p (List.mem_append_left _ z)) (h p), I.hok, I.len⟩

theorem nodup_ix {N : List Str} (hN : N.Nodup) {i j : Nat} {x : Str} (a : N[i]? = some x) (b : N[j]? = some x) : i = j := by
  obtain ⟨h1, e1⟩ := List.getElem?_eq_some_iff.mp a
  obtain ⟨h2, e2⟩ := List.getElem?_eq_some_iff.mp b
  exact (List.getElem_inj hN).mp (e1.trans e2.symm)

/-- a name is stored; what changed -/
theorem store_ok2 {M : Model} {A : Around} {E : Value → Shared → Prop} {i : Nat} {x : Str} {v : V} {u : Value} {Q : Unit → Shared → Prop} (I : Inv X pins σ H s) (hN : X.N.Nodup) (hi : X.N[i]? = some x) (hx : Loc X.env.scope x) (r : RelV v u)
    (h : ∀ s', Inv X pins (σ.set i (some v)) H s' → (∃ a, Heap.SameBut a s.heap s'.heap ∧ (a = X.env.locals ∨ X.env.cells.lookup x = some a)) → Q () s') (hf : X.fn x = true ∨ X.env.scope.names.lookup x = some .local := by first | exact .inl rfl | exact .inr rfl | assumption) : wpAny M A (storeName X.env x u) Q E s := by
  obtain ⟨m, hn, hl⟩ := id I.loc
  have hcls : (X.env.scope.kind == .class || (X.env.scope.kind == .module && X.env.locals != X.env.globals)) = false := by rw [I.ok.kind]; rfl
  have hiσ : i < σ.length := by rw [I.len]; exact (List.getElem?_eq_some_iff.mp hi).1
  have cne := I.cne
  have tracked : ∀ {a : Addr} {h' : Heap}, (∃ o, s.heap.get? a = some o ∧ H a = none) → Heap.SameBut a s.heap h' → HOk X.prog X.w H h' := fun {a h'} ha hs b ob e => by
    obtain ⟨_, _, hfree⟩ := ha
    refine (I.hok b ob e).stay (fun c w' hc q => (hs.2 c ?_).trans q) (fun _ q => q) fun _ _ q => q
    rintro rfl
    rcases hc with rfl | hc
    · rw [hfree] at e; cases e
    · rw [hfree] at hc; cases hc
  rcases hx with hk | hk
  · refine wpAny_storeName_local hk hn (fun h' hn' hs => ?_) hcls
    obtain ⟨oL, _, _, hoL, _⟩ := id hn
    refine h _ ⟨I.ok, I.os, I.bare, ⟨fun b o e n hb hx => ?_, fun b o e n hb hx => ?_, I.base.free, fun b o e hx => ?_, I.base.tups, I.base.frzs, I.base.tbls⟩, ⟨_, hn', fun j y v' e1 e2 e3 => ?_⟩, fun y c e => ?_, I.free, I.freeC, fun p hp => ?_, tracked ⟨oL, hoL, I.free⟩ hs, by simpa using I.len⟩ ⟨_, hs, .inl rfl⟩
    · exact (hs.2 b (Nat.ne_of_lt (Nat.lt_of_lt_of_le (Heap.lt_size e) I.ok.above))).trans (I.base.keep b o e n hb hx)
    · obtain ⟨sl, e1⟩ := I.base.slot b o e n hb hx
      exact ⟨sl, (hs.2 b (Nat.ne_of_lt (Nat.lt_of_lt_of_le (Heap.lt_size e) I.ok.above))).trans e1⟩
    · obtain ⟨o', e1⟩ := I.base.there b o e hx
      exact ⟨o', (hs.2 b (Nat.ne_of_lt (Nat.lt_of_lt_of_le (Heap.lt_size e) I.ok.above))).trans e1⟩
    · by_cases hj : j = i
      · subst hj
        rw [hi] at e1; cases e1
        rw [List.getElem?_set_self hiσ] at e2
        cases e2
        exact ⟨u, r, .inl ⟨hk, by simp⟩⟩
      · rw [List.getElem?_set_ne (Ne.symm hj)] at e2
        obtain ⟨u', r', q⟩ := hl j y v' e1 e2 e3
        refine ⟨u', r', ?_⟩
        rcases q with ⟨k, e⟩ | ⟨k, c, e, z⟩
        · refine .inl ⟨k, ?_⟩
          have : y ≠ x := fun e => hj (nodup_ix hN e1 (e ▸ hi))
          simp [this, e]
        · exact .inr ⟨k, c, e, z.sameBut hs (cne y c e)⟩
    · obtain ⟨w', z⟩ := I.cell y c e
      exact ⟨w', z.sameBut hs (cne y c e)⟩
    · obtain ⟨e, n, ne, nf, d⟩ := I.pin p hp
      exact ⟨(hs.2 p.1 ne).trans e, n, ne, nf, d⟩
  · have hfn : X.fn x = true := by
      rcases hf with z | z
      · exact z
      · rw [z] at hk; cases hk
    obtain ⟨c, hc⟩ := I.ok.has x (.inl hk)
    obtain ⟨w', z⟩ := I.cell x c hc
    refine wpAny_storeName_cell I.ok.kind hk hc z (fun h' hc' hs => ?_)
    obtain ⟨oc, hoc, hocd⟩ := id z
    refine h { s with heap := h' } ⟨I.ok, I.os, I.bare, ⟨fun b o e n hb hx => ?_, fun b o e n hb hx => ?_, I.base.free, fun b o e hx => ?_, I.base.tups, I.base.frzs, I.base.tbls⟩, ⟨m, hn.sameBut hs (Ne.symm (cne x c hc)), fun j y v' e1 e2 e3 => ?_⟩, fun y c' e => ?_, I.free, I.freeC, fun p hp => ?_, tracked ⟨oc, hoc, I.freeC x c hc⟩ hs, by simpa using I.len⟩ ⟨c, hs, .inr hc⟩
    · exact (hs.2 b (Nat.ne_of_lt (Nat.lt_of_lt_of_le (Heap.lt_size e) (I.ok.cab x c hfn hc)))).trans (I.base.keep b o e n hb hx)
    · obtain ⟨sl, e1⟩ := I.base.slot b o e n hb hx
      exact ⟨sl, (hs.2 b (Nat.ne_of_lt (Nat.lt_of_lt_of_le (Heap.lt_size e) (I.ok.cab x c hfn hc)))).trans e1⟩
    · obtain ⟨o', e1⟩ := I.base.there b o e hx
      exact ⟨o', (hs.2 b (Nat.ne_of_lt (Nat.lt_of_lt_of_le (Heap.lt_size e) (I.ok.cab x c hfn hc)))).trans e1⟩
    · by_cases hj : j = i
      · subst hj
        rw [hi] at e1; cases e1
        rw [List.getElem?_set_self hiσ] at e2
        cases e2
        exact ⟨u, r, .inr ⟨.inl hk, c, hc, hc'⟩⟩
      · rw [List.getElem?_set_ne (Ne.symm hj)] at e2
        obtain ⟨u', r', q⟩ := hl j y v' e1 e2 e3
        refine ⟨u', r', ?_⟩
        rcases q with q | ⟨k, c', e, z'⟩
        · exact .inl q
        · refine .inr ⟨k, c', e, z'.sameBut hs ?_⟩
          rintro rfl
          exact hj (nodup_ix hN e1 (I.ok.inj _ _ _ e hc ▸ hi))
    · by_cases hcc : c' = c
      · subst hcc; exact ⟨_, hc'⟩
      · obtain ⟨w2, z2⟩ := I.cell y c' e
        exact ⟨w2, z2.sameBut hs hcc⟩
    · obtain ⟨e, n, ne, nf, d⟩ := I.pin p hp
      refine ⟨(hs.2 p.1 ?_).trans e, n, ne, nf, d⟩
      intro q
      rw [q, hoc] at e
      have q' : oc = p.2 := Option.some.inj e
      exact d w' (by rw [← q']; exact hocd)
theorem store_ok {M : Model} {A : Around} {E : Value → Shared → Prop} {i : Nat} {x : Str} {v : V} {u : Value} {Q : Unit → Shared → Prop} (I : Inv X pins σ H s) (hN : X.N.Nodup) (hi : X.N[i]? = some x) (hx : Loc X.env.scope x) (r : RelV v u)
    (h : ∀ s', Inv X pins (σ.set i (some v)) H s' → Q () s') (hf : X.fn x = true ∨ X.env.scope.names.lookup x = some .local := by first | exact .inl rfl | exact .inr rfl | assumption) : wpAny M A (storeName X.env x u) Q E s :=
  store_ok2 I hN hi hx r (fun s' I' _ => h s' I') hf
/-- behind a call or a block, the state as it is -/
theorem Inv.call' {s' : Shared} {ch : List Addr} (I : Inv X pins σ H s) (ho : s'.os = s.os) (u : Un (frs X.stack) ch H H' s.heap s'.heap) (hok : HOk X.prog X.w H' s'.heap) (hg : AllBare s'.gens)
    (hch : ∀ b ∈ ch, (b ∈ X.ex ∨ X.s₀.heap.objs.size ≤ b) ∧ b ≠ X.env.locals ∧ (∀ x c, X.env.cells.lookup x = some c → c ≠ b) ∧ ∀ p ∈ X.pn ++ pins, p.1 ≠ b) : Inv X pins σ H' s' := by
  obtain ⟨h', g', d', t', o'⟩ := s'
  have e : o' = s.os := ho
  subst e
  exact I.call (g' := g') (t' := t') (d' := d') u hok hg hch
end

/-! ### the judgements -/
/-- an exception: its class, its own dict's address (where it has one), the abstract heap behind it -/
abbrev XK := Value → Option Addr → Hp → Prop
abbrev St := List (Option V)
abbrev VK := V → Hp → Prop
/-- an expression's reading; a test's; an argument list's -/
abbrev TE := St → Hp → VK → Prop
abbrev TT := St → Hp → (Bool → Hp → Prop) → Prop
abbrev TA := St → Hp → (List V → Hp → Prop) → Prop
/-- what is wanted behind a statement -/
structure Ends where
  nx : St → Hp → Prop
  rt : VK
  bk : St → Hp → Prop := fun _ _ => False
  ct : St → Hp → Prop := fun _ _ => False
abbrev TS := Ends → St → Hp → Prop

def EP (X : Cx) (pins : List (Addr × Obj)) (σ : St) (Q : VK) (u : Value) (s' : Shared) : Prop := ∃ v H', Inv X pins σ H' s' ∧ RelV v u ∧ Q v H'
def TP (X : Cx) (pins : List (Addr × Obj)) (σ : St) (Q : Bool → Hp → Prop) (b : Bool) (s' : Shared) : Prop := ∃ H', Inv X pins σ H' s' ∧ Q b H'
def AP (X : Cx) (pins : List (Addr × Obj)) (σ : St) (Q : List V → Hp → Prop) (us : List Value) (s' : Shared) : Prop := ∃ vs H', Inv X pins σ H' s' ∧ Vals vs us ∧ Q vs H'
def SP (X : Cx) (pins : List (Addr × Obj)) (D : Ends) (f : Flow) (s' : Shared) : Prop :=
  match f with
  | .next => ∃ σ' H', Inv X pins σ' H' s' ∧ D.nx σ' H'
  | .brk => ∃ σ' H', Inv X pins σ' H' s' ∧ D.bk σ' H'
  | .cont => ∃ σ' H', Inv X pins σ' H' s' ∧ D.ct σ' H'
  | .ret u => ∃ v σ' H', Inv X pins σ' H' s' ∧ RelV v u ∧ D.rt v H'

def PE (X : Cx) (e : Expr) (t : TE) : Prop :=
  ∀ (pins : List (Addr × Obj)) (s : Shared) (σ : St) (H : Hp) (Q : VK), Inv X pins σ H s → t σ H Q → wpAny (model X.prog X.w) X.A (eval e X.env) (EP X pins σ Q) X.xe s
def PT (X : Cx) (e : Expr) (t : TT) : Prop :=
  ∀ (pins : List (Addr × Obj)) (s : Shared) (σ : St) (H : Hp) (Q : Bool → Hp → Prop), Inv X pins σ H s → t σ H Q → wpAny (model X.prog X.w) X.A (isTrue e X.env (eval e X.env)) (TP X pins σ Q) X.xe s
/-- a test whatever its 'whole' is (and, or) -/
def PW (X : Cx) (e : Expr) (t : TT) : Prop :=
  ∀ (whole : Sem Value) (pins : List (Addr × Obj)) (s : Shared) (σ : St) (H : Hp) (Q : Bool → Hp → Prop), Inv X pins σ H s → t σ H Q → wpAny (model X.prog X.w) X.A (isTrue e X.env whole) (TP X pins σ Q) X.xe s
theorem PW.pt {X : Cx} {e : Expr} {t : TT} (h : PW X e t) : PT X e t := h _
/-- an argument list (no star), from the left -/
def PA (X : Cx) (es : List Expr) (t : TA) : Prop :=
  ∀ (pos : Pos) (pins : List (Addr × Obj)) (s : Shared) (σ : St) (H : Hp) (Q : List V → Hp → Prop), Inv X pins σ H s → t σ H Q → wpAny (model X.prog X.w) X.A (spliced (backTo pos (starEach es X.env))) (AP X pins σ Q) X.xe s
def PS (X : Cx) (st : Stmt) (t : TS) : Prop :=
  ∀ (pins : List (Addr × Obj)) (s : Shared) (σ : St) (H : Hp) (D : Ends), Inv X pins σ H s → t D σ H → wpAny (model X.prog X.w) X.A (exec st X.env) (SP X pins D) X.xe s
def PSs (X : Cx) (st : List Stmt) (t : TS) : Prop :=
  ∀ (pins : List (Addr × Obj)) (s : Shared) (σ : St) (H : Hp) (D : Ends), Inv X pins σ H s → t D σ H → wpAny (model X.prog X.w) X.A (execs st X.env) (SP X pins D) X.xe s
/-- weaken the end -/
theorem thn {α : Type} {t : Sem α} {Q Q' : α → Shared → Prop} {M : Model} {A : Around} {E : Value → Shared → Prop} {s : Shared} (h : wpAny M A t Q E s) (hQ : ∀ a s, Q a s → Q' a s) : wpAny M A t Q' E s := wpAny_mono h hQ fun _ _ x => x
end L2

namespace L2
open PySem PySem.Spec PyProof.Rows
section
variable {X : Cx}

/-- two expressions in a row -/
theorem bin {a b : Expr} {ta tb : TE} (ha : PE X a ta) (hb : PE X b tb) {pins : List (Addr × Obj)} {s : Shared} {σ : St} {H : Hp} {R : V → V → Hp → Prop} (I : Inv X pins σ H s) (h : ta σ H fun x H1 => tb σ H1 fun y H2 => R x y H2)
    {α : Type} {Q : α → Shared → Prop} {f : Value → Value → Sem α}
    (hf : ∀ v u s2 x y H2, Inv X pins σ H2 s2 → RelV x v → RelV y u → R x y H2 → wpAny (model X.prog X.w) X.A (f v u) Q X.xe s2) :
    wpAny (model X.prog X.w) X.A (eval a X.env) (fun v s₁ => wpAny (model X.prog X.w) X.A (eval b X.env) (fun u s₂ => wpAny (model X.prog X.w) X.A (f v u) Q X.xe s₂) X.xe s₁) X.xe s := by
  refine thn (ha pins s σ H _ I h) fun v s1 ⟨x, H1, I1, r1, q1⟩ => ?_
  refine thn (hb pins s1 σ H1 _ I1 q1) fun u s2 ⟨y, H2, I2, r2, q2⟩ => ?_
  exact hf v u s2 x y H2 I2 r1 r2 q2

/-! ### names and constants -/
def tVar (i : Nat) : TE := fun σ H Q => ∃ v, σ[i]? = some (some v) ∧ Q v H
def tC (v : V) : TE := fun _ H Q => Q v H
theorem pe_var {i : Nat} {x : Str} {pos : Pos} (hN : X.N[i]? = some x) (hv : Vis X.env.scope x) (hd : (x == ("__debug__" : Str)) = false := by decide) (hcd : (x == ("__classdict__" : Str)) = false := by decide) : PE X (.Name x pos) (tVar i) := by
  intro pins s σ H Q I h
  obtain ⟨v, e, h⟩ := h
  obtain ⟨m, hn, hl⟩ := I.loc
  obtain ⟨u, r, l⟩ := hl i x v hN e hv
  have fin : EP X pins σ Q u s := ⟨v, H, I, r, h⟩
  rcases l with ⟨hk, hm⟩ | ⟨hk, c, hc, hcell⟩
  · exact wpAny_Name (wpAny_loadName_local I.ok.kind hk hn hm fin) hd
  · rcases hk with hk | hk
    · exact wpAny_Name (wpAny_loadName_cell I.ok.kind hk hc hcell fin) hd
    · exact wpAny_Name (wpAny_loadName_free I.ok.kind hk hc hcell fin hcd) hd
theorem pe_int {i j pos} : PE X (.Constant (.int i) j pos) (tC (.int i)) := fun _ _ _ H _ I h => wpAny_Constant_int ⟨.int i, H, I.tok _, ⟨_, rfl⟩, h⟩
theorem pe_bl {b j pos} : PE X (.Constant (.bool b) j pos) (tC (.bl b)) := fun _ _ _ H _ I h => Constant_bool ⟨.bl b, H, I, rfl, h⟩
theorem pe_non {j pos} : PE X (.Constant .none j pos) (tC .non) := fun _ _ _ H _ I h => Constant_none ⟨.non, H, I, rfl, h⟩
theorem pe_str {x j pos} : PE X (.Constant (.str x) j pos) (tC (.str x)) := fun _ _ _ H _ I h => Calls.Constant_str ⟨.str x, H, I.tok _, ⟨_, rfl⟩, h⟩

/-- a global name of the def -/
def Gl (X : Cx) (x : Str) : Prop := X.env.kindOf x = some .globalImplicit
theorem ld_glob {E : Value → Shared → Prop} {pins : List (Addr × Obj)} {s : Shared} {σ : St} {H : Hp} {x : Str} {u : Value} {pos : Pos} {Q : Value → Shared → Prop} (I : Inv X pins σ H s) (hg : Gl X x) (hm : X.mg x = some u) (h : Q u s)
    (hd : (x == ("__debug__" : Str)) = false := by decide) : wpAny (model X.prog X.w) X.A (eval (.Name x pos) X.env) Q E s :=
  Calls.Name_function_global I.ok.kind hg (Calls.loadGlobal_global (by rw [I.ok.glob]; exact I.mod.glob.keeps I.bk) hm h) hd
theorem ld_blt {E : Value → Shared → Prop} {pins : List (Addr × Obj)} {s : Shared} {σ : St} {H : Hp} {x : Str} {u : Value} {pos : Pos} {Q : Value → Shared → Prop} (I : Inv X pins σ H s) (hg : Gl X x) (hm : X.mg x = none) (hv : bootBuiltins x = some u) (h : Q u s)
    (hn : x ≠ "__name__" := by decide) (hd : (x == ("__debug__" : Str)) = false := by decide) : wpAny (model X.prog X.w) X.A (eval (.Name x pos) X.env) Q E s := by
  obtain ⟨mb, h1, h2⟩ := I.mod.blt
  exact Calls.Name_function_global I.ok.kind hg (Calls.loadGlobal_builtin (by rw [I.ok.glob]; exact I.mod.glob.keeps I.bk) hm (by rw [I.ok.blt]; exact h1.keeps I.bk) ((h2 x hn).trans hv) h) hd
/-- a module's constant, a class, a function, as a value -/
theorem pe_glob {x : Str} {v : V} {u : Value} {pos : Pos} (hg : Gl X x) (hm : X.mg x = some u) (r : RelV v u) (hd : (x == ("__debug__" : Str)) = false := by decide) : PE X (.Name x pos) (tC v) :=
  fun _ _ _ H _ I h => ld_glob I hg hm ⟨v, H, I, r, h⟩ hd
theorem pe_bltn {x : Str} {v : V} {u : Value} {pos : Pos} (hg : Gl X x) (hm : X.mg x = none) (hv : bootBuiltins x = some u) (r : RelV v u) (hn : x ≠ "__name__" := by decide) (hd : (x == ("__debug__" : Str)) = false := by decide) : PE X (.Name x pos) (tC v) :=
  fun _ _ _ H _ I h => ld_blt I hg hm hv ⟨v, H, I, r, h⟩ hn hd

/-! ### arithmetic -/
/-- two ints -/
def t2I (ta tb : TE) (k : Int → Int → Hp → Prop) : St → Hp → Prop := fun σ H => ta σ H fun x H1 => tb σ H1 fun y H2 => ∃ i j, x = .int i ∧ y = .int j ∧ k i j H2
def tAdd (ta tb : TE) : TE := fun σ H Q => t2I ta tb (fun i j H2 => Q (.int (i + j)) H2) σ H
def tSub (ta tb : TE) : TE := fun σ H Q => t2I ta tb (fun i j H2 => Q (.int (i - j)) H2) σ H
/-- the left factor below 2^64 -/
def tMul (ta tb : TE) : TE := fun σ H Q => t2I ta tb (fun i j H2 => (-(2 ^ 64) < i ∧ i < 2 ^ 64) ∧ Q (.int (i * j)) H2) σ H
variable {a b : Expr} {ta tb : TE} {pos : Pos}
theorem pe_add (ha : PE X a ta) (hb : PE X b tb) : PE X (.BinOp a .Add b pos) (tAdd ta tb) := by
  intro pins s σ H Q I h
  refine wpAny_BinOp (bin ha hb I h fun v u s2 x y H2 I2 rx ry q => ?_)
  obtain ⟨i, j, rfl, rfl, q⟩ := q
  obtain ⟨t, rfl⟩ := rx
  obtain ⟨t', rfl⟩ := ry
  exact add_int ⟨.int _, H2, I2.tok _, ⟨_, rfl⟩, q⟩
theorem pe_sub (ha : PE X a ta) (hb : PE X b tb) : PE X (.BinOp a .Sub b pos) (tSub ta tb) := by
  intro pins s σ H Q I h
  refine wpAny_BinOp (bin ha hb I h fun v u s2 x y H2 I2 rx ry q => ?_)
  obtain ⟨i, j, rfl, rfl, q⟩ := q
  obtain ⟨t, rfl⟩ := rx
  obtain ⟨t', rfl⟩ := ry
  exact sub_int ⟨.int _, H2, I2.tok _, ⟨_, rfl⟩, q⟩
theorem pe_mul (ha : PE X a ta) (hb : PE X b tb) : PE X (.BinOp a .Mult b pos) (tMul ta tb) := by
  intro pins s σ H Q I h
  refine wpAny_BinOp (bin ha hb I h fun v u s2 x y H2 I2 rx ry q => ?_)
  obtain ⟨i, j, rfl, rfl, ⟨q1, q2⟩, q⟩ := q
  obtain ⟨t, rfl⟩ := rx
  obtain ⟨t', rfl⟩ := ry
  exact mul_int ⟨.int _, H2, I2.tok _, ⟨_, rfl⟩, q⟩ (.of_left (intBits_le_64 q1 q2))

/-! ### comparisons -/
def PC (X : Cx) (op : CmpOp) (a b : Expr) (t : TE) : Prop :=
  ∀ (pins : List (Addr × Obj)) (s : Shared) (σ : St) (H : Hp) (Q : VK), Inv X pins σ H s → t σ H Q →
    wpAny (model X.prog X.w) X.A (eval a X.env) (fun v s₁ => wpAny (model X.prog X.w) X.A (eval b X.env) (fun u s₂ => wpAny (model X.prog X.w) X.A (compareOp op v u) (EP X pins σ Q) X.xe s₂) X.xe s₁) X.xe s
theorem nobehind (b : Expr) {op : CmpOp} (h : op ≠ .In) (h2 : op ≠ .NotIn) : behindInMarks op b = false := by
  have e1 : (op == CmpOp.In) = false := by cases op <;> first | rfl | exact absurd rfl h
  have e2 : (op == CmpOp.NotIn) = false := by cases op <;> first | rfl | exact absurd rfl h2
  cases b <;> simp [behindInMarks, e1, e2]
def tCmp (p : Int → Int → Bool) (ta tb : TE) : TE := fun σ H Q => t2I ta tb (fun i j H2 => Q (.bl (p i j)) H2) σ H
abbrev tLt : TE → TE → TE := tCmp fun i j => decide (i < j)
abbrev tLe : TE → TE → TE := tCmp fun i j => decide (i ≤ j)
abbrev tGt : TE → TE → TE := tCmp fun i j => decide (j < i)
abbrev tGe : TE → TE → TE := tCmp fun i j => decide (j ≤ i)
abbrev tEqI : TE → TE → TE := tCmp fun i j => decide (i = j)
abbrev tNeI : TE → TE → TE := tCmp fun i j => !decide (i = j)
/-- a comparison of two ints, by its rule -/
theorem pc_int {op : CmpOp} {p : Int → Int → Bool} (ha : PE X a ta) (hb : PE X b tb)
    (rule : ∀ (i j : Int) (t u : Tok) (Q : Value → Shared → Prop) (s : Shared), Q (.bool (p i j)) s → wpAny (model X.prog X.w) X.A (compareOp op (.int i t) (.int j u)) Q X.xe s) : PC X op a b (tCmp p ta tb) := by
  intro pins s σ H Q I h
  refine bin ha hb I h fun v u s2 x y H2 I2 rx ry q => ?_
  obtain ⟨i, j, rfl, rfl, q⟩ := q
  obtain ⟨t, rfl⟩ := rx
  obtain ⟨t', rfl⟩ := ry
  exact rule i j t t' _ s2 ⟨.bl _, H2, I2, rfl, q⟩
theorem pc_lt (ha : PE X a ta) (hb : PE X b tb) : PC X .Lt a b (tLt ta tb) := pc_int ha hb fun _ _ _ _ _ _ h => lt_int h
theorem pc_le (ha : PE X a ta) (hb : PE X b tb) : PC X .LtE a b (tLe ta tb) := pc_int ha hb fun _ _ _ _ _ _ h => le_int h
theorem pc_gt (ha : PE X a ta) (hb : PE X b tb) : PC X .Gt a b (tGt ta tb) := pc_int ha hb fun _ _ _ _ _ _ h => gt_int h
theorem pc_ge (ha : PE X a ta) (hb : PE X b tb) : PC X .GtE a b (tGe ta tb) := pc_int ha hb fun _ _ _ _ _ _ h => ge_int h
theorem pc_eqI (ha : PE X a ta) (hb : PE X b tb) : PC X .Eq a b (tEqI ta tb) := pc_int ha hb fun _ _ _ _ _ _ h => eq_int (by rw [Bool.beq_eq_decide_eq]; exact h)
theorem pc_neI (ha : PE X a ta) (hb : PE X b tb) : PC X .NotEq a b (tNeI ta tb) := pc_int ha hb fun _ _ _ _ _ _ h => ne_int (by rw [bne, Bool.beq_eq_decide_eq]; exact h)
/-- is None -/
def tIsN (ta : TE) : TE := fun σ H Q => ta σ H fun x H1 => Q (.bl (decide (x = .non))) H1
def tNotN (ta : TE) : TE := fun σ H Q => ta σ H fun x H1 => Q (.bl (!decide (x = .non))) H1
theorem RelV.none_iff {x : V} {v : Value} (r : RelV x v) : (v == Value.none) = decide (x = .non) := by
  cases x with
  | non => cases r; rfl
  | bl _ => cases r; rfl
  | int _ => obtain ⟨t, rfl⟩ := r; rfl
  | str _ => obtain ⟨t, rfl⟩ := r; rfl
  | byt _ => obtain ⟨t, rfl⟩ := r; rfl
  | flt _ => obtain ⟨t, rfl⟩ := r; rfl
  | ref _ => cases r; rfl
  | ty _ => cases r; rfl
theorem pc_isN {j pos'} (ha : PE X a ta) : PC X .Is a (.Constant .none j pos') (tIsN ta) := by
  intro pins s σ H Q I h
  refine thn (ha pins s σ H _ I h) fun v s1 ⟨x, H1, I1, r1, q1⟩ => ?_
  exact Constant_none (is_none_gen ⟨.bl _, H1, I1, by rw [r1.none_iff]; rfl, q1⟩)
theorem pc_notN {j pos'} (ha : PE X a ta) : PC X .IsNot a (.Constant .none j pos') (tNotN ta) := by
  intro pins s σ H Q I h
  refine thn (ha pins s σ H _ I h) fun v s1 ⟨x, H1, I1, r1, q1⟩ => ?_
  exact Constant_none (isnot_none_gen ⟨.bl _, H1, I1, by rw [r1.none_iff]; rfl, q1⟩)
/-- a comparison as a value, as a test -/
def tB (t : TE) : TT := fun σ H Q => t σ H fun x H1 => ∃ c, x = .bl c ∧ Q c H1
theorem pe_cmp {op : CmpOp} {t : TE} (h : PC X op a b t) (h1 : behindInMarks op b = false := by first | exact nobehind _ (by decide) (by decide) | rfl) : PE X (.Compare a [op] [b] pos) t := fun pins s σ H Q I hw => wpAny_Compare1 (h pins s σ H Q I hw) h1
theorem pt_cmp {op : CmpOp} {t : TE} (h : PC X op a b t) (h1 : behindInMarks op b = false := by first | exact nobehind _ (by decide) (by decide) | rfl) : PT X (.Compare a [op] [b] pos) (tB t) := by
  intro pins s σ H Q I hw
  refine wpAny_isTrue_Compare1 (thn (h pins s σ H _ I hw) fun v s1 h1 => thn h1 fun u s2 h2 => thn h2 fun c s3 ⟨x, H1, I1, r1, q1⟩ => ?_) h1
  obtain ⟨d, rfl, q⟩ := q1
  cases r1
  exact wpAny_truthy_bool ⟨H1, I1, q⟩
/-- an expression whose value is a bool, as a test -/
theorem pt_val {e : Expr} {t : TE} (h : PE X e t) (he : ∀ whole, isTrue e X.env whole = (do let v ← whole; standAt e.pos; holding [v] (truthy v)) := by intro _; rfl) : PT X e (tB t) := by
  intro pins s σ H Q I hw
  refine isTrue_plain (thn (h pins s σ H _ I hw) fun v s1 ⟨x, H1, I1, r1, q1⟩ => ?_) (he _)
  obtain ⟨d, rfl, q⟩ := q1
  cases r1
  exact wpAny_truthy_bool ⟨H1, I1, q⟩

/-! ### and, or, not -/
variable {tA tB' : TT} {rest : List Expr}
def tAnd (t u : TT) : TT := fun σ H Q => t σ H fun c H1 => if c = true then u σ H1 Q else Q false H1
def tOr (t u : TT) : TT := fun σ H Q => t σ H fun c H1 => if c = true then Q true H1 else u σ H1 Q
def tNot (t : TT) : TT := fun σ H Q => t σ H fun c H1 => Q (!c) H1
theorem pw_and1 (ha : PT X a tA) : PW X (.BoolOp .And [a] pos) tA := by
  intro wh pins s σ H Q I h
  refine isTrue_and (thn (ha pins s σ H Q I h) fun c s1 e => ?_)
  cases c with
  | true => exact isTrue_and_nil e
  | false => exact e
theorem pw_or1 (ha : PT X a tA) : PW X (.BoolOp .Or [a] pos) tA := by
  intro wh pins s σ H Q I h
  refine isTrue_or (thn (ha pins s σ H Q I h) fun c s1 e => ?_)
  cases c with
  | false => exact isTrue_or_nil e
  | true => exact e
theorem pw_and (ha : PT X a tA) (hb : PW X (.BoolOp .And (b :: rest) pos) tB') : PW X (.BoolOp .And (a :: b :: rest) pos) (tAnd tA tB') := by
  intro wh pins s σ H Q I h
  refine isTrue_and (thn (ha pins s σ H _ I h) fun c s1 ⟨H1, I1, q1⟩ => ?_)
  cases c with
  | true => exact hb wh pins s1 σ H1 Q I1 q1
  | false => exact ⟨H1, I1, q1⟩
theorem pw_or (ha : PT X a tA) (hb : PW X (.BoolOp .Or (b :: rest) pos) tB') : PW X (.BoolOp .Or (a :: b :: rest) pos) (tOr tA tB') := by
  intro wh pins s σ H Q I h
  refine isTrue_or (thn (ha pins s σ H _ I h) fun c s1 ⟨H1, I1, q1⟩ => ?_)
  cases c with
  | true => exact ⟨H1, I1, q1⟩
  | false => exact hb wh pins s1 σ H1 Q I1 q1
theorem pt_not (ha : PT X a tA) : PT X (.UnaryOp .Not a pos) (tNot tA) := by
  intro pins s σ H Q I h
  exact isTrue_not (ha pins s σ H (fun c H1 => Q (!c) H1) I h)
/-- .. as values (bools) -/
def tAndV (ta tb : TE) : TE := fun σ H Q => ta σ H fun x H1 => ∃ c, x = .bl c ∧ if c = true then tb σ H1 Q else Q (.bl false) H1
def tOrV (ta tb : TE) : TE := fun σ H Q => ta σ H fun x H1 => ∃ c, x = .bl c ∧ if c = true then Q (.bl true) H1 else tb σ H1 Q
def tNotV (ta : TE) : TE := fun σ H Q => ta σ H fun x H1 => ∃ c, x = .bl c ∧ Q (.bl (!c)) H1
theorem pe_one {op} {t : TE} (h : PE X a t) : PE X (.BoolOp op [a] pos) t := fun pins s σ H Q I hw => BoolOp_one (h pins s σ H Q I hw)
theorem pe_and (ha : PE X a ta) (hb : PE X (.BoolOp .And (b :: rest) pos) tb) : PE X (.BoolOp .And (a :: b :: rest) pos) (tAndV ta tb) := by
  intro pins s σ H Q I h
  refine BoolOp_and (thn (ha pins s σ H _ I h) fun v s1 ⟨x, H1, I1, r1, q1⟩ => ?_)
  obtain ⟨c, rfl, q1⟩ := q1
  cases r1
  refine wpAny_truthy_bool ?_
  cases c with
  | true => exact hb pins s1 σ H1 Q I1 q1
  | false => exact ⟨.bl false, H1, I1, rfl, q1⟩
theorem pe_or (ha : PE X a ta) (hb : PE X (.BoolOp .Or (b :: rest) pos) tb) : PE X (.BoolOp .Or (a :: b :: rest) pos) (tOrV ta tb) := by
  intro pins s σ H Q I h
  refine BoolOp_or (thn (ha pins s σ H _ I h) fun v s1 ⟨x, H1, I1, r1, q1⟩ => ?_)
  obtain ⟨c, rfl, q1⟩ := q1
  cases r1
  refine wpAny_truthy_bool ?_
  cases c with
  | false => exact hb pins s1 σ H1 Q I1 q1
  | true => exact ⟨.bl true, H1, I1, rfl, q1⟩
theorem pe_not (ha : PE X a ta) : PE X (.UnaryOp .Not a pos) (tNotV ta) := by
  intro pins s σ H Q I h
  refine UnaryOp_ (thn (ha pins s σ H _ I h) fun v s1 ⟨x, H1, I1, r1, q1⟩ => ?_)
  obtain ⟨c, rfl, q1⟩ := q1
  cases r1
  exact not_of (wpAny_truthy_bool ⟨.bl (!c), H1, I1, rfl, q1⟩)
/-- a if t else b -/
def tIf (t : TT) (ta tb : TE) : TE := fun σ H Q => t σ H fun c H1 => if c = true then ta σ H1 Q else tb σ H1 Q
theorem pe_ifExp {c : Expr} (hc : PT X c tA) (ha : PE X a ta) (hb : PE X b tb) : PE X (.IfExp c a b pos) (tIf tA ta tb) := by
  intro pins s σ H Q I h
  refine wpAny_IfExp (thn (hc pins s σ H _ I h) fun d s1 ⟨H1, I1, q1⟩ => ?_)
  cases d with
  | true => exact ha pins s1 σ H1 Q I1 q1
  | false => exact hb pins s1 σ H1 Q I1 q1
end
end L2

namespace L2
open PySem PySem.Spec PyProof.Rows

/-! ### a list, a tuple that is read: tracked, frozen, or an object of the module -/
def SqL (K : PySem.W.Frag) (H : Hp) (a : Addr) (xs : List V) : Prop :=
  Rd H a (.lst xs) ∨
    ∃ (o : Obj) (its : Array Value) (n : Nat), K.lookup a = some o ∧ o.cls = .type "list" ∧ o.dict = none ∧ o.data = .seq its n ∧ its.size ≤ sizeLine ∧ Vals xs its.toList
def SqT (K : PySem.W.Frag) (H : Hp) (a : Addr) (xs : List V) : Prop :=
  Rd H a (.tup xs) ∨
    ∃ (o : Obj) (its : Array Value) (n : Nat), K.lookup a = some o ∧ o.cls = .type "tuple" ∧ o.data = .seq its n ∧ its.size ≤ sizeLine ∧ Vals xs its.toList
def absV : Value → Option V
  | .none => some .non
  | .bool b => some (.bl b)
  | .int i _ => some (.int i)
  | .str x _ => some (.str x)
  | .bytes b _ => some (.byt b)
  | .float b _ => some (.flt b)
  | .ref a => some (.ref a)
  | .type n => some (.ty n)
  | _ => none
theorem RelV.abs {x : V} {u : Value} (r : RelV x u) : absV u = some x := by
  cases x with
  | non => cases r; rfl
  | bl _ => cases r; rfl
  | int _ => obtain ⟨t, rfl⟩ := r; rfl
  | str _ => obtain ⟨t, rfl⟩ := r; rfl
  | byt _ => obtain ⟨t, rfl⟩ := r; rfl
  | flt _ => obtain ⟨t, rfl⟩ := r; rfl
  | ref _ => cases r; rfl
  | ty _ => cases r; rfl
theorem RelV.inj {x y : V} {u : Value} (r : RelV x u) (q : RelV y u) : x = y := Option.some.inj (r.abs.symm.trans q.abs)
theorem Vals.inj : ∀ {xs ys : List V} {us : List Value}, Vals xs us → Vals ys us → xs = ys
  | _, _, _, .nil, .nil => rfl
  | _, _, _, .cons r t, .cons r' t' => by rw [r.inj r', Vals.inj t t']
section
variable {X : Cx} {pins : List (Addr × Obj)} {σ : St} {H : Hp} {s : Shared} {a : Addr} {xs ys : List V}
theorem SqL.of {K : PySem.W.Frag} (h : H a = some (.lst xs)) : SqL K H a xs := .inl (.inl h)
theorem SqT.of {K : PySem.W.Frag} (h : H a = some (.tup xs)) : SqT K H a xs := .inl (.inl h)
theorem Inv.list (I : Inv X pins σ H s) (h : SqL X.K H a xs) : ∃ its : List Value, Vals xs its ∧ PlainL s.heap a its.toArray ∧ xs.length ≤ sizeLine := by
  rcases h with h | ⟨o, its, n, hk, hc, hd, hs, hz, r⟩
  · obtain ⟨z, its, n, r, e⟩ := h.ok I.hok
    exact ⟨its, r, ⟨_, n, e, rfl, rfl, rfl⟩, z⟩
  · refine ⟨its.toList, r, ⟨o, n, I.kIn a o hk, hc, hd, by simpa using hs⟩, ?_⟩
    have e := r.length
    simp only [Array.length_toList] at e
    omega
theorem Inv.tuple (I : Inv X pins σ H s) (h : SqT X.K H a xs) : ∃ its : List Value, Vals xs its ∧ IsTup s.heap a its.toArray ∧ xs.length ≤ sizeLine := by
  rcases h with h | ⟨o, its, n, hk, hc, hs, hz, r⟩
  · obtain ⟨z, its, r, p⟩ := h.ok I.hok
    exact ⟨its, r, p, z⟩
  · refine ⟨its.toList, r, ⟨o, I.kIn a o hk, hc, n, by simpa using hs⟩, ?_⟩
    have e := r.length
    simp only [Array.length_toList] at e
    omega
theorem Inv.list_inj (I : Inv X pins σ H s) (h : SqL X.K H a xs) (h' : SqL X.K H a ys) : xs = ys := by
  obtain ⟨its, r, ⟨o, n, e, _, _, d⟩, _⟩ := I.list h
  obtain ⟨its', r', ⟨o', n', e', _, _, d'⟩, _⟩ := I.list h'
  rw [e] at e'; cases e'
  rw [d] at d'
  injection d' with d1 _
  have : its = its' := by simpa using congrArg Array.toList d1
  subst this
  exact r.inj r'
theorem Inv.tuple_inj (I : Inv X pins σ H s) (h : SqT X.K H a xs) (h' : SqT X.K H a ys) : xs = ys := by
  obtain ⟨its, r, ⟨o, e, _, n, d⟩, _⟩ := I.tuple h
  obtain ⟨its', r', ⟨o', e', _, n', d'⟩, _⟩ := I.tuple h'
  rw [e] at e'; cases e'
  rw [d] at d'
  injection d' with d1 _
  have : its = its' := by simpa using congrArg Array.toList d1
  subst this
  exact r.inj r'
end

/-! ### another wish about exceptions -/
abbrev Cx.wish (X : Cx) (E : Value → Shared → Prop) : Cx := { X with xe := E }
/-- no exception leaves -/
abbrev Cx.nox (X : Cx) : Cx := X.wish fun _ _ => False
theorem Cx.Ok.wish {X : Cx} (ok : X.Ok) (E : Value → Shared → Prop) : (X.wish E).Ok :=
  ⟨ok.mod, ok.kind, ok.glob, ok.blt, ok.above, ok.inj, ok.has, ok.cab, ok.hd, ok.frames, ok.stk, ok.exf, ok.bs, ok.bsz, ok.noex, ok.exfs, ok.funs, ok.frf⟩
theorem Cx.Ok.unwish {X : Cx} {E : Value → Shared → Prop} (ok : (X.wish E).Ok) : X.Ok :=
  ⟨ok.mod, ok.kind, ok.glob, ok.blt, ok.above, ok.inj, ok.has, ok.cab, ok.hd, ok.frames, ok.stk, ok.exf, ok.bs, ok.bsz, ok.noex, ok.exfs, ok.funs, ok.frf⟩
section
variable {X : Cx} {pins : List (Addr × Obj)} {σ : St} {H : Hp} {s : Shared} {E : Value → Shared → Prop}
theorem Inv.wish (I : Inv X pins σ H s) (E : Value → Shared → Prop) : Inv (X.wish E) pins σ H s := ⟨I.ok.wish E, I.os, I.bare, I.base, I.loc, I.cell, I.free, I.freeC, I.pin, I.hok, I.len⟩
theorem Inv.unwish (I : Inv (X.wish E) pins σ H s) : Inv X pins σ H s := ⟨I.ok.unwish, I.os, I.bare, I.base, I.loc, I.cell, I.free, I.freeC, I.pin, I.hok, I.len⟩
theorem SP.unwish {D : Ends} {f : Flow} {s' : Shared} (h : SP (X.wish E) pins D f s') : SP X pins D f s' := by
  cases f with
  | next => obtain ⟨σ', H', I, q⟩ := h; exact ⟨σ', H', I.unwish, q⟩
  | brk => obtain ⟨σ', H', I, q⟩ := h; exact ⟨σ', H', I.unwish, q⟩
  | cont => obtain ⟨σ', H', I, q⟩ := h; exact ⟨σ', H', I.unwish, q⟩
  | ret u => obtain ⟨v, σ', H', I, r, q⟩ := h; exact ⟨v, σ', H', I.unwish, r, q⟩
theorem PE.nox {e : Expr} {t : TE} (h : PE X.nox e t) : PE X e t := fun pins s σ H Q I hw =>
  wpAny_mono (h pins s σ H Q (I.wish _) hw) (fun _ _ ⟨v, H', I', r, q⟩ => ⟨v, H', I'.unwish, r, q⟩) fun _ _ z => False.elim z
theorem PT.nox {e : Expr} {t : TT} (h : PT X.nox e t) : PT X e t := fun pins s σ H Q I hw =>
  wpAny_mono (h pins s σ H Q (I.wish _) hw) (fun _ _ ⟨H', I', q⟩ => ⟨H', I'.unwish, q⟩) fun _ _ z => False.elim z
theorem PSs.nox {st : List Stmt} {t : TS} (h : PSs X.nox st t) : PSs X st t := fun pins s σ H D I hw =>
  wpAny_mono (h pins s σ H D (I.wish _) hw) (fun _ _ q => q.unwish) fun _ _ z => False.elim z
end

/-! ### blocks and small statements -/
section
variable {X : Cx} {st : Stmt} {rest : List Stmt} {t u : TS} {e : Expr} {te : TE} {pos : Pos}
def tNext : TS := fun D σ H => D.nx σ H
def tSeq (t u : TS) : TS := fun D σ H => t { D with nx := u D } σ H
theorem pss_nil : PSs X [] tNext := fun _ _ σ H _ I h => wpAny_execs_nil ⟨σ, H, I, h⟩
theorem pss_cons (h1 : PS X st t) (h2 : PSs X rest u) : PSs X (st :: rest) (tSeq t u) := by
  intro pins s σ H D I h
  refine wpAny_execs_cons (thn (h1 pins s σ H { D with nx := u D } I h) fun f s1 q => ?_)
  cases f with
  | next =>
    obtain ⟨σ', H', I', q⟩ := q
    exact h2 pins s1 σ' H' D I' q
  | ret v => exact q
  | brk => exact q
  | cont => exact q
theorem pss_one (h1 : PS X st t) : PSs X [st] t := by
  intro pins s σ H D I h
  refine wpAny_execs_cons (thn (h1 pins s σ H D I h) fun f s1 q => ?_)
  cases f with
  | next => exact wpAny_execs_nil q
  | ret v => exact q
  | brk => exact q
  | cont => exact q
def tBreak : TS := fun D σ H => D.bk σ H
def tCont : TS := fun D σ H => D.ct σ H
theorem ps_pass : PS X (.Pass pos) tNext := fun _ _ σ H _ I h => wpAny_Pass ⟨σ, H, I, h⟩
theorem ps_break : PS X (.Break pos) tBreak := fun _ _ σ H _ I h => wpAny_Break ⟨σ, H, I, h⟩
theorem ps_continue : PS X (.Continue pos) tCont := fun _ _ σ H _ I h => wpAny_Continue ⟨σ, H, I, h⟩
/-- in a def's body nothing is shown -/
theorem Inv.quiet {pins : List (Addr × Obj)} {σ : St} {H : Hp} {s : Shared} (I : Inv X pins σ H s) : interactive X.env = false := by simp [interactive, I.ok.kind]
/-- a docstring -/
theorem ps_doc {x j pos pos'} : PS X (.Expr (.Constant (.str x) j pos) pos') tNext := fun _ s σ H _ I h => wpAny_Expr (Calls.Constant_str (show SP X _ _ .next { s with toks := s.toks + 1 } from ⟨σ, H, I.tok _, h⟩)) I.quiet
/-- an expression whose value is dropped -/
def tDrop (te : TE) : TS := fun D σ H => te σ H fun _ H1 => D.nx σ H1
theorem ps_expr (he : PE X e te) (hs : swapsWith e none pos.line X.env = pure false := by rfl) : PS X (.Expr e pos) (tDrop te) := by
  intro pins s σ H D I h
  exact wpAny_Expr_any (thn (he pins s σ H _ I h) fun v s1 ⟨x, H1, I1, r1, q1⟩ => ⟨σ, H1, I1, q1⟩) I.quiet hs
def tRet (te : TE) : TS := fun D σ H => te σ H D.rt
theorem ps_ret (he : PE X e te) : PS X (.Return (some e) pos) (tRet te) := by
  intro pins s σ H D I h
  exact wpAny_Return_some (thn (he pins s σ H _ I h) fun v s1 ⟨x, H1, I1, r1, q1⟩ => ⟨x, σ, H1, I1, r1, q1⟩)
def tRetN : TS := fun D _ H => D.rt .non H
theorem ps_retN : PS X (.Return none pos) tRetN := fun _ _ σ H _ I h => wpAny_Return_none ⟨.non, σ, H, I, rfl, h⟩
def tIfS (c : TT) (t u : TS) : TS := fun D σ H => c σ H fun b H1 => if b = true then t D σ H1 else u D σ H1
theorem ps_if {c : Expr} {a b : List Stmt} {tc : TT} (hc : PT X c tc) (ha : PSs X a t) (hb : PSs X b u) : PS X (.If c a b pos) (tIfS tc t u) := by
  intro pins s σ H D I h
  refine wpAny_If (thn (hc pins s σ H _ I h) fun d s1 ⟨H1, I1, q1⟩ => ?_)
  cases d with
  | true => exact ha pins s1 σ H1 D I1 q1
  | false => exact hb pins s1 σ H1 D I1 q1
/-- code that the proof never comes to -/
def tNever : TS := fun _ _ _ => False
theorem ps_never : PS X st tNever := fun _ _ _ _ _ _ h => h.elim
theorem pss_never {sts : List Stmt} : PSs X sts tNever := fun _ _ _ _ _ _ h => h.elim
end

/-! ### targets -/
abbrev TG := V → St → Hp → (St → Hp → Prop) → Prop
abbrev TGs := List V → St → Hp → (St → Hp → Prop) → Prop
def PG (X : Cx) (target : Expr) (t : TG) : Prop :=
  ∀ (pins : List (Addr × Obj)) (s : Shared) (σ : St) (H : Hp) (v : V) (u : Value) (Q : St → Hp → Prop), Inv X pins σ H s → RelV v u → t v σ H Q →
    wpAny (model X.prog X.w) X.A (assign target X.env u) (fun _ s' => ∃ σ' H', Inv X pins σ' H' s' ∧ Q σ' H') X.xe s
/-- several targets, one after another -/
def PGs (X : Cx) (ts : List Expr) (t : TGs) : Prop :=
  ∀ (pins : List (Addr × Obj)) (s : Shared) (σ : St) (H : Hp) (vs : List V) (us : List Value) (Q : St → Hp → Prop), Inv X pins σ H s → Vals vs us → t vs σ H Q →
    wpAny (model X.prog X.w) X.A (assignInOrder ((assignEach ts X.env).map (·.2)) us) (fun _ s' => ∃ σ' H', Inv X pins σ' H' s' ∧ Q σ' H') X.xe s
/-- o[i] = v, by values -/
abbrev TSet := V → V → V → Hp → (Hp → Prop) → Prop
def PSet (X : Cx) (t : TSet) : Prop :=
  ∀ (pins : List (Addr × Obj)) (s : Shared) (σ : St) (H : Hp) (o i v : V) (ov iv u : Value) (Q : Hp → Prop), Inv X pins σ H s → RelV o ov → RelV i iv → RelV v u → t o i v H Q →
    wpAny (model X.prog X.w) X.A (setItem ov iv u) (fun _ s' => ∃ H', Inv X pins σ H' s' ∧ Q H') X.xe s
/-- a op= b, by values -/
abbrev TIp := V → V → Hp → VK → Prop
def PIp (X : Cx) (op : Operator) (t : TIp) : Prop :=
  ∀ (pins : List (Addr × Obj)) (s : Shared) (σ : St) (H : Hp) (x y : V) (v u : Value) (Q : VK), Inv X pins σ H s → RelV x v → RelV y u → t x y H Q →
    wpAny (model X.prog X.w) X.A (inplaceOp op v u) (EP X pins σ Q) X.xe s
section
variable {X : Cx} {pos : Pos}
def gName (i : Nat) : TG := fun v σ H Q => Q (σ.set i (some v)) H
theorem pg_name {i : Nat} {x : Str} (hN : X.N.Nodup) (hi : X.N[i]? = some x) (hx : Loc X.env.scope x) (hf : X.fn x = true ∨ X.env.scope.names.lookup x = some .local := by first | exact .inl rfl | exact .inr rfl | assumption) : PG X (.Name x pos) (gName i) := by
  intro pins s σ H v u Q I r h
  exact wpAny_assign_Name (store_ok I hN hi hx r (fun s' I' => ⟨_, H, I', h⟩) hf)
def gNil : TGs := fun vs σ H Q => vs = [] ∧ Q σ H
def gCons (t : TG) (u : TGs) : TGs := fun vs σ H Q => ∃ v r, vs = v :: r ∧ t v σ H fun σ' H' => u r σ' H' Q
theorem pgs_nil : PGs X [] gNil := by
  intro pins s σ H vs us Q I r h
  obtain ⟨e, h⟩ := h
  subst e
  cases r
  exact assignInOrder_nil ⟨σ, H, I, h⟩
theorem pgs_cons {e : Expr} {es : List Expr} {t : TG} {u : TGs} (h1 : PG X e t) (h2 : PGs X es u)
    (hs : (assignEach (e :: es) X.env).map (·.2) = assign e X.env :: (assignEach es X.env).map (·.2) := by rfl) : PGs X (e :: es) (gCons t u) := by
  intro pins s σ H vs us Q I r h
  obtain ⟨v, vr, e1, h⟩ := h
  subst e1
  cases r with
  | cons r rr =>
    rw [hs]
    refine assignInOrder_cons (thn (h1 pins s σ H _ _ _ I r h) fun _ s1 ⟨σ1, H1, I1, q1⟩ => ?_)
    exact h2 pins s1 σ1 H1 _ _ Q I1 rr q1
/-- (a, b, ..) = a tuple of that length -/
def gTup (K : PySem.W.Frag) (n : Nat) (t : TGs) : TG := fun v σ H Q => ∃ a xs, v = .ref a ∧ SqT K H a xs ∧ xs.length = n ∧ t xs σ H Q
theorem pg_tup {es : List Expr} {k : Nat} {t : TGs} {n : Nat} (hc : X.calm = true) (h : PGs X es t)
    (hn : (assignEach es X.env).length = n := by rfl) (hst : (assignEach es X.env).findIdx? (·.1) = none := by rfl) : PG X (.Tuple es k pos) (gTup X.K n t) := by
  intro pins s σ H v u Q I r hw
  obtain ⟨a, xs, e1, hq, hl, hw⟩ := hw
  subst e1
  cases r
  obtain ⟨its, rv, ht, hz⟩ := I.tuple hq
  refine assign_Tuple_tuple (I.ok.hd hc) ht (by simp [hn, ← hl, rv.length]) hst fun h' hx => ?_
  have I1 : Inv X pins σ H { s with heap := h' } := I.kept (t' := s.toks) fun b o e => hx b o (Nat.ne_of_lt (Heap.lt_size e)) e
  exact h pins _ σ H xs _ Q I1 (by simpa using rv) hw
/-- o[i] = .. -/
def gSub (to ti : TE) (t : TSet) : TG := fun v σ H Q => to σ H fun o H1 => ti σ H1 fun i H2 => t o i v H2 fun H3 => Q σ H3
theorem pg_sub {o i : Expr} {to ti : TE} {t : TSet} (ho : PE X o to) (hi : PE X i ti) (hs : PSet X t)
    (ha : ∀ v, assign (.Subscript o i pos) X.env v = (do
      let ov ← holding [v] (eval o X.env)
      let iv ← holding [v, ov] (eval i X.env)
      standAt pos
      holding [v, ov, iv] (setItem ov iv v)
      release [v, ov, iv] []) := by intro _; rfl) : PG X (.Subscript o i pos) (gSub to ti t) := by
  intro pins s σ H v u Q I r h
  rw [ha]
  refine wpAny_bind (wpAny_holding (thn (ho pins s σ H _ I h) fun ov s1 ⟨x, H1, I1, r1, q1⟩ => ?_))
  refine wpAny_bind (wpAny_holding (thn (hi pins s1 σ H1 _ I1 q1) fun iv s2 ⟨y, H2, I2, r2, q2⟩ => ?_))
  refine wpAny_bind (wpAny_standAt (wpAny_bind (wpAny_holding (thn (hs pins s2 σ H2 x y v ov iv u _ I2 r1 r2 r q2) fun _ s3 ⟨H3, I3, q3⟩ => ?_))))
  exact wpAny_release ⟨σ, H3, I3, q3⟩
/-- target = value -/
def tAsg (te : TE) (g : TG) : TS := fun D σ H => te σ H fun x H1 => g x σ H1 D.nx
theorem ps_asg {tg e : Expr} {te : TE} {g : TG} (he : PE X e te) (hg : PG X tg g) (hs : swapsWithSole [tg] e pos.line X.env = pure false := by rfl) (hw : swappedStores [tg] e X.env = pure none := by rfl)
    (h1 : (assignEach [tg] X.env).map (·.2) = [assign tg X.env] := by rfl) : PS X (.Assign [tg] e pos) (tAsg te g) := by
  intro pins s σ H D I h
  refine wpAny_Assign_stores (thn (he pins s σ H _ I h) fun v s1 ⟨x, H1, I1, r1, q1⟩ => ?_) hs hw
  rw [h1]
  exact thn (hg pins s1 σ H1 x v _ I1 r1 q1) fun _ s2 q => q
/-- name = value -/
theorem ps_set {i : Nat} {x : Str} {e : Expr} {te : TE} {pos' : Pos} (hN : X.N.Nodup) (hi : X.N[i]? = some x) (hx : Loc X.env.scope x) (he : PE X e te) (hs : swapsWith e (some (.Name x pos')) pos.line X.env = pure false := by rfl) (hf : X.fn x = true ∨ X.env.scope.names.lookup x = some .local := by first | exact .inl rfl | exact .inr rfl | assumption) :
    PS X (.Assign [.Name x pos'] e pos) (tAsg te (gName i)) := by
  intro pins s σ H D I h
  refine wpAny_Assign_Name (thn (he pins s σ H _ I h) fun v s1 ⟨y, H1, I1, r1, q1⟩ => ?_) hs
  exact store_ok I1 hN hi hx r1 (fun s2 I2 => ⟨_, H1, I2, q1⟩) hf
/-- a, b = x, y with plain local names: stored from the right; the pair itself is not tracked (the opening rows as in PyProof/Rows/TupAssign.lean:23) -/
def tPar (i j : Nat) (ta : TA) : TS := fun D σ H => ta σ H fun vs H1 => ∃ v w, vs = [v, w] ∧ D.nx ((σ.set i (some v)).set j (some w)) H1
theorem ps_par {i j : Nat} {x y : Str} {a b : Expr} {ta : TA} {px py pt : Pos} {kt k2 pt2} (hc : X.calm = true) (hN : X.N.Nodup) (hi : X.N[i]? = some x) (hj : X.N[j]? = some y) (hij : i ≠ j)
    (hx : X.env.scope.names.lookup x = some .local) (hy : X.env.scope.names.lookup y = some .local) (ha : PA X [a, b] ta)
    (hw : swappedStores [.Tuple [.Name x px, .Name y py] kt pt] (.Tuple [a, b] k2 pt2) X.env = pure (some [x, y]))
    (hs : swapsWithSole [.Tuple [.Name x px, .Name y py] kt pt] (.Tuple [a, b] k2 pt2) pos.line X.env = pure false := by rfl) :
    PS X (.Assign [.Tuple [.Name x px, .Name y py] kt pt] (.Tuple [a, b] k2 pt2) pos) (tPar i j ta) := by
  intro pins s σ H D I h
  rw [exec_Assign_arm]
  refine wpAny_bind (wpAny_standAt ?_)
  rw [hs]
  refine wpAny_bind (wpAny_pure ?_)
  rw [if_neg (by decide)]
  refine wpAny_bind (Tuple_ (thn (ha _ pins s σ H _ I h) fun us s1 ⟨vs, H1, I1, r1, q1⟩ => ?_))
  obtain ⟨v, w, e1, q1⟩ := q1
  subst e1
  obtain ⟨u1, u2, rfl, rv, rw'⟩ : ∃ u1 u2, us = [u1, u2] ∧ RelV v u1 ∧ RelV w u2 := by
    cases r1 with
    | cons p q =>
      cases q with
      | cons p' q' =>
        cases q'
        exact ⟨_, _, rfl, p, p'⟩
  refine wpAny_newObj_type ?_ (by show 2 ≤ sizeLine; decide)
  have I2 : Inv X pins σ H1 { s1 with heap := s1.heap.push { cls := .type "tuple", data := .seq [u1, u2].toArray } } := I1.kept (t' := s1.toks) fun b o e => Heap.get?_push_of_some _ e
  rw [hw]
  refine wpAny_bind (wpAny_pure ?_)
  show wpAny (model X.prog X.w) X.A (do rule "assign.swapped-stores"; let items ← unpackItems (.ref s1.heap.objs.size) 2 none; assignInOrder [fun v => bindName X.env y v, fun v => bindName X.env x v] items.reverse; pure Flow.next) _ _ _
  refine wpAny_bind (wpAny_rule (wpAny_bind (unpackItems_tuple (items := #[u1, u2]) (I.ok.hd hc) (IsTup.new s1.heap _) fun h' hx' => ?_)))
  have I3 := I2.kept (h' := h') (t' := s1.toks) fun b o e => hx' b o (Nat.ne_of_lt (Heap.lt_size e)) e
  show wpAny _ _ (assignInOrder [fun v => bindName X.env y v, fun v => bindName X.env x v] [u2, u1] >>= fun _ => pure Flow.next) _ _ _
  refine wpAny_bind (assignInOrder_cons (wpAny_bindName (store_ok I3 hN hj (.inl hy) rw' (fun s2 I4 => ?_) (.inr hy))))
  refine assignInOrder_cons (wpAny_bindName (store_ok I4 hN hi (.inl hx) rv (fun s3 I5 => assignInOrder_nil (wpAny_pure ?_)) (.inr hx)))
  rw [List.set_comm _ _ (Ne.symm hij)] at I5
  exact ⟨_, H1, I5, q1⟩
/-- name op= e -/
def tAug (i : Nat) (te : TE) (ti : TIp) : TS := fun D σ H => ∃ x, σ[i]? = some (some x) ∧ te σ H fun y H1 => ti x y H1 fun z H2 => D.nx (σ.set i (some z)) H2
theorem ps_aug {i : Nat} {x : Str} {e : Expr} {te : TE} {op : Operator} {ti : TIp} {pos' : Pos} (hN : X.N.Nodup) (hi : X.N[i]? = some x) (hx : Loc X.env.scope x) (he : PE X e te) (ho : PIp X op ti) (hf : X.fn x = true ∨ X.env.scope.names.lookup x = some .local := by first | exact .inl rfl | exact .inr rfl | assumption) :
    PS X (.AugAssign (.Name x pos') op e pos) (tAug i te ti) := by
  intro pins s σ H D I h
  obtain ⟨v, e1, h⟩ := h
  obtain ⟨m, hn, hl⟩ := I.loc
  have vis : Vis X.env.scope x := by rcases hx with k | k; exact .inl k; exact .inr (.inl k)
  obtain ⟨u, r, l⟩ := hl i x v hi e1 vis
  refine wpAny_AugAssign_Name ?_
  have go : wpAny (model X.prog X.w) X.A (eval e X.env) (fun w s₂ => wpAny (model X.prog X.w) X.A (inplaceOp op u w) (fun r s₃ => wpAny (model X.prog X.w) X.A (storeName X.env x r) (fun _ => SP X pins D .next) X.xe s₃) X.xe s₂) X.xe s := by
    refine thn (he pins s σ H _ I h) fun w s1 ⟨y, H1, I1, r1, q1⟩ => ?_
    refine thn (ho pins s1 σ H1 v y u w _ I1 r r1 q1) fun z s2 ⟨zv, H2, I2, r2, q2⟩ => ?_
    exact store_ok I2 hN hi hx r2 (fun s3 I3 => ⟨_, H2, I3, q2⟩) hf
  rcases l with ⟨hk, hm⟩ | ⟨hk, c, hc, hcell⟩
  · exact wpAny_loadName_local I.ok.kind hk hn hm go
  · rcases hk with hk | hk
    · exact wpAny_loadName_cell I.ok.kind hk hc hcell go
    · rcases hx with k | k
      · have : X.env.scope.names.lookup x = some .free := hk
        rw [k] at this; cases this
      · have : X.env.scope.names.lookup x = some .free := hk
        rw [k] at this; cases this
/-- o[i] op= e -/
def tAugS (to ti te : TE) (tget : V → V → Hp → VK → Prop) (tip : TIp) (tset : TSet) : TS := fun D σ H => to σ H fun o H1 => ti σ H1 fun i H2 => tget o i H2 fun x H3 => te σ H3 fun y H4 => tip x y H4 fun z H5 => tset o i z H5 fun H6 => D.nx σ H6
/-- o[i], by values -/
def PGet (X : Cx) (t : V → V → Hp → VK → Prop) : Prop :=
  ∀ (pins : List (Addr × Obj)) (s : Shared) (σ : St) (H : Hp) (o i : V) (ov iv : Value) (Q : VK), Inv X pins σ H s → RelV o ov → RelV i iv → t o i H Q →
    wpAny (model X.prog X.w) X.A (getItem ov iv) (EP X pins σ Q) X.xe s
theorem ps_augS {o i e : Expr} {to ti te : TE} {tget : V → V → Hp → VK → Prop} {tip : TIp} {tset : TSet} {op : Operator} {tpos : Pos} (ho : PE X o to) (hi : PE X i ti) (hg : PGet X tget) (he : PE X e te) (hp : PIp X op tip) (hs : PSet X tset)
    (ha : ∀ ov iv new, augStore i ov iv new = (do holding [new, ov, iv] (setItem ov iv new); release [new, ov, iv] []; pure .next) := by intros; rfl) : PS X (.AugAssign (.Subscript o i tpos) op e pos) (tAugS to ti te tget tip tset) := by
  intro pins s σ H D I h
  refine wpAny_AugAssign_SubscriptAny (thn (ho pins s σ H _ I h) fun ov s1 ⟨x1, H1, I1, r1, q1⟩ => ?_) ha
  refine thn (hi pins s1 σ H1 _ I1 q1) fun iv s2 ⟨x2, H2, I2, r2, q2⟩ => ?_
  refine thn (hg pins s2 σ H2 x1 x2 ov iv _ I2 r1 r2 q2) fun old s3 ⟨x3, H3, I3, r3, q3⟩ => ?_
  refine thn (he pins s3 σ H3 _ I3 q3) fun v s4 ⟨x4, H4, I4, r4, q4⟩ => ?_
  refine thn (hp pins s4 σ H4 x3 x4 old v _ I4 r3 r4 q4) fun new s5 ⟨x5, H5, I5, r5, q5⟩ => ?_
  exact thn (hs pins s5 σ H5 x1 x2 x5 ov iv new _ I5 r1 r2 r5 q5) fun _ s6 ⟨H6, I6, q6⟩ => ⟨σ, H6, I6, q6⟩
/-- ints -/
def ipI (f : Int → Int → Int) : TIp := fun x y H Q => ∃ i j, x = .int i ∧ y = .int j ∧ Q (.int (f i j)) H
theorem ip_add : PIp X .Add (ipI fun i j => i + j) := by
  intro pins s σ H x y v u Q I r1 r2 h
  obtain ⟨i, j, e1, e2, q⟩ := h
  subst e1; subst e2
  obtain ⟨t, rfl⟩ := r1
  obtain ⟨t', rfl⟩ := r2
  exact iadd_int ⟨.int _, H, I.tok _, ⟨_, rfl⟩, q⟩
theorem ip_sub : PIp X .Sub (ipI fun i j => i - j) := by
  intro pins s σ H x y v u Q I r1 r2 h
  obtain ⟨i, j, e1, e2, q⟩ := h
  subst e1; subst e2
  obtain ⟨t, rfl⟩ := r1
  obtain ⟨t', rfl⟩ := r2
  exact isub_int ⟨.int _, H, I.tok _, ⟨_, rfl⟩, q⟩
end

/-! ### while -/
section
variable {X : Cx} {pos : Pos}
/-- the invariant W with its measure -/
def tWhile (c : TT) (tb : TS) : TS := fun D σ H => ∃ W : Nat → St → Hp → Prop, (∃ m, W m σ H) ∧ ∀ m σ H, W m σ H →
  c σ H fun b H1 => if b = true then ∃ N : St → Hp → Prop, (∀ σ' H', N σ' H' → ∃ m', m' < m ∧ W m' σ' H') ∧ tb { D with nx := N, ct := N, bk := D.nx } σ H1 else D.nx σ H1
theorem ps_while {c : Expr} {body : List Stmt} {tc : TT} {tb : TS} (hp : PassesOwn (model X.prog X.w) X.A X.env X.xe) (hc : PT X c tc) (hb : PSs X body tb) : PS X (.While c body [] pos) (tWhile tc tb) := by
  intro pins s σ H D I h
  obtain ⟨W, ⟨m0, w0⟩, turn⟩ := h
  refine wpAny_While (codeAny_whileLoop (fun n s' => ∃ σ' H', Inv X pins σ' H' s' ∧ W n σ' H') ?_ m0 ⟨σ, H, I, w0⟩)
  rintro n s1 ⟨σ1, H1, I1, w1⟩
  refine wpAny_passesOwn hp (thn (hc pins s1 σ1 H1 _ I1 (turn n σ1 H1 w1)) fun b s2 ⟨H2, I2, q2⟩ => ?_)
  cases b with
  | true =>
    obtain ⟨N, hN, q2⟩ := q2
    rw [if_pos rfl]
    refine wpAny_passesOwn hp (thn (hb pins s2 σ1 H2 _ I2 q2) fun f s3 q3 => ?_)
    cases f with
    | next =>
      obtain ⟨σ3, H3, I3, n3⟩ := q3
      obtain ⟨m', hm, w3⟩ := hN σ3 H3 n3
      exact ⟨m', hm, σ3, H3, I3, w3⟩
    | cont =>
      obtain ⟨σ3, H3, I3, n3⟩ := q3
      obtain ⟨m', hm, w3⟩ := hN σ3 H3 n3
      exact ⟨m', hm, σ3, H3, I3, w3⟩
    | brk => exact q3
    | ret v => exact q3
  | false =>
    rw [if_neg Bool.false_ne_true]
    exact wpAny_execs_nil ⟨σ1, H2, I2, q2⟩
end

/-! ### what a loop or a comprehension walks -/
/-- at turn i: it yields x (the heap may grow), or it stops -/
structure It where
  go : Nat → Hp → Prop
  yld : Nat → Hp → V → Hp → Prop
  stop : Nat → Hp → Prop
/-- the iterator's own objects may turn: they are not the frame's, not pinned, younger than the entry (or a comprehension's own) -/
def FpOk (X : Cx) (pins : List (Addr × Obj)) (H : Hp) (b : Addr) : Prop :=
  H b = none ∧ b ≠ X.env.locals ∧ b ∉ X.fs ∧ (b ∈ X.ex ∨ X.s₀.heap.objs.size ≤ b) ∧ (∀ x c, X.env.cells.lookup x = some c → c ≠ b) ∧ ∀ p ∈ X.pn ++ pins, p.1 ≠ b
theorem Inv.fpOk {X : Cx} {pins : List (Addr × Obj)} {σ : St} {H H' : Hp} {s : Shared} {b : Addr} (I : Inv X pins σ H s) (hb : s.heap.objs.size ≤ b) (hn : H' b = none) : FpOk X pins H' b := by
  refine ⟨hn, Nat.ne_of_gt (Nat.lt_of_lt_of_le I.lt hb), I.nofs hb, .inr (Nat.le_trans I.sz hb), fun x c e z => ?_, fun p hp z => ?_⟩
  · obtain ⟨v, q⟩ := I.cell x c e
    exact absurd (Nat.lt_of_lt_of_le q.lt (by rw [z]; exact hb)) (Nat.lt_irrefl _)
  · exact absurd (Nat.lt_of_lt_of_le (Heap.lt_size (I.pin p hp).1) (by rw [z]; exact hb)) (Nat.lt_irrefl _)
structure Turn (P : Program) (w : World) (K : PySem.W.Frag) (tg : Expr) (J : It) (fp : List Addr) (it : Addr) (tn : Nat → Heap → Prop) : Prop where
  mem : it ∈ fp
  obj : ∀ i h, tn i h → ∀ b ∈ fp, ∃ o, h.get? b = some o ∧ ∀ v, o.data ≠ .cell v
  keep : ∀ i h h', tn i h → (∀ b ∈ fp, ∀ o, h.get? b = some o → h'.get? b = some o) → tn i h'
  item : ∀ (X : Cx), X.prog = P → X.w = w → X.K = K → X.calm = true → ∀ (i : Nat) (pins : List (Addr × Obj)) (s : Shared) (σ : St) (H : Hp) (E : Value → Shared → Prop), Inv X pins σ H s → (∀ b ∈ fp, FpOk X pins H b) → tn i s.heap → J.go i H →
    wpAny (model P w) X.A (pyNext (.ref it)) (fun r s1 => ∃ u, r = some u ∧
      wpAny (model P w) X.A (letOwnedTupleGo tg (.ref it) u) (fun _ s2 => ∃ x H', Inv X pins σ H' s2 ∧ RelV x u ∧ J.yld i H x H' ∧ tn (i + 1) s2.heap ∧ ∀ b ∈ fp, H' b = none) E s1) E s
  done : ∀ (X : Cx), X.prog = P → X.w = w → X.K = K → X.calm = true → ∀ (i : Nat) (pins : List (Addr × Obj)) (s : Shared) (σ : St) (H : Hp) (E : Value → Shared → Prop), Inv X pins σ H s → (∀ b ∈ fp, FpOk X pins H b) → tn i s.heap → J.stop i H →
    wpAny (model P w) X.A (pyNext (.ref it)) (fun r s1 => r = none ∧ Inv X pins σ H s1) E s
  self : ∀ (A : Around) (i : Nat) (s : Shared) (Q : Value → Shared → Prop) (E : Value → Shared → Prop), tn i s.heap → Q (.ref it) s → wpAny (model P w) A (pyIter (.ref it)) Q E s
abbrev TI := St → Hp → (It → Hp → Prop) → Prop
/-- an iterator has come -/
def PIE (X : Cx) (pins : List (Addr × Obj)) (σ : St) (tg : Expr) (R : It → Hp → Prop) (itv : Value) (s2 : Shared) : Prop :=
  ∃ (it : Addr) (fp : List Addr) (tn : Nat → Heap → Prop) (J : It) (H' : Hp), itv = .ref it ∧ Inv X pins σ H' s2 ∧ Turn X.prog X.w X.K tg J fp it tn ∧ tn 0 s2.heap ∧ (∀ b ∈ fp, FpOk X pins H' b) ∧ R J H'
def PI (X : Cx) (tg iter : Expr) (wi : TI) : Prop :=
  ∀ (pins : List (Addr × Obj)) (s : Shared) (σ : St) (H : Hp) (R : It → Hp → Prop), Inv X pins σ H s → wi σ H R →
    wpAny (model X.prog X.w) X.A (eval iter X.env) (fun v s1 => wpAny (model X.prog X.w) X.A (pyIter v) (PIE X pins σ tg R) X.xe s1) X.xe s

/-- the step ahead of the store is nothing for an iterator that keeps no tuple -/
theorem go_of {M : Model} {A : Around} {E : Value → Shared → Prop} {s : Shared} {tg : Expr} {it : Addr} {u : Value} {o : Obj} {n : String} {vs : Array Value} {Q : Unit → Shared → Prop} (ho : s.heap.get? it = some o) (hc : o.cls = .type n) (hd : o.data = .fields vs)
    (hn : ["enumerate", "zip", "dict_itemiterator", "dict_reverseitemiterator", "odict_iterator", "itertools.zip_longest", "itertools.pairwise"].contains n = false) (hQ : Q () s) : wpAny M A (letOwnedTupleGo tg (.ref it) u) Q E s := by
  unfold letOwnedTupleGo
  cases tg <;> first
    | exact wpAny_pure hQ
    | (cases u <;> first
        | exact wpAny_pure hQ
        | (refine wpAny_bind (wpAny_load ho ?_)
           rw [hc, hd]
           show wpAny M A (if (["enumerate", "zip", "dict_itemiterator", "dict_reverseitemiterator", "odict_iterator", "itertools.zip_longest", "itertools.pairwise"].contains n && vs[0]? == some (rawInt _)) = true then _ else _) Q E s
           rw [if_neg (by intro h; rw [hn, Bool.false_and] at h; cases h)]
           exact wpAny_pure hQ))

/-- the list at a, as it stands at each turn (a loop may append to it) -/
def Itl (K : PySem.W.Frag) (a : Addr) : It :=
  ⟨fun i H => ∃ xs x, SqL K H a xs ∧ xs[i]? = some x, fun i H x H' => H' = H ∧ ∀ xs, SqL K H a xs → xs[i]? = some x, fun i H => ∃ xs, SqL K H a xs ∧ xs.length ≤ i⟩
def Itt (K : PySem.W.Frag) (a : Addr) : It :=
  ⟨fun i H => ∃ xs x, SqT K H a xs ∧ xs[i]? = some x, fun i H x H' => H' = H ∧ ∀ xs, SqT K H a xs → xs[i]? = some x, fun i H => ∃ xs, SqT K H a xs ∧ xs.length ≤ i⟩
/-- lo, lo + 1, .. (n of them) -/
def Itr (lo : Int) (n : Nat) : It := ⟨fun i _ => i < n, fun i H x H' => H' = H ∧ x = .int (lo + i), fun i _ => n ≤ i⟩
theorem turn_list {P : Program} {w : World} {K : PySem.W.Frag} {tg : Expr} (a it : Addr) : Turn P w K tg (Itl K a) [it] it (fun i h => h.IsListIter it a i) where
  mem := by simp
  obj := fun i h st b hb => by
    have e : b = it := by simpa using hb
    subst e
    obtain ⟨o, e, c, d⟩ := st
    exact ⟨o, e, fun v z => by rw [d] at z; cases z⟩
  keep := fun i h h' st k => st.at fun o e => k it (by simp) o e
  item := by
    intro X hP hw hK hc i pins s σ H E I hf st hg
    subst hP hw hK
    obtain ⟨xs, x, hq, hx⟩ := hg
    obtain ⟨its, rv, p, hz⟩ := I.list hq
    obtain ⟨u, hu, ru⟩ := rv.get hx
    obtain ⟨f0, f1, f2, f3, f4, f5⟩ := hf it (by simp)
    refine wpAny_pyNext_list_item st p.isList (x := u) (by simpa using hu) fun h' st' sb => ?_
    have I1 : Inv X pins σ H { s with heap := h' } := I.turned (t' := s.toks) (fun b o hb e => (sb.2 b hb).trans e) f0 f1 f3 f4 f5
    obtain ⟨o, e, c, d⟩ := id st'
    exact ⟨u, rfl, go_of (s := { s with heap := h' }) e c d (by decide) ⟨x, H, I1, ru, ⟨rfl, fun ys hy => by rw [I.list_inj hy hq]; exact hx⟩, st', fun b hb => (hf b hb).1⟩⟩
  done := by
    intro X hP hw hK hc i pins s σ H E I hf st hg
    subst hP hw hK
    obtain ⟨xs, hq, hx⟩ := hg
    obtain ⟨its, rv, p, hz⟩ := I.list hq
    obtain ⟨f0, f1, f2, f3, f4, f5⟩ := hf it (by simp)
    have hl := rv.length
    exact wpAny_pyNext_list_end (I.ok.hd hc) st p.isList (by simp; omega) fun h' eb => ⟨rfl, I.turned (t' := s.toks) (fun b o hb e => eb b o hb e) f0 f1 f3 f4 f5⟩
  self := fun _ _ _ _ _ st h => wpAny_pyIter_listiter st h
theorem turn_tuple {P : Program} {w : World} {K : PySem.W.Frag} {tg : Expr} (a it : Addr) : Turn P w K tg (Itt K a) [it] it (fun i h => h.IsTupleIter it a i) where
  mem := by simp
  obj := fun i h st b hb => by
    have e : b = it := by simpa using hb
    subst e
    obtain ⟨o, e, c, d⟩ := st
    exact ⟨o, e, fun v z => by rw [d] at z; cases z⟩
  keep := fun i h h' st k => st.at fun o e => k it (by simp) o e
  item := by
    intro X hP hw hK hc i pins s σ H E I hf st hg
    subst hP hw hK
    obtain ⟨xs, x, hq, hx⟩ := hg
    obtain ⟨its, rv, p, hz⟩ := I.tuple hq
    obtain ⟨u, hu, ru⟩ := rv.get hx
    obtain ⟨f0, f1, f2, f3, f4, f5⟩ := hf it (by simp)
    refine wpAny_pyNext_tuple_item st (show s.heap.IsTuple a its.toArray from p) (x := u) (by simpa using hu) fun h' st' sb => ?_
    have I1 : Inv X pins σ H { s with heap := h' } := I.turned (t' := s.toks) (fun b o hb e => (sb.2 b hb).trans e) f0 f1 f3 f4 f5
    obtain ⟨o, e, c, d⟩ := id st'
    exact ⟨u, rfl, go_of (s := { s with heap := h' }) e c d (by decide) ⟨x, H, I1, ru, ⟨rfl, fun ys hy => by rw [I.tuple_inj hy hq]; exact hx⟩, st', fun b hb => (hf b hb).1⟩⟩
  done := by
    intro X hP hw hK hc i pins s σ H E I hf st hg
    subst hP hw hK
    obtain ⟨xs, hq, hx⟩ := hg
    obtain ⟨its, rv, p, hz⟩ := I.tuple hq
    obtain ⟨f0, f1, f2, f3, f4, f5⟩ := hf it (by simp)
    have hl := rv.length
    exact wpAny_pyNext_tuple_end (I.ok.hd hc) st (show s.heap.IsTuple a its.toArray from p) (by simp; omega) fun h' eb => ⟨rfl, I.turned (t' := s.toks) (fun b o hb e => eb b o hb e) f0 f1 f3 f4 f5⟩
  self := fun _ _ _ _ _ st h => wpAny_pyIter_tupleiter st h
theorem turn_range {P : Program} {w : World} {K : PySem.W.Frag} {tg : Expr} (it : Addr) (lo : Int) (n : Nat) : Turn P w K tg (Itr lo n) [it] it (fun i h => IsRangeIter h it (lo + (i : Nat) * 1) ((n : Int) - (i : Nat)) 1) where
  mem := by simp
  obj := fun i h st b hb => by
    have e : b = it := by simpa using hb
    subst e
    exact ⟨_, st, fun v z => by
      have z' : Data.fields _ = Data.cell v := z
      cases z'⟩
  keep := fun i h h' st k => k it (by simp) _ st
  item := by
    intro X hP hw hK hc i pins s σ H E I hf st hg
    subst hP hw hK
    obtain ⟨f0, f1, f2, f3, f4, f5⟩ := hf it (by simp)
    have W := Walks.range (prog := X.prog) (w := X.w) (I.ok.hd hc) it lo 1 n
    refine W.item i s _ _ hg st fun v h' tk hv st' kk => ?_
    obtain ⟨t, rfl⟩ := hv
    have I1 : Inv X pins σ H { s with heap := h', toks := tk } := I.turned (fun b o hb e => kk b o (by simpa using hb) e) f0 f1 f3 f4 f5
    refine ⟨_, rfl, go_of (s := { s with heap := h', toks := tk }) (n := "range_iterator") st' rfl rfl (by decide) ⟨.int (lo + i), H, I1, ⟨t, ?_⟩, ⟨rfl, rfl⟩, st', fun b hb => (hf b hb).1⟩⟩
    rw [Int.mul_one]
  done := by
    intro X hP hw hK hc i pins s σ H E I hf st hg
    subst hP hw hK
    obtain ⟨f0, f1, f2, f3, f4, f5⟩ := hf it (by simp)
    exact wpAny_pyNext_range_end (I.ok.hd hc) st (by have : n ≤ i := hg; omega) fun h' eb => ⟨rfl, I.turned (t' := s.toks) (fun b o hb e => eb b o hb e) f0 f1 f3 f4 f5⟩
  self := fun _ _ _ _ _ st h => wpAny_pyIter_rangeiter st h
end L2

namespace L2
open PySem PySem.Spec PyProof.Rows
section
variable {X : Cx} {tg : Expr}
def iList (K : PySem.W.Frag) (tl : TE) : TI := fun σ H R => tl σ H fun x H1 => ∃ a, x = .ref a ∧ (∃ xs, SqL K H1 a xs) ∧ R (Itl K a) H1
def iTup (K : PySem.W.Frag) (tl : TE) : TI := fun σ H R => tl σ H fun x H1 => ∃ a, x = .ref a ∧ (∃ xs, SqT K H1 a xs) ∧ R (Itt K a) H1
theorem pi_list {l : Expr} {tl : TE} (hl : PE X l tl) : PI X tg l (iList X.K tl) := by
  intro pins s σ H R I h
  refine thn (hl pins s σ H _ I h) fun v s1 ⟨x, H1, I1, r1, q1⟩ => ?_
  obtain ⟨a, e, ⟨xs, hq⟩, q⟩ := q1
  subst e
  cases r1
  obtain ⟨its, rv, p, hz⟩ := I1.list hq
  refine wpAny_pyIter_list p.isList ?_
  refine ⟨s1.heap.objs.size, [s1.heap.objs.size], _, _, H1, rfl, I1.kept (t' := s1.toks) fun b o e => Heap.get?_push_of_some _ e, turn_list a _, ⟨_, Heap.get?_push_size _ rfl, rfl, rfl⟩, fun b hb => ?_, q⟩
  have e : b = s1.heap.objs.size := by simpa using hb
  subst e
  exact I1.fpOk (Nat.le_refl _) (I1.hok.fresh (Nat.le_refl _))
theorem pi_tup {l : Expr} {tl : TE} (hl : PE X l tl) : PI X tg l (iTup X.K tl) := by
  intro pins s σ H R I h
  refine thn (hl pins s σ H _ I h) fun v s1 ⟨x, H1, I1, r1, q1⟩ => ?_
  obtain ⟨a, e, ⟨xs, hq⟩, q⟩ := q1
  subst e
  cases r1
  obtain ⟨its, rv, p, hz⟩ := I1.tuple hq
  refine wpAny_pyIter_tuple (show s1.heap.IsTuple a its.toArray from p) ?_
  refine ⟨s1.heap.objs.size, [s1.heap.objs.size], _, _, H1, rfl, I1.kept (t' := s1.toks) fun b o e => Heap.get?_push_of_some _ e, turn_tuple a _, ⟨_, Heap.get?_push_size _ rfl, rfl, rfl⟩, fun b hb => ?_, q⟩
  have e : b = s1.heap.objs.size := by simpa using hb
  subst e
  exact I1.fpOk (Nat.le_refl _) (I1.hok.fresh (Nat.le_refl _))
/-- a range object just made, walked -/
theorem range_it {pins : List (Addr × Obj)} {σ : St} {H : Hp} {s : Shared} {R : It → Hp → Prop} {E : Value → Shared → Prop} {lo hi : Int} {t u v : Tok} {tk : Nat} (I : Inv X pins σ H s) (h1 : -(2 ^ 62) ≤ lo) (h2 : lo < 2 ^ 62) (h3 : -(2 ^ 62) ≤ hi) (h4 : hi < 2 ^ 62)
    (q : R (Itr lo (hi - lo).toNat) H) : wpAny (model X.prog X.w) X.A (pyIter (.ref s.heap.objs.size)) (PIE X pins σ tg R) E { s with heap := s.heap.push { cls := .type "range", data := .fields #[.int lo t, .int hi u, .int 1 v] }, toks := tk } := by
  refine wpAny_pyIter_range (IsRange.new ..) (small_one h1 h2 h3 h4) ?_
  have I1 : Inv X pins σ H { s with heap := s.heap.push { cls := .type "range", data := .fields #[.int lo t, .int hi u, .int 1 v] }, toks := tk } := I.kept fun b o e => Heap.get?_push_of_some _ e
  refine ⟨(s.heap.push { cls := .type "range", data := .fields #[.int lo t, .int hi u, .int 1 v] }).objs.size, [(s.heap.push { cls := .type "range", data := .fields #[.int lo t, .int hi u, .int 1 v] }).objs.size], _, _, H, rfl,
    I1.kept (t' := tk) fun b o e => Heap.get?_push_of_some _ e, turn_range _ lo (hi - lo).toNat, ?_, fun b hb => ?_, q⟩
  · have e1 : lo + ((0 : Nat) : Int) * 1 = lo := by simp
    have e2 : (((hi - lo).toNat : Nat) : Int) - ((0 : Nat) : Int) = Builtin.Range.rangeSize lo hi 1 := by rw [rangeSize_one]; split <;> omega
    show IsRangeIter _ _ (lo + ((0 : Nat) : Int) * 1) ((((hi - lo).toNat : Nat) : Int) - ((0 : Nat) : Int)) 1
    rw [e1, e2]
    exact Heap.get?_push_size _ rfl
  · have e : b = (s.heap.push { cls := .type "range", data := .fields #[.int lo t, .int hi u, .int 1 v] }).objs.size := by simpa using hb
    subst e
    exact I1.fpOk (Nat.le_refl _) (I1.hok.fresh (Nat.le_refl _))
def iRng1 (ta : TA) : TI := fun σ H R => ta σ H fun vs H1 => ∃ j : Int, vs = [.int j] ∧ -(2 ^ 62) ≤ j ∧ j < 2 ^ 62 ∧ R (Itr 0 j.toNat) H1
def iRng2 (ta : TA) : TI := fun σ H R => ta σ H fun vs H1 => ∃ i j : Int, vs = [.int i, .int j] ∧ (-(2 ^ 62) ≤ i ∧ i < 2 ^ 62 ∧ -(2 ^ 62) ≤ j ∧ j < 2 ^ 62) ∧ R (Itr i (j - i).toNat) H1
theorem pi_range1 {a : Expr} {ta : TA} {p pos : Pos} (hg : Gl X "range") (hm : X.mg "range" = none) (ha : PA X [a] ta) (hs : starEach [a] X.env = [(false, eval a X.env)] := by rfl) : PI X tg (.Call (.Name "range" p) [a] [] pos) (iRng1 ta) := by
  intro pins s σ H R I h
  refine Call_ (ld_blt I hg hm boot_range (PyProof.Rows.callWith_type1 (thn (ha pos pins s σ H _ I h) fun us s1 ⟨vs, H1, I1, r1, q1⟩ => ?_) hs rfl))
  obtain ⟨j, e, q1, q2, q⟩ := q1
  subst e
  cases r1 with
  | cons r rr =>
    cases rr
    obtain ⟨t, rfl⟩ := r
    exact call_range_1 (range_it I1 (by omega) (by omega) q1 q2 (by simpa using q))
theorem pi_range2 {a b : Expr} {ta : TA} {p pos : Pos} (hg : Gl X "range") (hm : X.mg "range" = none) (ha : PA X [a, b] ta) (hs : starEach [a, b] X.env = [(false, eval a X.env), (false, eval b X.env)] := by rfl) (hs2 : starEach [b] X.env = [(false, eval b X.env)] := by rfl) :
    PI X tg (.Call (.Name "range" p) [a, b] [] pos) (iRng2 ta) := by
  intro pins s σ H R I h
  refine Call_ (ld_blt I hg hm boot_range (PyProof.Rows.callWith_type1 (thn (ha pos pins s σ H _ I h) fun us s1 ⟨vs, H1, I1, r1, q1⟩ => ?_) (by rw [hs, hs2]) (by rw [hs2]; rfl)))
  obtain ⟨i, j, e, ⟨q1, q2, q3, q4⟩, q⟩ := q1
  subst e
  cases r1 with
  | cons r rr =>
    cases rr with
    | cons r' rr =>
      cases rr
      obtain ⟨t, rfl⟩ := r
      obtain ⟨t', rfl⟩ := r'
      exact call_range_2 (range_it I1 q1 q2 q3 q4 q)

/-! ### for -/
/-- W: the invariant by the turn and a measure; N: what the body is to reach -/
def tFor (wi : TI) (g : TG) (tb : TS) : TS := fun D σ H => wi σ H fun J H1 => ∃ W : Nat → Nat → St → Hp → Prop, (∃ m, W 0 m σ H1) ∧ ∀ i m σ H, W i m σ H →
  (J.stop i H ∧ D.nx σ H) ∨ (J.go i H ∧ ∃ N : St → Hp → Prop, (∀ σ' H', N σ' H' → ∃ m', m' < m ∧ W (i + 1) m' σ' H') ∧ ∀ x H', J.yld i H x H' → g x σ H' fun σ2 H2 => tb { D with nx := N, ct := N, bk := D.nx } σ2 H2)
/-- the records at fp as they stand -/
def pinsAt (fp : List Addr) (h : Heap) : List (Addr × Obj) := fp.filterMap fun b => (h.get? b).map fun o => (b, o)
theorem mem_pinsAt {fp : List Addr} {h : Heap} {b : Addr} {o : Obj} (hb : b ∈ fp) (e : h.get? b = some o) : (b, o) ∈ pinsAt fp h := List.mem_filterMap.mpr ⟨b, hb, by rw [e]; rfl⟩
theorem of_pinsAt {fp : List Addr} {h : Heap} {p : Addr × Obj} (hp : p ∈ pinsAt fp h) : p.1 ∈ fp ∧ h.get? p.1 = some p.2 := by
  obtain ⟨b, hb, e⟩ := List.mem_filterMap.mp hp
  cases q : h.get? b with
  | none => rw [q] at e; cases e
  | some o =>
    rw [q] at e
    have e' : (b, o) = p := Option.some.inj e
    subst e'
    exact ⟨hb, q⟩
theorem Inv.pinned {pins : List (Addr × Obj)} {σ : St} {H : Hp} {s : Shared} {fp : List Addr} (I : Inv X pins σ H s) (hf : ∀ b ∈ fp, FpOk X pins H b) (ho : ∀ b ∈ fp, ∃ o, s.heap.get? b = some o ∧ ∀ v, o.data ≠ .cell v) : Inv X (pins ++ pinsAt fp s.heap) σ H s :=
  I.pins_of fun p hp => (List.mem_append.mp hp).elim (fun z => I.pin p (List.mem_append_right _ z)) fun z => by
    obtain ⟨hb, e⟩ := of_pinsAt z
    obtain ⟨f0, f1, f2, _⟩ := hf p.1 hb
    obtain ⟨o, e', d⟩ := ho p.1 hb
    rw [e] at e'; cases e'
    exact ⟨e, f0, f1, f2, d⟩
theorem Inv.unpinned {pins pl : List (Addr × Obj)} {σ : St} {H : Hp} {s : Shared} (I : Inv X (pins ++ pl) σ H s) : Inv X pins σ H s := I.pins_of fun p hp => I.pin p (List.mem_append_right _ (List.mem_append_left _ hp))
theorem ps_for {iter : Expr} {body : List Stmt} {wi : TI} {g : TG} {tb : TS} {pos : Pos} (hp : PassesOwn (model X.prog X.w) X.A X.env X.xe) (hc : X.calm = true) (hi : PI X tg iter wi) (hg : PG X tg g) (hb : PSs X body tb)
    (hs : ∀ x, foldedSetIterable iter X.env x = pure x := by intro _; rfl) : PS X (.For tg iter body [] pos) (tFor wi g tb) := by
  intro pins s σ H D I h
  refine wpAny_For (thn (hi pins s σ H _ I h) fun v s1 h1 => thn h1 fun itv s2 h2 => ?_) hs
  obtain ⟨it, fp, tn, J, H2, e, I2, T, st2, f2, W, ⟨m0, w0⟩, turn⟩ := h2
  subst e
  -- what stays true of the iterator's objects through the loop
  have stat : ∀ {H' : Hp}, (∀ b ∈ fp, H' b = none) → ∀ b ∈ fp, FpOk X pins H' b := fun hn b hb => ⟨hn b hb, (f2 b hb).2⟩
  refine codeAny_forLoop_any (fun n s' => ∃ i σ' H', Inv X pins σ' H' s' ∧ tn i s'.heap ∧ (∀ b ∈ fp, H' b = none) ∧ W i n σ' H') ?_ m0 ⟨0, σ, H2, I2, st2, fun b hb => (f2 b hb).1, w0⟩
  rintro n s3 ⟨i, σ3, H3, I3, st3, fr3, w3⟩
  rcases turn i n σ3 H3 w3 with ⟨stop, qn⟩ | ⟨go, N, hN, step⟩
  · refine wpAny_passesOwn hp (thn (T.done X rfl rfl rfl hc i pins s3 σ3 H3 X.xe I3 (stat fr3) st3 stop) fun r s4 ⟨hr, I4⟩ => ?_)
    subst hr
    exact wpAny_execs_nil ⟨σ3, H3, I4, qn⟩
  · refine wpAny_passesOwn hp (thn (T.item X rfl rfl rfl hc i pins s3 σ3 H3 X.xe I3 (stat fr3) st3 go) fun r s4 ⟨u, hr, h4⟩ => ?_)
    subst hr
    refine wpAny_passesOwn hp (thn h4 fun _ s5 ⟨x, H5, I5, r5, y5, st5, fr5⟩ => ?_)
    have I5' := I5.pinned (stat fr5) (T.obj _ _ st5)
    refine wpAny_passesOwn hp (thn (hg _ s5 σ3 H5 x u _ I5' r5 (step x H5 y5)) fun _ s6 ⟨σ6, H6, I6, q6⟩ => ?_)
    refine wpAny_passesOwn hp (thn (hb _ s6 σ6 H6 _ I6 q6) fun f s7 q7 => ?_)
    have again : ∀ {σ7 : St} {H7 : Hp}, Inv X (pins ++ pinsAt fp s5.heap) σ7 H7 s7 → N σ7 H7 → ∃ m, m < n ∧ ∃ i σ' H', Inv X pins σ' H' s7 ∧ tn i s7.heap ∧ (∀ b ∈ fp, H' b = none) ∧ W i m σ' H' := fun {σ7 H7} I7 n7 => by
      obtain ⟨m', hm, w7⟩ := hN σ7 H7 n7
      refine ⟨m', hm, i + 1, σ7, H7, I7.unpinned, T.keep _ _ _ st5 fun b hb o e => (I7.pin (b, o) (List.mem_append_right _ (List.mem_append_right _ (mem_pinsAt hb e)))).1, fun b hb => ?_, w7⟩
      obtain ⟨o, e, d⟩ := T.obj _ _ st5 b hb
      exact (I7.pin (b, o) (List.mem_append_right _ (List.mem_append_right _ (mem_pinsAt hb e)))).2.1
    cases f with
    | next => obtain ⟨σ7, H7, I7, n7⟩ := q7; exact again I7 n7
    | cont => obtain ⟨σ7, H7, I7, n7⟩ := q7; exact again I7 n7
    | brk => obtain ⟨σ7, H7, I7, q7⟩ := q7; exact ⟨σ7, H7, I7.unpinned, q7⟩
    | ret v => obtain ⟨x7, σ7, H7, I7, r7, q7⟩ := q7; exact ⟨x7, σ7, H7, I7.unpinned, r7, q7⟩
end

/-! ### the forms one uses -/
/-- over a list that the body leaves as it is -/
theorem for_list {K : PySem.W.Frag} {a : Addr} {xs : List V} {g : TG} {tb : TS} {D : Ends} {σ : St} {H : Hp} (Pv : Nat → St → Hp → Prop) (h0 : Pv 0 σ H) (hl : ∀ i σ H, i ≤ xs.length → Pv i σ H → SqL K H a xs)
    (hs : ∀ i x σ H, xs[i]? = some x → Pv i σ H → g x σ H fun σ2 H2 => tb { D with nx := Pv (i + 1), ct := Pv (i + 1), bk := D.nx } σ2 H2) (hd : ∀ σ H, Pv xs.length σ H → D.nx σ H) :
    ∃ W : Nat → Nat → St → Hp → Prop, (∃ m, W 0 m σ H) ∧ ∀ i m σ H, W i m σ H →
      ((Itl K a).stop i H ∧ D.nx σ H) ∨ ((Itl K a).go i H ∧ ∃ N : St → Hp → Prop, (∀ σ' H', N σ' H' → ∃ m', m' < m ∧ W (i + 1) m' σ' H') ∧ ∀ x H', (Itl K a).yld i H x H' → g x σ H' fun σ2 H2 => tb { D with nx := N, ct := N, bk := D.nx } σ2 H2) := by
  refine ⟨fun i m σ H => m = xs.length - i ∧ i ≤ xs.length ∧ Pv i σ H, ⟨xs.length, by simp, Nat.zero_le _, h0⟩, ?_⟩
  rintro i m σ H ⟨rfl, hi, p⟩
  have q := hl i σ H hi p
  by_cases hlt : i < xs.length
  · refine .inr ⟨⟨xs, xs[i], q, by simp [hlt]⟩, Pv (i + 1), fun σ' H' p' => ⟨xs.length - (i + 1), by omega, rfl, hlt, p'⟩, fun x H' y => ?_⟩
    obtain ⟨e, y⟩ := y
    subst e
    exact hs i x σ _ (y xs q) p
  · have e : i = xs.length := by omega
    subst e
    exact .inl ⟨⟨xs, q, Nat.le_refl _⟩, hd σ H p⟩
theorem for_tup {K : PySem.W.Frag} {a : Addr} {xs : List V} {g : TG} {tb : TS} {D : Ends} {σ : St} {H : Hp} (Pv : Nat → St → Hp → Prop) (h0 : Pv 0 σ H) (hl : ∀ i σ H, i ≤ xs.length → Pv i σ H → SqT K H a xs)
    (hs : ∀ i x σ H, xs[i]? = some x → Pv i σ H → g x σ H fun σ2 H2 => tb { D with nx := Pv (i + 1), ct := Pv (i + 1), bk := D.nx } σ2 H2) (hd : ∀ σ H, Pv xs.length σ H → D.nx σ H) :
    ∃ W : Nat → Nat → St → Hp → Prop, (∃ m, W 0 m σ H) ∧ ∀ i m σ H, W i m σ H →
      ((Itt K a).stop i H ∧ D.nx σ H) ∨ ((Itt K a).go i H ∧ ∃ N : St → Hp → Prop, (∀ σ' H', N σ' H' → ∃ m', m' < m ∧ W (i + 1) m' σ' H') ∧ ∀ x H', (Itt K a).yld i H x H' → g x σ H' fun σ2 H2 => tb { D with nx := N, ct := N, bk := D.nx } σ2 H2) := by
  refine ⟨fun i m σ H => m = xs.length - i ∧ i ≤ xs.length ∧ Pv i σ H, ⟨xs.length, by simp, Nat.zero_le _, h0⟩, ?_⟩
  rintro i m σ H ⟨rfl, hi, p⟩
  have q := hl i σ H hi p
  by_cases hlt : i < xs.length
  · refine .inr ⟨⟨xs, xs[i], q, by simp [hlt]⟩, Pv (i + 1), fun σ' H' p' => ⟨xs.length - (i + 1), by omega, rfl, hlt, p'⟩, fun x H' y => ?_⟩
    obtain ⟨e, y⟩ := y
    subst e
    exact hs i x σ _ (y xs q) p
  · have e : i = xs.length := by omega
    subst e
    exact .inl ⟨⟨xs, q, Nat.le_refl _⟩, hd σ H p⟩
theorem for_range {lo : Int} {n : Nat} {g : TG} {tb : TS} {D : Ends} {σ : St} {H : Hp} (Pv : Nat → St → Hp → Prop) (h0 : Pv 0 σ H)
    (hs : ∀ i σ H, i < n → Pv i σ H → g (.int (lo + i)) σ H fun σ2 H2 => tb { D with nx := Pv (i + 1), ct := Pv (i + 1), bk := D.nx } σ2 H2) (hd : ∀ σ H, Pv n σ H → D.nx σ H) :
    ∃ W : Nat → Nat → St → Hp → Prop, (∃ m, W 0 m σ H) ∧ ∀ i m σ H, W i m σ H →
      ((Itr lo n).stop i H ∧ D.nx σ H) ∨ ((Itr lo n).go i H ∧ ∃ N : St → Hp → Prop, (∀ σ' H', N σ' H' → ∃ m', m' < m ∧ W (i + 1) m' σ' H') ∧ ∀ x H', (Itr lo n).yld i H x H' → g x σ H' fun σ2 H2 => tb { D with nx := N, ct := N, bk := D.nx } σ2 H2) := by
  refine ⟨fun i m σ H => m = n - i ∧ i ≤ n ∧ Pv i σ H, ⟨n, by simp, Nat.zero_le _, h0⟩, ?_⟩
  rintro i m σ H ⟨rfl, hi, p⟩
  by_cases hlt : i < n
  · refine .inr ⟨hlt, Pv (i + 1), fun σ' H' p' => ⟨n - (i + 1), by omega, rfl, hlt, p'⟩, fun x H' y => ?_⟩
    obtain ⟨e, y⟩ := y
    subst e y
    exact hs i σ _ hlt p
  · have e : i = n := by omega
    subst e
    exact .inl ⟨Nat.le_refl _, hd σ H p⟩
/-- while, by a word and a measure of the state -/
theorem while_by {c : TT} {tb : TS} {D : Ends} {σ : St} {H : Hp} (Pv : St → Hp → Prop) (μ : St → Hp → Nat) (h0 : Pv σ H)
    (hs : ∀ σ H, Pv σ H → c σ H fun b H1 => if b = true then tb { D with nx := fun σ' H' => Pv σ' H' ∧ μ σ' H' < μ σ H, ct := fun σ' H' => Pv σ' H' ∧ μ σ' H' < μ σ H, bk := D.nx } σ H1 else D.nx σ H1)
    (mono : ∀ σ H Q Q', (∀ b H1, Q b H1 → Q' b H1) → c σ H Q → c σ H Q') : tWhile c tb D σ H := by
  refine ⟨fun m σ H => m = μ σ H ∧ Pv σ H, ⟨_, rfl, h0⟩, ?_⟩
  rintro m σ H ⟨rfl, p⟩
  refine mono σ H _ _ (fun b H1 q => ?_) (hs σ H p)
  cases b with
  | true => exact ⟨_, fun σ' H' ⟨p', l⟩ => ⟨_, l, rfl, p'⟩, q⟩
  | false => exact q
end L2

namespace L2
open PySem PySem.Spec PyProof.Rows

abbrev R2 := V → V → Hp → VK → Prop
/-- a two-place operation on values: f is binaryOp op, inplaceOp op or compareOp op -/
def OpR (X : Cx) (f : Value → Value → Sem Value) (r : R2) : Prop :=
  ∀ (pins : List (Addr × Obj)) (s : Shared) (σ : St) (H : Hp) (x y : V) (v u : Value) (Q : VK), Inv X pins σ H s → RelV x v → RelV y u → r x y H Q →
    wpAny (model X.prog X.w) X.A (f v u) (EP X pins σ Q) X.xe s
/-- a one-place operation -/
def UnR (X : Cx) (f : Value → Sem Value) (r : V → Hp → VK → Prop) : Prop :=
  ∀ (pins : List (Addr × Obj)) (s : Shared) (σ : St) (H : Hp) (x : V) (v : Value) (Q : VK), Inv X pins σ H s → RelV x v → r x H Q →
    wpAny (model X.prog X.w) X.A (f v) (EP X pins σ Q) X.xe s
/-- a call of a value that is known (a builtin, a type) with values -/
def CallR (X : Cx) (f : Value) (r : List V → Hp → VK → Prop) : Prop :=
  ∀ (pins : List (Addr × Obj)) (s : Shared) (σ : St) (H : Hp) (xs : List V) (us : List Value) (Q : VK), Inv X pins σ H s → Vals xs us → r xs H Q →
    wpAny (model X.prog X.w) X.A (call f us) (EP X pins σ Q) X.xe s
/-- a value's truth -/
def TruR (X : Cx) (r : V → Hp → (Bool → Hp → Prop) → Prop) : Prop :=
  ∀ (pins : List (Addr × Obj)) (s : Shared) (σ : St) (H : Hp) (x : V) (v : Value) (Q : Bool → Hp → Prop), Inv X pins σ H s → RelV x v → r x H Q →
    wpAny (model X.prog X.w) X.A (truthy v) (TP X pins σ Q) X.xe s

def tOp (r : R2) (ta tb : TE) : TE := fun σ H Q => ta σ H fun x H1 => tb σ H1 fun y H2 => r x y H2 Q
def tUn (r : V → Hp → VK → Prop) (ta : TE) : TE := fun σ H Q => ta σ H fun x H1 => r x H1 Q
/-- ints in, under C, and a value out -/
def rI (C : Int → Int → Prop) (g : Int → Int → V) : R2 := fun x y H Q => ∃ i j, x = .int i ∧ y = .int j ∧ C i j ∧ Q (g i j) H
def rI0 (g : Int → Int → V) : R2 := fun x y H Q => ∃ i j, x = .int i ∧ y = .int j ∧ Q (g i j) H
def rU (g : Int → V) : V → Hp → VK → Prop := fun x H Q => ∃ i, x = .int i ∧ Q (g i) H

section
variable {X : Cx} {a b c : Expr} {ta tb tc : TE} {pos : Pos}

theorem binT (ha : PE X a ta) (hb : PE X b tb) {pins : List (Addr × Obj)} {s : Shared} {σ : St} {H : Hp} {R : V → V → Hp → Prop} (I : Inv X pins σ H s)
    (h : ta σ H fun x H1 => tb σ H1 fun y H2 => R x y H2) {Q : Value → Shared → Prop} {f : Value → Value → Sem Value}
    (hf : ∀ v u s2 x y H2, Inv X pins σ H2 s2 → RelV x v → RelV y u → R x y H2 → wpAny (model X.prog X.w) X.A (f v u) Q X.xe s2) :
    wpAny (model X.prog X.w) X.A (eval a X.env) (fun v s₁ => wpAny (model X.prog X.w) X.A (eval b X.env) (fun u s₂ => wpAny (model X.prog X.w) X.A (f v u) Q X.xe s₂) X.xe s₁) X.xe s := by
  refine thn (ha pins s σ H _ I h) fun v s1 ⟨x, H1, I1, r1, q1⟩ => ?_
  refine thn (hb pins s1 σ H1 _ I1 q1) fun u s2 ⟨y, H2, I2, r2, q2⟩ => ?_
  exact hf v u s2 x y H2 I2 r1 r2 q2

theorem pe_op {op : Operator} {r : R2} (ho : OpR X (binaryOp op) r) (ha : PE X a ta) (hb : PE X b tb) : PE X (.BinOp a op b pos) (tOp r ta tb) := by
  intro pins s σ H Q I h
  exact wpAny_BinOp (binT ha hb I h fun v u s2 x y H2 I2 rx ry q => ho pins s2 σ H2 x y v u Q I2 rx ry q)
theorem pe_un {op : UnaryOp} {r : V → Hp → VK → Prop} (ho : UnR X (unaryOp op) r) (ha : PE X a ta) : PE X (.UnaryOp op a pos) (tUn r ta) := by
  intro pins s σ H Q I h
  exact UnaryOp_ (thn (ha pins s σ H _ I h) fun v s1 ⟨x, H1, I1, r1, q1⟩ => ho pins s1 σ H1 x v Q I1 r1 q1)
/-- a op= e at a name: the name's slot i -/
theorem augR {op : Operator} {r : R2} (ho : OpR X (inplaceOp op) r) {pins : List (Addr × Obj)} {s : Shared} {σ : St} {H : Hp} {x y : V} {v u : Value} {Q : VK} (I : Inv X pins σ H s)
    (rx : RelV x v) (ry : RelV y u) (q : r x y H Q) : wpAny (model X.prog X.w) X.A (inplaceOp op v u) (EP X pins σ Q) X.xe s := ho pins s σ H x y v u Q I rx ry q

/-! ### ints -/
theorem opI {f : Value → Value → Sem Value} {C : Int → Int → Prop} {g : Int → Int → Int}
    (rule : ∀ (i j : Int) (t u : Tok) (s : Shared) (Q : Value → Shared → Prop) (E : Value → Shared → Prop), C i j → Q (.int (g i j) s.toks) { s with toks := s.toks + 1 } → wpAny (model X.prog X.w) X.A (f (.int i t) (.int j u)) Q E s) :
    OpR X f (rI C fun i j => .int (g i j)) := by
  intro pins s σ H x y v u Q I rx ry h
  obtain ⟨i, j, rfl, rfl, hc, q⟩ := h
  obtain ⟨t, rfl⟩ := rx
  obtain ⟨t', rfl⟩ := ry
  exact rule i j t t' s _ _ hc ⟨.int (g i j), H, I.tok _, ⟨_, rfl⟩, q⟩
theorem opI0 {f : Value → Value → Sem Value} {g : Int → Int → Int}
    (rule : ∀ (i j : Int) (t u : Tok) (s : Shared) (Q : Value → Shared → Prop) (E : Value → Shared → Prop), Q (.int (g i j) s.toks) { s with toks := s.toks + 1 } → wpAny (model X.prog X.w) X.A (f (.int i t) (.int j u)) Q E s) :
    OpR X f (rI0 fun i j => .int (g i j)) := by
  intro pins s σ H x y v u Q I rx ry h
  obtain ⟨i, j, rfl, rfl, q⟩ := h
  obtain ⟨t, rfl⟩ := rx
  obtain ⟨t', rfl⟩ := ry
  exact rule i j t t' s _ _ ⟨.int (g i j), H, I.tok _, ⟨_, rfl⟩, q⟩
theorem opB0 {f : Value → Value → Sem Value} {g : Int → Int → Bool}
    (rule : ∀ (i j : Int) (t u : Tok) (s : Shared) (Q : Value → Shared → Prop) (E : Value → Shared → Prop), Q (.bool (g i j)) s → wpAny (model X.prog X.w) X.A (f (.int i t) (.int j u)) Q E s) :
    OpR X f (rI0 fun i j => .bl (g i j)) := by
  intro pins s σ H x y v u Q I rx ry h
  obtain ⟨i, j, rfl, rfl, q⟩ := h
  obtain ⟨t, rfl⟩ := rx
  obtain ⟨t', rfl⟩ := ry
  exact rule i j t t' s _ _ ⟨.bl (g i j), H, I, rfl, q⟩

def CDiv (i j : Int) : Prop := 0 < j ∧ j < 1073741824
def CDivN (i j : Int) : Prop := j ≠ 0 ∧ j.natAbs < 1073741824
def CPow (i j : Int) : Prop := 0 ≤ j ∧ j ≤ 1000000 ∧ i.natAbs < 2 ^ 64
def CMul (i j : Int) : Prop := (-(2 ^ 64) < i ∧ i < 2 ^ 64) ∨ (-(2 ^ 64) < j ∧ j < 2 ^ 64)
theorem CMul.ok {i j : Int} (h : CMul i j) : IntMulOk i j := by
  rcases h with ⟨h1, h2⟩ | ⟨h1, h2⟩
  · exact .of_left (intBits_le_64 h1 h2)
  · exact .of_right (intBits_le_64 h1 h2)
theorem two_pow_nn (k : Nat) : (0 : Int) ≤ 2 ^ k := by
  rw [two_pow_cast]
  exact Int.natCast_nonneg _

theorem op_add : OpR X (binaryOp .Add) (rI0 fun i j => .int (i + j)) := opI0 fun _ _ _ _ _ _ _ q => add_int q
theorem op_sub : OpR X (binaryOp .Sub) (rI0 fun i j => .int (i - j)) := opI0 fun _ _ _ _ _ _ _ q => sub_int q
theorem op_mul : OpR X (binaryOp .Mult) (rI CMul fun i j => .int (i * j)) := opI fun _ _ _ _ _ _ _ hc q => mul_int q hc.ok
/-- // by a positive divisor -/
theorem op_fdiv : OpR X (binaryOp .FloorDiv) (rI CDiv fun i j => .int (i / j)) := opI fun i j _ _ _ _ _ hc q => by
  have h1 : (0 : Int) < j := hc.1
  have h2 : j < 1073741824 := hc.2
  exact floordiv_int (by omega) (by rw [Int.fdiv_eq_ediv_of_nonneg i (by omega)]; exact q) (.inl (PyProof.noPylong_small (by omega)))
theorem op_fdivN : OpR X (binaryOp .FloorDiv) (rI CDivN fun i j => .int (i.fdiv j)) := opI fun _ _ _ _ _ _ _ hc q => floordiv_int hc.1 q (.inl (PyProof.noPylong_small hc.2))
/-- % by a positive divisor of any size -/
theorem op_mod : OpR X (binaryOp .Mod) (rI (fun _ j => 0 < j) fun i j => .int (i % j)) := opI fun i j _ _ _ _ _ hc q => by
  have h1 : (0 : Int) < j := hc
  exact mod_int' (by omega) (by rw [Int.fmod_eq_emod_of_nonneg i (by omega)]; exact q)
theorem op_modN : OpR X (binaryOp .Mod) (rI (fun _ j => j ≠ 0) fun i j => .int (i.fmod j)) := opI fun _ _ _ _ _ _ _ hc q => mod_int' hc q
theorem op_pow : OpR X (binaryOp .Pow) (rI CPow fun i j => .int (i ^ j.toNat)) := opI fun _ _ _ _ _ _ _ hc q => pow_int_small hc.1 hc.2.1 hc.2.2 q
theorem op_shl : OpR X (binaryOp .LShift) (rI CPow fun i j => .int (i * 2 ^ j.toNat)) := opI fun _ _ _ _ _ _ _ hc q => lshift_int_small hc.1 hc.2.1 hc.2.2 q
theorem op_shr : OpR X (binaryOp .RShift) (rI (fun _ j => 0 ≤ j) fun i j => .int (i / 2 ^ j.toNat)) := opI fun i j _ _ _ _ _ hc q =>
  rshift_int hc (by rw [Int.fdiv_eq_ediv_of_nonneg i (two_pow_nn _)]; exact q)
theorem op_and : OpR X (binaryOp .BitAnd) (rI0 fun i j => .int (Builtin.bitAnd i j)) := opI0 fun _ _ _ _ _ _ _ q => and_int q
theorem op_or : OpR X (binaryOp .BitOr) (rI0 fun i j => .int (Builtin.bitOr i j)) := opI0 fun _ _ _ _ _ _ _ q => or_int q
theorem op_xor : OpR X (binaryOp .BitXor) (rI0 fun i j => .int (Builtin.bitXor i j)) := opI0 fun _ _ _ _ _ _ _ q => xor_int q

theorem iop_add : OpR X (inplaceOp .Add) (rI0 fun i j => .int (i + j)) := opI0 fun _ _ _ _ _ _ _ q => iadd_int q
theorem iop_sub : OpR X (inplaceOp .Sub) (rI0 fun i j => .int (i - j)) := opI0 fun _ _ _ _ _ _ _ q => isub_int q
theorem iop_mul : OpR X (inplaceOp .Mult) (rI CMul fun i j => .int (i * j)) := opI fun _ _ _ _ _ _ _ hc q => imul_int q hc.ok
theorem iop_fdiv : OpR X (inplaceOp .FloorDiv) (rI CDiv fun i j => .int (i / j)) := opI fun i j _ _ _ _ _ hc q => by
  have h1 : (0 : Int) < j := hc.1
  have h2 : j < 1073741824 := hc.2
  exact ifloordiv_int (by omega) (by rw [Int.fdiv_eq_ediv_of_nonneg i (by omega)]; exact q) (.inl (PyProof.noPylong_small (by omega)))
theorem iop_mod : OpR X (inplaceOp .Mod) (rI (fun _ j => 0 < j) fun i j => .int (i % j)) := opI fun i j _ _ _ _ _ hc q => by
  have h1 : (0 : Int) < j := hc
  exact imod_int (by omega) (by rw [Int.fmod_eq_emod_of_nonneg i (by omega)]; exact q)
theorem iop_shl : OpR X (inplaceOp .LShift) (rI CPow fun i j => .int (i * 2 ^ j.toNat)) := opI fun _ _ _ _ _ _ _ hc q => ilshift_int_small hc.1 hc.2.1 hc.2.2 q
theorem iop_shr : OpR X (inplaceOp .RShift) (rI (fun _ j => 0 ≤ j) fun i j => .int (i / 2 ^ j.toNat)) := opI fun i j _ _ _ _ _ hc q =>
  irshift_int hc (by rw [Int.fdiv_eq_ediv_of_nonneg i (two_pow_nn _)]; exact q)
theorem iop_and : OpR X (inplaceOp .BitAnd) (rI0 fun i j => .int (Builtin.bitAnd i j)) := opI0 fun _ _ _ _ _ _ _ q => iand_int q
theorem iop_or : OpR X (inplaceOp .BitOr) (rI0 fun i j => .int (Builtin.bitOr i j)) := opI0 fun _ _ _ _ _ _ _ q => ior_int q
theorem iop_xor : OpR X (inplaceOp .BitXor) (rI0 fun i j => .int (Builtin.bitXor i j)) := opI0 fun _ _ _ _ _ _ _ q => ixor_int q

theorem unI {f : Value → Sem Value} {g : Int → Int}
    (rule : ∀ (i : Int) (t : Tok) (s : Shared) (Q : Value → Shared → Prop) (E : Value → Shared → Prop), Q (.int (g i) s.toks) { s with toks := s.toks + 1 } → wpAny (model X.prog X.w) X.A (f (.int i t)) Q E s) :
    UnR X f (rU fun i => .int (g i)) := by
  intro pins s σ H x v Q I rx h
  obtain ⟨i, rfl, q⟩ := h
  obtain ⟨t, rfl⟩ := rx
  exact rule i t s _ _ ⟨.int (g i), H, I.tok _, ⟨_, rfl⟩, q⟩
theorem un_neg : UnR X (unaryOp .USub) (rU fun i => .int (-i)) := unI fun _ _ _ _ _ q => neg_int q
theorem un_inv : UnR X (unaryOp .Invert) (rU fun i => .int (Builtin.bitNot i)) := unI fun _ _ _ _ _ q => invert_int q

/-! ### bools among ints: n += (a < b) -/
theorem op_add_ib : OpR X (binaryOp .Add) (fun x y H Q => ∃ i k, x = .int i ∧ y = .bl k ∧ Q (.int (i + b2i k)) H) := by
  intro pins s σ H x y v u Q I rx ry h
  obtain ⟨i, k, rfl, rfl, q⟩ := h
  obtain ⟨t, rfl⟩ := rx
  cases ry
  exact add_int_bool ⟨.int (i + b2i k), H, I.tok _, ⟨_, rfl⟩, q⟩
end

/-! ### comparisons -/
/-- the scalars that == tells apart as data does -/
def scal : V → V → Bool
  | .non, .non => true | .non, .int _ => true | .int _, .non => true | .non, .bl _ => true | .bl _, .non => true | .non, .str _ => true | .str _, .non => true
  | .int _, .int _ => true | .bl _, .bl _ => true | .str _, .str _ => true | .byt _, .byt _ => true
  | .int _, .str _ => true | .str _, .int _ => true | .bl _, .str _ => true | .str _, .bl _ => true
  | _, _ => false
def rEq : R2 := fun x y H Q => scal x y = true ∧ Q (.bl (decide (x = y))) H
def rNe : R2 := fun x y H Q => scal x y = true ∧ Q (.bl (!decide (x = y))) H

theorem dec_int {i j : Int} : decide (V.int i = V.int j) = (i == j) := by
  rw [Bool.eq_iff_iff]
  simp
theorem dec_bl {i j : Bool} : decide (V.bl i = V.bl j) = (i == j) := by
  rw [Bool.eq_iff_iff]
  simp
theorem dec_str {i j : Str} : decide (V.str i = V.str j) = (i == j) := by
  rw [Bool.eq_iff_iff]
  simp
theorem dec_byt {i j : Array UInt8} : decide (V.byt i = V.byt j) = (i.toList == j.toList) := by
  rw [Bool.eq_iff_iff]
  cases i
  cases j
  simp

section
variable {X : Cx} {a b c : Expr} {ta tb tc : TE} {pos : Pos}
theorem fin_bl {pins : List (Addr × Obj)} {σ : St} {H : Hp} {s : Shared} {Q : VK} {k k' : Bool} (I : Inv X pins σ H s) (q : Q (.bl k) H) (e : k = k') : EP X pins σ Q (.bool k') s := by
  subst e
  exact ⟨.bl k, H, I, rfl, q⟩
theorem op_eq : OpR X (compareOp .Eq) rEq := by
  intro pins s σ H x y v u Q I rx ry h
  obtain ⟨hs, q⟩ := h
  cases x with
  | non =>
    cases rx
    cases y with
    | non => cases ry; exact PySem.EqNone.eq_none_none (fin_bl I q (by simp))
    | bl j => cases ry; exact PySem.EqNone.eq_none_bool (fin_bl I q (by simp))
    | int j => obtain ⟨t', rfl⟩ := ry; exact PySem.EqNone.eq_none_int (fin_bl I q (by simp))
    | str j => obtain ⟨t', rfl⟩ := ry; exact PySem.EqNone.eq_none_str (fin_bl I q (by simp))
    | _ => exact absurd (show false = true from hs) Bool.false_ne_true
  | bl i =>
    cases rx
    cases y with
    | non => cases ry; exact PySem.EqNone.eq_bool_none (fin_bl I q (by simp))
    | bl j => cases ry; exact eq_bool (fin_bl I q dec_bl)
    | str j => obtain ⟨t', rfl⟩ := ry; exact PySem.EqMixed.eq_bool_str (fin_bl I q (by simp))
    | _ => exact absurd (show false = true from hs) Bool.false_ne_true
  | int i =>
    obtain ⟨t, rfl⟩ := rx
    cases y with
    | non => cases ry; exact PySem.EqNone.eq_int_none (fin_bl I q (by simp))
    | int j => obtain ⟨t', rfl⟩ := ry; exact eq_int (fin_bl I q dec_int)
    | str j => obtain ⟨t', rfl⟩ := ry; exact PySem.EqMixed.eq_int_str (fin_bl I q (by simp))
    | _ => exact absurd (show false = true from hs) Bool.false_ne_true
  | str i =>
    obtain ⟨t, rfl⟩ := rx
    cases y with
    | non => cases ry; exact PySem.EqNone.eq_str_none (fin_bl I q (by simp))
    | bl j => cases ry; exact PySem.EqMixed.eq_str_bool (fin_bl I q (by simp))
    | int j => obtain ⟨t', rfl⟩ := ry; exact PySem.EqMixed.eq_str_int (fin_bl I q (by simp))
    | str j => obtain ⟨t', rfl⟩ := ry; exact eq_str (fin_bl I q dec_str)
    | _ => exact absurd (show false = true from hs) Bool.false_ne_true
  | byt i =>
    obtain ⟨t, rfl⟩ := rx
    cases y with
    | byt j => obtain ⟨t', rfl⟩ := ry; exact PySem.W.eq_bytes (fin_bl I q dec_byt)
    | _ => exact absurd (show false = true from hs) Bool.false_ne_true
  | _ => cases y <;> exact absurd (show false = true from hs) Bool.false_ne_true
theorem op_ne : OpR X (compareOp .NotEq) rNe := by
  intro pins s σ H x y v u Q I rx ry h
  obtain ⟨hs, q⟩ := h
  cases x with
  | non =>
    cases rx
    cases y with
    | non => cases ry; exact PySem.EqNone.ne_none_none (fin_bl I q (by simp))
    | bl j => cases ry; exact PySem.EqNone.ne_none_bool (fin_bl I q (by simp))
    | int j => obtain ⟨t', rfl⟩ := ry; exact PySem.EqNone.ne_none_int (fin_bl I q (by simp))
    | str j => obtain ⟨t', rfl⟩ := ry; exact PySem.EqNone.ne_none_str (fin_bl I q (by simp))
    | _ => exact absurd (show false = true from hs) Bool.false_ne_true
  | bl i =>
    cases rx
    cases y with
    | non => cases ry; exact PySem.EqNone.ne_bool_none (fin_bl I q (by simp))
    | bl j => cases ry; exact ne_bool (fin_bl I q (congrArg not dec_bl))
    | str j => obtain ⟨t', rfl⟩ := ry; exact PySem.EqMixed.ne_bool_str (fin_bl I q (by simp))
    | _ => exact absurd (show false = true from hs) Bool.false_ne_true
  | int i =>
    obtain ⟨t, rfl⟩ := rx
    cases y with
    | non => cases ry; exact PySem.EqNone.ne_int_none (fin_bl I q (by simp))
    | int j => obtain ⟨t', rfl⟩ := ry; exact ne_int (fin_bl I q (congrArg not dec_int))
    | str j => obtain ⟨t', rfl⟩ := ry; exact PySem.EqMixed.ne_int_str (fin_bl I q (by simp))
    | _ => exact absurd (show false = true from hs) Bool.false_ne_true
  | str i =>
    obtain ⟨t, rfl⟩ := rx
    cases y with
    | non => cases ry; exact PySem.EqNone.ne_str_none (fin_bl I q (by simp))
    | bl j => cases ry; exact PySem.EqMixed.ne_str_bool (fin_bl I q (by simp))
    | int j => obtain ⟨t', rfl⟩ := ry; exact PySem.EqMixed.ne_str_int (fin_bl I q (by simp))
    | str j => obtain ⟨t', rfl⟩ := ry; exact ne_str (fin_bl I q (congrArg not dec_str))
    | _ => exact absurd (show false = true from hs) Bool.false_ne_true
  | byt i =>
    obtain ⟨t, rfl⟩ := rx
    cases y with
    | byt j => obtain ⟨t', rfl⟩ := ry; exact PySem.W.ne_bytes (fin_bl I q (congrArg not dec_byt))
    | _ => exact absurd (show false = true from hs) Bool.false_ne_true
  | _ => cases y <;> exact absurd (show false = true from hs) Bool.false_ne_true

theorem op_lt : OpR X (compareOp .Lt) (rI0 fun i j => .bl (decide (i < j))) := opB0 fun _ _ _ _ _ _ _ q => lt_int q
theorem op_le : OpR X (compareOp .LtE) (rI0 fun i j => .bl (decide (i ≤ j))) := opB0 fun _ _ _ _ _ _ _ q => le_int q
theorem op_gt : OpR X (compareOp .Gt) (rI0 fun i j => .bl (decide (j < i))) := opB0 fun _ _ _ _ _ _ _ q => gt_int q
theorem op_ge : OpR X (compareOp .GtE) (rI0 fun i j => .bl (decide (j ≤ i))) := opB0 fun _ _ _ _ _ _ _ q => ge_int q
theorem op_lt_str : OpR X (compareOp .Lt) (fun x y H Q => ∃ i j, x = .str i ∧ y = .str j ∧ Q (.bl (decide (i.cps.toList < j.cps.toList))) H) := by
  intro pins s σ H x y v u Q I rx ry h
  obtain ⟨i, j, rfl, rfl, q⟩ := h
  obtain ⟨t, rfl⟩ := rx
  obtain ⟨t', rfl⟩ := ry
  exact lt_str (fin_bl I q rfl)
/-- the one string within the other -/
theorem op_in_str : OpR X (compareOp .In) (fun x y H Q => ∃ i j, x = .str i ∧ y = .str j ∧ Q (.bl (!(Builtin.Str.occurrences j i 0 j.length 1).isEmpty)) H) := by
  intro pins s σ H x y v u Q I rx ry h
  obtain ⟨i, j, rfl, rfl, q⟩ := h
  obtain ⟨t, rfl⟩ := rx
  obtain ⟨t', rfl⟩ := ry
  exact in_str (fin_bl I q rfl)

/-- is None, is not None: the right side a value none -/
theorem op_isN : OpR X (compareOp .Is) (fun x y H Q => y = .non ∧ Q (.bl (decide (x = .non))) H) := by
  intro pins s σ H x y v u Q I rx ry h
  obtain ⟨rfl, q⟩ := h
  cases ry
  refine is_none_gen (fin_bl I q ?_)
  cases x <;> first
    | (cases rx; rfl)
    | (obtain ⟨t, rfl⟩ := rx; rfl)
theorem op_notN : OpR X (compareOp .IsNot) (fun x y H Q => y = .non ∧ Q (.bl (!decide (x = .non))) H) := by
  intro pins s σ H x y v u Q I rx ry h
  obtain ⟨rfl, q⟩ := h
  cases ry
  refine isnot_none_gen (fin_bl I q ?_)
  cases x <;> first
    | (cases rx; rfl)
    | (obtain ⟨t, rfl⟩ := rx; rfl)

theorem op_notin_str : OpR X (compareOp .NotIn) (fun x y H Q => ∃ i j, x = .str i ∧ y = .str j ∧ Q (.bl (!(!(Builtin.Str.occurrences j i 0 j.length 1).isEmpty))) H) := by
  intro pins s σ H x y v u Q I rx ry h
  obtain ⟨i, j, rfl, rfl, q⟩ := h
  obtain ⟨t, rfl⟩ := rx
  obtain ⟨t', rfl⟩ := ry
  exact notIn_str (fin_bl I q rfl)
/-- is, is not of two objects that are tracked lists or instances -/
def isObj : HO → Bool
  | .lst _ => true
  | .ins _ _ _ => true
  | _ => false
theorem obj_there {pins : List (Addr × Obj)} {s : Shared} {σ : St} {H : Hp} {a : Addr} {o : HO} (I : Inv X pins σ H s) (h : H a = some o) (p : isObj o = true) : ∃ ob, s.heap.get? a = some ob ∧ ob.cls ≠ .type "tuple" := by
  cases o with
  | lst xs =>
    obtain ⟨_, its, n, _, e⟩ : xs.length ≤ sizeLine ∧ ∃ (its : List Value) (n : Nat), Vals xs its ∧ s.heap.get? a = some { cls := .type "list", data := .seq its.toArray n } := I.hok a _ h
    exact ⟨_, e, (by show Value.type "list" ≠ .type "tuple"; decide +kernel)⟩
  | ins C dx fs =>
    have x := I.hok a _ h
    obtain ⟨_, _, _, e, _⟩ := x
    exact ⟨_, e, (by show Value.ref C ≠ .type "tuple"; exact fun z => by cases z)⟩
  | _ => exact absurd (show false = true from p) Bool.false_ne_true
theorem op_is_ref : OpR X (compareOp .Is) (fun x y H Q => ∃ a b oa ob, x = .ref a ∧ y = .ref b ∧ H a = some oa ∧ isObj oa = true ∧ H b = some ob ∧ isObj ob = true ∧ Q (.bl (decide (a = b))) H) := by
  intro pins s σ H x y v u Q I rx ry h
  obtain ⟨a, b, oa, ob, rfl, rfl, ha, pa, hb, pb, q⟩ := h
  cases rx
  cases ry
  obtain ⟨o1, e1, n1⟩ := obj_there I ha pa
  obtain ⟨o2, e2, _⟩ := obj_there I hb pb
  by_cases z : a = b
  · subst z
    exact wpAny_is_ref_self (fin_bl I q (by simp))
  · exact wpAny_is_ref_other z e1 e2 n1 (fin_bl I q (by simp [z]))
theorem op_isnot_ref : OpR X (compareOp .IsNot) (fun x y H Q => ∃ a b oa ob, x = .ref a ∧ y = .ref b ∧ H a = some oa ∧ isObj oa = true ∧ H b = some ob ∧ isObj ob = true ∧ Q (.bl (!decide (a = b))) H) := by
  intro pins s σ H x y v u Q I rx ry h
  obtain ⟨a, b, oa, ob, rfl, rfl, ha, pa, hb, pb, q⟩ := h
  cases rx
  cases ry
  obtain ⟨o1, e1, n1⟩ := obj_there I ha pa
  obtain ⟨o2, e2, _⟩ := obj_there I hb pb
  by_cases z : a = b
  · subst z
    exact wpAny_isNot_ref_self (fin_bl I q (by simp))
  · exact wpAny_isNot_ref_other z e1 e2 n1 (fin_bl I q (by simp [z]))

/-- two rules for one operation: by cases -/
theorem OpR.or {f : Value → Value → Sem Value} {r r' : R2} (h : OpR X f r) (h' : OpR X f r') : OpR X f (fun x y H Q => r x y H Q ∨ r' x y H Q) := by
  intro pins s σ H x y v u Q I rx ry q
  rcases q with q | q
  · exact h pins s σ H x y v u Q I rx ry q
  · exact h' pins s σ H x y v u Q I rx ry q

theorem nomark (b : Expr) {op : CmpOp} (h : op ≠ .In := by decide) (h2 : op ≠ .NotIn := by decide) : behindInMarks op b = false := by
  have e1 : (op == CmpOp.In) = false := by cases op <;> first | rfl | exact absurd rfl h
  have e2 : (op == CmpOp.NotIn) = false := by cases op <;> first | rfl | exact absurd rfl h2
  cases b <;> simp [behindInMarks, e1, e2]
/-- a comparison as a value; hm: nomark b, or (for in, not in) by with_unfolding_all rfl -/
theorem pe_cmpR {op : CmpOp} {r : R2} (ho : OpR X (compareOp op) r) (ha : PE X a ta) (hb : PE X b tb) (hm : behindInMarks op b = false) : PE X (.Compare a [op] [b] pos) (tOp r ta tb) := by
  intro pins s σ H Q I h
  exact wpAny_Compare1 (binT ha hb I h fun v u s2 x y H2 I2 rx ry q => ho pins s2 σ H2 x y v u Q I2 rx ry q) hm
/-- a reading of a value as a test -/
def tTest (t : TE) : TT := fun σ H Q => t σ H fun x H' => ∃ k, x = .bl k ∧ Q k H'
theorem pt_cmpR {op : CmpOp} {r : R2} (ho : OpR X (compareOp op) r) (ha : PE X a ta) (hb : PE X b tb) (hm : behindInMarks op b = false) : PT X (.Compare a [op] [b] pos) (tTest (tOp r ta tb)) := by
  intro pins s σ H Q I h
  refine wpAny_isTrue_Compare1 (thn (ha pins s σ H _ I h) fun v s1 ⟨x, H1, I1, r1, q1⟩ => thn (hb pins s1 σ H1 _ I1 q1) fun u s2 ⟨y, H2, I2, r2, q2⟩ =>
    thn (ho pins s2 σ H2 x y v u _ I2 r1 r2 q2) fun c s3 ⟨z, H3, I3, r3, k, e, q3⟩ => ?_) hm
  subst e
  cases r3
  exact wpAny_truthy_bool ⟨H3, I3, q3⟩
/-- a op1 b op2 c -/
def tChain (r r' : R2) (ta tb tc : TE) : TE := fun σ H Q => ta σ H fun x H1 => tb σ H1 fun y H2 => r x y H2 fun z H3 => ∃ k, z = .bl k ∧
  (if k = true then tc σ H3 fun w' H4 => r' y w' H4 Q else Q (.bl false) H3)
theorem pe_chain {op op' : CmpOp} {r r' : R2} (ho : OpR X (compareOp op) r) (ho' : OpR X (compareOp op') r') (ha : PE X a ta) (hb : PE X b tb) (hc : PE X c tc)
    (hm : lastMarks [op, op'] [b, c] = false := by with_unfolding_all rfl) : PE X (.Compare a [op, op'] [b, c] pos) (tChain r r' ta tb tc) := by
  intro pins s σ H Q I h
  refine Compare_chain (thn (ha pins s σ H _ I h) fun v s1 ⟨x, H1, I1, r1, q1⟩ => chain_link (thn (hb pins s1 σ H1 _ I1 q1) fun u s2 ⟨y, H2, I2, r2, q2⟩ =>
    thn (ho pins s2 σ H2 x y v u _ I2 r1 r2 q2) fun d s3 ⟨z, H3, I3, r3, k, e, q3⟩ => ?_)) hm
  subst e
  cases r3
  refine wpAny_truthy_bool ?_
  cases k with
  | false => exact ite_ff ⟨.bl false, H3, I3, rfl, q3⟩
  | true => exact ite_tt (chain_last (thn (hc pins s3 σ H3 _ I3 q3) fun w' s4 ⟨z', H4, I4, r4, q4⟩ => ho' pins s4 σ H4 y z' u w' Q I4 r2 r4 q4))
theorem pt_chain {op op' : CmpOp} {r r' : R2} (ho : OpR X (compareOp op) r) (ho' : OpR X (compareOp op') r') (ha : PE X a ta) (hb : PE X b tb) (hc : PE X c tc)
    (hm : lastMarks [op, op'] [b, c] = false := by with_unfolding_all rfl) : PT X (.Compare a [op, op'] [b, c] pos) (tTest (tChain r r' ta tb tc)) := by
  intro pins s σ H Q I h
  refine isTrue_chain (thn (ha pins s σ H _ I h) fun v s1 ⟨x, H1, I1, r1, q1⟩ => test_link (thn (hb pins s1 σ H1 _ I1 q1) fun u s2 ⟨y, H2, I2, r2, q2⟩ =>
    thn (ho pins s2 σ H2 x y v u _ I2 r1 r2 q2) fun d s3 ⟨z, H3, I3, r3, k, e, q3⟩ => ?_)) hm
  subst e
  cases r3
  refine wpAny_truthy_bool ?_
  cases k with
  | false =>
    obtain ⟨k', e', q'⟩ := q3
    cases e'
    exact ite_ff ⟨H3, I3, q'⟩
  | true =>
    refine ite_tt (test_last (thn (hc pins s3 σ H3 _ I3 q3) fun w' s4 ⟨z', H4, I4, r4, q4⟩ => thn (ho' pins s4 σ H4 y z' u w' _ I4 r2 r4 q4) fun d' s5 ⟨z2, H5, I5, r5, k2, e2, q5⟩ => ?_))
    subst e2
    cases r5
    exact wpAny_truthy_bool ⟨H5, I5, q5⟩

/-! ### truth -/
/-- a value's truth by the abstract heap -/
def TruV (K : PySem.W.Frag) (x : V) (H : Hp) (k : Bool) : Prop :=
  match x with
  | .non => k = false
  | .bl b => k = b
  | .int i => k = (i != 0)
  | .str y => y.length ≤ sizeLine ∧ k = ((y.length : Int) != 0)
  | .byt y => y.size ≤ sizeLine ∧ k = ((y.size : Int) != 0)
  | .ref p => (∃ xs, SqL K H p xs ∧ k = !xs.isEmpty) ∨ (∃ xs, SqT K H p xs ∧ k = !xs.isEmpty) ∨ ∃ kvs, H p = some (.dK kvs) ∧ k = !kvs.isEmpty
  | _ => False
theorem isEmpty_kv {κ : Type} {kvs : List (κ × V)} {vs : List (κ × Value)} (r : KV kvs vs) : (!vs.isEmpty) = !kvs.isEmpty := by
  cases r <;> rfl
theorem isEmpty_of {xs : List V} {its : List Value} (r : Vals xs its) : (!its.toArray.isEmpty) = !xs.isEmpty := by
  cases r <;> simp
theorem line63 : (sizeLine : Nat) < 2 ^ 63 := by rw [sizeLine_eq]; decide
theorem tru_ok : TruR X (fun x H Q => ∃ k, TruV X.K x H k ∧ Q k H) := by
  intro pins s σ H x v Q I rx h
  obtain ⟨k, e, q⟩ := h
  have hl := line63
  have hs : sizeLine = 16777216 := sizeLine_eq
  cases x with
  | non =>
    cases rx
    have e' : k = false := e
    subst e'
    exact truthy_none ⟨H, I, q⟩
  | bl b =>
    cases rx
    have e' : k = b := e
    subst e'
    exact wpAny_truthy_bool ⟨H, I, q⟩
  | int i =>
    obtain ⟨t, rfl⟩ := rx
    have e' : k = (i != 0) := e
    subst e'
    exact PySem.P.truthy_int ⟨H, I, q⟩
  | str y =>
    obtain ⟨t, rfl⟩ := rx
    obtain ⟨hy, e'⟩ : y.length ≤ sizeLine ∧ k = ((y.length : Int) != 0) := e
    subst e'
    exact PySem.P.truthy_str (by omega) ⟨H, I.tok _, q⟩
  | byt y =>
    obtain ⟨t, rfl⟩ := rx
    obtain ⟨hy, e'⟩ : y.size ≤ sizeLine ∧ k = ((y.size : Int) != 0) := e
    subst e'
    exact PySem.W.truthy_bytes (by omega) ⟨H, I.tok _, q⟩
  | ref p =>
    cases rx
    have e' : (∃ xs, SqL X.K H p xs ∧ k = !xs.isEmpty) ∨ (∃ xs, SqT X.K H p xs ∧ k = !xs.isEmpty) ∨ ∃ kvs, H p = some (.dK kvs) ∧ k = !kvs.isEmpty := e
    rcases e' with ⟨xs, hx, e'⟩ | ⟨xs, hx, e'⟩ | ⟨kvs, hx, e'⟩
    · subst e'
      obtain ⟨its, r, pl, hz⟩ := I.list hx
      have hlen := r.length
      exact wpAny_truthy_list pl.isList (by simp only [List.size_toArray]; omega) ⟨H, I.tok _, by rw [isEmpty_of r]; exact q⟩
    · subst e'
      obtain ⟨its, r, pl, hz⟩ := I.tuple hx
      have hlen := r.length
      exact truthy_tuple pl (by simp only [List.size_toArray]; omega) ⟨H, I.tok _, by rw [isEmpty_of r]; exact q⟩
    · subst e'
      obtain ⟨hz, hS, vs, r, m⟩ : kvs.length ≤ sizeLine ∧ (p == sysModules) = false ∧ ∃ vs, KV kvs vs ∧ s.heap.DictOf (mixKind X.prog X.w) p vs := I.hok p _ hx
      have hlen : kvs.length = vs.length := Paired.length r
      exact wpAny_truthy_dict hS m (by omega) ⟨H, I.tok _, by rw [isEmpty_kv r]; exact q⟩
  | _ => exact (show False from e).elim
/-- any expression whose test is its value's truth (a name, a call, a subscript, a field ..: he by fun _ => rfl) -/
theorem pt_truth (ha : PE X a ta) (he : ∀ whole, isTrue a X.env whole = (do let v ← whole; standAt a.pos; holding [v] (truthy v))) :
    PT X a (fun σ H Q => ta σ H fun x H' => ∃ k, TruV X.K x H' k ∧ Q k H') := by
  intro pins s σ H Q I h
  exact isTrue_plain (thn (ha pins s σ H _ I h) fun v s1 ⟨x, H1, I1, r1, q1⟩ => tru_ok pins s1 σ H1 x v Q I1 r1 q1) (he _)

/-! ### strs and bytes -/
theorem pe_byt {x : List UInt8} {k : Nat} : PE X (.Constant (.bytes x) k pos) (fun _ H Q => Q (.byt x.toArray) H) := fun _ _ _ H _ I h => PySem.W.Constant_bytes ⟨.byt x.toArray, H, I.tok _, ⟨_, rfl⟩, h⟩
theorem op_add_str : OpR X (binaryOp .Add) (fun x y H Q => ∃ i j, x = .str i ∧ y = .str j ∧ i.length + j.length ≤ sizeLine ∧ Q (.str (i ++ j)) H) := by
  intro pins s σ H x y v u Q I rx ry h
  obtain ⟨i, j, rfl, rfl, hz, q⟩ := h
  obtain ⟨t, rfl⟩ := rx
  obtain ⟨t', rfl⟩ := ry
  exact add_str (fun t' tk => ⟨.str (i ++ j), H, I.tok _, ⟨_, rfl⟩, q⟩) hz
theorem iop_add_str : OpR X (inplaceOp .Add) (fun x y H Q => ∃ i j, x = .str i ∧ y = .str j ∧ i.length + j.length ≤ sizeLine ∧ Q (.str (i ++ j)) H) := by
  intro pins s σ H x y v u Q I rx ry h
  obtain ⟨i, j, rfl, rfl, hz, q⟩ := h
  obtain ⟨t, rfl⟩ := rx
  obtain ⟨t', rfl⟩ := ry
  exact iadd_str (fun t' tk => ⟨.str (i ++ j), H, I.tok _, ⟨_, rfl⟩, q⟩) hz
theorem op_add_byt : OpR X (binaryOp .Add) (fun x y H Q => ∃ i j, x = .byt i ∧ y = .byt j ∧ i.size + j.size ≤ 16777216 ∧ Q (.byt (i ++ j)) H) := by
  intro pins s σ H x y v u Q I rx ry h
  obtain ⟨i, j, rfl, rfl, hz, q⟩ := h
  obtain ⟨t, rfl⟩ := rx
  obtain ⟨t', rfl⟩ := ry
  exact PySem.W.KBy.add_bytes hz (fun t' tk => ⟨.byt (i ++ j), H, I.tok _, ⟨_, rfl⟩, q⟩)

def PlainIxT (b : Expr) : Prop := ∀ o i, subscripted b false o i = operate [o, i] (getItem o i)
/-- s[i], 0 ≤ i < len -/
theorem pe_item_str (ha : PE X a ta) (hb : PE X b tb) (hs : PlainIxT b) :
    PE X (.Subscript a b pos) (tOp (fun x y H Q => ∃ z i c, x = .str z ∧ y = .int i ∧ 0 ≤ i ∧ i < 2 ^ 63 ∧ i < z.length ∧ z.cps[i.toNat]? = some c ∧ Q (.str ⟨#[c]⟩) H) ta tb) := by
  intro pins s σ H Q I h
  refine Subscript_ (binT ha hb I h fun v u s2 x y H2 I2 rx ry q => ?_)
  obtain ⟨z, i, c, rfl, rfl, h0, h63, h1, hc, q⟩ := q
  obtain ⟨t, rfl⟩ := rx
  obtain ⟨t', rfl⟩ := ry
  have e : seqIndex? i z.length = some i.toNat := PySem.StrLaws.seqIndex_nonneg h0 h1
  exact tail_any (typeIs_str s2 z t) slot_str_getitem.lookup (getItem_str (c := c) (by
    have e1 : decide (i < -(2 ^ 63 : Int)) = false := decide_eq_false (by omega)
    have e2 : decide (i ≥ 2 ^ 63) = false := decide_eq_false (by omega)
    rw [e1, e2] <;> rfl) (by rw [e]; exact hc) ⟨.str ⟨#[c]⟩, H2, I2.tok _, ⟨_, rfl⟩, q⟩) (hs _ _)
/-- b[i], 0 ≤ i < len -/
theorem pe_item_byt (ha : PE X a ta) (hb : PE X b tb) (hs : PlainIxT b) :
    PE X (.Subscript a b pos) (tOp (fun x y H Q => ∃ (z : List UInt8) (i : Int), x = .byt z.toArray ∧ y = .int i ∧ z.length ≤ sizeLine ∧ 0 ≤ i ∧ i < z.length ∧ Q (.int ((z.getD i.toNat 0).toNat : Nat)) H) ta tb) := by
  intro pins s σ H Q I h
  refine Subscript_ (binT ha hb I h fun v u s2 x y H2 I2 rx ry q => ?_)
  obtain ⟨z, i, rfl, rfl, hz, h0, h1, q⟩ := q
  obtain ⟨t, rfl⟩ := rx
  obtain ⟨t', rfl⟩ := ry
  have hl : sizeLine = 16777216 := sizeLine_eq
  exact tail_any (PySem.W.typeIs_bytes s2 z.toArray t) PySem.W.FB.slot_bytes_getitem.lookup (PySem.W.getItem_bytes (by omega) h0 h1 ⟨.int ((z.getD i.toNat 0).toNat : Nat), H2, I2.tok _, ⟨_, rfl⟩, q⟩) (hs _ _)

/-! ### scalar builtins, by CallR -/
theorem vals1 {x : V} {us : List Value} (r : Vals [x] us) : ∃ u, us = [u] ∧ RelV x u := by
  cases r with
  | cons r1 r2 => cases r2; exact ⟨_, rfl, r1⟩
theorem vals2 {x y : V} {us : List Value} (r : Vals [x, y] us) : ∃ u w', us = [u, w'] ∧ RelV x u ∧ RelV y w' := by
  cases r with
  | cons r1 r2 =>
    cases r2 with
    | cons r3 r4 => cases r4; exact ⟨_, _, rfl, r1, r3⟩
theorem call_abs : CallR X (.builtin "abs") (fun xs H Q => ∃ i, xs = [.int i] ∧ Q (.int (if i < 0 then -i else i)) H) := by
  intro pins s σ H xs us Q I r h
  obtain ⟨i, rfl, q⟩ := h
  obtain ⟨u, rfl, t, rfl⟩ := vals1 r
  exact call_abs_int fun u tk => ⟨.int (if i < 0 then -i else i), H, I.tok _, ⟨_, rfl⟩, q⟩
theorem call_max2 (hc : X.calm = true) : CallR X (.builtin "max") (fun xs H Q => ∃ i j, xs = [.int i, .int j] ∧ Q (.int (if j > i then j else i)) H) := by
  intro pins s σ H xs us Q I r h
  obtain ⟨i, j, rfl, q⟩ := h
  obtain ⟨u, w', rfl, ⟨t, rfl⟩, ⟨t', rfl⟩⟩ := vals2 r
  refine max_two_ints (I.ok.hd hc) fun h' tk k => ⟨_, H, I.kept k, ?_, q⟩
  by_cases hj : j > i
  · rw [if_pos hj, if_pos hj]; exact ⟨_, rfl⟩
  · rw [if_neg hj, if_neg hj]; exact ⟨_, rfl⟩
theorem call_min2 (hc : X.calm = true) : CallR X (.builtin "min") (fun xs H Q => ∃ i j, xs = [.int i, .int j] ∧ Q (.int (if j < i then j else i)) H) := by
  intro pins s σ H xs us Q I r h
  obtain ⟨i, j, rfl, q⟩ := h
  obtain ⟨u, w', rfl, ⟨t, rfl⟩, ⟨t', rfl⟩⟩ := vals2 r
  refine min_two_ints (I.ok.hd hc) fun h' tk k => ⟨_, H, I.kept k, ?_, q⟩
  by_cases hj : j < i
  · rw [if_pos hj, if_pos hj]; exact ⟨_, rfl⟩
  · rw [if_neg hj, if_neg hj]; exact ⟨_, rfl⟩
theorem call_int1 : CallR X (.type "int") (fun xs H Q => (∃ i, xs = [.int i] ∧ Q (.int i) H) ∨ ∃ k, xs = [.bl k] ∧ Q (.int (if k then 1 else 0)) H) := by
  intro pins s σ H xs us Q I r h
  rcases h with ⟨i, rfl, q⟩ | ⟨k, rfl, q⟩
  · obtain ⟨u, rfl, t, rfl⟩ := vals1 r
    exact call_int_int ⟨.int i, H, I, ⟨_, rfl⟩, q⟩
  · obtain ⟨u, rfl, r1⟩ := vals1 r
    cases r1
    exact call_int_bool ⟨.int (if k then 1 else 0), H, I.tok _, ⟨_, rfl⟩, q⟩
theorem call_bool1 : CallR X (.type "bool") (fun xs H Q => (∃ i, xs = [.int i] ∧ Q (.bl (i != 0)) H) ∨ ∃ k, xs = [.bl k] ∧ Q (.bl k) H) := by
  intro pins s σ H xs us Q I r h
  rcases h with ⟨i, rfl, q⟩ | ⟨k, rfl, q⟩
  · obtain ⟨u, rfl, t, rfl⟩ := vals1 r
    exact call_bool_int ⟨.bl (i != 0), H, I, rfl, q⟩
  · obtain ⟨u, rfl, r1⟩ := vals1 r
    cases r1
    exact call_bool_bool ⟨.bl k, H, I, rfl, q⟩
theorem call_str_int : CallR X (.type "str") (fun xs H Q => ∃ i, xs = [.int i] ∧ i.natAbs.log2 < 1920 ∧ Q (.str (toString i)) H) := by
  intro pins s σ H xs us Q I r h
  obtain ⟨i, rfl, hz, q⟩ := h
  obtain ⟨u, rfl, t, rfl⟩ := vals1 r
  exact PySem.P.str_of_int hz ⟨.str _, H, I.tok _, ⟨_, rfl⟩, q⟩
theorem call_ord : CallR X (.builtin "ord") (fun xs H Q => ∃ x, xs = [.str x] ∧ x.length = 1 ∧ Q (.int (x.cps.getD 0 0 : Nat)) H) := by
  intro pins s σ H xs us Q I r h
  obtain ⟨x, rfl, hz, q⟩ := h
  obtain ⟨u, rfl, t, rfl⟩ := vals1 r
  exact ord_of_one hz ⟨.int _, H, I.tok _, ⟨_, rfl⟩, q⟩
theorem call_chr : CallR X (.builtin "chr") (fun xs H Q => ∃ i, xs = [.int i] ∧ 0 ≤ i ∧ i ≤ 1114111 ∧ Q (.str ⟨#[i.toNat]⟩) H) := by
  intro pins s σ H xs us Q I r h
  obtain ⟨i, rfl, h0, h1, q⟩ := h
  obtain ⟨u, rfl, t, rfl⟩ := vals1 r
  exact chr_of_range h0 h1 ⟨.str _, H, I.tok _, ⟨_, rfl⟩, q⟩
/-- len of a str, a bytes, a list, a tuple -/
def LenV (K : PySem.W.Frag) (x : V) (H : Hp) (n : Nat) : Prop :=
  match x with
  | .str y => y.length ≤ sizeLine ∧ n = y.length
  | .byt y => y.size ≤ sizeLine ∧ n = y.size
  | .ref p => (∃ xs, SqL K H p xs ∧ n = xs.length) ∨ ∃ xs, SqT K H p xs ∧ n = xs.length
  | _ => False
theorem call_len : CallR X (.builtin "len") (fun xs H Q => ∃ x n, xs = [x] ∧ LenV X.K x H n ∧ Q (.int n) H) := by
  intro pins s σ H xs us Q I r h
  obtain ⟨x, n, rfl, e, q⟩ := h
  obtain ⟨u, rfl, rx⟩ := vals1 r
  have hl := line63
  have hs : sizeLine = 16777216 := sizeLine_eq
  cases x with
  | str y =>
    obtain ⟨t, rfl⟩ := rx
    obtain ⟨hy, e'⟩ : y.length ≤ sizeLine ∧ n = y.length := e
    subst e'
    exact len_str (by omega) ⟨.int _, H, I.tok _, ⟨_, rfl⟩, q⟩
  | byt y =>
    obtain ⟨t, rfl⟩ := rx
    obtain ⟨hy, e'⟩ : y.size ≤ sizeLine ∧ n = y.size := e
    subst e'
    exact PySem.W.len_bytes (by omega) ⟨.int _, H, I.tok _, ⟨_, rfl⟩, q⟩
  | ref p =>
    cases rx
    have e' : (∃ xs, SqL X.K H p xs ∧ n = xs.length) ∨ ∃ xs, SqT X.K H p xs ∧ n = xs.length := e
    rcases e' with ⟨xs, hx, e'⟩ | ⟨xs, hx, e'⟩
    · subst e'
      obtain ⟨its, r', pl, hz⟩ := I.list hx
      have hlen := r'.length
      exact Calls.call_len_list pl.isList (by simp only [List.size_toArray]; omega) ⟨.int xs.length, H, I.tok _, ⟨_, by simp only [List.size_toArray]; rw [hlen]⟩, q⟩
    · subst e'
      obtain ⟨its, r', pl, hz⟩ := I.tuple hx
      have hlen := r'.length
      exact len_tuple pl (by simp only [List.size_toArray]; omega) ⟨.int xs.length, H, I.tok _, ⟨_, by simp only [List.size_toArray]; rw [hlen]⟩, q⟩
  | _ => exact (show False from e).elim
/-- divmod: a new tuple -/
theorem call_divmod : CallR X (.builtin "divmod") (fun xs H Q => ∃ i j, xs = [.int i, .int j] ∧ CDiv i j ∧ ∀ p, H p = none → Q (.ref p) (upd H p (.tup [.int (i / j), .int (i % j)]))) := by
  intro pins s σ H xs us Q I r h
  obtain ⟨i, j, rfl, ⟨h1, h2⟩, q⟩ := h
  obtain ⟨u, w', rfl, ⟨t, rfl⟩, ⟨t', rfl⟩⟩ := vals2 r
  refine divmod_int (by omega) ?_ (.inl (PyProof.noPylong_small (by omega)))
  rw [Int.fdiv_eq_ediv_of_nonneg i (by omega), Int.fmod_eq_emod_of_nonneg i (by omega)]
  have hn : H s.heap.objs.size = none := I.hok.fresh (Nat.le_refl _)
  refine ⟨.ref s.heap.objs.size, _, ?_, rfl, q _ hn⟩
  refine I.laid (fun b o e => Heap.get?_push_of_some _ e) (Nat.le_refl _) ⟨by simp only [List.length_cons, List.length_nil]; rw [sizeLine_eq]; decide, [.int (i / j) s.toks, .int (i % j) (s.toks + 1)], .cons ⟨_, rfl⟩ (.cons ⟨_, rfl⟩ .nil), ?_⟩
  exact ⟨_, Heap.get?_push_size s.heap rfl, rfl, 0, rfl⟩
end
end L2

namespace L2
open PySem PySem.Spec PyProof.Rows

/-! ### an instance, its attributes a map -/
structure ObjM (h : Heap) (x dx C : Addr) (mA : Str → Option Value) : Prop where
  obj : h.get? x = some (PySem.W.instObj C dx)
  ns : h.Ns1 dx mA
  ne : dx ≠ x

theorem lookIn_ns {h : Heap} {dx : Addr} {mA : Str → Option Value} (n : h.Ns1 dx mA) : ∃ od, h.get? dx = some od ∧ ∀ name, PySem.W.lookIn name od = some (mA name) := by
  obtain ⟨o, es, ep, ho, hd, hk, _, hm⟩ := n
  refine ⟨o, ho, fun name => ?_⟩
  have e := hm name
  unfold nsFind findBy at e
  rw [← Array.find?_toList] at e
  unfold PySem.W.lookIn
  rw [hd]
  dsimp only
  split
  · rename_i y q
    rw [q] at e
    exact congrArg some e
  · rename_i q
    rw [q] at e
    have a : es.toList.any (·.refKey) = false := by
      rw [List.any_eq_false]
      intro y hy
      obtain ⟨z, t, hkey⟩ := hk y (Array.mem_toList_iff.mp hy)
      simp [DictEntry.refKey, hkey]
    have a' : ¬ es.toList.any (·.refKey) = true := by rw [a]; exact Bool.false_ne_true
    rw [if_neg a']
    exact congrArg some e

theorem ObjM.look {h : Heap} {x dx C : Addr} {mA : Str → Option Value} (I : ObjM h x dx C mA) : ∃ od, PySem.W.InstAt h x (PySem.W.instObj C dx) C (some od) ∧ ∀ name, PySem.W.lookIn name od = some (mA name) :=
  let ⟨od, ho, hl⟩ := lookIn_ns I.ns
  ⟨od, ⟨I.obj, rfl, rfl, ho⟩, hl⟩

section
variable {prog : Program} {w : World} {A : Around} {E : Value → Shared → Prop} {s : Shared} {K : PySem.W.Frag} {x dx C f : Addr} {mA : Str → Option Value} {name : Str} {v : Value}

theorem get_map {expr : Bool} {Q : Value → Shared → Prop} (X : K.In s.heap) (I : ObjM s.heap x dx C mA) (hg : PySem.W.plainGet K C name = true) (hh : PySem.W.hasDictIn K C = true)
    (ha : PySem.W.findIn K (.ref C) name = some none) (hv : mA name = some v) (hv' : PySem.W.handedIn v = true) (h : Q v { s with toks := s.toks + 1 }) :
    wpAny (model prog w) A (getAttr (.ref x) name expr) Q E s := by
  obtain ⟨od, J, hl⟩ := I.look
  exact PySem.W.get_value X J (PySem.W.plainGet_of hg).1 (PySem.W.findObj_own hh ha rfl (by rw [hl, hv])) hv' h

theorem get_const {expr : Bool} {a : Value} {Q : Value → Shared → Prop} (X : K.In s.heap) (I : ObjM s.heap x dx C mA) (hg : PySem.W.plainGet K C name = true) (hh : PySem.W.hasDictIn K C = true)
    (ha : PySem.W.findIn K (.ref C) name = some (some a)) (hn : PySem.W.specialIn K a "__get__" = some none) (hc : PySem.W.copiedNames.contains name = false) (hv : mA name = none) (hv' : PySem.W.handedIn a = true)
    (h : Q a { s with toks := s.toks + 1 }) : wpAny (model prog w) A (getAttr (.ref x) name expr) Q E s := by
  obtain ⟨od, J, hl⟩ := I.look
  exact PySem.W.get_value X J (PySem.W.plainGet_of hg).1 (PySem.W.findObj_cls hh ha hn hv' hc (by rw [hl, hv])) hv' h

theorem get_meth {pl : Sem Bool} {Q : Value × List Value → Shared → Prop} (X : K.In s.heap) (I : ObjM s.heap x dx C mA) (hg : PySem.W.plainGet K C name = true)
    (hf : PySem.W.findIn K (.ref C) name = some (some (.ref f))) (ht : PySem.W.isFn K (.ref f) = true) (hv : mA name = none) (h : Q (.ref f, [.ref x]) s) :
    wpAny (model prog w) A (getMethod (.ref x) name pl) Q E s := by
  obtain ⟨od, J, hl⟩ := I.look
  exact PySem.W.method_fn X J (PySem.W.plainGet_of hg).1 (PySem.W.plainGet_of hg).2 hf (beq_iff_eq.mp ht) (by show (PySem.W.lookIn name od).map (·.isSome) = some false; rw [hl, hv]; rfl) h

theorem set_map {ns : List Str} {Q : Unit → Shared → Prop} (X : K.In s.heap) (I : ObjM s.heap x dx C mA)
    (hs : PySem.W.findIn K (.ref C) "__setattr__" = some (some (.builtin "object.__setattr__"))) (hp : PySem.W.plainOver K C = true) (ht : PySem.W.takerIn K C name = some none) (hh : PySem.W.hasDictIn K C = true)
    (hw : PySem.Within mA ns) (hsz : ns.length ≤ sizeLine)
    (h : ∀ h', ObjM h' x dx C (fun y => if y = name then some v else mA y) → Heap.SameBut dx s.heap h' → Q () { s with heap := h', toks := s.toks + 2 }) :
    wpAny (model prog w) A (setAttr (.ref x) name v) Q E s := by
  obtain ⟨od, J, hl⟩ := I.look
  refine PySem.W.set_plain X J hs (PySem.W.osa_open (s := { s with toks := s.toks + 1 }) (r := none) X J hp ht fun b => ?_)
  obtain ⟨cd, hc, hd'⟩ := PySem.W.any_some hh
  have hx : s.heap.get? x = some ⟨.ref C, some dx, .plain, #[]⟩ := I.obj
  refine wpAny_bind (wpAny_pure (wpAny_bind (wpAny_bind (wpAny_loadPart hx (wpAny_bind (PySem.W.Looks.here (s := { s with toks := s.toks + 1 }) (PySem.W.looks_clsIn X hc) ?_))))))
  rw [hd']
  refine wpAny_pure (a := some dx) (wpAny_bind (wpAny_pure (wpAny_bind ?_)))
  refine wpAny_nsSet1 (s := { s with toks := s.toks + 1 }) I.ns fun h' hn2 hs2 => ?_
  obtain ⟨oD, esD, epD, hoD, hdD, hcD⟩ := hn2.count (PySem.Within.cons name v hw)
  refine wpAny_bind (wpAny_lookBehind hoD (by rw [hdD]; exact pastItsLine_dict (Nat.le_trans hcD (by rw [List.length_cons]; omega))) ?_)
  exact wpAny_pure (h _ ⟨(hs2.2 _ (Ne.symm I.ne)).trans I.obj, hn2, I.ne⟩ hs2)

/-- C(..): the dict at the heap's end, the instance behind it; then its __init__ -/
theorem make_map {R : Result → Shared → Prop} {vs : List Value} {kw : List (Str × Value)} (X : K.In s.heap) (hm : PySem.W.makesIn K C = true)
    (hi : PySem.W.findIn K (.ref C) "__init__" = some (some (.ref f))) (hf : PySem.W.typeIn K (.ref f) = some (.type "function"))
    (h : codeAny (model prog w) (A.under (.builtin "type.__call__" ⟨.ref C :: vs, kw⟩)) (.call (.ref f) ⟨.ref (s.heap.objs.size + 1) :: vs, kw⟩) (PySem.W.InitBack (s.heap.objs.size + 1) R)
      { s with heap := (s.heap.push PySem.W.emptyDict).push (PySem.W.instObj C s.heap.objs.size) }) :
    codeAny (model prog w) A (.call (.ref C) ⟨vs, kw⟩) R s := by
  obtain ⟨hh, g, d, t, os⟩ := s
  exact PySem.W.make_core (PySem.W.makes_of X hm) (PySem.W.looks_findIn X hi) (fun self => PySem.W.bind_fn X self hf) (.inl rfl) h
/-- C() where there is no __init__ but object's -/
theorem make_map0 {R : Result → Shared → Prop} (X : K.In s.heap) (hm : PySem.W.makesIn K C = true)
    (hi : PySem.W.findIn K (.ref C) "__init__" = some (some (.builtin "object.__init__")))
    (hb : ∀ self, PySem.W.Looks (model prog w) s.heap (bindSpecial (.builtin "object.__init__") self) (.builtin "object.__init__", [self]))
    (h : codeAny (model prog w) (A.under (.builtin "type.__call__" ⟨[.ref C], []⟩)) (.call (.builtin "object.__init__") ⟨[.ref (s.heap.objs.size + 1)], []⟩) (PySem.W.InitBack (s.heap.objs.size + 1) R)
      { s with heap := (s.heap.push PySem.W.emptyDict).push (PySem.W.instObj C s.heap.objs.size) }) :
    codeAny (model prog w) A (.call (.ref C) ⟨[], []⟩) R s := by
  obtain ⟨hh, g, d, t, os⟩ := s
  exact PySem.W.make_core (PySem.W.makes_of X hm) (PySem.W.looks_findIn X hi) hb (.inr ⟨rfl, rfl⟩) h
end

/-! ### the attributes as a list of pairs -/
def putF (f : Str) (v : V) : List (Str × V) → List (Str × V)
  | [] => [(f, v)]
  | (g, x) :: r => if g = f then (g, v) :: r else (g, x) :: putF f v r
theorem lookup_putF (f g : Str) (v : V) : ∀ fs : List (Str × V), (putF f v fs).lookup g = if g = f then some v else fs.lookup g
  | [] => by
    show List.lookup g [(f, v)] = _
    by_cases h : g = f
    · have hb : (g == f) = true := beq_iff_eq.mpr h
      simp only [List.lookup, hb, if_pos h]
    · have hb : (g == f) = false := beq_eq_false_iff_ne.mpr h
      simp only [List.lookup, hb, if_neg h]
  | (k, x) :: r => by
    have ih := lookup_putF f g v r
    rw [show putF f v ((k, x) :: r) = (if k = f then (k, v) :: r else (k, x) :: putF f v r) from rfl]
    by_cases hk : k = f
    · rw [if_pos hk]
      by_cases h : g = k
      · have hb : (g == k) = true := beq_iff_eq.mpr h
        simp only [List.lookup, hb, if_pos (h.trans hk)]
      · have hb : (g == k) = false := beq_eq_false_iff_ne.mpr h
        simp only [List.lookup, hb, if_neg (fun e : g = f => h (e.trans hk.symm))]
    · rw [if_neg hk]
      by_cases h : g = k
      · have hb : (g == k) = true := beq_iff_eq.mpr h
        simp only [List.lookup, hb, if_neg (fun e : g = f => hk (h.symm.trans e))]
      · have hb : (g == k) = false := beq_eq_false_iff_ne.mpr h
        simp only [List.lookup, hb]
        exact ih
theorem keys_putF (f : Str) (v : V) : ∀ fs : List (Str × V), f ∈ (putF f v fs).map (·.1) ∧ ∀ g, g ∈ fs.map (·.1) → g ∈ (putF f v fs).map (·.1)
  | [] => ⟨by simp [putF], fun g h => by simp at h⟩
  | (k, x) :: r => by
    obtain ⟨i1, i2⟩ := keys_putF f v r
    rw [show putF f v ((k, x) :: r) = (if k = f then (k, v) :: r else (k, x) :: putF f v r) from rfl]
    by_cases hk : k = f
    · rw [if_pos hk]
      subst hk
      exact ⟨by simp, fun g h => by simpa using h⟩
    · rw [if_neg hk]
      refine ⟨?_, fun g h => ?_⟩
      · rw [List.map_cons]
        exact List.mem_cons_of_mem _ i1
      · rw [List.map_cons] at h ⊢
        rcases List.mem_cons.mp h with e | e
        · exact List.mem_cons.mpr (.inl e)
        · exact List.mem_cons_of_mem _ (i2 g e)
theorem length_putF (f : Str) (v : V) : ∀ fs : List (Str × V), (putF f v fs).length ≤ fs.length + 1
  | [] => by simp [putF]
  | (k, x) :: r => by
    have ih := length_putF f v r
    rw [show putF f v ((k, x) :: r) = (if k = f then (k, v) :: r else (k, x) :: putF f v r) from rfl]
    by_cases hk : k = f
    · rw [if_pos hk, List.length_cons, List.length_cons]; omega
    · rw [if_neg hk, List.length_cons, List.length_cons]; omega

theorem RelO.some_of {v : V} {o : Option Value} (r : RelO (some v) o) : ∃ u, o = some u ∧ RelV v u := by
  cases o with
  | none => exact (show False from r).elim
  | some u => exact ⟨u, rfl, r⟩
theorem RelO.none_of {o : Option Value} (r : RelO none o) : o = none := by
  cases o with
  | none => rfl
  | some u => exact (show False from r).elim
theorem handed_of {v : V} {u : Value} (r : RelV v u) : PySem.W.handedIn u = true := by
  cases v with
  | non => cases (show u = Value.none from r); rfl
  | bl b => cases (show u = Value.bool b from r); rfl
  | int i => obtain ⟨t, e⟩ := (show ∃ t, u = Value.int i t from r); cases e; rfl
  | str x => obtain ⟨t, e⟩ := (show ∃ t, u = Value.str x t from r); cases e; rfl
  | byt b => obtain ⟨t, e⟩ := (show ∃ t, u = Value.bytes b t from r); cases e; rfl
  | flt b => obtain ⟨t, e⟩ := (show ∃ t, u = Value.float b t from r); cases e; rfl
  | ref a => cases (show u = Value.ref a from r); rfl
  | ty n => cases (show u = Value.type n from r); rfl

section
variable {P : Program} {w : World} {H H' : Hp} {h h' : Heap} {a C dx : Addr} {fs fs' : List (Str × V)}
theorem ins_get (hok : HOk P w H h) (e : H a = some (.ins C dx fs)) : ∃ mA, ObjM h a dx C mA ∧ (∀ f, RelO (fs.lookup f) (mA f)) ∧ PySem.Within mA (fs.map (·.1)) ∧ fs.length ≤ 1000 ∧ H dx = some (.own a) := by
  obtain ⟨d, z, ne, ob, mA, n, r, q⟩ := (show ObjOk P w H h a (.ins C dx fs) from hok a _ e)
  exact ⟨mA, ⟨ob, n, ne⟩, r, q, z, d⟩
end

/-! ### what of the text a class must have -/
structure Cls (K : PySem.W.Frag) (C : Addr) : Prop where
  pg : PySem.W.plainGet K C Str.empty = true
  hd : PySem.W.hasDictIn K C = true
  po : PySem.W.plainOver K C = true
  sa : PySem.W.findIn K (.ref C) "__setattr__" = some (some (.builtin "object.__setattr__"))
theorem Cls.get {K : PySem.W.Frag} {C : Addr} (c : Cls K C) (f : Str) : PySem.W.plainGet K C f = true := c.pg
/-- no class of it has the name -/
def NoAttr (K : PySem.W.Frag) (C : Addr) (f : Str) : Prop := PySem.W.findIn K (.ref C) f = some none
theorem NoAttr.taker {K : PySem.W.Frag} {C : Addr} {f : Str} (n : NoAttr K C f) : PySem.W.takerIn K C f = some none := by
  unfold PySem.W.takerIn
  rw [show PySem.W.findIn K (.ref C) f = some none from n]
  rfl
/-- a constant of the class -/
structure Con (K : PySem.W.Frag) (C : Addr) (f : Str) (v : V) (u : Value) : Prop where
  at_ : PySem.W.findIn K (.ref C) f = some (some u)
  rel : RelV v u
  get : PySem.W.specialIn K u "__get__" = some none
  cp : PySem.W.copiedNames.contains f = false
/-- a method: a plain def of the class or of one above it -/
structure Meth (K : PySem.W.Frag) (C : Addr) (m : Str) (f : Addr) : Prop where
  at_ : PySem.W.findIn K (.ref C) m = some (some (.ref f))
  fn : PySem.W.isFn K (.ref f) = true
  kp : PySem.W.keepIn K (.ref f) = true

section
variable {X : Cx} {pins : List (Addr × Obj)} {σ : St} {H : Hp} {s : Shared} {a C dx : Addr} {fs : List (Str × V)} {f : Str} {v : V} {A : Around} {E : Value → Shared → Prop}

theorem getattr_ok {b : Bool} {Q : Value → Shared → Prop} (I : Inv X pins σ H s) (e : H a = some (.ins C dx fs)) (c : Cls X.K C) (n : NoAttr X.K C f) (l : fs.lookup f = some v)
    (h : ∀ u s', Inv X pins σ H s' → RelV v u → Q u s') : wpAny (model X.prog X.w) A (getAttr (.ref a) f b) Q E s := by
  obtain ⟨mA, O, r, _, _, _⟩ := ins_get I.hok e
  obtain ⟨u, hu, ru⟩ := RelO.some_of (v := v) (o := mA f) (by rw [← l]; exact r f)
  exact get_map I.kIn O (c.get f) c.hd n hu (handed_of ru) (h u _ (I.tok _) ru)

theorem getcon_ok {b : Bool} {u : Value} {Q : Value → Shared → Prop} (I : Inv X pins σ H s) (e : H a = some (.ins C dx fs)) (c : Cls X.K C) (k : Con X.K C f v u) (l : fs.lookup f = none)
    (h : ∀ s', Inv X pins σ H s' → Q u s') : wpAny (model X.prog X.w) A (getAttr (.ref a) f b) Q E s := by
  obtain ⟨mA, O, r, _, _, _⟩ := ins_get I.hok e
  have hn : mA f = none := RelO.none_of (by rw [← l]; exact r f)
  exact get_const I.kIn O (c.get f) c.hd k.at_ k.get k.cp hn (handed_of k.rel) (h _ (I.tok _))

theorem getmeth_ok {m : Str} {g : Addr} {pl : Sem Bool} {Q : Value × List Value → Shared → Prop} (I : Inv X pins σ H s) (e : H a = some (.ins C dx fs)) (c : Cls X.K C) (k : Meth X.K C m g) (l : fs.lookup m = none)
    (h : Q (.ref g, [.ref a]) s) : wpAny (model X.prog X.w) A (getMethod (.ref a) m pl) Q E s := by
  obtain ⟨mA, O, r, _, _, _⟩ := ins_get I.hok e
  have hn : mA m = none := RelO.none_of (by rw [← l]; exact r m)
  exact get_meth I.kIn O (c.get m) k.at_ k.fn hn h

theorem setattr_ok {y : V} {u : Value} {Q : Unit → Shared → Prop} (I : Inv X pins σ H s) (e : H a = some (.ins C dx fs)) (c : Cls X.K C) (n : NoAttr X.K C f) (hl : fs.length < 1000) (ry : RelV y u)
    (h : ∀ s', Inv X pins σ (upd H a (.ins C dx (putF f y fs))) s' → Q () s') : wpAny (model X.prog X.w) A (setAttr (.ref a) f u) Q E s := by
  obtain ⟨mA, O, r, wi, _, ho⟩ := ins_get I.hok e
  have hz : (fs.map (·.1)).length ≤ sizeLine := by rw [List.length_map, sizeLine_eq]; omega
  refine set_map I.kIn O c.sa c.po n.taker c.hd wi hz fun h' O' sb => h _ ?_
  have hd : ∃ o, h'.get? dx = some o := let ⟨o, _, _, e', _⟩ := O'.ns; ⟨o, e'⟩
  refine I.write (x := a) (e := dx) (by rw [e]; exact True.intro) (.inr ho) (fun b q hb z => (sb.2 b hb).trans z) hd ?_
  refine ⟨by rw [upd_ne O.ne]; exact ho, ?_, O.ne, O'.obj, _, O'.ns, fun g => ?_, fun g hg => ?_⟩
  · have := length_putF f y fs; omega
  · show RelO ((putF f y fs).lookup g) (if g = f then some u else mA g)
    rw [lookup_putF]
    by_cases q : g = f
    · rw [if_pos q, if_pos q]; exact ry
    · rw [if_neg q, if_neg q]; exact r g
  · by_cases q : g = f
    · rw [q]; exact (keys_putF f y fs).1
    · refine (keys_putF f y fs).2 g (wi g fun z => hg ?_)
      show (if g = f then some u else mA g) = none
      rw [if_neg q]; exact z

/-- a new instance, tracked, without attributes -/
theorem Inv.made (I : Inv X pins σ H s) : Inv X pins σ (upd (upd H s.heap.objs.size (.own (s.heap.objs.size + 1))) (s.heap.objs.size + 1) (.ins C s.heap.objs.size []))
    { s with heap := (s.heap.push PySem.W.emptyDict).push (PySem.W.instObj C s.heap.objs.size) } := by
  have e1 : (s.heap.push PySem.W.emptyDict).get? s.heap.objs.size = some PySem.W.emptyDict := Heap.get?_push_size s.heap rfl
  have e2 : ((s.heap.push PySem.W.emptyDict).push (PySem.W.instObj C s.heap.objs.size)).get? (s.heap.objs.size + 1) = some (PySem.W.instObj C s.heap.objs.size) := by
    have := Heap.get?_push_size (s.heap.push PySem.W.emptyDict) (o := PySem.W.instObj C s.heap.objs.size) rfl
    rwa [Heap.size_push] at this
  have e3 : (s.heap.push PySem.W.emptyDict).Ns s.heap.objs.size (fun _ => none) := ⟨PySem.W.emptyDict, #[], _, e1, rfl, (fun e he => absurd he (by simp)), fun _ => rfl⟩
  have I1 := I.laid (a := s.heap.objs.size) (o := .own (s.heap.objs.size + 1)) (h' := s.heap.push PySem.W.emptyDict) (t' := s.toks) (fun b u q => Heap.get?_push_of_some _ q) (Nat.le_refl _) ⟨_, e1⟩
  refine I1.laid (a := s.heap.objs.size + 1) (o := .ins C s.heap.objs.size []) (t' := s.toks) (fun b u q => Heap.get?_push_of_some _ q) (Nat.le_of_eq (Heap.size_push _ _)) ?_
  have ne : s.heap.objs.size ≠ s.heap.objs.size + 1 := Nat.ne_of_lt (Nat.lt_succ_self _)
  refine ⟨by rw [upd_ne ne, upd_same], Nat.zero_le _, ne, e2, fun _ => none, (Heap.Ns1.of_empty e3).at fun o q => Heap.get?_push_of_some _ q, fun _ => True.intro, fun y hy => absurd rfl hy⟩

/-- e.f where nothing but the object is asked: through attributeBase (super) and the last hold -/
theorem attr_of {prog : Program} {w : World} {env : Env} {e : Expr} {f : Str} {pos : Pos} {s : Shared} {Q : Value → Shared → Prop} (hb : attributeBase e f env (eval e env) = eval e env)
    (h : wpAny (model prog w) A (eval e env) (fun o s₁ => wpAny (model prog w) A (getAttr o f true) Q E s₁) E s) : wpAny (model prog w) A (eval (.Attribute e f pos) env) Q E s :=
  Attribute_any_ h (by rw [arm_eval_Attribute, hb])
end

/-! ### readings and rules -/
/-- e.f, an attribute of the instance -/
def tFld (K : PySem.W.Frag) (ta : TE) (f : Str) : TE := fun σ H Q => ta σ H fun x H1 => ∃ a C dx fs v, x = .ref a ∧ H1 a = some (.ins C dx fs) ∧ Cls K C ∧ NoAttr K C f ∧ fs.lookup f = some v ∧ Q v H1
/-- e.f, a constant of the class -/
def tCon (K : PySem.W.Frag) (ta : TE) (f : Str) : TE := fun σ H Q => ta σ H fun x H1 => ∃ a C dx fs v u, x = .ref a ∧ H1 a = some (.ins C dx fs) ∧ Cls K C ∧ Con K C f v u ∧ fs.lookup f = none ∧ Q v H1
/-- e.f = value -/
def sFld (K : PySem.W.Frag) (ta tv : TE) (f : Str) : TS := fun D σ H => tv σ H fun y H1 => ta σ H1 fun x H2 => ∃ a C dx fs, x = .ref a ∧ H2 a = some (.ins C dx fs) ∧ Cls K C ∧ NoAttr K C f ∧ fs.length < 1000 ∧
  D.nx σ (upd H2 a (.ins C dx (putF f y fs)))
/-- an augmented operator on two values -/
def InOp (X : Cx) (op : Operator) (rd : V → V → Hp → VK → Prop) : Prop :=
  ∀ (pins : List (Addr × Obj)) (s : Shared) (σ : St) (H : Hp) (x y : V) (u v : Value) (Q : VK), Inv X pins σ H s → RelV x u → RelV y v → rd x y H Q → wpAny (model X.prog X.w) X.A (inplaceOp op u v) (EP X pins σ Q) X.xe s
/-- e.f op= value -/
def sFldAug (K : PySem.W.Frag) (ta tv : TE) (rd : V → V → Hp → VK → Prop) (f : Str) : TS := fun D σ H => ta σ H fun x H1 => ∃ a C dx fs v, x = .ref a ∧ H1 a = some (.ins C dx fs) ∧ Cls K C ∧ NoAttr K C f ∧ fs.lookup f = some v ∧
  tv σ H1 fun y H2 => rd v y H2 fun z H3 => ∃ dx' fs', H3 a = some (.ins C dx' fs') ∧ fs'.length < 1000 ∧ D.nx σ (upd H3 a (.ins C dx' (putF f z fs')))

section
variable {X : Cx} {o e value : Expr} {f : Str} {pos pos' tpos : Pos} {ta tv : TE}
theorem pe_fld (he : PE X e ta) (hb : attributeBase e f X.env (eval e X.env) = eval e X.env) : PE X (.Attribute e f pos) (tFld X.K ta f) := by
  intro pins s σ H Q I h
  refine attr_of hb (thn (he pins s σ H _ I h) fun u s1 ⟨x, H1, I1, rx, a, C, dx, fs, v, ex, ea, c, n, l, q⟩ => ?_)
  subst ex
  obtain rfl : u = Value.ref a := rx
  exact getattr_ok I1 ea c n l fun u' s2 I2 ru => ⟨v, H1, I2, ru, q⟩
theorem pe_con (he : PE X e ta) (hb : attributeBase e f X.env (eval e X.env) = eval e X.env) : PE X (.Attribute e f pos) (tCon X.K ta f) := by
  intro pins s σ H Q I h
  refine attr_of hb (thn (he pins s σ H _ I h) fun u s1 ⟨x, H1, I1, rx, a, C, dx, fs, v, u0, ex, ea, c, k, l, q⟩ => ?_)
  subst ex
  obtain rfl : u = Value.ref a := rx
  exact getcon_ok I1 ea c k l fun s2 I2 => ⟨v, H1, I2, k.rel, q⟩
theorem ps_fld (ha : PE X o ta) (hv : PE X value tv) (hs : swapsWith value (some (.Attribute o f pos')) pos.line X.env = pure false) : PS X (.Assign [.Attribute o f pos'] value pos) (sFld X.K ta tv f) := by
  intro pins s σ H D I h
  refine plainObj_wpAny_Assign_Attribute (thn (hv pins s σ H _ I h) fun u s1 ⟨y, H1, I1, ry, q⟩ => thn (ha pins s1 σ H1 _ I1 q) fun ov s2 ⟨x, H2, I2, rx, a, C, dx, fs, ex, ea, c, n, l, q2⟩ => ?_) hs
  subst ex
  obtain rfl : ov = Value.ref a := rx
  exact setattr_ok I2 ea c n l ry fun s3 I3 => ⟨σ, _, I3, q2⟩
theorem ps_fldaug {op : Operator} {rd : V → V → Hp → VK → Prop} (ha : PE X o ta) (hv : PE X value tv) (hop : InOp X op rd) : PS X (.AugAssign (.Attribute o f tpos) op value pos) (sFldAug X.K ta tv rd f) := by
  intro pins s σ H D I h
  refine wpAny_AugAssign_AttributeAny (thn (ha pins s σ H _ I h) fun ov s1 ⟨x, H1, I1, rx, a, C, dx, fs, v, ex, ea, c, n, l, q⟩ => ?_)
  subst ex
  obtain rfl : ov = Value.ref a := rx
  refine getattr_ok I1 ea c n l fun u s2 I2 ru => thn (hv pins s2 σ H1 _ I2 q) fun w3 s3 ⟨y, H2, I3, ry, q3⟩ => thn (hop pins s3 σ H2 v y u w3 _ I3 ru ry q3) fun w4 s4 ⟨z, H3, I4, rz, dx', fs', ea', l', q4⟩ => ?_
  exact setattr_ok I4 ea' c n l' rz fun s5 I5 => ⟨σ, _, I5, q4⟩
def rAdd : V → V → Hp → VK → Prop := fun x y H Q => ∃ i j, x = .int i ∧ y = .int j ∧ Q (.int (i + j)) H
def rSub : V → V → Hp → VK → Prop := fun x y H Q => ∃ i j, x = .int i ∧ y = .int j ∧ Q (.int (i - j)) H
theorem in_add : InOp X .Add rAdd := by
  rintro pins s σ H x y u v Q I rx ry ⟨i, j, rfl, rfl, q⟩
  obtain ⟨t, rfl⟩ := (show ∃ t, u = Value.int i t from rx)
  obtain ⟨t', rfl⟩ := (show ∃ t', v = Value.int j t' from ry)
  exact PyProof.Rows.iadd_int ⟨.int (i + j), H, I.tok _, ⟨_, rfl⟩, q⟩
theorem in_sub : InOp X .Sub rSub := by
  rintro pins s σ H x y u v Q I rx ry ⟨i, j, rfl, rfl, q⟩
  obtain ⟨t, rfl⟩ := (show ∃ t, u = Value.int i t from rx)
  obtain ⟨t', rfl⟩ := (show ∃ t', v = Value.int j t' from ry)
  exact PyProof.Rows.isub_int ⟨.int (i - j), H, I.tok _, ⟨_, rfl⟩, q⟩

/-- what is between an instance and its method: the tree of a method call -/
theorem methcall_of {pl : Sem Bool} {m : Str} {apos : Pos} {args : List Expr} {pins : List (Addr × Obj)} {s : Shared} {σ : St} {H : Hp} {Q : Value → Shared → Prop} {te : TE} (he : PE X e te) (I : Inv X pins σ H s)
    (h : te σ H fun x H1 => ∃ a C dx fs g, x = .ref a ∧ H1 a = some (.ins C dx fs) ∧ Cls X.K C ∧ Meth X.K C m g ∧ fs.lookup m = none ∧
      ∀ s1, Inv X pins σ H1 s1 → wpAny (model X.prog X.w) X.A (callWith pos (.ref g) [.ref a] (backTo pos (starEach args X.env)) (backToKw pos (keywordEach [] X.env))) Q X.xe s1)
    (ht : eval (.Call (.Attribute e m apos) args [] pos) X.env = (do
      let ov ← eval e X.env
      standAt apos.atName
      let (f, first) ← holding [ov] (getMethod ov m pl)
      callWith pos f first (backTo pos (starEach args X.env)) (backToKw pos (keywordEach [] X.env)))) :
    wpAny (model X.prog X.w) X.A (eval (.Call (.Attribute e m apos) args [] pos) X.env) Q X.xe s := by
  refine PySem.W.methodCall_KW (pl := pl) (thn (he pins s σ H _ I h) fun u s1 ⟨x, H1, I1, rx, a, C, dx, fs, g, ex, ea, c, k, l, q⟩ => ?_) ht
  subst ex
  obtain rfl : u = Value.ref a := rx
  exact getmeth_ok I1 ea c k l (q s1 I1)
end

/-! ### isinstance -/
section
variable {X : Cx} {pins : List (Addr × Obj)} {σ : St} {H : Hp} {s : Shared} {A : Around} {E : Value → Shared → Prop} {Q : Value → Shared → Prop} {c : Value} {b : Bool}
/-- the type of a value, as the fragment's deciders take it; for an instance its class -/
inductive TyOf (K : PySem.W.Frag) (H : Hp) : V → Value → Prop where
  | non : TyOf K H .non (.type "NoneType")
  | bl (x : Bool) : TyOf K H (.bl x) (.type "bool")
  | int (i : Int) : TyOf K H (.int i) (.type "int")
  | str (x : Str) : TyOf K H (.str x) (.type "str")
  | flt (x : UInt64) : TyOf K H (.flt x) (.type "float")
  | lst {a : Addr} {xs : List V} (e : H a = some (.lst xs)) : TyOf K H (.ref a) (.type "list")
  | frz {a : Addr} {o : Obj} {xs : List V} (e : H a = some (.frz o (.lst xs))) : TyOf K H (.ref a) (.type "list")
  | tup {a : Addr} {xs : List V} (e : H a = some (.tup xs)) : TyOf K H (.ref a) (.type "tuple")
  | dK {a : Addr} {kvs : List (Key × V)} (e : H a = some (.dK kvs)) : TyOf K H (.ref a) (.type "dict")
  | dT {a : Addr} {kvs : List (List Key × V)} (e : H a = some (.dT kvs)) : TyOf K H (.ref a) (.type "dict")
  | ins {a C dx : Addr} {fs : List (Str × V)} (e : H a = some (.ins C dx fs)) (cl : Cls K C) (ha : PySem.W.findIn K (.ref C) "__class__" = some (some (.builtin "object.__class__")))
      (hn : PySem.W.specialIn K (.builtin "object.__class__") "__get__" = some (some (.builtin "getset_descriptor.__get__"))) (htk : PySem.W.takesIn K (.builtin "object.__class__") = some true)
      (hm : PySem.W.mroIn K C (.type "object") = some true) : TyOf K H (.ref a) (.ref C)
/-- isinstance(x, c) for one class c, a built-in or an own one: kitOne's answer -/
theorem isinst_ok {x : V} {u t : Value} (I : Inv X pins σ H s) (rx : RelV x u) (ty : TyOf X.K H x t) (e : PySem.W.kitOne X.K t c = some b) (h : ∀ tk, Q (.bool b) { s with toks := tk }) :
    wpAny (model X.prog X.w) A (call (.builtin "isinstance") [u, c]) Q E s := by
  cases ty with
  | non => cases (show u = Value.none from rx); exact PySem.W.kia_one PySem.W.kitx_none I.kIn True.intro e (fun z => nomatch z) h
  | bl y => cases (show u = Value.bool y from rx); exact PySem.W.kia_one PySem.W.kitx_bool I.kIn True.intro e (fun z => nomatch z) h
  | int i => obtain ⟨t, q⟩ := (show ∃ t, u = Value.int i t from rx); cases q; exact PySem.W.kia_one PySem.W.kitx_int I.kIn True.intro e (fun z => nomatch z) h
  | str y => obtain ⟨t, q⟩ := (show ∃ t, u = Value.str y t from rx); cases q; exact PySem.W.kia_one PySem.W.kitx_str I.kIn True.intro e (fun z => nomatch z) h
  | flt y => obtain ⟨t, q⟩ := (show ∃ t, u = Value.float y t from rx); cases q; exact PySem.W.kia_one PySem.W.kitx_float I.kIn True.intro e (fun z => nomatch z) h
  | @lst a xs ea =>
    cases (show u = Value.ref a from rx)
    obtain ⟨_, _, n, _, h1⟩ := (show ObjOk X.prog X.w H s.heap a (.lst xs) from I.hok a _ ea)
    exact PySem.W.kia_one PySem.W.kitx_list I.kIn ⟨_, h1, rfl⟩ e (fun z => nomatch z) h
  | @frz a ob xs ea =>
    cases (show u = Value.ref a from rx)
    obtain ⟨_, _, _, n, _, h1⟩ := (show ObjOk X.prog X.w H s.heap a (.frz ob (.lst xs)) from I.hok a _ ea)
    exact PySem.W.kia_one PySem.W.kitx_list I.kIn ⟨_, h1, rfl⟩ e (fun z => nomatch z) h
  | @tup a xs ea =>
    cases (show u = Value.ref a from rx)
    obtain ⟨_, _, _, p⟩ := (show ObjOk X.prog X.w H s.heap a (.tup xs) from I.hok a _ ea)
    obtain ⟨o, h1, h2, _⟩ := p
    exact PySem.W.kia_one PySem.W.kitx_tuple I.kIn ⟨o, h1, h2⟩ e (fun z => nomatch z) h
  | @dK a kvs ea =>
    cases (show u = Value.ref a from rx)
    obtain ⟨_, _, vs, _, p⟩ := (show ObjOk X.prog X.w H s.heap a (.dK kvs) from I.hok a _ ea)
    obtain ⟨o, es, ep, h1, h2, _⟩ := p
    exact PySem.W.kia_one PySem.W.kitx_dict I.kIn ⟨o, h1, h2.1⟩ e (fun z => nomatch z) h
  | @dT a kvs ea =>
    cases (show u = Value.ref a from rx)
    obtain ⟨_, _, xs, _, o, es, ep, h1, h2, _⟩ := (show ObjOk X.prog X.w H s.heap a (.dT kvs) from I.hok a _ ea)
    exact PySem.W.kia_one PySem.W.kitx_dict I.kIn ⟨o, h1, h2.1⟩ e (fun z => nomatch z) h
  | @ins a C dx fs ea cl ha hn htk hm =>
    cases (show u = Value.ref a from rx)
    obtain ⟨mA, O, _⟩ := ins_get I.hok ea
    obtain ⟨od, J, _⟩ := O.look
    exact PySem.W.kia_one (PySem.W.kitx_own (cl.get _) cl.hd ha hn htk hm) I.kIn J e (fun z => nomatch z) h
end
end L2

namespace L2
open PySem PySem.Spec PyProof.Rows

/-! ### room -/
structure Room (k : Nat) (A : Around) : Prop where
  hd : A.handled = none
  dp : A.depth + 3 * k + 5 < recursionLimit
  un : A.units + 16 * k + 200 < cLine
theorem Room.mono {j k : Nat} {A : Around} (r : Room k A) (h : j ≤ k) : Room j A := ⟨r.hd, by have := r.dp; omega, by have := r.un; omega⟩
theorem Room.deeper {k : Nat} {A : Around} (r : Room (k + 1) A) (env : Env) : Room k (A.deeper env) :=
  ⟨r.hd, by have := r.dp; show A.depth + 1 + 3 * k + 5 < _; omega, by have := r.un; show A.units + 3 + 16 * k + 200 < _; omega⟩
theorem Room.in1 {k : Nat} {A : Around} (r : Room (k + 1) A) : Room k A.in1 :=
  ⟨r.hd, by have := r.dp; show A.depth + 3 * k + 5 < _; omega, by have := r.un; show A.units + 1 + 16 * k + 200 < _; omega⟩
theorem make_depth {A : Around} {C : Addr} {us : List Value} {kw : List (Str × Value)} : (A.under (.builtin "type.__call__" ⟨.ref C :: us, kw⟩)).depth = A.depth + 1 := by
  first | rfl | simp [Around.under, Code.weight, Code.isCreation, Code.isGuard, Code.isCaller, Code.frames, Code.isFrame, guardIds]
theorem make_units {A : Around} {C : Addr} {us : List Value} {kw : List (Str × Value)} : (A.under (.builtin "type.__call__" ⟨.ref C :: us, kw⟩)).units = A.units + 1 := by
  first | rfl | simp [Around.under, Code.cUnits, Code.frames, Code.isFrame]
theorem Room.make {k : Nat} {A : Around} (r : Room (k + 1) A) (C : Addr) (us : List Value) (kw : List (Str × Value)) : Room k (A.under (.builtin "type.__call__" ⟨.ref C :: us, kw⟩)) :=
  ⟨r.hd, by have := r.dp; rw [make_depth]; omega, by have := r.un; rw [make_units]; omega⟩
theorem Room.depth {k : Nat} {A : Around} (r : Room k A) : A.depth < recursionLimit := by have := r.dp; omega
theorem Room.units {k : Nat} {A : Around} (r : Room k A) : A.units + 64 < cLine := by have := r.un; omega
theorem Room.units0 {k : Nat} {A : Around} (r : Room k A) : A.units < cLine := by have := r.un; omega

/-! ### argument lists and displays -/
def tNil : TA := fun _ H Q => Q [] H
def tCons (ta : TE) (tr : TA) : TA := fun σ H Q => ta σ H fun x H1 => tr σ H1 fun xs H2 => Q (x :: xs) H2
section
variable {X : Cx} {e : Expr} {es : List Expr} {te : TE} {t : TA} {pos : Pos}
theorem pa_nil : PA X [] tNil := fun _ _ _ _ H Q I h => Calls.spliced_nil ⟨[], H, I, .nil, h⟩
theorem pa_cons (ha : PE X e te) (hr : PA X es t) (hs : starEach (e :: es) X.env = (false, eval e X.env) :: starEach es X.env := by rfl) : PA X (e :: es) (tCons te t) := by
  intro pos pins s σ H Q I h
  rw [hs]
  show wpAny _ _ (spliced ((false, eval e X.env) :: backTo pos (starEach es X.env))) _ _ s
  refine Calls.spliced_cons (thn (ha pins s σ H _ I h) fun u s1 ⟨x, H1, I1, r1, q1⟩ => ?_)
  exact thn (hr pos pins s1 σ H1 _ I1 q1) fun us s2 ⟨xs, H2, I2, r2, q2⟩ => ⟨x :: xs, H2, I2, .cons r1 r2, q2⟩

/-- a tuple, a list of written items -/
def tTup (t : TA) : TE := fun σ H Q => t σ H fun xs H1 => xs.length ≤ sizeLine ∧ ∀ p, H1 p = none → Q (.ref p) (upd H1 p (.tup xs))
def tLst (t : TA) : TE := fun σ H Q => t σ H fun xs H1 => xs.length ≤ sizeLine ∧ ∀ p, H1 p = none → Q (.ref p) (upd H1 p (.lst xs))
theorem pe_tup {x1} (h : PA X es t) : PE X (.Tuple es x1 pos) (tTup t) := by
  intro pins s σ H Q I hq
  refine wpAny_Tuple_spliced (thn (h pos pins s σ H _ I hq) fun us s1 ⟨xs, H1, I1, r, z, q⟩ => ⟨by rw [← r.length]; exact z, ?_⟩)
  have hf : H1 s1.heap.objs.size = none := I1.hok.fresh (Nat.le_refl _)
  refine ⟨.ref s1.heap.objs.size, upd H1 s1.heap.objs.size (.tup xs), I1.laid (t' := s1.toks) (fun b u e => Heap.get?_push_of_some _ e) (Nat.le_refl _) ?_, rfl, q _ hf⟩
  exact ⟨z, us, r, ⟨_, Heap.get?_push_size _ rfl, rfl, _, rfl⟩⟩
theorem pe_lst (h : PA X es t) : PE X (.List es pos) (tLst t) := by
  intro pins s σ H Q I hq
  refine wpAny_List_spliced (thn (h pos pins s σ H _ I hq) fun us s1 ⟨xs, H1, I1, r, z, q⟩ => ⟨by rw [← r.length]; exact z, ?_⟩)
  have hf : H1 s1.heap.objs.size = none := I1.hok.fresh (Nat.le_refl _)
  refine ⟨.ref s1.heap.objs.size, upd H1 s1.heap.objs.size (.lst xs), I1.laid (t' := s1.toks) (fun b u e => Heap.get?_push_of_some _ e) (Nat.le_refl _) ?_, rfl, q _ hf⟩
  exact ⟨z, us, 0, r, Heap.get?_push_size _ rfl⟩
end

/-! ### what a def promises -/
/-- a def's promise: the bound arguments in the parameters' order, the heap, the wanted end, the wanted exception -/
abbrev Sp := List V → Hp → VK → XK → Prop
/-- how an exception lies behind a call (file 08 gives it): the callers' frames, abstract heap and state ahead of the call, the wish, the exception, the state -/
abbrev CXT := List Env → Hp → Shared → XK → Value → Shared → Prop

/-- the state at a call -/
structure Env0 (P : Program) (w : World) (K : PySem.W.Frag) (mg : Str → Option Value) (base : Heap) (A : Around) (outer : List Env) (s : Shared) (H : Hp) : Prop where
  frames : A.frames = some outer
  mod : Mod K mg base
  bs : ∀ b o, base.get? b = some o → s.heap.get? b = some o ∧ H b = none
  bsz : base.objs.size ≤ s.heap.objs.size
  funs : s.heap.FunFrames base outer
  frf : ∀ b ∈ frs outer, H b = none
  hok : HOk P w H s.heap
  bare : AllBare s.gens
/-- a call's end -/
def CE (outer : List Env) (P : Program) (w : World) (H : Hp) (s : Shared) (Q : VK) (u : Value) (s' : Shared) : Prop :=
  ∃ v H', s'.os = s.os ∧ AllBare s'.gens ∧ Un (frs outer) [] H H' s.heap s'.heap ∧ HOk P w H' s'.heap ∧ RelV v u ∧ Q v H'
def CR (CX : CXT) (outer : List Env) (P : Program) (w : World) (H : Hp) (s : Shared) (Q : VK) (E : XK) (r : Result) (s' : Shared) : Prop :=
  match r with
  | .ok (.ret u) => CE outer P w H s Q u s'
  | .ok _ => False
  | .error e => CX outer H s E e s'
structure FnOk (P : Program) (w : World) (K : PySem.W.Frag) (mg : Str → Option Value) (base : Heap) (CX : CXT) (k : Nat) (f : Addr) (fd : FuncData) (ps : List Str) (sp : Sp) : Prop where
  len : ∀ vs H Q E, sp vs H Q E → vs.length = ps.length
  run : ∀ (A : Around) (outer : List Env) (s : Shared) (H : Hp) (args : Args) (us : List Value) (vs : List V) (Q : VK) (E : XK), Room k A → Env0 P w K mg base A outer s H → BindsTo s fd args (ps.zip us) → Vals vs us → sp vs H Q E →
    codeAny (model P w) A (.call (.ref f) args) (CR CX outer P w H s Q E) s
theorem FnOk.mono {P : Program} {w : World} {K : PySem.W.Frag} {mg : Str → Option Value} {base : Heap} {CX : CXT} {j k : Nat} {f : Addr} {fd : FuncData} {ps : List Str} {sp : Sp} (F : FnOk P w K mg base CX j f fd ps sp) (h : j ≤ k) :
    FnOk P w K mg base CX k f fd ps sp := ⟨F.len, fun A outer s H args us vs Q E hr => F.run A outer s H args us vs Q E (hr.mono h)⟩
/-- a weaker promise -/
theorem FnOk.imp {P : Program} {w : World} {K : PySem.W.Frag} {mg : Str → Option Value} {base : Heap} {CX : CXT} {k : Nat} {f : Addr} {fd : FuncData} {ps : List Str} {sp sp' : Sp} (F : FnOk P w K mg base CX k f fd ps sp)
    (h : ∀ vs H Q E, sp' vs H Q E → sp vs H Q E) : FnOk P w K mg base CX k f fd ps sp' :=
  ⟨fun vs H Q E q => F.len vs H Q E (h _ _ _ _ q), fun A outer s H args us vs Q E hr he hb hv hs => F.run A outer s H args us vs Q E hr he hb hv (h _ _ _ _ hs)⟩

theorem Env0.make {P : Program} {w : World} {K : PySem.W.Frag} {mg : Str → Option Value} {base : Heap} {A : Around} {outer : List Env} {s : Shared} {H : Hp} (e : Env0 P w K mg base A outer s H) (C : Addr) (us : List Value) (kw : List (Str × Value)) :
    Env0 P w K mg base (A.under (.builtin "type.__call__" ⟨.ref C :: us, kw⟩)) outer s H := ⟨by first | exact e.frames | (simpa [Around.under, Code.envs, Code.isFrame, pushEnvs] using e.frames), e.mod, e.bs, e.bsz, e.funs, e.frf, e.hok, e.bare⟩
theorem Env0.in1 {P : Program} {w : World} {K : PySem.W.Frag} {mg : Str → Option Value} {base : Heap} {A : Around} {outer : List Env} {s : Shared} {H : Hp} (e : Env0 P w K mg base A outer s H) :
    Env0 P w K mg base A.in1 outer s H := ⟨e.frames, e.mod, e.bs, e.bsz, e.funs, e.frf, e.hok, e.bare⟩

section
variable {X : Cx} {pins : List (Addr × Obj)} {σ : St} {H : Hp} {s s' : Shared}
/-- from a body: what a callee wants -/
theorem Inv.env0 (I : Inv X pins σ H s) : Env0 X.prog X.w X.K X.mg X.base X.A X.stack s H :=
  ⟨I.ok.frames, I.ok.mod, I.bs, Nat.le_trans I.ok.bsz I.sz, I.stack, I.stkFree, I.hok, I.bare⟩
/-- behind a call -/
theorem Inv.after {Q : VK} {u : Value} (I : Inv X pins σ H s) (h : CE X.stack X.prog X.w H s Q u s') : EP X pins σ Q u s' := by
  obtain ⟨v, H', os, bare, un, hok, r, q⟩ := h
  obtain ⟨hh, g, d, t, os'⟩ := s'
  obtain rfl : os' = s.os := os
  exact ⟨v, H', I.call (h' := hh) (g' := g) (d' := d) (t' := t) (ch := []) un hok bare (fun b z => absurd z (by simp)), r, q⟩
end

/-! ### calls -/
/-- f(..): the written arguments, then the defaults dvs; E: what is wanted of an exception -/
def tCall (sp : Sp) (dvs : List V) (E : XK) (t : TA) : TE := fun σ H Q => t σ H fun vs H1 => sp (vs ++ dvs) H1 Q E
/-- o.m(..) of an instance of the class at C -/
def tMeth (C : Addr) (m : Str) (sp : Sp) (dvs : List V) (E : XK) (ta : TE) (t : TA) : TE := fun σ H Q => ta σ H fun x H1 => ∃ a dx fs, x = .ref a ∧ H1 a = some (.ins C dx fs) ∧ fs.lookup m = none ∧
  t σ H1 fun vs H2 => sp (x :: (vs ++ dvs)) H2 Q E
/-- C(..): a new instance and its dict, then __init__ -/
def tMake (C : Addr) (sp : Sp) (dvs : List V) (E : XK) (t : TA) : TE := fun σ H Q => t σ H fun vs H1 => ∀ x dx, H1 x = none → H1 dx = none → dx ≠ x →
  sp (.ref x :: (vs ++ dvs)) (upd (upd H1 dx (.own x)) x (.ins C dx [])) (fun v H2 => v = .non ∧ Q (.ref x) H2) E

/-- how the parameters are bound: us the positional arguments, kw the keywords' values by name, ds the defaults that fill up -/
def Binds (K : PySem.W.Frag) (fd : FuncData) (ps : List Str) (ds : List Value) : Prop :=
  ∀ (s : Shared) (us : List Value), K.In s.heap → (us ++ ds).length = ps.length → BindsTo s fd ⟨us, []⟩ (ps.zip (us ++ ds))
/-- every parameter is given -/
theorem Binds.all {K : PySem.W.Frag} {fd : FuncData} {ps : List Str} (h : ∀ us : List Value, us.length = ps.length → bindArgs fd ⟨us, []⟩ = pure (ps.zip us)) : Binds K fd ps [] := fun s us _ hl => by
  rw [List.append_nil] at hl ⊢
  exact .of_eq (h us hl)

/-- an exception of a callee reaches what this body wants of exceptions -/
def Passes (CX : CXT) (X : Cx) (E : XK) : Prop := ∀ (pins : List (Addr × Obj)) (σ : St) (H : Hp) (s : Shared) (e : Value) (s' : Shared), Inv X pins σ H s → CX X.stack H s E e s' → X.xe e s'

section
variable {X : Cx} {CX : CXT} {k : Nat} {f C : Addr} {fd : FuncData} {ps : List Str} {sp : Sp} {dvs : List V} {ds : List Value} {E : XK} {x m : Str} {p pos apos : Pos} {e o : Expr} {es : List Expr} {ta : TE} {t : TA}

/-- the callee runs -/
theorem run_fn {pins : List (Addr × Obj)} {σ : St} {H : Hp} {s : Shared} {Q : VK} {us : List Value} {vs : List V} (F : FnOk X.prog X.w X.K X.mg X.base CX k f fd ps sp) (hr : Room k X.A) (hb : Binds X.K fd ps ds) (hd : Vals dvs ds) (hx : Passes CX X E)
    (I : Inv X pins σ H s) (r : Vals vs us) (h : sp (vs ++ dvs) H Q E) : wpAny (model X.prog X.w) X.A (call (.ref f) us) (EP X pins σ Q) X.xe s := by
  have r2 : Vals (vs ++ dvs) (us ++ ds) := r.append hd
  have hl : (us ++ ds).length = ps.length := by rw [← r2.length]; exact F.len _ _ _ _ h
  refine wpAny_call (codeAny_mono (F.run X.A X.stack s H ⟨us, []⟩ (us ++ ds) (vs ++ dvs) Q E hr I.env0 (hb s us I.kIn hl) r2 h) fun r s' hq => ?_)
  cases r with
  | error e => exact hx pins σ H s e s' I hq
  | ok fl =>
    cases fl with
    | ret u => exact I.after hq
    | next => exact False.elim hq
    | brk => exact False.elim hq
    | cont => exact False.elim hq

theorem pe_call (F : FnOk X.prog X.w X.K X.mg X.base CX k f fd ps sp) (hr : Room k X.A) (hg : Gl X x) (hm : X.mg x = some (.ref f)) (hk : PySem.W.keepIn X.K (.ref f) = true) (hb : Binds X.K fd ps ds) (hd : Vals dvs ds) (hx : Passes CX X E)
    (ha : PA X (e :: es) t) (hdb : (x == ("__debug__" : Str)) = false := by decide) (he : starEach (e :: es) X.env = (false, eval e X.env) :: starEach es X.env := by rfl) (hpl : (backTo pos (starEach es X.env)).any (·.1) = false := by rfl) :
    PE X (.Call (.Name x p) (e :: es) [] pos) (tCall sp dvs E t) := by
  intro pins s σ H Q I h
  refine wpAny_Call_Name_kw (ld_glob I hg hm ?_ hdb)
  refine PySem.W.callWith_K (h₀ := X.base) I.ok.mod.kin hk (thn (ha pos pins s σ H _ I h) fun us s1 ⟨vs, H1, I1, r, q⟩ => ⟨I1.kIn, ?_⟩) he hpl
  exact run_fn F hr hb hd hx I1 r q
theorem pe_call0 (F : FnOk X.prog X.w X.K X.mg X.base CX k f fd ps sp) (hr : Room k X.A) (hg : Gl X x) (hm : X.mg x = some (.ref f)) (hk : PySem.W.keepIn X.K (.ref f) = true) (hb : Binds X.K fd ps ds) (hd : Vals dvs ds) (hx : Passes CX X E)
    (hdb : (x == ("__debug__" : Str)) = false := by decide) : PE X (.Call (.Name x p) [] [] pos) (tCall sp dvs E tNil) := by
  intro pins s σ H Q I h
  refine wpAny_Call_Name_kw (ld_glob I hg hm ?_ hdb)
  exact PySem.W.callWith_K0 I.kIn hk (run_fn (us := []) F hr hb hd hx I .nil h)

/-- o.m(e, ..) -/
theorem pe_meth {pl : Sem Bool} (he : PE X o ta) (c : Cls X.K C) (hm : Meth X.K C m f) (F : FnOk X.prog X.w X.K X.mg X.base CX k f fd ps sp) (hr : Room k X.A) (hb : Binds X.K fd ps ds) (hd : Vals dvs ds) (hx : Passes CX X E) (ha : PA X (e :: es) t)
    (hst : starEach (e :: es) X.env = (false, eval e X.env) :: starEach es X.env := by rfl) (hpl : (backTo pos (starEach es X.env)).any (·.1) = false := by rfl)
    (ht : eval (.Call (.Attribute o m apos) (e :: es) [] pos) X.env = (do
      let ov ← eval o X.env
      standAt apos.atName
      let (f, first) ← holding [ov] (getMethod ov m pl)
      callWith pos f first (backTo pos (starEach (e :: es) X.env)) (backToKw pos (keywordEach [] X.env))) := by rfl) :
    PE X (.Call (.Attribute o m apos) (e :: es) [] pos) (tMeth C m sp dvs E ta t) := by
  intro pins s σ H Q I h
  refine PySem.W.methodCall_KW (pl := pl) (thn (he pins s σ H _ I h) fun u s1 ⟨x, H1, I1, rx, a, dx, fs, ex, ea, l, q⟩ => ?_) ht
  subst ex
  obtain rfl : u = Value.ref a := rx
  refine getmeth_ok I1 ea c hm l ?_
  refine PySem.W.callWith_K (first := [.ref a]) (h₀ := X.base) I.ok.mod.kin hm.kp (thn (ha pos pins s1 σ H1 _ I1 q) fun us s2 ⟨vs, H2, I2, r, q2⟩ => ⟨I2.kIn, ?_⟩) hst hpl
  exact run_fn (us := .ref a :: us) (vs := .ref a :: vs) F hr hb hd hx I2 (.cons rfl r) q2
/-- o.m() -/
theorem pe_meth0 {pl : Sem Bool} (he : PE X o ta) (c : Cls X.K C) (hm : Meth X.K C m f) (F : FnOk X.prog X.w X.K X.mg X.base CX k f fd ps sp) (hr : Room k X.A) (hb : Binds X.K fd ps ds) (hd : Vals dvs ds) (hx : Passes CX X E)
    (ht : eval (.Call (.Attribute o m apos) [] [] pos) X.env = (do
      let ov ← eval o X.env
      standAt apos.atName
      let (f, first) ← holding [ov] (getMethod ov m pl)
      callWith pos f first (backTo pos (starEach [] X.env)) (backToKw pos (keywordEach [] X.env))) := by rfl) :
    PE X (.Call (.Attribute o m apos) [] [] pos) (tMeth C m sp dvs E ta tNil) := by
  intro pins s σ H Q I h
  refine PySem.W.methodCall_KW (pl := pl) (thn (he pins s σ H _ I h) fun u s1 ⟨x, H1, I1, rx, a, dx, fs, ex, ea, l, q⟩ => ?_) ht
  subst ex
  obtain rfl : u = Value.ref a := rx
  refine getmeth_ok I1 ea c hm l ?_
  exact PySem.W.callWith_K0 (first := [.ref a]) I1.kIn hm.kp (run_fn (us := [.ref a]) (vs := [.ref a]) F hr hb hd hx I1 (.cons rfl .nil) q)

/-- what a class must have to be made -/
structure Mk (K : PySem.W.Frag) (C f : Addr) : Prop where
  makes : PySem.W.makesIn K C = true
  init : PySem.W.findIn K (.ref C) "__init__" = some (some (.ref f))
  fn : PySem.W.isFn K (.ref f) = true
  kp : PySem.W.keepIn K (.ref C) = true

theorem run_make {pins : List (Addr × Obj)} {σ : St} {H : Hp} {s : Shared} {Q : VK} {us : List Value} {vs : List V} (M : Mk X.K C f) (F : FnOk X.prog X.w X.K X.mg X.base CX k f fd ps sp) (hr : Room (k + 1) X.A) (hb : Binds X.K fd ps ds) (hd : Vals dvs ds)
    (hx : Passes CX X E) (I : Inv X pins σ H s) (r : Vals vs us)
    (h : ∀ x dx, H x = none → H dx = none → dx ≠ x → sp (.ref x :: (vs ++ dvs)) (upd (upd H dx (.own x)) x (.ins C dx [])) (fun v H2 => v = .non ∧ Q (.ref x) H2) E) :
    wpAny (model X.prog X.w) X.A (call (.ref C) us) (EP X pins σ Q) X.xe s := by
  have hq := h (s.heap.objs.size + 1) s.heap.objs.size (I.hok.fresh (Nat.le_succ _)) (I.hok.fresh (Nat.le_refl _)) (Nat.ne_of_lt (Nat.lt_succ_self _))
  have I2 := Inv.made (C := C) I
  have r2 : Vals (V.ref (s.heap.objs.size + 1) :: (vs ++ dvs)) (Value.ref (s.heap.objs.size + 1) :: (us ++ ds)) := .cons rfl (r.append hd)
  have hl : (Value.ref (s.heap.objs.size + 1) :: us ++ ds).length = ps.length := by
    have e := r2.length
    rw [F.len _ _ _ _ hq] at e
    exact e.symm
  refine wpAny_call (make_map (f := f) I.kIn M.makes M.init (beq_iff_eq.mp M.fn) (codeAny_mono (F.run _ X.stack _ _ ⟨Value.ref (s.heap.objs.size + 1) :: us, []⟩ (Value.ref (s.heap.objs.size + 1) :: (us ++ ds)) _ _ E (hr.make C us [])
    (I2.env0.make C us []) (hb _ (Value.ref (s.heap.objs.size + 1) :: us) I2.kIn hl) r2 hq) fun r s' hq' => ?_))
  cases r with
  | error e => exact hx pins σ _ _ e s' I2 hq'
  | ok fl =>
    cases fl with
    | ret u =>
      obtain ⟨v, H', I3, rv, ev, q3⟩ := I2.after hq'
      subst ev
      exact ⟨rv, ⟨V.ref (s.heap.objs.size + 1), H', I3, rfl, q3⟩⟩
    | next => exact False.elim hq'
    | brk => exact False.elim hq'
    | cont => exact False.elim hq'
theorem pe_make (M : Mk X.K C f) (F : FnOk X.prog X.w X.K X.mg X.base CX k f fd ps sp) (hr : Room (k + 1) X.A) (hg : Gl X x) (hm : X.mg x = some (.ref C)) (hb : Binds X.K fd ps ds) (hd : Vals dvs ds) (hx : Passes CX X E)
    (ha : PA X (e :: es) t) (hdb : (x == ("__debug__" : Str)) = false := by decide) (he : starEach (e :: es) X.env = (false, eval e X.env) :: starEach es X.env := by rfl) (hpl : (backTo pos (starEach es X.env)).any (·.1) = false := by rfl) :
    PE X (.Call (.Name x p) (e :: es) [] pos) (tMake C sp dvs E t) := by
  intro pins s σ H Q I h
  refine wpAny_Call_Name_kw (ld_glob I hg hm ?_ hdb)
  refine PySem.W.callWith_K (h₀ := X.base) I.ok.mod.kin M.kp (thn (ha pos pins s σ H _ I h) fun us s1 ⟨vs, H1, I1, r, q⟩ => ⟨I1.kIn, ?_⟩) he hpl
  exact run_make M F hr hb hd hx I1 r q
theorem pe_make0 (M : Mk X.K C f) (F : FnOk X.prog X.w X.K X.mg X.base CX k f fd ps sp) (hr : Room (k + 1) X.A) (hg : Gl X x) (hm : X.mg x = some (.ref C)) (hb : Binds X.K fd ps ds) (hd : Vals dvs ds) (hx : Passes CX X E)
    (hdb : (x == ("__debug__" : Str)) = false := by decide) : PE X (.Call (.Name x p) [] [] pos) (tMake C sp dvs E tNil) := by
  intro pins s σ H Q I h
  refine wpAny_Call_Name_kw (ld_glob I hg hm ?_ hdb)
  exact PySem.W.callWith_K0 I.kIn M.kp (run_make (us := []) M F hr hb hd hx I .nil h)
end

/-! ### keywords -/
/-- the values of the keywords, from the left -/
def PK (X : Cx) (kws : List Keyword) (t : TA) : Prop :=
  ∀ (pos : Pos) (pins : List (Addr × Obj)) (s : Shared) (σ : St) (H : Hp) (Q : List V → Hp → Prop), Inv X pins σ H s → t σ H Q → wpAny (model X.prog X.w) X.A (evalAll ((backToKw pos (keywordEach kws X.env)).map (·.2))) (AP X pins σ Q) X.xe s
section
variable {X : Cx} {CX : CXT} {k : Nat} {f C : Addr} {fd : FuncData} {ps ks : List Str} {sp : Sp} {E : XK} {x m : Str} {p pos apos kpos : Pos} {e o : Expr} {es : List Expr} {kws : List Keyword} {te ta : TE} {t tk : TA} {nm : Option Str}
theorem pk_nil : PK X [] tNil := fun _ _ _ _ H Q I h => wpAny_evalAll_nil ⟨[], H, I, .nil, h⟩
theorem pk_cons (ha : PE X e te) (hr : PK X kws t) : PK X (⟨nm, e, kpos⟩ :: kws) (tCons te t) := by
  intro pos pins s σ H Q I h
  show wpAny _ _ (evalAll ((do let v ← eval e X.env; standAt pos; pure v) :: (backToKw pos (keywordEach kws X.env)).map (·.2))) _ _ s
  refine wpAny_evalAll_cons (wpAny_bind (thn (ha pins s σ H _ I h) fun u s1 ⟨x, H1, I1, r1, q1⟩ => wpAny_bind (wpAny_standAt (wpAny_pure ?_))))
  exact thn (hr pos pins s1 σ H1 _ I1 q1) fun us s2 ⟨xs, H2, I2, r2, q2⟩ => ⟨x :: xs, H2, I2, .cons r1 r2, q2⟩

/-- how a call with keywords binds: g puts the positional values us and the keywords' values ws (names ks) in the parameters' order, defaults among them -/
structure KBinds (K : PySem.W.Frag) (fd : FuncData) (ps ks : List Str) (g : List Value → List Value → List Value) (gV : List V → List V → List V) : Prop where
  to : ∀ (s : Shared) (us ws : List Value), K.In s.heap → (g us ws).length = ps.length → BindsTo s fd ⟨us, ks.zip ws⟩ (ps.zip (g us ws))
  rel : ∀ {vs : List V} {us : List Value} {zs : List V} {ws : List Value}, Vals vs us → Vals zs ws → Vals (gV vs zs) (g us ws)
def tCallK (sp : Sp) (gV : List V → List V → List V) (E : XK) (t tk : TA) : TE := fun σ H Q => t σ H fun vs H1 => tk σ H1 fun zs H2 => sp (gV vs zs) H2 Q E
variable {g : List Value → List Value → List Value} {gV : List V → List V → List V}
theorem run_fnk {pins : List (Addr × Obj)} {σ : St} {H : Hp} {s : Shared} {Q : VK} {us ws : List Value} {vs zs : List V} (F : FnOk X.prog X.w X.K X.mg X.base CX k f fd ps sp) (hr : Room k X.A) (hb : KBinds X.K fd ps ks g gV) (hx : Passes CX X E)
    (I : Inv X pins σ H s) (r : Vals vs us) (rz : Vals zs ws) (h : sp (gV vs zs) H Q E) : wpAny (model X.prog X.w) X.A (call (.ref f) us (ks.zip ws)) (EP X pins σ Q) X.xe s := by
  have r2 := hb.rel r rz
  have hl : (g us ws).length = ps.length := by rw [← r2.length]; exact F.len _ _ _ _ h
  refine wpAny_call (codeAny_mono (F.run X.A X.stack s H ⟨us, ks.zip ws⟩ (g us ws) (gV vs zs) Q E hr I.env0 (hb.to s us ws I.kIn hl) r2 h) fun r s' hq => ?_)
  cases r with
  | error e => exact hx pins σ H s e s' I hq
  | ok fl =>
    cases fl with
    | ret u => exact I.after hq
    | next => exact False.elim hq
    | brk => exact False.elim hq
    | cont => exact False.elim hq
/-- f(e, .., k = v, ..) -/
theorem pe_callK (F : FnOk X.prog X.w X.K X.mg X.base CX k f fd ps sp) (hr : Room k X.A) (hg : Gl X x) (hm : X.mg x = some (.ref f)) (hk : PySem.W.keepIn X.K (.ref f) = true) (hb : KBinds X.K fd ps ks g gV) (hx : Passes CX X E)
    (ha : PA X (e :: es) t) (hkw : PK X kws tk) (hall : (backToKw pos (keywordEach kws X.env)).all (·.1.isSome) = true := by rfl) (hks : (backToKw pos (keywordEach kws X.env)).filterMap (·.1) = ks := by rfl)
    (hdb : (x == ("__debug__" : Str)) = false := by decide) (he : starEach (e :: es) X.env = (false, eval e X.env) :: starEach es X.env := by rfl)
    (hpl : ((backTo pos (starEach (e :: es) X.env)).any (·.1) || (backToKw pos (keywordEach kws X.env)).any (·.1.isNone)) = false := by rfl) :
    PE X (.Call (.Name x p) (e :: es) kws pos) (tCallK sp gV E t tk) := by
  intro pins s σ H Q I h
  refine wpAny_Call_Name_kw (ld_glob I hg hm ?_ hdb)
  refine PySem.W.callWith_KW (h₀ := X.base) I.ok.mod.kin hk hall (thn (ha pos pins s σ H _ I h) fun us s1 ⟨vs, H1, I1, r, q⟩ => ?_) hpl he
  refine thn (hkw pos pins s1 σ H1 _ I1 q) fun ws s2 ⟨zs, H2, I2, rz, q2⟩ => ⟨I2.kIn, ?_⟩
  rw [hks]
  exact run_fnk F hr hb hx I2 r rz q2
end

/-! ### a def's body keeps its promise -/
/-- names: the parameters first -/
structure FnScope (N P : List Str) (sc : Scope) : Prop where
  kind : sc.kind = .function
  co : sc.isCoroutine = false
  gen : sc.isGenerator = false
  nd : N.Nodup
  pre : N.take P.length = P
  par : ∀ x ∈ P, sc.names.lookup x = some .local ∨ sc.names.lookup x = some .cell
  nofree : ∀ y ∈ sc.names, y.2 ≠ .free

theorem bindL_out {kindOf : Str → Option NameKind} {x : Str} : ∀ {binds : List (Str × Value)} {m : Str → Option Value}, (∀ v, (x, v) ∉ binds) → bindL kindOf binds m x = m x
  | [], _, _ => rfl
  | (n, v) :: r, m, h => by
    unfold bindL
    rw [bindL_out fun w hw => h w (List.mem_cons_of_mem _ hw)]
    split
    · have : x ≠ n := by rintro rfl; exact h v List.mem_cons_self
      simp [this]
    · rfl
theorem bindC_out {kindOf : Str → Option NameKind} {x : Str} : ∀ {binds : List (Str × Value)} {m : Str → Option Value}, (∀ v, (x, v) ∉ binds) → bindC kindOf binds m x = m x
  | [], _, _ => rfl
  | (n, v) :: r, m, h => by
    unfold bindC
    rw [bindC_out fun w hw => h w (List.mem_cons_of_mem _ hw)]
    split
    · rfl
    · have : x ≠ n := by rintro rfl; exact h v List.mem_cons_self
      simp [this]
theorem bindL_get {kindOf : Str → Option NameKind} {x : Str} {v : Value} : ∀ {P : List Str} {vs : List Value} {i : Nat} {m : Str → Option Value}, P.Nodup → P[i]? = some x → vs[i]? = some v → kindOf x = some .local →
    bindL kindOf (P.zip vs) m x = some v
  | [], _, _, _, _, h, _, _ => by simp at h
  | _ :: _, [], _, _, _, _, h, _ => by simp at h
  | p :: P, w :: vs, 0, m, nd, h1, h2, hk => by
    simp at h1 h2; subst h1; subst h2
    show bindL kindOf ((p, w) :: P.zip vs) m p = _
    unfold bindL
    rw [bindL_out fun v hv => (List.nodup_cons.mp nd).1 (List.of_mem_zip hv).1, if_pos hk]
    simp
  | p :: P, w :: vs, i + 1, m, nd, h1, h2, hk => by
    show bindL kindOf ((p, w) :: P.zip vs) m x = _
    unfold bindL
    exact bindL_get (i := i) (List.nodup_cons.mp nd).2 (by simpa using h1) (by simpa using h2) hk
theorem bindC_get {kindOf : Str → Option NameKind} {x : Str} {v : Value} : ∀ {P : List Str} {vs : List Value} {i : Nat} {m : Str → Option Value}, P.Nodup → P[i]? = some x → vs[i]? = some v → kindOf x ≠ some .local →
    bindC kindOf (P.zip vs) m x = some v
  | [], _, _, _, _, h, _, _ => by simp at h
  | _ :: _, [], _, _, _, _, h, _ => by simp at h
  | p :: P, w :: vs, 0, m, nd, h1, h2, hk => by
    simp at h1 h2; subst h1; subst h2
    show bindC kindOf ((p, w) :: P.zip vs) m p = _
    unfold bindC
    rw [bindC_out fun v hv => (List.nodup_cons.mp nd).1 (List.of_mem_zip hv).1, if_neg hk]
    simp
  | p :: P, w :: vs, i + 1, m, nd, h1, h2, hk => by
    show bindC kindOf ((p, w) :: P.zip vs) m x = _
    unfold bindC
    exact bindC_get (i := i) (List.nodup_cons.mp nd).2 (by simpa using h1) (by simpa using h2) hk

/-- the names' values at the entry -/
def start (N : List Str) (vs : List V) : St := vs.map some ++ List.replicate (N.length - vs.length) none

/-- the context of a def's body, at its entry; an exception leaves the frame, then lies as CX says -/
def cxOf (CX : CXT) (P : Program) (w : World) (K : PySem.W.Frag) (mg : Str → Option Value) (base : Heap) (N : List Str) (qual : Str) (scope : Scope) (f : Addr) (cd : Value) (A : Around) (outer : List Env) (s : Shared) (H : Hp) (E : XK) : Cx where
  prog := P
  w := w
  K := K
  mg := mg
  base := base
  A := A.deeper (envOfC qual scope s.heap.objs.size f cd)
  N := N
  s₀ := s
  H₀ := H
  env := envOfC qual scope s.heap.objs.size f cd
  outer := outer
  stack := envOfC qual scope s.heap.objs.size f cd :: outer
  ex := []
  calm := true
  fn := fun _ => true
  pn := []
  xe := fun e s' => wpAny (model P w) (A.deeper (envOfC qual scope s.heap.objs.size f cd)) (leaving (envOfC qual scope s.heap.objs.size f cd) e) (fun _ s'' => CX outer H s E e s'') (fun e' s'' => CX outer H s E e' s'') s'

theorem cell_has {sc : Scope} {n : Nat} {x : Str} (h : sc.names.lookup x = some .cell) : ∃ c, (cellsFrom n sc.names []).lookup x = some c := by
  have q := PySem.W.cellsFrom_some sc.names n [] (.inl h)
  exact Option.isSome_iff_exists.mp q

theorem inv_start {CX : CXT} {P : Program} {w : World} {K : PySem.W.Frag} {mg : Str → Option Value} {base : Heap} {N ps : List Str} {qual : Str} {scope : Scope} {f : Addr} {cd : Value} {A : Around} {outer : List Env} {s s1 : Shared} {H : Hp} {E : XK} {us : List Value} {vs : List V}
    (S : FnScope N ps scope) (hd : A.handled = none) (e0 : Env0 P w K mg base A outer s H) (hl : vs.length = ps.length) (r : Vals vs us)
    (x : InCallC s s.heap.objs.size (bindL (envOfC qual scope s.heap.objs.size f cd).kindOf (ps.zip us) fun _ => none) (cellsFrom (s.heap.objs.size + 1) scope.names []) (bindC (envOfC qual scope s.heap.objs.size f cd).kindOf (ps.zip us) fun _ => none) s1) :
    Inv (cxOf CX P w K mg base N qual scope f cd A outer s H E) [] (start N vs) H s1 := by
  have hpl : ps.length ≤ N.length := by have := congrArg List.length S.pre; rw [List.length_take] at this; omega
  obtain ⟨h1, tk, rfl, hk⟩ := x.done
  have noA : ∀ b : Addr, b ∉ (cxOf CX P w K mg base N qual scope f cd A outer s H E).ex := fun b z => absurd (show b ∈ ([] : List Addr) from z) (by simp)
  refine ⟨⟨e0.mod, S.kind, rfl, rfl, Nat.le_refl _, fun y z c h1 h2 => ?_, fun y hy => ?_, fun y c _ h => ?_, fun _ => hd, Around.frames_deeper e0.frames, .inr ⟨rfl, rfl⟩, fun b z => absurd z (noA b), e0.bs, e0.bsz, fun b _ _ => noA b, fun b z => absurd z (noA b), e0.funs, e0.frf⟩,
    rfl, e0.bare, Un.kept hk, ⟨_, x.toInCall.ns, fun i y v h1 h2 h3 => ?_⟩, fun y c h => ⟨_, x.cell y c h⟩, e0.hok.fresh (Nat.le_refl _), fun y c h => ?_, fun p hp => absurd (show p ∈ ([] : List (Addr × Obj)) from hp) (by simp), e0.hok.kept hk, ?_⟩
  · exact name_of_addr x.apart (PySem.mem_of_lookup h1) (PySem.mem_of_lookup h2)
  · have hy : scope.names.lookup y = some .cell ∨ scope.names.lookup y = some .free := hy
    rcases hy with hy | hy
    · exact cell_has hy
    · exact absurd rfl (S.nofree _ (PySem.mem_of_lookup hy))
  · exact Nat.le_of_lt (x.above y c (PySem.mem_of_lookup h))
  · have hi : i < vs.length := by
      unfold start at h2
      by_cases hi : i < vs.length
      · exact hi
      · rw [List.getElem?_append_right (by simpa using hi)] at h2
        rw [List.getElem?_replicate] at h2
        split at h2 <;> cases h2
    have ha : vs[i]? = some v := by
      unfold start at h2
      rw [List.getElem?_append_left (by simpa using hi), List.getElem?_map] at h2
      cases e : vs[i]? with
      | none => rw [e] at h2; cases h2
      | some a => rw [e] at h2; cases h2; rfl
    obtain ⟨u, hu, rv⟩ := r.get ha
    have hp : ps[i]? = some y := by
      rw [← S.pre, List.getElem?_take_of_lt (by omega)]; exact h1
    have ndP : ps.Nodup := by rw [← S.pre]; exact S.nd.sublist (List.take_sublist _ _)
    refine ⟨u, rv, ?_⟩
    rcases S.par y (List.mem_of_getElem? hp) with k | k
    · exact .inl ⟨k, bindL_get ndP hp hu k⟩
    · obtain ⟨c, e⟩ := cell_has (n := s.heap.objs.size + 1) k
      refine .inr ⟨.inl k, c, e, ?_⟩
      have q := x.cell y c e
      rw [bindC_get ndP hp hu (by show scope.names.lookup y ≠ _; rw [k]; decide)] at q
      exact q
  · exact e0.hok.fresh (Nat.le_of_lt (x.above y c (PySem.mem_of_lookup h)))
  · unfold start
    show _ = N.length
    rw [List.length_append, List.length_map, List.length_replicate]
    omega

/-- THE RULE: a def (or a method) of the text, by its body. The body's reading t is chosen for each entry; it is run at the parameters' values -/
theorem fn_of {CX : CXT} {P : Program} {w : World} {K : PySem.W.Frag} {mg : Str → Option Value} {base : Heap} {k : Nat} {f : Addr} {name qual : Str} {params : Arguments} {body : List Stmt} {scope : Scope} {dV kV doc pm cdv ct oc : Value} {an od : Option Addr}
    {osl : Array (Option Value)} {N ps : List Str} {sp : Sp} (lk : K.lookup f = some ⟨oc, od, .func (PySem.W.fnOf name qual params body scope dV kV doc pm an cdv ct), osl⟩) (hcd : PySem.W.codeIn K cdv qual = true) (S : FnScope N ps scope)
    (len : ∀ vs H Q E, sp vs H Q E → vs.length = ps.length)
    (hbody : ∀ (A : Around) (outer : List Env) (s : Shared) (H : Hp) (vs : List V) (Q : VK) (E : XK), Room k (A.deeper (envOfC qual scope s.heap.objs.size f cdv)) → sp vs H Q E →
      ∃ t, PSs (cxOf CX P w K mg base N qual scope f cdv A outer s H E) body t ∧ t { nx := fun _ H' => Q .non H', rt := Q } (start N vs) H) :
    FnOk P w K mg base CX (k + 1) f (PySem.W.fnOf name qual params body scope dV kV doc pm an cdv ct) ps sp := by
  refine ⟨len, fun A outer s H args us vs Q E hr e0 hb r hsp => ?_⟩
  have hl := len _ _ _ _ hsp
  have KX : K.In s.heap := e0.mod.kin.keeps fun b o e => (e0.bs b o e).1
  have lim : s.heap.NoLimit := e0.mod.nolimit.keeps fun b o e => (e0.bs b o e).1
  have hkind : ∀ y ∈ ps.zip us, scope.names.lookup y.1 = some .local ∨ (scope.names.lookup y.1 = some .cell ∧ ((cellsFrom (s.heap.objs.size + 1) scope.names []).lookup y.1).isSome = true) := fun ⟨n, v⟩ hy => by
    rcases S.par n (List.of_mem_zip hy).1 with q | q
    · exact .inl q
    · exact .inr ⟨q, PySem.W.cellsFrom_some _ _ _ (.inl q)⟩
  refine codeAny_call_function hr.depth (KX _ _ lk) rfl S.co S.gen rfl (PySem.W.codeRec_of KX hcd) (hb _ _ _ _ ?_)
  refine wpAny_newFunctionEnv_cells S.kind hkind fun env he s1 x => ?_
  subst he
  refine ⟨lim.keeps x.toInCall.keep, codeAny_func ?_⟩
  obtain ⟨t, ht, hq⟩ := hbody A outer s H vs Q E (hr.deeper _) hsp
  have I : Inv (cxOf CX P w K mg base N qual scope f cdv A outer s H E) [] (start N vs) H s1 := inv_start S hr.hd e0 hl r x
  refine wpAny_mono (ht [] s1 (start N vs) H _ I hq) (fun fl s' hs => ?_) fun e s' hs => hs
  have fin : ∀ {σ' : St} {H' : Hp} {v : V} {u : Value}, Inv (cxOf CX P w K mg base N qual scope f cdv A outer s H E) [] σ' H' s' → RelV v u → Q v H' → CE outer P w H s Q u s' :=
    fun {σ' H' v u} J rv q => ⟨v, H', J.os, J.bare, J.base, J.hok, rv, q⟩
  cases fl with
  | ret u =>
    obtain ⟨v, σ', H', J, rv, q⟩ := hs
    exact fin J rv q
  | next =>
    obtain ⟨σ', H', J, q⟩ := hs
    exact fin (v := V.non) (u := Value.none) J rfl q
  | brk =>
    obtain ⟨_, _, _, q⟩ := hs
    exact False.elim q
  | cont =>
    obtain ⟨_, _, _, q⟩ := hs
    exact False.elim q
end L2

namespace L2
open PySem PySem.Spec PyProof.Rows
section
variable {X : Cx} {x : Str} {p pos : Pos} {e : Expr} {es : List Expr} {t : TA} {id T : String} {r : List V → Hp → VK → Prop}

def tCB (r : List V → Hp → VK → Prop) (t : TA) : TE := fun σ H Q => t σ H fun vs H1 => r vs H1 Q
/-- f(e, ..), f a built-in function -/
theorem pe_callB (hc : CallR X (.builtin id) r) (hg : Gl X x) (hm : X.mg x = none) (hv : bootBuiltins x = some (.builtin id)) (ha : PA X (e :: es) t) (hn : x ≠ "__name__" := by decide) (hdb : (x == ("__debug__" : Str)) = false := by decide)
    (he : starEach (e :: es) X.env = (false, eval e X.env) :: starEach es X.env := by rfl) (hpl : (backTo pos (starEach es X.env)).any (·.1) = false := by rfl) : PE X (.Call (.Name x p) (e :: es) [] pos) (tCB r t) := by
  intro pins s σ H Q I h
  refine wpAny_Call_Name_kw (ld_blt I hg hm hv ?_ hn hdb)
  exact PyProof.Rows.callWith_builtin1 (thn (ha pos pins s σ H _ I h) fun us s1 ⟨vs, H1, I1, r1, q1⟩ => hc pins s1 σ H1 vs us Q I1 r1 q1) he hpl
/-- T(e, ..), T a built-in type -/
theorem pe_callTy (hc : CallR X (.type T) r) (hg : Gl X x) (hm : X.mg x = none) (hv : bootBuiltins x = some (.type T)) (ha : PA X (e :: es) t) (hn : x ≠ "__name__" := by decide) (hdb : (x == ("__debug__" : Str)) = false := by decide)
    (he : starEach (e :: es) X.env = (false, eval e X.env) :: starEach es X.env := by rfl) (hpl : (backTo pos (starEach es X.env)).any (·.1) = false := by rfl) : PE X (.Call (.Name x p) (e :: es) [] pos) (tCB r t) := by
  intro pins s σ H Q I h
  refine wpAny_Call_Name_kw (ld_blt I hg hm hv ?_ hn hdb)
  exact PyProof.Rows.callWith_type1 (thn (ha pos pins s σ H _ I h) fun us s1 ⟨vs, H1, I1, r1, q1⟩ => hc pins s1 σ H1 vs us Q I1 r1 q1) he hpl
/-- T() -/
theorem pe_callTy0 (hc : CallR X (.type T) r) (hg : Gl X x) (hm : X.mg x = none) (hv : bootBuiltins x = some (.type T)) (hn : x ≠ "__name__" := by decide) (hdb : (x == ("__debug__" : Str)) = false := by decide) :
    PE X (.Call (.Name x p) [] [] pos) (tCB r tNil) := by
  intro pins s σ H Q I h
  refine wpAny_Call_Name_kw (ld_blt I hg hm hv ?_ hn hdb)
  exact PyProof.Rows.callWith_type0 (hc pins s σ H [] [] Q I .nil h)
end
end L2

set_option Elab.async false
set_option linter.all false
set_option maxRecDepth 100000
namespace HT
open PySem PyProof.Rows

/-- t < u of tuples of ints -/
def lexLt : List Int → List Int → Bool
  | [], [] => false
  | [], _ :: _ => true
  | _ :: _, [] => false
  | x :: xs, y :: ys => if x = y then lexLt xs ys else decide (x < y)
theorem lexLt_cons (x y : Int) (xs ys : List Int) : lexLt (x :: xs) (y :: ys) = if x = y then lexLt xs ys else decide (x < y) := rfl
theorem lexLt_nil_nil : lexLt [] [] = false := rfl
theorem lexLt_nil_cons (y : Int) (ys : List Int) : lexLt [] (y :: ys) = true := rfl
theorem lexLt_cons_nil (x : Int) (xs : List Int) : lexLt (x :: xs) [] = false := rfl

theorem eqAt_int (A : Around) (s : Shared) (a : Int) (t : Tok) (c : Int) (u : Tok) : ∃ e, SeqAt.EqAt A s (.int a t) (.int c u) e ∧ (e = true ↔ a = c) :=
  ⟨(a == c), SeqAt.EqAt.int_int a t c u, by simp⟩
theorem rcLt_int (A : Around) (s : Shared) (a : Int) (t : Tok) (c : Int) (u : Tok) (prog : Program) (w : World) (E : Value → Shared → Prop) (Q : Value → Shared → Prop) (h : Q (.bool (decide (a < c))) s) :
    wpAny (model prog w) A (richCompare .Lt (.int a t) (.int c u)) Q E s :=
  (PyProof.Rows.lt_int h : wpAny (model prog w) A (compareOp .Lt (.int a t) (.int c u)) Q E s)

section
open PySem.SeqAt
open PySem.AutoSeq1 (wpAny_loadPart')
open PySem.MeetsSeq PySem.MeetsSeq2 PySem.MeetsSeq3

theorem tuple_lt_ints (l b : Addr) (items items2 : Array Value) (n n2 : Nat) (dd dd2 : Option Addr) (sl sl2 : Array (Option Value)) (ns ms : List Int) (hi : IntsAre items.toList ns) (hj : IntsAre items2.toList ms) :
    Meets (Builtin.«tuple.__lt__» ⟨[.ref l, .ref b], []⟩)
      (fun _ R s => s.heap.get? l = some { cls := .type "tuple", dict := dd, data := .seq items n, slots := sl } ∧ s.heap.get? b = some { cls := .type "tuple", dict := dd2, data := .seq items2 n2, slots := sl2 } ∧
        R (.ok (.ret (.bool (lexLt ns ms)))) s) :=
  .of_wp fun prog w A R s h => by
    obtain ⟨hp, g, d, tk, os⟩ := s; obtain ⟨hl, hb, h⟩ := h
    have f2 := AutoSeq1.sub_tuple_tuple
    have z1 : items.size = ns.length := by rw [← hi.length]; simp
    have z2 : items2.size = ms.length := by rw [← hj.length]; simp
    wp_walk using wpAny_loadPart' hl, wpAny_loadPart' hb, wpAny_forIn_list _ (fun rest b s' => b.1 = none ∧ s' = ⟨hp, g, d, tk, os⟩ ∧ ∃ (vs ws : List Value) (ns' ms' : List Int), rest = vs.zip ws ∧
      IntsAre vs ns' ∧ IntsAre ws ms' ∧ ns'.length + items2.size = ms'.length + items.size ∧ R (.ok (.ret (.bool (lexLt ns' ms')))) ⟨hp, g, d, tk, os⟩) _
    case turn =>
      rintro ⟨y, x⟩ rest b s' ⟨hb', rfl, vs, ws, ns', ms', hz, hvi, hwi, hlen, hR⟩
      cases hvi with
      | nil => rw [List.zip_nil_left] at hz; cases hz
      | cons a t hvi' =>
        cases hwi with
        | nil => rw [List.zip_nil_right] at hz; cases hz
        | cons c u hwi' =>
          rw [List.zip_cons_cons] at hz
          injection hz with hyx hrest
          injection hyx with hy hx
          subst hy hx
          rw [lexLt_cons] at hR
          simp only [List.length_cons] at hlen
          obtain ⟨e, he, hiff⟩ := eqAt_int A.in1 ⟨hp, g, d, tk, os⟩ a t c u
          refine wpAny_bind (he prog w _ _ ?_)
          cases e with
          | true =>
            rw [if_pos (hiff.mp rfl)] at hR
            wp_walk
            exact ⟨rfl, rfl, _, _, _, _, hrest, hvi', hwi', by omega, hR⟩
          | false =>
            rw [if_neg (fun q => absurd (hiff.mpr q) Bool.false_ne_true)] at hR
            have hri := rcLt_int A.in1 ⟨hp, g, d, tk, os⟩ a t c u prog w
            wp_walk using hri
            exact ⟨_, rfl, by simpa using hR⟩
    case fin =>
      rintro ⟨b1, b2⟩ s' ⟨hb', rfl, vs, ws, ns', ms', hz, hvi, hwi, hlen, hR⟩
      simp only at hb'
      subst hb'
      have hv : lexLt ns' ms' = decide (items.size < items2.size) := by
        cases hvi with
        | nil =>
          cases hwi with
          | nil =>
            simp only [List.length_nil] at hlen
            rw [lexLt_nil_nil]
            exact (decide_eq_false (by omega)).symm
          | cons c u hw =>
            simp only [List.length_nil, List.length_cons] at hlen
            rw [lexLt_nil_cons]
            exact (decide_eq_true (by omega)).symm
        | cons a t hv =>
          cases hwi with
          | nil =>
            simp only [List.length_nil, List.length_cons] at hlen
            rw [lexLt_cons_nil]
            exact (decide_eq_false (by omega)).symm
          | cons c u hw =>
            rw [List.zip_cons_cons] at hz
            cases hz
      rw [hv] at hR
      wp_walk
      exact ⟨_, rfl, by simpa [Builtin.Tuple.tupleCompareSizes] using hR⟩
    case h =>
      exact ⟨rfl, rfl, items.toList, items2.toList, ns, ms, rfl, hi, hj, by omega, h⟩
end

section
variable {prog : Program} {w : World} {A : Around} {E : Value → Shared → Prop} {s : Shared}

theorem lt_tupInts {l b : Addr} {items items2 : Array Value} {ns ms : List Int} {Q : Value → Shared → Prop} (hl : IsTup s.heap l items) (hb : IsTup s.heap b items2) (hi : IntsAre items.toList ns) (hj : IntsAre items2.toList ms)
    (hu : A.units < cLine) (h : Q (.bool (lexLt ns ms)) s) : wpAny (model prog w) A (compareOp .Lt (.ref l) (.ref b)) Q E s := by
  obtain ⟨⟨cls, dd, data, sl⟩, ho, hc, n, hd⟩ := id hl
  obtain ⟨⟨cls2, dd2, data2, sl2⟩, ho2, hc2, n2, hd2⟩ := id hb
  simp only at hc hd hc2 hd2
  subst hc hd hc2 hd2
  exact richCompare_meets_room (op := .Lt) ⟨_, ho, rfl⟩ ⟨_, ho2, rfl⟩ PySem.F.slot_tuple_lt PySem.F.entry_tuple_lt (PySem.F.args_tuple_lt_2 _ _) (tuple_lt_ints l b items items2 n n2 dd dd2 sl sl2 ns ms hi hj)
    ⟨ho, ho2, show Value.bool (lexLt ns ms) ≠ Value.notImplemented ∧ Q (.bool (lexLt ns ms)) s from ⟨(fun x => nomatch x), h⟩⟩ hu

/-- t + u, t not empty -/
theorem cat_tup {t b : Addr} {vs ws : List Value} {Q : Value → Shared → Prop} (ht : IsTup s.heap t vs.toArray) (hb : IsTup s.heap b ws.toArray) (hv : vs ≠ [])
    (h1 : ws = [] → Q (.ref t) s) (h2 : ws ≠ [] → Q (.ref s.heap.objs.size) { s with heap := s.heap.push { cls := .type "tuple", data := .seq (vs ++ ws).toArray } })
    (hsz : vs.length + ws.length ≤ sizeLine) : wpAny (model prog w) A (binaryOp .Add (.ref t) (.ref b)) Q E s := by
  obtain ⟨⟨cls, dd, data, sl⟩, ho, hc, n, hd⟩ := id ht
  obtain ⟨⟨cls2, dd2, data2, sl2⟩, ho2, hc2, n2, hd2⟩ := id hb
  simp only at hc hd hc2 hd2
  subst hc hd hc2 hd2
  have e : vs.toArray ++ ws.toArray = (vs ++ ws).toArray := by simp
  by_cases hw : ws = []
  · exact concat_meets ⟨_, ho, rfl⟩ ⟨_, ho2, rfl⟩ noFill_tuple_add seq_tuple_add PySem.F.slot_tuple_add PySem.F.entry_tuple_add (PySem.F.args_tuple_add_2 _ _)
      (tuple_addW1 t b vs.toArray ws.toArray n n2 dd dd2 sl sl2 (by simpa using hv) (by simp [hw])) ⟨ho, ho2, h1 hw⟩
  · refine concat_meets ⟨_, ho, rfl⟩ ⟨_, ho2, rfl⟩ noFill_tuple_add seq_tuple_add PySem.F.slot_tuple_add PySem.F.entry_tuple_add (PySem.F.args_tuple_add_2 _ _)
      (tuple_addW2 t b vs.toArray ws.toArray n n2 dd dd2 sl sl2 (by simpa using hv) (by simpa using hw) (by rw [List.size_toArray, List.size_toArray]; exact hsz)) ⟨ho, ho2, ?_⟩
    rw [e]
    exact h2 hw

/-! ### t[a:b], not the whole -/
/-- a slice's bound as a place among n (d where it is left out) -/
def sIx (n d : Nat) : Option Int → Nat
  | none => d
  | some v => if v < 0 then (v + (n : Int)).toNat else min v.toNat n
theorem sIx_none (n d : Nat) : sIx n d none = d := rfl
theorem sIx_nat (n d k : Nat) : sIx n d (some (k : Int)) = min k n := by
  show (if (k : Int) < 0 then ((k : Int) + (n : Int)).toNat else min (k : Int).toNat n) = min k n
  rw [if_neg (by omega), Int.toNat_natCast]
theorem sIx_le (n d : Nat) (hd : d ≤ n) (o : Option Int) : sIx n d o ≤ n := by
  cases o with
  | none => exact hd
  | some v =>
    show (if v < 0 then (v + (n : Int)).toNat else min v.toNat n) ≤ n
    by_cases hv : v < 0
    · rw [if_pos hv]; omega
    · rw [if_neg hv]; exact Nat.min_le_right _ _
theorem clip_eq (v : Int) (n d : Nat) : (if v < 0 then max (v + (n : Int)) 0 else min v (n : Int)) = ((sIx n d (some v) : Nat) : Int) := by
  show (if v < 0 then max (v + (n : Int)) 0 else min v (n : Int)) = (((if v < 0 then (v + (n : Int)).toNat else min v.toNat n) : Nat) : Int)
  by_cases hv : v < 0
  · simp only [if_pos hv]; omega
  · simp only [if_neg hv]; omega
theorem adjust_gen (lo hi : Option Int) (n : Nat) : Builtin.Slice.sliceAdjust lo hi 1 (n : Int) = (((sIx n 0 lo : Nat) : Int), ((sIx n n hi : Nat) : Int)) := by
  have h1 : ¬ ((1 : Int) < 0) := by omega
  unfold Builtin.Slice.sliceAdjust
  simp only [h1, if_false]
  refine Prod.ext ?_ ?_
  · cases lo with
    | none => rfl
    | some v => exact clip_eq v n 0
  · cases hi with
    | none => rfl
    | some v => exact clip_eq v n n
theorem places_gen (i j : Nat) : Builtin.Slice.slicePlaces (i : Int) (j : Int) 1 = j - i := by
  unfold Builtin.Slice.slicePlaces
  have h1 : (1 : Int) > 0 := by omega
  simp only [h1, if_true, Int.ediv_one]
  split <;> omega
theorem slicePart_ {v : Value} {o : Option Int} {Q : Option Int → Shared → Prop} (p : IsPart v o) (h : Q o s) : wpAny (model prog w) A (Builtin.Slice.slicePartIndex v) Q E s := by
  cases p with
  | none => exact slicePart_none h
  | int i t => exact slicePart_int h
theorem sliceApplied_gen {sl : Addr} {vl vu : Value} {lo hi : Option Int} {n : Nat} {Q : Int × Int × Nat → Shared → Prop} (hs : s.heap.IsSliceOf sl vl vu .none) (pl : IsPart vl lo) (pu : IsPart vu hi)
    (h : Q (((sIx n 0 lo : Nat) : Int), 1, sIx n n hi - sIx n 0 lo) s) : wpAny (model prog w) A (Builtin.Slice.sliceApplied (.ref sl) (pure (n : Int))) Q E s := by
  obtain ⟨os, hos, hcs, hds⟩ := id hs
  unfold Builtin.Slice.sliceApplied Builtin.Slice.sliceFields
  refine wpAny_bind (wpAny_bind (wpAny_field hos hds (x := vl) rfl (wpAny_bind (wpAny_field hos hds (x := vu) rfl (wpAny_bind (wpAny_field hos hds (x := .none) rfl (wpAny_pure ?_)))))))
  refine wpAny_bind (slicePart_none ?_)
  show wpAny _ _ (if ((1 : Int) == 0) = true then _ else _) _ _ s
  rw [if_neg (by decide)]
  refine wpAny_bind (slicePart_ pl (wpAny_bind (slicePart_ pu (wpAny_bind (wpAny_pure ?_)))))
  show wpAny _ _ (match Builtin.Slice.sliceAdjust lo hi 1 (n : Int) with | (lo, hi) => pure (lo, (1 : Int), Builtin.Slice.slicePlaces lo hi 1)) _ _ s
  rw [adjust_gen lo hi n]
  show wpAny _ _ (pure (((sIx n 0 lo : Nat) : Int), (1 : Int), Builtin.Slice.slicePlaces ((sIx n 0 lo : Nat) : Int) ((sIx n n hi : Nat) : Int) 1)) _ _ s
  rw [places_gen]
  exact wpAny_pure h
theorem pick_gen (xs : Array Value) (i k : Nat) : ((List.range k).filterMap fun (m : Nat) => xs[((i : Int) + (m : Int) * 1).toNat]?).toArray = ((xs.toList.drop i).take k).toArray := by
  have e : (fun (m : Nat) => xs[((i : Int) + (m : Int) * 1).toNat]?) = fun m => xs[i + m]? := by
    funext m
    have : ((i : Int) + (m : Int) * 1).toNat = i + m := by omega
    rw [this]
  rw [e]
  have := pick_run xs i k
  rw [List.filterMap_map] at this
  have e2 : ((fun x => xs[x]?) ∘ fun x => i + x) = fun m => xs[i + m]? := rfl
  rw [e2] at this
  rw [this]

theorem getItem_tuple_cut {t sl : Addr} {items : Array Value} {vl vu : Value} {lo hi : Option Int} {Q : Value → Shared → Prop} (ht : IsTup s.heap t items) (hs : s.heap.IsSliceOf sl vl vu .none) (pl : IsPart vl lo) (pu : IsPart vu hi)
    (hw : ¬ (sIx items.size 0 lo = 0 ∧ sIx items.size items.size hi = items.size))
    (h : Q (.ref s.heap.objs.size) { s with heap := s.heap.push { cls := .type "tuple", data := .seq ((items.toList.drop (sIx items.size 0 lo)).take (sIx items.size items.size hi - sIx items.size 0 lo)).toArray } })
    (hsz : items.size ≤ sizeLine) : wpAny (model prog w) A (getItem (.ref t) (.ref sl)) Q E s := by
  have htake : sizeOk (.seq ((items.toList.drop (sIx items.size 0 lo)).take (sIx items.size items.size hi - sIx items.size 0 lo)).toArray) := by
    show ((items.toList.drop (sIx items.size 0 lo)).take (sIx items.size items.size hi - sIx items.size 0 lo)).toArray.size ≤ sizeLine
    rw [List.size_toArray, List.length_take, List.length_drop, Array.length_toList]
    omega
  have hj : sIx items.size items.size hi ≤ items.size := sIx_le _ _ (Nat.le_refl _) hi
  obtain ⟨os, hos, hcs, hds⟩ := id hs
  have hTs : s.TypeIs (.ref sl) "slice" := ⟨os, hos, hcs⟩
  unfold getItem
  try with_reducible refine wpAny_holding ?_
  first | refine wpAny_bind (wpAny_pure ?_) | skip
  refine wpAny_bind (wpAny_sequenceKey ht.typeIs (by decide) ?_)
  refine wpAny_bind (wpAny_callSpecial?_slot (name := Str.ofString "__getitem__") ht.typeIs PyProof.Rows.slot_tuple_getitem
    (wpAny_call_entry PyProof.Rows.slot_tuple_getitem ht.typeIs entry_tuple_getitem ?_ (args_tuple_getitem _ _)))
  show wpAny _ _ (Builtin.Tuple.tupleItemsOf (.ref t) >>= _) _ _ s
  refine wpAny_bind (tupleItemsOf_ ht ?_)
  refine wpAny_bind (wpAny_typeOf hTs ?_)
  rw [if_pos (by decide)]
  refine wpAny_bind (sliceApplied_gen hs pl pu ?_)
  have hno : ¬ ((((sIx items.size 0 lo : Nat) : Int) == 0 && (1 : Int) == 1 && (sIx items.size items.size hi - sIx items.size 0 lo) == items.size) = true) := by
    intro q
    rw [Bool.and_eq_true, Bool.and_eq_true] at q
    have q1 : ((sIx items.size 0 lo : Nat) : Int) = 0 := eq_of_beq q.1.1
    have q2 : sIx items.size items.size hi - sIx items.size 0 lo = items.size := eq_of_beq q.2
    exact hw ⟨by omega, by omega⟩
  show wpAny _ _ (if (((sIx items.size 0 lo : Nat) : Int) == 0 && (1 : Int) == 1 && (sIx items.size items.size hi - sIx items.size 0 lo) == items.size) = true then _ else _) _ _ s
  rw [if_neg hno, pick_gen]
  first
    | exact wpAny_bind (m := Builtin.Tuple.tupleExact _) (wpAny_newObj_type (wpAny_pure ⟨_, rfl, wpAny_pure h⟩) htake)
    | exact wpAny_bind (m := Builtin.Tuple.tupleExact _) (wpAny_newObj_type (wpAny_bind (wpAny_pure (wpAny_pure ⟨_, rfl, wpAny_pure h⟩))) htake)
    | exact wpAny_bind (wpAny_bind (m := Builtin.Tuple.tupleExact _) (wpAny_newObj_type (wpAny_pure (wpAny_pure ⟨_, rfl, wpAny_pure h⟩)) htake))
    | exact wpAny_bind (wpAny_bind (m := Builtin.Tuple.tupleExact _) (wpAny_newObj_type (wpAny_pure ⟨_, rfl, wpAny_pure h⟩) htake))
end
end HT

namespace L2
open PySem PySem.Spec PyProof.Rows

/-! ### the parts of a slice -/
abbrev TO := St → Hp → (Option Int → Hp → Prop) → Prop
/-- a slice's part (left out, or an int) -/
def PO (X : Cx) (e : Option Expr) (t : TO) : Prop :=
  ∀ (pins : List (Addr × Obj)) (s : Shared) (σ : St) (H : Hp) (Q : Option Int → Hp → Prop), Inv X pins σ H s → t σ H Q →
    wpAny (model X.prog X.w) X.A (evalPart e X.env) (fun u s' => ∃ o H', Inv X pins σ H' s' ∧ IsPart u o ∧ Q o H') X.xe s
def tNoPart : TO := fun _ H Q => Q none H
def tPart (t : TE) : TO := fun σ H Q => t σ H fun x H1 => ∃ i, x = .int i ∧ Q (some i) H1

theorem intsAre_of {ns : List Int} : ∀ {us : List Value}, Vals (ns.map V.int) us → IntsAre us ns := by
  induction ns with
  | nil => intro us r; rw [List.map_nil] at r; cases r; exact .nil
  | cons n ns ih =>
    intro us r
    rw [List.map_cons] at r
    cases r with
    | cons r1 r2 =>
      obtain ⟨t, e⟩ := r1
      subst e
      exact .cons n t (ih r2)

section
variable {X : Cx} {e : Expr} {te : TE} {lo hi : Option Expr} {tl th : TO} {pos p2 : Pos}

theorem po_none : PO X none tNoPart := by
  intro pins s σ H Q I h
  rw [evalPart_none]
  exact wpAny_pure ⟨none, H, I, .none, h⟩
theorem po_some (h : PE X e te) : PO X (some e) (tPart te) := by
  intro pins s σ H Q I hw
  rw [evalPart_some]
  refine thn (h pins s σ H _ I hw) fun u s1 ⟨x, H1, I1, r1, q1⟩ => ?_
  obtain ⟨i, rfl, q⟩ := q1
  obtain ⟨t, rfl⟩ := r1
  exact ⟨some i, H1, I1, .int i t, q⟩

/-- what a slice of a value is, by values: the slice object stands at sl -/
def SlR (X : Cx) (r : V → Option Int → Option Int → Hp → VK → Prop) : Prop :=
  ∀ (pins : List (Addr × Obj)) (s : Shared) (σ : St) (H : Hp) (x : V) (v vl vu : Value) (lo hi : Option Int) (sl : Addr) (Q : VK), Inv X pins σ H s → RelV x v → s.heap.IsSliceOf sl vl vu .none → IsPart vl lo → IsPart vu hi → r x lo hi H Q →
    ∃ T id, typeLookup (.type T) "__getitem__" = pure (some (.builtin id)) ∧ s.TypeIs v T ∧ wpAny (model X.prog X.w) X.A (getItem v (.ref sl)) (EP X pins σ Q) X.xe s
theorem SlR.or {r r' : V → Option Int → Option Int → Hp → VK → Prop} (h : SlR X r) (h' : SlR X r') : SlR X (fun x lo hi H Q => r x lo hi H Q ∨ r' x lo hi H Q) := by
  intro pins s σ H x v vl vu lo hi sl Q I rx hs pl pu q
  rcases q with q | q
  · exact h pins s σ H x v vl vu lo hi sl Q I rx hs pl pu q
  · exact h' pins s σ H x v vl vu lo hi sl Q I rx hs pl pu q
def tSl (r : V → Option Int → Option Int → Hp → VK → Prop) (te : TE) (tl th : TO) : TE := fun σ H Q => te σ H fun x H1 => tl σ H1 fun l H2 => th σ H2 fun u H3 => r x l u H3 Q
/-- a[lo:hi], any a -/
theorem pe_slice {r : V → Option Int → Option Int → Hp → VK → Prop} (hr : SlR X r) (he : PE X e te) (hl : PO X lo tl) (hu : PO X hi th) : PE X (.Subscript e (.Slice lo hi none p2) pos) (tSl r te tl th) := by
  intro pins s σ H Q I h
  refine Subscript_ (thn (he pins s σ H _ I h) fun v s1 ⟨x, H1, I1, r1, q1⟩ => ?_)
  refine wpAny_Slice (thn (hl pins s1 σ H1 _ I1 q1) fun vl s2 ⟨l, H2, I2, pl, q2⟩ => thn (hu pins s2 σ H2 _ I2 q2) fun vu s3 ⟨u, H3, I3, pu, q3⟩ => ?_)
  rw [evalPart_none]
  refine wpAny_pure ?_
  have I4 : Inv X pins σ H3 { s3 with heap := s3.heap.push { cls := .type "slice", data := .fields #[vl, vu, .none] } } := I3.kept (t' := s3.toks) fun b ob q => Heap.get?_push_of_some _ q
  obtain ⟨T, id, hT, ht, hg⟩ := hr pins { s3 with heap := s3.heap.push { cls := .type "slice", data := .fields #[vl, vu, .none] } } σ H3 x v vl vu l u s3.heap.objs.size Q I4 r1 (Heap.IsSliceOf.new ..) pl pu q3
  show wpAny (model X.prog X.w) X.A (subscriptTail e (.Slice lo hi none p2) v (.ref s3.heap.objs.size)) (EP X pins σ Q) X.xe { s3 with heap := s3.heap.push { cls := .type "slice", data := .fields #[vl, vu, .none] } }
  exact tail_any (ops := [.ref s3.heap.objs.size, v]) ht hT hg (by with_unfolding_all rfl)

/-- the items of xs[lo:hi] -/
def cutV (xs : List V) (lo hi : Option Int) : List V := (xs.drop (HT.sIx xs.length 0 lo)).take (HT.sIx xs.length xs.length hi - HT.sIx xs.length 0 lo)
theorem cutV_length (xs : List V) (lo hi : Option Int) : (cutV xs lo hi).length ≤ xs.length := by
  unfold cutV
  rw [List.length_take, List.length_drop]
  omega
/-- t[lo:hi], not the whole of it (the whole would be t itself) -/
def rSlT (K : PySem.W.Frag) : V → Option Int → Option Int → Hp → VK → Prop := fun x lo hi H Q => ∃ a xs, x = .ref a ∧ SqT K H a xs ∧
  ¬ (HT.sIx xs.length 0 lo = 0 ∧ HT.sIx xs.length xs.length hi = xs.length) ∧ ∀ p, H p = none → Q (.ref p) (upd H p (.tup (cutV xs lo hi)))
theorem sl_tup : SlR X (rSlT X.K) := by
  intro pins s σ H x v vl vu lo hi sl Q I rx hs pl pu h
  obtain ⟨a, xs, rfl, hx, hw, q⟩ := h
  cases rx
  obtain ⟨its, r, ht, hz⟩ := I.tuple hx
  have hlen : its.toArray.size = xs.length := by rw [List.size_toArray]; exact r.length.symm
  refine ⟨"tuple", _, PyProof.Rows.slot_tuple_getitem.lookup, ht.typeIs, ?_⟩
  refine HT.getItem_tuple_cut ht hs pl pu (by rw [hlen]; exact hw) ?_ (by rw [hlen]; exact hz)
  rw [hlen]
  refine ⟨.ref s.heap.objs.size, _, I.laid (t' := s.toks) (o := .tup (cutV xs lo hi)) (fun b ob q => Heap.get?_push_of_some _ q) (Nat.le_refl _) ?_, rfl, q _ (I.hok.fresh (Nat.le_refl _))⟩
  exact ⟨Nat.le_trans (cutV_length xs lo hi) hz, _, (r.drop (HT.sIx xs.length 0 lo)).take (HT.sIx xs.length xs.length hi - HT.sIx xs.length 0 lo), IsTup.new _ _⟩

/-! ### t < u, t + u -/
def rLtT (K : PySem.W.Frag) : R2 := fun x y H Q => ∃ a b ns ms, x = .ref a ∧ y = .ref b ∧ SqT K H a (ns.map V.int) ∧ SqT K H b (ms.map V.int) ∧ Q (.bl (HT.lexLt ns ms)) H
theorem op_ltT (hu : X.A.units < cLine) : OpR X (compareOp .Lt) (rLtT X.K) := by
  intro pins s σ H x y v u Q I rx ry h
  obtain ⟨a, b, ns, ms, rfl, rfl, ha, hb, q⟩ := h
  cases rx
  cases ry
  obtain ⟨its, r1, p1, _⟩ := I.tuple ha
  obtain ⟨its2, r2, p2, _⟩ := I.tuple hb
  have i1 : IntsAre its.toArray.toList ns := intsAre_of r1
  have i2 : IntsAre its2.toArray.toList ms := intsAre_of r2
  exact HT.lt_tupInts p1 p2 i1 i2 hu ⟨.bl (HT.lexLt ns ms), H, I, rfl, q⟩
/-- t + u, t not empty: u empty gives t itself -/
def rCatT (K : PySem.W.Frag) : R2 := fun x y H Q => ∃ a b xs ys, x = .ref a ∧ y = .ref b ∧ SqT K H a xs ∧ SqT K H b ys ∧ xs ≠ [] ∧ xs.length + ys.length ≤ sizeLine ∧
  (ys = [] → Q (.ref a) H) ∧ (ys ≠ [] → ∀ p, H p = none → Q (.ref p) (upd H p (.tup (xs ++ ys))))
theorem Vals.nil_iff {xs : List V} {us : List Value} (r : Vals xs us) : us = [] ↔ xs = [] := by
  cases r with
  | nil => simp
  | cons _ _ => simp
theorem op_catT : OpR X (binaryOp .Add) (rCatT X.K) := by
  intro pins s σ H x y v u Q I rx ry h
  obtain ⟨a, b, xs, ys, rfl, rfl, ha, hb, hx, hz, q1, q2⟩ := h
  cases rx
  cases ry
  obtain ⟨its, r1, p1, _⟩ := I.tuple ha
  obtain ⟨its2, r2, p2, _⟩ := I.tuple hb
  refine HT.cat_tup p1 p2 (fun z => hx (r1.nil_iff.mp z)) (fun z => ⟨.ref a, H, I, rfl, q1 (r2.nil_iff.mp z)⟩) (fun z => ?_) (by rw [← r1.length, ← r2.length]; exact hz)
  refine ⟨.ref s.heap.objs.size, _, I.laid (t' := s.toks) (o := .tup (xs ++ ys)) (fun b ob q => Heap.get?_push_of_some _ q) (Nat.le_refl _) ?_, rfl, q2 (fun w => z (r2.nil_iff.mpr w)) _ (I.hok.fresh (Nat.le_refl _))⟩
  exact ⟨by rw [List.length_append]; exact hz, _, r1.append r2, IsTup.new _ _⟩
/-- tuple(t) -/
theorem call_tupleT : CallR X (.type "tuple") (fun xs H Q => ∃ a ys, xs = [.ref a] ∧ SqT X.K H a ys ∧ Q (.ref a) H) := by
  intro pins s σ H xs us Q I r h
  obtain ⟨a, ys, rfl, ha, q⟩ := h
  obtain ⟨u, rfl, ru⟩ := vals1 r
  cases ru
  obtain ⟨its, _, p1, _⟩ := I.tuple ha
  exact call_tuple_same (items := its.toArray) p1 ⟨.ref a, H, I, rfl, q⟩
end
end L2

namespace L2
open PySem PySem.Spec PyProof.Rows

/-! ### places -/
/-- the place that an index of any sign means -/
def ixN (n : Nat) (i : Int) : Option Nat := if 0 ≤ i then (if i < n then some i.toNat else none) else if -(n : Int) ≤ i then some (i + n).toNat else none
def atI {α : Type} (xs : List α) (i : Int) : Option α := (ixN xs.length i).bind fun j => xs[j]?
theorem ixN_seq {n : Nat} {i : Int} {j : Nat} (h : ixN n i = some j) : seqIndex? i n = some j ∧ j < n ∧ -(n : Int) ≤ i ∧ i < n := by
  unfold ixN at h
  by_cases h0 : 0 ≤ i
  · rw [if_pos h0] at h
    by_cases h1 : i < n
    · rw [if_pos h1] at h
      have e : i.toNat = j := Option.some.inj h
      exact ⟨by rw [seqIndex_of h0 h1, e], by omega, by omega, h1⟩
    · rw [if_neg h1] at h; cases h
  · rw [if_neg h0] at h
    by_cases h1 : -(n : Int) ≤ i
    · rw [if_pos h1] at h
      have e : (i + n).toNat = j := Option.some.inj h
      exact ⟨by rw [seqIndex_neg (by omega) h1, e], by omega, h1, by omega⟩
    · rw [if_neg h1] at h; cases h
theorem atI_get {α : Type} {xs : List α} {i : Int} {v : α} (h : atI xs i = some v) : ∃ j, seqIndex? i xs.length = some j ∧ xs[j]? = some v ∧ j < xs.length ∧ -(xs.length : Int) ≤ i ∧ i < xs.length := by
  unfold atI at h
  cases e : ixN xs.length i with
  | none => rw [e] at h; cases h
  | some j =>
    rw [e] at h
    obtain ⟨h1, h2, h3, h4⟩ := ixN_seq e
    exact ⟨j, h1, h, h2, h3, h4⟩
theorem atI_nat {α : Type} {xs : List α} {j : Nat} {v : α} (h : xs[j]? = some v) : atI xs (j : Int) = some v := by
  have hj : j < xs.length := (List.getElem?_eq_some_iff.mp h).1
  have e : ixN xs.length (j : Int) = some j := by
    unfold ixN
    rw [if_pos (by omega), if_pos (by omega)]; simp
  unfold atI; rw [e]; exact h
theorem atI_last {α : Type} (xs : List α) (v : α) : atI (xs ++ [v]) (-1) = some v := by
  have hl : (xs ++ [v]).length = xs.length + 1 := by simp
  have e : ixN (xs ++ [v]).length (-1) = some xs.length := by
    unfold ixN
    rw [hl, if_neg (by decide), if_pos (by omega)]
    congr 1
    omega
  unfold atI
  rw [e]
  show (xs ++ [v])[xs.length]? = some v
  simp

/-! ### what may be subscripted -/
/-- what stands as an index of a plain subscript -/
def PlainIx (b : Expr) : Prop := ∀ o i, subscripted b false o i = operate [o, i] (getItem o i)
/-- a subscript by values -/
def IxR (X : Cx) (r : R2) : Prop :=
  ∀ (value slice : Expr) (pins : List (Addr × Obj)) (s : Shared) (σ : St) (H : Hp) (x y : V) (v u : Value) (Q : VK), Inv X pins σ H s → RelV x v → RelV y u → r x y H Q →
    subscripted slice false v u = operate [v, u] (getItem v u) → wpAny (model X.prog X.w) X.A (subscriptTail value slice v u) (EP X pins σ Q) X.xe s
/-- a call of a builtin's method by values: the receiver, the arguments -/
def MtR (X : Cx) (id : String) (r : V → List V → Hp → VK → Prop) : Prop :=
  ∀ (pins : List (Addr × Obj)) (s : Shared) (σ : St) (H : Hp) (x : V) (xs : List V) (v : Value) (us : List Value) (Q : VK), Inv X pins σ H s → RelV x v → Vals xs us → r x xs H Q →
    wpAny (model X.prog X.w) X.A (call (.builtin id) (v :: us)) (EP X pins σ Q) X.xe s
section
variable {X : Cx} {a b : Expr} {ta tb : TE} {pos : Pos}
theorem IxR.or {r r' : R2} (h : IxR X r) (h' : IxR X r') : IxR X (fun x y H Q => r x y H Q ∨ r' x y H Q) := by
  intro value slice pins s σ H x y v u Q I rx ry q hs
  rcases q with q | q
  · exact h value slice pins s σ H x y v u Q I rx ry q hs
  · exact h' value slice pins s σ H x y v u Q I rx ry q hs
theorem MtR.or {id : String} {r r' : V → List V → Hp → VK → Prop} (h : MtR X id r) (h' : MtR X id r') : MtR X id (fun x xs H Q => r x xs H Q ∨ r' x xs H Q) := by
  intro pins s σ H x xs v us Q I rx rs q
  rcases q with q | q
  · exact h pins s σ H x xs v us Q I rx rs q
  · exact h' pins s σ H x xs v us Q I rx rs q
/-- a[b] -/
theorem pe_ix {r : R2} (hr : IxR X r) (ha : PE X a ta) (hb : PE X b tb) (hs : PlainIx b) : PE X (.Subscript a b pos) (tOp r ta tb) := by
  intro pins s σ H Q I h
  exact Subscript_ (binT ha hb I h fun v u s2 x y H2 I2 rx ry q => hr a b pins s2 σ H2 x y v u Q I2 rx ry q (hs _ _))

def rIxL (K : PySem.W.Frag) : R2 := fun x y H Q => ∃ p xs i v, x = .ref p ∧ y = .int i ∧ SqL K H p xs ∧ atI xs i = some v ∧ Q v H
def rIxT (K : PySem.W.Frag) : R2 := fun x y H Q => ∃ p xs i v, x = .ref p ∧ y = .int i ∧ SqT K H p xs ∧ atI xs i = some v ∧ Q v H
def rIxS : R2 := fun x y H Q => ∃ z i c, x = .str z ∧ y = .int i ∧ z.length ≤ sizeLine ∧ atI z.cps.toList i = some c ∧ Q (.str ⟨#[c]⟩) H
theorem ix_list : IxR X (rIxL X.K) := by
  intro value slice pins s σ H x y v u Q I rx ry h hs
  obtain ⟨p, xs, i, z, rfl, rfl, hq, he, q⟩ := h
  cases rx
  obtain ⟨t, rfl⟩ := ry
  obtain ⟨its, r, pl, hz⟩ := I.list hq
  obtain ⟨j, h1, h2, h3, h4, h5⟩ := atI_get he
  obtain ⟨w, ew, rw'⟩ := r.get h2
  have hl := r.length
  have hn := line63
  have fin : EP X pins σ Q w s := ⟨z, H, I, rw', q⟩
  by_cases h0 : 0 ≤ i
  · have hj : i.toNat = j := by
      rw [seqIndex_of h0 h5] at h1
      exact Option.some.inj h1
    exact item_listR pl.isList h0 (by omega) (by rw [hj]; simpa using ew) fin hs
  · have hj : (i + (its.toArray.size : Int)).toNat = j := by
      rw [seqIndex_neg (by omega) h4] at h1
      rw [List.size_toArray, ← hl]
      exact Option.some.inj h1
    exact subscriptTail_builtinR (x := w) pl.isList.typeIs slot_list_getitem.lookup
      (wpAny_getItem_list_neg (Q := fun r s' => r = w ∧ EP X pins σ Q r s') pl.isList (by omega) (by rw [List.size_toArray] <;> omega) (by omega) (by rw [hj]; simpa using ew) ⟨rfl, fin⟩) hs
theorem ix_tup : IxR X (rIxT X.K) := by
  intro value slice pins s σ H x y v u Q I rx ry h hs
  obtain ⟨p, xs, i, z, rfl, rfl, hq, he, q⟩ := h
  cases rx
  obtain ⟨t, rfl⟩ := ry
  obtain ⟨its, r, pl, hz⟩ := I.tuple hq
  obtain ⟨j, h1, h2, h3, h4, h5⟩ := atI_get he
  obtain ⟨w, ew, rw'⟩ := r.get h2
  have hl := r.length
  have hn := line63
  have fin : EP X pins σ Q w s := ⟨z, H, I, rw', q⟩
  exact subscriptTail_builtinR (x := w) pl.typeIs slot_tuple_getitem.lookup
    (getItem_tuple (j := j) (Q := fun r s' => r = w ∧ EP X pins σ Q r s') pl (by omega) (by omega) (by rw [List.size_toArray, ← hl]; exact h1) (by simpa using ew) ⟨rfl, fin⟩) hs
theorem ix_str : IxR X rIxS := by
  intro value slice pins s σ H x y v u Q I rx ry h hs
  obtain ⟨z, i, c, rfl, rfl, hz, he, q⟩ := h
  obtain ⟨t, rfl⟩ := rx
  obtain ⟨t', rfl⟩ := ry
  obtain ⟨j, h1, h2, h3, h4, h5⟩ := atI_get he
  have hl : z.cps.toList.length = z.length := by simp [Str.length]
  rw [hl] at h1 h4 h5
  have hn := line63
  exact tail_any (typeIs_str s z t) slot_str_getitem.lookup (getItem_str (c := c) (by
    have e1 : decide (i < -(2 ^ 63 : Int)) = false := decide_eq_false (by omega)
    have e2 : decide (i ≥ 2 ^ 63) = false := decide_eq_false (by omega)
    rw [e1, e2, Bool.or_false]) (by rw [h1]; simpa using h2) ⟨.str ⟨#[c]⟩, H, I.tok _, ⟨_, rfl⟩, q⟩) hs
/-- list, tuple or str -/
def rIx (K : PySem.W.Frag) : R2 := fun x y H Q => rIxL K x y H Q ∨ rIxT K x y H Q ∨ rIxS x y H Q
theorem ix_seq : IxR X (rIx X.K) := ix_list.or (ix_tup.or ix_str)

/-! ### xs[i] = v, any sign -/
/-- the list's object behind a store -/
theorem mapSeq_set (its : List Value) (n j : Nat) (u : Value) : Obj.mapSeq (·.setIfInBounds j u) { cls := .type "list", data := .seq its.toArray n } = { cls := .type "list", data := .seq (its.set j u).toArray n } := by
  simp [Obj.mapSeq]
theorem Inv.lst {pins : List (Addr × Obj)} {σ : St} {H : Hp} {s : Shared} {p : Addr} {xs : List V} (I : Inv X pins σ H s) (h : H p = some (.lst xs)) :
    ∃ (its : List Value) (n : Nat), Vals xs its ∧ s.heap.get? p = some { cls := .type "list", data := .seq its.toArray n } ∧ xs.length ≤ sizeLine := by
  obtain ⟨z, its, n, r, e⟩ := I.hok p _ h
  exact ⟨its, n, r, e, z⟩
/-- the list at p is written by an update of its object -/
theorem Inv.lstUpd {pins : List (Addr × Obj)} {σ : St} {H : Hp} {s : Shared} {p : Addr} {xs ys : List V} {its its' : List Value} {n n' : Nat} {f : Obj → Obj} (I : Inv X pins σ H s) (h : H p = some (.lst xs))
    (ho : s.heap.get? p = some { cls := .type "list", data := .seq its.toArray n }) (hf : f { cls := .type "list", data := .seq its.toArray n } = { cls := .type "list", data := .seq its'.toArray n' }) (r : Vals ys its') (hz : ys.length ≤ sizeLine) (t : Nat) :
    Inv X pins σ (upd H p (.lst ys)) { s with heap := s.heap.update p f, toks := t } := by
  have e : (s.heap.update p f).get? p = some { cls := .type "list", data := .seq its'.toArray n' } := by
    rw [Heap.get?_update_self f ho (by rw [hf] <;> rfl), hf]
  refine I.write (x := p) (e := p) (by rw [h]; trivial) (.inl rfl) (fun b u hb q => (Heap.get?_update_other _ _ (Ne.symm hb)).trans q) ⟨_, e⟩ ?_
  exact ⟨hz, its', n', r, e⟩
def rSetL : V → V → V → Hp → (Hp → Prop) → Prop := fun o i v H Q => ∃ p xs k j, o = .ref p ∧ i = .int k ∧ H p = some (.lst xs) ∧ ixN xs.length k = some j ∧ Q (upd H p (.lst (xs.set j v)))
theorem set_list : PSet X rSetL := by
  intro pins s σ H o i v ov iv u Q I ro ri rv h
  obtain ⟨p, xs, k, j, rfl, rfl, hp, hj, q⟩ := h
  cases ro
  obtain ⟨t, rfl⟩ := ri
  obtain ⟨its, n, r, ho, hz⟩ := I.lst hp
  obtain ⟨h1, h2, h3, h4⟩ := ixN_seq hj
  have hl := r.length
  have hn := line63
  have I' : Inv X pins σ (upd H p (.lst (xs.set j v))) { s with heap := s.heap.update p (Obj.mapSeq (·.setIfInBounds j u)) } :=
    I.lstUpd hp ho (mapSeq_set its n j u) (r.set rv j) (by rw [List.length_set]; exact hz) s.toks
  by_cases h0 : 0 ≤ k
  · have hk : k.toNat = j := by
      rw [seqIndex_of h0 h4] at h1
      exact Option.some.inj h1
    exact PySem.W.ki_setAt ho h0 (by omega) (by rw [List.size_toArray, ← hl]; exact h4) (by rw [hk]; exact ⟨_, I', q⟩)
  · have hk : (k + (its.toArray.size : Int)).toNat = j := by
      rw [seqIndex_neg (by omega) h3] at h1
      rw [List.size_toArray, ← hl]
      exact Option.some.inj h1
    exact PySem.W.ki_setBack ho (by omega) (by rw [List.size_toArray, ← hl]; exact h3) (by omega) (by rw [hk]; exact ⟨_, I', q⟩)

/-! ### slices -/
theorem slice_bounds (lo hi : Option Int) (n : Nat) : (sliceBounds lo hi none n).1 = ((HT.sIx n 0 lo : Nat) : Int) ∧ (sliceBounds lo hi none n).2.1 = ((HT.sIx n n hi : Nat) : Int) ∧ (sliceBounds lo hi none n).2.2 = 1 := by
  refine ⟨?_, ?_, rfl⟩
  · cases lo with
    | none => simp [sliceBounds, HT.sIx]
    | some i =>
      simp only [sliceBounds, HT.sIx, Option.getD_none, show (1 : Int) > 0 by decide, if_true]
      by_cases h : i < 0
      · simp only [h, if_true] <;> omega
      · simp only [h, if_false] <;> omega
  · cases hi with
    | none => simp [sliceBounds, HT.sIx]
    | some i =>
      simp only [sliceBounds, HT.sIx, Option.getD_none, show (1 : Int) > 0 by decide, if_true]
      by_cases h : i < 0
      · simp only [h, if_true] <;> omega
      · simp only [h, if_false] <;> omega
theorem slicePick_cut (its : List Value) (lo hi : Option Int) : slicePick its.toArray lo hi none = ((its.drop (HT.sIx its.length 0 lo)).take (HT.sIx its.length its.length hi - HT.sIx its.length 0 lo)).toArray := by
  obtain ⟨h1, h2, h3⟩ := slice_bounds lo hi its.toArray.size
  unfold slicePick
  rw [h1, h2, h3]
  simp only [sliceRange_one, pick_run, List.size_toArray] <;> rfl
/-- xs[lo:hi] of a list: a new list -/
def rSlL (K : PySem.W.Frag) : V → Option Int → Option Int → Hp → VK → Prop := fun x lo hi H Q => ∃ a xs, x = .ref a ∧ SqL K H a xs ∧ ∀ p, H p = none → Q (.ref p) (upd H p (.lst (cutV xs lo hi)))
theorem sl_list : SlR X (rSlL X.K) := by
  intro pins s σ H x v vl vu lo hi sl Q I rx hs pl pu h
  obtain ⟨a, xs, rfl, hx, q⟩ := h
  cases rx
  obtain ⟨its, r, ht, hz⟩ := I.list hx
  have hlen := r.length
  refine ⟨"list", _, slot_list_getitem.lookup, ht.isList.typeIs, ?_⟩
  refine wpAny_getItem_list_slice ht.isList hs pl pu .none (by simp) ?_ (by rw [List.size_toArray] <;> omega)
  rw [slicePick_cut, ← hlen]
  refine ⟨.ref s.heap.objs.size, _, I.laid (t' := s.toks) (o := .lst (cutV xs lo hi)) (fun b ob q => Heap.get?_push_of_some _ q) (Nat.le_refl _) ?_, rfl, q _ (I.hok.fresh (Nat.le_refl _))⟩
  exact ⟨Nat.le_trans (cutV_length xs lo hi) hz, _, 0, (r.drop (HT.sIx xs.length 0 lo)).take (HT.sIx xs.length xs.length hi - HT.sIx xs.length 0 lo), Heap.get?_push_size _ rfl⟩

/-! ### in, not in: flat items -/
def flatV : V → Bool
  | .non => true
  | .bl _ => true
  | .int _ => true
  | .str _ => true
  | _ => false
/-- == of flat values -/
def eqV : V → V → Bool
  | .non, .non => true
  | .bl a, .bl b => a == b
  | .bl a, .int b => (if a then 1 else 0) == b
  | .int a, .bl b => a == (if b then 1 else 0)
  | .int a, .int b => a == b
  | .str a, .str b => a == b
  | _, _ => false
theorem eqAt_V {A : Around} {s : Shared} {y x : V} {u v : Value} (ry : RelV y u) (rx : RelV x v) (fy : flatV y = true) (fx : flatV x = true) : SeqAt.EqAt A s u v (eqV y x) := by
  cases y with
  | non =>
    cases ry
    cases x with
    | non => cases rx; exact SeqAt.EqAt.same _
    | bl b => cases rx; exact SeqAt.EqAt.none_bool b
    | int b => obtain ⟨t, rfl⟩ := rx; exact SeqAt.EqAt.none_int b t
    | str b => obtain ⟨t, rfl⟩ := rx; exact SeqAt.EqAt.none_str b t
    | _ => exact absurd (show false = true from fx) Bool.false_ne_true
  | bl a =>
    cases ry
    cases x with
    | non => cases rx; exact SeqAt.EqAt.bool_none a
    | bl b => cases rx; exact SeqAt.EqAt.bool_bool a b
    | int b => obtain ⟨t, rfl⟩ := rx; exact SeqAt.EqAt.bool_int a b t
    | str b => obtain ⟨t, rfl⟩ := rx; exact SeqAt.EqAt.bool_str a b t
    | _ => exact absurd (show false = true from fx) Bool.false_ne_true
  | int a =>
    obtain ⟨t', rfl⟩ := ry
    cases x with
    | non => cases rx; exact SeqAt.EqAt.int_none a t'
    | bl b => cases rx; exact SeqAt.EqAt.int_bool a t' b
    | int b => obtain ⟨t, rfl⟩ := rx; exact SeqAt.EqAt.int_int a t' b t
    | str b => obtain ⟨t, rfl⟩ := rx; exact SeqAt.EqAt.int_str a t' b t
    | _ => exact absurd (show false = true from fx) Bool.false_ne_true
  | str a =>
    obtain ⟨t', rfl⟩ := ry
    cases x with
    | non => cases rx; exact SeqAt.EqAt.str_none a t'
    | bl b => cases rx; exact SeqAt.EqAt.str_bool a t' b
    | int b => obtain ⟨t, rfl⟩ := rx; exact SeqAt.EqAt.str_int a t' b t
    | str b => obtain ⟨t, rfl⟩ := rx; exact SeqAt.EqAt.str_str a t' b t
    | _ => exact absurd (show false = true from fx) Bool.false_ne_true
  | _ => exact absurd (show false = true from fy) Bool.false_ne_true
/-- the items' answers, read off the values (a value's own answer does not lean on its token) -/
def eqU (x : V) (u : Value) : Bool := match u with
  | .none => eqV .non x
  | .bool b => eqV (.bl b) x
  | .int i _ => eqV (.int i) x
  | .str z _ => eqV (.str z) x
  | _ => false
theorem eqU_of {x y : V} {u : Value} (r : RelV y u) (f : flatV y = true) : eqU x u = eqV y x := by
  cases y with
  | non => cases r; rfl
  | bl b => cases r; rfl
  | int i => obtain ⟨t, rfl⟩ := r; rfl
  | str z => obtain ⟨t, rfl⟩ := r; rfl
  | _ => exact absurd (show false = true from f) Bool.false_ne_true
theorem any_eqU {x : V} : ∀ {xs : List V} {us : List Value}, Vals xs us → xs.all flatV = true → us.any (eqU x) = xs.any fun y => eqV y x
  | _, _, .nil, _ => rfl
  | y :: xs, u :: us, .cons r t, f => by
    rw [List.all_cons, Bool.and_eq_true] at f
    rw [List.any_cons, List.any_cons, eqU_of r f.1, any_eqU t f.2]
theorem mem_eqAt {A : Around} {s : Shared} {x : V} {v : Value} (rx : RelV x v) (fx : flatV x = true) : ∀ {xs : List V} {us : List Value}, Vals xs us → xs.all flatV = true → ∀ u ∈ us, SeqAt.EqAt A s u v (eqU x u)
  | _, _, .nil, _ => fun u hu => by cases hu
  | y :: xs, u :: us, .cons r t, f => fun u' hu => by
    rw [List.all_cons, Bool.and_eq_true] at f
    rcases List.mem_cons.mp hu with rfl | hu
    · rw [eqU_of r f.1]; exact eqAt_V r rx f.1 fx
    · exact mem_eqAt rx fx t f.2 u' hu
def inV (x : V) (xs : List V) : Bool := xs.any fun y => eqV y x
/-- x in a list or tuple of flat items -/
def rIn (K : PySem.W.Frag) (neg : Bool) : R2 := fun x y H Q => ∃ p xs, y = .ref p ∧ (SqL K H p xs ∨ SqT K H p xs) ∧ flatV x = true ∧ xs.all flatV = true ∧ Q (.bl (if neg then !inV x xs else inV x xs)) H
theorem op_in_seq : OpR X (compareOp .In) (rIn X.K false) := by
  intro pins s σ H x y v u Q I rx ry h
  obtain ⟨p, xs, rfl, hq, fx, fs, q⟩ := h
  cases ry
  rcases hq with hq | hq
  · obtain ⟨its, r, pl, hz⟩ := I.list hq
    refine SeqAt.in_listAt (eqU x) pl.isList (fun w hw => mem_eqAt rx fx r fs w (by simpa using hw)) ⟨.bl _, H, I, rfl, ?_⟩
    rw [show its.toArray.any (eqU x) = its.any (eqU x) by simp, any_eqU r fs]
    exact q
  · obtain ⟨its, r, pl, hz⟩ := I.tuple hq
    refine SeqAt.in_tupleAt (eqU x) pl (fun w hw => mem_eqAt rx fx r fs w (by simpa using hw)) ⟨.bl _, H, I, rfl, ?_⟩
    rw [show its.toArray.any (eqU x) = its.any (eqU x) by simp, any_eqU r fs]
    exact q
theorem op_notIn_seq : OpR X (compareOp .NotIn) (rIn X.K true) := by
  intro pins s σ H x y v u Q I rx ry h
  obtain ⟨p, xs, rfl, hq, fx, fs, q⟩ := h
  cases ry
  rcases hq with hq | hq
  · obtain ⟨its, r, pl, hz⟩ := I.list hq
    refine SeqAt.notIn_listAt (eqU x) pl.isList (fun w hw => mem_eqAt rx fx r fs w (by simpa using hw)) ⟨.bl _, H, I, rfl, ?_⟩
    rw [show its.toArray.any (eqU x) = its.any (eqU x) by simp, any_eqU r fs]
    exact q
  · obtain ⟨its, r, pl, hz⟩ := I.tuple hq
    refine SeqAt.notIn_tupleAt (eqU x) pl (fun w hw => mem_eqAt rx fx r fs w (by simpa using hw)) ⟨.bl _, H, I, rfl, ?_⟩
    rw [show its.toArray.any (eqU x) = its.any (eqU x) by simp, any_eqU r fs]
    exact q
theorem op_notIn_str : OpR X (compareOp .NotIn) (fun x y H Q => ∃ i j, x = .str i ∧ y = .str j ∧ Q (.bl (!(!(Builtin.Str.occurrences j i 0 j.length 1).isEmpty))) H) := by
  intro pins s σ H x y v u Q I rx ry h
  obtain ⟨i, j, rfl, rfl, q⟩ := h
  obtain ⟨t, rfl⟩ := rx
  obtain ⟨t', rfl⟩ := ry
  exact notIn_str ⟨.bl _, H, I, rfl, q⟩

/-! ### len, list(x), tuple(x) of any list or tuple that is read -/
theorem call_len_seq : CallR X (.builtin "len") (fun xs H Q => ∃ p ys, xs = [.ref p] ∧ (SqL X.K H p ys ∨ SqT X.K H p ys) ∧ Q (.int ys.length) H) := by
  intro pins s σ H xs us Q I r h
  obtain ⟨p, ys, rfl, hq, q⟩ := h
  obtain ⟨u, rfl, rx⟩ := vals1 r
  cases rx
  have hn := line63
  rcases hq with hq | hq
  · obtain ⟨its, r', pl, hz⟩ := I.list hq
    have hlen := r'.length
    exact Calls.call_len_list pl.isList (by simp only [List.size_toArray] <;> omega) ⟨.int ys.length, H, I.tok _, ⟨s.toks + 1, by rw [List.size_toArray, hlen]⟩, q⟩
  · obtain ⟨its, r', pl, hz⟩ := I.tuple hq
    have hlen := r'.length
    exact len_tuple pl (by simp only [List.size_toArray] <;> omega) ⟨.int ys.length, H, I.tok _, ⟨s.toks + 1, by rw [List.size_toArray, hlen]⟩, q⟩
theorem call_len_str : CallR X (.builtin "len") (fun xs H Q => ∃ z, xs = [.str z] ∧ z.length ≤ sizeLine ∧ Q (.int z.length) H) := by
  intro pins s σ H xs us Q I r h
  obtain ⟨z, rfl, hz, q⟩ := h
  obtain ⟨u, rfl, t, rfl⟩ := vals1 r
  have hn := line63
  exact len_str (by omega) ⟨.int z.length, H, I.tok _, ⟨_, rfl⟩, q⟩
theorem CallR.or {f : Value} {r r' : List V → Hp → VK → Prop} (h : CallR X f r) (h' : CallR X f r') : CallR X f (fun xs H Q => r xs H Q ∨ r' xs H Q) := by
  intro pins s σ H xs us Q I rs q
  rcases q with q | q
  · exact h pins s σ H xs us Q I rs q
  · exact h' pins s σ H xs us Q I rs q
theorem call_list_of : CallR X (.type "list") (fun xs H Q => ∃ p ys, xs = [.ref p] ∧ (SqL X.K H p ys ∨ SqT X.K H p ys) ∧ ∀ l, H l = none → Q (.ref l) (upd H l (.lst ys))) := by
  intro pins s σ H xs us Q I r h
  obtain ⟨p, ys, rfl, hq, q⟩ := h
  obtain ⟨u, rfl, rx⟩ := vals1 r
  cases rx
  have fin : ∀ (its : List Value), Vals ys its → ys.length ≤ sizeLine → ∀ (h' : Heap) (c' : Nat), (∀ b o', s.heap.get? b = some o' → h'.get? b = some o') →
      h'.get? s.heap.objs.size = some { cls := .type "list", dict := none, data := .seq its.toArray c', slots := #[] } → EP X pins σ Q (.ref s.heap.objs.size) { s with heap := h' } := fun its r' hz h' c' kp e =>
    ⟨.ref s.heap.objs.size, _, I.laid (t' := s.toks) kp (Nat.le_refl _) (show ObjOk X.prog X.w _ h' _ (.lst ys) from ⟨hz, its, c', r', e⟩), rfl, q _ (I.hok.fresh (Nat.le_refl _))⟩
  rcases hq with hq | hq
  · obtain ⟨its, r', pl, hz⟩ := I.list hq
    have hlen := r'.length
    obtain ⟨o, ho, hc, n, hd⟩ := pl.isList
    exact call_list_seq p (.inl rfl) ho hc hd (fun h' c' kp e => fin its r' hz h' c' kp e) (by simp only [List.size_toArray] <;> omega)
  · obtain ⟨its, r', pl, hz⟩ := I.tuple hq
    have hlen := r'.length
    obtain ⟨o, ho, hc, n, hd⟩ := pl
    exact call_list_seq p (.inr rfl) ho hc hd (fun h' c' kp e => fin its r' hz h' c' kp e) (by simp only [List.size_toArray] <;> omega)
theorem call_tuple_of : CallR X (.type "tuple") (fun xs H Q => ∃ p ys, xs = [.ref p] ∧ ((SqL X.K H p ys ∧ ∀ l, H l = none → Q (.ref l) (upd H l (.tup ys))) ∨ (SqT X.K H p ys ∧ Q (.ref p) H))) := by
  intro pins s σ H xs us Q I r h
  obtain ⟨p, ys, rfl, h⟩ := h
  obtain ⟨u, rfl, rx⟩ := vals1 r
  cases rx
  rcases h with ⟨hq, q⟩ | ⟨hq, q⟩
  · obtain ⟨its, r', pl, hz⟩ := I.list hq
    have hlen := r'.length
    refine call_tuple_list pl.isList (fun h' kp => ?_) (by simp only [List.size_toArray] <;> omega)
    have I1 : Inv X pins σ H { s with heap := h' } := I.kept (t' := s.toks) kp
    have I2 : Inv X pins σ (upd H h'.objs.size (.tup ys)) { s with heap := h'.push { cls := .type "tuple", data := .seq its.toArray } } :=
      I1.laid (t' := s.toks) (fun b o e => Heap.get?_push_of_some _ e) (Nat.le_refl _) (show ObjOk X.prog X.w _ _ _ (.tup ys) from ⟨hz, its, r', IsTup.new _ _⟩)
    exact ⟨.ref h'.objs.size, _, I2, rfl, q _ (I1.hok.fresh (Nat.le_refl _))⟩
  · obtain ⟨its, r', pl, hz⟩ := I.tuple hq
    exact call_tuple_same pl ⟨.ref p, H, I, rfl, q⟩

/-! ### the call of a builtin's method: o.m(..) -/
/-- the value is of that builtin type -/
def tyV (K : PySem.W.Frag) (T : String) (x : V) (H : Hp) : Prop := match x with
  | .str _ => T = "str"
  | .int _ => T = "int"
  | .ref p => (T = "list" ∧ ∃ xs, SqL K H p xs) ∨ (T = "tuple" ∧ ∃ o, K.lookup p = some o ∧ o.cls = .type "tuple" ∧ o.dict = none) ∨
      (T = "dict" ∧ ((∃ kvs, H p = some (.dK kvs)) ∨ ∃ kvs, H p = some (.dT kvs))) ∨ (T = "set" ∧ ∃ S n, H p = some (.set S n))
  | _ => False
theorem tyV_is {pins : List (Addr × Obj)} {σ : St} {H : Hp} {s : Shared} {T : String} {x : V} {v : Value} (I : Inv X pins σ H s) (r : RelV x v) (ty : tyV X.K T x H) :
    s.TypeIs v T ∧ ∀ a, v = .ref a → ∃ ob, s.heap.get? a = some ob ∧ ob.dict = none := by
  cases x with
  | str z =>
    obtain ⟨t, rfl⟩ := r
    cases (show T = "str" from ty)
    exact ⟨typeIs_str s z t, fun _ e => nomatch e⟩
  | int i =>
    obtain ⟨t, rfl⟩ := r
    cases (show T = "int" from ty)
    exact ⟨typeIs_int s i t, fun _ e => nomatch e⟩
  | ref p =>
    cases r
    rcases ty with ⟨rfl, xs, hq⟩ | ⟨rfl, o, hk, hc, hd⟩ | ⟨rfl, hk⟩ | ⟨rfl, S, n, hk⟩
    · obtain ⟨its, _, pl, _⟩ := I.list hq
      refine ⟨pl.isList.typeIs, fun a e => ?_⟩
      cases e
      obtain ⟨o, n, e, c, hd, _⟩ := pl
      exact ⟨o, e, hd⟩
    · refine ⟨⟨o, I.kIn p o hk, hc⟩, fun a e => ?_⟩
      cases e
      exact ⟨o, I.kIn _ o hk, hd⟩
    · have z : ∃ o, s.heap.get? p = some o ∧ o.ExactDict := by
        rcases hk with ⟨kvs, hk⟩ | ⟨kvs, hk⟩
        · obtain ⟨_, _, _, _, o, _, _, e, ex, _⟩ := I.hok p _ hk
          exact ⟨o, e, ex⟩
        · obtain ⟨_, _, _, _, o, _, _, e, ex, _⟩ := I.hok p _ hk
          exact ⟨o, e, ex⟩
      obtain ⟨o, e, ex⟩ := z
      refine ⟨⟨o, e, ex.1⟩, fun a e2 => ?_⟩
      cases e2
      exact ⟨o, e, ex.2.1⟩
    · obtain ⟨o, _, _, _, e, ex, _⟩ := I.hok p _ hk
      refine ⟨⟨o, e, ex.1⟩, fun a e2 => ?_⟩
      cases e2
      exact ⟨o, e, ex.2.1⟩
  | _ => exact False.elim ty
def tBM0 (K : PySem.W.Frag) (T : String) (r : V → List V → Hp → VK → Prop) (to : TE) : TE := fun σ H Q => to σ H fun x H1 => tyV K T x H1 ∧ r x [] H1 Q
def tBM (K : PySem.W.Frag) (T : String) (r : V → List V → Hp → VK → Prop) (to : TE) (t : TA) : TE := fun σ H Q => to σ H fun x H1 => tyV K T x H1 ∧ t σ H1 fun xs H2 => r x xs H2 Q
variable {o e : Expr} {es : List Expr} {to : TE} {t : TA} {name : Str} {apos cpos : Pos} {T id : String} {r : V → List V → Hp → VK → Prop}
theorem pe_bm0 (pa : PlainAttrs T) (slot : Slot T name id) (hty : typeOf (.builtin id) = pure (.type "method_descriptor")) (hm : MtR X id r) (ho : PE X o to)
    (hbase : attributeBase o name X.env (eval o X.env) = eval o X.env := by rfl) (hline : (apos.endLine == cpos.line) = true := by rfl) : PE X (.Call (.Attribute o name apos) [] [] cpos) (tBM0 X.K T r to) := by
  intro pins s σ H Q I h
  refine wpAny_Call_method0_late hbase hline (thn (ho pins s σ H _ I h) fun v s1 ⟨x, H1, I1, r1, ty, q1⟩ => ?_)
  obtain ⟨h1, h2⟩ := tyV_is I1 r1 ty
  exact ⟨T, id, pa, slot, hty, h1, h2, Calls.callWith_builtin rfl (PySem.evalArgs_none (hm pins s1 σ H1 x [] v [] Q I1 r1 .nil q1))⟩
theorem pe_bm (pa : PlainAttrs T) (slot : Slot T name id) (hty : typeOf (.builtin id) = pure (.type "method_descriptor")) (hm : MtR X id r) (ho : PE X o to) (ha : PA X (e :: es) t)
    (hbase : attributeBase o name X.env (eval o X.env) = eval o X.env := by rfl)
    (hfew : ((backTo cpos (starEach (e :: es) X.env)).all (fun x => !x.1) && (backToKw cpos (keywordEach [] X.env)).all (fun x => x.1.isSome)
      && decide ((e :: es).length + ([] : List Keyword).length + (if ([] : List Keyword).isEmpty then 0 else 1) < 30)) = true := by rfl)
    (hline : (apos.endLine == cpos.line) = true := by rfl) (hs : starEach (e :: es) X.env = (false, eval e X.env) :: starEach es X.env := by rfl) (hplain : (backTo cpos (starEach es X.env)).any (·.1) = false := by rfl) :
    PE X (.Call (.Attribute o name apos) (e :: es) [] cpos) (tBM X.K T r to t) := by
  intro pins s σ H Q I h
  refine wpAny_Call_method_late hbase hfew hline rfl (thn (ho pins s σ H _ I h) fun v s1 ⟨x, H1, I1, r1, ty, q1⟩ => ?_)
  obtain ⟨h1, h2⟩ := tyV_is I1 r1 ty
  refine ⟨T, id, pa, slot, hty, h1, h2, ?_⟩
  have hA := ha cpos pins s1 σ H1 _ I1 q1
  rw [hs] at hA ⊢
  refine Calls.callWith_builtin (by show (false || (backTo cpos (starEach es X.env)).any (·.1)) = false; rw [hplain] <;> rfl) (Calls.evalArgs_plain ?_)
  exact thn hA fun us s2 ⟨vs, H2, I2, r2, q2⟩ => hm pins s2 σ H2 x vs v us Q I2 r1 r2 q2
/- xs.append(e), list.index on a module's tuple .. are MtR facts of 06m -/
end
end L2

namespace L2
open PySem PySem.Spec PyProof.Rows

def MtM (X : Cx) (id : String) (r : V → List V → Hp → VK → Prop) : Prop :=
  ∀ (pins : List (Addr × Obj)) (s : Shared) (σ : St) (H : Hp) (x : V) (xs : List V) (v : Value) (us : List Value) (Q : VK), Inv X pins σ H s → RelV x v → Vals xs us → r x xs H Q →
    wpAny (model X.prog X.w) X.A (call (.builtin id) (v :: us)) (EP X pins σ Q) X.xe s

/-! ### lists of values -/
theorem Vals.one : ∀ {x : V} {us : List Value}, Vals [x] us → ∃ u, us = [u] ∧ RelV x u
  | _, _, .cons r .nil => ⟨_, rfl, r⟩
theorem Vals.two : ∀ {x y : V} {us : List Value}, Vals [x, y] us → ∃ u v, us = [u, v] ∧ RelV x u ∧ RelV y v
  | _, _, _, .cons r (.cons q .nil) => ⟨_, _, rfl, r, q⟩
theorem Vals.zero : ∀ {us : List Value}, Vals [] us → us = []
  | _, .nil => rfl
theorem Vals.dropLast {xs : List V} {us : List Value} (h : Vals xs us) : Vals xs.dropLast us.dropLast := by
  induction h with
  | nil => exact .nil
  | cons r t ih =>
    cases t with
    | nil => exact .nil
    | cons q t' => exact .cons r ih
theorem Vals.eraseIdx : ∀ {xs : List V} {us : List Value} (i : Nat), Vals xs us → Vals (xs.eraseIdx i) (us.eraseIdx i)
  | _, _, _, .nil => .nil
  | _, _, 0, .cons _ t => t
  | _, _, i + 1, .cons r t => .cons r (Vals.eraseIdx i t)
theorem Vals.reverse {xs : List V} {us : List Value} (h : Vals xs us) : Vals xs.reverse us.reverse := by
  induction h with
  | nil => exact .nil
  | cons r t ih => rw [List.reverse_cons, List.reverse_cons]; exact Vals.append ih (.cons r .nil)
theorem Vals.rep {xs : List V} {us : List Value} (h : Vals xs us) : ∀ k : Nat, Vals (List.replicate k xs).flatten (List.replicate k us).flatten
  | 0 => .nil
  | k + 1 => by
    rw [List.replicate_succ, List.replicate_succ, List.flatten_cons, List.flatten_cons]
    exact Vals.append h (Vals.rep h k)
theorem erase_last {α : Type} (l : List α) : l.eraseIdx (l.length - 1) = l.dropLast := by
  induction l with
  | nil => rfl
  | cons a r ih =>
    cases r with
    | nil => rfl
    | cons b r =>
      have e : (a :: b :: r).length - 1 = ((b :: r).length - 1) + 1 := by
        have h1 : (a :: b :: r).length = r.length + 2 := rfl
        have h2 : (b :: r).length = r.length + 1 := rfl
        omega
      rw [e, List.eraseIdx_cons_succ, ih]
      all_goals rfl
theorem len_erase {α : Type} : ∀ (l : List α) (i : Nat), (l.eraseIdx i).length ≤ l.length
  | [], _ => Nat.le_refl _
  | _ :: _, 0 => Nat.le_succ _
  | _ :: r, i + 1 => Nat.succ_le_succ (len_erase r i)
theorem foldl_rep (its : List Value) : ∀ (k : Nat) (acc : List Value),
    List.foldl (fun x1 x2 => x1 ++ x2) acc.toArray (List.replicate k its.toArray) = (acc ++ (List.replicate k its).flatten).toArray
  | 0, acc => by simp
  | k + 1, acc => by
    have e : acc.toArray ++ its.toArray = (acc ++ its).toArray := by simp
    have e2 : (acc ++ its) ++ (List.replicate k its).flatten = acc ++ (List.replicate (k + 1) its).flatten := by
      rw [List.replicate_succ, List.flatten_cons, List.append_assoc]
    rw [← e2, ← foldl_rep its k (acc ++ its), ← e, List.replicate_succ, List.foldl_cons]

section
variable {X : Cx} {pins : List (Addr × Obj)} {σ : St} {H : Hp} {s : Shared} {l b : Addr} {xs ys zs : List V}

/-! ### the two steps: a tracked list is rewritten, a new list is laid -/
theorem Inv.lset {its its' : List Value} {n : Nat} {f : Array Value → Array Value} {t' : Nat} (I : Inv X pins σ H s) (hH : H l = some (.lst xs))
    (e : s.heap.get? l = some { cls := .type "list", data := .seq its.toArray n }) (hf : f its.toArray = its'.toArray) (hv : Vals ys its') (hz : ys.length ≤ sizeLine) :
    Inv X pins σ (upd H l (.lst ys)) { s with heap := s.heap.update l (Obj.mapSeq f), toks := t' } := by
  have q := PySem.IsL.update e f
  rw [hf] at q
  refine I.write (x := l) (e := l) (by rw [hH]; exact trivial) (.inl rfl) (fun b' u hb hu => (Heap.get?_update_other s.heap (Obj.mapSeq f) (Ne.symm hb)).trans hu) ⟨_, q⟩ ?_
  exact ⟨hz, its', _, hv, q⟩
theorem Inv.lnew {its : List Value} {t' : Nat} (I : Inv X pins σ H s) (hv : Vals ys its) (hz : ys.length ≤ sizeLine) :
    Inv X pins σ (upd H s.heap.objs.size (.lst ys)) { s with heap := s.heap.push { cls := .type "list", data := .seq its.toArray }, toks := t' } :=
  I.laid (fun _ _ q => Heap.get?_push_of_some _ q) (Nat.le_refl _) ⟨hz, its, 0, hv, Heap.get?_push_size _ rfl⟩
theorem Inv.fresh (I : Inv X pins σ H s) : H s.heap.objs.size = none := I.hok.fresh (Nat.le_refl _)
theorem Inv.lstM (I : Inv X pins σ H s) (hH : H l = some (.lst xs)) : xs.length ≤ sizeLine ∧ ∃ (its : List Value) (n : Nat), Vals xs its ∧ xs.length = its.length ∧ s.heap.get? l = some { cls := .type "list", data := .seq its.toArray n } := by
  obtain ⟨z, its, n, r, e⟩ := I.hok l _ hH
  exact ⟨z, its, n, r, r.length, e⟩

theorem notLongL {n : Nat} (h : n ≤ sizeLine) : Builtin.List.listTooLong n = false := by
  unfold Builtin.List.listTooLong
  exact decide_eq_false (by omega)
end

section
variable {X : Cx}

/-! ### methods -/
def rAppend : V → List V → Hp → VK → Prop := fun x vs H Q => ∃ l xs y, x = .ref l ∧ vs = [y] ∧ H l = some (.lst xs) ∧ xs.length < sizeLine ∧ Q .non (upd H l (.lst (xs ++ [y])))
theorem mt_append : MtM X "list.append" rAppend := by
  intro pins s σ H x vs v us Q I rx rv h
  obtain ⟨l, xs, y, rfl, rfl, hH, hz, q⟩ := h
  cases rx
  obtain ⟨u, rfl, ru⟩ := rv.one
  obtain ⟨z, its, n, r, hl, e⟩ := I.lstM hH
  refine call_meets F.slot_list_append ⟨_, e, rfl⟩ F.entry_list_append (F.args_list_append_2 _ _) (PySem.list_append l its.toArray n u (by rw [List.size_toArray]; omega)) ⟨e, ?_⟩
  refine ⟨.non, _, I.lset (its' := its ++ [u]) hH e (by simp) (r.append (.cons ru .nil)) ?_, rfl, q⟩
  rw [List.length_append, List.length_singleton]
  omega

def rExtend : V → List V → Hp → VK → Prop := fun x vs H Q => ∃ l b xs zs, x = .ref l ∧ vs = [.ref b] ∧ H l = some (.lst xs) ∧ H b = some (.lst zs) ∧ xs.length + zs.length ≤ sizeLine ∧ Q .non (upd H l (.lst (xs ++ zs)))
theorem mt_extend : MtM X "list.extend" rExtend := by
  intro pins s σ H x vs v us Q I rx rv h
  obtain ⟨l, b, xs, zs, rfl, rfl, hH, hB, hz, q⟩ := h
  cases rx
  obtain ⟨u, rfl, ru⟩ := rv.one
  cases ru
  obtain ⟨z, its, n, r, hl, e⟩ := I.lstM hH
  obtain ⟨z2, its2, n2, r2, hl2, e2⟩ := I.lstM hB
  have hsz : its.toArray.size + its2.toArray.size ≤ sizeLine := by rw [List.size_toArray, List.size_toArray]; omega
  have hlong : ¬ (!its.toArray.isEmpty && Builtin.List.listTooLong (its.toArray.size + its2.toArray.size)) = true := by
    rw [notLongL hsz, Bool.and_false]
    exact Bool.false_ne_true
  refine call_meets F.slot_list_extend ⟨_, e, rfl⟩ F.entry_list_extend (F.args_list_extend_2 _ _)
    (AutoSeq1.list_extend_list_list_0 l its.toArray n b its2.toArray n2 hlong (by rw [List.size_toArray]; omega) (by omega)) ⟨e, e2, ?_⟩
  refine ⟨.non, _, I.lset (its' := its ++ its2) hH e (by simp) (r.append r2) ?_, rfl, q⟩
  rw [List.length_append]
  omega

def rPop : V → List V → Hp → VK → Prop := fun x vs H Q => ∃ l xs y, x = .ref l ∧ vs = [] ∧ H l = some (.lst xs) ∧ xs[xs.length - 1]? = some y ∧ Q y (upd H l (.lst xs.dropLast))
theorem mt_pop : MtM X "list.pop" rPop := by
  intro pins s σ H x vs v us Q I rx rv h
  obtain ⟨l, xs, y, rfl, rfl, hH, hy, q⟩ := h
  cases rx
  have hus := rv.zero
  subst hus
  obtain ⟨z, its, n, r, hl, e⟩ := I.lstM hH
  obtain ⟨u, hu, ru⟩ := r.get hy
  have hy' : its.toArray[its.toArray.size - 1]? = some u := by
    show its.toArray[its.length - 1]? = some u
    rw [← Array.getElem?_toList, ← hl]
    exact hu
  refine call_meets F.slot_list_pop ⟨_, e, rfl⟩ F.entry_list_pop (F.args_list_pop_1 _) (MeetsSeq.list_pop_last l its.toArray n u hy' (by rw [List.size_toArray]; omega)) ⟨e, ?_⟩
  refine ⟨y, _, I.lset (its' := its.dropLast) hH e ?_ r.dropLast ?_, ru, q⟩
  · show its.toArray.eraseIdxIfInBounds (its.toArray.size - 1) = its.dropLast.toArray
    rw [List.size_toArray, List.eraseIdxIfInBounds_toArray, erase_last]
  · rw [List.length_dropLast]
    omega

def rPopAt : V → List V → Hp → VK → Prop := fun x vs H Q => ∃ l xs i k y, x = .ref l ∧ vs = [.int i] ∧ H l = some (.lst xs) ∧ -(2 ^ 63) ≤ i ∧ i < 2 ^ 63 ∧ seqIndex? i xs.length = some k ∧ xs[k]? = some y ∧ Q y (upd H l (.lst (xs.eraseIdx k)))
theorem mt_popAt : MtM X "list.pop" rPopAt := by
  intro pins s σ H x vs v us Q I rx rv h
  obtain ⟨l, xs, i, k, y, rfl, rfl, hH, h1, h2, hk, hy, q⟩ := h
  cases rx
  obtain ⟨u, rfl, ru⟩ := rv.one
  obtain ⟨t, rfl⟩ := ru
  obtain ⟨z, its, n, r, hl, e⟩ := I.lstM hH
  obtain ⟨w, hw, rw'⟩ := r.get hy
  refine call_meets F.slot_list_pop ⟨_, e, rfl⟩ F.entry_list_pop (F.args_list_pop_2 _ _)
    (MeetsSeq.list_pop_at l its.toArray n i t k w (fitsIndex_both h1 h2) (by rw [List.size_toArray, ← hl]; exact hk) (by rw [← Array.getElem?_toList]; exact hw) (by rw [List.size_toArray]; omega)) ⟨e, ?_⟩
  refine ⟨y, _, I.lset (its' := its.eraseIdx k) hH e ?_ (r.eraseIdx k) ?_, rw', q⟩
  · show its.toArray.eraseIdxIfInBounds k = (its.eraseIdx k).toArray
    rw [List.eraseIdxIfInBounds_toArray]
  · have := len_erase xs k
    omega

def rReverse : V → List V → Hp → VK → Prop := fun x vs H Q => ∃ l xs, x = .ref l ∧ vs = [] ∧ H l = some (.lst xs) ∧ Q .non (upd H l (.lst xs.reverse))
theorem mt_reverse : MtM X "list.reverse" rReverse := by
  intro pins s σ H x vs v us Q I rx rv h
  obtain ⟨l, xs, rfl, rfl, hH, q⟩ := h
  cases rx
  have hus := rv.zero
  subst hus
  obtain ⟨z, its, n, r, hl, e⟩ := I.lstM hH
  refine call_meets F.slot_list_reverse ⟨_, e, rfl⟩ F.entry_list_reverse (F.args_list_reverse_1 _) (AutoSeq1.list_reverse_list_0 l its.toArray n (by rw [List.size_toArray]; omega)) ⟨e, ?_⟩
  refine ⟨.non, _, I.lset (its' := its.reverse) hH e (by simp) r.reverse ?_, rfl, q⟩
  rw [List.length_reverse]
  omega

def rClear : V → List V → Hp → VK → Prop := fun x vs H Q => ∃ l xs, x = .ref l ∧ vs = [] ∧ H l = some (.lst xs) ∧ Q .non (upd H l (.lst []))
theorem mt_clear : MtM X "list.clear" rClear := by
  intro pins s σ H x vs v us Q I rx rv h
  obtain ⟨l, xs, rfl, rfl, hH, q⟩ := h
  cases rx
  have hus := rv.zero
  subst hus
  obtain ⟨z, its, n, r, hl, e⟩ := I.lstM hH
  refine call_meets F.slot_list_clear ⟨_, e, rfl⟩ F.entry_list_clear (F.args_list_clear_1 _) (AutoSeq1.list_clear_list_0 l its.toArray n (by rw [List.size_toArray]; omega)) ⟨e, ?_⟩
  exact ⟨.non, _, I.lset (its' := []) (ys := []) hH e rfl .nil (Nat.zero_le _), rfl, q⟩

/-! ### list + list, list += list, list * int -/
def rCat : R2 := fun x y H Q => ∃ l b xs zs, x = .ref l ∧ y = .ref b ∧ H l = some (.lst xs) ∧ H b = some (.lst zs) ∧ xs.length + zs.length ≤ sizeLine ∧ ∀ p, H p = none → Q (.ref p) (upd H p (.lst (xs ++ zs)))
theorem op_cat : OpR X (binaryOp .Add) rCat := by
  intro pins s σ H x y v u Q I rx ry h
  obtain ⟨l, b, xs, zs, rfl, rfl, hH, hB, hz, q⟩ := h
  cases rx
  cases ry
  obtain ⟨z, its, n, r, hl, e⟩ := I.lstM hH
  obtain ⟨z2, its2, n2, r2, hl2, e2⟩ := I.lstM hB
  refine PySem.P.add_list e e2 ?_ (by rw [List.size_toArray, List.size_toArray]; omega)
  have ea : its.toArray ++ its2.toArray = (its ++ its2).toArray := by simp
  rw [ea]
  exact ⟨.ref _, _, I.lnew (t' := s.toks) (r.append r2) (by rw [List.length_append]; omega), rfl, q _ I.fresh⟩
/-- a list times an int (a negative one is nothing) -/
def rRep : R2 := fun x y H Q => ∃ l k xs, x = .ref l ∧ y = .int k ∧ H l = some (.lst xs) ∧ -(2 ^ 63) ≤ k ∧ k < 2 ^ 63 ∧ xs.length * k.toNat ≤ sizeLine ∧
  ∀ p, H p = none → Q (.ref p) (upd H p (.lst (List.replicate k.toNat xs).flatten))
theorem len_rep {α : Type} (xs : List α) (k : Nat) : (List.replicate k xs).flatten.length = k * xs.length := by
  induction k with
  | zero => simp
  | succ k ih => rw [List.replicate_succ, List.flatten_cons, List.length_append, ih, Nat.succ_mul, Nat.add_comm]
theorem op_rep : OpR X (binaryOp .Mult) rRep := by
  intro pins s σ H x y v u Q I rx ry h
  obtain ⟨l, k, xs, rfl, rfl, hH, h1, h2, hz, q⟩ := h
  cases rx
  obtain ⟨t, rfl⟩ := ry
  obtain ⟨z, its, n, r, hl, e⟩ := I.lstM hH
  have hlen : its.toArray.size * k.toNat ≤ sizeLine := by rw [List.size_toArray, ← hl]; exact hz
  have hcap : ¬ its.toArray.size * k.toNat > (2 ^ 63 - 1) / 8 := by
    have : (sizeLine : Nat) ≤ (2 ^ 63 - 1) / 8 := by decide
    omega
  have hfit : ¬ (!Builtin.List.listFitsIndex k) = true := by
    rw [fitsIndex_both h1 h2]
    exact Bool.false_ne_true
  have hlong : ¬ Builtin.List.listTooLong (its.toArray.size * k.toNat) = true := by
    rw [notLongL hlen]
    exact Bool.false_ne_true
  have hnew : List.foldl (fun x1 x2 => x1 ++ x2) #[] (List.replicate (if its.toArray.isEmpty = true then 0 else k.toNat) its.toArray) = (List.replicate k.toNat its).flatten.toArray := by
    have f0 : ∀ m : Nat, List.foldl (fun x1 x2 => x1 ++ x2) #[] (List.replicate m its.toArray) = (List.replicate m its).flatten.toArray := fun m => by
      have := foldl_rep its m []
      rw [List.nil_append] at this
      exact this
    rw [f0]
    cases its with
    | nil => simp
    | cons a r' => rw [if_neg (by simp)]
  refine wpAny_binaryOp_repeat_ref (T := "list") (U := "int") (by decide) ⟨_, e, rfl⟩ (fun s' => typeIs_int s' k t) noFill_list_mul F.fills_int_mul F.slot_int_rmul repeat_list F.slot_int_index.lookup
    (call_meets F.slot_int_rmul (typeIs_int s k t) F.entry_int_rmul (F.args_int_rmul_2 _ _) (int___rmul___int_list k t l its.toArray n)
      ⟨e, rfl, ⟨_, e, rfl⟩, call_meets F.slot_list_mul ⟨_, e, rfl⟩ F.entry_list_mul (F.args_list_mul_2 _ _) (AutoListH.list___mul___list_int_3 l its.toArray n k t hfit hcap hlong) ⟨e, ?_⟩⟩)
  rw [hnew]
  exact ⟨.ref _, _, I.lnew (t' := s.toks) (r.rep k.toNat) (by rw [len_rep, Nat.mul_comm]; exact hz), rfl, q _ I.fresh⟩

/-! ### del xs[i] -/
theorem del_list {pins : List (Addr × Obj)} {s : Shared} {σ : St} {H : Hp} {l : Addr} {xs : List V} {i : Int} {t : Tok} {k : Nat} {Q : Unit → Shared → Prop} (I : Inv X pins σ H s) (hH : H l = some (.lst xs))
    (h1 : -(2 ^ 63) ≤ i) (h2 : i < 2 ^ 63) (hk : seqIndex? i xs.length = some k) (h : ∀ s', Inv X pins σ (upd H l (.lst (xs.eraseIdx k))) s' → Q () s') :
    wpAny (model X.prog X.w) X.A (delItem (.ref l) (.int i t)) Q X.xe s := by
  obtain ⟨z, its, n, r, hl, e⟩ := I.lstM hH
  refine PySem.P.delItem_list (k := k) e (fitsIndex_both h1 h2) (by rw [List.size_toArray, ← hl]; exact hk) (h _ ?_) (by rw [List.size_toArray]; omega)
  refine I.lset (its' := its.eraseIdx k) (t' := s.toks) hH e ?_ (r.eraseIdx k) ?_
  · show its.toArray.eraseIdxIfInBounds k = (its.eraseIdx k).toArray
    rw [List.eraseIdxIfInBounds_toArray]
  · have := len_erase xs k
    omega
end

/-! ### xs[a:b] = ys -/
section
variable {prog : Program} {w : World} {A : Around} {E : Value → Shared → Prop} {s : Shared}
theorem splice_eq (its its2 : List Value) (a c : Nat) : its.toArray.extract 0 a ++ its2.toArray ++ its.toArray.extract c its.toArray.size = (its.take a ++ its2 ++ its.drop c).toArray := by
  apply Array.toList_inj.mp
  first
    | (simp
       exact List.take_of_length_le (by simp))
    | simp [List.take_of_length_le]
    | simp
theorem bounds_run {a c n : Nat} (hac : a ≤ c) (hc : c ≤ n) : sliceBounds (some (a : Int)) (some (c : Int)) none n = ((a : Int), (c : Int), 1) := by
  simp only [sliceBounds, Option.getD_none]
  have h1 : ¬ ((a : Int) < 0) := by omega
  have h2 : ¬ ((c : Int) < 0) := by omega
  simp only [h1, h2, if_false, show (1 : Int) > 0 by decide, if_true]
  congr 1
  · omega
  · congr 1; omega
set_option maxRecDepth 100000 in
/-- list.__setitem__ with a slice of step one and another list -/
theorem setItem_slice {l b sl : Addr} {items new : Array Value} {n n2 : Nat} {vl vu : Value} {a c : Nat} {Q : Unit → Shared → Prop}
    (e : s.heap.get? l = some { cls := .type "list", data := .seq items n }) (e2 : s.heap.get? b = some { cls := .type "list", data := .seq new n2 }) (hne : l ≠ b)
    (hs : s.heap.IsSliceOf sl vl vu .none) (pl : IsPart vl (some (a : Int))) (pu : IsPart vu (some (c : Int))) (hac : a ≤ c) (hc : c ≤ items.size)
    (hsz : items.size + new.size ≤ sizeLine) (h : Q () { s with heap := s.heap.update l (Obj.mapSeq fun xs => xs.extract 0 a ++ new ++ xs.extract c xs.size) }) :
    wpAny (model prog w) A (setItem (.ref l) (.ref sl) (.ref b)) Q E s := by
  have hl : s.heap.IsList l items := PySem.IsL.isList e
  have hb : s.heap.IsList b new := PySem.IsL.isList e2
  obtain ⟨os, hos, hcs, hds⟩ := id hs
  have hTs : s.TypeIs (.ref sl) "slice" := ⟨os, hos, hcs⟩
  have hstep : ¬ ((rawPart none == rawInt 0) = true) := Bool.false_ne_true
  have hsame : Builtin.List.listSameRef (.ref l) (.ref b) = false := by
    unfold Builtin.List.listSameRef
    exact beq_eq_false_iff_ne.mpr hne
  have hmax : (max (a : Int) (c : Int)).toNat = c := by omega
  have hz' : ((fun xs : Array Value => xs.extract 0 a ++ new ++ xs.extract c xs.size) items).size ≤ sizeLine + 1 := by
    simp only [Array.size_append, Array.size_extract]
    omega
  unfold setItem
  try with_reducible refine wpAny_holding ?_
  first | refine wpAny_bind (wpAny_pure ?_) | skip
  refine wpAny_bind (wpAny_sequenceKey hl.typeIs (by decide) ?_)
  refine wpAny_bind (wpAny_callSpecial?_slot (name := Str.ofString "__setitem__") hl.typeIs slot_list_setitem
    (wpAny_call_entry slot_list_setitem hl.typeIs entry_list_setitem ?_ (args_list_setitem _ _ _)))
  show wpAny _ _ (Builtin.List.listSubscript? (.ref sl) >>= _) _ _ s
  refine wpAny_bind ?_
  unfold Builtin.List.listSubscript?
  refine wpAny_bind (wpAny_specialOf hTs slice_no_index ?_)
  simp only [Option.isNone_none, if_true]
  refine wpAny_pure ?_
  show wpAny _ _ (typeOf (.ref sl) >>= _) _ _ s
  refine wpAny_bind (wpAny_typeOf hTs ?_)
  first
    | rw [if_neg (by decide)]
    | refine PySem.W.KFB.if_not (by decide) ?_
  rw [listSliceParts_eq]
  refine wpAny_bind (wpAny_bind (wpAny_field hos hds (x := .none) rfl (wpAny_bind (wpAny_listPart .none ?_))))
  rw [if_neg hstep]
  refine wpAny_bind (wpAny_field hos hds (x := vl) rfl (wpAny_bind (wpAny_listPart pl ?_)))
  refine wpAny_bind (wpAny_field hos hds (x := vu) rfl (wpAny_bind (wpAny_listPart pu (wpAny_pure ?_))))
  first
    | simp only [hsame, Bool.false_eq_true, if_false]
    | refine PySem.W.KFB.if_not hsame ?_
    | (dsimp only
       rw [if_neg (by rw [hsame]; exact Bool.false_ne_true)])
  refine wpAny_bind (m := Builtin.List.listAllItems (.ref b) "must assign iterable to extended slice") ?_
  unfold Builtin.List.listAllItems
  refine wpAny_bind (wpAny_typeOf hb.typeIs ?_)
  first
    | refine PySem.W.KFB.if_so (by decide) ?_
    | rw [if_pos (by decide)]
    | simp only [beq_self_eq_true, Bool.true_or, if_true]
  unfold Builtin.List.listItems
  refine wpAny_bind (wpAny_seqItems e2 rfl (wpAny_pure ?_))
  refine wpAny_bind (wpAny_bind (wpAny_seqItems e rfl (wpAny_pure ?_)))
  refine wpAny_bind (wpAny_of_eq ((sliceIndices_raw (some (a : Int)) (some (c : Int)) none items.size (by simp)).trans (congrArg (pure : Int × Int × Int → Sem (Int × Int × Int)) (bounds_run hac hc))) ?_)
  show wpAny _ _ (if ((1 : Int) == 1) = true then _ else _) _ _ s
  rw [if_pos (by decide)]
  refine wpAny_bind (wpAny_rule ?_)
  first
    | simp only [notLongL hsz, Bool.false_eq_true, if_false]
    | refine PySem.W.KFB.if_not (notLongL hsz) ?_
  first | refine wpAny_bind (wpAny_pure ?_) | skip
  show wpAny _ _ (updateSeq l (fun xs => xs.extract 0 ((a : Int)).toNat ++ new ++ xs.extract (max (a : Int) (c : Int)).toNat xs.size) >>= _) _ _ s
  rw [hmax, Int.toNat_natCast]
  refine wpAny_bind (wpAny_updateSeq (hz := Nat.le_trans (Nat.le_add_right _ _) hsz) (_hz' := hz') e rfl ?_)
  refine wpAny_bind (wpAny_letGo ?_)
  first
    | exact wpAny_bind (wpAny_pure (wpAny_pure ⟨.none, rfl, wpAny_pure h⟩))
    | exact wpAny_pure ⟨.none, rfl, wpAny_pure h⟩
end

section
variable {X : Cx}
/-- xs[a:c] = ys of another list, at the value level: sl is the slice object that was just made -/
theorem set_slice {pins : List (Addr × Obj)} {s : Shared} {σ : St} {H : Hp} {l b sl : Addr} {xs ys : List V} {a c : Int} {vl vu : Value} {Q : Unit → Shared → Prop} (I : Inv X pins σ H s)
    (hH : H l = some (.lst xs)) (hB : H b = some (.lst ys)) (hne : l ≠ b) (hs : s.heap.IsSliceOf sl vl vu .none) (ra : RelV (.int a) vl) (rc : RelV (.int c) vu) (h0 : 0 ≤ a) (hac : a ≤ c) (hc : c ≤ xs.length)
    (hz : xs.length + ys.length ≤ sizeLine) (h : ∀ s', Inv X pins σ (upd H l (.lst (xs.take a.toNat ++ ys ++ xs.drop c.toNat))) s' → Q () s') :
    wpAny (model X.prog X.w) X.A (setItem (.ref l) (.ref sl) (.ref b)) Q X.xe s := by
  obtain ⟨ta, rfl⟩ := ra
  obtain ⟨tc, rfl⟩ := rc
  obtain ⟨z, its, n, r, hl, e⟩ := I.lstM hH
  obtain ⟨z2, its2, n2, r2, hl2, e2⟩ := I.lstM hB
  obtain ⟨a', rfl⟩ := Int.eq_ofNat_of_zero_le h0
  obtain ⟨c', rfl⟩ := Int.eq_ofNat_of_zero_le (Int.le_trans h0 hac)
  simp only [Int.toNat_natCast] at h
  refine setItem_slice (a := a') (c := c') e e2 hne hs (.int _ _) (.int _ _) (by omega) (by rw [List.size_toArray]; omega) (by rw [List.size_toArray, List.size_toArray]; omega) (h _ ?_)
  refine I.lset (its' := its.take a' ++ its2 ++ its.drop c') (t' := s.toks) hH e ?_ (Vals.append (Vals.append (r.take _) r2) (r.drop _)) ?_
  · exact splice_eq its its2 a' c'
  · rw [List.length_append, List.length_append, List.length_take, List.length_drop]
    omega
end
end L2

set_option Elab.async false
set_option linter.all false
set_option maxRecDepth 100000
namespace L2
open PySem PySem.Spec PyProof.Rows

/-! ### lists of pairs as tables -/
section
variable {κ : Type} [DecidableEq κ]
def valV (kvs : List (κ × V)) (k : κ) : Option V := (kvs.find? fun kv => decide (kv.1 = k)).map (·.2)
/-- in its place, or at the end -/
def putK (kvs : List (κ × V)) (k : κ) (v : V) : List (κ × V) :=
  if (kvs.any fun kv => decide (kv.1 = k)) = true then kvs.map (fun kv => if kv.1 = k then (kv.1, v) else kv) else kvs ++ [(k, v)]
def dropK (kvs : List (κ × V)) (k : κ) : List (κ × V) := kvs.filter fun kv => decide (kv.1 ≠ k)

theorem valV_nil {k : κ} : valV ([] : List (κ × V)) k = none := rfl
theorem valV_pos {p : κ × V} {r : List (κ × V)} {k : κ} (e : p.1 = k) : valV (p :: r) k = some p.2 := by simp [valV, List.find?_cons, e]
theorem valV_neg {p : κ × V} {r : List (κ × V)} {k : κ} (e : ¬ p.1 = k) : valV (p :: r) k = valV r k := by simp [valV, List.find?_cons, e]
theorem valV_any (k : κ) : ∀ kvs : List (κ × V), (kvs.any fun kv => decide (kv.1 = k)) = (valV kvs k).isSome
  | [] => rfl
  | p :: r => by
    rw [List.any_cons]
    by_cases e : p.1 = k
    · simp only [valV_pos e, decide_eq_true e, Bool.true_or, Option.isSome_some]
    · rw [valV_neg e, decide_eq_false e, Bool.false_or]; exact valV_any k r
theorem valV_map (k j : κ) (y : V) : ∀ kvs : List (κ × V), valV (kvs.map fun kv => if kv.1 = k then (kv.1, y) else kv) j = (valV kvs j).map fun x => if j = k then y else x
  | [] => rfl
  | p :: r => by
    have ih := valV_map k j y r
    rw [List.map_cons]
    by_cases h : p.1 = k
    · rw [if_pos h]
      by_cases e : p.1 = j
      · rw [valV_pos (p := (p.1, y)) e, valV_pos e, Option.map_some, if_pos (e.symm.trans h)]
      · rw [valV_neg (p := (p.1, y)) e, valV_neg e, ih]
    · rw [if_neg h]
      by_cases e : p.1 = j
      · rw [valV_pos (p := p) e, valV_pos e, Option.map_some, if_neg (fun z => h (e.trans z))]
      · rw [valV_neg (p := p) e, valV_neg e, ih]
theorem valV_snoc (k j : κ) (y : V) : ∀ kvs : List (κ × V), valV kvs k = none → valV (kvs ++ [(k, y)]) j = if j = k then some y else valV kvs j
  | [], _ => by
    by_cases e : k = j
    · rw [if_pos e.symm]; exact valV_pos (p := (k, y)) e
    · rw [if_neg (fun z => e z.symm)]; exact valV_neg (p := (k, y)) e
  | p :: r, hn => by
    rw [List.cons_append]
    have hk : ¬ p.1 = k := fun z => by rw [valV_pos z] at hn; cases hn
    rw [valV_neg hk] at hn
    have ih := valV_snoc k j y r hn
    by_cases e : p.1 = j
    · rw [valV_pos e, valV_pos e, if_neg (fun z => hk (e.trans z))]
    · rw [valV_neg e, valV_neg e, ih]
theorem valV_put (kvs : List (κ × V)) (k j : κ) (y : V) : valV (putK kvs k y) j = if j = k then some y else valV kvs j := by
  unfold putK
  by_cases a : (kvs.any fun kv => decide (kv.1 = k)) = true
  · rw [if_pos a, valV_map]
    rw [valV_any] at a
    by_cases e : j = k
    · obtain ⟨x, hx⟩ := Option.isSome_iff_exists.mp a
      rw [if_pos e, e, hx, Option.map_some, if_pos rfl]
    · rw [if_neg e]
      cases valV kvs j with
      | none => rfl
      | some x => rw [Option.map_some, if_neg e]
  · rw [if_neg a]
    refine valV_snoc k j y kvs ?_
    rw [valV_any] at a
    cases q : valV kvs k with
    | none => rfl
    | some x => rw [q] at a; exact (a rfl).elim
theorem length_putK (kvs : List (κ × V)) (k : κ) (v : V) : (putK kvs k v).length ≤ kvs.length + 1 := by
  unfold putK
  split
  · rw [List.length_map]; omega
  · rw [List.length_append, List.length_cons, List.length_nil]; omega
theorem putK_new {kvs : List (κ × V)} {k : κ} (v : V) (h : valV kvs k = none) : putK kvs k v = kvs ++ [(k, v)] := by
  unfold putK
  rw [valV_any, h]
  exact if_neg (by decide)

theorem RelO.isSome_eq {o : Option V} {u : Option Value} (r : RelO o u) : o.isSome = u.isSome := by
  cases o with
  | none => cases u with
    | none => rfl
    | some _ => exact (show False from r).elim
  | some _ => cases u with
    | none => exact (show False from r).elim
    | some _ => rfl
theorem RelO.getD {o : Option V} {u : Option Value} {d : V} {d' : Value} (r : RelO o u) (rd : RelV d d') : RelV (o.getD d) (u.getD d') := by
  cases o with
  | none => cases u with
    | none => exact rd
    | some _ => exact (show False from r).elim
  | some _ => cases u with
    | none => exact (show False from r).elim
    | some _ => exact r

/-- raw tables of the same keys -/
theorem KV.val {kvs : List (κ × V)} {vs : List (κ × Value)} (r : KV kvs vs) (k : κ) : RelO (valV kvs k) (valueAt vs k) := by
  unfold KV at r
  induction r with
  | nil => exact True.intro
  | @cons p q ps qs h t ih =>
    obtain ⟨h1, h2⟩ := h
    by_cases e : p.1 = k
    · have e' : q.1 = k := h1.symm.trans e
      have b : valueAt (q :: qs) k = some q.2 := by simp [valueAt, List.find?_cons, e']
      rw [valV_pos e, b]; exact h2
    · have e' : ¬ q.1 = k := fun z => e (h1.trans z)
      have b : valueAt (q :: qs) k = valueAt qs k := by simp [valueAt, List.find?_cons, e']
      rw [valV_neg e, b]; exact ih
theorem KV.any {kvs : List (κ × V)} {vs : List (κ × Value)} (r : KV kvs vs) (k : κ) : (kvs.any fun kv => decide (kv.1 = k)) = vs.any fun kv => decide (kv.1 = k) := by
  unfold KV at r
  induction r with
  | nil => rfl
  | cons h t ih => rw [List.any_cons, List.any_cons, ih, h.1]
theorem KV.repl {kvs : List (κ × V)} {vs : List (κ × Value)} (r : KV kvs vs) (k : κ) {y : V} {u : Value} (ry : RelV y u) :
    KV (kvs.map fun kv => if kv.1 = k then (kv.1, y) else kv) (vs.map fun kv => if kv.1 = k then (kv.1, u) else kv) := by
  unfold KV at r ⊢
  induction r with
  | nil => exact .nil
  | @cons p q ps qs h t ih =>
    rw [List.map_cons, List.map_cons]
    refine .cons ?_ ih
    obtain ⟨h1, h2⟩ := h
    by_cases e : p.1 = k
    · rw [if_pos e, if_pos (h1.symm.trans e)]; exact ⟨h1, ry⟩
    · rw [if_neg e, if_neg (fun z => e (h1.trans z))]; exact ⟨h1, h2⟩
theorem KV.put {kvs : List (κ × V)} {vs : List (κ × Value)} (r : KV kvs vs) (k : κ) {y : V} {u : Value} (ry : RelV y u) : KV (putK kvs k y) (stored vs k u) := by
  unfold putK stored
  rw [r.any k]
  by_cases e : (vs.any fun kv => decide (kv.1 = k)) = true
  · rw [if_pos e, if_pos e]; exact r.repl k ry
  · rw [if_neg e, if_neg e]; exact Paired.snoc r ⟨rfl, ry⟩
theorem KV.drop {kvs : List (κ × V)} {vs : List (κ × Value)} (r : KV kvs vs) (k : κ) : KV (dropK kvs k) (without vs k) := by
  unfold KV at r ⊢
  unfold dropK without
  induction r with
  | nil => exact .nil
  | @cons p q ps qs h t ih =>
    obtain ⟨h1, h2⟩ := h
    rw [List.filter_cons, List.filter_cons]
    by_cases e : p.1 = k
    · have a : ¬ decide (p.1 ≠ k) = true := by simp [e]
      have b : ¬ decide (q.1 ≠ k) = true := by simp [h1.symm.trans e]
      rw [if_neg a, if_neg b]; exact ih
    · have e' : ¬ q.1 = k := fun z => e (h1.trans z)
      have a : decide (p.1 ≠ k) = true := by simp [e]
      have b : decide (q.1 ≠ k) = true := by simp [e']
      rw [if_pos a, if_pos b]; exact .cons ⟨h1, h2⟩ ih
theorem KV.keys {kvs : List (κ × V)} {vs : List (κ × Value)} (r : KV kvs vs) : kvs.map (·.1) = vs.map (·.1) := by
  unfold KV at r
  induction r with
  | nil => rfl
  | cons h t ih => rw [List.map_cons, List.map_cons, ih, h.1]
theorem KV.length {kvs : List (κ × V)} {vs : List (κ × Value)} (r : KV kvs vs) : kvs.length = vs.length := Paired.length r
theorem dropK_le (kvs : List (κ × V)) (k : κ) : (dropK kvs k).length ≤ kvs.length := List.length_filter_le _ _
end


/-! ### a tracked dict, its keys ints and texts or tuples of these -/
theorem kV_is {P : Program} {w : World} {k : Key} {u : Value} (r : RelV (kV k) u) : (mixKind P w).is k u = true := by
  cases k with
  | inl i => obtain ⟨t, e⟩ := (show ∃ t, u = Value.int i t from r); subst e; exact mixKind_int P w i t
  | inr x => obtain ⟨t, e⟩ := (show ∃ t, u = Value.str x t from r); subst e; exact mixKind_str P w x t
theorem kV_inj {a b : Key} (e : kV a = kV b) : a = b := by
  cases a with
  | inl i => cases b with
    | inl j => have e' : V.int i = V.int j := e; injection e' with e'; rw [e']
    | inr y => exact nomatch (show V.int i = V.str y from e)
  | inr x => cases b with
    | inl j => exact nomatch (show V.str x = V.int j from e)
    | inr y => have e' : V.str x = V.str y := e; injection e' with e'; rw [e']
theorem kVs_inj : ∀ {a b : List Key}, a.map kV = b.map kV → a = b
  | [], [], _ => rfl
  | [], _ :: _, e => by simp at e
  | _ :: _, [], e => by simp at e
  | x :: xs, y :: ys, e => by
    rw [List.map_cons, List.map_cons] at e
    injection e with e1 e2
    rw [kV_inj e1, kVs_inj e2]
theorem items_are {P : Program} {w : World} : ∀ {ks : List Key} {us : List Value}, Vals (ks.map kV) us → ItemsAre (mixKind P w) ks us
  | [], _, r => by rw [List.map_nil] at r; cases r; exact .nil
  | k :: ks, _, r => by
    rw [List.map_cons] at r
    cases r with
    | cons h t => exact .cons (kV_is h) (items_are t)

/-- raw entries of a dict with tuple keys -/
abbrev KT (H : Hp) : List (List Key × V) → List (List Key × Addr × Value) → Prop := Paired fun p q => p.1 = q.1 ∧ H q.2.1 = some (.tup (p.1.map kV)) ∧ RelV p.2 q.2.2
theorem KT.val {H : Hp} {kvs : List (List Key × V)} {xs : List (List Key × Addr × Value)} (r : KT H kvs xs) (k : List Key) : RelO (valV kvs k) ((atKey xs k).map (·.2)) := by
  induction r with
  | nil => exact True.intro
  | @cons p q ps qs h t ih =>
    obtain ⟨h1, _, h2⟩ := h
    by_cases e : p.1 = k
    · have e' : q.1 = k := h1.symm.trans e
      have b : atKey (q :: qs) k = some q.2 := by simp [atKey, List.find?_cons, e']
      rw [valV_pos e, b]; exact h2
    · have e' : ¬ q.1 = k := fun z => e (h1.trans z)
      have b : atKey (q :: qs) k = atKey qs k := by simp [atKey, List.find?_cons, e']
      rw [valV_neg e, b]; exact ih
theorem KT.repl {H : Hp} {kvs : List (List Key × V)} {xs : List (List Key × Addr × Value)} (r : KT H kvs xs) (k : List Key) {y : V} {u : Value} (ry : RelV y u) :
    KT H (kvs.map fun kv => if kv.1 = k then (kv.1, y) else kv) (xs.map (putAt k u)) := by
  induction r with
  | nil => exact .nil
  | @cons p q ps qs h t ih =>
    rw [List.map_cons, List.map_cons]
    refine .cons ?_ ih
    obtain ⟨h1, h2, h3⟩ := h
    unfold putAt
    by_cases e : p.1 = k
    · rw [if_pos e, if_pos (h1.symm.trans e)]; exact ⟨h1, h2, ry⟩
    · rw [if_neg e, if_neg (fun z => e (h1.trans z))]; exact ⟨h1, h2, h3⟩
theorem KT.put {H : Hp} {kvs : List (List Key × V)} {xs : List (List Key × Addr × Value)} (r : KT H kvs xs) (k : List Key) {b : Addr} {y : V} {u : Value} (hb : H b = some (.tup (k.map kV))) (ry : RelV y u) :
    KT H (putK kvs k y) (storedH xs k b u) := by
  have e : (kvs.any fun kv => decide (kv.1 = k)) = (atKey xs k).isSome := by
    rw [valV_any, (r.val k).isSome_eq, Option.isSome_map]
  unfold putK storedH
  rw [e]
  by_cases q : (atKey xs k).isSome = true
  · rw [if_pos q, if_pos q]; exact r.repl k ry
  · rw [if_neg q, if_neg q]; exact Paired.snoc r ⟨rfl, hb, ry⟩
theorem KT.keeps {H H' : Hp} {kvs : List (List Key × V)} {xs : List (List Key × Addr × Value)} (r : KT H kvs xs) (ht : ∀ b ys, H b = some (.tup ys) → H' b = some (.tup ys)) : KT H' kvs xs :=
  Paired.mapP r fun _ _ z => ⟨z.1, ht _ _ z.2.1, z.2.2⟩

section
variable {P : Program} {w : World} {H : Hp} {h : Heap} {a : Addr}
theorem rd_of {u : HO} (ok : HOk P w H h) (e : Rd H a u) : ObjOk P w H h a u := e.ok ok
theorem dk_rd {kvs : List (Key × V)} (ok : HOk P w H h) (e : Rd H a (.dK kvs)) : kvs.length ≤ sizeLine ∧ (a == sysModules) = false ∧ ∃ vs, KV kvs vs ∧ h.DictOf (mixKind P w) a vs :=
  show ObjOk P w H h a (.dK kvs) from rd_of ok e
theorem dk_of {kvs : List (Key × V)} (ok : HOk P w H h) (e : H a = some (.dK kvs)) : kvs.length ≤ sizeLine ∧ (a == sysModules) = false ∧ ∃ vs, KV kvs vs ∧ h.DictOf (mixKind P w) a vs := dk_rd ok (.inl e)
/-- a tracked tuple of ints and texts is a key -/
theorem key_of {ks : List Key} (ok : HOk P w H h) (e : H a = some (.tup (ks.map kV))) : (tupleKind (mixKind P w)).is h ks a := by
  obtain ⟨_, its, r, o, h1, h2, n, h3⟩ := (show ObjOk P w H h a (.tup (ks.map kV)) from ok a _ e)
  exact ⟨o, its.toArray, n, h1, h2, h3, by simpa using items_are r⟩
theorem dt_rd {kvs : List (List Key × V)} (ok : HOk P w H h) (e : Rd H a (.dT kvs)) : kvs.length ≤ sizeLine ∧ (a == sysModules) = false ∧
    ∃ xs, KT H kvs xs ∧ h.DictOfH (tupleKind (mixKind P w)) a xs := by
  obtain ⟨z, y, xs, r, o, es, ep, h1, h2, h3, h4, h5⟩ := (show ObjOk P w H h a (.dT kvs) from rd_of ok e)
  refine ⟨z, y, xs, r, o, es, ep, h1, h2, h3, h4, fun x hx => ?_, h5⟩
  have all : ∀ {l : List (List Key × V)} {m : List (List Key × Addr × Value)}, KT H l m → ∀ x ∈ m, (tupleKind (mixKind P w)).is h x.1 x.2.1 := by
    intro l m q
    induction q with
    | nil => intro x hx; exact nomatch hx
    | @cons p q ps qs hq t ih =>
      intro x hx
      rcases List.mem_cons.mp hx with e | hx
      · subst e
        exact key_of ok (by rw [← hq.1]; exact hq.2.1)
      · exact ih x hx
  exact all r x hx
theorem dt_of {kvs : List (List Key × V)} (ok : HOk P w H h) (e : H a = some (.dT kvs)) : kvs.length ≤ sizeLine ∧ (a == sysModules) = false ∧
    ∃ xs, KT H kvs xs ∧ h.DictOfH (tupleKind (mixKind P w)) a xs := dt_rd ok (.inl e)
end

/-- what the dict at a holds at the key y -/
def DGet (H : Hp) (a : Addr) (y : V) (r : Option V) : Prop :=
  (∃ kvs k, Rd H a (.dK kvs) ∧ y = kV k ∧ r = valV kvs k) ∨ ∃ kvs k b, Rd H a (.dT kvs) ∧ y = .ref b ∧ H b = some (.tup (k.map kV)) ∧ r = valV kvs k
/-- the heap behind a[y] = v -/
def DPut (H : Hp) (a : Addr) (y v : V) (H' : Hp) : Prop :=
  (∃ kvs k, H a = some (.dK kvs) ∧ y = kV k ∧ kvs.length < sizeLine ∧ H' = upd H a (.dK (putK kvs k v))) ∨
  ∃ kvs k b, H a = some (.dT kvs) ∧ y = .ref b ∧ H b = some (.tup (k.map kV)) ∧ kvs.length < sizeLine ∧ H' = upd H a (.dT (putK kvs k v))
theorem DGet.k {H : Hp} {a : Addr} {kvs : List (Key × V)} {k : Key} (e : H a = some (.dK kvs)) : DGet H a (kV k) (valV kvs k) := .inl ⟨kvs, k, .inl e, rfl, rfl⟩
theorem DGet.t {H : Hp} {a b : Addr} {kvs : List (List Key × V)} {k : List Key} (e : H a = some (.dT kvs)) (eb : H b = some (.tup (k.map kV))) : DGet H a (.ref b) (valV kvs k) := .inr ⟨kvs, k, b, .inl e, rfl, eb, rfl⟩
theorem DPut.k {H : Hp} {a : Addr} {kvs : List (Key × V)} {k : Key} {v : V} (e : H a = some (.dK kvs)) (hl : kvs.length < sizeLine) : DPut H a (kV k) v (upd H a (.dK (putK kvs k v))) := .inl ⟨kvs, k, e, rfl, hl, rfl⟩
theorem DPut.t {H : Hp} {a b : Addr} {kvs : List (List Key × V)} {k : List Key} {v : V} (e : H a = some (.dT kvs)) (eb : H b = some (.tup (k.map kV))) (hl : kvs.length < sizeLine) :
    DPut H a (.ref b) v (upd H a (.dT (putK kvs k v))) := .inr ⟨kvs, k, b, e, rfl, eb, hl, rfl⟩


section
variable {X : Cx} {pins : List (Addr × Obj)} {σ : St} {H : Hp} {s : Shared} {a : Addr} {y v : V} {u r : Value} {o : Option V} {A : Around} {E : Value → Shared → Prop}

theorem Inv.big (I : Inv X pins σ H s) : sysModules < s.heap.objs.size := by
  have h : mainGlobals < s.heap.objs.size := (I.mod.glob.keeps I.bk).lt
  exact Nat.lt_trans (by decide) h

/-- d[y], there -/
theorem d_getItem {Q : Value → Shared → Prop} (hu : A.units + 1 < cLine) (I : Inv X pins σ H s) (g : DGet H a y (some v)) (ry : RelV y u) (h : ∀ w' s', Inv X pins σ H s' → RelV v w' → Q w' s') :
    wpAny (model X.prog X.w) A (getItem (.ref a) u) Q E s := by
  rcases g with ⟨kvs, k, e, ey, l⟩ | ⟨kvs, k, b, e, ey, eb, l⟩
  · subst ey
    obtain ⟨z, hd, vs, rel, dd⟩ := dk_rd I.hok e
    obtain ⟨w', hw, rw'⟩ := RelO.some_of (v := v) (o := valueAt vs k) (by rw [l]; exact rel.val k)
    exact wpAny_getItem_of (kV_is ry) dd.mapOf hw (h w' _ (I.tok _) rw')
  · subst ey
    cases (show u = Value.ref b from ry)
    obtain ⟨z, hd, xs, rel, dd⟩ := dt_rd I.hok e
    obtain ⟨w', hw, rw'⟩ := RelO.some_of (v := v) (o := (atKey xs k).map (·.2)) (by rw [l]; exact rel.val k)
    obtain ⟨p, hp, hp2⟩ := Option.map_eq_some_iff.mp hw
    refine wpAny_getItem_heap (tupleKind_room_in1 hu) (key_of I.hok eb) dd hp ?_
    rw [hp2]
    exact h w' _ (I.tok _) rw'
/-- y in d -/
theorem d_in {Q : Value → Shared → Prop} (hu : A.units + 1 < cLine) (I : Inv X pins σ H s) (g : DGet H a y o) (ry : RelV y u) (h : ∀ s', Inv X pins σ H s' → Q (.bool o.isSome) s') :
    wpAny (model X.prog X.w) A (compareOp .In u (.ref a)) Q E s := by
  rcases g with ⟨kvs, k, e, ey, l⟩ | ⟨kvs, k, b, e, ey, eb, l⟩
  · subst ey
    obtain ⟨z, hd, vs, rel, dd⟩ := dk_rd I.hok e
    refine wpAny_in_of (kV_is ry) hd dd.mapOf ?_
    rw [← (rel.val k).isSome_eq, ← l]
    exact h _ (I.tok _)
  · subst ey
    cases (show u = Value.ref b from ry)
    obtain ⟨z, hd, xs, rel, dd⟩ := dt_rd I.hok e
    refine wpAny_in_heap (tupleKind_room_in1 hu) (key_of I.hok eb) hd dd ?_
    have q := (rel.val k).isSome_eq
    rw [Option.isSome_map] at q
    rw [← q, ← l]
    exact h _ (I.tok _)
theorem d_notIn {Q : Value → Shared → Prop} (hu : A.units + 1 < cLine) (I : Inv X pins σ H s) (g : DGet H a y o) (ry : RelV y u) (h : ∀ s', Inv X pins σ H s' → Q (.bool (!o.isSome)) s') :
    wpAny (model X.prog X.w) A (compareOp .NotIn u (.ref a)) Q E s := by
  rcases g with ⟨kvs, k, e, ey, l⟩ | ⟨kvs, k, b, e, ey, eb, l⟩
  · subst ey
    obtain ⟨z, hd, vs, rel, dd⟩ := dk_rd I.hok e
    refine wpAny_notIn_of (kV_is ry) hd dd.mapOf ?_
    rw [← (rel.val k).isSome_eq, ← l]
    exact h _ (I.tok _)
  · subst ey
    cases (show u = Value.ref b from ry)
    obtain ⟨z, hd, xs, rel, dd⟩ := dt_rd I.hok e
    refine wpAny_notIn_heap (tupleKind_room_in1 hu) (key_of I.hok eb) hd dd ?_
    have q := (rel.val k).isSome_eq
    rw [Option.isSome_map] at q
    rw [← q, ← l]
    exact h _ (I.tok _)
/-- a dict's object is replaced -/
theorem d_write {h' : Heap} {t' : Nat} {ob : HO} (I : Inv X pins σ H s) (mu : Mut (H a)) (hs : Heap.SameBut a s.heap h') (he : ∃ q, h'.get? a = some q) (new : ObjOk X.prog X.w (upd H a ob) h' a ob) :
    Inv X pins σ (upd H a ob) { s with heap := h', toks := t' } :=
  I.write (x := a) (e := a) mu (.inl rfl) (fun b q hb z => (hs.2 b hb).trans z) he new
theorem dk_new {P : Program} {w : World} {H' : Hp} {h' : Heap} {kvs : List (Key × V)} {vs : List (Key × Value)} (z : kvs.length ≤ sizeLine) (hd : (a == sysModules) = false) (rel : KV kvs vs) (dd : h'.DictOf (mixKind P w) a vs) :
    ObjOk P w H' h' a (.dK kvs) := ⟨z, hd, vs, rel, dd⟩
/-- d[y] = v -/
theorem d_setItem {H' : Hp} {Q : Unit → Shared → Prop} (hu : A.units + 1 < cLine) (I : Inv X pins σ H s) (g : DPut H a y v H') (ry : RelV y u) (rv : RelV v r) (h : ∀ s', Inv X pins σ H' s' → Q () s') :
    wpAny (model X.prog X.w) A (setItem (.ref a) u r) Q E s := by
  rcases g with ⟨kvs, k, e, ey, l, eH⟩ | ⟨kvs, k, b, e, ey, eb, l, eH⟩
  · subst ey eH
    obtain ⟨z, hd, vs, rel, dd⟩ := dk_of I.hok e
    have hz : vs.length ≤ sizeLine := by rw [← rel.length]; exact z
    have hl : (putK kvs k v).length ≤ sizeLine := by have := length_putK kvs k v; omega
    refine wpAny_setItem_pairs (hsz := hz) (kV_is ry) dd fun h' dd' hs => h _ ?_
    have he : ∃ q, h'.get? a = some q := let ⟨q, _, _, hq, _⟩ := dd'; ⟨q, hq⟩
    exact d_write I (by rw [e]; exact True.intro) hs he (dk_new hl hd (rel.put k rv) dd')
  · subst ey eH
    cases (show u = Value.ref b from ry)
    obtain ⟨z, hd, xs, rel, dd⟩ := dt_of I.hok e
    have hz : xs.length ≤ sizeLine := by rw [← Paired.length rel]; exact z
    have hl : (putK kvs k v).length ≤ sizeLine := by have := length_putK kvs k v; omega
    refine wpAny_setItem_heap (hsz := hz) (tupleKind_room_in1 hu) (key_of I.hok eb) dd fun h' dd' hs => h _ ?_
    obtain ⟨q, es, ep, hq, h2, h3, h4, _, h5⟩ := dd'
    refine d_write I (by rw [e]; exact True.intro) hs ⟨q, hq⟩ ⟨hl, hd, _, (rel.put k eb rv).keeps fun c ys ec => ?_, q, es, ep, hq, h2, h3, h4, h5⟩
    rw [upd_ne (ne_of ec e (fun z => nomatch z))]
    exact ec
end

section
variable {X : Cx} {pins : List (Addr × Obj)} {σ : St} {H : Hp} {s : Shared} {a : Addr} {kvs : List (Key × V)} {k : Key} {u : Value} {A : Around} {E : Value → Shared → Prop}
/-- del d[k] -/
theorem d_delItem {Q : Unit → Shared → Prop} (I : Inv X pins σ H s) (e : H a = some (.dK kvs)) (ry : RelV (kV k) u) (l : (valV kvs k).isSome = true) (h : ∀ s', Inv X pins σ (upd H a (.dK (dropK kvs k))) s' → Q () s') :
    wpAny (model X.prog X.w) A (delItem (.ref a) u) Q E s := by
  obtain ⟨z, hd, vs, rel, dd⟩ := dk_of I.hok e
  refine wpAny_delItem_slot dd.typeIs (by decide) PySem.F.slot_dict_delitem
    (call_meetsIn PySem.F.slot_dict_delitem dd.typeIs PySem.F.entry_dict_delitem (PySem.F.args_dict_delitem_2 _ _) (meets_dict_delitem_pairs (mixKind X.prog X.w) a (kV_is ry)) ⟨vs, dd, by rw [← rel.length]; exact z, by rw [← (rel.val k).isSome_eq]; exact l, fun h' dd' hs => h _ ?_⟩)
  have he : ∃ q, h'.get? a = some q := let ⟨q, _, _, hq, _⟩ := dd'; ⟨q, hq⟩
  exact d_write I (by rw [e]; exact True.intro) hs he (dk_new (Nat.le_trans (dropK_le kvs k) z) hd (rel.drop k) dd')
/-- d.pop(k[, x]), there -/
theorem d_pop {v : V} {more : List Value} {Q : Value → Shared → Prop} (I : Inv X pins σ H s) (e : H a = some (.dK kvs)) (ry : RelV (kV k) u) (l : valV kvs k = some v) (hm : more = [] ∨ ∃ x, more = [x])
    (h : ∀ w' s', Inv X pins σ (upd H a (.dK (dropK kvs k))) s' → RelV v w' → Q w' s') : wpAny (model X.prog X.w) A (call (.builtin "dict.pop") (.ref a :: u :: more)) Q E s := by
  obtain ⟨z, hd, vs, rel, dd⟩ := dk_of I.hok e
  obtain ⟨w', hw, rw'⟩ := RelO.some_of (v := v) (o := valueAt vs k) (by rw [← l]; exact rel.val k)
  have hp : (keyPart u).isSome = true := by
    cases k with
    | inl i => obtain ⟨t, q⟩ := (show ∃ t, u = Value.int i t from ry); subst q; rfl
    | inr x => obtain ⟨t, q⟩ := (show ∃ t, u = Value.str x t from ry); subst q; rfl
  have ha : argsOk "dict.pop" ⟨.ref a :: u :: more, []⟩ := by
    rcases hm with q | ⟨x, q⟩
    · subst q; exact PySem.F.args_dict_pop_2 _ _
    · subst q; exact PySem.F.args_dict_pop_3 _ _ _
  refine call_meetsIn PySem.F.slot_dict_pop dd.typeIs PySem.F.entry_dict_pop ha (meets_dict_pop_there (mixKind X.prog X.w) a (kV_is ry) more hm hp)
    ⟨vs, w', dd, by rw [← rel.length]; exact z, hw, fun h' dd' hs => h w' _ ?_ rw'⟩
  have he : ∃ q, h'.get? a = some q := let ⟨q, _, _, hq, _⟩ := dd'; ⟨q, hq⟩
  exact d_write I (by rw [e]; exact True.intro) hs he (dk_new (Nat.le_trans (dropK_le kvs k) z) hd (rel.drop k) dd')
/-- d.pop(k, x), not there -/
theorem d_popD {r : Value} {Q : Value → Shared → Prop} (I : Inv X pins σ H s) (e : H a = some (.dK kvs)) (ry : RelV (kV k) u) (l : valV kvs k = none) (h : ∀ s', Inv X pins σ H s' → Q r s') :
    wpAny (model X.prog X.w) A (call (.builtin "dict.pop") [.ref a, u, r]) Q E s := by
  obtain ⟨z, hd, vs, rel, dd⟩ := dk_of I.hok e
  have hn : valueAt vs k = none := RelO.none_of (by rw [← l]; exact rel.val k)
  have hp : (keyPart u).isSome = true := by
    cases k with
    | inl i => obtain ⟨t, q⟩ := (show ∃ t, u = Value.int i t from ry); subst q; rfl
    | inr x => obtain ⟨t, q⟩ := (show ∃ t, u = Value.str x t from ry); subst q; rfl
  exact call_meetsIn PySem.F.slot_dict_pop dd.typeIs PySem.F.entry_dict_pop (PySem.F.args_dict_pop_3 _ _ _) (meets_dict_pop_default (mixKind X.prog X.w) a (kV_is ry) hd hp r) ⟨vs, dd, hn, h _ (I.tok _)⟩
/-- d.clear() -/
theorem d_clear {Q : Value → Shared → Prop} (I : Inv X pins σ H s) (e : H a = some (.dK kvs)) (h : ∀ s', Inv X pins σ (upd H a (.dK [])) s' → Q .none s') : wpAny (model X.prog X.w) A (call (.builtin "dict.clear") [.ref a]) Q E s := by
  obtain ⟨z, hd, vs, rel, dd⟩ := dk_of I.hok e
  refine call_meetsIn PySem.F.slot_dict_clear dd.typeIs PySem.F.entry_dict_clear (PySem.F.args_dict_clear_1 _) (meets_dict_clear (mixKind X.prog X.w) a) ⟨vs, dd, by rw [← rel.length]; exact z, fun h' dd' hs => h _ ?_⟩
  have he : ∃ q, h'.get? a = some q := let ⟨q, _, _, hq, _⟩ := dd'; ⟨q, hq⟩
  exact d_write (t' := s.toks) I (by rw [e]; exact True.intro) hs he (dk_new (Nat.zero_le _) hd .nil dd')
/-- len(d) -/
theorem d_len {Q : Value → Shared → Prop} (I : Inv X pins σ H s) (e : Rd H a (.dK kvs)) (h : ∀ t s', Inv X pins σ H s' → Q (.int kvs.length t) s') : wpAny (model X.prog X.w) A (call (.builtin "len") [.ref a]) Q E s := by
  obtain ⟨z, hd, vs, rel, dd⟩ := dk_rd I.hok e
  refine call_len_dict hd dd (by rw [← rel.length]; rw [sizeLine_eq] at z; omega) ?_
  rw [← rel.length]
  exact h _ _ (I.tok _)
/-- if d -/
theorem d_truth {Q : Bool → Shared → Prop} (I : Inv X pins σ H s) (e : Rd H a (.dK kvs)) (h : ∀ s', Inv X pins σ H s' → Q (!kvs.isEmpty) s') : wpAny (model X.prog X.w) A (truthy (.ref a)) Q E s := by
  obtain ⟨z, hd, vs, rel, dd⟩ := dk_rd I.hok e
  refine wpAny_truthy_dict hd dd (by rw [← rel.length]; rw [sizeLine_eq] at z; omega) ?_
  have q : kvs.isEmpty = vs.isEmpty := by cases rel <;> rfl
  rw [← q]
  exact h _ (I.tok _)
end


/-! ### readings and rules -/
/-- the element of a subscription, not a slice -/
def NoSl (i : Expr) : Prop := ∀ ov iv, subscripted i false ov iv = operate [ov, iv] (getItem ov iv)
theorem subD_of {prog : Program} {w : World} {A : Around} {E : Value → Shared → Prop} {s : Shared} {env : Env} {value slice : Expr} {pos : Pos} {T id : String} {Q : Value → Shared → Prop}
    (hl : typeLookup (.type T) "__getitem__" = pure (some (.builtin id))) (hs : NoSl slice)
    (h : wpAny (model prog w) A (eval value env) (fun o s₁ => wpAny (model prog w) A (eval slice env) (fun i s₂ => s₂.TypeIs o T ∧ wpAny (model prog w) A (getItem o i) Q E s₂) E s₁) E s) :
    wpAny (model prog w) A (eval (.Subscript value slice pos) env) Q E s := by
  refine Subscript_ (wpAny_mono h (fun o s₁ h₁ => wpAny_mono h₁ (fun i s₂ h₂ => ?_) fun _ _ x => x) fun _ _ x => x)
  obtain ⟨hT, h₂⟩ := h₂
  unfold subscriptTail
  refine wpAny_bind ?_
  rw [getitemInPython_of_ne hT.not_modules]
  refine wpAny_bind (wpAny_specialOf hT hl ?_)
  have fin : wpAny (model prog w) A (subscripted slice false o i) (fun r s₃ => wpAny (model prog w) A (letTemporaryGo value o r >>= fun _ => pure r) Q E s₃) E s₂ := by
    rw [hs o i]
    exact wpAny_operating (wpAny_mono h₂ (fun r s₃ h₃ => wpAny_bind (wpAny_letTemporaryGo (wpAny_pure h₃))) fun _ _ x => x)
  first
    | exact wpAny_pure (wpAny_bind fin)
    | exact wpAny_bind (wpAny_pure (wpAny_bind fin))
    | exact wpAny_bind fin

theorem dict_typeIs {X : Cx} {pins : List (Addr × Obj)} {σ : St} {H : Hp} {s : Shared} {a : Addr} {y : V} {o : Option V} (I : Inv X pins σ H s) (g : DGet H a y o) : s.TypeIs (.ref a) "dict" := by
  rcases g with ⟨kvs, k, e, _, _⟩ | ⟨kvs, k, b, e, _, _, _⟩
  · obtain ⟨_, _, vs, _, dd⟩ := dk_rd I.hok e
    exact dd.typeIs
  · obtain ⟨_, _, xs, _, dd⟩ := dt_rd I.hok e
    exact dd.typeIs
theorem dict_noDict {X : Cx} {pins : List (Addr × Obj)} {σ : St} {H : Hp} {s : Shared} {a : Addr} {y : V} {o : Option V} (I : Inv X pins σ H s) (g : DGet H a y o) :
    ∀ b, Value.ref a = .ref b → ∃ ob, s.heap.get? b = some ob ∧ ob.dict = none := fun b q => by
  cases q
  rcases g with ⟨kvs, k, e, _, _⟩ | ⟨kvs, k, b, e, _, _, _⟩
  · obtain ⟨_, _, vs, _, ob, _, _, h1, h2, _⟩ := dk_rd I.hok e
    exact ⟨ob, h1, h2.2.1⟩
  · obtain ⟨_, _, xs, _, ob, _, _, h1, h2, _⟩ := dt_rd I.hok e
    exact ⟨ob, h1, h2.2.1⟩

/-- d[y] -/
def tDGet (td ty : TE) : TE := fun σ H Q => td σ H fun x H1 => ty σ H1 fun y H2 => ∃ a v, x = .ref a ∧ DGet H2 a y (some v) ∧ Q v H2
/-- y in d, y not in d -/
def tDIn (ty td : TE) : TE := fun σ H Q => ty σ H fun y H1 => td σ H1 fun x H2 => ∃ a o, x = .ref a ∧ DGet H2 a y o ∧ Q (.bl o.isSome) H2
def tDNotIn (ty td : TE) : TE := fun σ H Q => ty σ H fun y H1 => td σ H1 fun x H2 => ∃ a o, x = .ref a ∧ DGet H2 a y o ∧ Q (.bl (!o.isSome)) H2
/-- d[y] = v -/
def sDPut (td ty tv : TE) : TS := fun D σ H => tv σ H fun v H1 => td σ H1 fun x H2 => ty σ H2 fun y H3 => ∃ a H4, x = .ref a ∧ DPut H3 a y v H4 ∧ D.nx σ H4
/-- d[y] op= v -/
def sDAug (td ty tv : TE) (rd : V → V → Hp → VK → Prop) : TS := fun D σ H => td σ H fun x H1 => ty σ H1 fun y H2 => ∃ a v, x = .ref a ∧ DGet H2 a y (some v) ∧
  tv σ H2 fun y2 H3 => rd v y2 H3 fun z H4 => ∃ H5, DPut H4 a y z H5 ∧ D.nx σ H5
/-- del d[y] -/
def sDDel (td ty : TE) : TS := fun D σ H => td σ H fun x H1 => ty σ H1 fun y H2 => ∃ a kvs k, x = .ref a ∧ H2 a = some (.dK kvs) ∧ y = kV k ∧ (valV kvs k).isSome = true ∧ D.nx σ (upd H2 a (.dK (dropK kvs k)))

section
variable {X : Cx} {o i e value : Expr} {pos pos' tpos : Pos} {td ty tv : TE}
theorem pe_dget (hu : X.A.units + 1 < cLine) (ho : PE X o td) (hi : PE X i ty) (hs : NoSl i) : PE X (.Subscript o i pos) (tDGet td ty) := by
  intro pins s σ H Q I h
  refine subD_of PySem.F.slot_dict_getitem.lookup hs (thn (ho pins s σ H _ I h) fun u s1 ⟨x, H1, I1, rx, q1⟩ => thn (hi pins s1 σ H1 _ I1 q1) fun iv s2 ⟨y, H2, I2, ry, a, v, ex, g, q2⟩ => ?_)
  subst ex
  obtain rfl : u = Value.ref a := rx
  exact ⟨dict_typeIs I2 g, d_getItem hu I2 g ry fun w' s3 I3 rw' => ⟨v, H2, I3, rw', q2⟩⟩
theorem pc_din (hu : X.A.units + 1 < cLine) (hi : PE X i ty) (ho : PE X o td) : PC X .In i o (tDIn ty td) := by
  intro pins s σ H Q I h
  refine thn (hi pins s σ H _ I h) fun iv s1 ⟨y, H1, I1, ry, q1⟩ => thn (ho pins s1 σ H1 _ I1 q1) fun u s2 ⟨x, H2, I2, rx, a, ov, ex, g, q2⟩ => ?_
  subst ex
  obtain rfl : u = Value.ref a := rx
  exact d_in hu I2 g ry fun s3 I3 => ⟨.bl ov.isSome, H2, I3, rfl, q2⟩
theorem pc_dnotin (hu : X.A.units + 1 < cLine) (hi : PE X i ty) (ho : PE X o td) : PC X .NotIn i o (tDNotIn ty td) := by
  intro pins s σ H Q I h
  refine thn (hi pins s σ H _ I h) fun iv s1 ⟨y, H1, I1, ry, q1⟩ => thn (ho pins s1 σ H1 _ I1 q1) fun u s2 ⟨x, H2, I2, rx, a, ov, ex, g, q2⟩ => ?_
  subst ex
  obtain rfl : u = Value.ref a := rx
  exact d_notIn hu I2 g ry fun s3 I3 => ⟨.bl (!ov.isSome), H2, I3, rfl, q2⟩
theorem ps_dput (hu : X.A.units + 1 < cLine) (ho : PE X o td) (hi : PE X i ty) (hv : PE X value tv) (hs : swapsWith value (some (.Subscript o i pos')) pos.line X.env = pure false) :
    PS X (.Assign [.Subscript o i pos'] value pos) (sDPut td ty tv) := by
  intro pins s σ H D I h
  refine wpAny_Assign_Subscript (thn (hv pins s σ H _ I h) fun r s1 ⟨v, H1, I1, rv, q1⟩ => thn (ho pins s1 σ H1 _ I1 q1) fun u s2 ⟨x, H2, I2, rx, q2⟩ => thn (hi pins s2 σ H2 _ I2 q2) fun iv s3 ⟨y, H3, I3, ry, a, H4, ex, g, q3⟩ => ?_) hs
  subst ex
  obtain rfl : u = Value.ref a := rx
  exact d_setItem hu I3 g ry rv fun s4 I4 => ⟨σ, H4, I4, q3⟩
theorem ps_daug {op : Operator} {rd : V → V → Hp → VK → Prop} (hu : X.A.units + 1 < cLine) (ho : PE X o td) (hi : PE X i ty) (hv : PE X value tv) (hop : InOp X op rd)
    (ha : ∀ ov iv new, augStore i ov iv new = (do holding [new, ov, iv] (setItem ov iv new); release [new, ov, iv] []; pure .next)) : PS X (.AugAssign (.Subscript o i tpos) op value pos) (sDAug td ty tv rd) := by
  intro pins s σ H D I h
  refine wpAny_AugAssign_SubscriptAny (thn (ho pins s σ H _ I h) fun u s1 ⟨x, H1, I1, rx, q1⟩ => thn (hi pins s1 σ H1 _ I1 q1) fun iv s2 ⟨y, H2, I2, ry, a, v, ex, g, q2⟩ => ?_) ha
  subst ex
  obtain rfl : u = Value.ref a := rx
  refine d_getItem hu I2 g ry fun w' s3 I3 rw' => thn (hv pins s3 σ H2 _ I3 q2) fun w2 s4 ⟨y2, H3, I4, ry2, q3⟩ => thn (hop pins s4 σ H3 v y2 w' w2 _ I4 rw' ry2 q3) fun w3 s5 ⟨z, H4, I5, rz, H5, g5, q4⟩ => ?_
  exact d_setItem hu I5 g5 ry rz fun s6 I6 => ⟨σ, H5, I6, q4⟩
theorem ps_ddel (ho : PE X o td) (hi : PE X i ty) : PS X (.Delete [.Subscript o i tpos] pos) (sDDel td ty) := by
  intro pins s σ H D I h
  refine wpAny_Delete (wpAny_deleteEach_cons (wpAny_delete_Subscript (thn (ho pins s σ H _ I h) fun u s1 ⟨x, H1, I1, rx, q1⟩ => thn (hi pins s1 σ H1 _ I1 q1) fun iv s2 ⟨y, H2, I2, ry, a, kvs, k, ex, e, ey, l, q2⟩ => ?_)))
  subst ex ey
  obtain rfl : u = Value.ref a := rx
  exact d_delItem I2 e ry l fun s3 I3 => wpAny_deleteEach_nil ⟨σ, _, I3, q2⟩
end


/-! ### displays -/
theorem dk_empty {P : Program} {w : World} {H : Hp} (h : Heap) (hb : sysModules < h.objs.size) : ObjOk P w H (h.push { cls := .type "dict", data := .dict #[] }) h.objs.size (.dK []) :=
  ⟨Nat.zero_le _, beq_eq_false_iff_ne.mpr (Ne.symm (Nat.ne_of_lt hb)), [], .nil, Heap.DictOf.new h⟩
theorem dt_empty {P : Program} {w : World} {H : Hp} (h : Heap) (hb : sysModules < h.objs.size) : ObjOk P w H (h.push { cls := .type "dict", data := .dict #[] }) h.objs.size (.dT []) :=
  ⟨Nat.zero_le _, beq_eq_false_iff_ne.mpr (Ne.symm (Nat.ne_of_lt hb)), [], .nil, _, #[], 0, Heap.get?_push_size _ rfl, ⟨rfl, rfl, rfl⟩, rfl, rfl, List.nodup_nil⟩
/-- {}, to be a dict of the kind that is wanted -/
def tDNewK : TE := fun _ H Q => ∀ p, H p = none → Q (.ref p) (upd H p (.dK []))
def tDNewT : TE := fun _ H Q => ∀ p, H p = none → Q (.ref p) (upd H p (.dT []))
section
variable {X : Cx} {pos : Pos}
theorem pe_dnewK : PE X (.Dict [] [] pos) tDNewK := fun pins s σ H Q I h =>
  wpAny_Dict_empty ⟨.ref s.heap.objs.size, _, I.laid (a := s.heap.objs.size) (o := .dK []) (t' := s.toks) (fun _ _ q => Heap.get?_push_of_some _ q) (Nat.le_refl _) (dk_empty s.heap I.big), rfl, h _ (I.hok.fresh (Nat.le_refl _))⟩
theorem pe_dnewT : PE X (.Dict [] [] pos) tDNewT := fun pins s σ H Q I h =>
  wpAny_Dict_empty ⟨.ref s.heap.objs.size, _, I.laid (a := s.heap.objs.size) (o := .dT []) (t' := s.toks) (fun _ _ q => Heap.get?_push_of_some _ q) (Nat.le_refl _) (dt_empty s.heap I.big), rfl, h _ (I.hok.fresh (Nat.le_refl _))⟩
end

/-- the pairs of a display, from the left -/
def tPairs : List (TE × TE) → St → Hp → (List (V × V) → Hp → Prop) → Prop
  | [], _, H, Q => Q [] H
  | (tk, tv) :: r, σ, H, Q => tk σ H fun x H1 => tv σ H1 fun y H2 => tPairs r σ H2 fun ps H3 => Q ((x, y) :: ps) H3
abbrev VV : List (V × V) → List (Value × Value) → Prop := Paired fun p q => RelV p.1 q.1 ∧ RelV p.2 q.2
def PPs (X : Cx) (pos : Pos) (keys : List (Option Expr)) (values : List Expr) (trs : List (TE × TE)) : Prop :=
  ∀ (pins : List (Addr × Obj)) (s : Shared) (σ : St) (H : Hp) (Q : List (V × V) → Hp → Prop), Inv X pins σ H s → tPairs trs σ H Q →
    wpAny (model X.prog X.w) X.A (evalPairs (pairTrees keys values X.env pos)) (fun vs s' => ∃ ps H', Inv X pins σ H' s' ∧ VV ps vs ∧ Q ps H') X.xe s
theorem pps_nil {X : Cx} {pos : Pos} : PPs X pos [] [] [] := fun pins s σ H Q I h => pairTrees_nil_walk ⟨[], H, I, .nil, h⟩
theorem pps_cons {X : Cx} {pos : Pos} {k v : Expr} {ks : List (Option Expr)} {vs : List Expr} {tk tv : TE} {trs : List (TE × TE)} (hk : PE X k tk) (hv : PE X v tv) (hr : PPs X pos ks vs trs) :
    PPs X pos (some k :: ks) (v :: vs) ((tk, tv) :: trs) := fun pins s σ H Q I h =>
  pairTrees_cons_walk (thn (hk pins s σ H _ I h) fun u s1 ⟨x, H1, I1, rx, q1⟩ => thn (hv pins s1 σ H1 _ I1 q1) fun w2 s2 ⟨y, H2, I2, ry, q2⟩ =>
    thn (hr pins s2 σ H2 _ I2 q2) fun ws s3 ⟨ps, H3, I3, rel, q3⟩ => ⟨(x, y) :: ps, H3, I3, .cons ⟨rx, ry⟩ rel, q3⟩)

def mergeK (kvs more : List (Key × V)) : List (Key × V) := more.foldl (fun acc kv => putK acc kv.1 kv.2) kvs
theorem KV.merge : ∀ {more : List (Key × V)} {rs : List (Key × Value)} {kvs : List (Key × V)} {vs : List (Key × Value)}, KV more rs → KV kvs vs → KV (mergeK kvs more) (merged vs rs) := by
  intro more rs kvs vs r
  unfold KV at r
  induction r generalizing kvs vs with
  | nil => intro q; exact q
  | @cons p q ps qs h t ih =>
    intro r0
    have e : KV (putK kvs p.1 p.2) (stored vs q.1 q.2) := by
      have := r0.put p.1 h.2
      rw [← h.1]; exact this
    exact ih e
theorem length_mergeK : ∀ (more kvs : List (Key × V)), (mergeK kvs more).length ≤ kvs.length + more.length
  | [], kvs => by show kvs.length ≤ kvs.length + 0; omega
  | p :: r, kvs => by
    have h1 := length_mergeK r (putK kvs p.1 p.2)
    have h2 := length_putK kvs p.1 p.2
    show (mergeK (putK kvs p.1 p.2) r).length ≤ _
    rw [List.length_cons]; omega
theorem carries_of {P : Program} {w : World} : ∀ {kvs : List (Key × V)} {ws : List (Value × Value)}, VV (kvs.map fun kv => (kV kv.1, kv.2)) ws → ∃ rs, Carries (mixKind P w) ws rs ∧ KV kvs rs
  | [], _, r => by rw [List.map_nil] at r; cases r; exact ⟨[], True.intro, .nil⟩
  | p :: kvs, _, r => by
    rw [List.map_cons] at r
    cases r with
    | @cons a b as bs h t =>
      obtain ⟨rs, c, q⟩ := carries_of (P := P) (w := w) t
      obtain ⟨b1, b2⟩ := b
      exact ⟨(p.1, b2) :: rs, ⟨kV_is h.1, rfl, c⟩, .cons ⟨rfl, h.2⟩ q⟩
/-- {k: v, ..} with keys ints and texts; the new dict stands empty while the pairs are made -/
def tDisp (trs : List (TE × TE)) : TE := fun σ H Q => ∀ p, H p = none → tPairs trs σ (upd H p (.dK [])) fun ps H2 => H2 p = some (.dK []) ∧ ∃ kvs : List (Key × V), ps = kvs.map (fun kv => (kV kv.1, kv.2)) ∧ kvs.length ≤ 15 ∧ Q (.ref p) (upd H2 p (.dK (mergeK [] kvs)))
theorem pe_disp {X : Cx} {pos : Pos} {keys : List (Option Expr)} {values : List Expr} {trs : List (TE × TE)} (h : PPs X pos keys values trs) (hall : keys.all (·.isSome) = true) (hl : keys.length = values.length) (h0 : keys ≠ [])
    (h15 : keys.length ≤ 15) : PE X (.Dict keys values pos) (tDisp trs) := by
  intro pins s σ H Q I q
  have hn := I.hok.fresh (Nat.le_refl s.heap.objs.size)
  have I1 := I.laid (a := s.heap.objs.size) (o := .dK []) (h' := s.heap.push { cls := .type "dict", data := .dict #[] }) (t' := s.toks) (fun _ _ q => Heap.get?_push_of_some _ q) (Nat.le_refl _) (dk_empty s.heap I.big)
  refine wpAny_Dict_walk (knd := mixKind X.prog X.w) hall hl h0 h15 (thn (h pins _ σ _ _ I1 (q _ hn)) fun ws s2 ⟨ps, H2, I2, rel, e, kvs, ep, lk, q2⟩ => ?_)
  subst ep
  obtain ⟨rs, c, rk⟩ := carries_of (P := X.prog) (w := X.w) rel
  obtain ⟨z, hd, vs0, r0, dd⟩ := dk_of I2.hok e
  cases r0
  refine ⟨rs, c, dd, fun h' dd' hs => ⟨.ref s.heap.objs.size, _, ?_, rfl, q2⟩⟩
  have hz : (mergeK [] kvs).length ≤ sizeLine := by
    have h1 := length_mergeK kvs []
    rw [List.length_nil] at h1
    rw [sizeLine_eq]; omega
  have he : ∃ q, h'.get? s.heap.objs.size = some q := let ⟨q, _, _, hq, _⟩ := dd'; ⟨q, hq⟩
  exact d_write I2 (by rw [e]; exact True.intro) hs he (dk_new hz hd (rk.merge .nil) dd')


/-! ### methods -/
/-- a method call o.m(e) of a built-in, with one argument: what must be seen of the text -/
structure M1 (X : Cx) (o : Expr) (m : Str) (apos : Pos) (e : Expr) (cpos : Pos) : Prop where
  base : attributeBase o m X.env (eval o X.env) = eval o X.env
  few : ((backTo cpos (starEach [e] X.env)).all (fun x => !x.1) && (backToKw cpos (keywordEach [] X.env)).all (fun x => x.1.isSome)
    && decide (([e] : List Expr).length + ([] : List Keyword).length + (if ([] : List Keyword).isEmpty then 0 else 1) < 30)) = true
  line : (apos.endLine == cpos.line) = true
  trees : backTo cpos (starEach [e] X.env) = [(false, eval e X.env)]
structure M2 (X : Cx) (o : Expr) (m : Str) (apos : Pos) (e f : Expr) (cpos : Pos) : Prop where
  base : attributeBase o m X.env (eval o X.env) = eval o X.env
  few : ((backTo cpos (starEach [e, f] X.env)).all (fun x => !x.1) && (backToKw cpos (keywordEach [] X.env)).all (fun x => x.1.isSome)
    && decide (([e, f] : List Expr).length + ([] : List Keyword).length + (if ([] : List Keyword).isEmpty then 0 else 1) < 30)) = true
  line : (apos.endLine == cpos.line) = true
  trees : backTo cpos (starEach [e, f] X.env) = [(false, eval e X.env), (false, eval f X.env)]

/-- a is a dict, whatever its keys -/
def IsD (H : Hp) (a : Addr) : Prop := (∃ kvs, Rd H a (.dK kvs)) ∨ ∃ kvs, Rd H a (.dT kvs)
theorem isD_at {X : Cx} {pins : List (Addr × Obj)} {σ : St} {H : Hp} {s : Shared} {a : Addr} (I : Inv X pins σ H s) (d : IsD H a) :
    s.TypeIs (.ref a) "dict" ∧ (∀ b, Value.ref a = .ref b → ∃ ob, s.heap.get? b = some ob ∧ ob.dict = none) ∧ (a == sysModules) = false := by
  rcases d with ⟨kvs, e⟩ | ⟨kvs, e⟩
  · obtain ⟨_, hd, vs, _, dd⟩ := dk_rd I.hok e
    refine ⟨dd.typeIs, fun b q => ?_, hd⟩
    cases q
    obtain ⟨ob, _, _, h1, h2, _⟩ := dd
    exact ⟨ob, h1, h2.2.1⟩
  · obtain ⟨_, hd, xs, _, dd⟩ := dt_rd I.hok e
    refine ⟨dd.typeIs, fun b q => ?_, hd⟩
    cases q
    obtain ⟨ob, _, _, h1, h2, _⟩ := dd
    exact ⟨ob, h1, h2.2.1⟩

section
variable {X : Cx} {pins : List (Addr × Obj)} {σ : St} {H : Hp} {s : Shared} {a : Addr} {y d : V} {u r : Value} {o : Option V} {A : Around} {E : Value → Shared → Prop}
/-- d.get(y) -/
theorem d_get1 {Q : Value → Shared → Prop} (hu : A.units + 1 < cLine) (I : Inv X pins σ H s) (g : DGet H a y o) (ry : RelV y u) (h : ∀ w' s', Inv X pins σ H s' → RelV (o.getD .non) w' → Q w' s') :
    wpAny (model X.prog X.w) A (call (.builtin "dict.get") [.ref a, u]) Q E s := by
  rcases g with ⟨kvs, k, e, ey, l⟩ | ⟨kvs, k, b, e, ey, eb, l⟩
  · subst ey
    obtain ⟨z, hd, vs, rel, dd⟩ := dk_rd I.hok e
    refine call_meetsIn PySem.F.slot_dict_get dd.typeIs PySem.F.entry_dict_get (PySem.F.args_dict_get_2 _ _) (meets_dict_get (mixKind X.prog X.w) a (kV_is ry) hd) ⟨_, dd.mapOf, h _ _ (I.tok _) ?_⟩
    rw [l]
    exact (rel.val k).getD rfl
  · subst ey
    cases (show u = Value.ref b from ry)
    obtain ⟨z, hd, xs, rel, dd⟩ := dt_rd I.hok e
    refine call_meetsIn PySem.F.slot_dict_get dd.typeIs PySem.F.entry_dict_get (PySem.F.args_dict_get_2 _ _) (meetsH_dict_get (tupleKind (mixKind X.prog X.w)) a b hd) ⟨tupleKind_room_in1 hu, k, xs, key_of I.hok eb, dd, h _ _ (I.tok _) ?_⟩
    rw [l]
    exact (rel.val k).getD rfl
/-- d.get(y, x) -/
theorem d_get2 {Q : Value → Shared → Prop} (hu : A.units + 1 < cLine) (I : Inv X pins σ H s) (g : DGet H a y o) (ry : RelV y u) (rd : RelV d r) (h : ∀ w' s', Inv X pins σ H s' → RelV (o.getD d) w' → Q w' s') :
    wpAny (model X.prog X.w) A (call (.builtin "dict.get") [.ref a, u, r]) Q E s := by
  rcases g with ⟨kvs, k, e, ey, l⟩ | ⟨kvs, k, b, e, ey, eb, l⟩
  · subst ey
    obtain ⟨z, hd, vs, rel, dd⟩ := dk_rd I.hok e
    refine call_meetsIn PySem.F.slot_dict_get dd.typeIs PySem.F.entry_dict_get (PySem.F.args_dict_get_3 _ _ _) (meets_dict_get_default (mixKind X.prog X.w) a (kV_is ry) hd r) ⟨_, dd.mapOf, h _ _ (I.tok _) ?_⟩
    rw [l]
    exact (rel.val k).getD rd
  · subst ey
    cases (show u = Value.ref b from ry)
    obtain ⟨z, hd, xs, rel, dd⟩ := dt_rd I.hok e
    refine call_meetsIn PySem.F.slot_dict_get dd.typeIs PySem.F.entry_dict_get (PySem.F.args_dict_get_3 _ _ _) (meetsH_dict_get_default (tupleKind (mixKind X.prog X.w)) a b hd r) ⟨tupleKind_room_in1 hu, k, xs, key_of I.hok eb, dd, h _ _ (I.tok _) ?_⟩
    rw [l]
    exact (rel.val k).getD rd
end

def tDGet1 (td ty : TE) : TE := fun σ H Q => td σ H fun x H1 => ∃ a, x = .ref a ∧ IsD H1 a ∧ ty σ H1 fun y H2 => ∃ o, DGet H2 a y o ∧ Q (o.getD .non) H2
def tDGet2 (td ty tx : TE) : TE := fun σ H Q => td σ H fun x H1 => ∃ a, x = .ref a ∧ IsD H1 a ∧ ty σ H1 fun y H2 => tx σ H2 fun z H3 => ∃ o, DGet H3 a y o ∧ Q (o.getD z) H3
/-- d.pop(k): there; d.pop(k, x): there or not -/
def tDPop1 (td ty : TE) : TE := fun σ H Q => td σ H fun x H1 => ∃ a, x = .ref a ∧ IsD H1 a ∧ ty σ H1 fun y H2 => ∃ kvs k v, H2 a = some (.dK kvs) ∧ y = kV k ∧ valV kvs k = some v ∧ Q v (upd H2 a (.dK (dropK kvs k)))
def tDPop2 (td ty tx : TE) : TE := fun σ H Q => td σ H fun x H1 => ∃ a, x = .ref a ∧ IsD H1 a ∧ ty σ H1 fun y H2 => tx σ H2 fun z H3 => ∃ kvs k, H3 a = some (.dK kvs) ∧ y = kV k ∧
  (∀ v, valV kvs k = some v → Q v (upd H3 a (.dK (dropK kvs k)))) ∧ (valV kvs k = none → Q z H3)
section
variable {X : Cx} {o e f : Expr} {apos cpos : Pos} {td ty tx : TE}
theorem pe_dget1 (hu : X.A.units + 1 < cLine) (ho : PE X o td) (he : PE X e ty) (m : M1 X o "get" apos e cpos) : PE X (.Call (.Attribute o "get" apos) [e] [] cpos) (tDGet1 td ty) := by
  intro pins s σ H Q I h
  refine wpAny_Call_method m.base m.few m.line PySem.F.plainAttrs_dict PySem.F.slot_dict_get PySem.F.type_dict_get (thn (ho pins s σ H _ I h) fun u s1 ⟨x, H1, I1, rx, a, ex, d, q1⟩ => ?_)
  subst ex
  obtain rfl : u = Value.ref a := rx
  obtain ⟨t1, t2, _⟩ := isD_at I1 d
  refine ⟨t1, t2, ?_⟩
  rw [m.trees]
  refine Calls.callWith_builtin rfl (Calls.evalArgs_plain (Calls.spliced_cons (thn (he pins s1 σ H1 _ I1 q1) fun iv s2 ⟨y, H2, I2, ry, ov, g, q2⟩ => Calls.spliced_nil ?_)))
  exact d_get1 hu I2 g ry fun w' s3 I3 rw' => ⟨_, H2, I3, rw', q2⟩
theorem pe_dget2 (hu : X.A.units + 1 < cLine) (ho : PE X o td) (he : PE X e ty) (hf : PE X f tx) (m : M2 X o "get" apos e f cpos) : PE X (.Call (.Attribute o "get" apos) [e, f] [] cpos) (tDGet2 td ty tx) := by
  intro pins s σ H Q I h
  refine wpAny_Call_method m.base m.few m.line PySem.F.plainAttrs_dict PySem.F.slot_dict_get PySem.F.type_dict_get (thn (ho pins s σ H _ I h) fun u s1 ⟨x, H1, I1, rx, a, ex, d, q1⟩ => ?_)
  subst ex
  obtain rfl : u = Value.ref a := rx
  obtain ⟨t1, t2, _⟩ := isD_at I1 d
  refine ⟨t1, t2, ?_⟩
  rw [m.trees]
  refine Calls.callWith_builtin rfl (Calls.evalArgs_plain (Calls.spliced_cons (thn (he pins s1 σ H1 _ I1 q1) fun iv s2 ⟨y, H2, I2, ry, q2⟩ =>
    Calls.spliced_cons (thn (hf pins s2 σ H2 _ I2 q2) fun fv s3 ⟨z, H3, I3, rz, ov, g, q3⟩ => Calls.spliced_nil ?_))))
  exact d_get2 hu I3 g ry rz fun w' s4 I4 rw' => ⟨_, H3, I4, rw', q3⟩
theorem pe_dpop1 (ho : PE X o td) (he : PE X e ty) (m : M1 X o "pop" apos e cpos) : PE X (.Call (.Attribute o "pop" apos) [e] [] cpos) (tDPop1 td ty) := by
  intro pins s σ H Q I h
  refine wpAny_Call_method m.base m.few m.line PySem.F.plainAttrs_dict PySem.F.slot_dict_pop PySem.F.type_dict_pop (thn (ho pins s σ H _ I h) fun u s1 ⟨x, H1, I1, rx, a, ex, d, q1⟩ => ?_)
  subst ex
  obtain rfl : u = Value.ref a := rx
  obtain ⟨t1, t2, _⟩ := isD_at I1 d
  refine ⟨t1, t2, ?_⟩
  rw [m.trees]
  refine Calls.callWith_builtin rfl (Calls.evalArgs_plain (Calls.spliced_cons (thn (he pins s1 σ H1 _ I1 q1) fun iv s2 ⟨y, H2, I2, ry, kvs, k, v, ea, ey, l, q2⟩ => Calls.spliced_nil ?_)))
  subst ey
  exact d_pop I2 ea ry l (.inl rfl) fun w' s3 I3 rw' => ⟨v, _, I3, rw', q2⟩
theorem pe_dpop2 (ho : PE X o td) (he : PE X e ty) (hf : PE X f tx) (m : M2 X o "pop" apos e f cpos) : PE X (.Call (.Attribute o "pop" apos) [e, f] [] cpos) (tDPop2 td ty tx) := by
  intro pins s σ H Q I h
  refine wpAny_Call_method m.base m.few m.line PySem.F.plainAttrs_dict PySem.F.slot_dict_pop PySem.F.type_dict_pop (thn (ho pins s σ H _ I h) fun u s1 ⟨x, H1, I1, rx, a, ex, d, q1⟩ => ?_)
  subst ex
  obtain rfl : u = Value.ref a := rx
  obtain ⟨t1, t2, _⟩ := isD_at I1 d
  refine ⟨t1, t2, ?_⟩
  rw [m.trees]
  refine Calls.callWith_builtin rfl (Calls.evalArgs_plain (Calls.spliced_cons (thn (he pins s1 σ H1 _ I1 q1) fun iv s2 ⟨y, H2, I2, ry, q2⟩ =>
    Calls.spliced_cons (thn (hf pins s2 σ H2 _ I2 q2) fun fv s3 ⟨z, H3, I3, rz, kvs, k, ea, ey, q3, q4⟩ => Calls.spliced_nil ?_))))
  subst ey
  cases l : valV kvs k with
  | some v => exact d_pop I3 ea ry l (.inr ⟨fv, rfl⟩) fun w' s4 I4 rw' => ⟨v, _, I4, rw', q3 v l⟩
  | none => exact d_popD I3 ea ry l fun s4 I4 => ⟨z, H3, I4, rz, q4 l⟩
end

/-! ### dict(d): a copy -/
section
variable {X : Cx} {pins : List (Addr × Obj)} {σ : St} {H : Hp} {s : Shared} {a : Addr} {kvs : List (Key × V)} {A : Around} {E : Value → Shared → Prop}
theorem d_copyOf {Q : Value → Shared → Prop} (I : Inv X pins σ H s) (e : Rd H a (.dK kvs)) (h : ∀ p s', H p = none → Inv X pins σ (upd H p (.dK kvs)) s' → Q (.ref p) s') : wpAny (model X.prog X.w) A (call (.type "dict") [.ref a]) Q E s := by
  obtain ⟨z, hd, vs, rel, dd⟩ := dk_rd I.hok e
  refine kt_call_dict hd dd (by rw [← rel.length]; exact z) fun h' dd' hs => ?_
  refine h _ _ (I.hok.fresh (Nat.le_refl _)) (I.laid (a := s.heap.objs.size) (o := .dK kvs) (t' := s.toks) (fun b q hq => ?_) (Nat.le_refl _) (dk_new z (beq_eq_false_iff_ne.mpr (Ne.symm (Nat.ne_of_lt I.big))) rel dd'))
  exact (hs.2 b (Nat.ne_of_lt (Heap.lt_size hq))).trans (Heap.get?_push_of_some _ hq)
end


section
variable {X : Cx} {pins : List (Addr × Obj)} {σ : St} {H : Hp} {s : Shared} {a : Addr} {y : V} {u : Value} {A : Around} {E : Value → Shared → Prop}
/-- d[y], not there: a KeyError -/
theorem d_missing {Q : Value → Shared → Prop} (hu : A.units + 1 < cLine) (hh : A.handled = none) (I : Inv X pins σ H s) (g : DGet H a y none) (ry : RelV y u)
    (h : ∀ h' e t', Heap.NewExc s.heap h' e "KeyError" → E (.ref e) { s with heap := h', toks := t' }) : wpAny (model X.prog X.w) A (getItem (.ref a) u) Q E s := by
  rcases g with ⟨kvs, k, e, ey, l⟩ | ⟨kvs, k, b, e, ey, eb, l⟩
  · subst ey
    obtain ⟨z, hd, vs, rel, dd⟩ := dk_rd I.hok e
    have hn : valueAt vs k = none := RelO.none_of (by rw [l]; exact rel.val k)
    exact wpAny_getItem_missing_of (kV_is ry) hd hh dd.mapOf hn fun h' ex ne => h h' ex _ ne
  · subst ey
    cases (show u = Value.ref b from ry)
    obtain ⟨z, hd, xs, rel, dd⟩ := dt_rd I.hok e
    have hn : (atKey xs k).map (·.2) = none := RelO.none_of (by rw [l]; exact rel.val k)
    exact wpAny_getItem_missing_heap (tupleKind_room_in1 hu) (key_of I.hok eb) hd hh dd (Option.map_eq_none_iff.mp hn) fun h' ex ne => h h' ex _ ne
end
end L2

set_option Elab.async false
set_option linter.all false
set_option maxRecDepth 100000
namespace Att
open PySem PySem.W PySem.Calls PyProof.Rows

/-! ### the script -/
theorem ints_of_wellAll {P : Params} {h : Heap} : ∀ (ns : List Int) (vs : List Value), WellAll P h vs (ns.map WData.int) → IntsAre vs ns := by
  intro ns
  induction ns with
  | nil =>
    intro vs w
    rw [List.map_nil] at w
    cases w
    exact .nil
  | cons n ns ih =>
    intro vs w
    rw [List.map_cons] at w
    cases w with
    | cons a b =>
      cases a
      exact .cons _ _ (ih _ b)

theorem script_of {l : OpenLaw} {n : Nat} (hn : l.most = some n) {P : Params} {h : Heap} {args : List WData} {vals : List Value}
    (hpre : l.row.toRowW.claim.pre args = true) (hwl : WellAll P h vals args) :
    ∃ a vs ns, vals = [Value.ref a] ∧ args = [WData.list (ns.map WData.int)] ∧ h.get? a = some { cls := .type "list", data := .seq vs.toArray } ∧ IntsAre vs ns ∧ ns.length ≤ n := by
  have hsh : WShape.hasAll [] args [.list .int] = true := (pre_splitW hpre).1
  have hc : l.pre.holds [] { args := args } = true := (pre_splitW hpre).2
  obtain ⟨d, r, rfl, h1, h2⟩ := hasAllW_cons hsh
  obtain rfl := hasAllW_nil h2
  obtain ⟨xs, rfl, h3⟩ := hasW_list h1
  obtain ⟨ns, rfl⟩ := items_int h3
  have hlen : ns.length ≤ n := by
    unfold OpenLaw.pre at hc
    have h4 : (WTm.not (.lt (.lit (.int (n : Int))) (.len (.arg 0)))).holds [] { args := [.list (ns.map .int)] } = true := by
      have h4 := (holds_andW hc).1
      rw [hn] at h4
      exact h4
    have h5 := condW_of h4 (w_not (w_lt w_lit (w_len_list (w_arg rfl))))
    rw [List.length_map] at h5
    refine Nat.le_of_not_lt fun q => ?_
    have q' : (n : Int) < ((ns.length : Nat) : Int) := by omega
    first
      | (rw [decide_eq_true q'] at h5; exact absurd h5 (by decide))
      | (simp at h5; omega)
  cases hwl with
  | cons w1 w2 =>
    cases w2
    cases w1 with
    | list ho hall => exact ⟨_, _, ns, rfl, rfl, ho, ints_of_wellAll ns _ hall, hlen⟩

theorem post_true (l : OpenLaw) (args : List WData) : l.row.toRowW.claim.post args (.bool true) args = true :=
  postW_of (r := l.row.toRowW) (X := (true == true))
    (show WShape.has [] (.bool true) .bool = true by first | rfl | decide | simp [WShape.has, WShape.arms, WShape.armsAll])
    (show (WTm.eq .res (.lit (.bool true))).value [] { args := args, res := some (.bool true), after := args } = some (.bool (true == true)) from w_eq_bool (w_res rfl) w_lit) rfl

/-! ### the attachment: holds_open's last premise (the goal 'hc' behind k_head) from a wpAny of the law's body -/
theorem attach {l : OpenLaw} {n : Nat} {q : Program} {loose : List Str} {XP : (Str → Option Value) → Heap → Prop} {YP : World → Heap → Prop} {d : DefRec} {x : Str}
    (hn : l.most = some n) (hdf : d.params.defaults = [])
    (hbind : ∀ pm cd doc v : Value, bindArgs (docDef d.name d.params d.body d.scope pm cd doc) ⟨[v], []⟩ = pure [(x, v)])
    (hx : d.scope.names.lookup x = some .local ∨ d.scope.names.lookup x = some .cell)
    (hk : d.scope.kind = .function) (hco : d.scope.isCoroutine = false) (hgen : d.scope.isGenerator = false)
    (body : ∀ (w : World) (s₀ s₁ s : Shared) (mg mb : Str → Option Value) (fa : Addr) (o : Obj) (pm cd doc : Value) (a : Addr) (vs : List Value) (ns : List Int),
      Ground q loose [] XP w s₀ mg mb s₁.heap → YP w s₁.heap →
      s₁.heap.get? fa = some o → o.data = .func (docDef d.name d.params d.body d.scope pm cd doc) → s₁.heap.CodeRec cd d.name → mg d.name = some (.ref fa) →
      s₁.heap.get? a = some { cls := .type "list", data := .seq vs.toArray } → IntsAre vs ns → ns.length ≤ n →
      s.gens = #[] → s.os = s₁.os →
      Fr s₁.heap s₁.heap.objs.size s.heap (bindL (envOfC d.name d.scope s₁.heap.objs.size fa cd).kindOf [(x, .ref a)] fun _ => none) →
      Cl s₁.heap.objs.size (cellsFrom (s₁.heap.objs.size + 1) d.scope.names []) s.heap (bindC (envOfC d.name d.scope s₁.heap.objs.size fa cd).kindOf [(x, .ref a)] fun _ => none) →
      wpAny (model l.prog w) (callerA.deeper (envOfC d.name d.scope s₁.heap.objs.size fa cd)) (execs d.body (envOfC d.name d.scope s₁.heap.objs.size fa cd))
        (fun f s' => f = .ret (.bool true) ∧ OldK s₁.heap s'.heap ∧ s'.os = s₁.os ∧ AllBare s'.gens) (fun _ _ => False) s) :
    WalkO q loose XP YP l.row.toRowW d [] (fun f vs => PySem.call f vs) := by
  intro w s₀ s₁ mg mb G Y fa o pm cd doc dV kV ho hd hcd hD hmg hg args vals as hpre hlay hrd hwl hlo
  obtain rfl : dV = .none := Dflts.none hD hdf
  obtain rfl : kV = .none := Dflts.noKw hD
  obtain ⟨a, vs, ns, rfl, rfl, hobj, hints, hlen⟩ := script_of hn hpre hwl
  refine enter_call ?_
  refine call_cells_ret (o := o) (by rw [depth_caller]; decide) ho (fd_plain hd) G.T.nolimit hcd (hbind pm cd doc (.ref a)) (fun y hy => ?_) (fun h₁ tk F X => ?_) hco hgen hk
  · obtain rfl : y = (x, Value.ref a) := List.mem_singleton.mp hy
    rcases hx with e | e
    · exact .inl e
    · exact .inr ⟨e, cellsFrom_some _ _ _ (.inl e)⟩
  · refine wpAny_mono (body w s₀ s₁ { s₁ with heap := h₁, toks := tk } mg mb fa o pm cd doc a vs ns G Y ho (fd_plain hd) hcd hmg hobj hints hlen hg rfl F X) (fun f s' hq => ?_) (fun _ _ hq => hq)
    obtain ⟨rfl, h2, h3, h4⟩ := hq
    exact ⟨.inl ⟨.bool true, .bool true, [], rfl, fun _ => rfl, .bool true, post_true l _, fun _ => ⟨List.Pairwise.nil, fun _ hm => (nomatch hm)⟩⟩, h2, h3, h4⟩

/-- the same from a codeAny of the CALL (for a layer whose function contracts speak of calls) -/
theorem attach_call {l : OpenLaw} {n : Nat} {q : Program} {loose : List Str} {XP : (Str → Option Value) → Heap → Prop} {YP : World → Heap → Prop} {d : DefRec}
    (hn : l.most = some n) (hdf : d.params.defaults = [])
    (call : ∀ (w : World) (s₀ s₁ : Shared) (mg mb : Str → Option Value) (fa : Addr) (o : Obj) (pm cd doc : Value) (a : Addr) (vs : List Value) (ns : List Int),
      Ground q loose [] XP w s₀ mg mb s₁.heap → YP w s₁.heap →
      s₁.heap.get? fa = some o → o.data = .func (docDef d.name d.params d.body d.scope pm cd doc) → s₁.heap.CodeRec cd d.name → mg d.name = some (.ref fa) →
      s₁.heap.get? a = some { cls := .type "list", data := .seq vs.toArray } → IntsAre vs ns → ns.length ≤ n → s₁.gens = #[] →
      codeAny (model l.prog w) callerA (.call (.ref fa) ⟨[.ref a], []⟩) (fun r s' => r = .ok (.ret (.bool true)) ∧ OldK s₁.heap s'.heap ∧ s'.os = s₁.os ∧ AllBare s'.gens) s₁) :
    WalkO q loose XP YP l.row.toRowW d [] (fun f vs => PySem.call f vs) := by
  intro w s₀ s₁ mg mb G Y fa o pm cd doc dV kV ho hd hcd hD hmg hg args vals as hpre hlay hrd hwl hlo
  obtain rfl : dV = .none := Dflts.none hD hdf
  obtain rfl : kV = .none := Dflts.noKw hD
  obtain ⟨a, vs, ns, rfl, rfl, hobj, hints, hlen⟩ := script_of hn hpre hwl
  refine enter_call (codeAny_mono (call w s₀ s₁ mg mb fa o pm cd doc a vs ns G Y ho (fd_plain hd) hcd hmg hobj hints hlen hg) fun r s' hq => ?_)
  obtain ⟨rfl, h2, h3, h4⟩ := hq
  exact ⟨.inl ⟨.bool true, .bool true, [], rfl, fun _ => rfl, .bool true, post_true l _, fun _ => ⟨List.Pairwise.nil, fun _ hm => (nomatch hm)⟩⟩, h2, h3, h4⟩

/-- the same where the top left finished generators (o_head chose holds_openN): nothing may have changed at all and no generator may be left -/
theorem attachN {l : OpenLaw} {n : Nat} {q : Program} {loose : List Str} {XP : (Str → Option Value) → Heap → Prop} {YP : World → Heap → Prop} {d : DefRec} {x : Str}
    (hn : l.most = some n) (hdf : d.params.defaults = [])
    (hbind : ∀ pm cd doc v : Value, bindArgs (docDef d.name d.params d.body d.scope pm cd doc) ⟨[v], []⟩ = pure [(x, v)])
    (hx : d.scope.names.lookup x = some .local ∨ d.scope.names.lookup x = some .cell)
    (hk : d.scope.kind = .function) (hco : d.scope.isCoroutine = false) (hgen : d.scope.isGenerator = false)
    (body : ∀ (w : World) (s₀ s₁ s : Shared) (mg mb : Str → Option Value) (fa : Addr) (o : Obj) (pm cd doc : Value) (a : Addr) (vs : List Value) (ns : List Int),
      Ground q loose [] XP w s₀ mg mb s₁.heap → YP w s₁.heap →
      s₁.heap.get? fa = some o → o.data = .func (docDef d.name d.params d.body d.scope pm cd doc) → s₁.heap.CodeRec cd d.name → mg d.name = some (.ref fa) →
      s₁.heap.get? a = some { cls := .type "list", data := .seq vs.toArray } → IntsAre vs ns → ns.length ≤ n →
      s.gens = #[] → s.os = s₁.os →
      Fr s₁.heap s₁.heap.objs.size s.heap (bindL (envOfC d.name d.scope s₁.heap.objs.size fa cd).kindOf [(x, .ref a)] fun _ => none) →
      Cl s₁.heap.objs.size (cellsFrom (s₁.heap.objs.size + 1) d.scope.names []) s.heap (bindC (envOfC d.name d.scope s₁.heap.objs.size fa cd).kindOf [(x, .ref a)] fun _ => none) →
      wpAny (model l.prog w) (callerA.deeper (envOfC d.name d.scope s₁.heap.objs.size fa cd)) (execs d.body (envOfC d.name d.scope s₁.heap.objs.size fa cd))
        (fun f s' => f = .ret (.bool true) ∧ (∀ b o, s₁.heap.get? b = some o → s'.heap.get? b = some o) ∧ s'.os = s₁.os ∧ s'.gens = #[]) (fun _ _ => False) s) :
    WalkN q loose XP YP l.row.toRowW d [] (fun f vs => PySem.call f vs) := by
  intro w s₀ s₁ mg mb G Y fa o pm cd doc dV kV ho hd hcd hD hmg hg args vals as hpre hlay hrd hwl hlo
  obtain rfl : dV = .none := Dflts.none hD hdf
  obtain rfl : kV = .none := Dflts.noKw hD
  obtain ⟨a, vs, ns, rfl, rfl, hobj, hints, hlen⟩ := script_of hn hpre hwl
  refine enter_callW ?_
  refine call_cells_ret (o := o) (by rw [depth_caller]; decide) ho (fd_plain hd) G.T.nolimit hcd (hbind pm cd doc (.ref a)) (fun y hy => ?_) (fun h₁ tk F X => ?_) hco hgen hk
  · obtain rfl : y = (x, Value.ref a) := List.mem_singleton.mp hy
    rcases hx with e | e
    · exact .inl e
    · exact .inr ⟨e, cellsFrom_some _ _ _ (.inl e)⟩
  · refine wpAny_mono (body w s₀ s₁ { s₁ with heap := h₁, toks := tk } mg mb fa o pm cd doc a vs ns G Y ho (fd_plain hd) hcd hmg hobj hints hlen hg rfl F X) (fun f s' hq => ?_) (fun _ _ hq => hq)
    obtain ⟨rfl, h2, h3, h4⟩ := hq
    exact ⟨.inl ⟨.bool true, .bool true, [], rfl, fun _ => rfl, .bool true, post_true l _, fun _ => ⟨List.Pairwise.nil, fun _ hm => (nomatch hm)⟩⟩, h2, h3, h4⟩

/-! ### rules over ANY heap (no ledger) from facts about the written part K: the library's own take a ledger (News) for what they write -/
section
variable {prog : Program} {w : World} {A : Around} {E : Value → Shared → Prop} {s : Shared} {K : Frag}

/-- a def of the module, or a method (qual 'C.m'), entered: the frame is the next address; cells behind it -/
theorem call_fn {R : Result → Shared → Prop} {name qual : Str} {params : Arguments} {body : List Stmt} {scope : Scope} {dV kV doc pm cdv ct oc : Value} {an od : Option Addr} {osl : Array (Option Value)} {f : Addr} {args : Args} {binds : List (Str × Value)}
    (X : K.In s.heap) (hlim : s.heap.NoLimit) (ho : K.lookup f = some ⟨oc, od, .func (fnOf name qual params body scope dV kV doc pm an cdv ct), osl⟩) (hcd : codeIn K cdv qual = true) (hroom : A.depth < recursionLimit)
    (hbind : BindsTo s (fnOf name qual params body scope dV kV doc pm an cdv ct) args binds)
    (hkind : (binds.all fun y => scope.names.lookup y.1 == some .local || scope.names.lookup y.1 == some .cell) = true)
    (h : ∀ s₁, InCallC s s.heap.objs.size (bindL (envOfC qual scope s.heap.objs.size f cdv).kindOf binds fun _ => none) (cellsFrom (s.heap.objs.size + 1) scope.names [])
        (bindC (envOfC qual scope s.heap.objs.size f cdv).kindOf binds fun _ => none) s₁ →
      wpAny (model prog w) (A.deeper (envOfC qual scope s.heap.objs.size f cdv)) (execs body (envOfC qual scope s.heap.objs.size f cdv))
        (fun fl s' => R (.ok (.ret (match fl with | .ret v => v | _ => .none))) s')
        (fun e s' => wpAny (model prog w) (A.deeper (envOfC qual scope s.heap.objs.size f cdv)) (leaving (envOfC qual scope s.heap.objs.size f cdv) e) (fun _ s'' => R (.error e) s'') (fun e' s'' => R (.error e') s'') s') s₁)
    (hco : scope.isCoroutine = false) (hgen : scope.isGenerator = false) (hk : scope.kind = .function) : codeAny (model prog w) A (.call (.ref f) args) R s := by
  refine codeAny_call_function hroom (X _ _ ho) rfl hco hgen rfl (codeRec_of X hcd) (hbind _ _ _ _ ?_)
  refine wpAny_newFunctionEnv_cells hk (kindsX hkind _) fun env he s₁ x => ?_
  subst he
  exact ⟨hlim.keeps x.toInCall.keep, codeAny_func (h s₁ x)⟩

/-- C(..): dict at size, instance at size + 1, then __init__ -/
theorem make_obj {R : Result → Shared → Prop} {C fI : Addr} {rest : List Value} {kw : List (Str × Value)}
    (X : K.In s.heap) (hm : makesIn K C = true) (hi : findIn K (.ref C) "__init__" = some (some (.ref fI))) (hf : isFn K (.ref fI) = true)
    (h : codeAny (model prog w) (A.under (.builtin "type.__call__" ⟨.ref C :: rest, kw⟩)) (.call (.ref fI) ⟨.ref (s.heap.objs.size + 1) :: rest, kw⟩) (InitBack (s.heap.objs.size + 1) R)
      { s with heap := (s.heap.push emptyDict).push (instObj C s.heap.objs.size) }) : codeAny (model prog w) A (.call (.ref C) ⟨rest, kw⟩) R s := by
  obtain ⟨hh, g, d, t, os⟩ := s
  exact make_core (makes_of X hm) (looks_findIn X hi) (fun self => bind_fn X self (beq_iff_eq.mp hf)) (.inl rfl) h

/-- x.name where the instance's dict holds the name and the class does not -/
theorem get_field {x C : Addr} {ox : Obj} {es : List DictEntry} {n : Nat} {name : Str} {expr : Bool} {v : Value} {Q : Value → Shared → Prop}
    (X : K.In s.heap) (I : PySem.W.InstAt s.heap x ox C (some (dictOf es n))) (hg : plainGet K C name = true) (hh : hasDictIn K C = true) (ha : findIn K (.ref C) name = some none)
    (hl : getL name es = some (some v)) (hv : handedIn v = true) (h : Q v { s with toks := s.toks + 1 }) : wpAny (model prog w) A (getAttr (.ref x) name expr) Q E s :=
  get_value X I (plainGet_of hg).1 (findObj_own hh ha rfl hl) hv h

/-- x.m(..): the method found in the class -/
theorem get_method {x C f : Addr} {ox : Obj} {es : List DictEntry} {n : Nat} {name : Str} {pl : Sem Bool} {Q : Value × List Value → Shared → Prop}
    (X : K.In s.heap) (I : PySem.W.InstAt s.heap x ox C (some (dictOf es n))) (hg : plainGet K C name = true) (hf : findIn K (.ref C) name = some (some (.ref f))) (ht : isFn K (.ref f) = true)
    (hl : getL name es = some none) (h : Q (.ref f, [.ref x]) s) : wpAny (model prog w) A (getMethod (.ref x) name pl) Q E s :=
  method_fn X I (plainGet_of hg).1 (plainGet_of hg).2 hf (beq_iff_eq.mp ht) (by show (lookIn name (dictOf es n)).map _ = _; rw [lookIn_dict, hl]; rfl) h

/-! the whole heap as the ledger: makes every rule that writes through a ledger a rule over any heap -/
def noObjs (h : Heap) : Heap := { h with objs := #[] }
theorem noObjs_get (h : Heap) (b : Addr) : (noObjs h).get? b = none := by
  cases e : (noObjs h).get? b with
  | none => rfl
  | some o => exact absurd (Heap.lt_size e) (Nat.not_lt_zero _)
def ledger (h : Heap) (L d : Addr) : List (Addr × Obj) := (List.range h.objs.size).filterMap fun a => if a = L ∨ a = d then none else (h.get? a).map fun o => (a, o)
theorem mem_ledger {h : Heap} {L d a : Addr} {o : Obj} : (a, o) ∈ ledger h L d ↔ a ≠ L ∧ a ≠ d ∧ h.get? a = some o := by
  unfold ledger
  rw [List.mem_filterMap]
  constructor
  · rintro ⟨b, _, e⟩
    split at e
    · cases e
    · rename_i hb
      obtain ⟨o', ho, e'⟩ := Option.map_eq_some_iff.mp e
      cases e'
      exact ⟨fun q => hb (.inl q), fun q => hb (.inr q), ho⟩
  · rintro ⟨n1, n2, ho⟩
    refine ⟨a, List.mem_range.mpr (Heap.lt_size ho), ?_⟩
    rw [if_neg (show ¬ (a = L ∨ a = d) from fun q => q.elim n1 n2), ho] <;> rfl
theorem news_ledger {h : Heap} {L d : Addr} {od : Obj} (hne : d ≠ L) (ho : h.get? d = some od) : News (noObjs h) L h ([] ++ (d, od) :: ledger h L d) := by
  rintro ⟨a, o⟩ hp
  rcases List.mem_cons.mp hp with e | hp
  · cases e
    exact ⟨ho, hne, noObjs_get _ _⟩
  · obtain ⟨n1, n2, e⟩ := mem_ledger.mp hp
    exact ⟨e, n1, noObjs_get _ _⟩
theorem fr_all {h : Heap} {L : Addr} {m : Str → Option Value} (n : h.Ns L m) : Fr (noObjs h) L h m :=
  ⟨n, fun b o e => (by rw [noObjs_get] at e; cases e), Nat.zero_le _⟩
/-- Upd of the head entry (for append_K, setItem_K ..) -/
theorem upd_ledger {h : Heap} {L d : Addr} {o o' : Obj} : Upd d o o' ((d, o) :: ledger h L d) ((d, o') :: ledger h L d) :=
  .head fun ⟨_, _⟩ hp => (mem_ledger.mp hp).2.1

/-- x.name = v over any heap: L is any namespace of the heap (the frame's, say): its map stays, its object is not told; all else but the dict stays -/
theorem set_field {x C dx L : Addr} {ox : Obj} {m : Str → Option Value} {es es' : List DictEntry} {n n' : Nat} {name : Str} {v : Value} {Q : Unit → Shared → Prop}
    (X : K.In s.heap) (I : PySem.W.InstAt s.heap x ox C (some (dictOf es n))) (hd : ox.dict = some dx) (hL : s.heap.Ns L m) (hne : dx ≠ L)
    (hs : findIn K (.ref C) "__setattr__" = some (some (.builtin "object.__setattr__"))) (hp : plainOver K C = true) (ht : takerIn K C name = some none) (hh : hasDictIn K C = true) (hl : (getL name es).isSome = true)
    (e : (putL name (PyData.keyHash w.params name) (.str name (s.toks + 1)) v es, putN name es n) = (es', n')) (hz : es'.length ≤ 1000)
    (h : ∀ h' : Heap, h'.Ns L m → h'.get? dx = some (dictOf es' n') → (∀ b o, b ≠ dx → b ≠ L → s.heap.get? b = some o → h'.get? b = some o) → Q () { s with heap := h', toks := s.toks + 2 }) :
    wpAny (model prog w) A (setAttr (.ref x) name v) Q E s := by
  obtain ⟨e1, e2⟩ := Prod.mk.inj e
  have hdx : s.heap.get? dx = some (dictOf es n) := by
    have := I.dict
    rw [hd] at this
    exact this
  refine set_plain X I hs (osa_dict (s := { s with toks := s.toks + 1 }) (h₀ := noObjs s.heap) (L := L) (m := m) (od := dictOf es n) (od' := dictOf es' n') (es := es') (n := n') (pre := []) (post := ledger s.heap L dx)
    (fr_all hL) (news_ledger hne hdx) X I hd hp ht hh hl (fun _ q => nomatch q) (fun ⟨_, _⟩ q => (mem_ledger.mp q).2.1) (by rw [putName_dict, e1, e2]) rfl hz fun h' F' N' => ?_)
  exact h h' F'.ns (N'.get (List.Mem.head _)) fun b o n1 n2 ho => N'.get (List.Mem.tail _ (mem_ledger.mpr ⟨n2, n1, ho⟩))
end
end Att

namespace L2
open PySem PySem.Spec PyProof.Rows

theorem vals_ints : ∀ {vs : List Value} {ns : List Int}, IntsAre vs ns → Vals (ns.map V.int) vs
  | _, _, .nil => .nil
  | _, _, .cons n t h => .cons ⟨t, rfl⟩ (vals_ints h)

/-- nothing is tracked but the script, known to the object (or it is an object of the module) -/
def Only (H : Hp) : Prop := ∀ b, H b = none ∨ ∃ o xs, H b = some (.frz o (.lst xs))

/-- THE HEAD: the law's promise, at the heap behind the top. F, the promise of the law's def, may use that base is part of the heap (so K.In base, base.Ns mainGlobals mg stand in Mod) -/
theorem law_call {P : Program} {w : World} {K : PySem.W.Frag} {mg mb : Str → Option Value} {CX : CXT} {k : Nat} {fa a : Addr} {fd : FuncData} {x : Str} {sp : Sp} {s₁ : Shared} {vs : List Value} {ns : List Int}
    (KX : K.In s₁.heap) (hns : s₁.heap.Ns mainGlobals mg) (hb : s₁.heap.Ns builtinsNs mb) (hbb : ∀ x : Str, x ≠ "__name__" → mb x = bootBuiltins x) (hlim : s₁.heap.NoLimit) (hg : s₁.gens = #[])
    (ha : s₁.heap.get? a = some { cls := .type "list", data := .seq vs.toArray }) (hi : IntsAre vs ns) (hl : ns.length ≤ sizeLine) (hr : Room k callerA)
    (F : ∀ base : Heap, K.In base → base.Ns mainGlobals mg → FnOk P w K mg base CX k fa fd [x] sp) (hbind : ∀ (s : Shared) (u : Value), BindsTo s fd ⟨[u], []⟩ [(x, u)])
    (hsp : ∀ H : Hp, Only H → SqL K H a (ns.map V.int) → sp [.ref a] H (fun v _ => v = .bl true) fun _ _ _ => False)
    (hCX : ∀ H e s', CX [] H s₁ (fun _ _ _ => False) e s' → False) :
    codeAny (model P w) callerA (.call (.ref fa) ⟨[.ref a], []⟩) (fun r s' => r = .ok (.ret (.bool true)) ∧ OldK s₁.heap s'.heap ∧ s'.os = s₁.os ∧ AllBare s'.gens) s₁ := by
  have rv := vals_ints hi
  have lenV := hi.length
  -- from an abstract heap in which nothing but the script may be tracked
  have core : ∀ H : Hp, Only H → SqL K H a (ns.map V.int) → HOk P w H s₁.heap → (∀ b, H b ≠ none → b = a) → (H a ≠ none → K.lookup a = none) →
      codeAny (model P w) callerA (.call (.ref fa) ⟨[.ref a], []⟩) (fun r s' => r = .ok (.ret (.bool true)) ∧ OldK s₁.heap s'.heap ∧ s'.os = s₁.os ∧ AllBare s'.gens) s₁ := by
    intro H hO hS hok hA hK
    have base_of : ∀ {b : Addr} {o : Obj}, s₁.heap.get? b = some o → H b = none → (hidT s₁.heap H).get? b = some o := fun e n => hidT_get e n
    have noA : ∀ {b : Addr} {o : Obj} {es : Array DictEntry} {ep : Nat}, s₁.heap.get? b = some o → o.data = .dict es ep → H b = none := fun {b o es ep} e d => by
      cases q : H b with
      | none => rfl
      | some u =>
        have e' : b = a := hA b (by rw [q]; simp)
        subst e'
        rw [ha] at e; cases e
        have d' : Data.seq vs.toArray _ = Data.dict es ep := d
        cases d'
    have nsK : ∀ {b : Addr} {m : Str → Option Value}, s₁.heap.Ns b m → (hidT s₁.heap H).Ns b m := fun {b m} ⟨o, es, ep, e, d, r⟩ => ⟨o, es, ep, base_of e (noA e d), d, r⟩
    have hKb : K.In (hidT s₁.heap H) := fun b o e => base_of (KX b o e) (by
      cases q : H b with
      | none => rfl
      | some u =>
        have e' : b = a := hA b (by rw [q]; simp)
        subst e'
        rw [hK (by rw [q]; simp)] at e; cases e)
    have hM : Mod K mg (hidT s₁.heap H) := ⟨hKb, nsK hns, ⟨mb, nsK hb, hbb⟩, let ⟨mc, h1, h2⟩ := hlim; ⟨mc, nsK h1, h2⟩⟩
    have e0 : Env0 P w K mg (hidT s₁.heap H) callerA [] s₁ H := ⟨rfl, hM, fun b o e => of_hidT e, Nat.le_of_eq (hidT_size _ _), trivial, fun b hb => absurd (show b ∈ ([] : List Addr) from hb) (by simp), hok, .of_eq hg⟩
    refine codeAny_mono ((F _ hKb (nsK hns)).run callerA [] s₁ H ⟨[.ref a], []⟩ [.ref a] [.ref a] _ _ hr e0 (hbind s₁ (.ref a)) (.cons rfl .nil) (hsp H hO hS)) fun r s' h => ?_
    cases r with
    | error e => exact (hCX H e s' h).elim
    | ok fl =>
      cases fl with
      | next => exact False.elim h
      | brk => exact False.elim h
      | cont => exact False.elim h
      | ret u =>
        obtain ⟨v, H', os, bare, un, hok', r', q⟩ := h
        have q' : v = .bl true := q
        subst q'
        obtain rfl : u = Value.bool true := r'
        refine ⟨rfl, OldK.of_keep fun b o e => ?_, os, bare⟩
        cases q : H b with
        | none => exact un.keep b o e q (by intro z; exact absurd (show b ∈ ([] : List Addr) from z) (by simp)) (by simp)
        | some u =>
          rcases hO b with z | ⟨ob, xs, z⟩
          · rw [q] at z; cases z
          · have z2 := un.frzs b ob _ z
            obtain ⟨e1, _⟩ := hok b _ z
            obtain ⟨e2, _⟩ := hok' b _ z2
            rw [e] at e1; cases e1
            exact e2
  cases hk : K.lookup a with
  | some o =>
    -- the script is one of the module's own objects
    have e := KX a o hk
    rw [ha] at e
    cases e
    refine core (fun _ => none) (fun _ => .inl rfl) (.inr ⟨_, vs.toArray, _, hk, rfl, rfl, rfl, by rw [List.size_toArray, lenV]; exact hl, by simpa using rv⟩) (fun b u z => by have z' : (none : Option HO) = some u := z; cases z') (fun b z => absurd rfl z) fun z => absurd rfl z
  | none =>
    refine core (fun b => if b = a then some (.frz { cls := .type "list", data := .seq vs.toArray } (.lst (ns.map V.int))) else none) (fun b => ?_) (.inl (.inr ⟨{ cls := .type "list", data := .seq vs.toArray }, if_pos rfl⟩)) (fun b u z => ?_) (fun b z => ?_) fun _ => hk
    · by_cases hb : b = a
      · exact .inr ⟨_, _, if_pos hb⟩
      · exact .inl (if_neg hb)
    · by_cases hb : b = a
      · have z' := (if_pos hb).symm.trans z
        cases z'
        subst hb
        exact ⟨ha, by rw [List.length_map]; exact hl, vs, _, rv, ha⟩
      · have z' := (if_neg hb).symm.trans z
        cases z'
    · by_cases hb : b = a
      · exact hb
      · exact absurd (if_neg hb) z
end L2

namespace L2
open PySem PySem.Spec PyProof.Rows

abbrev KOf {K : PySem.W.Frag} {h : Heap} (_ : K.In h) : PySem.W.Frag := K

/-- the goal that k_head leaves (case hc), from the law's promise. F gives the function object fd (K's own) once, then the promise over every base -/
theorem walk_of {l : PySem.W.OpenLaw} {n k : Nat} {q : Program} {loose : List Str} {XP : (Str → Option Value) → Heap → Prop} {YP : World → Heap → Prop} {d : DefRec} {K : Params → PySem.W.Frag} {CX : World → CXT} {sp : World → Sp} {x : Str}
    (hn : l.most = some n) (hn2 : n ≤ sizeLine) (hdf : d.params.defaults = []) (hr : Room k callerA)
    (hY : ∀ (w : World) (h : Heap), YP w h → (K w.params).In h)
    (F : ∀ (w : World) (mg : Str → Option Value) (fa : Addr) (h : Heap), (K w.params).In h → h.Ns mainGlobals mg → mg d.name = some (.ref fa) →
      ∃ fd : FuncData, (∀ (s : Shared) (u : Value), BindsTo s fd ⟨[u], []⟩ [(x, u)]) ∧
        ∀ base : Heap, (K w.params).In base → base.Ns mainGlobals mg → FnOk l.prog w (K w.params) mg base (CX w) k fa fd [x] (sp w))
    (hsp : ∀ (w : World) (H : Hp) (a : Addr) (ns : List Int), ns.length ≤ n → Only H → SqL (K w.params) H a (ns.map V.int) → sp w [.ref a] H (fun v _ => v = .bl true) fun _ _ _ => False)
    (hCX : ∀ (w : World) (H : Hp) (s : Shared) (e : Value) (s' : Shared), CX w [] H s (fun _ _ _ => False) e s' → False) :
    PySem.W.WalkO q loose XP YP l.row.toRowW d [] (fun f vs => PySem.call f vs) := by
  refine Att.attach_call hn hdf fun w s₀ s₁ mg mb fa o pm cd doc a vs ns G Y ho hd hcd hmg hobj hints hlen hg => ?_
  have KX := hY w _ Y
  obtain ⟨fd, hb, hF⟩ := F w mg fa _ KX G.T.g hmg
  exact law_call KX G.T.g G.T.b G.T.builtins G.T.nolimit hg hobj hints (Nat.le_trans hlen hn2) hr hF hb (fun H hO hS => hsp w H a ns hlen hO hS) fun H e s' => hCX w H s₁ e s'
/-- the same where the promise hangs on the written part alone: (sp := My.sp_law), no hole under a binder -/
theorem walk_ofK {l : PySem.W.OpenLaw} {n k : Nat} {q : Program} {loose : List Str} {XP : (Str → Option Value) → Heap → Prop} {YP : World → Heap → Prop} {d : DefRec} {K : Params → PySem.W.Frag} {CX : CXT} {sp : PySem.W.Frag → Sp} {x : Str}
    (hn : l.most = some n) (hn2 : n ≤ sizeLine) (hdf : d.params.defaults = []) (hr : Room k callerA)
    (hY : ∀ (w : World) (h : Heap), YP w h → (K w.params).In h)
    (F : ∀ (w : World) (mg : Str → Option Value) (fa : Addr) (h : Heap), (K w.params).In h → h.Ns mainGlobals mg → mg d.name = some (.ref fa) →
      ∃ fd : FuncData, (∀ (s : Shared) (u : Value), BindsTo s fd ⟨[u], []⟩ [(x, u)]) ∧
        ∀ base : Heap, (K w.params).In base → base.Ns mainGlobals mg → FnOk l.prog w (K w.params) mg base CX k fa fd [x] (sp (K w.params)))
    (hsp : ∀ (K : PySem.W.Frag) (H : Hp) (a : Addr) (ns : List Int), ns.length ≤ n → Only H → SqL K H a (ns.map V.int) → sp K [.ref a] H (fun v _ => v = .bl true) fun _ _ _ => False)
    (hCX : ∀ (H : Hp) (s : Shared) (e : Value) (s' : Shared), CX [] H s (fun _ _ _ => False) e s' → False) :
    PySem.W.WalkO q loose XP YP l.row.toRowW d [] (fun f vs => PySem.call f vs) :=
  walk_of (K := K) (CX := fun _ => CX) (sp := fun w => sp (K w.params)) hn hn2 hdf hr hY F (fun w H a ns h1 h2 h3 => hsp (K w.params) H a ns h1 h2 h3) fun _ H s e s' => hCX H s e s'
end L2

/- THE LAST THEOREM (shape; LID, My.* are yours):
   My.Adr: a structure of the addresses that your layer names (classes, functions); My.Txt K t: a structure (Prop) of the equations over K;
   My.txt_mk : {K} {implicit addresses ..} (e1 : nsIn K mainGlobals "law" = some (some (.ref f))) (e2 : K.lookup f = some ⟨oc, od, .func (fnOf "law" "law" params body scope dV kV doc pm an cdv ct), sl⟩) (e3 : codeIn K cdv "law" = true) .. : ∃ t, My.Txt K t

set_option maxRecDepth 100000 in
set_option maxHeartbeats 0 in
theorem PySem.Challenge.cw_LID_holds : PySem.Challenge.rw_LID.Holds := by
  w_on; o_law; k_head; (case hw => w_witness2)
  k_fill
  refine L2.walk_of (l := PySem.Challenge.rw_LID) (n := 63) (k := 40) (x := "script") (CX := fun w => ..) (sp := fun _ => My.sp_law) rfl (by decide) rfl ⟨rfl, by decide, by decide⟩ (fun w h Y => PySem.W.kIn_of Y) ?F ?S ?C
  case F =>
    intro w mg fa h KX G hmg
    have T : ∃ t, My.Txt (L2.KOf KX) t := by
      dsimp only [L2.KOf]                          -- K must stand as «<heap const> w.params» for k_is
      refine' My.txt_mk ?e1 ?e2 ?e3 ..
      (case e1 => PySem.W.k_is)                    -- in the order: a name -> its address -> its object -> its parts
      (case e2 => PySem.W.k_is)
      ..
    obtain ⟨t, T⟩ := T
    have e0 := hmg.symm.trans (PySem.W.mg_of KX G T.law)
    cases e0                                       -- fa is the law's own address
    exact ⟨_, fun s u => .of_eq rfl, fun base kb nb => My.law_fn T kb nb⟩     -- if «.of_eq rfl» comes too early: refine' ⟨_, ?b, fun base kb nb => My.law_fn T kb nb⟩; exact fun s u => .of_eq rfl
  case S => exact fun w H a ns hl hO hS => ..
  case C => exact ..
(the tactic k_is has no namespace: write k_is) -/

/-! SHORT WORDS over the layer: a def of the text, its body, what a loop and a test want. -/
namespace L2
open PySem PySem.Spec PyProof.Rows

/-! ### the text by places -/
/-- the j-th statement of a class's body -/
def inClass (s : Stmt) (j : Nat) : Stmt := match s with
  | .ClassDef _ _ _ body _ _ _ _ _ _ _ => body.getD j (.Pass ⟨0, 0, 0, 0⟩)
  | _ => .Pass ⟨0, 0, 0, 0⟩
def defArgs (s : Stmt) : Arguments := match s with
  | .FunctionDef _ a _ _ _ _ _ _ _ _ => a
  | _ => { posonlyargs := [], args := [], vararg := none, kwonlyargs := [], kw_defaults := [], kwarg := none, defaults := [] }
def defBody (s : Stmt) : List Stmt := match s with
  | .FunctionDef _ _ b _ _ _ _ _ _ _ => b
  | _ => []
def defScope (s : Stmt) : Scope := match s with
  | .FunctionDef _ _ _ _ _ _ sc _ _ _ => sc
  | _ => { kind := .function, names := [], isGenerator := false, isCoroutine := false }

/-! ### no exception leaves a def -/
abbrev CX0 : CXT := fun _ _ _ _ _ _ => False
abbrev E0 : XK := fun _ _ _ => False
theorem pass0 {X : Cx} : Passes CX0 X E0 := fun _ _ _ _ _ _ _ h => h.elim

/-! ### a def (or method) of the text as it stands behind the top -/
structure Fun (K : PySem.W.Frag) (x qual : Str) (st : Stmt) (f : Addr) (fd : FuncData) : Prop where
  ex : ∃ (oc : Value) (od : Option Addr) (kV doc pm : Value) (an : Option Addr) (cdv ct : Value) (osl : Array (Option Value)),
    fd = PySem.W.fnOf x qual (defArgs st) (defBody st) (defScope st) .none kV doc pm an cdv ct ∧ K.lookup f = some ⟨oc, od, .func fd, osl⟩ ∧ PySem.W.codeIn K cdv qual = true
  kp : PySem.W.keepIn K (.ref f) = true
section
variable {P : Program} {w : World} {K : PySem.W.Frag} {mg : Str → Option Value} {base : Heap}
/-- THE RULE for a def: its body as a term of rules, and the reading of that term -/
theorem Fun.ok {x qual : Str} {st : Stmt} {f : Addr} {fd : FuncData} {N ps : List Str} {k : Nat} {sp : Sp} (F : Fun K x qual st f fd) (S : FnScope N ps (defScope st)) (len : ∀ vs H Q E, sp vs H Q E → vs.length = ps.length)
    (hbody : ∀ (cdv : Value) (A : Around) (outer : List Env) (s : Shared) (H : Hp) (vs : List V) (Q : VK) (E : XK), Room k (A.deeper (envOfC qual (defScope st) s.heap.objs.size f cdv)) → sp vs H Q E →
      ∃ t, PSs (cxOf CX0 P w K mg base N qual (defScope st) f cdv A outer s H E).nox (defBody st) t ∧ t { nx := fun _ H' => Q .non H', rt := Q } (start N vs) H) : FnOk P w K mg base CX0 (k + 1) f fd ps sp := by
  obtain ⟨oc, od, kV, doc, pm, an, cdv, ct, osl, rfl, lk, hcd⟩ := F.ex
  refine fn_of lk hcd S len fun A outer s H vs Q E hr hsp => ?_
  obtain ⟨t, h, q⟩ := hbody cdv A outer s H vs Q E hr hsp
  exact ⟨t, h.nox, q⟩
/-- how its arguments bind (no defaults): h is «fun _ _ _ _ _ _ us hl => match us, hl with | [_, _], _ => rfl», one _ a parameter -/
theorem Fun.binds {x qual : Str} {st : Stmt} {f : Addr} {fd : FuncData} {ps : List Str} (F : Fun K x qual st f fd)
    (h : ∀ (kV doc pm : Value) (an : Option Addr) (cdv ct : Value) (us : List Value), us.length = ps.length → bindArgs (PySem.W.fnOf x qual (defArgs st) (defBody st) (defScope st) .none kV doc pm an cdv ct) ⟨us, []⟩ = pure (ps.zip us)) : Binds K fd ps [] := by
  obtain ⟨oc, od, kV, doc, pm, an, cdv, ct, osl, rfl, lk, hcd⟩ := F.ex
  exact .all (h kV doc pm an cdv ct)
theorem fun_mk {x qual : Str} {st : Stmt} {f : Addr} {oc : Value} {od an : Option Addr} {osl : Array (Option Value)} {kV doc pm cdv ct : Value} (l : K.lookup f = some ⟨oc, od, .func (PySem.W.fnOf x qual (defArgs st) (defBody st) (defScope st) .none kV doc pm an cdv ct), osl⟩)
    (c : PySem.W.codeIn K cdv qual = true) (k : PySem.W.keepIn K (.ref f) = true) : Fun K x qual st f (PySem.W.fnOf x qual (defArgs st) (defBody st) (defScope st) .none kV doc pm an cdv ct) := ⟨⟨oc, od, kV, doc, pm, an, cdv, ct, osl, rfl, l, c⟩, k⟩
end
theorem hu_of {A : Around} {k : Nat} (hr : Room k A) : A.units + 1 < cLine := Nat.lt_of_le_of_lt (Nat.add_le_add_left (by decide : 1 ≤ 64) _) hr.units
theorem small1000 {n : Nat} (h : n ≤ 1000) : n < sizeLine := Nat.lt_of_le_of_lt h (by decide)

/-! ### expressions in short: the name that stands in the i-th slot -/
section
variable {X : Cx}
theorem pv (i : Nat) {x : Str} {pos : Pos} (hN : X.N[i]? = some x := by rfl) (hv : Vis X.env.scope x := by first | exact Or.inl rfl | exact Or.inr (Or.inl rfl) | exact Or.inr (Or.inr rfl)) (hd : (x == ("__debug__" : Str)) = false := by decide)
    (hcd : (x == ("__classdict__" : Str)) = false := by decide) : PE X (.Name x pos) (tVar i) := pe_var hN hv hd hcd
/-- len of a dict -/
theorem call_lenD : CallR X (.builtin "len") (fun xs H Q => ∃ a kvs, xs = [V.ref a] ∧ H a = some (.dK kvs) ∧ Q (.int kvs.length) H) := by
  intro pins s σ H xs us Q I r h
  obtain ⟨a, kvs, rfl, ha, q⟩ := h
  obtain ⟨u, rfl, ru⟩ := vals1 r
  cases ru
  exact d_len I (.inl ha) fun t s' I' => ⟨.int kvs.length, H, I', ⟨t, rfl⟩, q⟩
end

/-! ### tests -/
theorem iteF {A B : Prop} (h : B) : if false = true then A else B := by
  rw [if_neg Bool.false_ne_true]
  exact h
theorem iteT {A B : Prop} (h : A) : if true = true then A else B := by
  rw [if_pos rfl]
  exact h
theorem ite2 {c A B : Prop} [Decidable c] (h1 : c → A) (h2 : ¬ c → B) : if c then A else B := by
  by_cases h : c
  · rw [if_pos h]
    exact h1 h
  · rw [if_neg h]
    exact h2 h
theorem iteNS {c A B : Prop} [Decidable c] (hc : c) (h : B) : if (!decide c) = true then A else B := by
  rw [decide_eq_true hc]
  exact iteF h

/-! ### heaps -/
/-- all that was tracked is as it was -/
def Same (H H' : Hp) : Prop := ∀ b o, H b = some o → H' b = some o
theorem Same.refl (H : Hp) : Same H H := fun _ _ h => h
theorem Same.trans {H H1 H2 : Hp} (a : Same H H1) (b : Same H1 H2) : Same H H2 := fun c o h => b c o (a c o h)
theorem Same.free {H H' : Hp} (e : Same H H') {l : Addr} (h : H' l = Option.none) : H l = Option.none := by
  cases q : H l with
  | none => rfl
  | some o =>
    rw [e l o q] at h
    cases h
theorem Same.seq {K : PySem.W.Frag} {H H' : Hp} {a : Addr} {xs : List V} (e : Same H H') (h : SqL K H a xs) : SqL K H' a xs := by
  rcases h with (h | ⟨o, h⟩) | h
  · exact .inl (.inl (e _ _ h))
  · exact .inl (.inr ⟨o, e _ _ h⟩)
  · exact .inr h

/-! ### a dict's pairs: keys that differ -/
section
variable {κ : Type} [DecidableEq κ]
theorem valV_not {kvs : List (κ × V)} {k : κ} (h : valV kvs k = none) : ¬ k ∈ kvs.map (·.1) := by
  intro m
  obtain ⟨p, hp, e⟩ := List.mem_map.mp m
  have q : (kvs.any fun kv => decide (kv.1 = k)) = true := List.any_eq_true.mpr ⟨p, hp, decide_eq_true e⟩
  rw [valV_any, h] at q
  exact absurd q (by simp)
theorem valV_in {kvs : List (κ × V)} {k : κ} {v : V} (h : valV kvs k = some v) : k ∈ kvs.map (·.1) := by
  have q : (kvs.any fun kv => decide (kv.1 = k)) = true := by
    rw [valV_any, h]
    all_goals rfl
  obtain ⟨p, hp, e⟩ := List.any_eq_true.mp q
  exact List.mem_map.mpr ⟨p, hp, of_decide_eq_true e⟩
theorem nd_snoc : ∀ {l : List κ} {k : κ}, l.Nodup → ¬ k ∈ l → (l ++ [k]).Nodup
  | [], k, _, _ => by simp
  | a :: r, k, h, hk => by
    obtain ⟨h1, h2⟩ := List.nodup_cons.mp h
    show (a :: (r ++ [k])).Nodup
    refine List.nodup_cons.mpr ⟨fun m => ?_, nd_snoc h2 fun m => hk (List.mem_cons.mpr (Or.inr m))⟩
    rcases List.mem_append.mp m with q | q
    · exact h1 q
    · exact hk (List.mem_cons.mpr (Or.inl (List.mem_singleton.mp q).symm))
theorem nd_putK {kvs : List (κ × V)} {k : κ} (v : V) (hn : (kvs.map (·.1)).Nodup) (h : valV kvs k = none) : ((putK kvs k v).map (·.1)).Nodup := by
  rw [putK_new v h, List.map_append]
  exact nd_snoc hn (valV_not h)
theorem dropK_pos {p : κ × V} {r : List (κ × V)} {k : κ} (e : p.1 = k) : dropK (p :: r) k = dropK r k := by
  unfold dropK
  rw [List.filter_cons, if_neg (by simp [e])]
theorem dropK_neg {p : κ × V} {r : List (κ × V)} {k : κ} (e : ¬ p.1 = k) : dropK (p :: r) k = p :: dropK r k := by
  unfold dropK
  rw [List.filter_cons, if_pos (by simp [e])]
theorem dropK_no : ∀ {kvs : List (κ × V)} {k : κ}, ¬ k ∈ kvs.map (·.1) → dropK kvs k = kvs
  | [], _, _ => rfl
  | p :: r, k, h => by
    have h' : ¬ k ∈ r.map (·.1) := fun m => by
      obtain ⟨q, hq, e⟩ := List.mem_map.mp m
      exact h (List.mem_map.mpr ⟨q, List.mem_cons.mpr (Or.inr hq), e⟩)
    rw [dropK_neg fun e => h (List.mem_map.mpr ⟨p, List.mem_cons.mpr (Or.inl rfl), e⟩), dropK_no h']
theorem dropK_mem {kvs : List (κ × V)} {k : κ} {p : κ × V} (h : p ∈ dropK kvs k) : p ∈ kvs := (List.mem_filter.mp h).1
theorem nd_dropK : ∀ {kvs : List (κ × V)} {k : κ}, (kvs.map (·.1)).Nodup → ((dropK kvs k).map (·.1)).Nodup
  | [], _, _ => List.nodup_nil
  | p :: r, k, h => by
    have h : (p.1 :: r.map (·.1)).Nodup := h
    obtain ⟨h1, h2⟩ := List.nodup_cons.mp h
    by_cases e : p.1 = k
    · rw [dropK_pos e]
      exact nd_dropK h2
    · rw [dropK_neg e]
      show (p.1 :: (dropK r k).map (·.1)).Nodup
      refine List.nodup_cons.mpr ⟨fun m => h1 ?_, nd_dropK h2⟩
      obtain ⟨q, hq, eq⟩ := List.mem_map.mp m
      exact List.mem_map.mpr ⟨q, dropK_mem hq, eq⟩
theorem dropK_len : ∀ {kvs : List (κ × V)} {k : κ}, (kvs.map (·.1)).Nodup → k ∈ kvs.map (·.1) → (dropK kvs k).length + 1 = kvs.length
  | [], _, _, m => by simp at m
  | p :: r, k, h, m => by
    have h : (p.1 :: r.map (·.1)).Nodup := h
    have m : k = p.1 ∨ k ∈ r.map (·.1) := List.mem_cons.mp m
    obtain ⟨h1, h2⟩ := List.nodup_cons.mp h
    by_cases e : p.1 = k
    · subst e
      rw [dropK_pos rfl, dropK_no h1]
      all_goals rfl
    · have m' : k ∈ r.map (·.1) := m.resolve_left fun z => e z.symm
      have q := dropK_len h2 m'
      rw [dropK_neg e, List.length_cons, List.length_cons]
      omega
end
end L2

set_option Elab.async false
set_option linter.all false
set_option maxRecDepth 100000
namespace L2
open PySem PySem.Spec PyProof.Rows
/-! ### a list comprehension with one 'for' -/
/-- what of the text a comprehension must have: its scope, its closure -/
structure LcOk (X : Cx) (scope : Scope) (cl : List (Str × Addr)) : Prop where
  kind : scope.kind = .function
  clos : closureFor scope X.env = pure cl
  names : ∀ x ∈ scope.names, x.2 = .local → scope.names.lookup x.1 = some .local
  nocell : ∀ x ∈ scope.names, x.2 ≠ .cell
  cells : ∀ x c, cl.lookup x = some c → X.env.cells.lookup x = some c
  has : ∀ x, ((relabel scope X.env).names.lookup x = some .cell ∨ (relabel scope X.env).names.lookup x = some .free) → ∃ c, cl.lookup x = some c
/-- the context of its block -/
abbrev lcCx (X : Cx) (N : List Str) (scope : Scope) (cl : List (Str × Addr)) (s : Shared) (H : Hp) (ex : List Addr) : Cx :=
  { X with N := N, s₀ := s, H₀ := H, env := compEnvC scope cl s.heap.objs.size X.env, outer := X.stack, stack := X.stack, ex := ex, fn := fun _ => false, pn := [], xe := fun _ _ => False }
section
variable {X : Cx} {pins : List (Addr × Obj)} {σ : St} {H : Hp} {s : Shared} {N : List Str} {scope : Scope} {cl : List (Str × Addr)} {fp : List Addr}
theorem lc_ok (I : Inv X pins σ H s) (L : LcOk X scope cl) (hf : ∀ b ∈ fp, FpOk X pins H b) (ho : ∀ b ∈ fp, b < s.heap.objs.size) : (lcCx X N scope cl s H fp).Ok where
  mod := I.ok.mod
  kind := L.kind
  glob := I.ok.glob
  blt := I.ok.blt
  above := Nat.le_refl _
  inj := fun x y c h1 h2 => I.ok.inj x y c (L.cells x c h1) (L.cells y c h2)
  has := fun x hx => L.has x hx
  cab := fun x c h _ => absurd h (by simp)
  hd := I.ok.hd
  frames := I.ok.frames
  stk := .inl rfl
  exf := fun b hb => ⟨Nat.ne_of_lt (ho b hb), fun x c h => (hf b hb).2.2.2.2.1 x c (L.cells x c h)⟩
  bs := I.bs
  bsz := Nat.le_trans I.ok.bsz I.sz
  noex := fun b o e hb => by
    rcases (hf b hb).2.2.2.1 with z | z
    · exact I.ok.noex b o e z
    · exact absurd (Nat.lt_of_lt_of_le (Heap.lt_size e) (Nat.le_trans I.ok.bsz z)) (Nat.lt_irrefl _)
  exfs := fun b hb hs => by
    rcases List.mem_cons.mp (I.stkSub b hs) with z | z
    · exact (hf b hb).2.1 z
    · exact (hf b hb).2.2.1 z
  funs := I.stack
  frf := I.stkFree
/-- the names' values at the block's start: the targets have none, the free names those of the frame around -/
def lcStart (k : Nat) (js : List Nat) (σ : St) : St := List.replicate k none ++ js.map fun j => (σ[j]?).getD none
theorem lc_start {h₁ : Heap} {tk : Nat} {k : Nat} {js : List Nat} (I : Inv X pins σ H s) (L : LcOk X scope cl) (hf : ∀ b ∈ fp, FpOk X pins H b) (ho : ∀ b ∈ fp, b < s.heap.objs.size)
    (hns : ∃ m, h₁.Ns s.heap.objs.size m) (hk : ∀ b o, s.heap.get? b = some o → h₁.get? b = some o)
    (hN : N.length = k + js.length) (hj : ∀ (i j : Nat) x, js[i]? = some j → N[k + i]? = some x → X.N[j]? = some x ∧ Vis X.env.scope x ∧ X.env.scope.names.lookup x ≠ some .local ∧ ((relabel scope X.env).names.lookup x = some .cell ∨ (relabel scope X.env).names.lookup x = some .free)) :
    Inv (lcCx X N scope cl s H fp) [] (lcStart k js σ) H { s with heap := h₁, toks := tk } := by
  obtain ⟨m, hm⟩ := hns
  have cellK : ∀ c v, s.heap.IsCell c v → h₁.IsCell c v := fun c v ⟨o, e, d⟩ => ⟨o, hk c o e, d⟩
  refine ⟨lc_ok I L hf ho, rfl, I.bare, Un.kept hk, ⟨m, hm, fun i x v e1 e2 e3 => ?_⟩, fun x c e => ?_, I.hok.fresh (Nat.le_refl _), fun x c e => I.freeC x c (L.cells x c e), fun p hp => absurd (show p ∈ ([] : List (Addr × Obj)) from hp) (by simp), I.hok.kept hk, ?_⟩
  · unfold lcStart at e2
    by_cases hi : i < k
    · rw [List.getElem?_append_left (by simpa using hi), List.getElem?_replicate] at e2
      split at e2 <;> cases e2
    · obtain ⟨i', rfl⟩ : ∃ i', i = k + i' := ⟨i - k, by omega⟩
      rw [List.getElem?_append_right (by simp), List.length_replicate, Nat.add_sub_cancel_left, List.getElem?_map] at e2
      cases ej : js[i']? with
      | none => rw [ej] at e2; cases e2
      | some j =>
        rw [ej] at e2
        have e2' : (σ[j]?).getD none = some v := Option.some.inj e2
        obtain ⟨h1, h2, h3, h4⟩ := hj i' j x ej e1
        have e4 : σ[j]? = some (some v) := by
          cases q : σ[j]? with
          | none => rw [q] at e2'; cases e2'
          | some y => rw [q] at e2'; exact congrArg some e2'
        obtain ⟨m0, _, hl⟩ := I.loc
        obtain ⟨u, r, lk⟩ := hl j x v h1 e4 h2
        refine ⟨u, r, .inr ⟨h4, ?_⟩⟩
        rcases lk with ⟨q, _⟩ | ⟨_, c, e5, e6⟩
        · exact absurd q h3
        · obtain ⟨c', e7⟩ := L.has x h4
          have : c' = c := Option.some.inj ((L.cells x c' e7).symm.trans e5)
          subst this
          exact ⟨c', e7, cellK c' _ e6⟩
  · obtain ⟨v, e1⟩ := I.cell x c (L.cells x c e)
    exact ⟨v, cellK c v e1⟩
  · unfold lcStart
    rw [List.length_append, List.length_replicate, List.length_map]
    exact hN.symm
theorem lc_end {H' : Hp} {σ' : St} {s' : Shared} {h' : Heap} (I : Inv X pins σ H s) (hf : ∀ b ∈ fp, FpOk X pins H b) (J : Inv (lcCx X N scope cl s H fp) [] σ' H' s') (hs : Heap.SameBut s.heap.objs.size s'.heap h') : Inv X pins σ H' { s' with heap := h' } := by
  have ne : ∀ b o, s.heap.get? b = some o → b ≠ s.heap.objs.size := fun b o e => Nat.ne_of_lt (Heap.lt_size e)
  have u := J.base
  have u' : Un (frs X.stack) fp H H' s.heap h' :=
    ⟨fun b o e n hb hx => (hs.2 b (ne b o e)).trans (u.keep b o e n hb hx), fun b o e n hb hx => by
      obtain ⟨sl, q⟩ := u.slot b o e n hb hx
      exact ⟨sl, (hs.2 b (ne b o e)).trans q⟩, u.free, fun b o e hx => by
      obtain ⟨o', q⟩ := u.there b o e hx
      exact ⟨o', (hs.2 b (ne b o e)).trans q⟩, u.tups, u.frzs, u.tbls⟩
  have nt : ∀ b o, H' b = some o → b ≠ s.heap.objs.size := fun b o e z => by
    have := J.free
    rw [show (lcCx X N scope cl s H fp).env.locals = s.heap.objs.size from rfl, ← z, e] at this
    cases this
  refine I.call' (s' := { s' with heap := h' }) J.os u' (fun b o e => ?_) J.bare fun b hb => ?_
  · refine (J.hok b o e).stay (fun c v hc q => (hs.2 c ?_).trans q) (fun _ q => q) fun _ _ q => q
    rcases hc with z | z
    · rw [z]; exact nt b o e
    · exact nt c _ z
  · obtain ⟨f0, f1, f2, f3, f4, f5⟩ := hf b hb
    exact ⟨f3, f1, f4, f5⟩
end
section
variable {prog : Program} {w : World} {A : Around} {R : Result → Shared → Prop} {s : Shared}
theorem lc_loop {elt target iter : Expr} {scope : Scope} {pos : Pos} {it acc : Value} {env : Env} (I : Nat → Shared → Prop)
    (turn : ∀ n s, I n s → wpAny (model prog w) A (pyNext it) (fun r s₁ => match r with
      | none => R (.ok .next) s₁
      | some v => wpAny (model prog w) A (letOwnedTupleGo target it v) (fun _ s₂ => wpAny (model prog w) A (assign target env v) (fun _ s₃ => wpAny (model prog w) A (eval elt env) (fun x s₄ =>
          wpAny (model prog w) A (call (.builtin "list.append") [acc, x]) (fun _ s₅ => ∃ m, m < n ∧ I m s₅) (fun _ _ => False) s₄) (fun _ _ => False) s₃) (fun _ _ => False) s₂) (fun _ _ => False) s₁) (fun _ _ => False) s)
    (n : Nat) (h : I n s) : codeAny (model prog w) A (.compLoop (.ListComp elt [⟨target, iter, [], 0⟩] scope pos) 0 it acc env) R s := by
  refine codeAny_loop rfl I (fun n s hI => ?_) n h
  show wpAny _ _ ((compTurn (.ListComp elt [⟨target, iter, [], 0⟩] scope pos) 0 it acc env).onRaise (fun x => do noteFrame x env; theTreesLotGoes x)) _ _ s
  refine wpAny_noted ?_
  rw [compTurn_list1]
  refine wpAny_bind (wpAny_standAt (wpAny_bind (wpAny_mono (turn n s hI) (fun r s₁ h₁ => ?_) fun _ _ h' => h'.elim)))
  cases r with
  | none => exact wpAny_pure h₁
  | some v =>
    refine wpAny_bind (wpAny_mono h₁ (fun _ s₂ h₂ => ?_) fun _ _ h' => h'.elim)
    exact wpAny_bind (wpAny_mono h₂ (fun _ s₂ h₂ => wpAny_bind (wpAny_bind (wpAny_mono h₂ (fun x s₃ h₃ => wpAny_bind (wpAny_mono h₃
      (fun _ s₄ h₄ => wpAny_pure (wpAny_pure ⟨rfl, h₄⟩)) fun _ _ h' => h'.elim)) fun _ _ h' => h'.elim))) fun _ _ h' => h'.elim)
theorem compTurn_list2 (elt target iter c : Expr) (scope : Scope) (pos : Pos) (it acc : Value) (env : Env) :
    compTurn (.ListComp elt [⟨target, iter, [c], 0⟩] scope pos) 0 it acc env = (standAt iter.pos >>= fun _ => pyNext it >>= fun r => match r with
      | none => pure (.done .next)
      | some v => letOwnedTupleGo target it v >>= fun _ => assign target env v >>= fun _ =>
        (forIn [c] true fun c r => if r = true then do let ok ← isTrue c env (eval c env); pure (ForInStep.yield ok) else pure (ForInStep.yield r)) >>= fun ok =>
        if ok = true then (eval elt env >>= fun x => call (.builtin "list.append") [acc, x] >>= fun _ => pure ()) >>= fun _ =>
          again (.compLoop (.ListComp elt [⟨target, iter, [c], 0⟩] scope pos) 0 it acc env)
        else again (.compLoop (.ListComp elt [⟨target, iter, [c], 0⟩] scope pos) 0 it acc env)) := by rfl
theorem lc_loop1 {elt target iter c : Expr} {scope : Scope} {pos : Pos} {it acc : Value} {env : Env} (I : Nat → Shared → Prop)
    (turn : ∀ n s, I n s → wpAny (model prog w) A (pyNext it) (fun r s₁ => match r with
      | none => R (.ok .next) s₁
      | some v => wpAny (model prog w) A (letOwnedTupleGo target it v) (fun _ s₂ => wpAny (model prog w) A (assign target env v) (fun _ s₃ => wpAny (model prog w) A (isTrue c env (eval c env)) (fun ok s₃ =>
          if ok = true then wpAny (model prog w) A (eval elt env) (fun x s₄ =>
            wpAny (model prog w) A (call (.builtin "list.append") [acc, x]) (fun _ s₅ => ∃ m, m < n ∧ I m s₅) (fun _ _ => False) s₄) (fun _ _ => False) s₃
          else ∃ m, m < n ∧ I m s₃) (fun _ _ => False) s₃) (fun _ _ => False) s₂) (fun _ _ => False) s₁) (fun _ _ => False) s)
    (n : Nat) (h : I n s) : codeAny (model prog w) A (.compLoop (.ListComp elt [⟨target, iter, [c], 0⟩] scope pos) 0 it acc env) R s := by
  refine codeAny_loop rfl I (fun n s hI => ?_) n h
  show wpAny _ _ ((compTurn (.ListComp elt [⟨target, iter, [c], 0⟩] scope pos) 0 it acc env).onRaise (fun x => do noteFrame x env; theTreesLotGoes x)) _ _ s
  refine wpAny_noted ?_
  rw [compTurn_list2]
  refine wpAny_bind (wpAny_standAt (wpAny_bind (wpAny_mono (turn n s hI) (fun r s₁ h₁ => ?_) fun _ _ h' => h'.elim)))
  cases r with
  | none => exact wpAny_pure h₁
  | some v =>
    refine wpAny_bind (wpAny_mono h₁ (fun _ s₂ h₂ => ?_) fun _ _ h' => h'.elim)
    refine wpAny_bind (wpAny_mono h₂ (fun _ s₃ h₃ => ?_) fun _ _ h' => h'.elim)
    rw [List.forIn_cons]
    simp only [if_true]
    refine wpAny_bind (wpAny_bind (wpAny_bind (wpAny_mono h₃ (fun ok s₄ h₄ => wpAny_pure ?_) fun _ _ h' => h'.elim)))
    simp only [List.forIn_nil]
    refine wpAny_pure ?_
    cases ok with
    | true =>
      rw [if_pos rfl] at h₄ ⊢
      exact wpAny_bind (wpAny_bind (wpAny_mono h₄ (fun x s₃ h₃ => wpAny_bind (wpAny_mono h₃ (fun _ s₄ h₄ => wpAny_pure (wpAny_pure ⟨rfl, h₄⟩)) fun _ _ h' => h'.elim)) fun _ _ h' => h'.elim))
    | false =>
      rw [if_neg (by simp)] at h₄ ⊢
      exact wpAny_pure ⟨rfl, h₄⟩
end
/-- [elt for tg in iter]: W is the word: the turn, what falls, the items so far, the names' values, the heap (the new list stands at p) -/
def LcW (k : Nat) (js : List Nat) (g : TG) (te : TE) (σ : St) (Q : VK) (J : It) (H1 : Hp) (p : Addr) : Prop := ∃ W : Nat → Nat → List V → St → Hp → Prop,
  (∃ m, W 0 m [] (lcStart k js σ) (upd H1 p (.lst []))) ∧ ∀ i m ys σ' H', W i m ys σ' H' → (J.stop i H' ∧ Q (.ref p) H') ∨
    (J.go i H' ∧ ys.length < sizeLine ∧ ∀ x H2, J.yld i H' x H2 → g x σ' H2 fun σ2 H3 => te σ2 H3 fun y H4 => H4 p = some (.lst ys) ∧ ∃ m', m' < m ∧ W (i + 1) m' (ys ++ [y]) σ2 (upd H4 p (.lst (ys ++ [y]))))
def tLc (k : Nat) (js : List Nat) (wi : TI) (g : TG) (te : TE) : TE := fun σ H Q => wi σ H fun J H1 => ∀ p, H1 p = none → LcW k js g te σ Q J H1 p
/-- .. if c -/
def LcW1 (k : Nat) (js : List Nat) (g : TG) (tc : TT) (te : TE) (σ : St) (Q : VK) (J : It) (H1 : Hp) (p : Addr) : Prop := ∃ W : Nat → Nat → List V → St → Hp → Prop,
  (∃ m, W 0 m [] (lcStart k js σ) (upd H1 p (.lst []))) ∧ ∀ i m ys σ' H', W i m ys σ' H' → (J.stop i H' ∧ Q (.ref p) H') ∨
    (J.go i H' ∧ ys.length < sizeLine ∧ ∀ x H2, J.yld i H' x H2 → g x σ' H2 fun σ2 H3 => tc σ2 H3 fun b H4 => if b = true then te σ2 H4 fun y H5 => H5 p = some (.lst ys) ∧ ∃ m', m' < m ∧ W (i + 1) m' (ys ++ [y]) σ2 (upd H5 p (.lst (ys ++ [y])))
      else ∃ m', m' < m ∧ W (i + 1) m' ys σ2 H4)
def tLc1 (k : Nat) (js : List Nat) (wi : TI) (g : TG) (tc : TT) (te : TE) : TE := fun σ H Q => wi σ H fun J H1 => ∀ p, H1 p = none → LcW1 k js g tc te σ Q J H1 p
section
variable {X : Cx} {N : List Str} {scope : Scope} {cl : List (Str × Addr)} {k : Nat} {js : List Nat}
theorem pe_lc {elt tg iter : Expr} {pos : Pos} {wi : TI} {g : TG} {te : TE} (hc : X.calm = true) (L : LcOk X scope cl) (hN : N.length = k + js.length)
    (hj : ∀ (i j : Nat) x, js[i]? = some j → N[k + i]? = some x → X.N[j]? = some x ∧ Vis X.env.scope x ∧ X.env.scope.names.lookup x ≠ some .local ∧ ((relabel scope X.env).names.lookup x = some .cell ∨ (relabel scope X.env).names.lookup x = some .free))
    (hi : PI X tg iter wi) (hg : ∀ s H fp, PG (lcCx X N scope cl s H fp) tg g) (he : ∀ s H fp, PE (lcCx X N scope cl s H fp) elt te)
    (hs : ∀ x, foldedSetIterable iter X.env x = pure x := by intro _; rfl) : PE X (.ListComp elt [⟨tg, iter, [], 0⟩] scope pos) (tLc k js wi g te) := by
  intro pins s σ H Q I h
  rw [eval_ListComp]
  refine wpAny_comprehension_free (use := none) rfl hs L.clos L.kind L.names ?_
  refine thn (hi pins s σ H _ I h) fun v s1 h1 => thn h1 fun itv s2 h2 => ?_
  obtain ⟨it, fp, tn, J, H2, e, I2, T, st2, f2, hW⟩ := h2
  subst e
  have hfp : ∀ b ∈ fp, b < s2.heap.objs.size := fun b hb => by
    obtain ⟨o, e, _⟩ := T.obj _ _ st2 b hb
    exact Heap.lt_size e
  refine wpAny_newObj_type (wpAny_newFunctionEnv L.nocell (by intro y hy; simp at hy) (fun h₁ hns hsb => ?_) L.kind)
  dsimp only at hns hsb ⊢
  obtain ⟨W, ⟨m0, w0⟩, turn⟩ := hW s2.heap.objs.size (I2.hok.fresh (Nat.le_refl _))
  have I3 : Inv X pins σ (upd H2 s2.heap.objs.size (.lst [])) { s2 with heap := s2.heap.push { cls := .type "list", dict := none, data := .seq ([] : List Value).toArray } } := I2.lnew (t' := s2.toks) .nil (Nat.zero_le _)
  generalize hA : s2.heap.push { cls := .type "list", dict := none, data := .seq ([] : List Value).toArray } = hpA at hns hsb I3 ⊢
  have hszA : hpA.objs.size = s2.heap.objs.size + 1 := by rw [← hA, Heap.size_push]
  have keepA : ∀ b o, s2.heap.get? b = some o → hpA.get? b = some o := fun b o e => by rw [← hA]; exact Heap.get?_push_of_some _ e
  have f3 : ∀ b ∈ fp, FpOk X pins (upd H2 s2.heap.objs.size (.lst [])) b := fun b hb => ⟨by rw [upd_ne (Nat.ne_of_lt (hfp b hb))]; exact (f2 b hb).1, (f2 b hb).2⟩
  have hfp3 : ∀ b ∈ fp, b < hpA.objs.size := fun b hb => by rw [hszA]; exact Nat.lt_succ_of_lt (hfp b hb)
  have keep1 : ∀ b o, hpA.get? b = some o → h₁.get? b = some o := fun b o e => hsb.extBut b o (Nat.ne_of_lt (Heap.lt_size e)) (Heap.get?_push_of_some _ e)
  have J0 := lc_start (N := N) (k := k) (js := js) (tk := s2.toks + ([] : List (Str × Value)).length) I3 L f3 hfp3 ⟨_, hns⟩ keep1 hN hj
  have st1 : tn 0 h₁ := T.keep _ _ _ st2 fun b hb o e => keep1 b o (keepA b o e)
  -- what stays true of the iterator's objects
  have stat : ∀ {H' : Hp}, (∀ b ∈ fp, H' b = none) → ∀ b ∈ fp, FpOk (lcCx X N scope cl { s2 with heap := hpA } (upd H2 s2.heap.objs.size (.lst [])) fp) [] H' b := fun hn b hb =>
    ⟨hn b hb, Nat.ne_of_lt (hfp3 b hb), (lc_ok (N := N) I3 L f3 hfp3).exfs b hb, .inl hb, fun x c h => (f3 b hb).2.2.2.2.1 x c (L.cells x c h), fun p hp => absurd (show p ∈ ([] : List (Addr × Obj)) from hp) (by simp)⟩
  have loop : codeAny (model X.prog X.w) X.A (.compLoop (.ListComp elt [⟨tg, iter, [], 0⟩] scope pos) 0 (.ref it) (.ref s2.heap.objs.size) (compEnvC scope cl hpA.objs.size X.env))
      (compPost (model X.prog X.w) X.A X.xe none (EP X pins σ Q) (.ref s2.heap.objs.size) hpA.objs.size) { s2 with heap := h₁, toks := s2.toks + ([] : List (Str × Value)).length } := by
    refine lc_loop (fun n s' => ∃ i ys σ' H', Inv (lcCx X N scope cl { s2 with heap := hpA } (upd H2 s2.heap.objs.size (.lst [])) fp) [] σ' H' s' ∧ tn i s'.heap ∧ (∀ b ∈ fp, H' b = none) ∧ W i n ys σ' H') ?_ m0 ⟨0, [], _, _, J0, st1, fun b hb => (f3 b hb).1, w0⟩
    rintro n s3 ⟨i, ys, σ3, H3, J3, st3, fr3, w3⟩
    rcases turn i n ys σ3 H3 w3 with ⟨stop, qn⟩ | ⟨go, hlen, step⟩
    · refine thn (T.done (lcCx X N scope cl { s2 with heap := hpA } (upd H2 s2.heap.objs.size (.lst [])) fp) rfl rfl rfl hc i [] s3 σ3 H3 (fun _ _ => False) J3 (stat fr3) st3 stop) fun r s4 ⟨hr, J4⟩ => ?_
      subst hr
      obtain ⟨m, hm, _⟩ := J4.loc
      exact ⟨m, hm, fun h' hs' => ⟨.ref s2.heap.objs.size, H3, lc_end I3 f3 J4 hs', rfl, qn⟩⟩
    · refine thn (T.item (lcCx X N scope cl { s2 with heap := hpA } (upd H2 s2.heap.objs.size (.lst [])) fp) rfl rfl rfl hc i [] s3 σ3 H3 (fun _ _ => False) J3 (stat fr3) st3 go) fun r s4 ⟨u, hr, h4⟩ => ?_
      subst hr
      refine thn h4 fun _ s5 ⟨x, H5, J5, r5, y5, st5, fr5⟩ => ?_
      have J5' := J5.pinned (stat fr5) (T.obj _ _ st5)
      refine thn (hg _ _ _ _ s5 σ3 H5 x u _ J5' r5 (step x H5 y5)) fun _ s6 ⟨σ6, H6, J6, q6⟩ => ?_
      refine thn (he _ _ _ _ s6 σ6 H6 _ J6 q6) fun y s7 ⟨vy, H7, J7, r7, q7, m', hm', w7⟩ => ?_
      refine thn (mt_append _ s7 σ6 H7 (.ref s2.heap.objs.size) [vy] _ _ (fun _ H8 => H8 = upd H7 s2.heap.objs.size (.lst (ys ++ [vy]))) J7 rfl (.cons r7 .nil) ⟨_, ys, vy, rfl, rfl, q7, hlen, rfl⟩) fun _ s8 ⟨_, H8, J8, _, e8⟩ => ?_
      subst e8
      refine ⟨m', hm', i + 1, ys ++ [vy], σ6, _, J8.unpinned, T.keep _ _ _ st5 fun b hb o e => (J8.pin (b, o) (List.mem_append_right _ (List.mem_append_right _ (mem_pinsAt hb e)))).1, fun b hb => ?_, w7⟩
      obtain ⟨o, e, d⟩ := T.obj _ _ st5 b hb
      exact (J8.pin (b, o) (List.mem_append_right _ (List.mem_append_right _ (mem_pinsAt hb e)))).2.1
  exact codeAny_compStart_list loop (T.self _ 0 _ _ _ st1 loop)
theorem pe_lc1 {elt tg iter c : Expr} {pos : Pos} {wi : TI} {g : TG} {tc : TT} {te : TE} (hc : X.calm = true) (L : LcOk X scope cl) (hN : N.length = k + js.length)
    (hj : ∀ (i j : Nat) x, js[i]? = some j → N[k + i]? = some x → X.N[j]? = some x ∧ Vis X.env.scope x ∧ X.env.scope.names.lookup x ≠ some .local ∧ ((relabel scope X.env).names.lookup x = some .cell ∨ (relabel scope X.env).names.lookup x = some .free))
    (hi : PI X tg iter wi) (hg : ∀ s H fp, PG (lcCx X N scope cl s H fp) tg g) (ht : ∀ s H fp, PT (lcCx X N scope cl s H fp) c tc) (he : ∀ s H fp, PE (lcCx X N scope cl s H fp) elt te)
    (hs : ∀ x, foldedSetIterable iter X.env x = pure x := by intro _; rfl) : PE X (.ListComp elt [⟨tg, iter, [c], 0⟩] scope pos) (tLc1 k js wi g tc te) := by
  intro pins s σ H Q I h
  rw [eval_ListComp]
  refine wpAny_comprehension_free (use := none) rfl hs L.clos L.kind L.names ?_
  refine thn (hi pins s σ H _ I h) fun v s1 h1 => thn h1 fun itv s2 h2 => ?_
  obtain ⟨it, fp, tn, J, H2, e, I2, T, st2, f2, hW⟩ := h2
  subst e
  have hfp : ∀ b ∈ fp, b < s2.heap.objs.size := fun b hb => by
    obtain ⟨o, e, _⟩ := T.obj _ _ st2 b hb
    exact Heap.lt_size e
  refine wpAny_newObj_type (wpAny_newFunctionEnv L.nocell (by intro y hy; simp at hy) (fun h₁ hns hsb => ?_) L.kind)
  dsimp only at hns hsb ⊢
  obtain ⟨W, ⟨m0, w0⟩, turn⟩ := hW s2.heap.objs.size (I2.hok.fresh (Nat.le_refl _))
  have I3 : Inv X pins σ (upd H2 s2.heap.objs.size (.lst [])) { s2 with heap := s2.heap.push { cls := .type "list", dict := none, data := .seq ([] : List Value).toArray } } := I2.lnew (t' := s2.toks) .nil (Nat.zero_le _)
  generalize hA : s2.heap.push { cls := .type "list", dict := none, data := .seq ([] : List Value).toArray } = hpA at hns hsb I3 ⊢
  have hszA : hpA.objs.size = s2.heap.objs.size + 1 := by rw [← hA, Heap.size_push]
  have keepA : ∀ b o, s2.heap.get? b = some o → hpA.get? b = some o := fun b o e => by rw [← hA]; exact Heap.get?_push_of_some _ e
  have f3 : ∀ b ∈ fp, FpOk X pins (upd H2 s2.heap.objs.size (.lst [])) b := fun b hb => ⟨by rw [upd_ne (Nat.ne_of_lt (hfp b hb))]; exact (f2 b hb).1, (f2 b hb).2⟩
  have hfp3 : ∀ b ∈ fp, b < hpA.objs.size := fun b hb => by rw [hszA]; exact Nat.lt_succ_of_lt (hfp b hb)
  have keep1 : ∀ b o, hpA.get? b = some o → h₁.get? b = some o := fun b o e => hsb.extBut b o (Nat.ne_of_lt (Heap.lt_size e)) (Heap.get?_push_of_some _ e)
  have J0 := lc_start (N := N) (k := k) (js := js) (tk := s2.toks + ([] : List (Str × Value)).length) I3 L f3 hfp3 ⟨_, hns⟩ keep1 hN hj
  have st1 : tn 0 h₁ := T.keep _ _ _ st2 fun b hb o e => keep1 b o (keepA b o e)
  have stat : ∀ {H' : Hp}, (∀ b ∈ fp, H' b = none) → ∀ b ∈ fp, FpOk (lcCx X N scope cl { s2 with heap := hpA } (upd H2 s2.heap.objs.size (.lst [])) fp) [] H' b := fun hn b hb =>
    ⟨hn b hb, Nat.ne_of_lt (hfp3 b hb), (lc_ok (N := N) I3 L f3 hfp3).exfs b hb, .inl hb, fun x c h => (f3 b hb).2.2.2.2.1 x c (L.cells x c h), fun p hp => absurd (show p ∈ ([] : List (Addr × Obj)) from hp) (by simp)⟩
  have loop : codeAny (model X.prog X.w) X.A (.compLoop (.ListComp elt [⟨tg, iter, [c], 0⟩] scope pos) 0 (.ref it) (.ref s2.heap.objs.size) (compEnvC scope cl hpA.objs.size X.env))
      (compPost (model X.prog X.w) X.A X.xe none (EP X pins σ Q) (.ref s2.heap.objs.size) hpA.objs.size) { s2 with heap := h₁, toks := s2.toks + ([] : List (Str × Value)).length } := by
    refine lc_loop1 (fun n s' => ∃ i ys σ' H', Inv (lcCx X N scope cl { s2 with heap := hpA } (upd H2 s2.heap.objs.size (.lst [])) fp) [] σ' H' s' ∧ tn i s'.heap ∧ (∀ b ∈ fp, H' b = none) ∧ W i n ys σ' H') ?_ m0 ⟨0, [], _, _, J0, st1, fun b hb => (f3 b hb).1, w0⟩
    rintro n s3 ⟨i, ys, σ3, H3, J3, st3, fr3, w3⟩
    rcases turn i n ys σ3 H3 w3 with ⟨stop, qn⟩ | ⟨go, hlen, step⟩
    · refine thn (T.done (lcCx X N scope cl { s2 with heap := hpA } (upd H2 s2.heap.objs.size (.lst [])) fp) rfl rfl rfl hc i [] s3 σ3 H3 (fun _ _ => False) J3 (stat fr3) st3 stop) fun r s4 ⟨hr, J4⟩ => ?_
      subst hr
      obtain ⟨m, hm, _⟩ := J4.loc
      exact ⟨m, hm, fun h' hs' => ⟨.ref s2.heap.objs.size, H3, lc_end I3 f3 J4 hs', rfl, qn⟩⟩
    · refine thn (T.item (lcCx X N scope cl { s2 with heap := hpA } (upd H2 s2.heap.objs.size (.lst [])) fp) rfl rfl rfl hc i [] s3 σ3 H3 (fun _ _ => False) J3 (stat fr3) st3 go) fun r s4 ⟨u, hr, h4⟩ => ?_
      subst hr
      refine thn h4 fun _ s5 ⟨x, H5, J5, r5, y5, st5, fr5⟩ => ?_
      have J5' := J5.pinned (stat fr5) (T.obj _ _ st5)
      refine thn (hg _ _ _ _ s5 σ3 H5 x u _ J5' r5 (step x H5 y5)) fun _ s6 ⟨σ6, H6, J6, q6⟩ => ?_
      refine thn (ht _ _ _ _ s6 σ6 H6 _ J6 q6) fun b s6 ⟨H6, J6, q6⟩ => ?_
      cases b with
      | true =>
        rw [if_pos rfl] at q6 ⊢
        refine thn (he _ _ _ _ s6 σ6 H6 _ J6 q6) fun y s7 ⟨vy, H7, J7, r7, q7, m', hm', w7⟩ => ?_
        refine thn (mt_append _ s7 σ6 H7 (.ref s2.heap.objs.size) [vy] _ _ (fun _ H8 => H8 = upd H7 s2.heap.objs.size (.lst (ys ++ [vy]))) J7 rfl (.cons r7 .nil) ⟨_, ys, vy, rfl, rfl, q7, hlen, rfl⟩) fun _ s8 ⟨_, H8, J8, _, e8⟩ => ?_
        subst e8
        refine ⟨m', hm', i + 1, ys ++ [vy], σ6, _, J8.unpinned, T.keep _ _ _ st5 fun b hb o e => (J8.pin (b, o) (List.mem_append_right _ (List.mem_append_right _ (mem_pinsAt hb e)))).1, fun b hb => ?_, w7⟩
        obtain ⟨o, e, d⟩ := T.obj _ _ st5 b hb
        exact (J8.pin (b, o) (List.mem_append_right _ (List.mem_append_right _ (mem_pinsAt hb e)))).2.1
      | false =>
        rw [if_neg (by simp)] at q6 ⊢
        obtain ⟨m', hm', w7⟩ := q6
        refine ⟨m', hm', i + 1, ys, σ6, _, J6.unpinned, T.keep _ _ _ st5 fun b hb o e => (J6.pin (b, o) (List.mem_append_right _ (List.mem_append_right _ (mem_pinsAt hb e)))).1, fun b hb => ?_, w7⟩
        obtain ⟨o, e, d⟩ := T.obj _ _ st5 b hb
        exact (J6.pin (b, o) (List.mem_append_right _ (List.mem_append_right _ (mem_pinsAt hb e)))).2.1
  exact codeAny_compStart_list loop (T.self _ 0 _ _ _ st1 loop)
end
end L2

set_option Elab.async false
set_option linter.all false
set_option maxRecDepth 100000
namespace L2
open PySem PySem.Spec PyProof.Rows
section
variable {X : Cx} {tg : Expr}
/-! ### all(xs) of a list of bools -/
theorem vals_bl : ∀ {bs : List Bool} {us : List Value}, Vals (bs.map V.bl) us → us = bs.map Value.bool
  | [], _, .nil => rfl
  | b :: bs, _, .cons r t => by
    have e : _ = Value.bool b := r
    rw [e, vals_bl t]; rfl
theorem call_all (hc : X.calm = true) : CallR X (.builtin "all") (fun xs H Q => ∃ a, ∃ bs : List Bool, xs = [.ref a] ∧ SqL X.K H a (bs.map V.bl) ∧ Q (.bl (bs.all id)) H) := by
  intro pins s σ H xs us Q I r h
  obtain ⟨a, bs, rfl, hq, q⟩ := h
  obtain ⟨u, rfl, ru⟩ := vals1 r
  cases ru
  obtain ⟨its, rv, pl, hz⟩ := I.list hq
  have e := vals_bl rv
  subst e
  refine call_all_walk (wpAny_pyIter_list pl.isList ?_)
  have hlt : a < s.heap.objs.size := by obtain ⟨o, e, _⟩ := pl.isList; exact Heap.lt_size e
  have hne : a ≠ s.heap.objs.size := Nat.ne_of_lt hlt
  refine ⟨s.heap.objs.size, _, _, _, _, _, fun i => bs.getD i false, rfl, Walks.list (by simp [I.ok.hd hc]) s.heap.objs.size a hne (bs.map Value.bool).toArray, ⟨⟨_, Heap.get?_push_size _ rfl, rfl, rfl⟩, pl.isList.push _⟩, ?_, ?_⟩
  · intro i v s' Q' E' hP hQ
    have hP' : (bs.map Value.bool)[i]? = some v := by simpa using hP
    rw [List.getElem?_map] at hP'
    cases eb : bs[i]? with
    | none => rw [eb] at hP'; cases hP'
    | some b =>
      rw [eb] at hP'
      have ev : Value.bool b = v := Option.some.inj hP'
      subst ev
      refine wpAny_truthy_bool ?_
      have hQ' : Q' (bs.getD i false) s' := hQ
      rw [List.getD_eq_getElem?_getD, eb] at hQ'
      exact hQ'
  · intro h' tk hk
    refine ⟨.bl (bs.all id), H, I.kept (t' := tk) (fun b o e => hk b o (by simp only [List.mem_singleton]; exact Nat.ne_of_lt (Heap.lt_size e)) (Heap.get?_push_of_some _ e)), ?_, q⟩
    have e1 : ((List.range (bs.map Value.bool).toArray.size).all fun i => bs.getD i false) = bs.all id := by
      rw [List.size_toArray, List.length_map]
      rw [Bool.eq_iff_iff, List.all_eq_true, List.all_eq_true]
      constructor
      · intro hh x hx
        obtain ⟨i, hi, e⟩ := List.mem_iff_getElem.mp hx
        have := hh i (List.mem_range.mpr hi)
        rw [List.getD_eq_getElem?_getD, List.getElem?_eq_getElem hi, e] at this
        exact this
      · intro hh i hi
        have hi' := List.mem_range.mp hi
        rw [List.getD_eq_getElem?_getD, List.getElem?_eq_getElem hi']
        exact hh _ (List.getElem_mem hi')
    show _ = Value.bool _
    rw [e1]
/-! ### is True, is not False .. -/
theorem op_is_bl : OpR X (compareOp .Is) (fun x y H Q => ∃ a b, x = .bl a ∧ y = .bl b ∧ Q (.bl (decide (a = b))) H) := by
  intro pins s σ H x y v u Q I rx ry h
  obtain ⟨a, b, rfl, rfl, q⟩ := h
  cases (show v = Value.bool a from rx)
  cases (show u = Value.bool b from ry)
  show wpAny _ _ (do let r ← isSame (.bool a) (.bool b); pure (Value.bool r)) _ _ s
  refine wpAny_bind (wpAny_isSame_plain (by rfl) (wpAny_pure ⟨.bl (decide (a = b)), H, I, ?_, q⟩))
  show _ = Value.bool _
  cases a <;> cases b <;> rfl
theorem op_isnot_bl : OpR X (compareOp .IsNot) (fun x y H Q => ∃ a b, x = .bl a ∧ y = .bl b ∧ Q (.bl (!decide (a = b))) H) := by
  intro pins s σ H x y v u Q I rx ry h
  obtain ⟨a, b, rfl, rfl, q⟩ := h
  cases (show v = Value.bool a from rx)
  cases (show u = Value.bool b from ry)
  show wpAny _ _ (do let r ← isSame (.bool a) (.bool b); pure (Value.bool (!r))) _ _ s
  refine wpAny_bind (wpAny_isSame_plain (by rfl) (wpAny_pure ⟨.bl (!decide (a = b)), H, I, ?_, q⟩))
  show _ = Value.bool _
  cases a <;> cases b <;> rfl
/-! ### isinstance(x, a built-in type) -/
theorem call_isinst : CallR X (.builtin "isinstance") (fun xs H Q => ∃ x n t b, xs = [x, .ty n] ∧ TyOf X.K H x t ∧ PySem.W.kitOne X.K t (.type n) = some b ∧ Q (.bl b) H) := by
  intro pins s σ H xs us Q I r h
  obtain ⟨x, n, t, b, rfl, ty, e, q⟩ := h
  obtain ⟨u, u', rfl, ru, ru'⟩ := vals2 r
  cases (show u' = Value.type n from ru')
  exact isinst_ok I ru ty e fun tk => ⟨.bl b, H, I.tok tk, rfl, q⟩
/-! ### the signs of a text -/
def Its (x : Str) : It := ⟨fun i _ => i < x.cps.size, fun i H v H' => H' = H ∧ ∃ c, x.cps[i]? = some c ∧ v = .str ⟨#[c]⟩, fun i _ => x.cps.size ≤ i⟩
theorem turn_str {P : Program} {w : World} {K : PySem.W.Frag} (x : Str) (t : Tok) (it : Addr) : Turn P w K tg (Its x) [it] it (fun i h => h.IsStrIter it (strIterType x) x t i) where
  mem := by simp
  obj := fun i h st b hb => by
    have e : b = it := by simpa using hb
    subst e
    obtain ⟨o, e, c, d⟩ := st
    exact ⟨o, e, fun v z => by rw [d] at z; cases z⟩
  keep := fun i h h' st k => by
    obtain ⟨o, e, r⟩ := st
    exact ⟨o, k it (by simp) o e, r⟩
  item := by
    intro X hP hw hK hc i pins s σ H E I hf st hg
    subst hP hw hK
    obtain ⟨f0, f1, f2, f3, f4, f5⟩ := hf it (by simp)
    have hg' : i < x.cps.size := hg
    have fin : ∀ (h' : Heap) (tk : Nat), h'.IsStrIter it (strIterType x) x t (i + 1) → Heap.SameBut it s.heap h' → ∃ u', some (Value.str ⟨#[x.cps[i]]⟩ s.toks) = some u' ∧ wpAny (model X.prog X.w) X.A (letOwnedTupleGo tg (.ref it) u') (fun _ s2 => ∃ y H', Inv X pins σ H' s2 ∧ RelV y u' ∧ (Its x).yld i H y H' ∧ s2.heap.IsStrIter it (strIterType x) x t (i + 1) ∧ ∀ b ∈ [it], H' b = none) E { s with heap := h', toks := tk } := fun h' tk st' sb => by
      have I1 : Inv X pins σ H { s with heap := h', toks := tk } := I.turned (t' := tk) (fun b o hb e => (sb.2 b hb).trans e) f0 f1 f3 f4 f5
      obtain ⟨o, e, c, d⟩ := id st'
      refine ⟨_, rfl, go_of (s := { s with heap := h', toks := tk }) e c d ?_ ⟨.str ⟨#[x.cps[i]]⟩, H, I1, ⟨_, rfl⟩, ⟨rfl, x.cps[i], by simp [hg'], rfl⟩, st', fun b hb => (hf b hb).1⟩⟩
      unfold strIterType
      split <;> decide
    cases ha : x.cps.all (· < 128) with
    | true =>
      have et : strIterType x = "str_ascii_iterator" := by simp [strIterType, ha]
      rw [et] at st fin ⊢
      exact wpAny_pyNext_ascii_item st (c := x.cps[i]) (by simp [hg']) fun h' st' sb => fin h' _ st' sb
    | false =>
      have et : strIterType x = "str_iterator" := by simp [strIterType, ha]
      rw [et] at st fin ⊢
      exact wpAny_pyNext_wide_item st (c := x.cps[i]) (by simp [hg']) fun h' st' sb => fin h' _ st' sb
  done := by
    intro X hP hw hK hc i pins s σ H E I hf st hg
    subst hP hw hK
    obtain ⟨f0, f1, f2, f3, f4, f5⟩ := hf it (by simp)
    have hg' : x.cps.size ≤ i := hg
    cases ha : x.cps.all (· < 128) with
    | true =>
      have et : strIterType x = "str_ascii_iterator" := by simp [strIterType, ha]
      rw [et] at st
      exact wpAny_pyNext_ascii_end (I.ok.hd hc) st (by simp [hg']) fun h' eb => ⟨rfl, I.turned (t' := s.toks) (fun b o hb e => eb b o hb e) f0 f1 f3 f4 f5⟩
    | false =>
      have et : strIterType x = "str_iterator" := by simp [strIterType, ha]
      rw [et] at st
      exact wpAny_pyNext_wide_end (I.ok.hd hc) st (by simp [hg']) fun h' eb => ⟨rfl, I.turned (t' := s.toks) (fun b o hb e => eb b o hb e) f0 f1 f3 f4 f5⟩
  self := fun A i s Q E st h => by
    cases ha : x.cps.all (· < 128) with
    | true =>
      have et : strIterType x = "str_ascii_iterator" := by simp [strIterType, ha]
      rw [et] at st
      exact wpAny_pyIter_striter_ascii st h
    | false =>
      have et : strIterType x = "str_iterator" := by simp [strIterType, ha]
      rw [et] at st
      exact wpAny_pyIter_striter_wide st h
def iStr (tl : TE) : TI := fun σ H R => tl σ H fun v H1 => ∃ x, v = .str x ∧ R (Its x) H1
theorem pi_str {l : Expr} {tl : TE} (hl : PE X l tl) : PI X tg l (iStr tl) := by
  intro pins s σ H R I h
  refine thn (hl pins s σ H _ I h) fun v s1 ⟨y, H1, I1, r1, q1⟩ => ?_
  obtain ⟨x, e, q⟩ := q1
  subst e
  obtain ⟨t, rfl⟩ := r1
  refine wpAny_pyIter_strU ?_
  refine ⟨s1.heap.objs.size, [s1.heap.objs.size], _, _, H1, rfl, I1.kept (t' := s1.toks) fun b o e => Heap.get?_push_of_some _ e, turn_str x t _, ⟨_, Heap.get?_push_size _ rfl, rfl, rfl⟩, fun b hb => ?_, q⟩
  have e : b = s1.heap.objs.size := by simpa using hb
  subst e
  exact I1.fpOk (Nat.le_refl _) (I1.hok.fresh (Nat.le_refl _))
/-! ### tuples of ints and texts as keys -/
theorem tkey {pins : List (Addr × Obj)} {σ : St} {H : Hp} {s : Shared} {a : Addr} {ks : List Key} (I : Inv X pins σ H s) (h : H a = some (.tup (ks.map kV))) (P : Program) (w : World) : IsTupleKey (mixKind P w) s.heap ks a := by
  obtain ⟨_, its, r, o, e, c, n, d⟩ := I.hok a _ h
  exact ⟨o, its.toArray, n, e, c, d, by simpa using items_are r⟩
theorem vals_refs : ∀ {as : List Addr} {us : List Value}, Vals (as.map V.ref) us → us = as.map Value.ref
  | [], _, .nil => rfl
  | b :: bs, _, .cons r t => by
    have e : _ = Value.ref b := r
    rw [e, vals_refs t]; rfl
/-- t not in a list of such tuples -/
theorem op_notIn_tups (hu : X.A.units + 1 < cLine) : OpR X (compareOp .NotIn) (fun x y H Q => ∃ a p ks, ∃ kss : List (Addr × List Key), x = .ref a ∧ H a = some (.tup (ks.map kV)) ∧ y = .ref p ∧ SqL X.K H p ((kss.map (·.1)).map V.ref) ∧
    (∀ z ∈ kss, H z.1 = some (.tup (z.2.map kV))) ∧ Q (.bl (!(kss.any fun z => decide (z.2 = ks)))) H) := by
  intro pins s σ H x y v u Q I rx ry h
  obtain ⟨a, p, ks, kss, rfl, ha, rfl, hq, hk, q⟩ := h
  cases rx
  cases ry
  obtain ⟨its, rv, pl, hz⟩ := I.list hq
  have e := vals_refs rv
  subst e
  let e : Value → Bool := fun v => match v with | .ref b => ((kss.find? fun z => z.1 == b).map fun z => decide (z.2 = ks)).getD false | _ => false
  have he : ∀ z ∈ kss, e (.ref z.1) = decide (z.2 = ks) := fun z hz' => by
    show ((kss.find? fun y => y.1 == z.1).map fun z => decide (z.2 = ks)).getD false = _
    cases ef : kss.find? fun y => y.1 == z.1 with
    | none => have := List.find?_eq_none.mp ef z hz'; simp at this
    | some y =>
      have h1 := List.find?_some ef
      have h2 := List.mem_of_find?_eq_some ef
      have e1 : y.1 = z.1 := by simpa using h1
      have e2 := hk y h2
      rw [e1, hk z hz'] at e2
      have e3 : z.2.map kV = y.2.map kV := by injection (Option.some.inj e2)
      rw [kVs_inj e3]; rfl
  refine SeqAt.notIn_listAt e pl.isList (fun y hy => ?_) ⟨.bl _, H, I, rfl, ?_⟩
  · have hy' : y ∈ (kss.map (·.1)).map Value.ref := by simpa using hy
    obtain ⟨b, hb, rfl⟩ := List.mem_map.mp hy'
    obtain ⟨z, hz', rfl⟩ := List.mem_map.mp hb
    rw [he z hz']
    intro prog w E' Q' hQ
    exact wpAny_eqBool_tuple (knd := mixKind prog w) (by simp; exact hu) (tkey I (hk z hz') prog w) (tkey I ha prog w) hQ
  · have e1 : (((kss.map (·.1)).map Value.ref).toArray.any e) = kss.any fun z => decide (z.2 = ks) := by
      rw [List.any_toArray, List.any_map, List.any_map]
      apply Bool.eq_iff_iff.mpr
      rw [List.any_eq_true, List.any_eq_true]
      constructor
      · rintro ⟨z, hz', h1⟩; exact ⟨z, hz', by rw [← he z hz']; exact h1⟩
      · rintro ⟨z, hz', h1⟩; exact ⟨z, hz', by show e (.ref z.1) = true; rw [he z hz']; exact h1⟩
    rw [e1]
    exact q
/-! ### set(xs) of a list of such tuples, and its length -/
def LenSet (a : Addr) (n : Nat) (h : Heap) : Prop := ∃ o es ep t, h.get? a = some o ∧ o.ExactSet ∧ o.data = .set es ep t ∧ t.fits es.size = true ∧ es.size = n
theorem mix_scan (P : Program) (w : World) : ∀ k v, (mixKind P w).is k v = true → v.scannable = true := fun k v h => by
  rcases keyIs_shape h with ⟨i, t, _, rfl⟩ | ⟨x, t, _, rfl⟩ <;> rfl
theorem call_set_tups (hc : X.calm = true) (hu : X.A.units + 4 < cLine) : CallR X (.type "set") (fun xs H Q => ∃ p, ∃ kss : List (Addr × List Key), xs = [.ref p] ∧ SqL X.K H p ((kss.map (·.1)).map V.ref) ∧ (∀ z ∈ kss, H z.1 = some (.tup (z.2.map kV))) ∧ kss.length ≤ 18 ∧
    ∀ n, n ≤ kss.length → (n = kss.length ↔ (kss.map (·.2)).Nodup) → ∀ q, H q = none → Q (.ref q) (upd H q (.ext (LenSet q n)))) := by
  intro pins s σ H xs us Q I r h
  obtain ⟨p, kss, rfl, hq, hk, hl, q⟩ := h
  obtain ⟨u, rfl, ru⟩ := vals1 r
  cases ru
  obtain ⟨its, rv, pl, hz⟩ := I.list hq
  have e := vals_refs rv
  subst e
  have hsz : (((kss.map (·.1)).map Value.ref).toArray).size = kss.length := by simp
  have hget : ∀ i, i < kss.length → kss.getD i (0, []) ∈ kss := fun i hi => by
    rw [List.getD_eq_getElem?_getD, List.getElem?_eq_getElem hi]; exact List.getElem_mem hi
  refine TB.call_set_tuples (knd := mixKind X.prog X.w) (key := fun i => (kss.getD i (0, [])).2) (ad := fun i => (kss.getD i (0, [])).1) (I.ok.hd hc) hu (mix_scan _ _) pl.isList (fun i v hv => ?_) (fun i hi => ?_) (by rw [hsz]; exact hl) fun h' tk zs hS hzl hm hkeep => ?_
  · have hv' : ((kss.map (·.1)).map Value.ref)[i]? = some v := by simpa using hv
    rw [List.getElem?_map, List.getElem?_map] at hv'
    rw [List.getD_eq_getElem?_getD]
    cases ei : kss[i]? with
    | none => rw [ei] at hv'; cases hv'
    | some z => rw [ei] at hv'; exact (Option.some.inj hv').symm
  · exact tkey I (hk _ (hget i (by omega))) _ _
  · rw [hsz] at hm hzl
    have hcount : zs.length = kss.length ↔ (kss.map (·.2)).Nodup := by
      have := TB.count_nodup (z := zs.map (·.2.2)) (l := kss.map (·.2)) hS.nd fun k' => by
        rw [hm k']
        constructor
        · rintro ⟨j, hj, e⟩
          rw [← e]
          exact List.mem_map.mpr ⟨_, hget j hj, rfl⟩
        · intro h1
          obtain ⟨z, hz', e⟩ := List.mem_map.mp h1
          obtain ⟨j, hj, e2⟩ := List.mem_iff_getElem.mp hz'
          exact ⟨j, hj, by rw [List.getD_eq_getElem?_getD, List.getElem?_eq_getElem hj, e2]; exact e⟩
      rw [List.length_map, List.length_map] at this
      exact this
    obtain ⟨⟨o, es, ep, t, ho, hex, hd, hes, T, hmask, hfull, hpath⟩, _, _⟩ := hS
    have hlen : es.size = zs.length := by rw [← Array.length_toList, hes, List.length_map]
    have hf : t.fits es.size = true := TB.fits_of T (by rw [List.length_map, hlen]) (by rw [hlen]; omega)
    refine ⟨.ref s.heap.objs.size, _, I.laid (t' := tk) (o := .ext (LenSet s.heap.objs.size zs.length)) (fun b o e => hkeep b o (Heap.lt_size e) e) (Nat.le_refl _) ⟨⟨o, es, ep, t, ho, hex, hd, hf, hlen⟩, ⟨o, ho⟩, ?_⟩, rfl, q zs.length hzl hcount _ (I.hok.fresh (Nat.le_refl _))⟩
    rintro h1 h2 ⟨o, es, ep, t, a1, a2⟩ hh
    exact ⟨o, es, ep, t, hh o a1, a2⟩
theorem call_lenSet : CallR X (.builtin "len") (fun xs H Q => ∃ p n, xs = [.ref p] ∧ H p = some (.ext (LenSet p n)) ∧ n ≤ 18 ∧ Q (.int n) H) := by
  intro pins s σ H xs us Q I r h
  obtain ⟨p, n, rfl, hp, hn, q⟩ := h
  obtain ⟨u, rfl, ru⟩ := vals1 r
  cases ru
  obtain ⟨⟨o, es, ep, t, ho, hex, hd, hf, hlen⟩, _, _⟩ := I.hok p _ hp
  refine call_len_set ho hex hd hf (by rw [hlen]; omega) ⟨.int n, H, I.tok _, ?_, q⟩
  rw [hlen]
  exact ⟨_, rfl⟩
end
end L2

set_option Elab.async false
set_option linter.all false
set_option maxRecDepth 100000
namespace L2
open PySem PySem.Spec PyProof.Rows
section
variable {X : Cx} {tg : Expr}
/-! ### d.setdefault(k, y) -/
def rSetDef : V → List V → Hp → VK → Prop := fun x vs H Q => ∃ d kvs k y, x = .ref d ∧ vs = [kV k, y] ∧ H d = some (.dK kvs) ∧ kvs.length < sizeLine ∧ (∀ v, valV kvs k = some v → Q v H) ∧ (valV kvs k = none → Q y (upd H d (.dK (putK kvs k y))))
theorem mt_setdefault : MtM X "dict.setdefault" rSetDef := by
  intro pins s σ H x vs v us Q I rx rv h
  obtain ⟨d, kvs, k, y, rfl, rfl, hd, hz, q1, q2⟩ := h
  cases rx
  obtain ⟨u, u', rfl, ru, ru'⟩ := rv.two
  obtain ⟨z, hs, ws, rel, dd⟩ := dk_of I.hok hd
  have hzw : ws.length ≤ sizeLine := by rw [← rel.length]; exact z
  refine call_meetsIn F.slot_dict_setdefault dd.typeIs F.entry_dict_setdefault (F.args_dict_setdefault_3 _ _ _) (kt_meets_setdefault (mixKind X.prog X.w) d (kV_is ru) hs u') ⟨ws, dd, hzw, fun w' hw => ?_, fun hw h' dd' sb => ?_⟩
  · have := rel.val k
    rw [hw] at this
    cases e : valV kvs k with
    | none => rw [e] at this; cases this
    | some v =>
      rw [e] at this
      exact ⟨v, H, I.tok _, this, q1 v e⟩
  · have := rel.val k
    rw [hw] at this
    cases e : valV kvs k with
    | some v => rw [e] at this; cases this
    | none =>
      have he : ∃ q, h'.get? d = some q := let ⟨q, _, _, hq, _⟩ := dd'; ⟨q, hq⟩
      have hl : (putK kvs k y).length ≤ sizeLine := by have := length_putK kvs k y; omega
      exact ⟨y, _, d_write I (by rw [hd]; exact True.intro) sb he (dk_new hl hs (rel.put k ru') dd'), ru', q2 e⟩
/-! ### range(a, b), list(range(a, b)) -/
theorem call_rng2 : CallR X (.type "range") (fun xs H Q => ∃ i j, xs = [.int i, .int j] ∧ ∀ p, H p = none → Q (.ref p) (upd H p (.rng i j))) := by
  intro pins s σ H xs us Q I r h
  obtain ⟨i, j, rfl, q⟩ := h
  obtain ⟨u, u', rfl, ⟨t, rfl⟩, ⟨t', rfl⟩⟩ := vals2 r
  refine call_range_2 ⟨.ref s.heap.objs.size, _, I.laid (t' := s.toks + 1) (o := .rng i j) (fun b ob q => Heap.get?_push_of_some _ q) (Nat.le_refl _) ?_, rfl, q _ (I.hok.fresh (Nat.le_refl _))⟩
  exact ⟨t, t', _, Heap.get?_push_size _ rfl⟩
theorem vals_items {lo : Int} {n : Nat} {acc : Array Value} (h : ItemsOf (fun i v => ∃ t, v = .int (lo + i * 1) t) acc n) : Vals ((List.range n).map fun k => V.int (lo + (k : Nat))) acc.toList := by
  obtain ⟨h1, h2⟩ := h
  have key : ∀ (l : List Value) (k : Nat), (∀ (i : Nat) (v : Value), l[i]? = some v → ∃ t, v = Value.int (lo + (k + i : Nat)) t) → Vals ((List.range' k l.length).map fun k => V.int (lo + (k : Nat))) l := by
    intro l
    induction l with
    | nil => intro k _; exact .nil
    | cons v l ih =>
      intro k hv
      rw [List.length_cons, List.range'_succ, List.map_cons]
      refine .cons ?_ (ih (k + 1) fun i w hw => ?_)
      · obtain ⟨t, e⟩ := hv 0 v rfl
        exact ⟨t, e⟩
      · obtain ⟨t, e⟩ := hv (i + 1) w hw
        exact ⟨t, by rw [e, show k + (i + 1) = k + 1 + i by omega]⟩
  have hl : acc.toList.length = n := by simpa using h1
  have := key acc.toList 0 fun i v hv => by
    have hv' : acc[i]? = some v := by simpa using hv
    obtain ⟨t, e⟩ := h2 i v hv'
    exact ⟨t, by rw [e, Int.mul_one, Nat.zero_add]⟩
  rw [hl] at this
  rw [List.range_eq_range']
  exact this
theorem call_list_rng (hc : X.calm = true) : CallR X (.type "list") (fun xs H Q => ∃ p i j, xs = [.ref p] ∧ H p = some (.rng i j) ∧ (-(2 ^ 62) ≤ i ∧ i < 2 ^ 62 ∧ -(2 ^ 62) ≤ j ∧ j < 2 ^ 62) ∧ (j - i).toNat ≤ 1000 ∧
    ∀ l, H l = none → Q (.ref l) (upd H l (.lst ((List.range (j - i).toNat).map fun k => V.int (i + (k : Nat)))))) := by
  intro pins s σ H xs us Q I r h
  obtain ⟨p, i, j, rfl, hp, ⟨b1, b2, b3, b4⟩, hn, q⟩ := h
  obtain ⟨u, rfl, rx⟩ := vals1 r
  cases rx
  obtain ⟨t, t', t'', e⟩ := (show ObjOk X.prog X.w H s.heap p (.rng i j) from I.hok p _ hp)
  have hsz : Builtin.Range.rangeSize i j 1 = ((j - i).toNat : Nat) := by rw [rangeSize_one]; split <;> omega
  refine call_list_range (n := (j - i).toNat) (I.ok.hd hc) e (small_one b1 b2 b3 b4) hsz (by omega) fun h' tk acc c' kp hg hi => ?_
  refine ⟨.ref s.heap.objs.size, _, I.laid (t' := tk) kp (Nat.le_refl _) (show ObjOk X.prog X.w _ h' _ (.lst _) from ⟨?_, acc.toList, c', vals_items hi, by simpa using hg⟩), rfl, q _ (I.hok.fresh (Nat.le_refl _))⟩
  rw [List.length_map, List.length_range, sizeLine_eq]; omega
/-! ### () + t is t -/
theorem op_catT0 : OpR X (binaryOp .Add) (fun x y H Q => ∃ a b ys, x = .ref a ∧ y = .ref b ∧ SqT X.K H a [] ∧ SqT X.K H b ys ∧ Q (.ref b) H) := by
  intro pins s σ H x y v u Q I rx ry h
  obtain ⟨a, b, ys, rfl, rfl, ha, hb, q⟩ := h
  cases rx
  cases ry
  obtain ⟨its, r1, ht, _⟩ := I.tuple ha
  obtain ⟨its2, r2, hb', _⟩ := I.tuple hb
  cases r1
  obtain ⟨⟨cls, dd, data, sl⟩, ho, hc, n, hd⟩ := id ht
  obtain ⟨⟨cls2, dd2, data2, sl2⟩, ho2, hc2, n2, hd2⟩ := id hb'
  simp only at hc hd hc2 hd2
  subst hc hd hc2 hd2
  exact concat_meets ⟨_, ho, rfl⟩ ⟨_, ho2, rfl⟩ noFill_tuple_add seq_tuple_add PySem.F.slot_tuple_add PySem.F.entry_tuple_add (PySem.F.args_tuple_add_2 _ _)
    (tuple_addW0 a b _ its2.toArray n n2 dd dd2 sl sl2 (by rfl)) ⟨ho, ho2, ⟨.ref b, H, I, rfl, q⟩⟩
/-! ### t[lo:hi], the whole -/
theorem getItem_tuple_all {prog : Program} {w : World} {A : Around} {E : Value → Shared → Prop} {s : Shared} {t sl : Addr} {items : Array Value} {vl vu : Value} {lo hi : Option Int} {Q : Value → Shared → Prop} (ht : IsTup s.heap t items) (hs : s.heap.IsSliceOf sl vl vu .none) (pl : IsPart vl lo) (pu : IsPart vu hi)
    (hw : HT.sIx items.size 0 lo = 0 ∧ HT.sIx items.size items.size hi = items.size) (h : Q (.ref t) s) : wpAny (model prog w) A (getItem (.ref t) (.ref sl)) Q E s := by
  obtain ⟨os, hos, hcs, hds⟩ := id hs
  have hTs : s.TypeIs (.ref sl) "slice" := ⟨os, hos, hcs⟩
  unfold getItem
  try with_reducible refine wpAny_holding ?_
  first | refine wpAny_bind (wpAny_pure ?_) | skip
  refine wpAny_bind (wpAny_sequenceKey ht.typeIs (by decide) ?_)
  refine wpAny_bind (wpAny_callSpecial?_slot (name := Str.ofString "__getitem__") ht.typeIs PyProof.Rows.slot_tuple_getitem
    (wpAny_call_entry PyProof.Rows.slot_tuple_getitem ht.typeIs entry_tuple_getitem ?_ (args_tuple_getitem _ _)))
  show wpAny _ _ (Builtin.Tuple.tupleItemsOf (.ref t) >>= _) _ _ s
  refine wpAny_bind (tupleItemsOf_ ht ?_)
  refine wpAny_bind (wpAny_typeOf hTs ?_)
  rw [if_pos (by decide)]
  refine wpAny_bind (HT.sliceApplied_gen hs pl pu ?_)
  have hyes : ((((HT.sIx items.size 0 lo : Nat) : Int) == 0 && (1 : Int) == 1 && (HT.sIx items.size items.size hi - HT.sIx items.size 0 lo) == items.size) = true) := by
    rw [hw.1, hw.2]; simp
  show wpAny _ _ (if (((HT.sIx items.size 0 lo : Nat) : Int) == 0 && (1 : Int) == 1 && (HT.sIx items.size items.size hi - HT.sIx items.size 0 lo) == items.size) = true then _ else _) _ _ s
  rw [if_pos hyes]
  refine wpAny_bind ?_
  unfold Builtin.Tuple.tupleIsExact
  refine wpAny_bind (wpAny_typeOf ht.typeIs (wpAny_pure ?_))
  rw [if_pos (by decide)]
  exact wpAny_bind (wpAny_rule (wpAny_pure ⟨_, rfl, wpAny_pure h⟩))
theorem sl_tup_all : SlR X (fun x lo hi H Q => ∃ a xs, x = .ref a ∧ SqT X.K H a xs ∧ HT.sIx xs.length 0 lo = 0 ∧ HT.sIx xs.length xs.length hi = xs.length ∧ Q (.ref a) H) := by
  intro pins s σ H x v vl vu lo hi sl Q I rx hs pl pu h
  obtain ⟨a, xs, rfl, hx, h1, h2, q⟩ := h
  cases rx
  obtain ⟨its, r, ht, hz⟩ := I.tuple hx
  have hlen : its.toArray.size = xs.length := by rw [List.size_toArray]; exact r.length.symm
  exact ⟨"tuple", _, PyProof.Rows.slot_tuple_getitem.lookup, ht.typeIs, getItem_tuple_all ht hs pl pu (by rw [hlen]; exact ⟨h1, h2⟩) ⟨.ref a, H, I, rfl, q⟩⟩
/-! ### equality with what is empty -/
theorem op_eq_tup0 (hu : X.A.units < cLine) : OpR X (compareOp .Eq) (fun x y H Q => ∃ a b xs, x = .ref a ∧ y = .ref b ∧ SqT X.K H a xs ∧ SqT X.K H b [] ∧ Q (.bl (decide (xs = []))) H) := by
  intro pins s σ H x y v u Q I rx ry h
  obtain ⟨a, b, xs, rfl, rfl, ha, hb, q⟩ := h
  cases rx
  cases ry
  obtain ⟨its, r1, ht, _⟩ := I.tuple ha
  obtain ⟨its2, r2, hb', _⟩ := I.tuple hb
  cases r2
  refine SeqAt.eq_tupleAt (e := fun _ => true) ht hb' hu (fun j h1 h2 => absurd h2 (by simp)) ⟨.bl _, H, I, ?_, q⟩
  show _ = Value.bool _
  congr 1
  have := r1.nil_iff
  by_cases e : xs = []
  · have e2 := this.mpr e
    subst e2
    simp [e]
  · have e2 : its ≠ [] := fun z => e (this.mp z)
    have e3 : its.length ≠ 0 := fun z => e2 (List.length_eq_zero_iff.mp z)
    simp [e, e3]
theorem op_eq_lst0 (hu : X.A.units < cLine) : OpR X (compareOp .Eq) (fun x y H Q => ∃ a b xs, x = .ref a ∧ y = .ref b ∧ SqL X.K H a xs ∧ SqL X.K H b [] ∧ Q (.bl (decide (xs = []))) H) := by
  intro pins s σ H x y v u Q I rx ry h
  obtain ⟨a, b, xs, rfl, rfl, ha, hb, q⟩ := h
  cases rx
  cases ry
  obtain ⟨its, r1, ht, _⟩ := I.list ha
  obtain ⟨its2, r2, hb', _⟩ := I.list hb
  cases r2
  by_cases e : xs = []
  · subst e
    cases r1
    refine SeqAt.eq_listAt (e := fun _ => true) ht.isList hb'.isList rfl hu (fun j h1 h2 => absurd h2 (by simp)) ⟨.bl _, H, I, ?_, q⟩
    rfl
  · have e2 : its ≠ [] := fun z => e (r1.nil_iff.mp z)
    have e3 : its.length ≠ 0 := fun z => e2 (List.length_eq_zero_iff.mp z)
    refine SeqAt.eq_list_lengthsAt ht.isList hb'.isList (by simp [e3]) hu ⟨.bl _, H, I, ?_, q⟩
    show _ = Value.bool _
    simp [e]
/-! ### lists of bools -/
theorem op_ne_bls (hu : X.A.units < cLine) : OpR X (compareOp .NotEq) (fun x y H Q => ∃ a b, ∃ xs ys : List Bool, x = .ref a ∧ y = .ref b ∧ SqL X.K H a (xs.map V.bl) ∧ SqL X.K H b (ys.map V.bl) ∧ xs = ys ∧ Q (.bl false) H) := by
  intro pins s σ H x y v u Q I rx ry h
  obtain ⟨a, b, xs, ys, rfl, rfl, ha, hb, rfl, q⟩ := h
  cases rx
  cases ry
  obtain ⟨its, r1, ht, _⟩ := I.list ha
  obtain ⟨its2, r2, hb', _⟩ := I.list hb
  have e1 := vals_bl r1
  have e2 := vals_bl r2
  subst e1 e2
  refine SeqAt.RcNeAt.lists (e := fun _ => true) ht.isList hb'.isList rfl hu (fun j h1 h2 => ?_) _ _ _ _ ⟨.bl false, H, I, ?_, q⟩
  · have hj : j < xs.length := by simpa using h1
    simp only [List.getElem_toArray, List.getElem_map]
    have := SeqAt.EqAt.bool_bool (A := X.A.in1) (s := s) (xs[j]'hj) (xs[j]'hj)
    rw [beq_self_eq_true] at this
    exact this
  · show _ = Value.bool false
    simp
end
end L2

set_option Elab.async false
set_option linter.all false
set_option maxRecDepth 100000
namespace ZT
open PySem PySem.SeqAt
/-! zip over two tuples -/
section
variable {prog : Program} {w : World} {A : Around} {E : Value → Shared → Prop} {s : Shared}
theorem next_there {it t : Addr} {i : Nat} {items : Array Value} {x : Value} {Q : Value → Shared → Prop} (hi : s.heap.IsTupleIter it t i) (ht : s.heap.IsTuple t items) (hx : items[i]? = some x)
    (q : ∀ g, g.IsTupleIter it t (i + 1) → Heap.SameBut it s.heap g → Q x { s with heap := g }) : wpAny (model prog w) A (Builtin.SmallTypes.nextOf (.ref it)) Q E s := by
  obtain ⟨oi, e1, e2, e3⟩ := id hi
  obtain ⟨ot, e4, _, k, e5⟩ := ht
  unfold Builtin.SmallTypes.nextOf
  refine wpAny_bind (wpAny_callSpecial?_slot (name := Str.ofString "__next__") hi.typeIs F.slot_tuple_iterator_next (wpAny_call_entry F.slot_tuple_iterator_next hi.typeIs F.entry_tuple_iterator_next ?body (F.args_tuple_iterator_next_1 _)))
  case body =>
    refine wpAny_bind (m := field (.ref it) 0) (wpAny_field e1 e3 (x := .ref t) rfl ?_)
    rw [if_neg (show ¬ ((Value.ref t == Value.none) = true) by simp)]
    refine wpAny_bind (m := field (.ref it) 1) (wpAny_field e1 e3 (x := .int i 0) rfl ?_)
    refine wpAny_bind (m := seqItems? (.ref t)) (wpAny_seqItems e4 e5 ?_)
    simp only [Int.toNat_natCast, hx]
    have up : (Obj.mapFields (·.setIfInBounds 1 (rawInt ((i : Int) + 1))) oi).data = .fields #[.ref t, .int ((i + 1 : Nat) : Int) 0] := by rw [Obj.data_mapFields e3]; simp [rawInt]
    exact wpAny_bind (wpAny_setField e1 e3 (by simp) (wpAny_pure ⟨x, rfl, wpAny_pure (q _ ⟨_, Heap.get?_update_self _ e1 (Obj.isFreed_of_fields (Obj.data_mapFields e3 _)), (Obj.cls_mapFields ..).trans e2, up⟩ (Heap.SameBut.update ..))⟩))
theorem next_gone {it t : Addr} {i : Nat} {items : Array Value} {Q : Value → Shared → Prop} (hh : A.handled = none) (hi : s.heap.IsTupleIter it t i) (ht : s.heap.IsTuple t items) (hx : items[i]? = none)
    (q : ∀ g e, Heap.ExtBut it s.heap g → (∃ o, g.get? e = some o ∧ o.cls = .type "StopIteration") → E (.ref e) { s with heap := g }) : wpAny (model prog w) A (Builtin.SmallTypes.nextOf (.ref it)) Q E s := by
  obtain ⟨oi, e1, e2, e3⟩ := id hi
  obtain ⟨ot, e4, _, k, e5⟩ := ht
  unfold Builtin.SmallTypes.nextOf
  refine wpAny_bind (wpAny_callSpecial?_slot (name := Str.ofString "__next__") hi.typeIs F.slot_tuple_iterator_next (wpAny_call_entry F.slot_tuple_iterator_next hi.typeIs F.entry_tuple_iterator_next ?body (F.args_tuple_iterator_next_1 _)))
  case body =>
    refine wpAny_bind (m := field (.ref it) 0) (wpAny_field e1 e3 (x := .ref t) rfl ?_)
    rw [if_neg (show ¬ ((Value.ref t == Value.none) = true) by simp)]
    refine wpAny_bind (m := field (.ref it) 1) (wpAny_field e1 e3 (x := .int i 0) rfl ?_)
    refine wpAny_bind (m := seqItems? (.ref t)) (wpAny_seqItems e4 e5 ?_)
    simp only [Int.toNat_natCast, hx]
    refine wpAny_bind (wpAny_rule (wpAny_bind (wpAny_setField e1 e3 (by simp) ?_)))
    refine wpAny_bind (m := newExc (.type "StopIteration") []) ?_
    unfold newExc newTuple
    refine wpAny_bind (wpAny_newObj_type (hd := by size_fits) ?_)
    refine wpAny_bind (m := firstArgMember _ _) (wpAny_of_eq (a := Value.none) (by first | rfl | (unfold firstArgMember; rfl)) (wpAny_newObj_type (hd := by size_fits) ?_))
    unfold raiseNew
    refine wpAny_bind (wpAny_handled ?_)
    first | rw [show A.in1.handled = none from hh] | rw [hh]
    exact wpAny_bind (wpAny_pure (wpAny_throw (q _ _ (((Heap.SameBut.update ..).extBut.push _).push _) ⟨_, Heap.get?_push_size _ rfl, rfl⟩)))
/-- the records of a zip: z itself, its pair of iterators, its own pair, the two iterators -/
structure Rec (h : Heap) (z a b i1 i2 t1 t2 : Addr) (out : Value) (k : Nat) : Prop where
  zz : IsZip h z a b out
  ti : IsPair h a (.ref i1) (.ref i2)
  to : ∃ u v, IsPair h b u v
  n1 : h.IsTupleIter i1 t1 k
  n2 : h.IsTupleIter i2 t2 k
structure Apart (z a b i1 i2 t1 t2 : Nat) : Prop where
  az : a ≠ z
  bz : b ≠ z
  z1 : i1 ≠ z
  z2 : i2 ≠ z
  ab : a ≠ b
  a1 : a ≠ i1
  a2 : a ≠ i2
  b1 : b ≠ i1
  b2 : b ≠ i2
  d12 : i1 ≠ i2
  tz : t1 ≠ z ∧ t2 ≠ z
  tb : t1 ≠ b ∧ t2 ≠ b
  t1n : t1 ≠ i1 ∧ t2 ≠ i1
  t2n : t1 ≠ i2 ∧ t2 ≠ i2
theorem apart_of (n t1 t2 : Nat) (h1 : t1 < n) (h2 : t2 < n) : Apart (n + 4) (n + 2) (n + 3) n (n + 1) t1 t2 :=
  ⟨by omega, by omega, by omega, by omega, by omega, by omega, by omega, by omega, by omega, by omega, ⟨by omega, by omega⟩, ⟨by omega, by omega⟩, ⟨by omega, by omega⟩, ⟨by omega, by omega⟩⟩
theorem zip_there {z a b i1 i2 t1 t2 : Addr} {k : Nat} {xs ys : Array Value} {x y : Value} {Q : Value → Shared → Prop} (D : Apart z a b i1 i2 t1 t2) (R : Rec s.heap z a b i1 i2 t1 t2 .none k) (h1 : s.heap.IsTuple t1 xs) (h2 : s.heap.IsTuple t2 ys)
    (hx : xs[k]? = some x) (hy : ys[k]? = some y)
    (q : ∀ g, Rec g z a b i1 i2 t1 t2 (rawInt s.heap.objs.size) (k + 1) → IsPair g s.heap.objs.size x y → (∀ c o, c ≠ z → c ≠ b → c ≠ i1 → c ≠ i2 → s.heap.get? c = some o → g.get? c = some o) → Q (.ref s.heap.objs.size) { s with heap := g }) :
    wpAny (model prog w) A (Builtin.«zip.__next__» ⟨[.ref z], []⟩) (fun fin s' => ∃ v, fin = .done (.ret v) ∧ Q v s') E s := by
  obtain ⟨hz, hti, ⟨u, v, hto⟩, n1, n2⟩ := R
  refine wpAny_bind (m := field (.ref z) 2) (wpAny_field hz rfl (x := .bool false) rfl ?_)
  refine wpAny_bind (m := field (.ref z) 3) (wpAny_field hz rfl (x := .ref a) rfl ?_)
  refine wpAny_bind (m := seqItems? (.ref a)) (wpAny_seqItems hti rfl ?_)
  refine wpAny_bind (m := Builtin.SmallTypes.ownedTupleIsFree (.ref z)) ?_
  unfold Builtin.SmallTypes.ownedTupleIsFree
  refine wpAny_bind (wpAny_field hz rfl (x := .none) rfl (wpAny_pure ?_))
  simp only [if_true]
  refine wpAny_bind (wpAny_rule (wpAny_bind (wpAny_field hz rfl (x := .ref b) rfl (wpAny_bind (wpAny_setField_rec hz (by simp) fun g1 z1 s1 => ?_)))))
  have z1' : IsZip g1 z a b .ellipsis := z1
  refine wpAny_bind ?_
  simp only [List.zipIdx_cons, List.zipIdx_nil, List.forIn_cons, List.forIn_nil]
  refine wpAny_bind (wpAny_bind (wpAny_onRaise (wpAny_bind (m := Builtin.SmallTypes.nextOf (.ref i1)) (next_there (n1.extBut s1.extBut D.z1) (h1.extBut s1.extBut D.tz.1) hx fun g2 m1 s2 => wpAny_pure ?_))))
  have to2 : IsPair g2 b u v := s2.extBut _ _ D.b1 (s1.extBut _ _ D.bz hto)
  refine wpAny_bind (wpAny_seqItems to2 rfl (wpAny_bind (wpAny_updateSeq_pair to2 fun g3 to3 s3 => wpAny_bind (wpAny_letGo (wpAny_pure ?_)))))
  have to3' : IsPair g3 b x v := to3
  refine wpAny_bind (wpAny_bind (wpAny_onRaise (wpAny_bind (m := Builtin.SmallTypes.nextOf (.ref i2)) (next_there (((n2.extBut s1.extBut D.z2).extBut s2.extBut D.d12.symm).extBut s3.extBut D.b2.symm)
    (((h2.extBut s1.extBut D.tz.2).extBut s2.extBut D.t1n.2).extBut s3.extBut D.tb.2) hy fun g4 m2 s4 => wpAny_pure ?_))))
  have to4 : IsPair g4 b x v := s4.extBut _ _ D.b2 to3'
  refine wpAny_bind (wpAny_seqItems to4 rfl (wpAny_bind (wpAny_updateSeq_pair to4 fun g5 to5 s5 => wpAny_bind (wpAny_letGo (wpAny_pure (wpAny_pure ?_))))))
  have to5' : IsPair g5 b x y := to5
  refine wpAny_bind (wpAny_seqItems to5' rfl (wpAny_bind (wpAny_newTuple ?_)))
  have size5 : g5.objs.size = s.heap.objs.size := by rw [s5.1, s4.1, s3.1, s2.1, s1.1]
  have keep5 : ∀ c o, c ≠ z → c ≠ b → c ≠ i1 → c ≠ i2 → s.heap.get? c = some o → g5.get? c = some o := fun c o c1 c2 c3 c4 e => s5.extBut _ _ c2 (s4.extBut _ _ c4 (s3.extBut _ _ c2 (s2.extBut _ _ c3 (s1.extBut _ _ c1 e))))
  have z5 : IsZip g5 z a b .ellipsis := s5.extBut _ _ D.bz.symm (s4.extBut _ _ D.z2.symm (s3.extBut _ _ D.bz.symm (s2.extBut _ _ D.z1.symm z1')))
  have m15 : g5.IsTupleIter i1 t1 (k + 1) := ((m1.extBut s3.extBut D.b1.symm).extBut s4.extBut D.d12).extBut s5.extBut D.b1.symm
  have m25 : g5.IsTupleIter i2 t2 (k + 1) := m2.extBut s5.extBut D.b2.symm
  have ti5 : IsPair g5 a (.ref i1) (.ref i2) := keep5 _ _ D.az D.ab D.a1 D.a2 hti
  refine wpAny_bind (m := Builtin.SmallTypes.ownedTupleHandOut (.ref z) (.ref g5.objs.size)) ?_
  unfold Builtin.SmallTypes.ownedTupleHandOut
  have z6 : IsZip (g5.push { cls := .type "tuple", data := .seq #[x, y] }) z a b .ellipsis := Heap.get?_push_of_some _ z5
  refine wpAny_bind (wpAny_setField_rec z6 (by simp) fun g7 z7 s7 => ?_)
  have z7' : IsZip g7 z a b (rawInt g5.objs.size) := z7
  refine wpAny_setField_rec z7' (by simp) fun g8 z8 s8 => ?_
  have z8' : IsZip g8 z a b (rawInt g5.objs.size) := z8
  have up : ∀ c o, c ≠ z → g5.get? c = some o → g8.get? c = some o := fun c o c1 e => s8.extBut _ _ c1 (s7.extBut _ _ c1 (Heap.get?_push_of_some _ e))
  have nz : g5.objs.size ≠ z := Nat.ne_of_gt (Heap.lt_size z5)
  have new8 : IsPair g8 g5.objs.size x y := s8.extBut _ _ nz (s7.extBut _ _ nz (Heap.get?_push_size _ rfl))
  rw [size5] at z8' new8
  refine wpAny_pure ⟨_, rfl, ?_⟩
  show Q (.ref g5.objs.size) _
  rw [size5]
  exact q g8 ⟨z8', up _ _ D.az ti5, ⟨_, _, up _ _ D.bz to5'⟩, (let ⟨o, e, r⟩ := m15; ⟨o, up _ o D.z1 e, r⟩), (let ⟨o, e, r⟩ := m25; ⟨o, up _ o D.z2 e, r⟩)⟩ new8 fun c o c1 c2 c3 c4 e => up c o c1 (keep5 c o c1 c2 c3 c4 e)
theorem zip_gone {z a b i1 i2 t1 t2 : Addr} {k : Nat} {xs ys : Array Value} {Q : PySem.Fin → Shared → Prop} (hh : A.handled = none) (D : Apart z a b i1 i2 t1 t2) (R : Rec s.heap z a b i1 i2 t1 t2 .none k) (h1 : s.heap.IsTuple t1 xs) (h2 : s.heap.IsTuple t2 ys)
    (hend : xs[k]? = none ∨ ys[k]? = none)
    (q : ∀ g e, (∀ c o, c ≠ z → c ≠ b → c ≠ i1 → c ≠ i2 → s.heap.get? c = some o → g.get? c = some o) → (∃ o, g.get? e = some o ∧ o.cls = .type "StopIteration") → E (.ref e) { s with heap := g }) :
    wpAny (model prog w) A (Builtin.«zip.__next__» ⟨[.ref z], []⟩) Q E s := by
  obtain ⟨hz, hti, ⟨u, v, hto⟩, n1, n2⟩ := R
  refine wpAny_bind (m := field (.ref z) 2) (wpAny_field hz rfl (x := .bool false) rfl ?_)
  refine wpAny_bind (m := field (.ref z) 3) (wpAny_field hz rfl (x := .ref a) rfl ?_)
  refine wpAny_bind (m := seqItems? (.ref a)) (wpAny_seqItems hti rfl ?_)
  refine wpAny_bind (m := Builtin.SmallTypes.ownedTupleIsFree (.ref z)) ?_
  unfold Builtin.SmallTypes.ownedTupleIsFree
  refine wpAny_bind (wpAny_field hz rfl (x := .none) rfl (wpAny_pure ?_))
  simp only [if_true]
  refine wpAny_bind (wpAny_rule (wpAny_bind (wpAny_field hz rfl (x := .ref b) rfl (wpAny_bind (wpAny_setField_rec hz (by simp) fun g1 z1 s1 => ?_)))))
  have z1' : IsZip g1 z a b .ellipsis := z1
  refine wpAny_bind ?_
  simp only [List.zipIdx_cons, List.zipIdx_nil, List.forIn_cons, List.forIn_nil]
  refine wpAny_bind (wpAny_bind (wpAny_onRaise ?_))
  refine wpAny_bind (m := Builtin.SmallTypes.nextOf (.ref i1)) ?_
  cases hx : xs[k]? with
  | none =>
    refine next_gone hh (n1.extBut s1.extBut D.z1) (h1.extBut s1.extBut D.tz.1) hx fun g2 e s2 he => ?_
    obtain ⟨oe, e1, e2⟩ := he
    have z2' : IsZip g2 z a b .ellipsis := s2 _ _ D.z1.symm z1'
    have ne : e ≠ z := fun c => by rw [c, z2'] at e1; cases e1; simp at e2
    exact wpAny_setField_rec z2' (by simp) fun g3 _ s3 => q g3 e (fun c o c1 _ c3 _ h => s3.extBut _ _ c1 (s2 _ _ c3 (s1.extBut _ _ c1 h))) ⟨oe, s3.extBut _ _ ne e1, e2⟩
  | some x =>
    have hy : ys[k]? = none := hend.resolve_left (by rw [hx]; simp)
    refine next_there (n1.extBut s1.extBut D.z1) (h1.extBut s1.extBut D.tz.1) hx fun g2 m1 s2 => wpAny_pure ?_
    have to2 : IsPair g2 b u v := s2.extBut _ _ D.b1 (s1.extBut _ _ D.bz hto)
    refine wpAny_bind (wpAny_seqItems to2 rfl (wpAny_bind (wpAny_updateSeq_pair to2 fun g3 to3 s3 => wpAny_bind (wpAny_letGo (wpAny_pure ?_)))))
    refine wpAny_bind (wpAny_bind (wpAny_onRaise (wpAny_bind (m := Builtin.SmallTypes.nextOf (.ref i2)) (next_gone hh (((n2.extBut s1.extBut D.z2).extBut s2.extBut D.d12.symm).extBut s3.extBut D.b2.symm)
      (((h2.extBut s1.extBut D.tz.2).extBut s2.extBut D.t1n.2).extBut s3.extBut D.tb.2) hy fun g4 e s4 he => ?_))))
    obtain ⟨oe, e1, e2⟩ := he
    have z4' : IsZip g4 z a b .ellipsis := s4 _ _ D.z2.symm (s3.extBut _ _ D.bz.symm (s2.extBut _ _ D.z1.symm z1'))
    have ne : e ≠ z := fun c => by rw [c, z4'] at e1; cases e1; simp at e2
    exact wpAny_setField_rec z4' (by simp) fun g5 _ s5 => q g5 e (fun c o c1 c2 c3 c4 h => s5.extBut _ _ c1 (s4 _ _ c4 (s3.extBut _ _ c2 (s2.extBut _ _ c3 (s1.extBut _ _ c1 h))))) ⟨oe, s5.extBut _ _ ne e1, e2⟩
theorem zipn_there {z a b i1 i2 t1 t2 : Addr} {k : Nat} {xs ys : Array Value} {x y : Value} {Q : Option Value → Shared → Prop} (D : Apart z a b i1 i2 t1 t2) (R : Rec s.heap z a b i1 i2 t1 t2 .none k) (h1 : s.heap.IsTuple t1 xs) (h2 : s.heap.IsTuple t2 ys)
    (hx : xs[k]? = some x) (hy : ys[k]? = some y)
    (q : ∀ g, Rec g z a b i1 i2 t1 t2 (rawInt s.heap.objs.size) (k + 1) → IsPair g s.heap.objs.size x y → (∀ c o, c ≠ z → c ≠ b → c ≠ i1 → c ≠ i2 → s.heap.get? c = some o → g.get? c = some o) → Q (some (.ref s.heap.objs.size)) { s with heap := g }) :
    wpAny (model prog w) A (pyNext (.ref z)) Q E s := by
  have hT : s.TypeIs (.ref z) "zip" := ⟨_, R.zz, rfl⟩
  unfold pyNext
  exact wpAny_bind (wpAny_attempt (wpAny_callSpecial?_slot (name := Str.ofString "__next__") hT F.slot_zip_next (wpAny_call_entry F.slot_zip_next hT F.entry_zip_next (zip_there D R h1 h2 hx hy fun g r n k => wpAny_pure (q g r n k)) (F.args_zip_next_1 _))))
theorem zipn_gone {z a b i1 i2 t1 t2 : Addr} {k : Nat} {xs ys : Array Value} {Q : Option Value → Shared → Prop} (hh : A.handled = none) (D : Apart z a b i1 i2 t1 t2) (R : Rec s.heap z a b i1 i2 t1 t2 .none k) (h1 : s.heap.IsTuple t1 xs) (h2 : s.heap.IsTuple t2 ys)
    (hend : xs[k]? = none ∨ ys[k]? = none) (q : ∀ g, (∀ c o, c ≠ z → c ≠ b → c ≠ i1 → c ≠ i2 → s.heap.get? c = some o → g.get? c = some o) → Q none { s with heap := g }) : wpAny (model prog w) A (pyNext (.ref z)) Q E s := by
  have hT : s.TypeIs (.ref z) "zip" := ⟨_, R.zz, rfl⟩
  unfold pyNext
  refine wpAny_bind (wpAny_attempt (wpAny_callSpecial?_slot (name := Str.ofString "__next__") hT F.slot_zip_next (wpAny_call_entry F.slot_zip_next hT F.entry_zip_next (zip_gone hh D R h1 h2 hend fun g e k he => ?_) (F.args_zip_next_1 _))))
  obtain ⟨o, e1, e2⟩ := he
  exact wpAny_bind (wpAny_isInstance (T := "StopIteration") (b := true) ⟨o, e1, e2⟩ isSubtype_stop (wpAny_pure (q g k)))
/-- the heap behind zip(t1, t2) -/
def made (h : Heap) (t1 t2 : Addr) : Heap :=
  ((((h.push { cls := .type "tuple_iterator", data := .fields #[.ref t1, .int 0 0] }).push { cls := .type "tuple_iterator", data := .fields #[.ref t2, .int 0 0] }).push { cls := .type "tuple", data := .seq #[.ref h.objs.size, .ref (h.objs.size + 1)] }).push
    { cls := .type "tuple", data := .seq #[.none, .none] }).push { cls := .type "zip", data := .fields #[.none, .bool false, .bool false, .ref (h.objs.size + 2), .ref (h.objs.size + 3)] }
theorem new_zip (t1 t2 : Addr) (xs ys : Array Value) : Meets (Builtin.«zip.__new__» ⟨[.type "zip", .ref t1, .ref t2], []⟩) (fun _ R s => s.heap.IsTuple t1 xs ∧ s.heap.IsTuple t2 ys ∧ R (.ok (.ret (.ref (s.heap.objs.size + 4)))) { s with heap := made s.heap t1 t2 }) :=
  .of_wp fun prog w A R s h => by
    obtain ⟨hp, g, d, tk, os⟩ := s
    obtain ⟨k1, k2, h⟩ := h
    have hsub := sub_zip
    have u1 : Heap.IsTuple (Shared.heap ⟨hp, g, d, tk, os⟩) t1 xs := k1
    have u2 : Heap.IsTuple (Shared.heap ⟨hp.push { cls := .type "tuple_iterator", data := .fields #[.ref t1, .int 0 0] }, g, d, tk, os⟩) t2 ys := Heap.IsTuple.push k2 _
    wp_walk using wpAny_pyIter_tuple u1, wpAny_pyIter_tuple u2
    refine ⟨_, rfl, ?_⟩
    unfold made at h
    simp only [Heap.size_push]
    exact h
theorem call_zip {t1 t2 : Addr} {xs ys : Array Value} {Q : Value → Shared → Prop} (h1 : s.heap.IsTuple t1 xs) (h2 : s.heap.IsTuple t2 ys)
    (q : Q (.ref (s.heap.objs.size + 4)) { s with heap := made s.heap t1 t2 }) : wpAny (model prog w) A (call (.type "zip") [.ref t1, .ref t2]) Q E s := by
  refine callType_new F.called_zip (by decide) (F.typeCall_zip_2 _ _) (F.newCall_zip_2 _ _) (fun obj => F.args_object_init_3 obj _ _) F.entry_zip_new (new_zip t1 t2 xs ys) ⟨h1, h2, ?_⟩
  have e : (made s.heap t1 t2).get? (s.heap.objs.size + 4) = some { cls := .type "zip", data := .fields #[.none, .bool false, .bool false, .ref (s.heap.objs.size + 2), .ref (s.heap.objs.size + 3)] } := by
    unfold made
    have := Heap.get?_push_size ((((s.heap.push { cls := .type "tuple_iterator", data := .fields #[.ref t1, .int 0 0] }).push { cls := .type "tuple_iterator", data := .fields #[.ref t2, .int 0 0] }).push { cls := .type "tuple", data := .seq #[.ref s.heap.objs.size, .ref (s.heap.objs.size + 1)] }).push { cls := .type "tuple", data := .seq #[.none, .none] })
      (o := { cls := .type "zip", data := .fields #[.none, .bool false, .bool false, .ref (s.heap.objs.size + 2), .ref (s.heap.objs.size + 3)] }) rfl
    simpa only [Heap.size_push] using this
  exact ⟨⟨_, e, rfl⟩, q⟩
end
end ZT

set_option Elab.async false
set_option linter.all false
set_option maxRecDepth 100000
namespace L2
open PySem PySem.Spec PyProof.Rows
section
variable {X : Cx} {tg : Expr}
/-! ### zip(t, u) of two tuples, walked: each turn a new pair -/
def Itz (K : PySem.W.Frag) (t1 t2 : Addr) : It :=
  ⟨fun i H => ∃ xs ys x y, SqT K H t1 xs ∧ SqT K H t2 ys ∧ xs[i]? = some x ∧ ys[i]? = some y, fun i H v H' => ∃ p x y, H p = none ∧ v = .ref p ∧ (∀ xs, SqT K H t1 xs → xs[i]? = some x) ∧ (∀ ys, SqT K H t2 ys → ys[i]? = some y) ∧ H' = upd H p (.tup [x, y]),
    fun i H => ∃ xs ys, SqT K H t1 xs ∧ SqT K H t2 ys ∧ (xs.length ≤ i ∨ ys.length ≤ i)⟩
theorem turn_zip {P : Program} {w : World} {K : PySem.W.Frag} {es : List Expr} {k : Nat} {p0 : Pos} (z a b i1 i2 t1 t2 : Addr) (D : ZT.Apart z a b i1 i2 t1 t2) :
    Turn P w K (.Tuple es k p0) (Itz K t1 t2) [z, a, b, i1, i2] z (fun i h => ZT.Rec h z a b i1 i2 t1 t2 .none i) where
  mem := by simp
  obj := fun i h R c hc => by
    obtain ⟨z1, z2, ⟨u, v, z3⟩, ⟨o4, z4, _, z4'⟩, ⟨o5, z5, _, z5'⟩⟩ := R
    simp only [List.mem_cons, List.not_mem_nil, or_false] at hc
    rcases hc with rfl | rfl | rfl | rfl | rfl
    · exact ⟨_, z1, fun v z => nomatch z⟩
    · exact ⟨_, z2, fun v z => nomatch z⟩
    · exact ⟨_, z3, fun v z => nomatch z⟩
    · exact ⟨_, z4, fun v z => by rw [z4'] at z; cases z⟩
    · exact ⟨_, z5, fun v z => by rw [z5'] at z; cases z⟩
  keep := fun i h h' R kp => by
    obtain ⟨z1, z2, ⟨u, v, z3⟩, ⟨o4, z4, r4⟩, ⟨o5, z5, r5⟩⟩ := R
    exact ⟨kp _ (by simp) _ z1, kp _ (by simp) _ z2, ⟨u, v, kp _ (by simp) _ z3⟩, ⟨o4, kp _ (by simp) _ z4, r4⟩, ⟨o5, kp _ (by simp) _ z5, r5⟩⟩
  item := by
    intro X hP hw hK hc i pins s σ H E I hf st hg
    subst hP hw hK
    obtain ⟨xs, ys, x, y, hq1, hq2, hx, hy⟩ := hg
    obtain ⟨its1, rv1, k1, _⟩ := I.tuple hq1
    obtain ⟨its2, rv2, k2, _⟩ := I.tuple hq2
    obtain ⟨u1, hu1, ru1⟩ := rv1.get hx
    obtain ⟨u2, hu2, ru2⟩ := rv2.get hy
    refine ZT.zipn_there D st k1 k2 (x := u1) (y := u2) (by simpa using hu1) (by simpa using hu2) fun g R' new kp => ⟨_, rfl, ?_⟩
    refine wpAny_letOwnedTupleGo_zip R'.zz fun g' z' sb => ?_
    have nz : s.heap.objs.size ≠ z := Nat.ne_of_gt (Heap.lt_size st.zz)
    have kp' : ∀ c o, c ≠ z → c ≠ b → c ≠ i1 → c ≠ i2 → s.heap.get? c = some o → g'.get? c = some o := fun c o c1 c2 c3 c4 e => (sb.2 c c1).trans (kp c o c1 c2 c3 c4 e)
    have kpO : ∀ c o, c ∉ [z, a, b, i1, i2] → s.heap.get? c = some o → g'.get? c = some o := fun c o hn e => kp' c o (fun q => hn (by simp [q])) (fun q => hn (by simp [q])) (fun q => hn (by simp [q])) (fun q => hn (by simp [q])) e
    have hnot : ∀ c o, H c = some o → c ∉ [z, a, b, i1, i2] := fun c o e hm => by rw [(hf c hm).1] at e; cases e
    have nsz : ∀ c o, s.heap.get? c = some o → c ≠ s.heap.objs.size := fun c o e => Nat.ne_of_lt (Heap.lt_size e)
    have trk : ∀ c o, H c = some o → c ≠ s.heap.objs.size := fun c o e => Nat.ne_of_lt (I.hok.lt e)
    have new' : g'.get? s.heap.objs.size = some { cls := .type "tuple", data := .seq #[u1, u2] } := (sb.2 _ nz).trans new
    have R2 : ZT.Rec g' z a b i1 i2 t1 t2 .none (i + 1) := by
      obtain ⟨_, z2, ⟨u, v, z3⟩, ⟨o4, z4, r4⟩, ⟨o5, z5, r5⟩⟩ := R'
      exact ⟨z', (sb.2 _ D.az).trans z2, ⟨u, v, (sb.2 _ D.bz).trans z3⟩, ⟨o4, (sb.2 _ D.z1).trans z4, r4⟩, ⟨o5, (sb.2 _ D.z2).trans z5, r5⟩⟩
    have okH : HOk X.prog X.w (upd H s.heap.objs.size (.tup [x, y])) g' := fun c o e => by
      by_cases ec : c = s.heap.objs.size
      · subst ec
        rw [upd_same] at e
        cases e
        exact ⟨by show 2 ≤ sizeLine; rw [sizeLine_eq]; decide, [u1, u2], .cons ru1 (.cons ru2 .nil), ⟨_, new', rfl, 0, rfl⟩⟩
      · rw [upd_ne ec] at e
        refine (I.hok c o e).stay (fun d v hd q => kpO d v ?_ q) (fun d q => by rw [upd_ne (trk d _ q)]; exact q) fun d zs q => by rw [upd_ne (trk d _ q)]; exact q
        rcases hd with rfl | hd
        · exact hnot _ _ e
        · exact hnot _ _ hd
    have I2 : Inv X pins σ (upd H s.heap.objs.size (.tup [x, y])) { s with heap := g' } := by
      refine I.step (g' := s.gens) (t' := s.toks) (d' := s.drawn) (ch := [z, a, b, i1, i2]) (fun c hc' => ?_) (fun c o _ _ hn e _ => kpO c o hn e) (fun c o _ _ hn e _ => ⟨o.slots, kpO c o hn e⟩) (fun c o _ e n => by rw [upd_ne (nsz c o e)]; exact n) (fun c o hn e => ⟨o, kpO c o hn e⟩)
        (fun c zs q => by rw [upd_ne (trk c _ q)]; exact q) (fun c o u q => by rw [upd_ne (trk c _ q)]; exact q) (fun c ps q => ⟨#[], by rw [upd_ne (trk c _ q), q]; simp⟩) (fun m hm => ?_) okH I.bare
      · obtain ⟨f0, f1, f2, f3, f4, f5⟩ := hf c hc'
        exact ⟨f3, f1, f4, f5⟩
      · obtain ⟨o, es', ep, ho, r⟩ := hm
        exact ⟨o, es', ep, kpO _ o (fun hm' => (hf _ hm').2.1 rfl) ho, r⟩
    refine ⟨.ref s.heap.objs.size, _, I2, rfl, ⟨s.heap.objs.size, x, y, I.hok.fresh (Nat.le_refl _), rfl, fun zs hz => ?_, fun zs hz => ?_, rfl⟩, R2, fun c hc' => ?_⟩
    · rw [I.tuple_inj hz hq1]; exact hx
    · rw [I.tuple_inj hz hq2]; exact hy
    · obtain ⟨o, e, _⟩ : ∃ o, s.heap.get? c = some o ∧ True := by
        obtain ⟨z1, z2, ⟨u, v, z3⟩, ⟨o4, z4, _⟩, ⟨o5, z5, _⟩⟩ := st
        simp only [List.mem_cons, List.not_mem_nil, or_false] at hc'
        rcases hc' with rfl | rfl | rfl | rfl | rfl
        · exact ⟨_, z1, trivial⟩
        · exact ⟨_, z2, trivial⟩
        · exact ⟨_, z3, trivial⟩
        · exact ⟨_, z4, trivial⟩
        · exact ⟨_, z5, trivial⟩
      rw [upd_ne (nsz c o e)]
      exact (hf c hc').1
  done := by
    intro X hP hw hK hc i pins s σ H E I hf st hg
    subst hP hw hK
    obtain ⟨xs, ys, hq1, hq2, hle⟩ := hg
    obtain ⟨its1, rv1, k1, _⟩ := I.tuple hq1
    obtain ⟨its2, rv2, k2, _⟩ := I.tuple hq2
    have e1 := rv1.length
    have e2 := rv2.length
    refine ZT.zipn_gone (I.ok.hd hc) D st k1 k2 (by rcases hle with h | h; left; simp; omega; right; simp; omega) fun g kp => ⟨rfl, ?_⟩
    have kpO : ∀ c o, c ∉ [z, a, b, i1, i2] → s.heap.get? c = some o → g.get? c = some o := fun c o hn e => kp c o (fun q => hn (by simp [q])) (fun q => hn (by simp [q])) (fun q => hn (by simp [q])) (fun q => hn (by simp [q])) e
    have hnot : ∀ c o, H c = some o → c ∉ [z, a, b, i1, i2] := fun c o e hm => by rw [(hf c hm).1] at e; cases e
    refine I.step (g' := s.gens) (t' := s.toks) (d' := s.drawn) (ch := [z, a, b, i1, i2]) (fun c hc' => ?_) (fun c o _ _ hn e _ => kpO c o hn e) (fun c o _ _ hn e _ => ⟨o.slots, kpO c o hn e⟩) (fun c o _ e n => n) (fun c o hn e => ⟨o, kpO c o hn e⟩)
      (fun c zs q => q) (fun c o u q => q) (fun c ps q => ⟨#[], by rw [q]; simp⟩) (fun m hm => ?_) (fun c o e => ?_) I.bare
    · obtain ⟨f0, f1, f2, f3, f4, f5⟩ := hf c hc'
      exact ⟨f3, f1, f4, f5⟩
    · obtain ⟨o, es', ep, ho, r⟩ := hm
      exact ⟨o, es', ep, kpO _ o (fun hm' => (hf _ hm').2.1 rfl) ho, r⟩
    · refine (I.hok c o e).stay (fun d v hd q => kpO d v ?_ q) (fun d q => q) fun d zs q => q
      rcases hd with rfl | hd
      · exact hnot _ _ e
      · exact hnot _ _ hd
  self := fun A i s Q E st hq => wpAny_pyIter_zip st.zz hq
theorem pi_zip {es : List Expr} {k : Nat} {p0 : Pos} {a b : Expr} {ta : TA} {p pos : Pos} (hg : Gl X "zip") (hm : X.mg "zip" = none) (ha : PA X [a, b] ta) (hs : starEach [a, b] X.env = [(false, eval a X.env), (false, eval b X.env)] := by rfl) (hs2 : starEach [b] X.env = [(false, eval b X.env)] := by rfl) :
    PI X (.Tuple es k p0) (.Call (.Name "zip" p) [a, b] [] pos) (fun σ H R => ta σ H fun vs H1 => ∃ t1 t2 xs ys, vs = [.ref t1, .ref t2] ∧ H1 t1 = some (.tup xs) ∧ H1 t2 = some (.tup ys) ∧ R (Itz X.K t1 t2) H1) := by
  intro pins s σ H R I h
  refine Call_ (ld_blt I hg hm boot_zip (PyProof.Rows.callWith_type1 (thn (ha pos pins s σ H _ I h) fun us s1 ⟨vs, H1, I1, r1, q1⟩ => ?_) (by rw [hs, hs2]) (by rw [hs2]; rfl)))
  obtain ⟨t1, t2, xs, ys, e, ht1, ht2, q⟩ := q1
  subst e
  obtain ⟨u1, u2, rfl, ru1, ru2⟩ := vals2 r1
  cases ru1
  cases ru2
  obtain ⟨its1, rv1, k1, hz1⟩ := I1.tuple (SqT.of ht1)
  obtain ⟨its2, rv2, k2, hz2⟩ := I1.tuple (SqT.of ht2)
  refine ZT.call_zip k1 k2 ?_
  -- the records' places
  generalize hn : s1.heap.objs.size = n
  have keep : ∀ c o, s1.heap.get? c = some o → (ZT.made s1.heap t1 t2).get? c = some o := fun c o e => by
    unfold ZT.made
    exact Heap.get?_push_of_some _ (Heap.get?_push_of_some _ (Heap.get?_push_of_some _ (Heap.get?_push_of_some _ (Heap.get?_push_of_some _ e))))
  have rec0 : ZT.Rec (ZT.made s1.heap t1 t2) (n + 4) (n + 2) (n + 3) n (n + 1) t1 t2 .none 0 := by
    subst hn
    unfold ZT.made
    refine ⟨?_, ?_, ⟨.none, .none, ?_⟩, ⟨{ cls := .type "tuple_iterator", data := .fields #[.ref t1, .int 0 0] }, ?_, rfl, rfl⟩, ⟨{ cls := .type "tuple_iterator", data := .fields #[.ref t2, .int 0 0] }, ?_, rfl, rfl⟩⟩
    · have := Heap.get?_push_size ((((s1.heap.push { cls := .type "tuple_iterator", data := .fields #[.ref t1, .int 0 0] }).push { cls := .type "tuple_iterator", data := .fields #[.ref t2, .int 0 0] }).push { cls := .type "tuple", data := .seq #[.ref s1.heap.objs.size, .ref (s1.heap.objs.size + 1)] }).push { cls := .type "tuple", data := .seq #[.none, .none] })
        (o := { cls := .type "zip", data := .fields #[.none, .bool false, .bool false, .ref (s1.heap.objs.size + 2), .ref (s1.heap.objs.size + 3)] }) rfl
      simpa only [Heap.size_push] using this
    · refine Heap.get?_push_of_some _ (Heap.get?_push_of_some _ ?_)
      have := Heap.get?_push_size ((s1.heap.push { cls := .type "tuple_iterator", data := .fields #[.ref t1, .int 0 0] }).push { cls := .type "tuple_iterator", data := .fields #[.ref t2, .int 0 0] }) (o := { cls := .type "tuple", data := .seq #[.ref s1.heap.objs.size, .ref (s1.heap.objs.size + 1)] }) rfl
      simpa only [Heap.size_push] using this
    · refine Heap.get?_push_of_some _ ?_
      have := Heap.get?_push_size (((s1.heap.push { cls := .type "tuple_iterator", data := .fields #[.ref t1, .int 0 0] }).push { cls := .type "tuple_iterator", data := .fields #[.ref t2, .int 0 0] }).push { cls := .type "tuple", data := .seq #[.ref s1.heap.objs.size, .ref (s1.heap.objs.size + 1)] }) (o := { cls := .type "tuple", data := .seq #[.none, .none] }) rfl
      simpa only [Heap.size_push] using this
    · exact Heap.get?_push_of_some _ (Heap.get?_push_of_some _ (Heap.get?_push_of_some _ (Heap.get?_push_of_some _ (Heap.get?_push_size _ rfl))))
    · refine Heap.get?_push_of_some _ (Heap.get?_push_of_some _ (Heap.get?_push_of_some _ ?_))
      have := Heap.get?_push_size (s1.heap.push { cls := .type "tuple_iterator", data := .fields #[.ref t1, .int 0 0] }) (o := { cls := .type "tuple_iterator", data := .fields #[.ref t2, .int 0 0] }) rfl
      simpa only [Heap.size_push] using this
  have l1 : t1 < n := by rw [← hn]; exact I1.hok.lt ht1
  have l2 : t2 < n := by rw [← hn]; exact I1.hok.lt ht2
  have D := ZT.apart_of n t1 t2 l1 l2
  refine wpAny_pyIter_zip rec0.zz ?_
  refine ⟨n + 4, [n + 4, n + 2, n + 3, n, n + 1], _, Itz X.K t1 t2, H1, rfl, I1.kept (t' := s1.toks) keep, turn_zip _ _ _ _ _ _ _ D, rec0, fun c hc => ?_, q⟩
  have hle : s1.heap.objs.size ≤ c := by
    rw [hn]
    simp only [List.mem_cons, List.not_mem_nil, or_false] at hc
    rcases hc with rfl | rfl | rfl | rfl | rfl
    · exact Nat.le_add_right _ _
    · exact Nat.le_add_right _ _
    · exact Nat.le_add_right _ _
    · exact Nat.le_refl _
    · exact Nat.le_add_right _ _
  exact I1.fpOk hle (I1.hok.fresh hle)
end
end L2

set_option Elab.async false
set_option linter.all false
set_option maxRecDepth 100000
namespace L2
open PySem PySem.Spec PyProof.Rows
section
variable {X : Cx}
/-! ### t[::-1] -/
theorem pick_rev (xs : Array Value) : ((List.range xs.size).filterMap fun (m : Nat) => xs[((xs.size : Int) - 1 + (m : Int) * (-1)).toNat]?) = xs.toList.reverse := by
  apply List.ext_getElem?
  intro i
  have e : ((List.range xs.size).filterMap fun (m : Nat) => xs[((xs.size : Int) - 1 + (m : Int) * (-1)).toNat]?) = (List.range xs.size).map fun m => xs.getD (xs.size - 1 - m) Value.none := by
    have : ∀ l : List Nat, (∀ m ∈ l, m < xs.size) → (l.filterMap fun (m : Nat) => xs[((xs.size : Int) - 1 + (m : Int) * (-1)).toNat]?) = l.map fun m => xs.getD (xs.size - 1 - m) Value.none := by
      intro l
      induction l with
      | nil => intro _; rfl
      | cons m l ih =>
        intro hl
        have hm := hl m (by simp)
        have en : ((xs.size : Int) - 1 + (m : Int) * (-1)).toNat = xs.size - 1 - m := by omega
        rw [List.filterMap_cons_some (b := xs.getD (xs.size - 1 - m) Value.none) (by rw [en, Array.getD_eq_getD_getElem?, Array.getElem?_eq_getElem (by omega)]; rfl), List.map_cons, ih fun k hk => hl k (by simp [hk])]
    exact this _ fun m hm => List.mem_range.mp hm
  rw [e, List.getElem?_map]
  by_cases hi : i < xs.size
  · rw [List.getElem?_range hi, List.getElem?_reverse (by simpa using hi)]
    show some (xs.getD (xs.size - 1 - i) Value.none) = _
    rw [Array.getD_eq_getD_getElem?, Array.getElem?_eq_getElem (by omega), Array.length_toList, Array.getElem?_toList, Array.getElem?_eq_getElem (by omega)]
    rfl
  · rw [List.getElem?_eq_none (by rw [List.length_range]; omega), List.getElem?_eq_none (by simp; omega)]
    rfl
theorem getItem_tuple_rev {prog : Program} {w : World} {A : Around} {E : Value → Shared → Prop} {s : Shared} {t sl : Addr} {items : Array Value} {tk : Tok} {Q : Value → Shared → Prop} (ht : IsTup s.heap t items) (hs : s.heap.IsSliceOf sl .none .none (.int (-1) tk))
    (h : Q (.ref s.heap.objs.size) { s with heap := s.heap.push { cls := .type "tuple", data := .seq items.toList.reverse.toArray } }) (hsz : items.size ≤ sizeLine) : wpAny (model prog w) A (getItem (.ref t) (.ref sl)) Q E s := by
  obtain ⟨os, hos, hcs, hds⟩ := id hs
  have hTs : s.TypeIs (.ref sl) "slice" := ⟨os, hos, hcs⟩
  have hok : sizeOk (.seq items.toList.reverse.toArray) := by
    show items.toList.reverse.toArray.size ≤ sizeLine
    rw [List.size_toArray, List.length_reverse, Array.length_toList]; exact hsz
  unfold getItem
  try with_reducible refine wpAny_holding ?_
  first | refine wpAny_bind (wpAny_pure ?_) | skip
  refine wpAny_bind (wpAny_sequenceKey ht.typeIs (by decide) (wpAny_bind (wpAny_callSpecial?_slot (name := Str.ofString "__getitem__") ht.typeIs PyProof.Rows.slot_tuple_getitem (wpAny_call_entry PyProof.Rows.slot_tuple_getitem ht.typeIs entry_tuple_getitem ?body (args_tuple_getitem _ _)))))
  case body =>
    refine wpAny_bind (m := Builtin.Tuple.tupleItemsOf (.ref t)) (tupleItemsOf_ ht (wpAny_bind (wpAny_typeOf hTs ?_)))
    rw [if_pos (by decide)]
    refine wpAny_bind ?_
    unfold Builtin.Slice.sliceApplied Builtin.Slice.sliceFields
    refine wpAny_bind (wpAny_bind (wpAny_field hos hds (x := .none) rfl (wpAny_bind (wpAny_field hos hds (x := .none) rfl (wpAny_bind (wpAny_field hos hds (x := .int (-1) tk) rfl (wpAny_pure ?_)))))))
    refine wpAny_bind (slicePart_int ?_)
    show wpAny _ _ (if ((-1 : Int) == 0) = true then _ else _) _ _ s
    rw [if_neg (by decide)]
    refine wpAny_bind (slicePart_none (wpAny_bind (slicePart_none (wpAny_bind (wpAny_pure (wpAny_pure ?_))))))
    have e1 : Builtin.Slice.slicePlaces ((items.size : Int) - 1) (-1) (-1) = items.size := by
      unfold Builtin.Slice.slicePlaces
      have h1 : ¬ ((-1 : Int) > 0) := by decide
      simp only [h1, if_false, Int.neg_neg, Int.ediv_one]
      split <;> omega
    show wpAny _ _ (if (((items.size : Int) - 1) == 0 && (-1 : Int) == 1 && (Builtin.Slice.slicePlaces ((items.size : Int) - 1) (-1) (-1)) == items.size) = true then _ else (Builtin.Tuple.tupleExact ((List.range (Builtin.Slice.slicePlaces ((items.size : Int) - 1) (-1) (-1))).filterMap fun (m : Nat) => items[((items.size : Int) - 1 + (m : Int) * (-1)).toNat]?).toArray >>= _)) _ _ s
    rw [if_neg (by simp), e1, pick_rev]
    exact wpAny_bind (m := Builtin.Tuple.tupleExact _) (wpAny_newObj_type (wpAny_pure ⟨_, rfl, wpAny_pure h⟩) hok)
/-- e[::st], st is -1 -/
def tRevT (K : PySem.W.Frag) (te ts : TE) : TE := fun σ H Q => te σ H fun x H1 => ts σ H1 fun y H2 => ∃ a xs, x = .ref a ∧ y = .int (-1) ∧ SqT K H2 a xs ∧ ∀ p, H2 p = none → Q (.ref p) (upd H2 p (.tup xs.reverse))
theorem pe_rev {e st : Expr} {te ts : TE} {pos p2 : Pos} (he : PE X e te) (hst : PE X st ts) : PE X (.Subscript e (.Slice none none (some st) p2) pos) (tRevT X.K te ts) := by
  intro pins s σ H Q I h
  refine Subscript_ (thn (he pins s σ H _ I h) fun v s1 ⟨x, H1, I1, r1, q1⟩ => ?_)
  refine wpAny_Slice ?_
  rw [evalPart_none]
  refine wpAny_pure (wpAny_pure ?_)
  rw [evalPart_some]
  refine thn (hst pins s1 σ H1 _ I1 q1) fun u s3 ⟨y, H3, I3, r3, q3⟩ => ?_
  obtain ⟨a, xs, rfl, rfl, hx, q⟩ := q3
  cases r1
  obtain ⟨tk, rfl⟩ := r3
  have I4 : Inv X pins σ H3 { s3 with heap := s3.heap.push { cls := .type "slice", data := .fields #[.none, .none, .int (-1) tk] } } := I3.kept (t' := s3.toks) fun b ob q => Heap.get?_push_of_some _ q
  obtain ⟨its, r, ht, hz⟩ := I4.tuple hx
  have hlen : its.toArray.size = xs.length := by rw [List.size_toArray]; exact r.length.symm
  show wpAny (model X.prog X.w) X.A (subscriptTail e (.Slice none none (some st) p2) (.ref a) (.ref s3.heap.objs.size)) (EP X pins σ Q) X.xe { s3 with heap := s3.heap.push { cls := .type "slice", data := .fields #[.none, .none, .int (-1) tk] } }
  refine tail_any (ops := [.ref a, .ref s3.heap.objs.size]) ht.typeIs PyProof.Rows.slot_tuple_getitem.lookup ?_ (by with_unfolding_all rfl)
  refine getItem_tuple_rev ht ⟨_, Heap.get?_push_size _ rfl, rfl, rfl⟩ ?_ (by rw [hlen]; exact hz)
  rw [show its.toArray.toList.reverse.toArray = its.reverse.toArray by simp]
  refine ⟨.ref _, _, I4.laid (t' := s3.toks) (o := .tup xs.reverse) (fun b ob q => Heap.get?_push_of_some _ q) (Nat.le_refl _) ?_, rfl, q _ (I4.hok.fresh (Nat.le_refl _))⟩
  exact ⟨by rw [List.length_reverse]; exact hz, its.reverse, r.reverse, IsTup.new _ _⟩
/-! ### sorted(xs) of tuples, told apart by the ints that they begin with -/
abbrev Tup1 := Addr × Int × List V
def numAt (zs : List Tup1) (i : Nat) : Int := (zs.getD i (0, 0, [])).2.1
theorem ord_of {zs : List Tup1} (h : (zs.map (·.2.1)).Nodup) : SRT.Ord (fun i j => decide (numAt zs i < numAt zs j)) zs.length := by
  refine ⟨fun i _ => by simp, fun i j k _ _ _ h1 h2 => ?_, fun i j hi hj hij => ?_⟩
  · simp only [decide_eq_true_eq] at *; omega
  · simp only [decide_eq_true_eq]
    have : numAt zs i ≠ numAt zs j := by
      unfold numAt
      rw [List.getD_eq_getElem?_getD, List.getD_eq_getElem?_getD, List.getElem?_eq_getElem hi, List.getElem?_eq_getElem hj]
      intro e
      have e' : (zs.map (·.2.1))[i]'(by simpa using hi) = (zs.map (·.2.1))[j]'(by simpa using hj) := by simpa using e
      exact hij ((List.getElem_inj h).mp e')
    omega
theorem lex_same {prog : Program} {w : World} {A : Around} {s : Shared} {b : Bool} {Q : Bool → Shared → Prop} (h : Q false s) : ∀ (l : List Value) (i : Nat), PySem.W.KatLex prog w A b false Q (l.zip l) i s
  | [], i => h
  | v :: l, i => PySem.W.kat_cons (SeqAt.EqAt.same v prog w _ _ (PySem.W.kat_yes (lex_same h l (i + 1))))
theorem call_sorted_tups : CallR X (.builtin "sorted") (fun xs H Q => ∃ l, ∃ zs : List Tup1, xs = [.ref l] ∧ SqL X.K H l ((zs.map (·.1)).map V.ref) ∧ (∀ z ∈ zs, H z.1 = some (.tup (.int z.2.1 :: z.2.2))) ∧ (zs.map (·.2.1)).Nodup ∧ zs.length < 64 ∧
    ∀ zs' : List Tup1, zs'.Perm zs → zs'.Pairwise (fun a b => a.2.1 < b.2.1) → ∀ p, H p = none → Q (.ref p) (upd H p (.lst ((zs'.map (·.1)).map V.ref)))) := by
  intro pins s σ H xs us Q I r h
  obtain ⟨l, zs, rfl, hq, hk, hnd, h64, q⟩ := h
  obtain ⟨u, rfl, ru⟩ := vals1 r
  cases ru
  obtain ⟨its, rv, pl, hz⟩ := I.list hq
  have e := vals_refs rv
  subst e
  have hlen : ((zs.map (·.1)).map Value.ref).length = zs.length := by simp
  have hobj : ∀ z ∈ zs, ∃ o its n t, s.heap.get? z.1 = some o ∧ o.cls = .type "tuple" ∧ o.data = .seq its n ∧ its.toList = .int z.2.1 t :: its.toList.drop 1 := fun z hz' => by
    obtain ⟨_, its, rr, o, e1, e2, n, e3⟩ := I.hok z.1 _ (hk z hz')
    cases rr with
    | cons r1 r2 =>
      obtain ⟨t, rfl⟩ := r1
      exact ⟨o, _, n, t, e1, e2, e3, by simp⟩
  have hget : ∀ i, i < zs.length → ((zs.map (·.1)).map Value.ref).getD i Value.none = .ref (zs.getD i (0, 0, [])).1 ∧ zs.getD i (0, 0, []) ∈ zs := fun i hi => by
    rw [List.getD_eq_getElem?_getD, List.getD_eq_getElem?_getD, List.getElem?_map, List.getElem?_map, List.getElem?_eq_getElem hi]
    exact ⟨rfl, List.getElem_mem hi⟩
  refine SRT.sorted_by (κ := tuples' true) (f := fun i j => decide (numAt zs i < numAt zs j)) (by rw [hlen]; exact ord_of hnd) pl.isList (by rw [hlen]; exact h64) ?kind ?less ?fin
  case kind =>
    intro A' s' _ kp Q' h2 hQ'
    have key : ∀ ys : List Tup1, (∀ z ∈ ys, z ∈ zs) → ∃ fs : List Value, PySem.W.KatTups s'.heap ((ys.map (·.1)).map Value.ref) fs ∧ fs.length = ys.length ∧ ∀ v ∈ fs, ∃ i t, v = Value.int i t := by
      intro ys
      induction ys with
      | nil => intro _; exact ⟨[], PySem.W.KatTups.nil, rfl, fun v hv => by simp at hv⟩
      | cons z ys ih =>
        intro hm
        obtain ⟨fs, h1, h2', h3⟩ := ih fun y hy => hm y (by simp [hy])
        obtain ⟨o, its, n, t, e1, e2, e3, e4⟩ := hobj z (hm z (by simp))
        refine ⟨.int z.2.1 t :: fs, PySem.W.KatTups.cons (kp _ _ e1) e2 e3 ?_ h1, by simp [h2'], fun v hv => ?_⟩
        · rw [← Array.getElem?_toList, e4]; rfl
        · rcases List.mem_cons.mp hv with rfl | hv
          · exact ⟨_, _, rfl⟩
          · exact h3 v hv
    obtain ⟨fs, h1, h2', h3⟩ := key zs fun z hz' => hz'
    refine PySem.W.kat_kind (T := .type "int") h1 (by rw [h2']; rw [hlen] at h2; omega) (fun v hv => ?_) (by rfl) hQ'
    obtain ⟨i, t, rfl⟩ := h3 v hv
    exact .now
  case less =>
    intro A' s' _ kp i j C hi hj hC
    rw [hlen] at hi hj
    obtain ⟨gi, mi⟩ := hget i hi
    obtain ⟨gj, mj⟩ := hget j hj
    rw [gi, gj]
    obtain ⟨oi, ii, ni, ti, a1, a2, a3, a4⟩ := hobj _ mi
    obtain ⟨oj, ij, nj, tj, b1, b2, b3, b4⟩ := hobj _ mj
    refine PySem.W.kat_lt (kp _ _ a1) a3 (kp _ _ b1) b3 ?_
    by_cases hij : i = j
    · subst hij
      rw [a1] at b1
      cases b1
      rw [a3] at b3
      cases b3
      have : C false s' := by simpa using hC
      have e2 : decide (ii.size < ii.size) = false := by simp
      rw [e2]
      exact lex_same this _ _
    · have hne : numAt zs i ≠ numAt zs j := by
        rcases (ord_of hnd).tot i j hi hj hij with h1 | h1 <;> simp only [decide_eq_true_eq] at h1 <;> omega
      rw [a4, b4]
      refine PySem.W.kat_cons (wpAny_eqBool_int ?_)
      have e2 : ((zs.getD i (0, 0, [])).2.1 == (zs.getD j (0, 0, [])).2.1) = false := beq_eq_false_iff_ne.mpr hne
      rw [e2]
      refine PySem.W.kat_no ?_
      exact PySem.W.kat_lt_int hC
  case fin =>
    intro p h' hrow hup kp _ hg
    obtain ⟨c, hg⟩ := hg
    rw [hlen] at hrow hup
    obtain ⟨zs', hzs'⟩ : ∃ zs', zs' = p.toList.map fun i => zs.getD i (0, 0, []) := ⟨_, rfl⟩
    have hperm : zs'.Perm zs := by
      rw [hzs']
      refine (hrow.perm.map _).trans ?_
      have : (List.range zs.length).map (fun i => zs.getD i (0, 0, [])) = zs := by
        apply List.ext_getElem?
        intro i
        rw [List.getElem?_map]
        by_cases hi : i < zs.length
        · rw [List.getElem?_range hi, List.getElem?_eq_getElem hi]
          show some (zs.getD i (0, 0, [])) = _
          rw [List.getD_eq_getElem?_getD, List.getElem?_eq_getElem hi]; rfl
        · rw [List.getElem?_eq_none (by rw [List.length_range]; omega), List.getElem?_eq_none (by omega)]; rfl
      rw [this]
    have hpl : p.size = zs.length := hrow.size
    have hpw : zs'.Pairwise (fun a b => a.2.1 < b.2.1) := by
      rw [List.pairwise_iff_getElem]
      intro i j hi hj hij
      have hi' : i < p.size := by rw [hzs', List.length_map, Array.length_toList] at hi; exact hi
      have hj' : j < p.size := by rw [hzs', List.length_map, Array.length_toList] at hj; exact hj
      have := hup i j hij (by omega)
      simp only [decide_eq_true_eq, numAt] at this
      rw [Array.getD_eq_getD_getElem?, Array.getD_eq_getD_getElem?, Array.getElem?_eq_getElem hi', Array.getElem?_eq_getElem hj'] at this
      simpa [hzs'] using this
    have hout : (List.toArray (p.toList.map fun i => ((zs.map (·.1)).map Value.ref).getD i Value.none)) = ((zs'.map (·.1)).map Value.ref).toArray := by
      congr 1
      rw [hzs']
      simp only [List.map_map]
      apply List.map_congr_left
      intro i hi
      have hi' : i < zs.length := List.mem_range.mp (hrow.perm.mem_iff.mp hi)
      have := (hget i hi').1
      simp only [List.map_map] at this
      exact this
    rw [hout] at hg
    have hv : Vals ((zs'.map (·.1)).map V.ref) ((zs'.map (·.1)).map Value.ref) := by
      generalize zs'.map (·.1) = as
      induction as with
      | nil => exact .nil
      | cons a as ih => exact .cons rfl ih
    refine ⟨.ref (s.heap.objs.size + 1), _, I.laid (t' := s.toks) (o := .lst ((zs'.map (·.1)).map V.ref)) kp (Nat.le_succ _) ⟨?_, _, c, hv, hg⟩, rfl, q zs' hperm hpw _ (I.hok.fresh (Nat.le_succ _))⟩
    rw [List.length_map, List.length_map, hperm.length_eq, sizeLine_eq]; omega
end
end L2

set_option Elab.async false
set_option linter.all false
set_option maxRecDepth 100000
namespace L2
open PySem PySem.Spec PyProof.Rows
/-! ### short words for comprehensions -/
theorem relabel_same {scope : Scope} {env : Env} (h : ∀ y ∈ scope.names, y.2 ≠ .free) : relabel scope env = scope := by
  unfold relabel
  rw [map_eq_self (l := scope.names) (fun x hx => by
    obtain ⟨n, k⟩ := x
    have : (k == NameKind.free) = false := by simpa using h _ hx
    simp [this])]
/-- without free names -/
theorem lc_ok0 {X : Cx} {scope : Scope} (hk : scope.kind = .function) (hf : ∀ y ∈ scope.names, y.2 ≠ .free) (hc : ∀ y ∈ scope.names, y.2 ≠ .cell) (hn : ∀ x ∈ scope.names, x.2 = .local → scope.names.lookup x.1 = some .local) : LcOk X scope [] :=
  ⟨hk, closureFor_none hf, hn, hc, fun x c h => by simp at h, fun x h => by
    rw [relabel_same hf] at h
    rcases h with h | h
    · exact absurd rfl (hc _ (PySem.mem_of_lookup h))
    · exact absurd rfl (hf _ (PySem.mem_of_lookup h))⟩
theorem lc_by {k : Nat} {js : List Nat} {J : It} {g : TG} {te : TE} {σ : St} {H1 : Hp} {Q : VK} {p : Addr} (n : Nat) (hn : n ≤ 1000) (Pv : Nat → List V → St → Hp → Prop) (h0 : Pv 0 [] (lcStart k js σ) (upd H1 p (.lst [])))
    (hy : ∀ i ys σ' H', Pv i ys σ' H' → ys.length ≤ i) (go : ∀ i ys σ' H', i < n → Pv i ys σ' H' → J.go i H') (stop : ∀ ys σ' H', Pv n ys σ' H' → J.stop n H' ∧ Q (.ref p) H')
    (step : ∀ i ys σ' H', i < n → Pv i ys σ' H' → ∀ x H2, J.yld i H' x H2 → g x σ' H2 fun σ2 H3 => te σ2 H3 fun y H4 => H4 p = some (.lst ys) ∧ Pv (i + 1) (ys ++ [y]) σ2 (upd H4 p (.lst (ys ++ [y]))))
    (mg : ∀ x σ H (Q Q' : St → Hp → Prop), (∀ σ H, Q σ H → Q' σ H) → g x σ H Q → g x σ H Q') (me : ∀ σ H (Q Q' : VK), (∀ y H, Q y H → Q' y H) → te σ H Q → te σ H Q') :
    LcW k js g te σ Q J H1 p := by
  refine ⟨fun i m ys σ' H' => m = n - i ∧ i ≤ n ∧ Pv i ys σ' H', ⟨n, by simp, Nat.zero_le _, h0⟩, ?_⟩
  rintro i m ys σ' H' ⟨rfl, hi, hp⟩
  by_cases hlt : i < n
  · refine .inr ⟨go i ys σ' H' hlt hp, ?_, fun x H2 y => ?_⟩
    · have := hy i ys σ' H' hp
      exact Nat.lt_of_le_of_lt this (small1000 (by omega))
    · refine mg _ _ _ _ _ (fun σ2 H3 h3 => me _ _ _ _ (fun z H4 h4 => ⟨h4.1, n - (i + 1), by omega, rfl, hlt, h4.2⟩) h3) (step i ys σ' H' hlt hp x H2 y)
  · have e : i = n := by omega
    subst e
    exact .inl (stop ys σ' H' hp)
theorem same_upd {H : Hp} {p : Addr} {o : HO} (h : H p = none) : Same H (upd H p o) := fun b u e => by rw [upd_ne (ne_of_none e h)]; exact e
theorem upd_keep {H : Hp} {p a : Addr} {o u : HO} (h : H p = none) (e : H a = some u) : upd H p o a = some u := by rw [upd_ne (ne_of_none e h)]; exact e
/-- behind a change at a list that was not there at first -/
theorem same_over {H0 H : Hp} {p : Addr} {o : HO} (h0 : H0 p = none) (s : Same H0 H) : Same H0 (upd H p o) := fun b u e => by
  rw [upd_ne (ne_of_none e h0)]
  exact s b u e
end L2

set_option Elab.async false
set_option linter.all false
set_option maxRecDepth 100000
set_option maxHeartbeats 4000000
namespace TK
open PySem L2
/-! ### the text by places -/
def top (i : Nat) : Stmt := PySem.Challenge.pw_treewatch_k01_trees.main.body.getD i (.Pass ⟨0, 0, 0, 0⟩)
abbrev sWhole : Stmt := top 5
abbrev sName : Stmt := top 6
abbrev sStamp : Stmt := top 7
abbrev sNode : Stmt := top 8
abbrev sRise : Stmt := top 9
abbrev sOwn : Stmt := top 10
abbrev sIns : Stmt := top 11
abbrev sTree : Stmt := top 12
/-- a value whose kind is known -/
inductive Typ (H : Hp) : V → Prop where
  | non : Typ H .non
  | bl (b : Bool) : Typ H (.bl b)
  | int (i : Int) : Typ H (.int i)
  | str (x : Str) : Typ H (.str x)
  | lst {a : Addr} {xs : List V} (e : H a = some (.lst xs)) : Typ H (.ref a)
  | tup {a : Addr} {xs : List V} (e : H a = some (.tup xs)) : Typ H (.ref a)
theorem Typ.same {H H' : Hp} {v : V} (h : Typ H v) (s : Same H H') : Typ H' v := by
  cases h with
  | non => exact .non
  | bl b => exact .bl b
  | int i => exact .int i
  | str x => exact .str x
  | lst e => exact .lst (s _ _ e)
  | tup e => exact .tup (s _ _ e)
def isI : V → Bool
  | .int _ => true
  | _ => false
/-- what the text asks of the names around -/
structure Txt (mg : Str → Option Value) : Prop where
  isin : mg "isinstance" = none
  int : mg "int" = none
  bool : mg "bool" = none
  str : mg "str" = none
  len : mg "len" = none
  all : mg "all" = none
  tuple : mg "tuple" = none
  zip : mg "zip" = none
  set : mg "set" = none
  list : mg "list" = none
  range : mg "range" = none
  sorted : mg "sorted" = none
  top : ∃ t, mg "TOP" = some (.int 0 t)
  letters : ∃ t, mg "LETTERS" = some (.str "abcdefghijklmnopqrstuvwxyz" t)
  longest : ∃ t, mg "LONGEST_NAME" = some (.int 5 t)
  greatest : ∃ t, mg "GREATEST_STAMP" = some (.int 999 t)
section
variable {P : Program} {w : World} {K : PySem.W.Frag} {mg : Str → Option Value} {base : Heap}
/-! ### is_whole -/
def spWhole : Sp := fun vs H Q _ => ∃ v, vs = [v] ∧ Typ H v ∧ Q (.bl (isI v)) H
theorem scWhole : FnScope ["thing"] ["thing"] (defScope sWhole) := ⟨rfl, rfl, rfl, by decide +kernel, rfl, by decide +kernel, by decide +kernel⟩
theorem ok_whole {f : Addr} {fd : FuncData} (F : Fun K "is_whole" "is_whole" sWhole f fd) (T : Txt mg) : FnOk P w K mg base CX0 1 f fd ["thing"] spWhole := by
  refine F.ok scWhole (fun vs H Q E h => ?_) (fun cdv A outer s H vs Q E hr h => ?_)
  · obtain ⟨v, rfl, _⟩ := h
    rfl
  · obtain ⟨v, rfl, hv, k⟩ := h
    refine ⟨_, pss_one (ps_ret (pe_and (pe_callB call_isinst rfl T.isin PyProof.Rows.boot_isinstance (pa_cons (pv 0) (pa_cons (pe_bltn (v := .ty "int") rfl T.int PyProof.Rows.boot_int rfl) pa_nil)))
      (pe_one (pe_not (pe_callB call_isinst rfl T.isin PyProof.Rows.boot_isinstance (pa_cons (pv 0) (pa_cons (pe_bltn (v := .ty "bool") rfl T.bool PyProof.Rows.boot_bool rfl) pa_nil))))))), ?_⟩
    cases hv with
    | non => exact ⟨_, rfl, _, _, _, _, rfl, .non, (by kernel_rfl : _ = some false), _, rfl, iteF k⟩
    | bl b => exact ⟨_, rfl, _, _, _, _, rfl, .bl b, (by kernel_rfl : _ = some true), _, rfl, iteT ⟨_, rfl, _, _, _, _, rfl, .bl b, (by kernel_rfl : _ = some true), _, rfl, k⟩⟩
    | int i => exact ⟨_, rfl, _, _, _, _, rfl, .int i, (by kernel_rfl : _ = some true), _, rfl, iteT ⟨_, rfl, _, _, _, _, rfl, .int i, (by kernel_rfl : _ = some false), _, rfl, k⟩⟩
    | str x => exact ⟨_, rfl, _, _, _, _, rfl, .str x, (by kernel_rfl : _ = some false), _, rfl, iteF k⟩
    | lst e => exact ⟨_, rfl, _, _, _, _, rfl, .lst e, (by kernel_rfl : _ = some false), _, rfl, iteF k⟩
    | tup e => exact ⟨_, rfl, _, _, _, _, rfl, .tup e, (by kernel_rfl : _ = some false), _, rfl, iteF k⟩
end
end TK

set_option Elab.async false
set_option linter.all false
set_option maxRecDepth 100000
set_option maxHeartbeats 4000000
namespace TK
open PySem L2
/-! ### is_name -/
def letters : Str := "abcdefghijklmnopqrstuvwxyz"
def inL (c : Nat) : Bool := !(Builtin.Str.occurrences letters ⟨#[c]⟩ 0 letters.length 1).isEmpty
def nameB (x : Str) : Bool := decide (1 ≤ x.length) && decide (x.length ≤ 5) && x.cps.toList.all inL
def nameV : V → Bool
  | .str x => nameB x
  | _ => false
/-- texts that are handed in are short -/
def ShortV : V → Prop
  | .str x => x.length ≤ 100
  | _ => True
section
variable {P : Program} {w : World} {K : PySem.W.Frag} {mg : Str → Option Value} {base : Heap}
def spName : Sp := fun vs H Q _ => ∃ v, vs = [v] ∧ Typ H v ∧ ShortV v ∧ ∀ H', Same H H' → Q (.bl (nameV v)) H'
theorem scName : FnScope ["thing"] ["thing"] (defScope sName) := ⟨rfl, rfl, rfl, by decide +kernel, rfl, by decide +kernel, by decide +kernel⟩
theorem ok_name {f : Addr} {fd : FuncData} (F : Fun K "is_name" "is_name" sName f fd) (T : Txt mg) : FnOk P w K mg base CX0 1 f fd ["thing"] spName := by
  obtain ⟨tl, hL⟩ := T.letters
  obtain ⟨tn, hN⟩ := T.longest
  refine F.ok scName (fun vs H Q E h => ?_) (fun cdv A outer s H vs Q E hr h => ?_)
  · obtain ⟨v, rfl, _⟩ := h
    rfl
  · obtain ⟨v, rfl, hv, hsh, k⟩ := h
    refine ⟨_, pss_cons (ps_if (PW.pt (pw_or (pt_not (pt_val (pe_callB call_isinst rfl T.isin PyProof.Rows.boot_isinstance (pa_cons (pv 0) (pa_cons (pe_bltn (v := .ty "str") rfl T.str PyProof.Rows.boot_str rfl) pa_nil))) (fun _ => rfl)))
        (pw_or1 (pt_not (pt_chain op_le op_le pe_int (pe_callB call_len_str rfl T.len PySem.boot_len (pa_cons (pv 0) pa_nil)) (pe_glob (v := .int 5) rfl hN ⟨_, rfl⟩))))))
      (pss_one (ps_ret pe_bl)) pss_nil)
      (pss_one (ps_ret (pe_callB (call_all rfl) rfl T.all PyProof.Rows.boot_all (pa_cons (pe_lc (N := ["sign"]) (k := 1) (js := []) rfl (lc_ok0 rfl (by decide +kernel) (by decide +kernel) (by decide +kernel)) rfl (fun i j x h => by simp at h)
        (pi_str (pv 0)) (fun s H fp => pg_name (i := 0) (show (["sign"] : List Str).Nodup by decide +kernel) rfl (Or.inl rfl) (Or.inr rfl)) (fun s H fp => pe_cmpR op_in_str (pv 0) (pe_glob (v := .str letters) rfl hL ⟨_, rfl⟩) (by with_unfolding_all rfl))) pa_nil)))), ?_⟩
    cases hv with
    | non => exact ⟨_, rfl, _, _, _, _, rfl, .non, (by kernel_rfl : _ = some false), _, rfl, iteT (iteT (k _ (Same.refl _)))⟩
    | bl b => exact ⟨_, rfl, _, _, _, _, rfl, .bl b, (by kernel_rfl : _ = some false), _, rfl, iteT (iteT (k _ (Same.refl _)))⟩
    | int i => exact ⟨_, rfl, _, _, _, _, rfl, .int i, (by kernel_rfl : _ = some false), _, rfl, iteT (iteT (k _ (Same.refl _)))⟩
    | lst e => exact ⟨_, rfl, _, _, _, _, rfl, .lst e, (by kernel_rfl : _ = some false), _, rfl, iteT (iteT (k _ (Same.refl _)))⟩
    | tup e => exact ⟨_, rfl, _, _, _, _, rfl, .tup e, (by kernel_rfl : _ = some false), _, rfl, iteT (iteT (k _ (Same.refl _)))⟩
    | str x =>
      refine ⟨_, rfl, _, _, _, _, rfl, .str x, (by kernel_rfl : _ = some true), _, rfl, iteF ?_⟩
      have hlen : x.length ≤ 100 := hsh
      refine ⟨_, rfl, x, rfl, Nat.le_of_lt (small1000 (by omega)), _, _, rfl, rfl, _, rfl, ?_⟩
      cases h1 : decide ((1 : Int) ≤ (x.length : Int)) with
      | false =>
        refine iteF ⟨_, rfl, iteT ?_⟩
        have e : nameV (.str x) = false := by
          have : ¬ 1 ≤ x.length := by simp only [decide_eq_false_iff_not] at h1; omega
          simp [nameV, nameB, this]
        rw [← e]
        exact k _ (Same.refl _)
      | true =>
        refine iteT ⟨_, _, rfl, rfl, _, rfl, ?_⟩
        cases h2 : decide ((x.length : Int) ≤ 5) with
        | false =>
          refine iteT ?_
          have e : nameV (.str x) = false := by
            have : ¬ x.length ≤ 5 := by simp only [decide_eq_false_iff_not] at h2; omega
            simp [nameV, nameB, this]
          rw [← e]
          exact k _ (Same.refl _)
        | true =>
          refine iteF ?_
          have e : nameV (.str x) = (x.cps.toList.map inL).all id := by
            have a1 : 1 ≤ x.length := by simp only [decide_eq_true_eq] at h1; omega
            have a2 : x.length ≤ 5 := by simp only [decide_eq_true_eq] at h2; omega
            simp [nameV, nameB, a1, a2, List.all_map]
          rw [e] at k
          have hsz : x.cps.size = x.length := rfl
          refine ⟨_, rfl, x, rfl, fun p hp => ?_⟩
          refine lc_by (k := 1) (js := []) (J := Its x) (p := p) x.cps.size (by omega) (fun i ys σ' H' => ys = ((x.cps.toList.take i).map inL).map V.bl ∧ σ'.length = 1 ∧ Same H H' ∧ H' p = some (.lst ys))
            ⟨rfl, rfl, same_upd hp, upd_same⟩ (fun i ys σ' H' h => ?_) (fun i ys σ' H' hi h => hi) (fun ys σ' H' h => ?_) (fun i ys σ' H' hi h v H2 hy => ?_) ?_ ?_
          · rw [h.1, List.length_map, List.length_map, List.length_take]; omega
          · obtain ⟨e1, _, s1, e2⟩ := h
            have e3 : ys = (x.cps.toList.map inL).map V.bl := by rw [e1, List.take_of_length_le (by simp)]
            subst e3
            exact ⟨Nat.le_refl _, _, _, rfl, SqL.of e2, k _ s1⟩
          · obtain ⟨e1, e0, s1, e2⟩ := h
            obtain ⟨rfl, c, hc, rfl⟩ := hy
            refine ⟨_, List.getElem?_set_self (by omega), _, _, rfl, rfl, e2, ?_, by simpa using e0, same_over hp s1, upd_same⟩
            have hc' : x.cps.toList[i]? = some c := by simpa using hc
            rw [e1, List.take_succ, hc']
            simp [inL]
          · intro _ _ _ _ _ m q
            exact m _ _ q
          · rintro _ _ _ _ m ⟨v, hv, i, j, a1, a2, q⟩
            exact ⟨v, hv, i, j, a1, a2, m _ _ q⟩
end
end TK

set_option Elab.async false
set_option linter.all false
set_option maxRecDepth 100000
set_option maxHeartbeats 4000000
namespace TK
open PySem L2
/-! ### is_stamp -/
def stampV : V → Bool
  | .non => true
  | .int i => decide (0 ≤ i) && decide (i ≤ 999)
  | _ => false
section
variable {P : Program} {w : World} {K : PySem.W.Frag} {mg : Str → Option Value} {base : Heap}
def spStamp : Sp := fun vs H Q _ => ∃ v, vs = [v] ∧ Typ H v ∧ Q (.bl (stampV v)) H
theorem scStamp : FnScope ["thing"] ["thing"] (defScope sStamp) := ⟨rfl, rfl, rfl, by decide +kernel, rfl, by decide +kernel, by decide +kernel⟩
theorem ok_stamp {f fW : Addr} {fd fdW : FuncData} (F : Fun K "is_stamp" "is_stamp" sStamp f fd) (T : Txt mg) (FW : Fun K "is_whole" "is_whole" sWhole fW fdW) (bW : Binds K fdW ["thing"] []) (mW : mg "is_whole" = some (.ref fW)) :
    FnOk P w K mg base CX0 2 f fd ["thing"] spStamp := by
  have GW : FnOk P w K mg base CX0 1 fW fdW ["thing"] spWhole := ok_whole FW T
  obtain ⟨tg, hG⟩ := T.greatest
  refine F.ok scStamp (fun vs H Q E h => ?_) (fun cdv A outer s H vs Q E hr h => ?_)
  · obtain ⟨v, rfl, _⟩ := h
    rfl
  · obtain ⟨v, rfl, hv, k⟩ := h
    refine ⟨_, pss_one (ps_ret (pe_or (pe_cmpR op_isN (pv 0) pe_non (nomark _)) (pe_one (pe_and (pe_call GW hr rfl mW FW.kp bW .nil pass0 (pa_cons (pv 0) pa_nil)) (pe_one (pe_chain op_le op_le pe_int (pv 0) (pe_glob (v := .int 999) rfl hG ⟨_, rfl⟩))))))), ?_⟩
    refine ⟨_, rfl, rfl, _, rfl, ?_⟩
    cases hv with
    | non => exact iteT k
    | bl b => exact iteF ⟨_, rfl, _, rfl, .bl b, _, rfl, iteF k⟩
    | str x => exact iteF ⟨_, rfl, _, rfl, .str x, _, rfl, iteF k⟩
    | lst e => exact iteF ⟨_, rfl, _, rfl, .lst e, _, rfl, iteF k⟩
    | tup e => exact iteF ⟨_, rfl, _, rfl, .tup e, _, rfl, iteF k⟩
    | int i =>
      refine iteF ⟨_, rfl, _, rfl, .int i, _, rfl, iteT ?_⟩
      refine ⟨_, rfl, _, _, rfl, rfl, _, rfl, ?_⟩
      have e : stampV (.int i) = (decide (0 ≤ i) && decide (i ≤ 999)) := rfl
      cases h1 : decide (0 ≤ i) with
      | false => rw [h1, Bool.false_and] at e; rw [e] at k; exact iteF k
      | true => rw [h1, Bool.true_and] at e; rw [e] at k; exact iteT ⟨_, _, rfl, rfl, k⟩
/-! ### is_node -/
def numOk : V → Bool
  | .int i => decide (1 ≤ i)
  | _ => false
def nodeV : List V → Bool
  | [n, p, nm, st] => numOk n && isI p && nameV nm && stampV st
  | _ => false
/-- what is_node tells of a value -/
inductive NB (H : Hp) : V → Bool → Prop where
  | no {v : V} (h : Typ H v) (hn : ∀ a xs, v = .ref a → H a ≠ some (.tup xs)) : NB H v false
  | tup {a : Addr} {xs : List V} (e : H a = some (.tup xs)) (ht : ∀ y ∈ xs, Typ H y ∧ ShortV y) : NB H (.ref a) (nodeV xs)
theorem NB.same {H H' : Hp} {v : V} {b : Bool} (h : NB H v b) (s : Same H H') : NB H' v b := by
  cases h with
  | no h hn =>
    refine .no (h.same s) fun a xs e1 e2 => ?_
    subst e1
    cases h with
    | lst e => rw [s _ _ e] at e2; cases e2
    | tup e => exact hn _ _ rfl e
  | tup e ht => exact .tup (s _ _ e) fun y hy => ⟨(ht y hy).1.same s, (ht y hy).2⟩
def spNode : Sp := fun vs H Q _ => ∃ v b, vs = [v] ∧ NB H v b ∧ ∀ H', Same H H' → Q (.bl b) H'
theorem scNode : FnScope ["thing"] ["thing"] (defScope sNode) := ⟨rfl, rfl, rfl, by decide +kernel, rfl, by decide +kernel, by decide +kernel⟩
theorem ok_node {f fW fN fS : Addr} {fd fdW fdN fdS : FuncData} (F : Fun K "is_node" "is_node" sNode f fd) (T : Txt mg) (FW : Fun K "is_whole" "is_whole" sWhole fW fdW) (bW : Binds K fdW ["thing"] []) (mW : mg "is_whole" = some (.ref fW))
    (FN : Fun K "is_name" "is_name" sName fN fdN) (bN : Binds K fdN ["thing"] []) (mN : mg "is_name" = some (.ref fN)) (FS : Fun K "is_stamp" "is_stamp" sStamp fS fdS) (bS : Binds K fdS ["thing"] []) (mS : mg "is_stamp" = some (.ref fS)) :
    FnOk P w K mg base CX0 3 f fd ["thing"] spNode := by
  have GW : FnOk P w K mg base CX0 1 fW fdW ["thing"] spWhole := ok_whole FW T
  have GN : FnOk P w K mg base CX0 1 fN fdN ["thing"] spName := ok_name FN T
  have GS : FnOk P w K mg base CX0 2 fS fdS ["thing"] spStamp := ok_stamp FS T FW bW mW
  refine F.ok scNode (fun vs H Q E h => ?_) (fun cdv A outer s H vs Q E hr h => ?_)
  · obtain ⟨v, b, rfl, _⟩ := h
    rfl
  · obtain ⟨v, b, rfl, hv, k⟩ := h
    have hr1 : Room 1 _ := hr.mono (by decide)
    refine ⟨_, pss_cons (ps_if (PW.pt (pw_or (pt_not (pt_val (pe_callB call_isinst rfl T.isin PyProof.Rows.boot_isinstance (pa_cons (pv 0) (pa_cons (pe_bltn (v := .ty "tuple") rfl T.tuple PyProof.Rows.boot_tuple rfl) pa_nil))) (fun _ => rfl)))
        (pw_or1 (pt_cmpR op_ne (pe_callB call_len_seq rfl T.len PySem.boot_len (pa_cons (pv 0) pa_nil)) pe_int (nomark _))))) (pss_one (ps_ret pe_bl)) pss_nil)
      (pss_cons (ps_if (PW.pt (pw_or (pt_not (pt_val (pe_call GW hr1 rfl mW FW.kp bW .nil pass0 (pa_cons (pe_ix ix_tup (pv 0) pe_int (fun _ _ => rfl)) pa_nil)) (fun _ => rfl))) (pw_or1 (pt_cmpR op_lt (pe_ix ix_tup (pv 0) pe_int (fun _ _ => rfl)) pe_int (nomark _))))) (pss_one (ps_ret pe_bl)) pss_nil)
      (pss_one (ps_ret (pe_and (pe_call GW hr1 rfl mW FW.kp bW .nil pass0 (pa_cons (pe_ix ix_tup (pv 0) pe_int (fun _ _ => rfl)) pa_nil)) (pe_and (pe_call GN hr1 rfl mN FN.kp bN .nil pass0 (pa_cons (pe_ix ix_tup (pv 0) pe_int (fun _ _ => rfl)) pa_nil))
        (pe_one (pe_call GS hr rfl mS FS.kp bS .nil pass0 (pa_cons (pe_ix ix_tup (pv 0) pe_int (fun _ _ => rfl)) pa_nil)))))))), ?_⟩
    cases hv with
    | no ht hn =>
      cases ht with
      | non => exact ⟨_, rfl, _, _, _, _, rfl, .non, (by kernel_rfl : _ = some false), _, rfl, iteT (iteT (k _ (Same.refl _)))⟩
      | bl b => exact ⟨_, rfl, _, _, _, _, rfl, .bl b, (by kernel_rfl : _ = some false), _, rfl, iteT (iteT (k _ (Same.refl _)))⟩
      | int i => exact ⟨_, rfl, _, _, _, _, rfl, .int i, (by kernel_rfl : _ = some false), _, rfl, iteT (iteT (k _ (Same.refl _)))⟩
      | str x => exact ⟨_, rfl, _, _, _, _, rfl, .str x, (by kernel_rfl : _ = some false), _, rfl, iteT (iteT (k _ (Same.refl _)))⟩
      | lst e => exact ⟨_, rfl, _, _, _, _, rfl, .lst e, (by kernel_rfl : _ = some false), _, rfl, iteT (iteT (k _ (Same.refl _)))⟩
      | tup e => exact absurd e (hn _ _ rfl)
    | @tup a xs e ht =>
      refine ⟨_, rfl, _, _, _, _, rfl, .tup e, (by kernel_rfl : _ = some true), _, rfl, iteF ?_⟩
      refine ⟨_, rfl, a, xs, rfl, .inr (SqT.of e), rfl, _, rfl, ?_⟩
      match xs, e, ht, k with
      | [n, p, nm, st], e, ht, k =>
        refine iteNS rfl ?_
        have at0 : atI [n, p, nm, st] 0 = some n := rfl
        have at1 : atI [n, p, nm, st] 1 = some p := rfl
        have at2 : atI [n, p, nm, st] 2 = some nm := rfl
        have at3 : atI [n, p, nm, st] 3 = some st := rfl
        refine ⟨_, rfl, a, _, _, _, rfl, rfl, SqT.of e, at0, _, rfl, (ht n (by simp)).1, _, rfl, ?_⟩
        cases hn : isI n with
        | false =>
          refine iteT (iteT ?_)
          have e0 : nodeV [n, p, nm, st] = false := by
            have : numOk n = false := by cases n <;> first | rfl | (simp [isI] at hn)
            simp [nodeV, this]
          rw [e0] at k
          exact k _ (Same.refl _)
        | true =>
          refine iteF ?_
          obtain ⟨i, rfl⟩ : ∃ i, n = .int i := by cases n <;> first | exact ⟨_, rfl⟩ | (simp [isI] at hn)
          refine ⟨_, rfl, a, _, _, _, rfl, rfl, SqT.of e, at0, _, _, rfl, rfl, _, rfl, ?_⟩
          cases h1 : decide (i < 1) with
          | true =>
            refine iteT ?_
            have e0 : nodeV [.int i, p, nm, st] = false := by
              have : ¬ 1 ≤ i := by simp only [decide_eq_true_eq] at h1; omega
              simp [nodeV, numOk, this]
            rw [e0] at k
            exact k _ (Same.refl _)
          | false =>
            refine iteF ?_
            have hi : 1 ≤ i := by simp only [decide_eq_false_iff_not] at h1; omega
            have e0 : nodeV [.int i, p, nm, st] = (isI p && nameV nm && stampV st) := by simp [nodeV, numOk, hi]
            rw [e0] at k
            refine ⟨_, rfl, a, _, _, _, rfl, rfl, SqT.of e, at1, _, rfl, (ht p (by simp)).1, _, rfl, ?_⟩
            cases hp : isI p with
            | false =>
              rw [hp, Bool.false_and, Bool.false_and] at k
              exact iteF (k _ (Same.refl _))
            | true =>
              rw [hp, Bool.true_and] at k
              refine iteT ⟨_, rfl, a, _, _, _, rfl, rfl, SqT.of e, at2, _, rfl, (ht nm (by simp)).1, (ht nm (by simp)).2, fun H1 s1 => ⟨_, rfl, ?_⟩⟩
              cases hm : nameV nm with
              | false =>
                rw [hm, Bool.false_and] at k
                exact iteF (k _ s1)
              | true =>
                rw [hm, Bool.true_and] at k
                exact iteT ⟨_, rfl, a, _, _, _, rfl, rfl, SqT.of (s1 _ _ e), at3, _, rfl, (ht st (by simp)).1.same s1, k _ s1⟩
      | [], e, ht, k => exact iteT (k _ (Same.refl _))
      | [_], e, ht, k => exact iteT (k _ (Same.refl _))
      | [_, _], e, ht, k => exact iteT (k _ (Same.refl _))
      | [_, _, _], e, ht, k => exact iteT (k _ (Same.refl _))
      | _ :: _ :: _ :: _ :: _ :: ys, e, ht, k =>
        have hne : (!decide (V.int ((ys.length + 1 + 1 + 1 + 1 + 1 : Nat) : Int) = V.int 4)) = true := by
          have : ¬ (V.int ((ys.length + 1 + 1 + 1 + 1 + 1 : Nat) : Int) = V.int 4) := fun z => by injection z with z; omega
          rw [decide_eq_false this]; rfl
        show if (!decide (V.int ((ys.length + 1 + 1 + 1 + 1 + 1 : Nat) : Int) = V.int 4)) = true then _ else _
        rw [if_pos hne]
        exact k _ (Same.refl _)
end
end TK

set_option Elab.async false
set_option linter.all false
set_option maxRecDepth 100000
set_option maxHeartbeats 4000000
namespace TK
open PySem L2
abbrev Nd := TW.Nd Str
def stV : Option Int → V
  | none => .non
  | some i => .int i
def vals (n : Nd) : List V := [.int n.num, .int n.par, .str n.nm, stV n.st]
/-- nodes at their places -/
abbrev ZN := List (Addr × Nd)
def refs (zs : ZN) : List V := (zs.map (·.1)).map V.ref
def nds (zs : ZN) : List Nd := zs.map (·.2)
def At (H : Hp) (zs : ZN) : Prop := ∀ z ∈ zs, H z.1 = some (.tup (vals z.2))
theorem At.same {H H' : Hp} {zs : ZN} (h : At H zs) (s : Same H H') : At H' zs := fun z hz => s _ _ (h z hz)
theorem refs_len (zs : ZN) : (refs zs).length = zs.length := by simp [refs]
theorem nds_len (zs : ZN) : (nds zs).length = zs.length := by simp [nds]
theorem refs_get {zs : ZN} {i : Nat} {x : V} (h : (refs zs)[i]? = some x) : ∃ z, zs[i]? = some z ∧ x = .ref z.1 := by
  unfold refs at h
  rw [List.getElem?_map, List.getElem?_map] at h
  cases e : zs[i]? with
  | none => rw [e] at h; cases h
  | some z => rw [e] at h; exact ⟨z, rfl, (Option.some.inj h).symm⟩
theorem get_refs {zs : ZN} {i : Nat} {z : Addr × Nd} (h : zs[i]? = some z) : (refs zs)[i]? = some (.ref z.1) := by
  unfold refs
  rw [List.getElem?_map, List.getElem?_map, h]; rfl
theorem at0 (n : Nd) : atI (vals n) 0 = some (.int n.num) := rfl
theorem at1 (n : Nd) : atI (vals n) 1 = some (.int n.par) := rfl
theorem at2 (n : Nd) : atI (vals n) 2 = some (.str n.nm) := rfl
theorem at3 (n : Nd) : atI (vals n) 3 = some (stV n.st) := rfl
section
variable {P : Program} {w : World} {K : PySem.W.Frag} {mg : Str → Option Value} {base : Heap}
/-! ### are_rising -/
def ltP (p : Nd × Nd) : Bool := decide (p.1.num < p.2.num)
def spRise : Sp := fun vs H Q _ => ∃ t zs, vs = [.ref t] ∧ H t = some (.tup (refs zs)) ∧ At H zs ∧ zs.length ≤ 100 ∧ ∀ H', Same H H' → Q (.bl (TW.adj (nds zs))) H'
theorem scRise : FnScope ["nodes"] ["nodes"] (defScope sRise) := ⟨rfl, rfl, rfl, by decide +kernel, rfl, by decide +kernel, by decide +kernel⟩
theorem two_of {σ : St} (h : σ.length = 2) : ∃ a b, σ = [a, b] := by
  match σ, h with
  | [a, b], _ => exact ⟨a, b, rfl⟩
theorem one_of {σ : St} (h : σ.length = 1) : ∃ a, σ = [a] := by
  match σ, h with
  | [a], _ => exact ⟨a, rfl⟩
theorem ok_rise {f : Addr} {fd : FuncData} (F : Fun K "are_rising" "are_rising" sRise f fd) (T : Txt mg) : FnOk P w K mg base CX0 1 f fd ["nodes"] spRise := by
  refine F.ok scRise (fun vs H Q E h => ?_) (fun cdv A outer s H vs Q E hr h => ?_)
  · obtain ⟨t, zs, rfl, _⟩ := h
    rfl
  · obtain ⟨t, zs, rfl, ht, hA, hl, k⟩ := h
    refine ⟨_, pss_one (ps_ret (pe_callB (call_all rfl) rfl T.all PyProof.Rows.boot_all (pa_cons (pe_lc (N := ["one", "other"]) (k := 2) (js := []) (g := gTup K 2 (gCons (gName 0) (gCons (gName 1) gNil))) rfl (lc_ok0 rfl (by decide +kernel) (by decide +kernel) (by decide +kernel)) rfl (fun i j x h => by simp at h)
      (pi_zip rfl T.zip (pa_cons (pv 0) (pa_cons (pe_slice (SlR.or sl_tup sl_tup_all) (pv 0) (po_some pe_int) po_none) pa_nil)))
      (fun s H fp => pg_tup (n := 2) rfl (pgs_cons (pg_name (i := 0) (show (["one", "other"] : List Str).Nodup by decide +kernel) rfl (Or.inl rfl) (Or.inr rfl)) (pgs_cons (pg_name (i := 1) (show (["one", "other"] : List Str).Nodup by decide +kernel) rfl (Or.inl rfl) (Or.inr rfl)) pgs_nil)))
      (fun s H fp => pe_cmpR op_lt (pe_ix (r := rIxT K) ix_tup (pv 0) pe_int (fun _ _ => rfl)) (pe_ix (r := rIxT K) ix_tup (pv 1) pe_int (fun _ _ => rfl)) (nomark _))) pa_nil))), ?_⟩
    -- behind the slice
    have main : ∀ (t2 : Addr) (H1 : Hp), Same H H1 → H1 t2 = some (.tup (refs (zs.drop 1))) → ∀ p, H1 p = none → ∀ Q' : VK, (∀ (q : Addr) (bs : List Bool) (H' : Hp), Same H H' → H' q = some (.lst (bs.map V.bl)) → bs.all id = TW.adj (nds zs) → Q' (.ref q) H') →
        LcW 2 [] (gTup K 2 (gCons (gName 0) (gCons (gName 1) gNil))) (tOp (rI0 fun i j => .bl (decide (i < j))) (tOp (rIxT K) (tVar 0) (tC (.int 0))) (tOp (rIxT K) (tVar 1) (tC (.int 0)))) (start ["nodes"] [.ref t]) Q' (Itz K t t2) H1 p := by
      intro t2 H1 s1 ht2 p hp Q' k'
      have hp0 : H p = none := s1.free hp
      have h1t : H1 t = some (.tup (refs zs)) := s1 _ _ ht
      have hzl : ((nds zs).zip ((nds zs).drop 1)).length = zs.length - 1 := by rw [List.length_zip, List.length_drop, nds_len]; omega
      refine lc_by (k := 2) (js := []) (J := Itz K t t2) (p := p) (zs.length - 1) (by omega) (fun i ys σ' H' => ys = ((((nds zs).zip ((nds zs).drop 1)).take i).map ltP).map V.bl ∧ σ'.length = 2 ∧ Same H1 H' ∧ H' p = some (.lst ys))
        ⟨rfl, rfl, same_upd hp, upd_same⟩ (fun i ys σ' H' h => ?_) (fun i ys σ' H' hi h => ?_) (fun ys σ' H' h => ?_) (fun i ys σ' H' hi h v H2 hy => ?_) ?_ ?_
      · rw [h.1, List.length_map, List.length_map, List.length_take]; omega
      · obtain ⟨_, _, s2, _⟩ := h
        refine ⟨_, _, _, _, SqT.of (s2 _ _ h1t), SqT.of (s2 _ _ ht2), get_refs (List.getElem?_eq_getElem (by omega)), get_refs (z := zs[i + 1]) ?_⟩
        rw [List.getElem?_drop, show 1 + i = i + 1 by omega, List.getElem?_eq_getElem (by omega)]
      · obtain ⟨e1, _, s2, e2⟩ := h
        refine ⟨⟨_, _, SqT.of (s2 _ _ h1t), SqT.of (s2 _ _ ht2), .inr (by rw [refs_len, List.length_drop]; exact Nat.le_refl _)⟩, ?_⟩
        rw [e1] at e2
        refine k' p _ H' (s1.trans s2) e2 ?_
        rw [List.take_of_length_le (by omega), List.all_map, TW.adj_zip]
        rfl
      · obtain ⟨e1, e0, s2, e2⟩ := h
        obtain ⟨o1, o2, rfl⟩ := two_of e0
        obtain ⟨q, x, y, hq, rfl, hx, hy', rfl⟩ := hy
        have gx := hx _ (SqT.of (s2 _ _ h1t))
        have gy := hy' _ (SqT.of (s2 _ _ ht2))
        obtain ⟨z1, g1, rfl⟩ := refs_get gx
        obtain ⟨z2, g2, rfl⟩ := refs_get gy
        rw [List.getElem?_drop, show 1 + i = i + 1 by omega] at g2
        have m1 := List.mem_of_getElem? g1
        have m2 := List.mem_of_getElem? g2
        have s3 : Same H (upd H' q (.tup [.ref z1.1, .ref z2.1])) := (s1.trans s2).trans (same_upd hq)
        refine ⟨q, _, rfl, SqT.of upd_same, rfl, _, _, rfl, _, _, rfl, rfl, ?_⟩
        refine ⟨_, rfl, z1.1, _, _, _, rfl, rfl, SqT.of (s3 _ _ (hA z1 m1)), at0 z1.2, _, rfl, z2.1, _, _, _, rfl, rfl, SqT.of (s3 _ _ (hA z2 m2)), at0 z2.2, _, _, rfl, rfl, upd_keep hq e2, ?_, rfl, same_over hp (s2.trans (same_upd hq)), upd_same⟩
        have ge : ((nds zs).zip ((nds zs).drop 1))[i]? = some (z1.2, z2.2) := by
          rw [List.getElem?_zip_eq_some]
          refine ⟨by unfold nds; rw [List.getElem?_map, g1]; rfl, by unfold nds; rw [List.getElem?_drop, List.getElem?_map, show 1 + i = i + 1 by omega, g2]; rfl⟩
        rw [e1, List.take_succ, ge]
        simp [ltP]
      · rintro _ _ _ _ _ m ⟨a, xs, h1, h2, h3, v1, r1, h4, v2, r2, h5, h6, q⟩
        exact ⟨a, xs, h1, h2, h3, v1, r1, h4, v2, r2, h5, h6, m _ _ q⟩
      · rintro _ _ _ _ m ⟨v1, a1, p1, x1, i1, w1, b1, b2, b3, b4, v2, a2, p2, x2, i2, w2, c1, c2, c3, c4, i, j, d1, d2, q⟩
        exact ⟨v1, a1, p1, x1, i1, w1, b1, b2, b3, b4, v2, a2, p2, x2, i2, w2, c1, c2, c3, c4, i, j, d1, d2, m _ _ q⟩
    have fin : ∀ (q : Addr) (bs : List Bool) (H' : Hp), Same H H' → H' q = some (.lst (bs.map V.bl)) → bs.all id = TW.adj (nds zs) → ∃ a, ∃ bs' : List Bool, [V.ref q] = [V.ref a] ∧ SqL K H' a (bs'.map V.bl) ∧ Q (.bl (bs'.all id)) H' := fun q bs H' s' e eb =>
      ⟨q, bs, rfl, SqL.of e, by rw [eb]; exact k _ s'⟩
    refine ⟨_, rfl, _, rfl, _, rfl, ?_⟩
    by_cases hz : zs = []
    · subst hz
      refine .inr ⟨t, _, rfl, SqT.of ht, rfl, rfl, t, t, _, _, rfl, ht, ht, fun p hp => ?_⟩
      exact main t H (Same.refl H) ht p hp _ fin
    · have hlen : 1 ≤ zs.length := by
        cases zs with
        | nil => exact absurd rfl hz
        | cons _ _ => simp
      refine .inl ⟨t, _, rfl, SqT.of ht, ?_, fun p1 hp1 => ?_⟩
      · rw [refs_len]
        intro h
        have : HT.sIx zs.length 0 (some ((1 : Nat) : Int)) = min 1 zs.length := HT.sIx_nat _ _ _
        have h1 : HT.sIx zs.length 0 (some ((1 : Nat) : Int)) = 0 := h.1
        omega
      · have ecut : cutV (refs zs) (some 1) none = refs (zs.drop 1) := by
          unfold cutV
          rw [HT.sIx_none, refs_len, show HT.sIx zs.length 0 (some (1 : Int)) = min 1 zs.length from HT.sIx_nat _ _ 1, show min 1 zs.length = 1 by omega]
          unfold refs
          rw [← List.map_drop, ← List.map_drop, List.take_of_length_le (by simp)]
        rw [ecut]
        refine ⟨t, p1, _, _, rfl, upd_keep hp1 ht, upd_same, fun p hp => ?_⟩
        exact main p1 _ (same_upd hp1) upd_same p hp _ fin
end
end TK

set_option Elab.async false
set_option linter.all false
set_option maxRecDepth 100000
set_option maxHeartbeats 4000000
namespace TK
open PySem L2
section
variable {P : Program} {w : World} {K : PySem.W.Frag} {mg : Str → Option Value} {base : Heap}
/-! ### have_own_places -/
theorem le_line {n : Nat} (h : n ≤ 1000) : n ≤ sizeLine := Nat.le_of_lt (small1000 h)
theorem le2 : 2 ≤ sizeLine := le_line (by decide)
theorem hu4_of {A : Around} {k : Nat} (hr : Room k A) : A.units + 4 < cLine := Nat.lt_of_le_of_lt (Nat.add_le_add_left (by decide : 4 ≤ 64) _) hr.units
def plK (n : Nd) : List Key := [.inl n.par, .inr n.nm]
theorem plK_nodup (zs : List Nd) : (zs.map plK).Nodup ↔ TW.Places zs := by
  unfold TW.Places List.Nodup
  rw [List.pairwise_map, List.pairwise_map]
  have e : ∀ a b : Nd, (plK a ≠ plK b) = ((a.par, a.nm) ≠ (b.par, b.nm)) := fun a b => by
    simp [plK]
  simp only [e]
def spOwn : Sp := fun vs H Q _ => ∃ t zs, vs = [.ref t] ∧ H t = some (.tup (refs zs)) ∧ At H zs ∧ zs.length ≤ 18 ∧ ∀ b H', (b = true ↔ TW.Places (nds zs)) → Same H H' → Q (.bl b) H'
theorem scOwn : FnScope ["nodes"] ["nodes"] (defScope sOwn) := ⟨rfl, rfl, rfl, by decide +kernel, rfl, by decide +kernel, by decide +kernel⟩
theorem ok_own {f : Addr} {fd : FuncData} (F : Fun K "have_own_places" "have_own_places" sOwn f fd) (T : Txt mg) : FnOk P w K mg base CX0 1 f fd ["nodes"] spOwn := by
  refine F.ok scOwn (fun vs H Q E h => ?_) (fun cdv A outer s H vs Q E hr h => ?_)
  · obtain ⟨t, zs, rfl, _⟩ := h
    rfl
  · obtain ⟨t, zs, rfl, ht, hA, hl, k⟩ := h
    refine ⟨_, pss_one (ps_ret (pe_cmpR op_eq (pe_callB call_lenSet rfl T.len PySem.boot_len (pa_cons (pe_callTy (call_set_tups rfl (hu4_of hr)) rfl T.set rfl (pa_cons (pe_lc (N := ["node"]) (k := 1) (js := []) (g := gName 0) rfl (lc_ok0 rfl (by decide +kernel) (by decide +kernel) (by decide +kernel)) rfl (fun i j x h => by simp at h)
      (pi_tup (pv 0))
      (fun s H fp => pg_name (i := 0) (show (["node"] : List Str).Nodup by decide +kernel) rfl (Or.inl rfl) (Or.inr rfl))
      (fun s H fp => pe_tup (pa_cons (pe_ix (r := rIxT K) ix_tup (pv 0) pe_int (fun _ _ => rfl)) (pa_cons (pe_ix (r := rIxT K) ix_tup (pv 0) pe_int (fun _ _ => rfl)) pa_nil)))) pa_nil)) pa_nil))
      (pe_callB call_len_seq rfl T.len PySem.boot_len (pa_cons (pv 0) pa_nil)) (nomark _))), ?_⟩
    refine ⟨_, rfl, t, rfl, ⟨_, SqT.of ht⟩, fun p hp => ?_⟩
    refine lc_by (k := 1) (js := []) (J := Itt K t) (p := p) zs.length (by omega) (fun i ys σ' H' => ∃ kss : List (Addr × List Key), ys = (kss.map (·.1)).map V.ref ∧ kss.map (·.2) = ((nds zs).take i).map plK ∧ kss.length = i ∧ (∀ z ∈ kss, H' z.1 = some (.tup (z.2.map kV))) ∧ σ'.length = 1 ∧ Same H H' ∧ H' p = some (.lst ys))
        ⟨[], rfl, rfl, rfl, by simp, rfl, same_upd hp, upd_same⟩ (fun i ys σ' H' h => ?_) (fun i ys σ' H' hi h => ?_) (fun ys σ' H' h => ?_) (fun i ys σ' H' hi h v H2 hy => ?_) ?_ ?_
    · obtain ⟨kss, rfl, _, e, _⟩ := h
      rw [List.length_map, List.length_map]; omega
    · obtain ⟨_, _, _, _, _, _, s2, _⟩ := h
      exact ⟨_, _, SqT.of (s2 _ _ ht), get_refs (List.getElem?_eq_getElem hi)⟩
    · obtain ⟨kss, e1, e2, e3, e4, _, s2, e5⟩ := h
      refine ⟨⟨_, SqT.of (s2 _ _ ht), by rw [refs_len]; exact Nat.le_refl _⟩, ?_⟩
      subst e1
      refine ⟨p, kss, rfl, SqL.of e5, e4, by omega, fun n hn hiff q hq => ?_⟩
      refine ⟨q, n, rfl, upd_same, by omega, ?_⟩
      have s3 : Same H (upd H' q (.ext (LenSet q n))) := s2.trans (same_upd hq)
      refine ⟨_, rfl, t, _, rfl, .inr (SqT.of (s3 _ _ ht)), rfl, ?_⟩
      refine k _ _ ?_ s3
      rw [List.take_of_length_le (by rw [nds_len]; exact Nat.le_refl _)] at e2
      rw [e2, plK_nodup, e3] at hiff
      rw [← hiff, decide_eq_true_eq, refs_len]
      constructor
      · intro z; injection z with z; omega
      · intro z; rw [z]
    · obtain ⟨kss, e1, e2, e3, e4, e0, s2, e5⟩ := h
      obtain ⟨o1, rfl⟩ := one_of e0
      obtain ⟨rfl, hx⟩ := hy
      have gx := hx _ (SqT.of (s2 _ _ ht))
      obtain ⟨z1, g1, rfl⟩ := refs_get gx
      have m1 := List.mem_of_getElem? g1
      refine ⟨_, rfl, z1.1, _, _, _, rfl, rfl, SqT.of (s2 _ _ (hA z1 m1)), at1 z1.2, _, rfl, z1.1, _, _, _, rfl, rfl, SqT.of (s2 _ _ (hA z1 m1)), at2 z1.2, le2, fun q hq => ?_⟩
      refine ⟨upd_keep hq e5, kss ++ [(q, plK z1.2)], by rw [e1]; simp, ?_, by simp [e3], ?_, rfl, same_over hp (s2.trans (same_upd hq)), upd_same⟩
      · rw [List.map_append, e2, List.take_succ, show (nds zs)[i]? = some z1.2 by unfold nds; rw [List.getElem?_map, g1]; rfl]
        simp
      · intro z hz
        have hqp : q ≠ p := fun z => by rw [z, e5] at hq; cases hq
        rcases List.mem_append.mp hz with hz | hz
        · have := upd_keep (o := .tup [.int z1.2.par, .str z1.2.nm]) hq (e4 z hz)
          rw [upd_ne]
          · exact this
          · intro e
            rw [e, upd_ne (Ne.symm hqp), e5] at this
            cases this
        · have e : z = (q, plK z1.2) := by simpa using hz
          subst e
          rw [upd_ne hqp]
          exact upd_same
    · rintro _ _ _ _ _ m h
      exact m _ _ h
    · rintro _ _ _ _ m ⟨v1, b0, a1, x1, i1, w1, b1, b2, b3, b4, v2, c0, a2, x2, i2, w2, c1, c2, c3, c4, l, q⟩
      exact ⟨v1, b0, a1, x1, i1, w1, b1, b2, b3, b4, v2, c0, a2, x2, i2, w2, c1, c2, c3, c4, l, fun p hp => m _ _ (q p hp)⟩
end
end TK

set_option Elab.async false
set_option linter.all false
set_option maxRecDepth 100000
set_option maxHeartbeats 4000000
namespace TK
open PySem L2
/-! ### what members holds -/
def ins (zs : ZN) (k : Int) : ZN := zs.filter fun z => decide (z.2.par = k)
theorem ins_nds (zs : ZN) (k : Int) : nds (ins zs k) = TW.inside (nds zs) k := by
  unfold nds ins TW.inside
  rw [List.filter_map]
  rfl
theorem ins_snoc (zs : ZN) (z : Addr × Nd) (k : Int) : ins (zs ++ [z]) k = if z.2.par = k then ins zs k ++ [z] else ins zs k := by
  unfold ins
  rw [List.filter_append]
  by_cases h : z.2.par = k
  · rw [if_pos h, List.filter_cons_of_pos (by simp [h])]; rfl
  · rw [if_neg h, List.filter_cons_of_neg (by simp [h])]; simp
theorem ins_sub {zs : ZN} {k : Int} {z : Addr × Nd} (h : z ∈ ins zs k) : z ∈ zs := (List.mem_filter.mp h).1
theorem refs_snoc (zs : ZN) (z : Addr × Nd) : refs (zs ++ [z]) = refs zs ++ [.ref z.1] := by simp [refs]
theorem refs_nil {zs : ZN} (h : refs zs = []) : zs = [] := by
  cases zs with
  | nil => rfl
  | cons a r => simp [refs] at h
structure Mem (H0 H : Hp) (d : Addr) (L : Int → Addr) (kvs : List (Key × V)) (xs : ZN) (dn : List Int) : Prop where
  dict : H d = some (.dK kvs)
  d0 : H0 d = none
  len : kvs.length ≤ xs.length
  val : ∀ k : Int, valV kvs (Sum.inl k : Key) = if k ∈ dn ∨ ins xs k = [] then none else some (.ref (L k))
  at' : ∀ k, k ∉ dn → ins xs k ≠ [] → H (L k) = some (.lst (refs (ins xs k))) ∧ H0 (L k) = none
  inj : ∀ k k', k ∉ dn → k' ∉ dn → ins xs k ≠ [] → ins xs k' ≠ [] → L k = L k' → k = k'
  same : Same H0 H
theorem Mem.grow {H0 H H' : Hp} {d : Addr} {L : Int → Addr} {kvs : List (Key × V)} {xs : ZN} {dn : List Int} (m : Mem H0 H d L kvs xs dn) (s : Same H H') : Mem H0 H' d L kvs xs dn :=
  ⟨s _ _ m.dict, m.d0, m.len, m.val, fun k h1 h2 => ⟨s _ _ (m.at' k h1 h2).1, (m.at' k h1 h2).2⟩, m.inj, m.same.trans s⟩
/-- a change at a list that is none of the dict's -/
theorem Mem.other {H0 H : Hp} {d p : Addr} {L : Int → Addr} {kvs : List (Key × V)} {xs : ZN} {dn : List Int} {is : List Int} {o : HO} (m : Mem H0 H d L kvs xs dn) (hp : H p = some (.lst (is.map V.int))) (h0 : H0 p = none) : Mem H0 (upd H p o) d L kvs xs dn := by
  refine ⟨?_, m.d0, m.len, m.val, fun k h1 h2 => ⟨?_, (m.at' k h1 h2).2⟩, m.inj, same_over h0 m.same⟩
  · rw [upd_ne]
    · exact m.dict
    · intro e; have := m.dict; rw [e, hp] at this; cases this
  · have e1 := (m.at' k h1 h2).1
    rw [upd_ne]
    · exact e1
    · intro e
      rw [e, hp] at e1
      injection e1 with e1
      injection e1 with e1
      have hne := h2
      cases hk : ins xs k with
      | nil => exact h2 hk
      | cons a r =>
        rw [hk] at e1
        cases is with
        | nil => simp [refs] at e1
        | cons i r' => simp [refs] at e1
theorem Mem.start {H0 : Hp} {d : Addr} (h : H0 d = none) : Mem H0 (upd H0 d (.dK [])) d (fun _ => d) [] [] [] :=
  ⟨upd_same, h, by simp, fun k => by rw [if_pos (.inr rfl)]; rfl, fun k _ h => absurd rfl h, fun k k' _ _ h => absurd rfl h, same_upd h⟩
theorem Mem.hit {H0 H : Hp} {d : Addr} {L : Int → Addr} {kvs : List (Key × V)} {xs : ZN} {z : Addr × Nd} (m : Mem H0 H d L kvs xs []) (hp : ins xs z.2.par ≠ []) :
    Mem H0 (upd H (L z.2.par) (.lst (refs (ins xs z.2.par) ++ [.ref z.1]))) d L kvs (xs ++ [z]) [] := by
  have e1 := (m.at' z.2.par (by simp) hp)
  have hd : d ≠ L z.2.par := fun e => by
    have := m.dict
    rw [e, e1.1] at this
    cases this
  have ne : ∀ k, ins (xs ++ [z]) k = [] ↔ ins xs k = [] := fun k => by
    rw [ins_snoc]
    by_cases h : z.2.par = k
    · rw [if_pos h]
      subst h
      simp [hp]
    · rw [if_neg h]
  refine ⟨by rw [upd_ne hd]; exact m.dict, m.d0, by have := m.len; simp; omega, fun k => ?_, fun k h1 h2 => ?_, fun k k' _ _ h2 h3 e => m.inj k k' (by simp) (by simp) (fun h => h2 ((ne k).mpr h)) (fun h => h3 ((ne k').mpr h)) e, same_over e1.2 m.same⟩
  · rw [m.val k]
    simp only [ne k]
  · have h2' : ins xs k ≠ [] := fun h => h2 ((ne k).mpr h)
    refine ⟨?_, (m.at' k h1 h2').2⟩
    by_cases h : z.2.par = k
    · subst h
      rw [upd_same, ins_snoc, if_pos rfl, refs_snoc]
    · rw [upd_ne, ins_snoc, if_neg h]
      · exact (m.at' k h1 h2').1
      · intro e
        exact h (m.inj _ _ (by simp) (by simp) hp h2' e.symm)
theorem Mem.fresh {H0 H : Hp} {d q : Addr} {L : Int → Addr} {kvs : List (Key × V)} {xs : ZN} {z : Addr × Nd} (m : Mem H0 H d L kvs xs []) (hp : ins xs z.2.par = []) (hq : H q = none) :
    Mem H0 (upd (upd (upd H q (.lst [])) d (.dK (putK kvs (Sum.inl z.2.par : Key) (.ref q)))) q (.lst ([] ++ [.ref z.1]))) d (fun k => if k = z.2.par then q else L k) (putK kvs (Sum.inl z.2.par : Key) (.ref q)) (xs ++ [z]) [] := by
  have hdq : d ≠ q := fun e => by
    have := m.dict
    rw [e, hq] at this
    cases this
  have lq : ∀ k, ins xs k ≠ [] → L k ≠ q := fun k h e => by
    have := (m.at' k (by simp) h).1
    rw [e, hq] at this
    cases this
  have ld : ∀ k, ins xs k ≠ [] → L k ≠ d := fun k h e => by
    have := (m.at' k (by simp) h).1
    rw [e, m.dict] at this
    cases this
  have q0 : H0 q = none := m.same.free hq
  have e2 : ∀ k, k ≠ z.2.par → ins (xs ++ [z]) k = ins xs k := fun k h => by rw [ins_snoc, if_neg (fun e => h e.symm)]
  have e3 : ins (xs ++ [z]) z.2.par = [z] := by rw [ins_snoc, if_pos rfl, hp]; rfl
  refine ⟨by rw [upd_ne hdq, upd_same], m.d0, ?_, fun k => ?_, fun k h1 h2 => ?_, fun k k' _ _ h2 h3 e => ?_, ?_⟩
  · have h1 := m.len
    have h2 := length_putK kvs (Sum.inl z.2.par : Key) (.ref q)
    rw [List.length_append, List.length_singleton]
    omega
  · rw [valV_put]
    by_cases h : k = z.2.par
    · subst h
      rw [if_pos rfl, if_neg (by rw [e3]; simp), if_pos rfl]
    · rw [if_neg (fun e => h (Sum.inl.inj e)), m.val k, e2 k h, if_neg h]
  · by_cases h : k = z.2.par
    · subst h
      simp only [if_true]
      exact ⟨by rw [upd_same, e3]; rfl, q0⟩
    · rw [e2 k h] at h2
      simp only [if_neg h]
      refine ⟨?_, (m.at' k h1 h2).2⟩
      rw [upd_ne (lq k h2), upd_ne (ld k h2), upd_ne (lq k h2), e2 k h]
      exact (m.at' k h1 h2).1
  · by_cases h : k = z.2.par
    · by_cases h' : k' = z.2.par
      · rw [h, h']
      · rw [e2 k' h'] at h3
        simp only [if_pos h, if_neg h'] at e
        exact absurd e.symm (lq k' h3)
    · rw [e2 k h] at h2
      by_cases h' : k' = z.2.par
      · simp only [if_neg h, if_pos h'] at e
        exact absurd e (lq k h2)
      · rw [e2 k' h'] at h3
        simp only [if_neg h, if_neg h'] at e
        exact m.inj k k' (by simp) (by simp) h2 h3 e
  · exact same_over q0 (same_over m.d0 (m.same.trans (same_upd hq)))
theorem valV_drop {κ : Type} [DecidableEq κ] (kvs : List (κ × V)) (k j : κ) : valV (dropK kvs k) j = if j = k then none else valV kvs j := by
  induction kvs with
  | nil => simp [dropK, valV]
  | cons p r ih =>
    by_cases e : p.1 = k
    · rw [dropK_pos e, ih]
      by_cases h : j = k
      · rw [if_pos h, if_pos h]
      · rw [if_neg h, if_neg h, valV_neg (fun z => h (z.symm.trans e))]
    · rw [dropK_neg e]
      by_cases h : p.1 = j
      · rw [valV_pos h, if_neg (fun z => e (h.trans z)), valV_pos h]
      · rw [valV_neg h, ih, valV_neg h]
theorem Mem.drop {H0 H : Hp} {d : Addr} {L : Int → Addr} {kvs : List (Key × V)} {xs : ZN} {dn : List Int} (m : Mem H0 H d L kvs xs dn) (x : Int) : Mem H0 (upd H d (.dK (dropK kvs (Sum.inl x : Key)))) d L (dropK kvs (Sum.inl x : Key)) xs (x :: dn) := by
  have ld : ∀ k, k ∉ dn → ins xs k ≠ [] → L k ≠ d := fun k h0 h e => by
    have := (m.at' k h0 h).1
    rw [e, m.dict] at this
    cases this
  have no : ∀ k, k ∉ x :: dn → k ∉ dn := fun k h h' => h (List.mem_cons_of_mem _ h')
  refine ⟨upd_same, m.d0, Nat.le_trans (dropK_le _ _) m.len, fun k => ?_, fun k h1 h2 => ?_, fun k k' h0 h1 h2 h3 e => m.inj k k' (no k h0) (no k' h1) h2 h3 e, same_over m.d0 m.same⟩
  · rw [valV_drop, m.val k]
    by_cases h : k = x
    · rw [if_pos (by rw [h]), if_pos (.inl (by rw [h]; simp))]
    · rw [if_neg (fun e => h (Sum.inl.inj e))]
      simp [h]
  · rw [upd_ne (ld k (no k h1) h2)]
    exact m.at' k (no k h1) h2
theorem Mem.skip {H0 H : Hp} {d : Addr} {L : Int → Addr} {kvs : List (Key × V)} {xs : ZN} {dn : List Int} (m : Mem H0 H d L kvs xs dn) {x : Int} (hx : x ∈ dn ∨ ins xs x = []) : Mem H0 H d L kvs xs (x :: dn) := by
  have no : ∀ k, k ∉ x :: dn → k ∉ dn := fun k h h' => h (List.mem_cons_of_mem _ h')
  refine ⟨m.dict, m.d0, m.len, fun k => ?_, fun k h1 h2 => m.at' k (no k h1) h2, fun k k' h0 h1 h2 h3 e => m.inj k k' (no k h0) (no k' h1) h2 h3 e, m.same⟩
  rw [m.val k]
  by_cases h : k = x
  · subst h
    rw [if_pos hx, if_pos (.inl (by simp))]
  · simp [h]
theorem pop_here {Q : VK} {H0 H : Hp} {d q : Addr} {L : Int → Addr} {kvs : List (Key × V)} {zs : ZN} {dn : List Int} {x : Int} (m : Mem H0 H d L kvs zs dn) (hq : H q = some (.lst []))
    (k : ∀ hl Hc kvs' hs, Mem H0 Hc d L kvs' zs (x :: dn) → Hc hl = some (.lst (refs hs)) → nds hs = TW.here (nds zs) dn x → (∀ z ∈ hs, z ∈ zs) → (∀ p, p ≠ d → Hc p = H p) → (hs = [] → hl = q) → Q (.ref hl) Hc) :
    ∃ kvs k, H d = some (.dK kvs) ∧ V.int x = kV k ∧ (∀ v, valV kvs k = some v → Q v (upd H d (.dK (dropK kvs k)))) ∧ (valV kvs k = none → Q (.ref q) H) := by
  refine ⟨kvs, .inl x, m.dict, rfl, fun v hv => ?_, fun hn => ?_⟩
  · rw [m.val x] at hv
    by_cases h : x ∈ dn ∨ ins zs x = []
    · rw [if_pos h] at hv; cases hv
    · rw [if_neg h] at hv
      have h1 : x ∉ dn := fun z => h (.inl z)
      have h2 : ins zs x ≠ [] := fun z => h (.inr z)
      cases hv
      have a := (m.at' x h1 h2).1
      have ld : L x ≠ d := fun e => by rw [e, m.dict] at a; cases a
      refine k (L x) _ _ (ins zs x) (m.drop x) (by rw [upd_ne ld]; exact a) ?_ (fun z hz => ins_sub hz) (fun p hp => upd_ne hp) (fun e => absurd e h2)
      rw [ins_nds]; unfold TW.here; rw [if_neg h1]
  · rw [m.val x] at hn
    by_cases h : x ∈ dn ∨ ins zs x = []
    · refine k q _ _ [] (m.skip h) hq ?_ (by simp) (fun p _ => rfl) (fun _ => rfl)
      unfold TW.here
      by_cases h1 : x ∈ dn
      · rw [if_pos h1]; rfl
      · rw [if_neg h1]
        rcases h with h | h
        · exact absurd h h1
        · rw [← ins_nds, h]
    · rw [if_neg h] at hn; cases hn
theorem ne_ints {H : Hp} {p hl : Addr} {hs : ZN} {is : List Int} (hp : H p = some (.lst (is.map V.int))) (h : H hl = some (.lst (refs hs))) (hne : hs ≠ []) : hl ≠ p := by
  intro e
  rw [e, hp] at h
  injection h with h
  injection h with h
  cases hs with
  | nil => exact hne rfl
  | cons a r =>
    cases is with
    | nil => simp [refs] at h
    | cons i r' => simp [refs] at h
end TK

set_option Elab.async false
set_option linter.all false
set_option maxRecDepth 100000
set_option maxHeartbeats 4000000
namespace TK
open PySem L2
def lenAt (H : Hp) (p : Addr) : Nat := match H p with
  | some (.lst xs) => xs.length
  | _ => 0
theorem lenAt_of {H : Hp} {p : Addr} {xs : List V} (h : H p = some (.lst xs)) : lenAt H p = xs.length := by unfold lenAt; rw [h]
section
variable {P : Program} {w : World} {K : PySem.W.Frag} {mg : Str → Option Value} {base : Heap}
/-! ### numbers_inside -/
def numsV (l : List Nd) : List V := (l.map (·.num)).map V.int
def spIns : Sp := fun vs H Q _ => ∃ t f zs, vs = [.ref t, .int f] ∧ H t = some (.tup (refs zs)) ∧ At H zs ∧ zs.length ≤ 100 ∧ ∀ fd dn l H', TW.Walk (nds zs) f dn fd [] → H' l = some (.lst (numsV fd)) → Same H H' → Q (.ref l) H'
theorem scIns : FnScope ["nodes", "folder", "members", "node", "found", "pending", "here"] ["nodes", "folder"] (defScope sIns) := ⟨rfl, rfl, rfl, by decide +kernel, rfl, by decide +kernel, by decide +kernel⟩
theorem ok_ins {f : Addr} {fd : FuncData} (F : Fun K "numbers_inside" "numbers_inside" sIns f fd) (T : Txt mg) : FnOk P w K mg base CX0 1 f fd ["nodes", "folder"] spIns := by
  refine F.ok scIns (fun vs H Q E h => ?_) (fun cdv A outer s H vs Q E hr h => ?_)
  · obtain ⟨t, f, zs, rfl, _⟩ := h
    rfl
  · obtain ⟨t, f, zs, rfl, ht, hA, hl, k⟩ := h
    refine ⟨_, pss_cons (ps_set (i := 2) scIns.nd rfl (Or.inl rfl) pe_dnewK)
      (pss_cons (ps_for PassesOwn.never rfl (pi_tup (pv 0)) (pg_name (i := 3) scIns.nd rfl (Or.inl rfl)) (pss_one (ps_expr (pe_bm PySem.F.plainAttrs_list PySem.F.slot_list_append PySem.F.type_list_append mt_append
          (pe_bm PySem.F.plainAttrs_dict PySem.F.slot_dict_setdefault PySem.F.type_dict_setdefault mt_setdefault (pv 2) (pa_cons (pe_ix ix_tup (pv 3) pe_int (fun _ _ => rfl)) (pa_cons (pe_lst pa_nil) pa_nil))) (pa_cons (pv 3) pa_nil)))))
      (pss_cons (ps_set (i := 4) scIns.nd rfl (Or.inl rfl) (pe_lst pa_nil))
      (pss_cons (ps_set (i := 5) scIns.nd rfl (Or.inl rfl) (pe_lst (pa_cons (pv 1) pa_nil)))
      (pss_cons (ps_while PassesOwn.never (pt_truth (pv 5) (fun _ => rfl))
        (pss_cons (ps_set (i := 6) scIns.nd rfl (Or.inl rfl) (pe_dpop2 (pv 2) (pe_bm0 PySem.F.plainAttrs_list PySem.F.slot_list_pop PySem.F.type_list_pop mt_pop (pv 5)) (pe_lst pa_nil) ⟨rfl, rfl, rfl, rfl⟩))
        (pss_one (ps_for PassesOwn.never rfl (pi_list (pv 6)) (pg_name (i := 3) scIns.nd rfl (Or.inl rfl))
          (pss_cons (ps_expr (pe_bm PySem.F.plainAttrs_list PySem.F.slot_list_append PySem.F.type_list_append mt_append (pv 4) (pa_cons (pe_ix ix_tup (pv 3) pe_int (fun _ _ => rfl)) pa_nil)))
          (pss_one (ps_if (pt_cmpR op_isN (pe_ix ix_tup (pv 3) pe_int (fun _ _ => rfl)) pe_non (nomark _)) (pss_one (ps_expr (pe_bm PySem.F.plainAttrs_list PySem.F.slot_list_append PySem.F.type_list_append mt_append (pv 5) (pa_cons (pe_ix ix_tup (pv 3) pe_int (fun _ _ => rfl)) pa_nil)))) pss_nil)))))))
      (pss_one (ps_ret (pv 4))))))), ?_⟩
    refine fun d hd => ?_
    have z100 : ∀ {n : Nat}, n ≤ 100 → n < sizeLine := fun h => small1000 (by omega)
    refine ⟨_, rfl, t, rfl, ⟨_, SqT.of (upd_keep hd ht)⟩, for_tup (xs := refs zs) (fun i σ H' => ∃ L kvs on, σ = [some (.ref t), some (.int f), some (.ref d), on, none, none, none] ∧ Mem H H' d L kvs (zs.take i) [])
      ⟨_, _, _, rfl, Mem.start hd⟩ (fun i σ H' _ h => ?_) (fun i x σ H' hx h => ?_) (fun σ H' h => ?_)⟩
    · obtain ⟨_, _, _, _, m⟩ := h
      exact SqT.of (m.same _ _ ht)
    · obtain ⟨L, kvs, on, rfl, m⟩ := h
      obtain ⟨z, gz, rfl⟩ := refs_get hx
      have mz := List.mem_of_getElem? gz
      have ez : zs.take (i + 1) = zs.take i ++ [z] := by rw [List.take_succ, gz]; rfl
      have hkl : kvs.length ≤ 100 := by have := m.len; rw [List.length_take] at this; omega
      refine ⟨_, rfl, .inr (.inr (.inl ⟨rfl, .inl ⟨_, m.dict⟩⟩)), _, rfl, z.1, _, _, _, rfl, rfl, SqT.of (m.same _ _ (hA z mz)), at1 z.2, Nat.zero_le _, fun q hq => ?_⟩
      have m' := m.grow (same_upd (o := .lst []) hq)
      refine ⟨d, kvs, .inl z.2.par, .ref q, rfl, rfl, m'.dict, z100 hkl, fun v hv => ?_, fun hn => ?_⟩
      · rw [m.val] at hv
        by_cases h : z.2.par ∈ ([] : List Int) ∨ ins (zs.take i) z.2.par = []
        · rw [if_pos h] at hv; cases hv
        · rw [if_neg h] at hv
          cases hv
          have h2 : ins (zs.take i) z.2.par ≠ [] := fun z => h (.inr z)
          have a := (m'.at' z.2.par (by simp) h2).1
          refine ⟨.inl ⟨rfl, _, SqL.of a⟩, _, rfl, _, _, _, rfl, rfl, a, ?_, ?_⟩
          · refine z100 ?_
            rw [refs_len]
            exact Nat.le_trans (List.Sublist.length_le (List.Sublist.trans List.filter_sublist (List.take_sublist _ _))) hl
          · refine ⟨L, kvs, _, rfl, ?_⟩
            rw [ez]
            exact m'.hit h2
      · rw [m.val] at hn
        by_cases h : z.2.par ∈ ([] : List Int) ∨ ins (zs.take i) z.2.par = []
        · have h2 : ins (zs.take i) z.2.par = [] := h.resolve_left (by simp)
          have hqd : q ≠ d := fun e => by rw [e, m.dict] at hq; cases hq
          have a : upd (upd H' q (.lst [])) d (.dK (putK kvs (Sum.inl z.2.par : Key) (.ref q))) q = some (.lst []) := by rw [upd_ne hqd]; exact upd_same
          refine ⟨.inl ⟨rfl, _, SqL.of a⟩, _, rfl, q, [], _, rfl, rfl, a, z100 (Nat.zero_le _), ?_⟩
          have fr := m.fresh (z := z) h2 hq
          rw [← ez] at fr
          exact ⟨_, _, _, rfl, fr⟩
        · rw [if_neg h] at hn; cases hn
    · obtain ⟨L, kvs, on, rfl, m⟩ := h
      rw [refs_len, List.take_length] at m
      refine ⟨Nat.zero_le _, fun pf hpf => ⟨_, rfl, le_line (by simp), fun pp hpp => ?_⟩⟩
      have m1 := (m.grow (same_upd (o := .lst []) hpf)).grow (same_upd (o := .lst [.int f]) hpp)
      have hpf0 : H pf = none := m.same.free hpf
      have hne : pp ≠ pf := fun e => by rw [e, upd_same] at hpp; cases hpp
      have hpp0 : H pp = none := by rw [upd_ne hne] at hpp; exact m.same.free hpp
      dsimp only [gName, tSeq]
      refine while_by (fun σ H' => ∃ L kvs dn fd pd on oh, σ = [some (.ref t), some (.int f), some (.ref d), on, some (.ref pf), some (.ref pp), oh] ∧ pd.length ≤ fd.length + 1 ∧ Mem H H' d L kvs zs dn ∧ TW.Walk (nds zs) f dn fd pd ∧ H' pf = some (.lst (numsV fd)) ∧ H' pp = some (.lst (pd.map V.int)))
        (fun σ H' => 2 * (zs.length - lenAt H' pf) + lenAt H' pp) ⟨L, kvs, [], [], [f], _, _, rfl, Nat.le_refl _, m1, TW.Walk.start _ _, by rw [upd_ne (Ne.symm hne), upd_same]; rfl, upd_same⟩ (fun σ H' h => ?_) ?_
      · obtain ⟨L, kvs, dn, fd, pd, on, oh, rfl, hpl, m, wk, ef, ep⟩ := h
        refine ⟨_, rfl, _, .inl ⟨_, SqL.of ep, rfl⟩, ?_⟩
        by_cases hpd : pd = []
        · subst hpd
          exact iteF ⟨_, rfl, k fd dn pf H' wk ef m.same⟩
        · obtain ⟨pd', x, rfl⟩ : ∃ pd' x, pd = pd' ++ [x] := ⟨pd.dropLast, pd.getLast hpd, (List.dropLast_concat_getLast hpd).symm⟩
          have et : (!((pd' ++ [x]).map V.int).isEmpty) = true := by simp
          rw [if_pos et]
          have elast : ((pd' ++ [x]).map V.int)[((pd' ++ [x]).map V.int).length - 1]? = some (.int x) := by simp
          have edrop : ((pd' ++ [x]).map V.int).dropLast = pd'.map V.int := by simp
          refine ⟨_, rfl, d, rfl, .inl ⟨_, Rd.of m.dict⟩, _, rfl, .inl ⟨rfl, _, SqL.of ep⟩, pp, _, .int x, rfl, rfl, ep, elast, Nat.zero_le _, fun q hq => ?_⟩
          rw [edrop] at hq ⊢
          have m2 := (m.other (o := .lst (pd'.map V.int)) ep hpp0).grow (same_upd (o := .lst []) hq)
          have hqp : q ≠ pp := fun e => by rw [e, upd_same] at hq; cases hq
          have hqf : q ≠ pf := fun e => by rw [e, upd_ne (Ne.symm hne), ef] at hq; cases hq
          refine pop_here m2 upd_same fun hl Hc kvs' hs m3 ehl eh hsub hkeep hnil => ?_
          have df : pf ≠ d := fun e => by have := m.dict; rw [← e, ef] at this; cases this
          have dp : pp ≠ d := fun e => by have := m.dict; rw [← e, ep] at this; cases this
          have ef3 : Hc pf = some (.lst (numsV fd)) := by rw [hkeep pf df, upd_ne (Ne.symm hqf), upd_ne (Ne.symm hne)]; exact ef
          have ep3 : Hc pp = some (.lst (pd'.map V.int)) := by rw [hkeep pp dp, upd_ne (Ne.symm hqp), upd_same]
          have hlf : hl ≠ pf := by
            by_cases h : hs = []
            · rw [hnil h]; exact hqf
            · exact ne_ints ef3 ehl h
          have hlp : hl ≠ pp := by
            by_cases h : hs = []
            · rw [hnil h]; exact hqp
            · exact ne_ints ep3 ehl h
          have wk' := wk.turn
          rw [← eh] at wk'
          have hlen := wk'.len
          rw [List.length_append, nds_len, nds_len] at hlen
          rw [List.length_append, List.length_singleton] at hpl
          refine ⟨_, rfl, hl, rfl, ⟨_, SqL.of ehl⟩, for_list (xs := refs hs) (fun j σ H' => ∃ on, σ = [some (.ref t), some (.int f), some (.ref d), on, some (.ref pf), some (.ref pp), some (.ref hl)] ∧ Mem H H' d L kvs' zs (x :: dn) ∧ H' hl = some (.lst (refs hs)) ∧
            H' pf = some (.lst (numsV (fd ++ nds (hs.take j)))) ∧ H' pp = some (.lst ((pd' ++ TW.folders (nds (hs.take j))).map V.int))) ⟨_, rfl, m3, ehl, by rw [ef3]; simp [nds], by rw [ep3]; simp [nds, TW.folders]⟩
            (fun j σ H' _ h => ?_) (fun j y σ H' hy h => ?_) (fun σ H' h => ?_)⟩
          · obtain ⟨_, _, _, e, _⟩ := h
            exact SqL.of e
          · obtain ⟨on, rfl, m4, e1, e2, e3⟩ := h
            obtain ⟨z, gz, rfl⟩ := refs_get hy
            have mz := hsub z (List.mem_of_getElem? gz)
            have ez : hs.take (j + 1) = hs.take j ++ [z] := by rw [List.take_succ, gz]; rfl
            have l1 : (numsV (fd ++ nds (hs.take j))).length ≤ 100 := by
              unfold numsV
              rw [List.length_map, List.length_map, List.length_append, nds_len, List.length_take]; omega
            have l2 : ((pd' ++ TW.folders (nds (hs.take j))).map V.int).length ≤ 1000 := by
              have := TW.folders_len (nds (hs.take j))
              rw [nds_len, List.length_take] at this
              rw [List.length_map, List.length_append]; omega
            have g0 : ∀ {Hx : Hp}, Same H Hx → Hx z.1 = some (.tup (vals z.2)) := fun s => s _ _ (hA z mz)
            have e4 : numsV (fd ++ nds (hs.take (j + 1))) = numsV (fd ++ nds (hs.take j)) ++ [.int z.2.num] := by rw [ez]; simp [numsV, nds]
            have m5 : Mem H (upd H' pf (.lst (numsV (fd ++ nds (hs.take j)) ++ [.int z.2.num]))) d L kvs' zs (x :: dn) := m4.other e2 hpf0
            have e5 : (upd H' pf (.lst (numsV (fd ++ nds (hs.take j)) ++ [.int z.2.num]))) hl = some (.lst (refs hs)) := by rw [upd_ne hlf]; exact e1
            have e6 : (upd H' pf (.lst (numsV (fd ++ nds (hs.take j)) ++ [.int z.2.num]))) pp = some (.lst ((pd' ++ TW.folders (nds (hs.take j))).map V.int)) := by rw [upd_ne hne]; exact e3
            refine ⟨_, rfl, .inl ⟨rfl, _, SqL.of e2⟩, _, rfl, z.1, _, _, _, rfl, rfl, SqT.of (g0 m4.same), at0 z.2, pf, _, _, rfl, rfl, e2, z100 l1, ?_⟩
            refine ⟨_, rfl, z.1, _, _, _, rfl, rfl, SqT.of (g0 m5.same), at3 z.2, rfl, _, rfl, ?_⟩
            cases est : z.2.st with
            | none =>
              have e7 : TW.folders (nds (hs.take (j + 1))) = TW.folders (nds (hs.take j)) ++ [z.2.num] := by rw [ez]; simp [TW.folders, nds, est]
              refine iteT ⟨_, rfl, .inl ⟨rfl, _, SqL.of e6⟩, _, rfl, z.1, _, _, _, rfl, rfl, SqT.of (g0 m5.same), at0 z.2, pp, _, _, rfl, rfl, e6, small1000 l2, ?_⟩
              refine ⟨_, rfl, m5.other e6 hpp0, by rw [upd_ne hlp]; exact e5, by rw [upd_ne (Ne.symm hne), upd_same, e4], ?_⟩
              rw [upd_same, e7]
              simp
            | some i =>
              have e7 : TW.folders (nds (hs.take (j + 1))) = TW.folders (nds (hs.take j)) := by rw [ez]; simp [TW.folders, nds, est]
              refine iteF ⟨_, rfl, m5, e5, by rw [upd_same, e4], ?_⟩
              rw [e6, e7]
          · obtain ⟨on, rfl, m4, e1, e2, e3⟩ := h
            rw [refs_len, List.take_length] at e2 e3
            refine ⟨⟨L, kvs', x :: dn, _, _, on, _, rfl, ?_, m4, wk', e2, e3⟩, ?_⟩
            · have := TW.folders_len (nds hs)
              rw [nds_len] at this
              rw [List.length_append, List.length_append, nds_len]; omega
            show 2 * (zs.length - lenAt H' pf) + lenAt H' pp < _
            rw [lenAt_of e2, lenAt_of e3, lenAt_of ef, lenAt_of ep]
            have := TW.folders_len (nds hs)
            rw [nds_len] at this
            simp only [numsV, List.length_map, List.length_append, nds_len, List.length_singleton]
            omega
      · rintro σ H Q Q' mo ⟨v, e, k, tv, q⟩
        exact ⟨v, e, k, tv, mo _ _ q⟩
end
end TK

set_option Elab.async false
set_option linter.all false
set_option maxRecDepth 100000
set_option maxHeartbeats 4000000
namespace TK
open PySem L2
theorem typ_st {H : Hp} (o : Option Int) : Typ H (stV o) := by
  cases o with
  | none => exact .non
  | some i => exact .int i
theorem short_st (o : Option Int) : ShortV (stV o) := by cases o <;> exact True.intro
theorem nb_of {H : Hp} {z : Addr × Nd} (e : H z.1 = some (.tup (vals z.2))) (hs : ShortV (.str z.2.nm)) : NB H (.ref z.1) (nodeV (vals z.2)) := by
  refine .tup e fun y hy => ?_
  unfold vals at hy
  simp only [List.mem_cons, List.not_mem_nil, or_false] at hy
  rcases hy with rfl | rfl | rfl | rfl
  · exact ⟨.int _, True.intro⟩
  · exact ⟨.int _, True.intro⟩
  · exact ⟨.str _, hs⟩
  · exact ⟨typ_st _, short_st _⟩
/-- what is_tree tells of a value -/
inductive TR (H : Hp) : V → Prop → Prop where
  | no {v : V} (h : Typ H v) (hn : ∀ a xs, v = .ref a → H a ≠ some (.tup xs)) : TR H v False
  | bad {a : Addr} {xs : List V} {bs : List Bool} (e : H a = some (.tup xs)) (hl : xs.length ≤ 100) (hb : bs.length = xs.length) (h : ∀ (i : Nat) x b, xs[i]? = some x → bs[i]? = some b → NB H x b) (hf : bs.all id = false) : TR H (.ref a) False
  | nodes {a : Addr} {zs : ZN} (e : H a = some (.tup (refs zs))) (hA : At H zs) (hl : zs.length ≤ 18) (ho : ∀ z ∈ zs, nodeV (vals z.2) = true ∧ ShortV (.str z.2.nm)) : TR H (.ref a) (TW.Tree (nds zs))
section
variable {P : Program} {w : World} {K : PySem.W.Frag} {mg : Str → Option Value} {base : Heap}
/-! ### is_tree -/
def spTree : Sp := fun vs H Q _ => ∃ v φ, vs = [v] ∧ TR H v φ ∧ ∀ b H', (b = true ↔ φ) → Same H H' → Q (.bl b) H'
theorem scTree : FnScope ["thing"] ["thing"] (defScope sTree) := ⟨rfl, rfl, rfl, by decide +kernel, rfl, by decide +kernel, by decide +kernel⟩
/-- the promises of the others -/
structure Ups (P : Program) (w : World) (K : PySem.W.Frag) (mg : Str → Option Value) (base : Heap) : Prop where
  node : ∃ f fd, FnOk P w K mg base CX0 3 f fd ["thing"] spNode ∧ mg "is_node" = some (.ref f) ∧ PySem.W.keepIn K (.ref f) = true ∧ Binds K fd ["thing"] []
  rise : ∃ f fd, FnOk P w K mg base CX0 1 f fd ["nodes"] spRise ∧ mg "are_rising" = some (.ref f) ∧ PySem.W.keepIn K (.ref f) = true ∧ Binds K fd ["nodes"] []
  own : ∃ f fd, FnOk P w K mg base CX0 1 f fd ["nodes"] spOwn ∧ mg "have_own_places" = some (.ref f) ∧ PySem.W.keepIn K (.ref f) = true ∧ Binds K fd ["nodes"] []
  ins : ∃ f fd, FnOk P w K mg base CX0 1 f fd ["nodes", "folder"] spIns ∧ mg "numbers_inside" = some (.ref f) ∧ PySem.W.keepIn K (.ref f) = true ∧ Binds K fd ["nodes", "folder"] []
theorem ok_tree {f : Addr} {fd : FuncData} (F : Fun K "is_tree" "is_tree" sTree f fd) (T : Txt mg) (U : Ups P w K mg base) : FnOk P w K mg base CX0 4 f fd ["thing"] spTree := by
  obtain ⟨fN, fdN, GN, mN, kN, bN⟩ := U.node
  obtain ⟨fR, fdR, GR, mR, kR, bR⟩ := U.rise
  obtain ⟨fO, fdO, GO, mO, kO, bO⟩ := U.own
  obtain ⟨fI, fdI, GI, mI, kI, bI⟩ := U.ins
  obtain ⟨tt, hT⟩ := T.top
  refine F.ok scTree (fun vs H Q E h => ?_) (fun cdv A outer s H vs Q E hr h => ?_)
  · obtain ⟨v, φ, rfl, _⟩ := h
    rfl
  · obtain ⟨v, φ, rfl, hv, k⟩ := h
    have hr1 : Room 1 _ := hr.mono (by decide)
    refine ⟨_, pss_cons (ps_if (PW.pt (pw_or (pt_not (pt_val (pe_callB call_isinst rfl T.isin PyProof.Rows.boot_isinstance (pa_cons (pv 0) (pa_cons (pe_bltn (v := .ty "tuple") rfl T.tuple PyProof.Rows.boot_tuple rfl) pa_nil))) (fun _ => rfl)))
        (pw_or1 (pt_not (pt_val (pe_callB (call_all rfl) rfl T.all PyProof.Rows.boot_all (pa_cons (pe_lc (N := ["part"]) (k := 1) (js := []) (g := gName 0) rfl (lc_ok0 rfl (by decide +kernel) (by decide +kernel) (by decide +kernel)) rfl (fun i j x h => by simp at h)
          (pi_tup (pv 0)) (fun s H fp => pg_name (i := 0) (show (["part"] : List Str).Nodup by decide +kernel) rfl (Or.inl rfl) (Or.inr rfl))
          (fun s H fp => pe_call (X := lcCx _ _ _ _ _ _ _) GN hr rfl mN kN bN .nil pass0 (pa_cons (pv 0) pa_nil))) pa_nil)) (fun _ => rfl)))))) (pss_one (ps_ret pe_bl)) pss_nil)
      (pss_cons (ps_if (PW.pt (pw_or (pt_not (pt_val (pe_call GR hr1 rfl mR kR bR .nil pass0 (pa_cons (pv 0) pa_nil)) (fun _ => rfl))) (pw_or1 (pt_not (pt_val (pe_call GO hr1 rfl mO kO bO .nil pass0 (pa_cons (pv 0) pa_nil)) (fun _ => rfl)))))) (pss_one (ps_ret pe_bl)) pss_nil)
      (pss_one (ps_ret (pe_cmpR op_eq (pe_callB call_len_seq rfl T.len PySem.boot_len (pa_cons (pe_call GI hr1 rfl mI kI bI .nil pass0 (pa_cons (pv 0) (pa_cons (pe_glob (v := .int 0) rfl hT ⟨_, rfl⟩) pa_nil))) pa_nil)) (pe_callB call_len_seq rfl T.len PySem.boot_len (pa_cons (pv 0) pa_nil)) (nomark _))))), ?_⟩
    -- the list of what is_node tells
    have main : ∀ (a : Addr) (xs : List V) (bs : List Bool), H a = some (.tup xs) → xs.length ≤ 100 → bs.length = xs.length → (∀ (i : Nat) x b, xs[i]? = some x → bs[i]? = some b → NB H x b) → ∀ p, H p = none → ∀ Q' : VK, (∀ H', Same H H' → H' p = some (.lst (bs.map V.bl)) → Q' (.ref p) H') →
        LcW 1 [] (gName 0) (tCall spNode [] E0 (tCons (tVar 0) tNil)) (start ["thing"] [.ref a]) Q' (Itt K a) H p := by
      intro a xs bs ea hxl hbl hb p hp Q' k'
      refine lc_by (k := 1) (js := []) (J := Itt K a) (p := p) xs.length (by omega) (fun i ys σ' H' => ys = (bs.take i).map V.bl ∧ σ'.length = 1 ∧ Same H H' ∧ H' p = some (.lst ys))
        ⟨rfl, rfl, same_upd hp, upd_same⟩ (fun i ys σ' H' h => ?_) (fun i ys σ' H' hi h => ?_) (fun ys σ' H' h => ?_) (fun i ys σ' H' hi h v H2 hy => ?_) ?_ ?_
      · rw [h.1, List.length_map, List.length_take]; omega
      · obtain ⟨_, _, s2, _⟩ := h
        exact ⟨_, _, SqT.of (s2 _ _ ea), List.getElem?_eq_getElem hi⟩
      · obtain ⟨e1, _, s2, e2⟩ := h
        refine ⟨⟨_, SqT.of (s2 _ _ ea), Nat.le_refl _⟩, ?_⟩
        rw [List.take_of_length_le (by omega)] at e1
        rw [e1] at e2
        exact k' H' s2 e2
      · obtain ⟨e1, e0, s2, e2⟩ := h
        obtain ⟨o1, rfl⟩ := one_of e0
        obtain ⟨rfl, hx⟩ := hy
        have gx := hx _ (SqT.of (s2 _ _ ea))
        have gb : bs[i]? = some bs[i] := List.getElem?_eq_getElem (by omega)
        refine ⟨_, rfl, v, bs[i], rfl, (hb i v _ gx gb).same s2, fun H3 s3 => ⟨s3 _ _ e2, ?_, rfl, same_over hp (s2.trans s3), upd_same⟩⟩
        rw [e1, List.take_succ, gb, List.map_append]
        rfl
      · rintro _ _ _ _ _ m h
        exact m _ _ h
      · rintro _ _ _ _ m ⟨v1, b0, v, b, e1, nb, q⟩
        exact ⟨v1, b0, v, b, e1, nb, fun H' s' => m _ _ (q H' s')⟩
    have hF : ∀ H', Same H H' → φ = False → Q (.bl false) H' := fun H' s' e => k false H' (by rw [e]; simp) s'
    cases hv with
    | no ht hn =>
      cases ht with
      | non => exact ⟨_, rfl, _, _, _, _, rfl, .non, (by kernel_rfl : _ = some false), _, rfl, iteT (iteT (hF _ (Same.refl _) rfl))⟩
      | bl b => exact ⟨_, rfl, _, _, _, _, rfl, .bl b, (by kernel_rfl : _ = some false), _, rfl, iteT (iteT (hF _ (Same.refl _) rfl))⟩
      | int i => exact ⟨_, rfl, _, _, _, _, rfl, .int i, (by kernel_rfl : _ = some false), _, rfl, iteT (iteT (hF _ (Same.refl _) rfl))⟩
      | str x => exact ⟨_, rfl, _, _, _, _, rfl, .str x, (by kernel_rfl : _ = some false), _, rfl, iteT (iteT (hF _ (Same.refl _) rfl))⟩
      | lst e => exact ⟨_, rfl, _, _, _, _, rfl, .lst e, (by kernel_rfl : _ = some false), _, rfl, iteT (iteT (hF _ (Same.refl _) rfl))⟩
      | tup e => exact absurd e (hn _ _ rfl)
    | @bad a xs bs e hl hb h hf =>
      refine ⟨_, rfl, _, _, _, _, rfl, .tup e, (by kernel_rfl : _ = some true), _, rfl, iteF ?_⟩
      refine ⟨_, rfl, a, rfl, ⟨_, SqT.of e⟩, fun p hp => main a xs bs e hl hb h p hp _ fun H1 s1 e1 => ?_⟩
      refine ⟨p, bs, rfl, SqL.of e1, _, rfl, ?_⟩
      rw [hf]
      exact iteT (hF _ s1 rfl)
    | @nodes a zs e hA hl ho =>
      refine ⟨_, rfl, _, _, _, _, rfl, .tup e, (by kernel_rfl : _ = some true), _, rfl, iteF ?_⟩
      refine ⟨_, rfl, a, rfl, ⟨_, SqT.of e⟩, fun p hp => main a (refs zs) (zs.map fun _ => true) e (by rw [refs_len]; omega) (by rw [refs_len, List.length_map]) (fun i x b hx hb => ?_) p hp _ fun H1 s1 e1 => ?_⟩
      · obtain ⟨z, gz, rfl⟩ := refs_get hx
        rw [List.getElem?_map, gz] at hb
        cases hb
        have mz := List.mem_of_getElem? gz
        have := nb_of (hA z mz) (ho z mz).2
        rw [(ho z mz).1] at this
        exact this
      · refine ⟨p, _, rfl, SqL.of e1, _, rfl, ?_⟩
        have et : (zs.map fun _ => true).all id = true := by simp
        rw [et]
        refine iteF ?_
        refine ⟨_, rfl, a, zs, rfl, s1 _ _ e, hA.same s1, by omega, fun H2 s2 => ⟨_, rfl, ?_⟩⟩
        have s12 := s1.trans s2
        cases hR : TW.adj (nds zs) with
        | false =>
          refine iteT (iteT (k false H2 ?_ s12))
          constructor
          · intro h; cases h
          · intro h; have := (TW.adj_iff _).mpr h.rise; rw [hR] at this; cases this
        | true =>
          have hR' := (TW.adj_iff _).mp hR
          refine iteF ⟨_, rfl, a, zs, rfl, s12 _ _ e, hA.same s12, hl, fun b H3 hb s3 => ⟨_, rfl, ?_⟩⟩
          have s13 := s12.trans s3
          cases b with
          | false =>
            refine iteT (k false H3 ?_ s13)
            constructor
            · intro h; cases h
            · intro h; exact hb.mpr h.own
          | true =>
            have hO := hb.mp rfl
            refine iteF ⟨_, rfl, a, 0, zs, rfl, s13 _ _ e, hA.same s13, by omega, fun fd dn l H4 wk el s4 => ?_⟩
            have s14 := s13.trans s4
            refine ⟨l, _, rfl, .inl (SqL.of el), _, rfl, a, _, rfl, .inr (SqT.of (s14 _ _ e)), rfl, k _ H4 ?_ s14⟩
            rw [decide_eq_true_eq, refs_len]
            have wa := wk.all
            rw [nds_len] at wa
            constructor
            · intro h
              injection h with h
              refine ⟨hR', hO, wa.mp ?_⟩
              simp only [numsV, List.length_map] at h
              omega
            · intro h
              have := wa.mpr h.down
              simp only [numsV, List.length_map]
              rw [this]
end
end TK

set_option Elab.async false
set_option linter.all false
set_option maxRecDepth 100000
set_option maxHeartbeats 4000000
namespace TK
open PySem L2
abbrev sCell : Stmt := top 14
abbrev sPick : Stmt := top 15
abbrev sBuild : Stmt := top 16
abbrev sBad : Stmt := top 17
abbrev sOnce : Stmt := top 18
abbrev sLaw : Stmt := top 19
section
variable {P : Program} {w : World} {K : PySem.W.Frag} {mg : Str → Option Value} {base : Heap}
def ScrAt (H : Hp) (a : Addr) : Prop := ∃ ns : List Int, H a = some (.lst (ns.map V.int))
theorem ScrAt.same {H H' : Hp} {a : Addr} (h : ScrAt H a) (s : Same H H') : ScrAt H' a := let ⟨ns, e⟩ := h; ⟨ns, s _ _ e⟩
/-! ### _law_cell, _law_pick -/
def spCell : Sp := fun vs H Q _ => ∃ a k, vs = [.ref a, .int k] ∧ 0 ≤ k ∧ ScrAt H a ∧ ∀ r H', Same H H' → Q (.int r) H'
theorem scCell : FnScope ["_law_script", "_law_k"] ["_law_script", "_law_k"] (defScope sCell) := ⟨rfl, rfl, rfl, by decide +kernel, rfl, by decide +kernel, by decide +kernel⟩
theorem atI_ints {ns : List Int} {i : Int} (h0 : 0 ≤ i) (h1 : i < ns.length) : ∃ j, atI (ns.map V.int) i = some (.int j) := by
  refine ⟨ns[i.toNat]'(by omega), ?_⟩
  have := atI_nat (xs := ns.map V.int) (j := i.toNat) (v := .int (ns[i.toNat]'(by omega))) (by rw [List.getElem?_map, List.getElem?_eq_getElem (by omega)]; rfl)
  rw [show ((i.toNat : Nat) : Int) = i by omega] at this
  exact this
theorem ok_cell {f : Addr} {fd : FuncData} (F : Fun K "_law_cell" "_law_cell" sCell f fd) (T : Txt mg) : FnOk P w K mg base CX0 1 f fd ["_law_script", "_law_k"] spCell := by
  refine F.ok scCell (fun vs H Q E h => ?_) (fun cdv A outer s H vs Q E hr h => ?_)
  · obtain ⟨a, k, rfl, _⟩ := h
    rfl
  · obtain ⟨a, k, rfl, hk, ⟨ns, ea⟩, q⟩ := h
    refine ⟨_, pss_cons (ps_if (pt_cmpR op_lt (pv 1) (pe_callB call_len_seq rfl T.len PySem.boot_len (pa_cons (pv 0) pa_nil)) (nomark _)) (pss_one (ps_ret (pe_ix ix_list (pv 0) (pv 1) (fun _ _ => rfl)))) pss_nil)
      (pss_cons (ps_if (pt_cmpR (op_eq_lst0 hr.units0) (pv 0) (pe_lst pa_nil) (nomark _)) (pss_one (ps_ret pe_int)) pss_nil)
      (pss_one (ps_ret (pe_op op_add (pe_op op_mul (pe_ix ix_list (pv 0) (pe_op op_mod (pv 1) (pe_callB call_len_seq rfl T.len PySem.boot_len (pa_cons (pv 0) pa_nil))) (fun _ _ => rfl)) pe_int) (pv 1))))), ?_⟩
    refine ⟨_, rfl, _, rfl, a, _, rfl, .inl (SqL.of ea), _, _, rfl, rfl, _, rfl, ?_⟩
    rw [List.length_map]
    by_cases h : k < (ns.length : Int)
    · rw [decide_eq_true h]
      obtain ⟨j, ej⟩ := atI_ints hk h
      exact iteT ⟨_, rfl, _, rfl, a, _, _, _, rfl, rfl, SqL.of ea, ej, q _ _ (Same.refl _)⟩
    · rw [decide_eq_false h]
      refine iteF ⟨_, rfl, Nat.zero_le _, fun p hp => ⟨a, p, _, rfl, rfl, SqL.of (upd_keep hp ea), SqL.of upd_same, _, rfl, ?_⟩⟩
      by_cases h0 : ns = []
      · subst h0
        exact iteT (q _ _ (same_upd hp))
      · have hne : ¬ ns.map V.int = [] := by simpa using h0
        rw [decide_eq_false hne]
        have hpos : 0 < ns.length := List.length_pos_iff.mpr h0
        have hm1 : 0 ≤ k % (ns.length : Int) := Int.emod_nonneg _ (by omega)
        have hm2 : k % (ns.length : Int) < ns.length := Int.emod_lt_of_pos _ (by omega)
        obtain ⟨j, ej⟩ := atI_ints hm1 hm2
        have ej' : atI (ns.map V.int) (k % ((ns.map V.int).length : Int)) = some (.int j) := by rw [List.length_map]; exact ej
        exact iteF ⟨_, rfl, _, rfl, _, rfl, a, _, rfl, .inl (SqL.of (upd_keep hp ea)), _, _, rfl, rfl, by rw [List.length_map]; omega, a, _, _, _, rfl, rfl, SqL.of (upd_keep hp ea), ej', _, _, rfl, rfl, .inr ⟨by decide, by decide⟩, _, rfl, _, _, rfl, rfl, q _ _ (same_upd hp)⟩
def spPick : Sp := fun vs H Q _ => ∃ a k m, vs = [.ref a, .int k, .int m] ∧ 0 ≤ k ∧ 0 < m ∧ ScrAt H a ∧ ∀ r H', 0 ≤ r → r < m → Same H H' → Q (.int r) H'
theorem scPick : FnScope ["_law_script", "_law_k", "_law_many", "_law_drawn"] ["_law_script", "_law_k", "_law_many"] (defScope sPick) := ⟨rfl, rfl, rfl, by decide +kernel, rfl, by decide +kernel, by decide +kernel⟩
/-- a function: its promise, and where it lies -/
def Has (P : Program) (w : World) (K : PySem.W.Frag) (mg : Str → Option Value) (base : Heap) (k : Nat) (x : Str) (ps : List Str) (sp : Sp) : Prop := ∃ f fd, FnOk P w K mg base CX0 k f fd ps sp ∧ mg x = some (.ref f) ∧ PySem.W.keepIn K (.ref f) = true ∧ Binds K fd ps []
theorem ok_pick {f : Addr} {fd : FuncData} (F : Fun K "_law_pick" "_law_pick" sPick f fd) (T : Txt mg) (C : Has P w K mg base 1 "_law_cell" ["_law_script", "_law_k"] spCell) : FnOk P w K mg base CX0 2 f fd ["_law_script", "_law_k", "_law_many"] spPick := by
  obtain ⟨fC, fdC, GC, mC, kC, bC⟩ := C
  refine F.ok scPick (fun vs H Q E h => ?_) (fun cdv A outer s H vs Q E hr h => ?_)
  · obtain ⟨a, k, m, rfl, _⟩ := h
    rfl
  · obtain ⟨a, k, m, rfl, hk, hm, hS, q⟩ := h
    refine ⟨_, (pss_cons (ps_set (i := 3) scPick.nd rfl (Or.inl rfl) (pe_op op_mod (pe_op op_mul (pe_op op_add (pe_call GC hr rfl mC kC bC .nil pass0 (pa_cons (pv 0) (pa_cons (pv 1) pa_nil))) (pe_op op_mul pe_int (pe_op op_add (pv 1) pe_int))) pe_int) pe_int))
      (pss_one (ps_ret (pe_op op_mod (pe_op op_mod (pe_op op_add (pe_op op_mul (pv 3) (pv 3)) (pe_op op_fdiv (pv 3) pe_int)) pe_int) (pv 2))))), ?_⟩
    refine ⟨_, rfl, _, rfl, a, k, rfl, hk, hS, fun r H1 s1 => ?_⟩
    refine ⟨_, rfl, _, _, rfl, rfl, _, _, rfl, rfl, .inl ⟨by decide, by decide⟩, _, _, rfl, rfl, _, _, rfl, rfl, .inr ⟨by decide, by decide⟩, _, _, rfl, rfl, (by decide : (0 : Int) < 2147483399), ?_⟩
    generalize hd : (r + 6151 * (k + 1)) * 40692 % 2147483399 = dr
    have d0 : 0 ≤ dr := by rw [← hd]; exact Int.emod_nonneg _ (by decide)
    have d1 : dr < 2147483399 := by rw [← hd]; exact Int.emod_lt_of_pos _ (by decide)
    refine ⟨_, rfl, _, rfl, _, _, rfl, rfl, .inl ⟨by omega, by omega⟩, _, rfl, _, _, rfl, rfl, ⟨by decide, by decide⟩, _, _, rfl, rfl, _, _, rfl, rfl, (by decide : (0 : Int) < 2147483629), _, rfl, _, _, rfl, rfl, hm, ?_⟩
    exact q _ _ (Int.emod_nonneg _ (by omega)) (Int.emod_lt_of_pos _ hm) s1
end
end TK

set_option Elab.async false
set_option linter.all false
set_option maxRecDepth 100000
set_option maxHeartbeats 8000000
namespace TK
open PySem L2
def Good (n : Nd) : Prop := 1 ≤ n.num ∧ n.num ≤ 11 ∧ (n.nm = "a" ∨ n.nm = "b" ∨ n.nm = "c" ∨ n.nm = "abcde") ∧ (n.st = none ∨ n.st = some 0 ∨ n.st = some 1 ∨ n.st = some 2 ∨ n.st = some 999)
theorem name_ok {x : Str} (h : x = "a" ∨ x = "b" ∨ x = "c" ∨ x = "abcde") : nameB x = true ∧ x.length ≤ 100 := by
  rcases h with rfl | rfl | rfl | rfl <;> exact ⟨by decide +kernel, by decide +kernel⟩
theorem good_ok {n : Nd} (h : Good n) : nodeV (vals n) = true ∧ ShortV (.str n.nm) := by
  obtain ⟨h1, h2, h3, h4⟩ := h
  have h5 := name_ok h3
  refine ⟨?_, h5.2⟩
  have e : nodeV (vals n) = (decide (1 ≤ n.num) && true && nameB n.nm && stampV (stV n.st)) := rfl
  rw [e, h5.1, decide_eq_true h1]
  rcases h4 with h | h | h | h | h <;> rw [h] <;> rfl
structure Bd (zs : ZN) (lf : List Int) : Prop where
  built : TW.Built (nds zs)
  nd : ((nds zs).map (·.num) ++ lf).Nodup
  rng : ∀ x ∈ lf, 1 ≤ x ∧ x ≤ 11
  own : TW.Places (nds zs)
  ok : ∀ z ∈ zs, Good z.2
theorem Bd.skip {zs : ZN} {lf : List Int} (b : Bd zs lf) (i : Nat) : Bd zs (lf.eraseIdx i) :=
  ⟨b.built, List.Nodup.sublist (List.Sublist.append (List.Sublist.refl _) (List.eraseIdx_sublist lf i)) b.nd, fun x hx => b.rng x ((List.eraseIdx_sublist lf i).mem hx), b.own, b.ok⟩
theorem erase_perm : ∀ {l : List Int} {i : Nat} {x : Int}, l[i]? = some x → (x :: l.eraseIdx i).Perm l
  | a :: l, 0, x, h => by
    have : a = x := by simpa using h
    subst this
    exact List.Perm.refl _
  | a :: l, i + 1, x, h => by
    have h' : l[i]? = some x := by simpa using h
    exact (List.Perm.swap a x _).trans (List.Perm.cons a (erase_perm h'))
  | [], i, x, h => by simp at h
theorem Bd.add {zs : ZN} {lf : List Int} {i : Nat} {q : Addr} {n : Nd} (b : Bd zs lf) (hi : lf[i]? = some n.num) (hp : n.par ∈ (0 : Int) :: TW.folders (nds zs)) (ho : ∀ z ∈ zs, ¬ (z.2.par = n.par ∧ z.2.nm = n.nm))
    (h3 : n.nm = "a" ∨ n.nm = "b" ∨ n.nm = "c" ∨ n.nm = "abcde") (h4 : n.st = none ∨ n.st = some 0 ∨ n.st = some 1 ∨ n.st = some 2 ∨ n.st = some 999) : Bd (zs ++ [(q, n)]) (lf.eraseIdx i) := by
  have e : nds (zs ++ [(q, n)]) = nds zs ++ [n] := by simp [nds]
  have pm := erase_perm hi
  refine ⟨?_, ?_, fun x hx => b.rng x ((List.eraseIdx_sublist lf i).mem hx), ?_, fun z hz => ?_⟩
  · rw [e]
    refine .snoc b.built ?_
    rcases List.mem_cons.mp hp with h | h
    · exact .inl h
    · exact .inr (TW.mem_folders.mp h)
  · rw [e, List.map_append, List.append_assoc]
    exact ((List.Perm.append_left _ pm).nodup_iff).mpr b.nd
  · rw [e]
    unfold TW.Places
    rw [List.map_append, List.nodup_append]
    refine ⟨b.own, by simp, fun x hx y hy => ?_⟩
    have ey : y = (n.par, n.nm) := by simpa using hy
    subst ey
    obtain ⟨m, hm, rfl⟩ := List.mem_map.mp hx
    obtain ⟨z, hz, rfl⟩ := List.mem_map.mp hm
    intro h
    injection h with h1 h2
    exact ho z hz ⟨h1, h2⟩
  · rcases List.mem_append.mp hz with h | h
    · exact b.ok z h
    · have ez : z = (q, n) := by simpa using h
      subst ez
      have := b.rng n.num (List.mem_of_getElem? hi)
      exact ⟨this.1, this.2, h3, h4⟩
def tp (z : Addr × Nd) : Tup1 := (z.1, z.2.num, [.int z.2.par, .str z.2.nm, stV z.2.st])
def un (t : Tup1) : Addr × Nd := (t.1, match t.2.2 with
  | [.int p, .str s, .int i] => ⟨t.2.1, p, s, some i⟩
  | [.int p, .str s, _] => ⟨t.2.1, p, s, none⟩
  | _ => ⟨0, 0, "", none⟩)
theorem un_tp (z : Addr × Nd) : un (tp z) = z := by
  obtain ⟨a, ⟨n, p, s, st⟩⟩ := z
  cases st <;> rfl
theorem back {zs : ZN} {ts : List Tup1} (h : ts.Perm (zs.map tp)) : (ts.map un).Perm zs ∧ (ts.map un).map tp = ts := by
  constructor
  · have := h.map un
    rw [List.map_map] at this
    have e : zs.map (un ∘ tp) = zs.map id := List.map_congr_left fun z _ => un_tp z
    rw [e, List.map_id] at this
    exact this
  · rw [List.map_map, List.map_congr_left (g := id)]
    · simp
    · intro t ht
      obtain ⟨z, _, rfl⟩ := List.mem_map.mp (h.mem_iff.mp ht)
      show tp (un (tp z)) = tp z
      rw [un_tp]
theorem tp_refs (zs : ZN) : ((zs.map tp).map (·.1)).map V.ref = refs zs := by
  unfold refs
  simp only [List.map_map]
  rfl
theorem seq_of {n : Nat} {j : Int} (h0 : 0 ≤ j) (h1 : j < n) : seqIndex? j n = some j.toNat := (ixN_seq (by unfold ixN; rw [if_pos h0, if_pos h1])).1
theorem erase_map : ∀ (l : List Int) (i : Nat), (l.map V.int).eraseIdx i = (l.eraseIdx i).map V.int
  | [], i => by simp
  | a :: l, 0 => rfl
  | a :: l, i + 1 => by
    show V.int a :: (l.map V.int).eraseIdx i = V.int a :: (l.eraseIdx i).map V.int
    rw [erase_map l i]
theorem pick_in {ns : List Int} {i : Int} (h0 : 0 ≤ i) (h1 : i < ns.length) : ∃ x ∈ ns, atI (ns.map V.int) i = some (.int x) := by
  refine ⟨ns[i.toNat]'(by omega), List.getElem_mem _, ?_⟩
  have := atI_nat (xs := ns.map V.int) (j := i.toNat) (v := .int (ns[i.toNat]'(by omega))) (by rw [List.getElem?_map, List.getElem?_eq_getElem (by omega)]; rfl)
  rw [show ((i.toNat : Nat) : Int) = i by omega] at this
  exact this
theorem pick_nm {j : Int} (h0 : 0 ≤ j) (h1 : j < 4) : ∃ x : Str, (x = "a" ∨ x = "b" ∨ x = "c" ∨ x = "abcde") ∧ atI [V.str "a", .str "b", .str "c", .str "abcde"] j = some (.str x) := by
  obtain rfl | rfl | rfl | rfl : j = 0 ∨ j = 1 ∨ j = 2 ∨ j = 3 := by omega
  · exact ⟨"a", .inl rfl, rfl⟩
  · exact ⟨"b", .inr (.inl rfl), rfl⟩
  · exact ⟨"c", .inr (.inr (.inl rfl)), rfl⟩
  · exact ⟨"abcde", .inr (.inr (.inr rfl)), rfl⟩
theorem pick_st {j : Int} (h0 : 0 ≤ j) (h1 : j < 4) : ∃ i : Int, (some i = none ∨ some i = some (0 : Int) ∨ some i = some 1 ∨ some i = some 2 ∨ some i = some 999) ∧ atI [V.int 0, .int 1, .int 2, .int 999] j = some (.int i) := by
  obtain rfl | rfl | rfl | rfl : j = 0 ∨ j = 1 ∨ j = 2 ∨ j = 3 := by omega
  · exact ⟨0, .inr (.inl rfl), rfl⟩
  · exact ⟨1, .inr (.inr (.inl rfl)), rfl⟩
  · exact ⟨2, .inr (.inr (.inr (.inl rfl))), rfl⟩
  · exact ⟨999, .inr (.inr (.inr (.inr rfl))), rfl⟩
/-- the lists that the building goes by -/
structure Sta (H : Hp) (pl pf pn : Addr) (Hx : Hp) (lf fs : List Int) (zs : ZN) : Prop where
  same : Same H Hx
  l : Hx pl = some (.lst (lf.map V.int))
  f : Hx pf = some (.lst (fs.map V.int))
  n : Hx pn = some (.lst (refs zs))
  nd : At Hx zs
  l0 : H pl = none
  f0 : H pf = none
  n0 : H pn = none
  lf' : pl ≠ pf
  ln' : pl ≠ pn
  fn' : pf ≠ pn
theorem Sta.grow {H Hx Hy : Hp} {pl pf pn : Addr} {lf fs : List Int} {zs : ZN} (a : Sta H pl pf pn Hx lf fs zs) (s : Same Hx Hy) : Sta H pl pf pn Hy lf fs zs :=
  ⟨a.same.trans s, s _ _ a.l, s _ _ a.f, s _ _ a.n, a.nd.same s, a.l0, a.f0, a.n0, a.lf', a.ln', a.fn'⟩
theorem At.over {H : Hp} {p : Addr} {xs : List V} {o : HO} {zs : ZN} (h : At H zs) (hp : H p = some (.lst xs)) : At (upd H p o) zs := fun z hz => by
  rw [upd_ne]
  · exact h z hz
  · intro e
    have := h z hz
    rw [e, hp] at this
    cases this
theorem Sta.pop {H Hx : Hp} {pl pf pn : Addr} {lf fs : List Int} {zs : ZN} (a : Sta H pl pf pn Hx lf fs zs) (lf2 : List Int) : Sta H pl pf pn (upd Hx pl (.lst (lf2.map V.int))) lf2 fs zs :=
  ⟨same_over a.l0 a.same, upd_same, by rw [upd_ne (Ne.symm a.lf')]; exact a.f, by rw [upd_ne (Ne.symm a.ln')]; exact a.n, a.nd.over a.l, a.l0, a.f0, a.n0, a.lf', a.ln', a.fn'⟩
theorem Sta.fold {H Hx : Hp} {pl pf pn : Addr} {lf fs : List Int} {zs : ZN} (a : Sta H pl pf pn Hx lf fs zs) (x : Int) : Sta H pl pf pn (upd Hx pf (.lst (fs.map V.int ++ [.int x]))) lf (fs ++ [x]) zs :=
  ⟨same_over a.f0 a.same, by rw [upd_ne a.lf']; exact a.l, by rw [upd_same]; simp, by rw [upd_ne (Ne.symm a.fn')]; exact a.n, a.nd.over a.f, a.l0, a.f0, a.n0, a.lf', a.ln', a.fn'⟩
theorem Sta.node {H Hx : Hp} {pl pf pn q : Addr} {lf fs : List Int} {zs : ZN} {n : Nd} (a : Sta H pl pf pn Hx lf fs zs) (hq : Hx q = some (.tup (vals n))) : Sta H pl pf pn (upd Hx pn (.lst (refs zs ++ [.ref q]))) lf fs (zs ++ [(q, n)]) :=
  ⟨same_over a.n0 a.same, by rw [upd_ne a.ln']; exact a.l, by rw [upd_ne a.fn']; exact a.f, by rw [upd_same, refs_snoc], (fun z hz => by
    rcases List.mem_append.mp hz with h | h
    · exact a.nd.over a.n z h
    · have ez : z = (q, n) := by simpa using h
      subst ez
      rw [upd_ne]
      · exact hq
      · intro e
        have e' : q = pn := e
        rw [e', a.n] at hq
        cases hq), a.l0, a.f0, a.n0, a.lf', a.ln', a.fn'⟩
section
variable {P : Program} {w : World} {K : PySem.W.Frag} {mg : Str → Option Value} {base : Heap}
/-! ### _law_tree -/
def spBuild : Sp := fun vs H Q _ => ∃ a, vs = [.ref a, .int 0, .int 8] ∧ ScrAt H a ∧ ∀ t zs H', H' t = some (.tup (refs zs)) → At H' zs → zs.length ≤ 8 → TW.Tree (nds zs) → (∀ z ∈ zs, Good z.2) → Same H H' → Q (.ref t) H'
theorem scB : FnScope ["_law_script", "_law_at", "_law_most", "_law_left", "_law_folders", "_law_nodes", "_law_k", "_law_number", "_law_parent", "_law_name", "_law_stamp"] ["_law_script", "_law_at", "_law_most"] (defScope sBuild) := ⟨rfl, rfl, rfl, by decide +kernel, rfl, by decide +kernel, by decide +kernel⟩
theorem ok_build {f : Addr} {fd : FuncData} (F : Fun K "_law_tree" "_law_tree" sBuild f fd) (T : Txt mg) (C : Has P w K mg base 2 "_law_pick" ["_law_script", "_law_k", "_law_many"] spPick) : FnOk P w K mg base CX0 3 f fd ["_law_script", "_law_at", "_law_most"] spBuild := by
  obtain ⟨fP, fdP, GP, mP, kP, bP⟩ := C
  refine F.ok scB (fun vs H Q E h => ?_) (fun cdv A outer s H vs Q E hr h => ?_)
  · obtain ⟨a, rfl, _⟩ := h
    rfl
  · obtain ⟨a, rfl, hS, k⟩ := h
    refine ⟨_, (pss_cons (ps_set (i := 3) scB.nd rfl (Or.inl rfl) (pe_callTy (call_list_rng rfl) rfl T.list rfl (pa_cons (pe_callTy call_rng2 rfl T.range rfl (pa_cons pe_int (pa_cons (pe_op op_add (pv 2) pe_int) pa_nil))) pa_nil)))
        (pss_cons (ps_set (i := 4) scB.nd rfl (Or.inl rfl) (pe_lst (pa_cons pe_int pa_nil)))
        (pss_cons (ps_set (i := 5) scB.nd rfl (Or.inl rfl) (pe_lst pa_nil))
        (pss_cons (ps_for PassesOwn.never rfl (pi_range1 rfl T.range (pa_cons (pe_call GP hr rfl mP kP bP .nil pass0 (pa_cons (pv 0) (pa_cons (pv 1) (pa_cons (pe_op op_add (pv 2) pe_int) pa_nil)))) pa_nil)) (pg_name (i := 6) scB.nd rfl (Or.inl rfl))
        (pss_cons (ps_set (i := 7) scB.nd rfl (Or.inl rfl) (pe_bm PySem.F.plainAttrs_list PySem.F.slot_list_pop PySem.F.type_list_pop mt_popAt (pv 3) (pa_cons (pe_call GP hr rfl mP kP bP .nil pass0 (pa_cons (pv 0) (pa_cons (pe_op op_add (pe_op op_add (pv 1) pe_int) (pe_op op_mul pe_int (pv 6))) (pa_cons (pe_callB call_len_seq rfl T.len PySem.boot_len (pa_cons (pv 3) pa_nil)) pa_nil)))) pa_nil)))
        (pss_cons (ps_set (i := 8) scB.nd rfl (Or.inl rfl) (pe_ix ix_list (pv 4) (pe_call GP hr rfl mP kP bP .nil pass0 (pa_cons (pv 0) (pa_cons (pe_op op_add (pe_op op_add (pv 1) pe_int) (pe_op op_mul pe_int (pv 6))) (pa_cons (pe_callB call_len_seq rfl T.len PySem.boot_len (pa_cons (pv 4) pa_nil)) pa_nil)))) (fun _ _ => rfl)))
        (pss_cons (ps_set (i := 9) scB.nd rfl (Or.inl rfl) (pe_ix ix_list (pe_lst (pa_cons pe_str (pa_cons pe_str (pa_cons pe_str (pa_cons pe_str pa_nil))))) (pe_call GP hr rfl mP kP bP .nil pass0 (pa_cons (pv 0) (pa_cons (pe_op op_add (pe_op op_add (pv 1) pe_int) (pe_op op_mul pe_int (pv 6))) (pa_cons pe_int pa_nil)))) (fun _ _ => rfl)))
        (pss_cons (ps_set (i := 10) scB.nd rfl (Or.inl rfl) pe_non)
        (pss_cons (ps_if (pt_cmpR op_gt (pe_call GP hr rfl mP kP bP .nil pass0 (pa_cons (pv 0) (pa_cons (pe_op op_add (pe_op op_add (pv 1) pe_int) (pe_op op_mul pe_int (pv 6))) (pa_cons pe_int pa_nil)))) pe_int (nomark _)) (pss_one (ps_set (i := 10) scB.nd rfl (Or.inl rfl) (pe_ix ix_list (pe_lst (pa_cons pe_int (pa_cons pe_int (pa_cons pe_int (pa_cons pe_int pa_nil))))) (pe_call GP hr rfl mP kP bP .nil pass0 (pa_cons (pv 0) (pa_cons (pe_op op_add (pe_op op_add (pv 1) pe_int) (pe_op op_mul pe_int (pv 6))) (pa_cons pe_int pa_nil)))) (fun _ _ => rfl)))) pss_nil)
        (pss_one (ps_if (pt_cmpR (op_notIn_tups (hu_of hr)) (pe_tup (pa_cons (pv 8) (pa_cons (pv 9) pa_nil))) (pe_lc (N := ["_law_node"]) (k := 1) (js := []) (g := gName 0) rfl (lc_ok0 rfl (by decide +kernel) (by decide +kernel) (by decide +kernel)) rfl (fun i j x h => by simp at h)
          (pi_list (pv 5)) (fun s H fp => pg_name (i := 0) (show (["_law_node"] : List Str).Nodup by decide +kernel) rfl (Or.inl rfl) (Or.inr rfl))
          (fun s H fp => pe_slice (r := rSlT K) sl_tup (pv 0) (po_some pe_int) (po_some pe_int))) rfl) (pss_cons (ps_expr (pe_bm PySem.F.plainAttrs_list PySem.F.slot_list_append PySem.F.type_list_append mt_append (pv 5) (pa_cons (pe_tup (pa_cons (pv 7) (pa_cons (pv 8) (pa_cons (pv 9) (pa_cons (pv 10) pa_nil))))) pa_nil))) (pss_one (ps_if (pt_cmpR op_isN (pv 10) pe_non (nomark _)) (pss_one (ps_expr (pe_bm PySem.F.plainAttrs_list PySem.F.slot_list_append PySem.F.type_list_append mt_append (pv 4) (pa_cons (pv 7) pa_nil)))) pss_nil))) pss_nil))))))))
        (pss_one (ps_ret (pe_callTy call_tuple_of rfl T.tuple rfl (pa_cons (pe_callB call_sorted_tups rfl T.sorted PyProof.Rows.boot_sorted (pa_cons (pv 5) pa_nil)) pa_nil)))))))), ?_⟩
    refine ⟨_, rfl, _, _, rfl, rfl, _, _, rfl, fun p1 hp1 => ⟨p1, _, _, rfl, upd_same, ⟨by decide, by decide, by decide, by decide⟩, by decide, fun pl hpl => ?_⟩⟩
    refine ⟨le_line (by decide), fun pf hpf => ⟨Nat.zero_le _, fun pn hpn => ?_⟩⟩

    have s0 : Same H (upd (upd (upd (upd H p1 (.rng 1 (8 + 4))) pl (.lst ((List.range (8 + 4 - 1 : Int).toNat).map fun k => V.int (1 + (k : Nat))))) pf (.lst [.int 0])) pn (.lst [])) := (((same_upd hp1).trans (same_upd hpl)).trans (same_upd hpf)).trans (same_upd hpn)
    have hfl : pl ≠ pf := fun e => by rw [← e, upd_same] at hpf; cases hpf
    have hln : pl ≠ pn := fun e => by rw [← e, upd_ne hfl, upd_same] at hpn; cases hpn
    have hfn : pf ≠ pn := fun e => by rw [← e, upd_same] at hpn; cases hpn
    have A0 : Sta H pl pf pn (upd (upd (upd (upd H p1 (.rng 1 (8 + 4))) pl (.lst ((List.range (8 + 4 - 1 : Int).toNat).map fun k => V.int (1 + (k : Nat))))) pf (.lst [.int 0])) pn (.lst [])) [1, 2, 3, 4, 5, 6, 7, 8, 9, 10, 11] [0] [] :=
      ⟨s0, by rw [upd_ne hln, upd_ne hfl, upd_same]; rfl, by rw [upd_ne hfn, upd_same]; rfl, upd_same, fun z hz => by simp at hz, (same_upd hp1).free hpl, ((same_upd hp1).trans (same_upd hpl)).free hpf, (((same_upd hp1).trans (same_upd hpl)).trans (same_upd hpf)).free hpn, hfl, hln, hfn⟩
    have B0 : Bd [] [1, 2, 3, 4, 5, 6, 7, 8, 9, 10, 11] := ⟨.nil, by decide, by decide, by unfold TW.Places nds; simp, by simp⟩
    refine ⟨_, rfl, _, rfl, _, rfl, _, _, rfl, rfl, a, _, _, rfl, by decide, by decide, hS.same s0, fun r H1 r0 r1 s1 => ⟨r, rfl, by omega, by omega, ?_⟩⟩
    refine for_range (n := r.toNat) (fun i σ H' => ∃ lf zs o6 o7 o8 o9 o10, σ = [some (.ref a), some (.int 0), some (.int 8), some (.ref pl), some (.ref pf), some (.ref pn), o6, o7, o8, o9, o10] ∧ Sta H pl pf pn H' lf (0 :: TW.folders (nds zs)) zs ∧ Bd zs lf ∧ lf.length + i = 11 ∧ zs.length ≤ i)
      ⟨_, [], _, _, _, _, _, rfl, A0.grow s1, B0, rfl, Nat.le_refl _⟩ (fun i σ H' hi h => ?_) (fun σ H' h => ?_)
    · obtain ⟨lf, zs, o6, o7, o8, o9, o10, rfl, A1, B, hlf, hzl⟩ := h
      have hi8 : i < 9 := by omega
      have z0 : (0 : Int) ≤ 0 + 1 + 6 * (0 + (i : Int)) := by omega
      refine ⟨_, rfl, .inl ⟨rfl, _, SqL.of A1.l⟩, _, rfl, _, rfl, _, _, rfl, rfl, _, rfl, _, _, rfl, rfl, .inl ⟨by decide, by decide⟩, _, _, rfl, rfl, _, rfl, pl, _, rfl, .inl (SqL.of A1.l), a, _, _, rfl, by omega, by rw [List.length_map]; omega, hS.same A1.same, fun j H2 j0 j1 s2 => ?_⟩
      rw [List.length_map] at j1
      have A2 := A1.grow s2
      obtain ⟨num, gnum⟩ : ∃ num, lf[j.toNat]? = some num := ⟨_, List.getElem?_eq_getElem (by omega)⟩
      refine ⟨pl, _, j, j.toNat, .int num, rfl, rfl, A2.l, by omega, by omega, by rw [List.length_map]; exact seq_of j0 j1, by rw [List.getElem?_map, gnum]; rfl, ?_⟩
      rw [erase_map]
      have A3 := A2.pop (lf.eraseIdx j.toNat)
      have elen : (lf.eraseIdx j.toNat).length = lf.length - 1 := List.length_eraseIdx_of_lt (by omega)
      generalize upd H2 pl (.lst ((lf.eraseIdx j.toNat).map V.int)) = H3 at A3 ⊢
      refine ⟨_, rfl, _, rfl, _, rfl, _, _, rfl, rfl, _, rfl, _, _, rfl, rfl, .inl ⟨by decide, by decide⟩, _, _, rfl, rfl, _, rfl, pf, _, rfl, .inl (SqL.of A3.f), a, _, _, rfl, by omega, by rw [List.length_map, List.length_cons]; omega, hS.same A3.same, fun j2 H4 j20 j21 s4 => ?_⟩
      rw [List.length_map] at j21
      obtain ⟨par, mpar, gpar⟩ := pick_in j20 j21
      have A4 := A3.grow s4
      refine ⟨pf, _, _, _, rfl, rfl, SqL.of A4.f, gpar, ?_⟩
      refine ⟨le_line (by decide), fun p3 hp3 => ?_⟩
      have A5 := A4.grow (same_upd (o := .lst [.str "a", .str "b", .str "c", .str "abcde"]) hp3)
      refine ⟨_, rfl, _, rfl, _, _, rfl, rfl, _, rfl, _, _, rfl, rfl, .inl ⟨by decide, by decide⟩, _, _, rfl, rfl, a, _, _, rfl, by omega, by decide, hS.same A5.same, fun j3 H5 j30 j31 s5 => ?_⟩
      obtain ⟨nm, hnm, gnm⟩ := pick_nm j30 j31
      refine ⟨p3, _, _, _, rfl, rfl, SqL.of (s5 _ _ upd_same), gnm, ?_⟩
      have A6 := A5.grow s5
      refine ⟨_, rfl, _, rfl, _, _, rfl, rfl, _, rfl, _, _, rfl, rfl, .inl ⟨by decide, by decide⟩, _, _, rfl, rfl, a, _, _, rfl, by omega, by decide, hS.same A6.same, fun j4 H6 j40 j41 s6 => ⟨_, _, rfl, rfl, _, rfl, ?_⟩⟩
      have A6' := A6.grow s6
      refine ite2 (fun hgt => ?_) (fun hgt => ?_)
      · refine ⟨le_line (by decide), fun p5 hp5 => ?_⟩
        have A65 := A6'.grow (same_upd (o := .lst [.int 0, .int 1, .int 2, .int 999]) hp5)
        refine ⟨_, rfl, _, rfl, _, _, rfl, rfl, _, rfl, _, _, rfl, rfl, .inl ⟨by decide, by decide⟩, _, _, rfl, rfl, a, _, _, rfl, by omega, by decide, hS.same A65.same, fun j5 H65 j50 j51 s65 => ?_⟩
        obtain ⟨i5, hst5, gst⟩ := pick_st j50 j51
        refine ⟨p5, _, _, _, rfl, rfl, SqL.of (s65 _ _ upd_same), gst, ?_⟩
        have A66 := A65.grow s65

        refine ⟨_, rfl, _, rfl, le2, fun q0 hq0 => ?_⟩
        have A7 := (A66).grow (same_upd (o := .tup [.int par, .str nm]) hq0)
        have eq0 : (upd H65 q0 (.tup [.int par, .str nm])) q0 = some (.tup ([Sum.inl par, Sum.inr nm].map kV)) := upd_same
        refine ⟨_, rfl, pn, rfl, ⟨_, SqL.of A7.n⟩, fun p hp => ?_⟩
        generalize upd H65 q0 (.tup [.int par, .str nm]) = H7 at A7 eq0 hp ⊢
        refine lc_by (k := 1) (js := []) (J := Itl K pn) (p := p) zs.length (by omega) (fun i ys σ' H' => ∃ kss : List (Addr × List Key), ys = (kss.map (·.1)).map V.ref ∧ kss.map (·.2) = ((nds zs).take i).map plK ∧ kss.length = i ∧ (∀ z ∈ kss, H' z.1 = some (.tup (z.2.map kV))) ∧ σ'.length = 1 ∧ Same H7 H' ∧ H' p = some (.lst ys))
          ⟨[], rfl, rfl, rfl, by simp, rfl, same_upd hp, upd_same⟩ (fun i ys σ' H' h => ?_) (fun i ys σ' H' hi h => ?_) (fun ys σ' H' h => ?_) (fun i ys σ' H' hi h v H2 hy => ?_) ?_ ?_
        · obtain ⟨kss, rfl, _, e, _⟩ := h
          rw [List.length_map, List.length_map]; omega
        · obtain ⟨_, _, _, _, _, _, s2, _⟩ := h
          exact ⟨_, _, SqL.of (s2 _ _ A7.n), get_refs (List.getElem?_eq_getElem hi)⟩
        · obtain ⟨kss, e1, e2, e3, e4, _, s2, e5⟩ := h
          refine ⟨⟨_, SqL.of (s2 _ _ A7.n), by rw [refs_len]; exact Nat.le_refl _⟩, ?_⟩
          subst e1
          refine ⟨q0, p, _, kss, rfl, s2 _ _ eq0, rfl, SqL.of e5, e4, _, rfl, ?_⟩
          rw [List.take_of_length_le (by rw [nds_len]; exact Nat.le_refl _)] at e2
          have A8 := A7.grow s2
          cases ea : (kss.any fun z => decide (z.2 = [Sum.inl par, Sum.inr nm])) with
          | true => exact iteF ⟨_, zs, _, _, _, _, _, rfl, A8, B.skip _, by rw [elen]; omega, by omega⟩
          | false =>
            have ho : ∀ z ∈ zs, ¬ (z.2.par = par ∧ z.2.nm = nm) := fun z hz ⟨h1, h2⟩ => by
              have m1 : plK z.2 ∈ kss.map (·.2) := by rw [e2]; exact List.mem_map.mpr ⟨z.2, List.mem_map.mpr ⟨z, hz, rfl⟩, rfl⟩
              obtain ⟨y, hy, ey⟩ := List.mem_map.mp m1
              have : (kss.any fun z => decide (z.2 = [Sum.inl par, Sum.inr nm])) = true := List.any_eq_true.mpr ⟨y, hy, by rw [decide_eq_true_eq, ey]; unfold plK; rw [h1, h2]⟩
              rw [ea] at this; cases this
            refine iteT ⟨_, rfl, .inl ⟨rfl, _, SqL.of A8.n⟩, _, rfl, _, rfl, _, rfl, _, rfl, (show 4 ≤ sizeLine from le_line (by decide)), fun q hq => ⟨pn, _, _, rfl, rfl, upd_keep hq A8.n, small1000 (by rw [refs_len]; omega), ?_⟩⟩
            have A9 := (A8.grow (same_upd (o := .tup (vals ⟨num, par, nm, (some i5)⟩)) hq)).node (n := ⟨num, par, nm, (some i5)⟩) upd_same
            have B9 := B.add (q := q) (n := ⟨num, par, nm, (some i5)⟩) gnum mpar ho hnm hst5
            refine ⟨_, rfl, rfl, _, rfl, ?_⟩
            have ef : (0 :: TW.folders (nds zs)) = (0 : Int) :: TW.folders (nds (zs ++ [(q, ⟨num, par, nm, some i5⟩)])) := by simp [TW.folders, nds]
            rw [ef] at A9
            exact iteF ⟨_, _, _, _, _, _, _, rfl, A9, B9, by rw [elen]; omega, by rw [List.length_append, List.length_singleton]; omega⟩
        · obtain ⟨kss, e1, e2, e3, e4, e0, s2, e5⟩ := h
          obtain ⟨o1, rfl⟩ := one_of e0
          obtain ⟨rfl, hx⟩ := hy
          have gx := hx _ (SqL.of (s2 _ _ A7.n))
          obtain ⟨z1, g1, rfl⟩ := refs_get gx
          have m1 := List.mem_of_getElem? g1
          have ecut : cutV (vals z1.2) (some 1) (some 3) = [.int z1.2.par, .str z1.2.nm] := rfl
          refine ⟨_, rfl, _, rfl, _, rfl, z1.1, _, rfl, SqT.of (s2 _ _ (A7.nd z1 m1)), (fun h => by have h1 : (1 : Nat) = 0 := h.1; cases h1), fun q hq => ?_⟩
          rw [ecut]
          refine ⟨upd_keep hq e5, kss ++ [(q, plK z1.2)], by rw [e1]; simp, ?_, by simp [e3], ?_, rfl, same_over hp (s2.trans (same_upd hq)), upd_same⟩
          · rw [List.map_append, e2, List.take_succ, show (nds zs)[i]? = some z1.2 by unfold nds; rw [List.getElem?_map, g1]; rfl, List.map_append]
            rfl
          · intro z hz
            have hqp : q ≠ p := fun z => by rw [z, e5] at hq; cases hq
            rcases List.mem_append.mp hz with hz | hz
            · have := upd_keep (o := .tup [.int z1.2.par, .str z1.2.nm]) hq (e4 z hz)
              rw [upd_ne]
              · exact this
              · intro e
                rw [e, upd_ne (Ne.symm hqp), e5] at this
                cases this
            · have e : z = (q, plK z1.2) := by simpa using hz
              subst e
              rw [upd_ne hqp]
              exact upd_same
        · rintro _ _ _ _ _ m h
          exact m _ _ h
        · rintro _ _ _ _ m ⟨v1, b0, i1, b1, i2, b2, a2, x2, c1, c2, c3, q⟩
          exact ⟨v1, b0, i1, b1, i2, b2, a2, x2, c1, c2, c3, fun p hp => m _ _ (q p hp)⟩
      · skip

        refine ⟨_, rfl, _, rfl, le2, fun q0 hq0 => ?_⟩
        have A7 := (A6').grow (same_upd (o := .tup [.int par, .str nm]) hq0)
        have eq0 : (upd H6 q0 (.tup [.int par, .str nm])) q0 = some (.tup ([Sum.inl par, Sum.inr nm].map kV)) := upd_same
        refine ⟨_, rfl, pn, rfl, ⟨_, SqL.of A7.n⟩, fun p hp => ?_⟩
        generalize upd H6 q0 (.tup [.int par, .str nm]) = H7 at A7 eq0 hp ⊢
        refine lc_by (k := 1) (js := []) (J := Itl K pn) (p := p) zs.length (by omega) (fun i ys σ' H' => ∃ kss : List (Addr × List Key), ys = (kss.map (·.1)).map V.ref ∧ kss.map (·.2) = ((nds zs).take i).map plK ∧ kss.length = i ∧ (∀ z ∈ kss, H' z.1 = some (.tup (z.2.map kV))) ∧ σ'.length = 1 ∧ Same H7 H' ∧ H' p = some (.lst ys))
          ⟨[], rfl, rfl, rfl, by simp, rfl, same_upd hp, upd_same⟩ (fun i ys σ' H' h => ?_) (fun i ys σ' H' hi h => ?_) (fun ys σ' H' h => ?_) (fun i ys σ' H' hi h v H2 hy => ?_) ?_ ?_
        · obtain ⟨kss, rfl, _, e, _⟩ := h
          rw [List.length_map, List.length_map]; omega
        · obtain ⟨_, _, _, _, _, _, s2, _⟩ := h
          exact ⟨_, _, SqL.of (s2 _ _ A7.n), get_refs (List.getElem?_eq_getElem hi)⟩
        · obtain ⟨kss, e1, e2, e3, e4, _, s2, e5⟩ := h
          refine ⟨⟨_, SqL.of (s2 _ _ A7.n), by rw [refs_len]; exact Nat.le_refl _⟩, ?_⟩
          subst e1
          refine ⟨q0, p, _, kss, rfl, s2 _ _ eq0, rfl, SqL.of e5, e4, _, rfl, ?_⟩
          rw [List.take_of_length_le (by rw [nds_len]; exact Nat.le_refl _)] at e2
          have A8 := A7.grow s2
          cases ea : (kss.any fun z => decide (z.2 = [Sum.inl par, Sum.inr nm])) with
          | true => exact iteF ⟨_, zs, _, _, _, _, _, rfl, A8, B.skip _, by rw [elen]; omega, by omega⟩
          | false =>
            have ho : ∀ z ∈ zs, ¬ (z.2.par = par ∧ z.2.nm = nm) := fun z hz ⟨h1, h2⟩ => by
              have m1 : plK z.2 ∈ kss.map (·.2) := by rw [e2]; exact List.mem_map.mpr ⟨z.2, List.mem_map.mpr ⟨z, hz, rfl⟩, rfl⟩
              obtain ⟨y, hy, ey⟩ := List.mem_map.mp m1
              have : (kss.any fun z => decide (z.2 = [Sum.inl par, Sum.inr nm])) = true := List.any_eq_true.mpr ⟨y, hy, by rw [decide_eq_true_eq, ey]; unfold plK; rw [h1, h2]⟩
              rw [ea] at this; cases this
            refine iteT ⟨_, rfl, .inl ⟨rfl, _, SqL.of A8.n⟩, _, rfl, _, rfl, _, rfl, _, rfl, (show 4 ≤ sizeLine from le_line (by decide)), fun q hq => ⟨pn, _, _, rfl, rfl, upd_keep hq A8.n, small1000 (by rw [refs_len]; omega), ?_⟩⟩
            have A9 := (A8.grow (same_upd (o := .tup (vals ⟨num, par, nm, none⟩)) hq)).node (n := ⟨num, par, nm, none⟩) upd_same
            have B9 := B.add (q := q) (n := ⟨num, par, nm, none⟩) gnum mpar ho hnm (.inl rfl)
            refine ⟨_, rfl, rfl, _, rfl, ?_⟩
            refine iteT ⟨_, rfl, .inl ⟨rfl, _, SqL.of A9.f⟩, _, rfl, pf, _, _, rfl, rfl, A9.f, small1000 ?_, ?_⟩
            · have := TW.folders_len (nds zs)
              rw [nds_len] at this
              rw [List.length_map, List.length_cons]; omega
            · have A10 := A9.fold num
              have ef : (0 :: TW.folders (nds zs)) ++ [num] = (0 : Int) :: TW.folders (nds (zs ++ [(q, ⟨num, par, nm, none⟩)])) := by simp [TW.folders, nds]
              rw [ef] at A10
              exact ⟨_, _, _, _, _, _, _, rfl, A10, B9, by rw [elen]; omega, by rw [List.length_append, List.length_singleton]; omega⟩
        · obtain ⟨kss, e1, e2, e3, e4, e0, s2, e5⟩ := h
          obtain ⟨o1, rfl⟩ := one_of e0
          obtain ⟨rfl, hx⟩ := hy
          have gx := hx _ (SqL.of (s2 _ _ A7.n))
          obtain ⟨z1, g1, rfl⟩ := refs_get gx
          have m1 := List.mem_of_getElem? g1
          have ecut : cutV (vals z1.2) (some 1) (some 3) = [.int z1.2.par, .str z1.2.nm] := rfl
          refine ⟨_, rfl, _, rfl, _, rfl, z1.1, _, rfl, SqT.of (s2 _ _ (A7.nd z1 m1)), (fun h => by have h1 : (1 : Nat) = 0 := h.1; cases h1), fun q hq => ?_⟩
          rw [ecut]
          refine ⟨upd_keep hq e5, kss ++ [(q, plK z1.2)], by rw [e1]; simp, ?_, by simp [e3], ?_, rfl, same_over hp (s2.trans (same_upd hq)), upd_same⟩
          · rw [List.map_append, e2, List.take_succ, show (nds zs)[i]? = some z1.2 by unfold nds; rw [List.getElem?_map, g1]; rfl, List.map_append]
            rfl
          · intro z hz
            have hqp : q ≠ p := fun z => by rw [z, e5] at hq; cases hq
            rcases List.mem_append.mp hz with hz | hz
            · have := upd_keep (o := .tup [.int z1.2.par, .str z1.2.nm]) hq (e4 z hz)
              rw [upd_ne]
              · exact this
              · intro e
                rw [e, upd_ne (Ne.symm hqp), e5] at this
                cases this
            · have e : z = (q, plK z1.2) := by simpa using hz
              subst e
              rw [upd_ne hqp]
              exact upd_same
        · rintro _ _ _ _ _ m h
          exact m _ _ h
        · rintro _ _ _ _ m ⟨v1, b0, i1, b1, i2, b2, a2, x2, c1, c2, c3, q⟩
          exact ⟨v1, b0, i1, b1, i2, b2, a2, x2, c1, c2, c3, fun p hp => m _ _ (q p hp)⟩
    · obtain ⟨lf, zs, o6, o7, o8, o9, o10, rfl, A1, B, hlf, hzl⟩ := h
      have hzl8 : zs.length ≤ 8 := by omega
      have hnum : (zs.map tp).map (·.2.1) = (nds zs).map (·.num) := by
        unfold nds
        simp only [List.map_map]
        rfl
      have hnd : ((nds zs).map (·.num)).Nodup := (List.nodup_append.mp B.nd).1
      refine ⟨_, rfl, pn, zs.map tp, rfl, SqL.of (by rw [A1.n, tp_refs]), fun z hz => ?_, by rw [hnum]; exact hnd, by rw [List.length_map]; omega, fun ts pm up p hp => ?_⟩
      · obtain ⟨y, hy, rfl⟩ := List.mem_map.mp hz
        exact A1.nd y hy
      · obtain ⟨pm2, eb⟩ := back pm
        have er : (ts.map (·.1)).map V.ref = refs (ts.map un) := by rw [← tp_refs, eb]
        rw [er]
        refine ⟨p, _, rfl, .inl ⟨SqL.of upd_same, fun l hl => ?_⟩⟩
        have mem : ∀ z, z ∈ ts.map un → z ∈ zs := fun z hz => pm2.mem_iff.mp hz
        refine k l (ts.map un) _ upd_same ?_ (by rw [pm2.length_eq]; exact hzl8) ?_ (fun z hz => B.ok z (mem z hz)) ((A1.same.trans (same_upd hp)).trans (same_upd hl))
        · intro z hz
          exact ((same_upd hp).trans (same_upd hl)) _ _ (A1.nd z (mem z hz))
        · refine TW.tree_of B.built (pm2.map _) ?_ hnd B.own
          unfold nds
          rw [List.pairwise_map]
          have up2 : ((ts.map un).map tp).Pairwise (fun a b => a.2.1 < b.2.1) := by rw [eb]; exact up
          rw [List.pairwise_map] at up2
          exact up2.imp fun h => Int.le_of_lt h
end
end TK

set_option Elab.async false
set_option linter.all false
set_option maxRecDepth 100000
set_option maxHeartbeats 8000000
namespace TK
open PySem L2
def sclr : V → Bool
  | .str x => decide (x.length ≤ 100)
  | .non => true
  | .bl _ => true
  | .int _ => true
  | _ => false
theorem sc_st (o : Option Int) : sclr (stV o) = true := by cases o <;> rfl
theorem sc_int (i : Int) : sclr (.int i) = true := rfl
theorem sc_bl (b : Bool) : sclr (.bl b) = true := rfl
theorem sc_non : sclr .non = true := rfl
theorem sc_0 : sclr (.str "") = true := by decide +kernel
theorem sc_A : sclr (.str "A") = true := by decide +kernel
theorem sc_X : sclr (.str "abcdef") = true := by decide +kernel
theorem sc_1 : sclr (.str "1") = true := by decide +kernel
theorem sc_typ {H : Hp} {v : V} (h : sclr v = true) : Typ H v ∧ ShortV v := by
  cases v with
  | non => exact ⟨.non, True.intro⟩
  | bl b => exact ⟨.bl b, True.intro⟩
  | int i => exact ⟨.int i, True.intro⟩
  | str x => exact ⟨.str x, (of_decide_eq_true (show decide (x.length ≤ 100) = true from h) : x.length ≤ 100)⟩
  | _ => simp [sclr] at h
theorem nm0 : nameB "" = false := by decide +kernel
theorem nmA : nameB "A" = false := by decide +kernel
theorem nmX : nameB "abcdef" = false := by decide +kernel
/-- what stands in a node's stead where a tree is spoilt -/
inductive BadV (H : Hp) (n : Nd) : V → Prop where
  | non : BadV H n .non
  | lst {a : Addr} {xs : List V} (e : H a = some (.lst xs)) : BadV H n (.ref a)
  | tup {a : Addr} {xs : List V} (e : H a = some (.tup xs)) (hs : xs.all sclr = true) (hf : nodeV xs = false) : BadV H n (.ref a)
  | par {a : Addr} {p : Int} (e : H a = some (.tup [.int n.num, .int p, .str n.nm, stV n.st])) (hp : p = 77 ∨ p = -1) : BadV H n (.ref a)
  | own {a : Addr} (e : H a = some (.tup [.int n.num, .int n.num, .str n.nm, .non])) : BadV H n (.ref a)
theorem BadV.same {H H' : Hp} {n : Nd} {v : V} (b : BadV H n v) (s : Same H H') : BadV H' n v := by
  cases b with
  | non => exact .non
  | lst e => exact .lst (s _ _ e)
  | tup e hs hf => exact .tup (s _ _ e) hs hf
  | par e hp => exact .par (s _ _ e) hp
  | own e => exact .own (s _ _ e)
theorem BadV.over {H : Hp} {n : Nd} {v : V} {L : Addr} {ys : List V} {o : HO} (b : BadV H n v) (hL : H L = some (.lst ys)) (hv : v ≠ .ref L) : BadV (upd H L o) n v := by
  cases b with
  | non => exact .non
  | @lst a _ e => exact .lst (by rw [upd_ne (fun z => hv (by rw [z]))]; exact e)
  | @tup a _ e hs hf => exact .tup (by rw [upd_ne (fun z => hv (by rw [z]))]; exact e) hs hf
  | @par a _ e hp => exact .par (by rw [upd_ne (fun z => hv (by rw [z]))]; exact e) hp
  | @own a e => exact .own (by rw [upd_ne (fun z => hv (by rw [z]))]; exact e)
def AllB (H : Hp) (L : Addr) (n : Nd) (xs : List V) : Prop := ∀ v ∈ xs, BadV H n v ∧ v ≠ .ref L
theorem AllB.same {H H' : Hp} {L : Addr} {n : Nd} {xs : List V} (a : AllB H L n xs) (s : Same H H') : AllB H' L n xs := fun v hv => ⟨(a v hv).1.same s, (a v hv).2⟩
theorem AllB.more {H : Hp} {L : Addr} {n : Nd} {xs ys zs : List V} {o : HO} (a : AllB H L n xs) (b : AllB H L n ys) (hL : H L = some (.lst zs)) : AllB (upd H L o) L n (xs ++ ys) := fun v hv => by
  rcases List.mem_append.mp hv with h | h
  · exact ⟨(a v h).1.over hL (a v h).2, (a v h).2⟩
  · exact ⟨(b v h).1.over hL (b v h).2, (b v h).2⟩
theorem o0 {H : Hp} {n : Nd} {q L : Addr} (b : BadV H n (.ref q)) (hL : H L = none) : q ≠ L := by
  intro e
  subst e
  cases b with
  | lst e => rw [hL] at e; cases e
  | tup e => rw [hL] at e; cases e
  | par e => rw [hL] at e; cases e
  | own e => rw [hL] at e; cases e
theorem ref_ne {q L : Addr} (h : q ≠ L) : V.ref q ≠ V.ref L := fun e => by injection e with e; exact h e
theorem pick_mem {xs : List V} {i : Int} (h0 : 0 ≤ i) (h1 : i < xs.length) : ∃ x ∈ xs, atI xs i = some x := by
  refine ⟨xs[i.toNat]'(by omega), List.getElem_mem _, ?_⟩
  have := atI_nat (xs := xs) (j := i.toNat) (v := (xs[i.toNat]'(by omega))) (List.getElem?_eq_getElem (by omega))
  rw [show ((i.toNat : Nat) : Int) = i by omega] at this
  exact this
section
variable {P : Program} {w : World} {K : PySem.W.Frag} {mg : Str → Option Value} {base : Heap}
/-! ### _law_bad_node -/
def spBad : Sp := fun vs H Q _ => ∃ a c n, vs = [.ref a, .int c] ∧ H a = some (.tup (vals n)) ∧ n.nm.length ≤ 100 ∧ ∀ v H', BadV H' n v → Same H H' → Q v H'
theorem scBad : FnScope ["_law_node", "_law_cell_here", "_law_number", "_law_parent", "_law_name", "_law_stamp", "_law_some"] ["_law_node", "_law_cell_here"] (defScope sBad) := ⟨rfl, rfl, rfl, by decide +kernel, rfl, by decide +kernel, by decide +kernel⟩
theorem ok_bad {f : Addr} {fd : FuncData} (F : Fun K "_law_bad_node" "_law_bad_node" sBad f fd) (T : Txt mg) : FnOk P w K mg base CX0 1 f fd ["_law_node", "_law_cell_here"] spBad := by
  refine F.ok scBad (fun vs H Q E h => ?_) (fun cdv A outer s H vs Q E hr h => ?_)
  · obtain ⟨a, c, n, rfl, _⟩ := h
    rfl
  · obtain ⟨a, c, n, rfl, ea, hs, k⟩ := h
    have S0 : Same H H := Same.refl H
    have scn : sclr (.str n.nm) = true := decide_eq_true hs
    refine ⟨_, (pss_cons (ps_asg (pv 0) (pg_tup (n := 4) rfl (pgs_cons (pg_name (i := 2) scBad.nd rfl (Or.inl rfl)) (pgs_cons (pg_name (i := 3) scBad.nd rfl (Or.inl rfl)) (pgs_cons (pg_name (i := 4) scBad.nd rfl (Or.inl rfl)) (pgs_cons (pg_name (i := 5) scBad.nd rfl (Or.inl rfl)) pgs_nil))))))
      (pss_cons (ps_set (i := 6) scBad.nd rfl (Or.inl rfl) (pe_lst (pa_cons (pe_tup (pa_cons pe_int (pa_cons (pv 3) (pa_cons (pv 4) (pa_cons (pv 5) pa_nil))))) (pa_cons (pe_tup (pa_cons (pe_un un_neg pe_int) (pa_cons (pv 3) (pa_cons (pv 4) (pa_cons (pv 5) pa_nil))))) (pa_cons (pe_tup (pa_cons pe_bl (pa_cons (pv 3) (pa_cons (pv 4) (pa_cons (pv 5) pa_nil))))) pa_nil)))))
      (pss_cons (ps_expr (pe_bm PySem.F.plainAttrs_list PySem.F.slot_list_extend PySem.F.type_list_extend mt_extend (pv 6) (pa_cons (pe_lst (pa_cons (pe_tup (pa_cons pe_non (pa_cons (pv 3) (pa_cons (pv 4) (pa_cons (pv 5) pa_nil))))) (pa_cons (pe_tup (pa_cons (pv 2) (pa_cons pe_int (pa_cons (pv 4) (pa_cons (pv 5) pa_nil))))) (pa_cons (pe_tup (pa_cons (pv 2) (pa_cons (pe_un un_neg pe_int) (pa_cons (pv 4) (pa_cons (pv 5) pa_nil))))) pa_nil)))) pa_nil)))
      (pss_cons (ps_expr (pe_bm PySem.F.plainAttrs_list PySem.F.slot_list_extend PySem.F.type_list_extend mt_extend (pv 6) (pa_cons (pe_lst (pa_cons (pe_tup (pa_cons (pv 2) (pa_cons pe_non (pa_cons (pv 4) (pa_cons (pv 5) pa_nil))))) (pa_cons (pe_lst (pa_cons (pv 2) (pa_cons (pv 3) (pa_cons (pv 4) (pa_cons (pv 5) pa_nil))))) pa_nil))) pa_nil)))
      (pss_cons (ps_expr (pe_bm PySem.F.plainAttrs_list PySem.F.slot_list_extend PySem.F.type_list_extend mt_extend (pv 6) (pa_cons (pe_lst (pa_cons (pe_tup (pa_cons (pv 2) (pa_cons (pv 3) (pa_cons pe_str (pa_cons (pv 5) pa_nil))))) (pa_cons (pe_tup (pa_cons (pv 2) (pa_cons (pv 3) (pa_cons pe_str (pa_cons (pv 5) pa_nil))))) (pa_cons (pe_tup (pa_cons (pv 2) (pa_cons (pv 3) (pa_cons pe_str (pa_cons (pv 5) pa_nil))))) (pa_cons pe_non pa_nil))))) pa_nil)))
      (pss_cons (ps_expr (pe_bm PySem.F.plainAttrs_list PySem.F.slot_list_extend PySem.F.type_list_extend mt_extend (pv 6) (pa_cons (pe_lst (pa_cons (pe_tup (pa_cons (pv 2) (pa_cons (pv 3) (pa_cons pe_non (pa_cons (pv 5) pa_nil))))) (pa_cons (pe_tup (pa_cons (pv 2) (pa_cons (pv 3) (pa_cons (pv 4) (pa_cons pe_int pa_nil))))) (pa_cons (pe_tup (pa_cons (pv 2) (pa_cons (pv 3) (pa_cons (pv 4) (pa_cons (pe_un un_neg pe_int) pa_nil))))) pa_nil)))) pa_nil)))
      (pss_cons (ps_expr (pe_bm PySem.F.plainAttrs_list PySem.F.slot_list_extend PySem.F.type_list_extend mt_extend (pv 6) (pa_cons (pe_lst (pa_cons (pe_tup (pa_cons (pv 2) (pa_cons (pv 3) (pa_cons (pv 4) pa_nil)))) (pa_cons (pe_tup (pa_cons (pv 2) (pa_cons (pv 3) (pa_cons (pv 4) (pa_cons pe_bl pa_nil))))) (pa_cons (pe_tup (pa_cons (pv 2) (pa_cons (pv 3) (pa_cons (pv 4) (pa_cons pe_str pa_nil))))) pa_nil)))) pa_nil)))
      (pss_cons (ps_expr (pe_bm PySem.F.plainAttrs_list PySem.F.slot_list_extend PySem.F.type_list_extend mt_extend (pv 6) (pa_cons (pe_lst (pa_cons (pe_tup (pa_cons (pv 2) (pa_cons (pv 3) (pa_cons (pv 4) (pa_cons (pv 5) (pa_cons pe_int pa_nil)))))) (pa_cons (pe_tup (pa_cons (pv 2) (pa_cons (pv 2) (pa_cons (pv 4) (pa_cons pe_non pa_nil))))) pa_nil))) pa_nil)))
      (pss_one (ps_ret (pe_ix ix_list (pv 6) (pe_op op_mod (pv 1) pe_int) (fun _ _ => rfl)))))))))))), ?_⟩
    refine ⟨_, rfl, a, _, rfl, SqT.of ea, rfl, _, _, rfl, _, _, rfl, _, _, rfl, _, _, rfl, rfl, _, rfl, _, rfl, _, rfl, (show 4 ≤ sizeLine from le_line (by decide)), fun q1 hq1 => ?_⟩
    have sq1 := same_upd (o := .tup [.int (0), .int n.par, .str n.nm, stV n.st]) hq1
    have bq1 : BadV (upd H q1 (.tup [.int (0), .int n.par, .str n.nm, stV n.st])) n (.ref q1) := .tup upd_same (by simp [sc_int, sc_bl, sc_non, sc_0, sc_A, sc_X, sc_1, scn, sc_st]) (by first | rfl | simp [nodeV, numOk, isI, nameV, stampV, nm0, nmA, nmX])
    have S0 := S0.trans sq1
    generalize upd H q1 (.tup [.int (0), .int n.par, .str n.nm, stV n.st]) = H1 at bq1 S0 ⊢
    refine ⟨_, rfl, _, rfl, _, rfl, _, rfl, (show 4 ≤ sizeLine from le_line (by decide)), fun q2 hq2 => ?_⟩
    have sq2 := same_upd (o := .tup [.int (-1), .int n.par, .str n.nm, stV n.st]) hq2
    have bq2 : BadV (upd H1 q2 (.tup [.int (-1), .int n.par, .str n.nm, stV n.st])) n (.ref q2) := .tup upd_same (by simp [sc_int, sc_bl, sc_non, sc_0, sc_A, sc_X, sc_1, scn, sc_st]) (by first | rfl | simp [nodeV, numOk, isI, nameV, stampV, nm0, nmA, nmX])
    have bq1 := bq1.same sq2
    have S0 := S0.trans sq2
    generalize upd H1 q2 (.tup [.int (-1), .int n.par, .str n.nm, stV n.st]) = H2 at bq1 bq2 S0 ⊢
    refine ⟨_, rfl, _, rfl, _, rfl, (show 4 ≤ sizeLine from le_line (by decide)), fun q3 hq3 => ?_⟩
    have sq3 := same_upd (o := .tup [.bl true, .int n.par, .str n.nm, stV n.st]) hq3
    have bq3 : BadV (upd H2 q3 (.tup [.bl true, .int n.par, .str n.nm, stV n.st])) n (.ref q3) := .tup upd_same (by simp [sc_int, sc_bl, sc_non, sc_0, sc_A, sc_X, sc_1, scn, sc_st]) (by first | rfl | simp [nodeV, numOk, isI, nameV, stampV, nm0, nmA, nmX])
    have bq1 := bq1.same sq3
    have bq2 := bq2.same sq3
    have S0 := S0.trans sq3
    generalize upd H2 q3 (.tup [.bl true, .int n.par, .str n.nm, stV n.st]) = H3 at bq1 bq2 bq3 S0 ⊢
    refine ⟨(show 3 ≤ sizeLine from le_line (by decide)), fun L hL => ?_⟩
    have bq30 := bq3
    have bq20 := bq2
    have bq10 := bq1
    have sL := same_upd (o := .lst [.ref q1, .ref q2, .ref q3]) hL
    have bq1 := bq1.same sL
    have bq2 := bq2.same sL
    have bq3 := bq3.same sL
    have hL0 : H L = none := S0.free hL
    have aL : AllB (upd H3 L (.lst [.ref q1, .ref q2, .ref q3])) L n [.ref q1, .ref q2, .ref q3] := by
      intro v hv
      simp only [List.mem_cons, List.not_mem_nil, or_false] at hv
      rcases hv with rfl | rfl | rfl
      · exact ⟨bq1, ref_ne (o0 bq10 hL)⟩
      · exact ⟨bq2, ref_ne (o0 bq20 hL)⟩
      · exact ⟨bq3, ref_ne (o0 bq30 hL)⟩
    have eL : (upd H3 L (.lst [.ref q1, .ref q2, .ref q3])) L = some (.lst [.ref q1, .ref q2, .ref q3]) := upd_same
    have S0 := S0.trans sL
    generalize upd H3 L (.lst [.ref q1, .ref q2, .ref q3]) = HL0 at aL eL S0 ⊢
    refine ⟨_, rfl, .inl ⟨rfl, _, SqL.of eL⟩, _, rfl, _, rfl, _, rfl, (show 4 ≤ sizeLine from le_line (by decide)), fun q4 hq4 => ?_⟩
    have sq4 := same_upd (o := .tup [.non, .int n.par, .str n.nm, stV n.st]) hq4
    have bq4 : BadV (upd HL0 q4 (.tup [.non, .int n.par, .str n.nm, stV n.st])) n (.ref q4) := .tup upd_same (by simp [sc_int, sc_bl, sc_non, sc_0, sc_A, sc_X, sc_1, scn, sc_st]) (by first | rfl | simp [nodeV, numOk, isI, nameV, stampV, nm0, nmA, nmX])
    have nq4 : q4 ≠ L := fun e => by rw [e, eL] at hq4; cases hq4
    have eL := sq4 _ _ eL
    have aL := aL.same sq4
    have S0 := S0.trans sq4
    generalize upd HL0 q4 (.tup [.non, .int n.par, .str n.nm, stV n.st]) = H4 at bq4 S0 eL aL ⊢
    refine ⟨_, rfl, _, rfl, _, rfl, (show 4 ≤ sizeLine from le_line (by decide)), fun q5 hq5 => ?_⟩
    have sq5 := same_upd (o := .tup [.int n.num, .int (77), .str n.nm, stV n.st]) hq5
    have bq5 : BadV (upd H4 q5 (.tup [.int n.num, .int (77), .str n.nm, stV n.st])) n (.ref q5) := .par (p := 77) upd_same (by simp)
    have bq4 := bq4.same sq5
    have nq5 : q5 ≠ L := fun e => by rw [e, eL] at hq5; cases hq5
    have eL := sq5 _ _ eL
    have aL := aL.same sq5
    have S0 := S0.trans sq5
    generalize upd H4 q5 (.tup [.int n.num, .int (77), .str n.nm, stV n.st]) = H5 at bq4 bq5 S0 eL aL ⊢
    refine ⟨_, rfl, _, rfl, _, rfl, _, rfl, (show 4 ≤ sizeLine from le_line (by decide)), fun q6 hq6 => ?_⟩
    have sq6 := same_upd (o := .tup [.int n.num, .int (-1), .str n.nm, stV n.st]) hq6
    have bq6 : BadV (upd H5 q6 (.tup [.int n.num, .int (-1), .str n.nm, stV n.st])) n (.ref q6) := .par (p := -1) upd_same (by simp)
    have bq4 := bq4.same sq6
    have bq5 := bq5.same sq6
    have nq6 : q6 ≠ L := fun e => by rw [e, eL] at hq6; cases hq6
    have eL := sq6 _ _ eL
    have aL := aL.same sq6
    have S0 := S0.trans sq6
    generalize upd H5 q6 (.tup [.int n.num, .int (-1), .str n.nm, stV n.st]) = H6 at bq4 bq5 bq6 S0 eL aL ⊢
    refine ⟨(show 3 ≤ sizeLine from le_line (by decide)), fun l1 hl1 => ?_⟩
    have sl1 := same_upd (o := .lst [.ref q4, .ref q5, .ref q6]) hl1
    have bq4 := bq4.same sl1
    have bq5 := bq5.same sl1
    have bq6 := bq6.same sl1
    have eL' := sl1 _ _ eL
    have aL := aL.same sl1
    have nn : l1 ≠ L := fun e => by rw [e, eL] at hl1; cases hl1
    refine ⟨L, l1, _, _, rfl, rfl, eL', upd_same, ?_, ?_⟩
    · simp only [List.length_append, List.length_cons, List.length_nil]; exact le_line (by decide)
    have bs : AllB (upd H6 l1 (.lst [.ref q4, .ref q5, .ref q6])) L n [.ref q4, .ref q5, .ref q6] := by
      intro v hv
      simp only [List.mem_cons, List.not_mem_nil, or_false] at hv
      rcases hv with rfl | rfl | rfl
      · exact ⟨bq4, ref_ne nq4⟩
      · exact ⟨bq5, ref_ne nq5⟩
      · exact ⟨bq6, ref_ne nq6⟩
    have aL := aL.more (o := .lst ([.ref q1, .ref q2, .ref q3] ++ [.ref q4, .ref q5, .ref q6])) bs eL'
    have S0 := same_over (o := .lst ([.ref q1, .ref q2, .ref q3] ++ [.ref q4, .ref q5, .ref q6])) hL0 (S0.trans sl1)
    have eL : upd (upd H6 l1 (.lst [.ref q4, .ref q5, .ref q6])) L (.lst ([.ref q1, .ref q2, .ref q3] ++ [.ref q4, .ref q5, .ref q6])) L = some (.lst ([.ref q1, .ref q2, .ref q3] ++ [.ref q4, .ref q5, .ref q6])) := upd_same
    generalize upd (upd H6 l1 (.lst [.ref q4, .ref q5, .ref q6])) L (.lst ([.ref q1, .ref q2, .ref q3] ++ [.ref q4, .ref q5, .ref q6])) = HL1 at aL eL S0 ⊢
    refine ⟨_, rfl, .inl ⟨rfl, _, SqL.of eL⟩, _, rfl, _, rfl, _, rfl, (show 4 ≤ sizeLine from le_line (by decide)), fun q7 hq7 => ?_⟩
    have sq7 := same_upd (o := .tup [.int n.num, .non, .str n.nm, stV n.st]) hq7
    have bq7 : BadV (upd HL1 q7 (.tup [.int n.num, .non, .str n.nm, stV n.st])) n (.ref q7) := .tup upd_same (by simp [sc_int, sc_bl, sc_non, sc_0, sc_A, sc_X, sc_1, scn, sc_st]) (by first | rfl | simp [nodeV, numOk, isI, nameV, stampV, nm0, nmA, nmX])
    have nq7 : q7 ≠ L := fun e => by rw [e, eL] at hq7; cases hq7
    have eL := sq7 _ _ eL
    have aL := aL.same sq7
    have S0 := S0.trans sq7
    generalize upd HL1 q7 (.tup [.int n.num, .non, .str n.nm, stV n.st]) = H7 at bq7 S0 eL aL ⊢
    refine ⟨_, rfl, _, rfl, _, rfl, _, rfl, (show 4 ≤ sizeLine from le_line (by decide)), fun q8 hq8 => ?_⟩
    have sq8 := same_upd (o := .lst [.int n.num, .int n.par, .str n.nm, stV n.st]) hq8
    have bq8 : BadV (upd H7 q8 (.lst [.int n.num, .int n.par, .str n.nm, stV n.st])) n (.ref q8) := .lst upd_same
    have bq7 := bq7.same sq8
    have nq8 : q8 ≠ L := fun e => by rw [e, eL] at hq8; cases hq8
    have eL := sq8 _ _ eL
    have aL := aL.same sq8
    have S0 := S0.trans sq8
    generalize upd H7 q8 (.lst [.int n.num, .int n.par, .str n.nm, stV n.st]) = H8 at bq7 bq8 S0 eL aL ⊢
    refine ⟨(show 2 ≤ sizeLine from le_line (by decide)), fun l2 hl2 => ?_⟩
    have sl2 := same_upd (o := .lst [.ref q7, .ref q8]) hl2
    have bq7 := bq7.same sl2
    have bq8 := bq8.same sl2
    have eL' := sl2 _ _ eL
    have aL := aL.same sl2
    have nn : l2 ≠ L := fun e => by rw [e, eL] at hl2; cases hl2
    refine ⟨L, l2, _, _, rfl, rfl, eL', upd_same, ?_, ?_⟩
    · simp only [List.length_append, List.length_cons, List.length_nil]; exact le_line (by decide)
    have bs : AllB (upd H8 l2 (.lst [.ref q7, .ref q8])) L n [.ref q7, .ref q8] := by
      intro v hv
      simp only [List.mem_cons, List.not_mem_nil, or_false] at hv
      rcases hv with rfl | rfl
      · exact ⟨bq7, ref_ne nq7⟩
      · exact ⟨bq8, ref_ne nq8⟩
    have aL := aL.more (o := .lst (([.ref q1, .ref q2, .ref q3] ++ [.ref q4, .ref q5, .ref q6]) ++ [.ref q7, .ref q8])) bs eL'
    have S0 := same_over (o := .lst (([.ref q1, .ref q2, .ref q3] ++ [.ref q4, .ref q5, .ref q6]) ++ [.ref q7, .ref q8])) hL0 (S0.trans sl2)
    have eL : upd (upd H8 l2 (.lst [.ref q7, .ref q8])) L (.lst (([.ref q1, .ref q2, .ref q3] ++ [.ref q4, .ref q5, .ref q6]) ++ [.ref q7, .ref q8])) L = some (.lst (([.ref q1, .ref q2, .ref q3] ++ [.ref q4, .ref q5, .ref q6]) ++ [.ref q7, .ref q8])) := upd_same
    generalize upd (upd H8 l2 (.lst [.ref q7, .ref q8])) L (.lst (([.ref q1, .ref q2, .ref q3] ++ [.ref q4, .ref q5, .ref q6]) ++ [.ref q7, .ref q8])) = HL2 at aL eL S0 ⊢
    refine ⟨_, rfl, .inl ⟨rfl, _, SqL.of eL⟩, _, rfl, _, rfl, _, rfl, (show 4 ≤ sizeLine from le_line (by decide)), fun q9 hq9 => ?_⟩
    have sq9 := same_upd (o := .tup [.int n.num, .int n.par, .str "", stV n.st]) hq9
    have bq9 : BadV (upd HL2 q9 (.tup [.int n.num, .int n.par, .str "", stV n.st])) n (.ref q9) := .tup upd_same (by simp [sc_int, sc_bl, sc_non, sc_0, sc_A, sc_X, sc_1, scn, sc_st]) (by first | rfl | simp [nodeV, numOk, isI, nameV, stampV, nm0, nmA, nmX])
    have nq9 : q9 ≠ L := fun e => by rw [e, eL] at hq9; cases hq9
    have eL := sq9 _ _ eL
    have aL := aL.same sq9
    have S0 := S0.trans sq9
    generalize upd HL2 q9 (.tup [.int n.num, .int n.par, .str "", stV n.st]) = H9 at bq9 S0 eL aL ⊢
    refine ⟨_, rfl, _, rfl, _, rfl, (show 4 ≤ sizeLine from le_line (by decide)), fun q10 hq10 => ?_⟩
    have sq10 := same_upd (o := .tup [.int n.num, .int n.par, .str "A", stV n.st]) hq10
    have bq10 : BadV (upd H9 q10 (.tup [.int n.num, .int n.par, .str "A", stV n.st])) n (.ref q10) := .tup upd_same (by simp [sc_int, sc_bl, sc_non, sc_0, sc_A, sc_X, sc_1, scn, sc_st]) (by first | rfl | simp [nodeV, numOk, isI, nameV, stampV, nm0, nmA, nmX])
    have bq9 := bq9.same sq10
    have nq10 : q10 ≠ L := fun e => by rw [e, eL] at hq10; cases hq10
    have eL := sq10 _ _ eL
    have aL := aL.same sq10
    have S0 := S0.trans sq10
    generalize upd H9 q10 (.tup [.int n.num, .int n.par, .str "A", stV n.st]) = H10 at bq9 bq10 S0 eL aL ⊢
    refine ⟨_, rfl, _, rfl, _, rfl, (show 4 ≤ sizeLine from le_line (by decide)), fun q11 hq11 => ?_⟩
    have sq11 := same_upd (o := .tup [.int n.num, .int n.par, .str "abcdef", stV n.st]) hq11
    have bq11 : BadV (upd H10 q11 (.tup [.int n.num, .int n.par, .str "abcdef", stV n.st])) n (.ref q11) := .tup upd_same (by simp [sc_int, sc_bl, sc_non, sc_0, sc_A, sc_X, sc_1, scn, sc_st]) (by first | rfl | simp [nodeV, numOk, isI, nameV, stampV, nm0, nmA, nmX])
    have bq9 := bq9.same sq11
    have bq10 := bq10.same sq11
    have nq11 : q11 ≠ L := fun e => by rw [e, eL] at hq11; cases hq11
    have eL := sq11 _ _ eL
    have aL := aL.same sq11
    have S0 := S0.trans sq11
    generalize upd H10 q11 (.tup [.int n.num, .int n.par, .str "abcdef", stV n.st]) = H11 at bq9 bq10 bq11 S0 eL aL ⊢
    refine ⟨(show 4 ≤ sizeLine from le_line (by decide)), fun l3 hl3 => ?_⟩
    have sl3 := same_upd (o := .lst [.ref q9, .ref q10, .ref q11, .non]) hl3
    have bq9 := bq9.same sl3
    have bq10 := bq10.same sl3
    have bq11 := bq11.same sl3
    have eL' := sl3 _ _ eL
    have aL := aL.same sl3
    have nn : l3 ≠ L := fun e => by rw [e, eL] at hl3; cases hl3
    refine ⟨L, l3, _, _, rfl, rfl, eL', upd_same, ?_, ?_⟩
    · simp only [List.length_append, List.length_cons, List.length_nil]; exact le_line (by decide)
    have bs : AllB (upd H11 l3 (.lst [.ref q9, .ref q10, .ref q11, .non])) L n [.ref q9, .ref q10, .ref q11, .non] := by
      intro v hv
      simp only [List.mem_cons, List.not_mem_nil, or_false] at hv
      rcases hv with rfl | rfl | rfl | rfl
      · exact ⟨bq9, ref_ne nq9⟩
      · exact ⟨bq10, ref_ne nq10⟩
      · exact ⟨bq11, ref_ne nq11⟩
      · exact ⟨.non, fun e => by cases e⟩
    have aL := aL.more (o := .lst ((([.ref q1, .ref q2, .ref q3] ++ [.ref q4, .ref q5, .ref q6]) ++ [.ref q7, .ref q8]) ++ [.ref q9, .ref q10, .ref q11, .non])) bs eL'
    have S0 := same_over (o := .lst ((([.ref q1, .ref q2, .ref q3] ++ [.ref q4, .ref q5, .ref q6]) ++ [.ref q7, .ref q8]) ++ [.ref q9, .ref q10, .ref q11, .non])) hL0 (S0.trans sl3)
    have eL : upd (upd H11 l3 (.lst [.ref q9, .ref q10, .ref q11, .non])) L (.lst ((([.ref q1, .ref q2, .ref q3] ++ [.ref q4, .ref q5, .ref q6]) ++ [.ref q7, .ref q8]) ++ [.ref q9, .ref q10, .ref q11, .non])) L = some (.lst ((([.ref q1, .ref q2, .ref q3] ++ [.ref q4, .ref q5, .ref q6]) ++ [.ref q7, .ref q8]) ++ [.ref q9, .ref q10, .ref q11, .non])) := upd_same
    generalize upd (upd H11 l3 (.lst [.ref q9, .ref q10, .ref q11, .non])) L (.lst ((([.ref q1, .ref q2, .ref q3] ++ [.ref q4, .ref q5, .ref q6]) ++ [.ref q7, .ref q8]) ++ [.ref q9, .ref q10, .ref q11, .non])) = HL3 at aL eL S0 ⊢
    refine ⟨_, rfl, .inl ⟨rfl, _, SqL.of eL⟩, _, rfl, _, rfl, _, rfl, (show 4 ≤ sizeLine from le_line (by decide)), fun q12 hq12 => ?_⟩
    have sq12 := same_upd (o := .tup [.int n.num, .int n.par, .non, stV n.st]) hq12
    have bq12 : BadV (upd HL3 q12 (.tup [.int n.num, .int n.par, .non, stV n.st])) n (.ref q12) := .tup upd_same (by simp [sc_int, sc_bl, sc_non, sc_0, sc_A, sc_X, sc_1, scn, sc_st]) (by first | rfl | simp [nodeV, numOk, isI, nameV, stampV, nm0, nmA, nmX])
    have nq12 : q12 ≠ L := fun e => by rw [e, eL] at hq12; cases hq12
    have eL := sq12 _ _ eL
    have aL := aL.same sq12
    have S0 := S0.trans sq12
    generalize upd HL3 q12 (.tup [.int n.num, .int n.par, .non, stV n.st]) = H12 at bq12 S0 eL aL ⊢
    refine ⟨_, rfl, _, rfl, _, rfl, (show 4 ≤ sizeLine from le_line (by decide)), fun q13 hq13 => ?_⟩
    have sq13 := same_upd (o := .tup [.int n.num, .int n.par, .str n.nm, .int (1000)]) hq13
    have bq13 : BadV (upd H12 q13 (.tup [.int n.num, .int n.par, .str n.nm, .int (1000)])) n (.ref q13) := .tup upd_same (by simp [sc_int, sc_bl, sc_non, sc_0, sc_A, sc_X, sc_1, scn, sc_st]) (by first | rfl | simp [nodeV, numOk, isI, nameV, stampV, nm0, nmA, nmX])
    have bq12 := bq12.same sq13
    have nq13 : q13 ≠ L := fun e => by rw [e, eL] at hq13; cases hq13
    have eL := sq13 _ _ eL
    have aL := aL.same sq13
    have S0 := S0.trans sq13
    generalize upd H12 q13 (.tup [.int n.num, .int n.par, .str n.nm, .int (1000)]) = H13 at bq12 bq13 S0 eL aL ⊢
    refine ⟨_, rfl, _, rfl, _, rfl, _, rfl, (show 4 ≤ sizeLine from le_line (by decide)), fun q14 hq14 => ?_⟩
    have sq14 := same_upd (o := .tup [.int n.num, .int n.par, .str n.nm, .int (-1)]) hq14
    have bq14 : BadV (upd H13 q14 (.tup [.int n.num, .int n.par, .str n.nm, .int (-1)])) n (.ref q14) := .tup upd_same (by simp [sc_int, sc_bl, sc_non, sc_0, sc_A, sc_X, sc_1, scn, sc_st]) (by first | rfl | simp [nodeV, numOk, isI, nameV, stampV, nm0, nmA, nmX])
    have bq12 := bq12.same sq14
    have bq13 := bq13.same sq14
    have nq14 : q14 ≠ L := fun e => by rw [e, eL] at hq14; cases hq14
    have eL := sq14 _ _ eL
    have aL := aL.same sq14
    have S0 := S0.trans sq14
    generalize upd H13 q14 (.tup [.int n.num, .int n.par, .str n.nm, .int (-1)]) = H14 at bq12 bq13 bq14 S0 eL aL ⊢
    refine ⟨(show 3 ≤ sizeLine from le_line (by decide)), fun l4 hl4 => ?_⟩
    have sl4 := same_upd (o := .lst [.ref q12, .ref q13, .ref q14]) hl4
    have bq12 := bq12.same sl4
    have bq13 := bq13.same sl4
    have bq14 := bq14.same sl4
    have eL' := sl4 _ _ eL
    have aL := aL.same sl4
    have nn : l4 ≠ L := fun e => by rw [e, eL] at hl4; cases hl4
    refine ⟨L, l4, _, _, rfl, rfl, eL', upd_same, ?_, ?_⟩
    · simp only [List.length_append, List.length_cons, List.length_nil]; exact le_line (by decide)
    have bs : AllB (upd H14 l4 (.lst [.ref q12, .ref q13, .ref q14])) L n [.ref q12, .ref q13, .ref q14] := by
      intro v hv
      simp only [List.mem_cons, List.not_mem_nil, or_false] at hv
      rcases hv with rfl | rfl | rfl
      · exact ⟨bq12, ref_ne nq12⟩
      · exact ⟨bq13, ref_ne nq13⟩
      · exact ⟨bq14, ref_ne nq14⟩
    have aL := aL.more (o := .lst (((([.ref q1, .ref q2, .ref q3] ++ [.ref q4, .ref q5, .ref q6]) ++ [.ref q7, .ref q8]) ++ [.ref q9, .ref q10, .ref q11, .non]) ++ [.ref q12, .ref q13, .ref q14])) bs eL'
    have S0 := same_over (o := .lst (((([.ref q1, .ref q2, .ref q3] ++ [.ref q4, .ref q5, .ref q6]) ++ [.ref q7, .ref q8]) ++ [.ref q9, .ref q10, .ref q11, .non]) ++ [.ref q12, .ref q13, .ref q14])) hL0 (S0.trans sl4)
    have eL : upd (upd H14 l4 (.lst [.ref q12, .ref q13, .ref q14])) L (.lst (((([.ref q1, .ref q2, .ref q3] ++ [.ref q4, .ref q5, .ref q6]) ++ [.ref q7, .ref q8]) ++ [.ref q9, .ref q10, .ref q11, .non]) ++ [.ref q12, .ref q13, .ref q14])) L = some (.lst (((([.ref q1, .ref q2, .ref q3] ++ [.ref q4, .ref q5, .ref q6]) ++ [.ref q7, .ref q8]) ++ [.ref q9, .ref q10, .ref q11, .non]) ++ [.ref q12, .ref q13, .ref q14])) := upd_same
    generalize upd (upd H14 l4 (.lst [.ref q12, .ref q13, .ref q14])) L (.lst (((([.ref q1, .ref q2, .ref q3] ++ [.ref q4, .ref q5, .ref q6]) ++ [.ref q7, .ref q8]) ++ [.ref q9, .ref q10, .ref q11, .non]) ++ [.ref q12, .ref q13, .ref q14])) = HL4 at aL eL S0 ⊢
    refine ⟨_, rfl, .inl ⟨rfl, _, SqL.of eL⟩, _, rfl, _, rfl, _, rfl, (show 3 ≤ sizeLine from le_line (by decide)), fun q15 hq15 => ?_⟩
    have sq15 := same_upd (o := .tup [.int n.num, .int n.par, .str n.nm]) hq15
    have bq15 : BadV (upd HL4 q15 (.tup [.int n.num, .int n.par, .str n.nm])) n (.ref q15) := .tup upd_same (by simp [sc_int, sc_bl, sc_non, sc_0, sc_A, sc_X, sc_1, scn, sc_st]) (by first | rfl | simp [nodeV, numOk, isI, nameV, stampV, nm0, nmA, nmX])
    have nq15 : q15 ≠ L := fun e => by rw [e, eL] at hq15; cases hq15
    have eL := sq15 _ _ eL
    have aL := aL.same sq15
    have S0 := S0.trans sq15
    generalize upd HL4 q15 (.tup [.int n.num, .int n.par, .str n.nm]) = H15 at bq15 S0 eL aL ⊢
    refine ⟨_, rfl, _, rfl, _, rfl, (show 4 ≤ sizeLine from le_line (by decide)), fun q16 hq16 => ?_⟩
    have sq16 := same_upd (o := .tup [.int n.num, .int n.par, .str n.nm, .bl true]) hq16
    have bq16 : BadV (upd H15 q16 (.tup [.int n.num, .int n.par, .str n.nm, .bl true])) n (.ref q16) := .tup upd_same (by simp [sc_int, sc_bl, sc_non, sc_0, sc_A, sc_X, sc_1, scn, sc_st]) (by first | rfl | simp [nodeV, numOk, isI, nameV, stampV, nm0, nmA, nmX])
    have bq15 := bq15.same sq16
    have nq16 : q16 ≠ L := fun e => by rw [e, eL] at hq16; cases hq16
    have eL := sq16 _ _ eL
    have aL := aL.same sq16
    have S0 := S0.trans sq16
    generalize upd H15 q16 (.tup [.int n.num, .int n.par, .str n.nm, .bl true]) = H16 at bq15 bq16 S0 eL aL ⊢
    refine ⟨_, rfl, _, rfl, _, rfl, (show 4 ≤ sizeLine from le_line (by decide)), fun q17 hq17 => ?_⟩
    have sq17 := same_upd (o := .tup [.int n.num, .int n.par, .str n.nm, .str "1"]) hq17
    have bq17 : BadV (upd H16 q17 (.tup [.int n.num, .int n.par, .str n.nm, .str "1"])) n (.ref q17) := .tup upd_same (by simp [sc_int, sc_bl, sc_non, sc_0, sc_A, sc_X, sc_1, scn, sc_st]) (by first | rfl | simp [nodeV, numOk, isI, nameV, stampV, nm0, nmA, nmX])
    have bq15 := bq15.same sq17
    have bq16 := bq16.same sq17
    have nq17 : q17 ≠ L := fun e => by rw [e, eL] at hq17; cases hq17
    have eL := sq17 _ _ eL
    have aL := aL.same sq17
    have S0 := S0.trans sq17
    generalize upd H16 q17 (.tup [.int n.num, .int n.par, .str n.nm, .str "1"]) = H17 at bq15 bq16 bq17 S0 eL aL ⊢
    refine ⟨(show 3 ≤ sizeLine from le_line (by decide)), fun l5 hl5 => ?_⟩
    have sl5 := same_upd (o := .lst [.ref q15, .ref q16, .ref q17]) hl5
    have bq15 := bq15.same sl5
    have bq16 := bq16.same sl5
    have bq17 := bq17.same sl5
    have eL' := sl5 _ _ eL
    have aL := aL.same sl5
    have nn : l5 ≠ L := fun e => by rw [e, eL] at hl5; cases hl5
    refine ⟨L, l5, _, _, rfl, rfl, eL', upd_same, ?_, ?_⟩
    · simp only [List.length_append, List.length_cons, List.length_nil]; exact le_line (by decide)
    have bs : AllB (upd H17 l5 (.lst [.ref q15, .ref q16, .ref q17])) L n [.ref q15, .ref q16, .ref q17] := by
      intro v hv
      simp only [List.mem_cons, List.not_mem_nil, or_false] at hv
      rcases hv with rfl | rfl | rfl
      · exact ⟨bq15, ref_ne nq15⟩
      · exact ⟨bq16, ref_ne nq16⟩
      · exact ⟨bq17, ref_ne nq17⟩
    have aL := aL.more (o := .lst ((((([.ref q1, .ref q2, .ref q3] ++ [.ref q4, .ref q5, .ref q6]) ++ [.ref q7, .ref q8]) ++ [.ref q9, .ref q10, .ref q11, .non]) ++ [.ref q12, .ref q13, .ref q14]) ++ [.ref q15, .ref q16, .ref q17])) bs eL'
    have S0 := same_over (o := .lst ((((([.ref q1, .ref q2, .ref q3] ++ [.ref q4, .ref q5, .ref q6]) ++ [.ref q7, .ref q8]) ++ [.ref q9, .ref q10, .ref q11, .non]) ++ [.ref q12, .ref q13, .ref q14]) ++ [.ref q15, .ref q16, .ref q17])) hL0 (S0.trans sl5)
    have eL : upd (upd H17 l5 (.lst [.ref q15, .ref q16, .ref q17])) L (.lst ((((([.ref q1, .ref q2, .ref q3] ++ [.ref q4, .ref q5, .ref q6]) ++ [.ref q7, .ref q8]) ++ [.ref q9, .ref q10, .ref q11, .non]) ++ [.ref q12, .ref q13, .ref q14]) ++ [.ref q15, .ref q16, .ref q17])) L = some (.lst ((((([.ref q1, .ref q2, .ref q3] ++ [.ref q4, .ref q5, .ref q6]) ++ [.ref q7, .ref q8]) ++ [.ref q9, .ref q10, .ref q11, .non]) ++ [.ref q12, .ref q13, .ref q14]) ++ [.ref q15, .ref q16, .ref q17])) := upd_same
    generalize upd (upd H17 l5 (.lst [.ref q15, .ref q16, .ref q17])) L (.lst ((((([.ref q1, .ref q2, .ref q3] ++ [.ref q4, .ref q5, .ref q6]) ++ [.ref q7, .ref q8]) ++ [.ref q9, .ref q10, .ref q11, .non]) ++ [.ref q12, .ref q13, .ref q14]) ++ [.ref q15, .ref q16, .ref q17])) = HL5 at aL eL S0 ⊢
    refine ⟨_, rfl, .inl ⟨rfl, _, SqL.of eL⟩, _, rfl, _, rfl, _, rfl, _, rfl, (show 5 ≤ sizeLine from le_line (by decide)), fun q18 hq18 => ?_⟩
    have sq18 := same_upd (o := .tup [.int n.num, .int n.par, .str n.nm, stV n.st, .int (0)]) hq18
    have bq18 : BadV (upd HL5 q18 (.tup [.int n.num, .int n.par, .str n.nm, stV n.st, .int (0)])) n (.ref q18) := .tup upd_same (by simp [sc_int, sc_bl, sc_non, sc_0, sc_A, sc_X, sc_1, scn, sc_st]) (by first | rfl | simp [nodeV, numOk, isI, nameV, stampV, nm0, nmA, nmX])
    have nq18 : q18 ≠ L := fun e => by rw [e, eL] at hq18; cases hq18
    have eL := sq18 _ _ eL
    have aL := aL.same sq18
    have S0 := S0.trans sq18
    generalize upd HL5 q18 (.tup [.int n.num, .int n.par, .str n.nm, stV n.st, .int (0)]) = H18 at bq18 S0 eL aL ⊢
    refine ⟨_, rfl, _, rfl, _, rfl, (show 4 ≤ sizeLine from le_line (by decide)), fun q19 hq19 => ?_⟩
    have sq19 := same_upd (o := .tup [.int n.num, .int n.num, .str n.nm, .non]) hq19
    have bq19 : BadV (upd H18 q19 (.tup [.int n.num, .int n.num, .str n.nm, .non])) n (.ref q19) := .own upd_same
    have bq18 := bq18.same sq19
    have nq19 : q19 ≠ L := fun e => by rw [e, eL] at hq19; cases hq19
    have eL := sq19 _ _ eL
    have aL := aL.same sq19
    have S0 := S0.trans sq19
    generalize upd H18 q19 (.tup [.int n.num, .int n.num, .str n.nm, .non]) = H19 at bq18 bq19 S0 eL aL ⊢
    refine ⟨(show 2 ≤ sizeLine from le_line (by decide)), fun l6 hl6 => ?_⟩
    have sl6 := same_upd (o := .lst [.ref q18, .ref q19]) hl6
    have bq18 := bq18.same sl6
    have bq19 := bq19.same sl6
    have eL' := sl6 _ _ eL
    have aL := aL.same sl6
    have nn : l6 ≠ L := fun e => by rw [e, eL] at hl6; cases hl6
    refine ⟨L, l6, _, _, rfl, rfl, eL', upd_same, ?_, ?_⟩
    · simp only [List.length_append, List.length_cons, List.length_nil]; exact le_line (by decide)
    have bs : AllB (upd H19 l6 (.lst [.ref q18, .ref q19])) L n [.ref q18, .ref q19] := by
      intro v hv
      simp only [List.mem_cons, List.not_mem_nil, or_false] at hv
      rcases hv with rfl | rfl
      · exact ⟨bq18, ref_ne nq18⟩
      · exact ⟨bq19, ref_ne nq19⟩
    have aL := aL.more (o := .lst (((((([.ref q1, .ref q2, .ref q3] ++ [.ref q4, .ref q5, .ref q6]) ++ [.ref q7, .ref q8]) ++ [.ref q9, .ref q10, .ref q11, .non]) ++ [.ref q12, .ref q13, .ref q14]) ++ [.ref q15, .ref q16, .ref q17]) ++ [.ref q18, .ref q19])) bs eL'
    have S0 := same_over (o := .lst (((((([.ref q1, .ref q2, .ref q3] ++ [.ref q4, .ref q5, .ref q6]) ++ [.ref q7, .ref q8]) ++ [.ref q9, .ref q10, .ref q11, .non]) ++ [.ref q12, .ref q13, .ref q14]) ++ [.ref q15, .ref q16, .ref q17]) ++ [.ref q18, .ref q19])) hL0 (S0.trans sl6)
    have eL : upd (upd H19 l6 (.lst [.ref q18, .ref q19])) L (.lst (((((([.ref q1, .ref q2, .ref q3] ++ [.ref q4, .ref q5, .ref q6]) ++ [.ref q7, .ref q8]) ++ [.ref q9, .ref q10, .ref q11, .non]) ++ [.ref q12, .ref q13, .ref q14]) ++ [.ref q15, .ref q16, .ref q17]) ++ [.ref q18, .ref q19])) L = some (.lst (((((([.ref q1, .ref q2, .ref q3] ++ [.ref q4, .ref q5, .ref q6]) ++ [.ref q7, .ref q8]) ++ [.ref q9, .ref q10, .ref q11, .non]) ++ [.ref q12, .ref q13, .ref q14]) ++ [.ref q15, .ref q16, .ref q17]) ++ [.ref q18, .ref q19])) := upd_same
    generalize upd (upd H19 l6 (.lst [.ref q18, .ref q19])) L (.lst (((((([.ref q1, .ref q2, .ref q3] ++ [.ref q4, .ref q5, .ref q6]) ++ [.ref q7, .ref q8]) ++ [.ref q9, .ref q10, .ref q11, .non]) ++ [.ref q12, .ref q13, .ref q14]) ++ [.ref q15, .ref q16, .ref q17]) ++ [.ref q18, .ref q19])) = HL6 at aL eL S0 ⊢
    have m0 : (0 : Int) ≤ c % 20 := Int.emod_nonneg _ (by decide)
    have m1 : c % 20 < 20 := Int.emod_lt_of_pos _ (by decide)
    obtain ⟨v, hv, gv⟩ := pick_mem (xs := (((((([.ref q1, .ref q2, .ref q3] ++ [.ref q4, .ref q5, .ref q6]) ++ [.ref q7, .ref q8]) ++ [.ref q9, .ref q10, .ref q11, .non]) ++ [.ref q12, .ref q13, .ref q14]) ++ [.ref q15, .ref q16, .ref q17]) ++ [.ref q18, .ref q19])) m0 (by simp only [List.length_append, List.length_cons, List.length_nil]; omega)
    exact ⟨_, rfl, _, rfl, _, _, rfl, rfl, (by decide : (0 : Int) < 20), L, _, _, _, rfl, rfl, SqL.of eL, gv, k v _ (aL v hv).1 S0⟩
end
end TK

set_option Elab.async false
set_option linter.all false
set_option maxRecDepth 100000
set_option maxHeartbeats 4000000
namespace TK
open PySem L2
theorem no_top {t : List Nd} (h : ∀ n ∈ t, n.par ≠ 0) (hne : t ≠ []) : ¬ TW.Tree t := by
  intro T
  have key : ∀ n, TW.Reach t 0 n → False := by
    intro n r
    induction r with
    | base hm hp => exact h _ hm hp
    | step _ _ _ _ ih => exact ih
  cases t with
  | nil => exact hne rfl
  | cons a r => exact key a (T.down a (by simp))
theorem in_file : ¬ TW.Tree ([⟨1, 0, "a", some 1⟩, ⟨2, 1, "b", some 1⟩] : List Nd) := by
  intro T
  have r := T.down ⟨2, 1, "b", some 1⟩ (by simp)
  cases r with
  | base _ hp => cases hp
  | step r' hf _ hp =>
    have hm := r'.mem
    simp only [List.mem_cons, List.not_mem_nil, or_false] at hm
    rcases hm with rfl | rfl
    · cases hf
    · cases hf
theorem in_ring : ¬ TW.Tree ([⟨1, 2, "a", none⟩, ⟨2, 1, "b", none⟩] : List Nd) := by
  refine no_top (fun n hn => ?_) (by simp)
  simp only [List.mem_cons, List.not_mem_nil, or_false] at hn
  rcases hn with rfl | rfl <;> decide
theorem tree_nil : TW.Tree ([] : List Nd) := ⟨List.Pairwise.nil, by unfold TW.Places; simp, by simp⟩
/-- is_tree tells False of it -/
def Spoilt (H : Hp) (v : V) : Prop := ∃ φ, TR H v φ ∧ ¬ φ
theorem TR.same {H H' : Hp} {v : V} {φ : Prop} (h : TR H v φ) (s : Same H H') : TR H' v φ := by
  cases h with
  | no h hn =>
    refine .no (h.same s) fun a xs e1 e2 => ?_
    subst e1
    cases h with
    | lst e => rw [s _ _ e] at e2; cases e2
    | tup e => exact hn _ _ rfl e
  | bad e hl hb h hf => exact .bad (s _ _ e) hl hb (fun i x b h1 h2 => (h i x b h1 h2).same s) hf
  | nodes e hA hl ho => exact .nodes (s _ _ e) (hA.same s) hl ho
theorem Spoilt.same {H H' : Hp} {v : V} (h : Spoilt H v) (s : Same H H') : Spoilt H' v := let ⟨φ, t, n⟩ := h; ⟨φ, t.same s, n⟩
theorem sp_lst {H : Hp} {a : Addr} {xs : List V} (e : H a = some (.lst xs)) : Spoilt H (.ref a) :=
  ⟨False, .no (.lst e) (fun b ys e1 e2 => by injection e1 with e1; subst e1; rw [e] at e2; cases e2), id⟩
theorem sp_sc {H : Hp} {v : V} (h : sclr v = true) : Spoilt H v :=
  ⟨False, .no (sc_typ h).1 (fun b ys e1 e2 => by subst e1; cases h), id⟩
theorem node_refs (zs : ZN) : nodeV (refs zs) = false := by
  match zs with
  | [] => rfl
  | [_] => rfl
  | [_, _] => rfl
  | [_, _, _] => rfl
  | [_, _, _, _] => rfl
  | _ :: _ :: _ :: _ :: _ :: _ => rfl
theorem sp_one {H : Hp} {a : Addr} {x : V} (e : H a = some (.tup [x])) (h : NB H x false) : Spoilt H (.ref a) := by
  refine ⟨False, .bad (bs := [false]) e (show 1 ≤ 100 by decide) rfl (fun i y b h1 h2 => ?_) rfl, id⟩
  match i, h1, h2 with
  | 0, h1, h2 =>
    cases h1; cases h2; exact h
  | i + 1, h1, h2 => simp at h1
theorem sp_tree1 {H : Hp} {a t : Addr} {zs : ZN} (e : H a = some (.tup [.ref t])) (et : H t = some (.tup (refs zs))) (hA : At H zs) : Spoilt H (.ref a) := by
  refine sp_one e ?_
  have := NB.tup et (fun y hy => ?_)
  · rw [node_refs] at this; exact this
  · obtain ⟨b, hb, rfl⟩ := List.mem_map.mp hy
    obtain ⟨z, hz, rfl⟩ := List.mem_map.mp hb
    exact ⟨.tup (hA z hz), True.intro⟩
/-- a tuple of nodes that are no tree -/
theorem sp_nodes {H : Hp} {a : Addr} {zs : ZN} (e : H a = some (.tup (refs zs))) (hA : At H zs) (hl : zs.length ≤ 18) (ho : ∀ z ∈ zs, nodeV (vals z.2) = true ∧ ShortV (.str z.2.nm)) (hn : ¬ TW.Tree (nds zs)) : Spoilt H (.ref a) := ⟨_, .nodes e hA hl ho, hn⟩
/-- one node put in another's stead -/
theorem sp_bad {H : Hp} {a : Addr} {zs : ZN} {z : Addr × Nd} {i : Nat} {v : V} (hi : zs[i]? = some z) (e : H a = some (.tup (refs (zs.take i) ++ [v] ++ refs (zs.drop (i + 1))))) (hA : At H zs) (hl : zs.length ≤ 8) (T : TW.Tree (nds zs)) (ho : ∀ z ∈ zs, Good z.2) (b : BadV H z.2 v) : Spoilt H (.ref a) := by
  have hlt : i < zs.length := by
    rcases Nat.lt_or_ge i zs.length with h | h
    · exact h
    · rw [List.getElem?_eq_none h] at hi; cases hi
  have mz := List.mem_of_getElem? hi
  have gz := ho z mz
  have nbs : NB H v false → Spoilt H (.ref a) := by
    intro nb
    refine ⟨False, .bad (bs := (zs.take i).map (fun _ => true) ++ [false] ++ (zs.drop (i + 1)).map (fun _ => true)) e ?_ ?_ (fun j x c h1 h2 => ?_) (by simp), id⟩
    · simp only [List.length_append, refs_len, List.length_take, List.length_drop, List.length_singleton]; omega
    · simp only [List.length_append, refs_len, List.length_map, List.length_singleton]
    · have ok1 : ∀ (ys : ZN), (∀ y ∈ ys, y ∈ zs) → ∀ (m : Nat) x c, (refs ys)[m]? = some x → (ys.map (fun _ => true))[m]? = some c → NB H x c := by
        intro ys hy m x c g1 g2
        obtain ⟨y, gy, rfl⟩ := refs_get g1
        rw [List.getElem?_map, gy] at g2
        cases g2
        have my := hy y (List.mem_of_getElem? gy)
        have := nb_of (hA y my) (good_ok (ho y my)).2
        rw [(good_ok (ho y my)).1] at this
        exact this
      have lr : (refs (zs.take i)).length = i := by rw [refs_len, List.length_take]; omega
      have lb : ((zs.take i).map (fun _ => true)).length = i := by rw [List.length_map, List.length_take]; omega
      rw [List.append_assoc] at h1 h2
      rcases Nat.lt_trichotomy j i with h | h | h
      · rw [List.getElem?_append_left (by omega)] at h1 h2
        exact ok1 _ (fun y hy => List.mem_of_mem_take hy) j x c h1 h2
      · subst h
        rw [List.getElem?_append_right (by omega), lr, Nat.sub_self] at h1
        rw [List.getElem?_append_right (by omega), lb, Nat.sub_self] at h2
        have e1 : x = v := by simpa using h1.symm
        have e2 : c = false := by simpa using h2.symm
        rw [e1, e2]; exact nb
      · rw [List.getElem?_append_right (by omega), lr] at h1
        rw [List.getElem?_append_right (by omega), lb] at h2
        obtain ⟨m, em⟩ : ∃ m, j - i = m + 1 := ⟨j - i - 1, by omega⟩
        rw [em] at h1 h2
        exact ok1 _ (fun y hy => List.mem_of_mem_drop hy) m x c (by simpa using h1) (by simpa using h2)
  have put : ∀ (q : Addr) (n' : Nd), v = .ref q → H q = some (.tup (vals n')) → nodeV (vals n') = true → ShortV (.str n'.nm) → ¬ TW.Tree (nds (zs.take i ++ [(q, n')] ++ zs.drop (i + 1))) → Spoilt H (.ref a) := by
    intro q n' ev eq ok sh nt
    have er : refs (zs.take i ++ [(q, n')] ++ zs.drop (i + 1)) = refs (zs.take i) ++ [v] ++ refs (zs.drop (i + 1)) := by rw [ev]; simp [refs]
    have mem : ∀ y, y ∈ zs.take i ++ [(q, n')] ++ zs.drop (i + 1) → y ∈ zs ∨ y = (q, n') := fun y hy => by
      rcases List.mem_append.mp hy with h | h
      · rcases List.mem_append.mp h with h | h
        · exact .inl (List.mem_of_mem_take h)
        · exact .inr (by simpa using h)
      · exact .inl (List.mem_of_mem_drop h)
    refine sp_nodes (zs := zs.take i ++ [(q, n')] ++ zs.drop (i + 1)) (by rw [er]; exact e) (fun y hy => ?_) ?_ (fun y hy => ?_) nt
    · rcases mem y hy with h | h
      · exact hA y h
      · subst h; exact eq
    · simp only [List.length_append, List.length_take, List.length_drop, List.length_singleton]; omega
    · rcases mem y hy with h | h
      · exact good_ok (ho y h)
      · subst h; exact ⟨ok, sh⟩
  have gok := good_ok gz
  have nums : ∀ (q : Addr) (n' : Nd), n'.num = z.2.num → ∀ m ∈ nds (zs.take i ++ [(q, n')] ++ zs.drop (i + 1)), 1 ≤ m.num ∧ m.num ≤ 11 := by
    intro q n' en m hm
    obtain ⟨y, hy, rfl⟩ := List.mem_map.mp hm
    rcases List.mem_append.mp hy with h | h
    · rcases List.mem_append.mp h with h | h
      · have := ho y (List.mem_of_mem_take h); exact ⟨this.1, this.2.1⟩
      · have : y = (q, n') := by simpa using h
        subst this
        show 1 ≤ n'.num ∧ n'.num ≤ 11
        rw [en]; exact ⟨gz.1, gz.2.1⟩
    · have := ho y (List.mem_of_mem_drop h); exact ⟨this.1, this.2.1⟩
  have mid : ∀ (q : Addr) (n' : Nd), n' ∈ nds (zs.take i ++ [(q, n')] ++ zs.drop (i + 1)) := fun q n' => List.mem_map.mpr ⟨(q, n'), by simp, rfl⟩
  have hnum : decide (1 ≤ z.2.num) = true := decide_eq_true gz.1
  have hnm : nameB z.2.nm = true := (name_ok gz.2.2.1).1
  cases b with
  | non => exact nbs (.no .non (fun a xs h => by cases h))
  | @lst q xs e' => exact nbs (.no (.lst e') (fun b ys e1 e2 => by injection e1 with e1; subst e1; rw [e'] at e2; cases e2))
  | @tup q xs e' hs hf =>
    refine nbs ?_
    have := NB.tup e' fun y hy => sc_typ (List.all_eq_true.mp hs y hy)
    rw [hf] at this; exact this
  | @par q p e' hp =>
    have hst : stampV (stV z.2.st) = true := by rcases gz.2.2.2 with h | h | h | h | h <;> rw [h] <;> rfl
    refine put q ⟨z.2.num, p, z.2.nm, z.2.st⟩ rfl e' ?_ gok.2 ?_
    · show (decide (1 ≤ z.2.num) && true && nameB z.2.nm && stampV (stV z.2.st)) = true
      rw [hnum, hnm, hst]; rfl
    · refine TW.bad_parent (mid q _) ?_ fun m hm => ?_
      · show p ≠ 0
        rcases hp with h | h <;> omega
      · have := nums q _ (by rfl) m hm
        show m.num ≠ p
        rcases hp with h | h <;> omega
  | @own q e' =>
    refine put q ⟨z.2.num, z.2.num, z.2.nm, none⟩ rfl e' ?_ gok.2 ?_
    · show (decide (1 ≤ z.2.num) && true && nameB z.2.nm && true) = true
      rw [hnum, hnm]; rfl
    · exact TW.own_parent (mid q _) (by show z.2.num ≠ 0; have := gz.1; omega) rfl
/-- a node told twice; a place told twice -/
theorem sp_twice {H : Hp} {a : Addr} {zs : ZN} {z y : Addr × Nd} (hz : z ∈ zs) (e : H a = some (.tup (refs (zs ++ [y])))) (hA : At H (zs ++ [y])) (hl : zs.length ≤ 8) (ho : ∀ z ∈ zs, Good z.2) (hy : nodeV (vals y.2) = true ∧ ShortV (.str y.2.nm)) (h1 : y.2.par = z.2.par) (h2 : y.2.nm = z.2.nm) : Spoilt H (.ref a) := by
  refine sp_nodes e hA (by simp; omega) (fun x hx => ?_) ?_
  · rcases List.mem_append.mp hx with h | h
    · exact good_ok (ho x h)
    · have : x = y := by simpa using h
      rw [this]; exact hy
  · have : nds (zs ++ [y]) = nds zs ++ [y.2] := by simp [nds]
    rw [this]
    exact TW.place_twice (List.mem_map.mpr ⟨z, hz, rfl⟩) h1 h2
theorem sp_turned {H : Hp} {a : Addr} {zs : ZN} (e : H a = some (.tup (refs zs.reverse))) (hA : At H zs) (hl : zs.length ≤ 8) (ho : ∀ z ∈ zs, Good z.2) (T : TW.Tree (nds zs)) (h1 : 1 < zs.length) : Spoilt H (.ref a) := by
  refine sp_nodes e (fun z hz => hA z (by simpa using hz)) (by simp; omega) (fun z hz => good_ok (ho z (by simpa using hz))) ?_
  have : nds zs.reverse = (nds zs).reverse := by simp [nds]
  rw [this]
  exact TW.turned T (by rw [nds_len]; exact h1)
end TK

set_option Elab.async false
set_option linter.all false
set_option maxRecDepth 100000
set_option maxHeartbeats 4000000
namespace TK
open PySem L2
theorem b_false {b : Bool} {φ : Prop} (h : b = true ↔ φ) (n : ¬ φ) : b = false := by
  cases b with
  | false => rfl
  | true => exact absurd (h.mp rfl) n
theorem cut_take {zs : ZN} {i : Nat} (h : i ≤ zs.length) : cutV (refs zs) none (some (i : Int)) = refs (zs.take i) := by
  unfold cutV
  rw [HT.sIx_none, HT.sIx_nat, refs_len, Nat.min_eq_left h, List.drop_zero, Nat.sub_zero]
  unfold refs
  rw [List.map_take, List.map_take]
theorem cut_drop {zs : ZN} {i : Nat} (h : i ≤ zs.length) : cutV (refs zs) (some (i : Int)) none = refs (zs.drop i) := by
  unfold cutV
  rw [HT.sIx_none, HT.sIx_nat, refs_len, Nat.min_eq_left h]
  unfold refs
  rw [List.map_drop, List.map_drop, List.take_of_length_le (by simp)]
/-- a + b of two tuples, whatever is in them -/
theorem cat_any {K : PySem.W.Frag} {H : Hp} {a b : Addr} {xs ys : List V} {Q : VK} (ea : H a = some (.tup xs)) (eb : H b = some (.tup ys)) (hl : xs.length + ys.length ≤ 1000) (k : ∀ r H', Same H H' → H' r = some (.tup (xs ++ ys)) → Q (.ref r) H') :
    rCatT K (.ref a) (.ref b) H Q ∨ ∃ a' b' ys', V.ref a = .ref a' ∧ V.ref b = .ref b' ∧ SqT K H a' [] ∧ SqT K H b' ys' ∧ Q (.ref b') H := by
  by_cases h : xs = []
  · subst h
    exact .inr ⟨a, b, ys, rfl, rfl, SqT.of ea, SqT.of eb, k b H (Same.refl H) eb⟩
  · refine .inl ⟨a, b, xs, ys, rfl, rfl, SqT.of ea, SqT.of eb, h, le_line hl, fun e => ?_, fun e p hp => k p _ (same_upd hp) upd_same⟩
    subst e
    exact k a H (Same.refl H) (by rw [List.append_nil]; exact ea)
theorem cat_two {K : PySem.W.Frag} {H : Hp} {a b : Addr} {xs ys : List V} {Q : VK} (ea : H a = some (.tup xs)) (eb : H b = some (.tup ys)) (hx : xs ≠ []) (hl : xs.length + ys.length ≤ 1000) (k : ∀ r H', Same H H' → H' r = some (.tup (xs ++ ys)) → Q (.ref r) H') :
    rCatT K (.ref a) (.ref b) H Q := by
  refine ⟨a, b, xs, ys, rfl, rfl, SqT.of ea, SqT.of eb, hx, le_line hl, fun e => ?_, fun e p hp => k p _ (same_upd hp) upd_same⟩
  subst e
  exact k a H (Same.refl H) (by rw [List.append_nil]; exact ea)
theorem bad_name {i : Nat} {v : V} (h : ([V.str "aB", .str "a1", .str "Ab"] : List V)[i]? = some v) : ∃ nm, v = .str nm ∧ nameB nm = false ∧ sclr (.str nm) = true := by
  match i, h with
  | 0, h => cases h; exact ⟨_, rfl, by decide +kernel, by decide +kernel⟩
  | 1, h => cases h; exact ⟨_, rfl, by decide +kernel, by decide +kernel⟩
  | 2, h => cases h; exact ⟨_, rfl, by decide +kernel, by decide +kernel⟩
  | i + 3, h => simp at h
theorem sp_name {H : Hp} {q q' : Addr} {nm : Str} (eq : H q = some (.tup [.int 1, .int 0, .str nm, .non])) (eq' : H q' = some (.tup [.ref q])) (hn : nameB nm = false) (hs : sclr (.str nm) = true) : Spoilt H (.ref q') := by
  refine sp_one eq' ?_
  have := NB.tup eq (fun y hy => sc_typ (List.all_eq_true.mp (show ([V.int 1, .int 0, .str nm, .non] : List V).all sclr = true by simp [sc_int, sc_non, hs]) y hy))
  have e : nodeV [V.int 1, .int 0, .str nm, .non] = false := by
    show (decide ((1 : Int) ≤ 1) && true && nameB nm && true) = false
    rw [hn]; rfl
  rw [e] at this
  exact this
theorem sp_two {H : Hp} {q q1 q2 : Addr} {n1 n2 : Nd} (e : H q = some (.tup [.ref q1, .ref q2])) (e1 : H q1 = some (.tup (vals n1))) (e2 : H q2 = some (.tup (vals n2))) (o1 : nodeV (vals n1) = true ∧ ShortV (.str n1.nm)) (o2 : nodeV (vals n2) = true ∧ ShortV (.str n2.nm)) (hn : ¬ TW.Tree [n1, n2]) : Spoilt H (.ref q) := by
  refine sp_nodes (zs := [(q1, n1), (q2, n2)]) e (fun z hz => ?_) (show 2 ≤ 18 by decide) (fun z hz => ?_) hn
  · simp only [List.mem_cons, List.not_mem_nil, or_false] at hz
    rcases hz with rfl | rfl
    · exact e1
    · exact e2
  · simp only [List.mem_cons, List.not_mem_nil, or_false] at hz
    rcases hz with rfl | rfl
    · exact o1
    · exact o2
end TK

set_option Elab.async false
set_option linter.all false
set_option maxRecDepth 100000
set_option maxHeartbeats 8000000
namespace TK
open PySem L2
section
variable {P : Program} {w : World} {K : PySem.W.Frag} {mg : Str → Option Value} {base : Heap}
/-! ### _law_once -/
def spOnce : Sp := fun vs H Q _ => ∃ a, vs = [.ref a] ∧ ScrAt H a ∧ ∀ H', Same H H' → Q (.bl true) H'
theorem scOnce : FnScope ["_law_script", "_law_tree_here", "_law_cell_here", "_law_place", "_law_node", "_law_spoilt"] ["_law_script"] (defScope sOnce) := ⟨rfl, rfl, rfl, by decide +kernel, rfl, by decide +kernel, by decide +kernel⟩
theorem ok_once {f : Addr} {fd : FuncData} (F : Fun K "_law_once" "_law_once" sOnce f fd) (T : Txt mg) (CB : Has P w K mg base 3 "_law_tree" ["_law_script", "_law_at", "_law_most"] spBuild) (CT : Has P w K mg base 4 "is_tree" ["thing"] spTree)
    (CP : Has P w K mg base 2 "_law_pick" ["_law_script", "_law_k", "_law_many"] spPick) (CX : Has P w K mg base 1 "_law_bad_node" ["_law_node", "_law_cell_here"] spBad) : FnOk P w K mg base CX0 5 f fd ["_law_script"] spOnce := by
  obtain ⟨fB, fdB, GB, mB, kB, bB⟩ := CB
  obtain ⟨fT, fdT, GT, mT, kT, bT⟩ := CT
  obtain ⟨fP, fdP, GP, mP, kP, bP⟩ := CP
  obtain ⟨fX, fdX, GX, mX, kX, bX⟩ := CX
  refine F.ok scOnce (fun vs H Q E h => ?_) (fun cdv A outer s H vs Q E hr h => ?_)
  · obtain ⟨a, rfl, _⟩ := h
    rfl
  · obtain ⟨a, rfl, hS, k⟩ := h
    have hr3 : Room 3 _ := hr.mono (by decide)
    have hr2 : Room 2 _ := hr.mono (by decide)
    have hr1 : Room 1 _ := hr.mono (by decide)
    refine ⟨_, (pss_cons (ps_set (i := 1) scOnce.nd rfl (Or.inl rfl) (pe_call GB hr3 rfl mB kB bB .nil pass0 (pa_cons (pv 0) (pa_cons pe_int (pa_cons pe_int pa_nil)))))
      (pss_cons (ps_if (PW.pt (pw_or (pt_cmpR op_isnot_bl (pe_call GT hr rfl mT kT bT .nil pass0 (pa_cons (pv 1) pa_nil)) pe_bl (nomark _)) (pw_or1 (pt_cmpR op_isnot_bl (pe_call GT hr rfl mT kT bT .nil pass0 (pa_cons (pe_tup pa_nil) pa_nil)) pe_bl (nomark _))))) (pss_one (ps_ret pe_bl)) pss_nil)
      (pss_cons (ps_set (i := 2) scOnce.nd rfl (Or.inl rfl) (pe_call GP hr2 rfl mP kP bP .nil pass0 (pa_cons (pv 0) (pa_cons pe_int (pa_cons (pe_op op_pow pe_int pe_int) pa_nil)))))
      (pss_cons (ps_if (pt_cmpR op_isnot_bl (pe_call GT hr rfl mT kT bT .nil pass0 (pa_cons (pe_ix ix_list (pe_lst (pa_cons (pe_callTy call_list_of rfl T.list rfl (pa_cons (pv 1) pa_nil)) (pa_cons pe_non (pa_cons pe_int (pa_cons pe_str (pa_cons pe_bl (pa_cons (pe_lst (pa_cons (pe_tup pa_nil) pa_nil)) (pa_cons (pe_tup (pa_cons (pv 1) pa_nil)) (pa_cons (pe_tup (pa_cons (pe_tup pa_nil) pa_nil)) pa_nil))))))))) (pe_op op_mod (pv 2) pe_int) (fun _ _ => rfl)) pa_nil)) pe_bl (nomark _)) (pss_one (ps_ret pe_bl)) pss_nil)
      (pss_cons (ps_if (pt_cmpR (op_ne_bls hr.units0) (pe_lc (N := ["_law_name"]) (k := 1) (js := []) (g := gName 0) rfl (lc_ok0 rfl (by decide +kernel) (by decide +kernel) (by decide +kernel)) rfl (fun i j x h => by simp at h)
          (pi_tup (pe_tup (pa_cons pe_str (pa_cons pe_str (pa_cons pe_str pa_nil))))) (fun s H fp => pg_name (i := 0) (show (["_law_name"] : List Str).Nodup by decide +kernel) rfl (Or.inl rfl) (Or.inr rfl))
          (fun s H fp => pe_call (X := lcCx _ _ _ _ _ _ _) GT hr rfl mT kT bT .nil pass0 (pa_cons (pe_tup (pa_cons (pe_tup (pa_cons pe_int (pa_cons pe_int (pa_cons (pv 0) (pa_cons pe_non pa_nil))))) pa_nil)) pa_nil))) (pe_op op_rep (pe_lst (pa_cons pe_bl pa_nil)) pe_int) (nomark _)) (pss_one (ps_ret pe_bl)) pss_nil)
      (pss_cons (ps_if (pt_cmpR op_isnot_bl (pe_call GT hr rfl mT kT bT .nil pass0 (pa_cons (pe_tup (pa_cons (pe_tup (pa_cons pe_int (pa_cons pe_int (pa_cons pe_str (pa_cons pe_non pa_nil))))) (pa_cons (pe_tup (pa_cons pe_int (pa_cons pe_int (pa_cons pe_str (pa_cons pe_non pa_nil))))) pa_nil))) pa_nil)) pe_bl (nomark _)) (pss_one (ps_ret pe_bl)) pss_nil)
      (pss_cons (ps_if (pt_cmpR op_isnot_bl (pe_call GT hr rfl mT kT bT .nil pass0 (pa_cons (pe_tup (pa_cons (pe_tup (pa_cons pe_int (pa_cons pe_int (pa_cons pe_str (pa_cons pe_int pa_nil))))) (pa_cons (pe_tup (pa_cons pe_int (pa_cons pe_int (pa_cons pe_str (pa_cons pe_int pa_nil))))) pa_nil))) pa_nil)) pe_bl (nomark _)) (pss_one (ps_ret pe_bl)) pss_nil)
      (pss_cons (ps_if (pt_cmpR (op_eq_tup0 hr.units0) (pv 1) (pe_tup pa_nil) (nomark _)) (pss_one (ps_ret pe_bl)) pss_nil)
      (pss_cons (ps_set (i := 3) scOnce.nd rfl (Or.inl rfl) (pe_call GP hr2 rfl mP kP bP .nil pass0 (pa_cons (pv 0) (pa_cons pe_int (pa_cons (pe_callB call_len_seq rfl T.len PySem.boot_len (pa_cons (pv 1) pa_nil)) pa_nil)))))
      (pss_cons (ps_set (i := 4) scOnce.nd rfl (Or.inl rfl) (pe_ix ix_tup (pv 1) (pv 3) (fun _ _ => rfl)))
      (pss_cons (ps_set (i := 5) scOnce.nd rfl (Or.inl rfl) (pe_lst (pa_cons (pe_op (op_catT.or op_catT0) (pe_op (op_catT.or op_catT0) (pe_slice sl_tup (pv 1) po_none (po_some (pv 3))) (pe_tup (pa_cons (pe_call GX hr1 rfl mX kX bX .nil pass0 (pa_cons (pv 4) (pa_cons (pv 2) pa_nil))) pa_nil))) (pe_slice sl_tup (pv 1) (po_some (pe_op op_add (pv 3) pe_int)) po_none)) pa_nil)))
      (pss_cons (ps_expr (pe_bm PySem.F.plainAttrs_list PySem.F.slot_list_extend PySem.F.type_list_extend mt_extend (pv 5) (pa_cons (pe_lst (pa_cons (pe_op op_catT (pv 1) (pe_tup (pa_cons (pv 4) pa_nil))) (pa_cons (pe_op op_catT (pv 1) (pe_tup (pa_cons (pe_op op_catT (pe_tup (pa_cons pe_int pa_nil)) (pe_slice sl_tup (pv 4) (po_some pe_int) po_none)) pa_nil))) pa_nil))) pa_nil)))
      (pss_cons (ps_if (pt_cmpR op_gt (pe_callB call_len_seq rfl T.len PySem.boot_len (pa_cons (pv 1) pa_nil)) pe_int (nomark _)) (pss_one (ps_expr (pe_bm PySem.F.plainAttrs_list PySem.F.slot_list_append PySem.F.type_list_append mt_append (pv 5) (pa_cons (pe_rev (pv 1) (pe_un un_neg pe_int)) pa_nil)))) pss_nil)
      (pss_one (ps_ret (pe_cmpR op_is_bl (pe_call GT hr rfl mT kT bT .nil pass0 (pa_cons (pe_ix ix_list (pv 5) (pe_op op_mod (pe_call GP hr2 rfl mP kP bP .nil pass0 (pa_cons (pv 0) (pa_cons pe_int (pa_cons (pe_op op_add (pe_callB call_len_seq rfl T.len PySem.boot_len (pa_cons (pv 5) pa_nil)) pe_int) pa_nil)))) (pe_callB call_len_seq rfl T.len PySem.boot_len (pa_cons (pv 5) pa_nil))) (fun _ _ => rfl)) pa_nil)) pe_bl (nomark _))))))))))))))))), ?_⟩
    have l1 : ∀ {n : Nat}, n ≤ 1000 → n ≤ sizeLine := le_line
    refine ⟨_, rfl, a, rfl, hS, fun t zs H1 et hA hl TT ho s1 => ?_⟩
    have ok8 : ∀ z ∈ zs, nodeV (vals z.2) = true ∧ ShortV (.str z.2.nm) := fun z hz => good_ok (ho z hz)
    refine ⟨_, rfl, .ref t, _, rfl, .nodes et hA (by omega) ok8, fun b H2 hb s2 => ⟨b, true, rfl, rfl, _, rfl, ?_⟩⟩
    obtain rfl : b = true := hb.mpr TT
    refine iteF ⟨Nat.zero_le _, fun q1 hq1 => ⟨.ref q1, _, rfl, .nodes (zs := []) upd_same (fun z hz => by simp at hz) (by decide) (by simp), fun b H3 hb3 s3 => ⟨b, true, rfl, rfl, _, rfl, ?_⟩⟩⟩
    obtain rfl : b = true := hb3.mpr tree_nil
    refine iteF ?_
    have S3 : Same H1 H3 := (s2.trans (same_upd hq1)).trans s3
    refine ⟨_, rfl, _, _, rfl, rfl, ⟨by decide, by decide, by decide⟩, a, _, _, rfl, by decide, by decide, hS.same (s1.trans S3), fun c H4 c0 c1 s4 => ?_⟩
    have S4 : Same H1 H4 := S3.trans s4
    -- eight things that are no trees
    refine ⟨_, rfl, t, _, rfl, .inr (SqT.of (S4 _ _ et)), fun g1 hg1 => ?_⟩
    have y1 := same_upd (o := .lst (refs zs)) hg1
    have f1 : Spoilt (upd H4 g1 (.lst (refs zs))) (.ref g1) := sp_lst upd_same
    have S5 := S4.trans y1
    generalize upd H4 g1 (.lst (refs zs)) = J1 at y1 f1 S5 ⊢
    refine ⟨Nat.zero_le _, fun g2 hg2 => ⟨l1 (by simp), fun g3 hg3 => ?_⟩⟩
    have y3 := same_upd (o := .lst [.ref g2]) hg3
    have f3 : Spoilt (upd (upd J1 g2 (.tup [])) g3 (.lst [.ref g2])) (.ref g3) := sp_lst upd_same
    have f1 := (f1.same (same_upd (o := .tup []) hg2)).same y3
    have S5 := (S5.trans (same_upd (o := .tup []) hg2)).trans y3
    generalize upd (upd J1 g2 (.tup [])) g3 (.lst [.ref g2]) = J3 at f1 f3 S5 ⊢
    refine ⟨_, rfl, l1 (by simp), fun g4 hg4 => ?_⟩
    have y4 := same_upd (o := .tup [.ref t]) hg4
    have S5 := S5.trans y4
    have f4 : Spoilt (upd J3 g4 (.tup [.ref t])) (.ref g4) := sp_tree1 upd_same (S5 _ _ et) (hA.same S5)
    have f1 := f1.same y4
    have f3 := f3.same y4
    generalize upd J3 g4 (.tup [.ref t]) = J4 at f1 f3 f4 S5 ⊢
    refine ⟨Nat.zero_le _, fun g5 hg5 => ⟨l1 (by simp), fun g6 hg6 => ?_⟩⟩
    have y5 := same_upd (o := .tup []) hg5
    have y6 := same_upd (o := .tup [.ref g5]) hg6
    have f6 : Spoilt (upd (upd J4 g5 (.tup [])) g6 (.tup [.ref g5])) (.ref g6) := sp_one upd_same (NB.tup (xs := []) (y6 _ _ upd_same) (by simp))
    have S5 := (S5.trans y5).trans y6
    have f1 := (f1.same y5).same y6
    have f3 := (f3.same y5).same y6
    have f4 := (f4.same y5).same y6
    generalize upd (upd J4 g5 (.tup [])) g6 (.tup [.ref g5]) = J6 at f1 f3 f4 f6 S5 ⊢
    refine ⟨l1 (by simp), fun g7 hg7 => ?_⟩
    have y7 := same_upd (o := .lst [.ref g1, .non, .int 0, .str "", .bl true, .ref g3, .ref g4, .ref g6]) hg7
    have e7 : upd J6 g7 (.lst [.ref g1, .non, .int 0, .str "", .bl true, .ref g3, .ref g4, .ref g6]) g7 = some (.lst [.ref g1, .non, .int 0, .str "", .bl true, .ref g3, .ref g4, .ref g6]) := upd_same
    have f7 : ∀ v ∈ [V.ref g1, .non, .int 0, .str "", .bl true, .ref g3, .ref g4, .ref g6], Spoilt (upd J6 g7 (.lst [.ref g1, .non, .int 0, .str "", .bl true, .ref g3, .ref g4, .ref g6])) v := by
      intro v hv
      simp only [List.mem_cons, List.not_mem_nil, or_false] at hv
      rcases hv with rfl | rfl | rfl | rfl | rfl | rfl | rfl | rfl
      · exact f1.same y7
      · exact sp_sc rfl
      · exact sp_sc rfl
      · exact sp_sc sc_0
      · exact sp_sc rfl
      · exact f3.same y7
      · exact f4.same y7
      · exact f6.same y7
    have S5 := S5.trans y7
    generalize upd J6 g7 (.lst [.ref g1, .non, .int 0, .str "", .bl true, .ref g3, .ref g4, .ref g6]) = J7 at f7 S5 e7 ⊢
    have m0 : (0 : Int) ≤ c % 8 := Int.emod_nonneg _ (by decide)
    have m1 : c % 8 < 8 := Int.emod_lt_of_pos _ (by decide)
    obtain ⟨v, hv, gv⟩ := pick_mem (xs := [V.ref g1, .non, .int 0, .str "", .bl true, .ref g3, .ref g4, .ref g6]) m0 m1
    obtain ⟨φ, tr, nφ⟩ := f7 v hv
    refine ⟨_, rfl, _, _, rfl, rfl, (by decide : (0 : Int) < 8), g7, _, _, _, rfl, rfl, SqL.of e7, gv, v, φ, rfl, tr, fun b J8 hb s8 => ⟨b, false, rfl, rfl, _, rfl, ?_⟩⟩
    obtain rfl := b_false hb nφ
    refine iteF ?_
    have S8 := S5.trans s8
    clear f7 f1 f3 f4 f6 S5 s8 tr e7 hb
    -- names that are none
    refine ⟨l1 (by simp), fun q6 hq6 => ⟨q6, rfl, ⟨_, SqT.of upd_same⟩, fun p hp => ?_⟩⟩
    have S9 := S8.trans (same_upd (o := .tup [.str "aB", .str "a1", .str "Ab"]) hq6)
    have e9 : upd J8 q6 (.tup [.str "aB", .str "a1", .str "Ab"]) q6 = some (.tup [.str "aB", .str "a1", .str "Ab"]) := upd_same
    generalize upd J8 q6 (.tup [.str "aB", .str "a1", .str "Ab"]) = J9 at S9 e9 hp ⊢
    refine lc_by (k := 1) (js := []) (J := Itt K q6) (p := p) 3 (by decide) (fun i ys σ' H' => ys = (List.replicate i false).map V.bl ∧ σ'.length = 1 ∧ Same J9 H' ∧ H' p = some (.lst ys))
      ⟨rfl, rfl, same_upd hp, upd_same⟩ (fun i ys σ' H' h => ?_) (fun i ys σ' H' hi h => ?_) (fun ys σ' H' h => ?_) (fun i ys σ' H' hi h v H2 hy => ?_) ?_ ?_
    · rw [h.1, List.length_map, List.length_replicate]; exact Nat.le_refl _
    · obtain ⟨_, _, s2, _⟩ := h
      exact ⟨_, _, SqT.of (s2 _ _ e9), List.getElem?_eq_getElem hi⟩
    · obtain ⟨e1, _, s2, e2⟩ := h
      refine ⟨⟨_, SqT.of (s2 _ _ e9), Nat.le_refl _⟩, ?_⟩
      have S10 := S9.trans s2
      subst e1
      clear s2 S9 e9
      refine ⟨l1 (by simp), fun r1 hr1' => ⟨r1, 3, _, rfl, rfl, upd_same, by decide, by decide, l1 (by simp), fun r2 hr2' => ?_⟩⟩
      have z1 := same_upd (o := .lst [.bl false]) hr1'
      have z2 := same_upd (o := .lst (List.replicate (3 : Int).toNat [V.bl false]).flatten) hr2'
      have e3 := z2 _ _ (z1 _ _ e2)
      have S10 := (S10.trans z1).trans z2
      refine ⟨p, r2, _, [false, false, false], rfl, rfl, SqL.of e3, SqL.of upd_same, rfl, _, rfl, iteF ?_⟩
      clear e3 z1 z2 e2
      generalize upd (upd H' r1 (.lst [.bl false])) r2 (.lst (List.replicate (3 : Int).toNat [V.bl false]).flatten) = J10 at S10 ⊢
      refine ⟨l1 (by simp), fun q7 hq7 => ⟨l1 (by simp), fun q8 hq8 => ⟨l1 (by simp), fun q9 hq9 => ?_⟩⟩⟩
      have z7 := same_upd (o := .tup (vals ⟨1, 2, "a", none⟩)) hq7
      have z8 := same_upd (o := .tup (vals ⟨2, 1, "b", none⟩)) hq8
      have z9 := same_upd (o := .tup [.ref q7, .ref q8]) hq9
      obtain ⟨φ, tr, nφ⟩ := sp_two (n1 := ⟨1, 2, "a", none⟩) (n2 := ⟨2, 1, "b", none⟩) upd_same (z9 _ _ (z8 _ _ upd_same)) (z9 _ _ upd_same) ⟨by decide +kernel, (by decide +kernel : ("a" : Str).length ≤ 100)⟩ ⟨by decide +kernel, (by decide +kernel : ("b" : Str).length ≤ 100)⟩ in_ring
      refine ⟨.ref q9, φ, rfl, tr, fun b J11 hb s11 => ⟨b, false, rfl, rfl, _, rfl, ?_⟩⟩
      obtain rfl := b_false hb nφ
      refine iteF ?_
      have S11 := (((S10.trans z7).trans z8).trans z9).trans s11
      clear z7 z8 z9 s11 tr hb
      refine ⟨l1 (by simp), fun q7 hq7 => ⟨l1 (by simp), fun q8 hq8 => ⟨l1 (by simp), fun q9 hq9 => ?_⟩⟩⟩
      have z7 := same_upd (o := .tup (vals ⟨1, 0, "a", some 1⟩)) hq7
      have z8 := same_upd (o := .tup (vals ⟨2, 1, "b", some 1⟩)) hq8
      have z9 := same_upd (o := .tup [.ref q7, .ref q8]) hq9
      obtain ⟨φ, tr, nφ⟩ := sp_two (n1 := ⟨1, 0, "a", some 1⟩) (n2 := ⟨2, 1, "b", some 1⟩) upd_same (z9 _ _ (z8 _ _ upd_same)) (z9 _ _ upd_same) ⟨by decide +kernel, (by decide +kernel : ("a" : Str).length ≤ 100)⟩ ⟨by decide +kernel, (by decide +kernel : ("b" : Str).length ≤ 100)⟩ in_file
      refine ⟨.ref q9, φ, rfl, tr, fun b J12 hb s12 => ⟨b, false, rfl, rfl, _, rfl, ?_⟩⟩
      obtain rfl := b_false hb nφ
      refine iteF ?_
      have S12 := (((S11.trans z7).trans z8).trans z9).trans s12
      clear z7 z8 z9 s12 tr hb
      refine ⟨_, rfl, Nat.zero_le _, fun q hq => ⟨t, q, refs zs, rfl, rfl, SqT.of (upd_keep hq (S12 _ _ et)), SqT.of upd_same, _, rfl, ?_⟩⟩
      by_cases hz : zs = []
      · subst hz
        exact iteT (k _ ((s1.trans S12).trans (same_upd hq)))
      have hz' : ¬ refs zs = [] := fun e => hz (refs_nil e)
      rw [decide_eq_false hz']
      refine iteF ?_
      have S13 := S12.trans (same_upd (o := .tup []) hq)
      generalize upd J12 q (.tup []) = J13 at S13 ⊢
      have hpos : 0 < zs.length := List.length_pos_iff.mpr hz
      refine ⟨_, rfl, _, rfl, t, _, rfl, .inr (SqT.of (S13 _ _ et)), a, _, _, rfl, by decide, by rw [refs_len]; omega, hS.same (s1.trans S13), fun pl J14 p0 p1 s14 => ?_⟩
      rw [refs_len] at p1
      obtain ⟨i, rfl⟩ := Int.eq_ofNat_of_zero_le p0
      have hi : i < zs.length := by omega
      obtain ⟨z, gz⟩ : ∃ z, zs[i]? = some z := ⟨_, List.getElem?_eq_getElem hi⟩
      have mz := List.mem_of_getElem? gz
      have S14 := S13.trans s14
      refine ⟨_, rfl, _, rfl, t, _, _, _, rfl, rfl, SqT.of (S14 _ _ et), atI_nat (get_refs gz), ?_⟩
      refine ⟨_, rfl, _, rfl, _, rfl, t, _, rfl, SqT.of (S14 _ _ et), ?_, fun c1 hc1 => ?_⟩
      · rw [refs_len, HT.sIx_nat]
        intro h
        have := h.2
        omega
      rw [cut_take (Nat.le_of_lt hi)]
      have z1 := same_upd (o := .tup (refs (zs.take i))) hc1
      have ec1 : upd J14 c1 (.tup (refs (zs.take i))) c1 = some (.tup (refs (zs.take i))) := upd_same
      have S15 := S14.trans z1
      generalize upd J14 c1 (.tup (refs (zs.take i))) = J15 at ec1 S15 ⊢
      refine ⟨_, rfl, _, rfl, z.1, c, z.2, rfl, S15 _ _ (hA z mz), (name_ok (ho z mz).2.2.1).2, fun v J16 bd s16 => ⟨l1 (by simp), fun c2 hc2 => ?_⟩⟩
      have z2 := same_upd (o := .tup [v]) hc2
      have ec2 : upd J16 c2 (.tup [v]) c2 = some (.tup [v]) := upd_same
      have ec1 := z2 _ _ (s16 _ _ ec1)
      have bd := bd.same z2
      have S16 := (S15.trans s16).trans z2
      generalize upd J16 c2 (.tup [v]) = J17 at ec1 ec2 bd S16 ⊢
      have lt : (refs (zs.take i)).length = i := by rw [refs_len, List.length_take]; omega
      have ld : (refs (zs.drop (i + 1))).length ≤ 8 := by rw [refs_len, List.length_drop]; omega
      refine cat_any ec1 ec2 (by rw [lt]; simp; omega) fun r1 J18 s18 er1 => ?_
      have S18 := S16.trans s18
      have bd := bd.same s18
      refine ⟨_, rfl, _, rfl, _, _, rfl, rfl, _, rfl, t, _, rfl, SqT.of (S18 _ _ et), ?_, fun c3 hc3 => ?_⟩
      · rw [refs_len]
        intro h
        have h1 : HT.sIx zs.length 0 (some ((i + 1 : Nat) : Int)) = min (i + 1) zs.length := HT.sIx_nat _ _ _
        have h2 : HT.sIx zs.length 0 (some ((i + 1 : Nat) : Int)) = 0 := h.1
        omega
      have ei : (some ((i : Int) + 1) : Option Int) = some ((i + 1 : Nat) : Int) := rfl
      rw [ei, cut_drop hi]
      have z3 := same_upd (o := .tup (refs (zs.drop (i + 1)))) hc3
      have ec3 : upd J18 c3 (.tup (refs (zs.drop (i + 1)))) c3 = some (.tup (refs (zs.drop (i + 1)))) := upd_same
      have er1 := z3 _ _ er1
      have bd := bd.same z3
      have S19 := S18.trans z3
      generalize upd J18 c3 (.tup (refs (zs.drop (i + 1)))) = J19 at ec3 er1 bd S19 ⊢
      refine cat_any er1 ec3 (by rw [List.length_append, lt]; simp; omega) fun r2 J20 s20 er2 => ?_
      have S20 := S19.trans s20
      have fA : Spoilt J20 (.ref r2) := sp_bad gz er2 (hA.same S20) hl TT ho (bd.same s20)
      refine ⟨l1 (by simp), fun L hL => ?_⟩
      have zL := same_upd (o := .lst [.ref r2]) hL
      have eL : upd J20 L (.lst [.ref r2]) L = some (.lst [.ref r2]) := upd_same
      generalize upd J20 L (.lst [.ref r2]) = J21 at zL eL ⊢
      clear er1 ec1 ec2 ec3 bd S14 S15 S16 S18 S19 s14 s16 s18 s20 z1 z2 z3
      have S21 := S20.trans zL
      refine ⟨_, rfl, .inl ⟨rfl, _, SqL.of eL⟩, _, rfl, _, rfl, l1 (by simp), fun d1 hd1 => ?_⟩
      have zd1 := same_upd (o := .tup [.ref z.1]) hd1
      have lz : (refs zs).length ≤ 8 := by rw [refs_len]; exact hl
      refine cat_two ((S21.trans zd1) _ _ et) upd_same hz' (by simp; omega) fun e1 J22 s22 ee1 => ?_
      have C22 := zd1.trans s22
      refine ⟨_, rfl, l1 (by simp), fun d2 hd2 => ⟨_, rfl, _, rfl, z.1, _, rfl, SqT.of (((S21.trans C22).trans (same_upd hd2)) _ _ (hA z mz)), (fun h => by have h1 : (1 : Nat) = 0 := h.1; cases h1), fun d3 hd3 => ?_⟩⟩
      have zd2 := same_upd (o := .tup [.int 50]) hd2
      have ecut : cutV (vals z.2) (some 1) none = [.int z.2.par, .str z.2.nm, stV z.2.st] := rfl
      rw [ecut]
      have zd3 := same_upd (o := .tup [.int z.2.par, .str z.2.nm, stV z.2.st]) hd3
      refine cat_two (zd3 _ _ upd_same) upd_same (by simp) (by simp) fun d4 J24 s24 ed4 => ⟨l1 (by simp), fun d5 hd5 => ?_⟩
      have zd5 := same_upd (o := .tup [.ref d4]) hd5
      have C25 := (((C22.trans zd2).trans zd3).trans s24).trans zd5
      refine cat_two ((S21.trans C25) _ _ et) upd_same hz' (by simp; omega) fun e2' J26 s26 ee2 => ⟨l1 (by simp), fun M hM => ?_⟩
      have zM := same_upd (o := .lst [.ref e1, .ref e2']) hM
      have C27 := (C25.trans s26).trans zM
      have ee1 := zM _ _ (s26 _ _ (zd5 _ _ (s24 _ _ (zd3 _ _ (zd2 _ _ ee1)))))
      have ee2 := zM _ _ ee2
      have ed4 := zM _ _ (s26 _ _ (zd5 _ _ ed4))
      have eL := C27 _ _ eL
      have eM : upd J26 M (.lst [.ref e1, .ref e2']) M = some (.lst [.ref e1, .ref e2']) := upd_same
      generalize upd J26 M (.lst [.ref e1, .ref e2']) = J27 at C27 ee1 ee2 ed4 eL eM ⊢
      clear zM s26 C25 zd5 s24 zd3 zd2 C22 s22 zd1
      refine ⟨L, M, _, _, rfl, rfl, eL, eM, l1 (by simp), ?_⟩
      have keepT : ∀ {Hx : Hp} {q : Addr} {xs ys : List V} {o : HO}, Hx q = some (.tup xs) → Hx L = some (.lst ys) → upd Hx L o q = some (.tup xs) := fun e1 e2 => by
        rw [upd_ne]
        · exact e1
        · intro e; rw [e, e2] at e1; cases e1
      have C28 : Same J20 (upd J27 L (.lst ([.ref r2] ++ [.ref e1, .ref e2']))) := same_over hL (zL.trans C27)
      have ee1 := keepT (o := .lst ([.ref r2] ++ [.ref e1, .ref e2'])) ee1 eL
      have ee2 := keepT (o := .lst ([.ref r2] ++ [.ref e1, .ref e2'])) ee2 eL
      have ed4 := keepT (o := .lst ([.ref r2] ++ [.ref e1, .ref e2'])) ed4 eL
      have eL : upd J27 L (.lst ([.ref r2] ++ [.ref e1, .ref e2'])) L = some (.lst ([.ref r2] ++ [.ref e1, .ref e2'])) := upd_same
      generalize upd J27 L (.lst ([.ref r2] ++ [.ref e1, .ref e2'])) = J28 at C28 ee1 ee2 ed4 eL ⊢
      -- what all of them are, wherever the list is changed
      have spo : ∀ {Hx : Hp}, Same J20 Hx → Hx e1 = some (.tup (refs zs ++ [.ref z.1])) → Hx e2' = some (.tup (refs zs ++ [.ref d4])) → Hx d4 = some (.tup ([.int 50] ++ [.int z.2.par, .str z.2.nm, stV z.2.st])) → ∀ v ∈ [V.ref r2, .ref e1, .ref e2'], Spoilt Hx v := by
        intro Hx sx h1 h2 h4 v hv
        have hAx := hA.same (S20.trans sx)
        simp only [List.mem_cons, List.not_mem_nil, or_false] at hv
        rcases hv with rfl | rfl | rfl
        · exact fA.same sx
        · refine sp_twice (y := z) mz (by rw [refs_snoc]; exact h1) (fun x hx => ?_) hl ho (ok8 z mz) rfl rfl
          rcases List.mem_append.mp hx with h | h
          · exact hAx x h
          · have : x = z := by simpa using h
            rw [this]; exact hAx z mz
        · refine sp_twice (y := (d4, ⟨50, z.2.par, z.2.nm, z.2.st⟩)) mz (by rw [refs_snoc]; exact h2) (fun x hx => ?_) hl ho ⟨?_, (ok8 z mz).2⟩ rfl rfl
          · rcases List.mem_append.mp hx with h | h
            · exact hAx x h
            · have : x = (d4, ⟨50, z.2.par, z.2.nm, z.2.st⟩) := by simpa using h
              rw [this]; exact h4
          · have g := ho z mz
            have hst : stampV (stV z.2.st) = true := by rcases g.2.2.2 with h | h | h | h | h <;> rw [h] <;> rfl
            show (decide ((1 : Int) ≤ 50) && true && nameB z.2.nm && stampV (stV z.2.st)) = true
            rw [hst, (name_ok g.2.2.1).1]; rfl
      refine ⟨_, rfl, t, _, rfl, .inr (SqT.of ((S20.trans C28) _ _ et)), _, _, rfl, rfl, _, rfl, ?_⟩
      rw [refs_len]
      by_cases h1 : (1 : Int) < (zs.length : Int)
      · rw [decide_eq_true h1]
        refine iteT ⟨_, rfl, .inl ⟨rfl, _, SqL.of eL⟩, _, rfl, _, rfl, t, _, rfl, rfl, SqT.of ((S20.trans C28) _ _ et), fun rv hrv => ⟨L, _, _, rfl, rfl, upd_keep hrv eL, small1000 (by simp), ?_⟩⟩
        have zr := same_upd (o := .tup (refs zs).reverse) hrv
        have er : upd J28 rv (.tup (refs zs).reverse) rv = some (.tup (refs zs).reverse) := upd_same
        have C29 : Same J20 (upd (upd J28 rv (.tup (refs zs).reverse)) L (.lst ([.ref r2] ++ [.ref e1, .ref e2'] ++ [.ref rv]))) := same_over hL (C28.trans zr)
        have eLr := zr _ _ eL
        have ee1 := keepT (o := .lst ([.ref r2] ++ [.ref e1, .ref e2'] ++ [.ref rv])) (zr _ _ ee1) eLr
        have ee2 := keepT (o := .lst ([.ref r2] ++ [.ref e1, .ref e2'] ++ [.ref rv])) (zr _ _ ee2) eLr
        have ed4 := keepT (o := .lst ([.ref r2] ++ [.ref e1, .ref e2'] ++ [.ref rv])) (zr _ _ ed4) eLr
        have er := keepT (o := .lst ([.ref r2] ++ [.ref e1, .ref e2'] ++ [.ref rv])) er eLr
        have eL : upd (upd J28 rv (.tup (refs zs).reverse)) L (.lst ([.ref r2] ++ [.ref e1, .ref e2'] ++ [.ref rv])) L = some (.lst [.ref r2, .ref e1, .ref e2', .ref rv]) := upd_same
        generalize upd (upd J28 rv (.tup (refs zs).reverse)) L (.lst ([.ref r2] ++ [.ref e1, .ref e2'] ++ [.ref rv])) = J30 at C29 ee1 ee2 ed4 er eL ⊢
        have all4 : ∀ v ∈ [V.ref r2, .ref e1, .ref e2', .ref rv], Spoilt J30 v := by
          intro v hv
          rcases List.mem_append.mp (show v ∈ [V.ref r2, .ref e1, .ref e2'] ++ [.ref rv] from hv) with h | h
          · exact spo C29 ee1 ee2 ed4 v h
          · have : v = .ref rv := by simpa using h
            rw [this]
            refine sp_turned ?_ (hA.same (S20.trans C29)) hl ho TT (by omega)
            rw [er]
            unfold refs
            rw [List.map_reverse, List.map_reverse]
        refine ⟨_, rfl, _, rfl, _, rfl, L, _, rfl, .inl (SqL.of eL), _, _, rfl, rfl, a, _, _, rfl, by decide, (show (0 : Int) < ((4 : Nat) : Int) + 3 by decide), hS.same ((s1.trans S20).trans C29), fun d J31 d0 d1 s31 => ?_⟩
        have m0 : (0 : Int) ≤ d % 4 := Int.emod_nonneg _ (by decide)
        have m1 : d % 4 < 4 := Int.emod_lt_of_pos _ (by decide)
        obtain ⟨v, hv, gv⟩ := pick_mem (xs := [V.ref r2, .ref e1, .ref e2', .ref rv]) m0 m1
        obtain ⟨φ, tr, nφ⟩ := (all4 v hv).same s31
        refine ⟨_, rfl, L, _, rfl, .inl (SqL.of (s31 _ _ eL)), _, _, rfl, rfl, (show (0 : Int) < ((4 : Nat) : Int) by decide), L, _, _, _, rfl, rfl, SqL.of (s31 _ _ eL), gv, v, φ, rfl, tr, fun b J32 hb s32 => ⟨b, false, rfl, rfl, ?_⟩⟩
        obtain rfl := b_false hb nφ
        exact k _ ((((s1.trans S20).trans C29).trans s31).trans s32)
      · rw [decide_eq_false h1]
        refine iteF ?_
        have all3 := spo C28 ee1 ee2 ed4
        have eL : J28 L = some (.lst [.ref r2, .ref e1, .ref e2']) := eL
        refine ⟨_, rfl, _, rfl, _, rfl, L, _, rfl, .inl (SqL.of eL), _, _, rfl, rfl, a, _, _, rfl, by decide, (show (0 : Int) < ((3 : Nat) : Int) + 3 by decide), hS.same ((s1.trans S20).trans C28), fun d J31 d0 d1 s31 => ?_⟩
        have m0 : (0 : Int) ≤ d % 3 := Int.emod_nonneg _ (by decide)
        have m1 : d % 3 < 3 := Int.emod_lt_of_pos _ (by decide)
        obtain ⟨v, hv, gv⟩ := pick_mem (xs := [V.ref r2, .ref e1, .ref e2']) m0 m1
        obtain ⟨φ, tr, nφ⟩ := (all3 v hv).same s31
        refine ⟨_, rfl, L, _, rfl, .inl (SqL.of (s31 _ _ eL)), _, _, rfl, rfl, (show (0 : Int) < ((3 : Nat) : Int) by decide), L, _, _, _, rfl, rfl, SqL.of (s31 _ _ eL), gv, v, φ, rfl, tr, fun b J32 hb s32 => ⟨b, false, rfl, rfl, ?_⟩⟩
        obtain rfl := b_false hb nφ
        exact k _ ((((s1.trans S20).trans C28).trans s31).trans s32)
    · obtain ⟨e1, e0, s2, e2⟩ := h
      obtain ⟨o1, rfl⟩ := one_of e0
      obtain ⟨rfl, hx⟩ := hy
      have gx := hx _ (SqT.of (s2 _ _ e9))
      obtain ⟨nm, rfl, hnm, hsc⟩ := bad_name gx
      refine ⟨_, rfl, l1 (by simp), fun q hq => ⟨l1 (by simp), fun q' hq' => ?_⟩⟩
      have z1 := same_upd (o := .tup [.int 1, .int 0, .str nm, .non]) hq
      have z2 := same_upd (o := .tup [.ref q]) hq'
      obtain ⟨φ, tr, nφ⟩ := sp_name (nm := nm) (z2 _ _ upd_same) upd_same hnm hsc
      refine ⟨.ref q', φ, rfl, tr, fun b H3 hb s3 => ?_⟩
      obtain rfl := b_false hb nφ
      have z3 := (z1.trans z2).trans s3
      refine ⟨z3 _ _ e2, ?_, rfl, same_over hp (s2.trans z3), upd_same⟩
      rw [e1, List.replicate_succ', List.map_append]
      rfl
    · rintro _ _ _ _ _ m h
      exact m _ _ h
    · rintro _ _ _ _ m ⟨v1, b0, l4, g⟩
      exact ⟨v1, b0, l4, fun q hq => let ⟨l1, g2⟩ := g q hq; ⟨l1, fun q' hq' => let ⟨v, φ, e1, tr, g3⟩ := g2 q' hq'; ⟨v, φ, e1, tr, fun b H' hb s' => m _ _ (g3 b H' hb s')⟩⟩⟩
end
end TK

set_option Elab.async false
set_option linter.all false
set_option maxRecDepth 100000
set_option maxHeartbeats 8000000
namespace TK
open PySem L2
section
variable {P : Program} {w : World} {K : PySem.W.Frag} {mg : Str → Option Value} {base : Heap}
/-! ### law -/
def spLaw (K : PySem.W.Frag) : Sp := fun vs H Q _ => ∃ (a : Addr) (ns : List Int), vs = [.ref a] ∧ SqL K H a (ns.map V.int) ∧ ns.length ≤ 63 ∧ ∀ H', Q (.bl true) H'
theorem scLaw : FnScope ["_law_script", "_law_turn"] ["_law_script"] (defScope sLaw) := ⟨rfl, rfl, rfl, by decide +kernel, rfl, by decide +kernel, by decide +kernel⟩
theorem ok_law {f : Addr} {fd : FuncData} (F : Fun K "law" "law" sLaw f fd) (T : Txt mg) (CO : Has P w K mg base 5 "_law_once" ["_law_script"] spOnce) : FnOk P w K mg base CX0 6 f fd ["_law_script"] (spLaw K) := by
  obtain ⟨fO, fdO, GO, mO, kO, bO⟩ := CO
  refine F.ok scLaw (fun vs H Q E h => ?_) (fun cdv A outer s H vs Q E hr h => ?_)
  · obtain ⟨a, ns, rfl, _⟩ := h
    rfl
  · obtain ⟨a, ns, rfl, hS, hlen, k⟩ := h
    refine ⟨_, pss_cons (ps_for PassesOwn.never rfl (pi_range1 rfl T.range (pa_cons pe_int pa_nil)) (pg_name (i := 1) scLaw.nd rfl (Or.inr rfl))
      (pss_cons (ps_if (pt_not (pt_val (pe_call GO hr rfl mO kO bO .nil pass0 (pa_cons (pe_lc (N := ["_law_cell_here", "_law_turn"]) (cl := [("_law_turn", s.heap.objs.size + 1)]) (k := 1) (js := [1]) (g := gName 0) rfl
            ⟨rfl, rfl, by decide +kernel, by decide +kernel, fun x c h => h, fun x h => ?has⟩ rfl ?hj
          (pi_list (pv 0)) (fun s H fp => pg_name (i := 0) (show (["_law_cell_here", "_law_turn"] : List Str).Nodup by decide +kernel) rfl (Or.inl rfl) (Or.inr rfl))
          (fun s H fp => pe_op op_add (pv 0) (pe_op op_mul pe_int (pv 1)))) pa_nil)) (fun _ => rfl))) (pss_one (ps_ret pe_bl)) pss_nil)
      (pss_one (ps_if (pt_cmpR (op_eq_lst0 hr.units0) (pv 0) (pe_lst pa_nil) (nomark _)) (pss_one ps_break) pss_nil))))
      (pss_one (ps_ret pe_bl)), ?_⟩
    case has =>
      by_cases e : x = "_law_turn"
      · subst e
        exact ⟨_, rfl⟩
      · exfalso
        rcases h with h | h
        all_goals
          have m := PySem.mem_of_lookup h
          rcases List.mem_cons.mp m with m | m
          · injection m with m1 m2
            cases m2
          · rcases List.mem_cons.mp m with m | m
            · injection m with m1 m2
              cases m2
            · rcases List.mem_cons.mp m with m | m
              · injection m with m1 m2
                exact e m1
              · cases m
    case hj =>
      intro i j x h1 h2
      match i, h1, h2 with
      | 0, h1, h2 =>
        cases h1
        cases h2
        exact ⟨rfl, Or.inr (Or.inl rfl), (show ((defScope sLaw).names.lookup ("_law_turn" : Str) ≠ some NameKind.local) by decide +kernel), by first | exact Or.inl rfl | exact Or.inr rfl⟩
      | i + 1, h1, h2 => simp at h1
    refine ⟨10, rfl, by decide, by decide, for_range (n := 10) (fun i σ H' => ∃ o, σ = [some (.ref a), o] ∧ Same H H') ⟨_, rfl, Same.refl H⟩ (fun i σ H1 hi h => ?_) (fun σ H1 h => ?_)⟩
    · obtain ⟨o, rfl, s1⟩ := h
      have hS1 := s1.seq hS
      refine ⟨_, rfl, a, rfl, ⟨_, hS1⟩, fun p hp => ?_⟩
      refine lc_by (k := 1) (js := [1]) (J := Itl K a) (p := p) ns.length (by omega) (fun j ys σ' H' => ∃ ms : List Int, ys = ms.map V.int ∧ ms.length = j ∧ (∃ o, σ' = [o, some (.int (0 + (i : Int)))]) ∧ Same H1 H' ∧ H' p = some (.lst ys))
        ⟨[], rfl, rfl, ⟨_, rfl⟩, same_upd hp, upd_same⟩ (fun j ys σ' H' h => ?_) (fun j ys σ' H' hj h => ?_) (fun ys σ' H' h => ?_) (fun j ys σ' H' hj h v H2 hy => ?_) ?_ ?_
      · obtain ⟨ms, rfl, e, _⟩ := h
        rw [List.length_map]; omega
      · obtain ⟨_, _, _, _, s2, _⟩ := h
        exact ⟨_, _, s2.seq hS1, List.getElem?_eq_getElem (by rw [List.length_map]; exact hj)⟩
      · obtain ⟨ms, e1, _, _, s2, e2⟩ := h
        refine ⟨⟨_, s2.seq hS1, by rw [List.length_map]; exact Nat.le_refl _⟩, ?_⟩
        subst e1
        refine ⟨p, rfl, ⟨_, e2⟩, fun H3 s3 => ⟨_, rfl, iteF ?_⟩⟩
        have s4 := (s1.trans s2).trans s3
        refine ⟨_, rfl, Nat.zero_le _, fun q hq => ⟨a, q, _, rfl, rfl, (s4.trans (same_upd hq)).seq hS, SqL.of upd_same, _, rfl, ite2 (fun _ => ?_) (fun _ => ?_)⟩⟩
        · exact k _
        · exact ⟨_, rfl, s4.trans (same_upd hq)⟩
      · obtain ⟨ms, e1, e0, ⟨o2, rfl⟩, s2, e2⟩ := h
        obtain ⟨rfl, hx⟩ := hy
        have gx := hx _ (s2.seq hS1)
        rw [List.getElem?_map, List.getElem?_eq_getElem hj] at gx
        cases gx
        refine ⟨_, rfl, _, rfl, _, _, rfl, rfl, .inl ⟨by decide, by decide⟩, _, _, rfl, rfl, e2, ms ++ [ns[j] + 7919 * (0 + (i : Int))], ?_, by simp [e0], ⟨_, rfl⟩, same_over hp s2, upd_same⟩
        rw [e1, List.map_append]
        rfl
      · rintro _ _ _ _ _ m h
        exact m _ _ h
      · rintro _ _ _ _ m ⟨v1, b1, v2, b2, i1, j1, c1, c2, cm, i2, j2, d1, d2, q⟩
        exact ⟨v1, b1, v2, b2, i1, j1, c1, c2, cm, i2, j2, d1, d2, m _ _ q⟩
    · obtain ⟨o, rfl, s1⟩ := h
      exact k _
end
end TK

set_option Elab.async false
set_option linter.all false
set_option maxRecDepth 100000
set_option maxHeartbeats 8000000
namespace TK
open PySem PySem.W PyProof.Rows L2
theorem all_mk {l : PySem.W.OpenLaw} {w : World} {K : PySem.W.Frag} {h : Heap} {mg : Str → Option Value} {fa f1 f2 f3 f4 f5 f6 f7 f8 f9 f10 f11 f12 f13 f14 : Addr} (X : K.In h) (G : h.Ns mainGlobals mg) (hfa : mg "law" = some (.ref fa))
    {od1 an1 od2 an2 od3 an3 od4 an4 od5 an5 od6 an6 od7 an7 od8 an8 od9 an9 od10 an10 od11 an11 od12 an12 od13 an13 od14 an14 : Option Addr} {sl1 sl2 sl3 sl4 sl5 sl6 sl7 sl8 sl9 sl10 sl11 sl12 sl13 sl14 : Array (Option Value)} {oc1 kV1 dc1 pm1 cd1 ct1 oc2 kV2 dc2 pm2 cd2 ct2 oc3 kV3 dc3 pm3 cd3 ct3 oc4 kV4 dc4 pm4 cd4 ct4 oc5 kV5 dc5 pm5 cd5 ct5 oc6 kV6 dc6 pm6 cd6 ct6 oc7 kV7 dc7 pm7 cd7 ct7 oc8 kV8 dc8 pm8 cd8 ct8 oc9 kV9 dc9 pm9 cd9 ct9 oc10 kV10 dc10 pm10 cd10 ct10 oc11 kV11 dc11 pm11 cd11 ct11 oc12 kV12 dc12 pm12 cd12 ct12 oc13 kV13 dc13 pm13 cd13 ct13 oc14 kV14 dc14 pm14 cd14 ct14 : Value} {t1 t2 t3 t4 : Tok}
    (a1 : PySem.W.nsIn K mainGlobals "is_whole" = some (some (.ref f1))) (l1 : K.lookup f1 = some ⟨oc1, od1, .func (PySem.W.fnOf "is_whole" "is_whole" (defArgs sWhole) (defBody sWhole) (defScope sWhole) .none kV1 dc1 pm1 an1 cd1 ct1), sl1⟩) (c1 : PySem.W.codeIn K cd1 "is_whole" = true) (k1 : PySem.W.keepIn K (.ref f1) = true)
    (a2 : PySem.W.nsIn K mainGlobals "is_name" = some (some (.ref f2))) (l2 : K.lookup f2 = some ⟨oc2, od2, .func (PySem.W.fnOf "is_name" "is_name" (defArgs sName) (defBody sName) (defScope sName) .none kV2 dc2 pm2 an2 cd2 ct2), sl2⟩) (c2 : PySem.W.codeIn K cd2 "is_name" = true) (k2 : PySem.W.keepIn K (.ref f2) = true)
    (a3 : PySem.W.nsIn K mainGlobals "is_stamp" = some (some (.ref f3))) (l3 : K.lookup f3 = some ⟨oc3, od3, .func (PySem.W.fnOf "is_stamp" "is_stamp" (defArgs sStamp) (defBody sStamp) (defScope sStamp) .none kV3 dc3 pm3 an3 cd3 ct3), sl3⟩) (c3 : PySem.W.codeIn K cd3 "is_stamp" = true) (k3 : PySem.W.keepIn K (.ref f3) = true)
    (a4 : PySem.W.nsIn K mainGlobals "is_node" = some (some (.ref f4))) (l4 : K.lookup f4 = some ⟨oc4, od4, .func (PySem.W.fnOf "is_node" "is_node" (defArgs sNode) (defBody sNode) (defScope sNode) .none kV4 dc4 pm4 an4 cd4 ct4), sl4⟩) (c4 : PySem.W.codeIn K cd4 "is_node" = true) (k4 : PySem.W.keepIn K (.ref f4) = true)
    (a5 : PySem.W.nsIn K mainGlobals "are_rising" = some (some (.ref f5))) (l5 : K.lookup f5 = some ⟨oc5, od5, .func (PySem.W.fnOf "are_rising" "are_rising" (defArgs sRise) (defBody sRise) (defScope sRise) .none kV5 dc5 pm5 an5 cd5 ct5), sl5⟩) (c5 : PySem.W.codeIn K cd5 "are_rising" = true) (k5 : PySem.W.keepIn K (.ref f5) = true)
    (a6 : PySem.W.nsIn K mainGlobals "have_own_places" = some (some (.ref f6))) (l6 : K.lookup f6 = some ⟨oc6, od6, .func (PySem.W.fnOf "have_own_places" "have_own_places" (defArgs sOwn) (defBody sOwn) (defScope sOwn) .none kV6 dc6 pm6 an6 cd6 ct6), sl6⟩) (c6 : PySem.W.codeIn K cd6 "have_own_places" = true) (k6 : PySem.W.keepIn K (.ref f6) = true)
    (a7 : PySem.W.nsIn K mainGlobals "numbers_inside" = some (some (.ref f7))) (l7 : K.lookup f7 = some ⟨oc7, od7, .func (PySem.W.fnOf "numbers_inside" "numbers_inside" (defArgs sIns) (defBody sIns) (defScope sIns) .none kV7 dc7 pm7 an7 cd7 ct7), sl7⟩) (c7 : PySem.W.codeIn K cd7 "numbers_inside" = true) (k7 : PySem.W.keepIn K (.ref f7) = true)
    (a8 : PySem.W.nsIn K mainGlobals "is_tree" = some (some (.ref f8))) (l8 : K.lookup f8 = some ⟨oc8, od8, .func (PySem.W.fnOf "is_tree" "is_tree" (defArgs sTree) (defBody sTree) (defScope sTree) .none kV8 dc8 pm8 an8 cd8 ct8), sl8⟩) (c8 : PySem.W.codeIn K cd8 "is_tree" = true) (k8 : PySem.W.keepIn K (.ref f8) = true)
    (a9 : PySem.W.nsIn K mainGlobals "_law_cell" = some (some (.ref f9))) (l9 : K.lookup f9 = some ⟨oc9, od9, .func (PySem.W.fnOf "_law_cell" "_law_cell" (defArgs sCell) (defBody sCell) (defScope sCell) .none kV9 dc9 pm9 an9 cd9 ct9), sl9⟩) (c9 : PySem.W.codeIn K cd9 "_law_cell" = true) (k9 : PySem.W.keepIn K (.ref f9) = true)
    (a10 : PySem.W.nsIn K mainGlobals "_law_pick" = some (some (.ref f10))) (l10 : K.lookup f10 = some ⟨oc10, od10, .func (PySem.W.fnOf "_law_pick" "_law_pick" (defArgs sPick) (defBody sPick) (defScope sPick) .none kV10 dc10 pm10 an10 cd10 ct10), sl10⟩) (c10 : PySem.W.codeIn K cd10 "_law_pick" = true) (k10 : PySem.W.keepIn K (.ref f10) = true)
    (a11 : PySem.W.nsIn K mainGlobals "_law_tree" = some (some (.ref f11))) (l11 : K.lookup f11 = some ⟨oc11, od11, .func (PySem.W.fnOf "_law_tree" "_law_tree" (defArgs sBuild) (defBody sBuild) (defScope sBuild) .none kV11 dc11 pm11 an11 cd11 ct11), sl11⟩) (c11 : PySem.W.codeIn K cd11 "_law_tree" = true) (k11 : PySem.W.keepIn K (.ref f11) = true)
    (a12 : PySem.W.nsIn K mainGlobals "_law_bad_node" = some (some (.ref f12))) (l12 : K.lookup f12 = some ⟨oc12, od12, .func (PySem.W.fnOf "_law_bad_node" "_law_bad_node" (defArgs sBad) (defBody sBad) (defScope sBad) .none kV12 dc12 pm12 an12 cd12 ct12), sl12⟩) (c12 : PySem.W.codeIn K cd12 "_law_bad_node" = true) (k12 : PySem.W.keepIn K (.ref f12) = true)
    (a13 : PySem.W.nsIn K mainGlobals "_law_once" = some (some (.ref f13))) (l13 : K.lookup f13 = some ⟨oc13, od13, .func (PySem.W.fnOf "_law_once" "_law_once" (defArgs sOnce) (defBody sOnce) (defScope sOnce) .none kV13 dc13 pm13 an13 cd13 ct13), sl13⟩) (c13 : PySem.W.codeIn K cd13 "_law_once" = true) (k13 : PySem.W.keepIn K (.ref f13) = true)
    (a14 : PySem.W.nsIn K mainGlobals "law" = some (some (.ref f14))) (l14 : K.lookup f14 = some ⟨oc14, od14, .func (PySem.W.fnOf "law" "law" (defArgs sLaw) (defBody sLaw) (defScope sLaw) .none kV14 dc14 pm14 an14 cd14 ct14), sl14⟩) (c14 : PySem.W.codeIn K cd14 "law" = true) (k14 : PySem.W.keepIn K (.ref f14) = true)
    (z1 : PySem.W.nsIn K mainGlobals "isinstance" = some none)
    (z2 : PySem.W.nsIn K mainGlobals "int" = some none)
    (z3 : PySem.W.nsIn K mainGlobals "bool" = some none)
    (z4 : PySem.W.nsIn K mainGlobals "str" = some none)
    (z5 : PySem.W.nsIn K mainGlobals "len" = some none)
    (z6 : PySem.W.nsIn K mainGlobals "all" = some none)
    (z7 : PySem.W.nsIn K mainGlobals "tuple" = some none)
    (z8 : PySem.W.nsIn K mainGlobals "zip" = some none)
    (z9 : PySem.W.nsIn K mainGlobals "set" = some none)
    (z10 : PySem.W.nsIn K mainGlobals "list" = some none)
    (z11 : PySem.W.nsIn K mainGlobals "range" = some none)
    (z12 : PySem.W.nsIn K mainGlobals "sorted" = some none)
    (v1 : PySem.W.nsIn K mainGlobals "TOP" = some (some (.int 0 t1))) (v2 : PySem.W.nsIn K mainGlobals "LETTERS" = some (some (.str "abcdefghijklmnopqrstuvwxyz" t2))) (v3 : PySem.W.nsIn K mainGlobals "LONGEST_NAME" = some (some (.int 5 t3))) (v4 : PySem.W.nsIn K mainGlobals "GREATEST_STAMP" = some (some (.int 999 t4))) :
    ∃ fd : FuncData, (∀ (s : Shared) (v : Value), BindsTo s fd ⟨[v], []⟩ [("_law_script", v)]) ∧ ∀ base : Heap, K.In base → base.Ns mainGlobals mg → FnOk l.prog w K mg base CX0 6 fa fd ["_law_script"] (spLaw K) := by
  have e := hfa.symm.trans (PySem.W.mg_of X G a14)
  cases e
  have T : Txt mg := ⟨PySem.W.mg_none_of X G z1, PySem.W.mg_none_of X G z2, PySem.W.mg_none_of X G z3, PySem.W.mg_none_of X G z4, PySem.W.mg_none_of X G z5, PySem.W.mg_none_of X G z6, PySem.W.mg_none_of X G z7, PySem.W.mg_none_of X G z8, PySem.W.mg_none_of X G z9, PySem.W.mg_none_of X G z10, PySem.W.mg_none_of X G z11, PySem.W.mg_none_of X G z12, ⟨_, PySem.W.mg_of X G v1⟩, ⟨_, PySem.W.mg_of X G v2⟩, ⟨_, PySem.W.mg_of X G v3⟩, ⟨_, PySem.W.mg_of X G v4⟩⟩
  have F1 := fun_mk (st := sWhole) l1 c1 k1
  have b1 := F1.binds (ps := ["thing"]) fun _ _ _ _ _ _ us hl => match us, hl with | [_], _ => rfl
  have m1 := PySem.W.mg_of X G a1
  have F2 := fun_mk (st := sName) l2 c2 k2
  have b2 := F2.binds (ps := ["thing"]) fun _ _ _ _ _ _ us hl => match us, hl with | [_], _ => rfl
  have m2 := PySem.W.mg_of X G a2
  have F3 := fun_mk (st := sStamp) l3 c3 k3
  have b3 := F3.binds (ps := ["thing"]) fun _ _ _ _ _ _ us hl => match us, hl with | [_], _ => rfl
  have m3 := PySem.W.mg_of X G a3
  have F4 := fun_mk (st := sNode) l4 c4 k4
  have b4 := F4.binds (ps := ["thing"]) fun _ _ _ _ _ _ us hl => match us, hl with | [_], _ => rfl
  have m4 := PySem.W.mg_of X G a4
  have F5 := fun_mk (st := sRise) l5 c5 k5
  have b5 := F5.binds (ps := ["nodes"]) fun _ _ _ _ _ _ us hl => match us, hl with | [_], _ => rfl
  have m5 := PySem.W.mg_of X G a5
  have F6 := fun_mk (st := sOwn) l6 c6 k6
  have b6 := F6.binds (ps := ["nodes"]) fun _ _ _ _ _ _ us hl => match us, hl with | [_], _ => rfl
  have m6 := PySem.W.mg_of X G a6
  have F7 := fun_mk (st := sIns) l7 c7 k7
  have b7 := F7.binds (ps := ["nodes", "folder"]) fun _ _ _ _ _ _ us hl => match us, hl with | [_, _], _ => rfl
  have m7 := PySem.W.mg_of X G a7
  have F8 := fun_mk (st := sTree) l8 c8 k8
  have b8 := F8.binds (ps := ["thing"]) fun _ _ _ _ _ _ us hl => match us, hl with | [_], _ => rfl
  have m8 := PySem.W.mg_of X G a8
  have F9 := fun_mk (st := sCell) l9 c9 k9
  have b9 := F9.binds (ps := ["_law_script", "_law_k"]) fun _ _ _ _ _ _ us hl => match us, hl with | [_, _], _ => rfl
  have m9 := PySem.W.mg_of X G a9
  have F10 := fun_mk (st := sPick) l10 c10 k10
  have b10 := F10.binds (ps := ["_law_script", "_law_k", "_law_many"]) fun _ _ _ _ _ _ us hl => match us, hl with | [_, _, _], _ => rfl
  have m10 := PySem.W.mg_of X G a10
  have F11 := fun_mk (st := sBuild) l11 c11 k11
  have b11 := F11.binds (ps := ["_law_script", "_law_at", "_law_most"]) fun _ _ _ _ _ _ us hl => match us, hl with | [_, _, _], _ => rfl
  have m11 := PySem.W.mg_of X G a11
  have F12 := fun_mk (st := sBad) l12 c12 k12
  have b12 := F12.binds (ps := ["_law_node", "_law_cell_here"]) fun _ _ _ _ _ _ us hl => match us, hl with | [_, _], _ => rfl
  have m12 := PySem.W.mg_of X G a12
  have F13 := fun_mk (st := sOnce) l13 c13 k13
  have b13 := F13.binds (ps := ["_law_script"]) fun _ _ _ _ _ _ us hl => match us, hl with | [_], _ => rfl
  have m13 := PySem.W.mg_of X G a13
  have F14 := fun_mk (st := sLaw) l14 c14 k14
  refine ⟨PySem.W.fnOf "law" "law" (defArgs sLaw) (defBody sLaw) (defScope sLaw) .none kV14 dc14 pm14 an14 cd14 ct14, fun s v => .of_eq rfl, fun base _ _ => ?_⟩
  have U : Ups l.prog w K mg base := ⟨⟨f4, _, ok_node F4 T F1 b1 m1 F2 b2 m2 F3 b3 m3, m4, k4, b4⟩, ⟨f5, _, ok_rise F5 T, m5, k5, b5⟩, ⟨f6, _, ok_own F6 T, m6, k6, b6⟩, ⟨f7, _, ok_ins F7 T, m7, k7, b7⟩⟩
  have CT : Has l.prog w K mg base 4 "is_tree" ["thing"] spTree := ⟨f8, _, ok_tree F8 T U, m8, k8, b8⟩
  have CC : Has l.prog w K mg base 1 "_law_cell" ["_law_script", "_law_k"] spCell := ⟨f9, _, ok_cell F9 T, m9, k9, b9⟩
  have CP : Has l.prog w K mg base 2 "_law_pick" ["_law_script", "_law_k", "_law_many"] spPick := ⟨f10, _, ok_pick F10 T CC, m10, k10, b10⟩
  have CB : Has l.prog w K mg base 3 "_law_tree" ["_law_script", "_law_at", "_law_most"] spBuild := ⟨f11, _, ok_build F11 T CP, m11, k11, b11⟩
  have CX : Has l.prog w K mg base 1 "_law_bad_node" ["_law_node", "_law_cell_here"] spBad := ⟨f12, _, ok_bad F12 T, m12, k12, b12⟩
  have CO : Has l.prog w K mg base 5 "_law_once" ["_law_script"] spOnce := ⟨f13, _, ok_once F13 T CB CT CP CX, m13, k13, b13⟩
  exact ok_law F14 T CO
theorem walk {l : PySem.W.OpenLaw} {q : Program} {loose : List Str} {XP : (Str → Option Value) → Heap → Prop} {YP : World → Heap → Prop} {d : DefRec} {K : Params → PySem.W.Frag} (hn : l.most = some 63) (hdf : d.params.defaults = [])
    (hY : ∀ (w : World) (h : Heap), YP w h → (K w.params).In h)
    (F : ∀ (w : World) (mg : Str → Option Value) (fa : Addr) (h : Heap), (K w.params).In h → h.Ns mainGlobals mg → mg d.name = some (.ref fa) →
      ∃ fd : FuncData, (∀ (s : Shared) (u : Value), BindsTo s fd ⟨[u], []⟩ [("_law_script", u)]) ∧ ∀ base : Heap, (K w.params).In base → base.Ns mainGlobals mg → FnOk l.prog w (K w.params) mg base CX0 6 fa fd ["_law_script"] (spLaw (K w.params))) :
    PySem.W.WalkO q loose XP YP l.row.toRowW d [] (fun f vs => PySem.call f vs) :=
  L2.walk_of (n := 63) (k := 6) (x := "_law_script") (CX := fun _ => CX0) (sp := fun w => spLaw (K w.params)) hn (by decide) hdf ⟨rfl, by decide, by decide⟩ hY F (fun _ _ a ns hl _ hS => ⟨a, ns, rfl, hS, hl, fun _ => rfl⟩) fun _ _ _ _ _ z => z
end TK
open PySem PySem.W PyProof.Rows
set_option maxRecDepth 100000 in
set_option maxHeartbeats 0 in
theorem PySem.Challenge.cw_treewatch_k01_trees_holds : PySem.Challenge.rw_treewatch_k01_trees.Holds := by
  w_on; o_law; k_head; (case hw => w_witness2)
  k_fill
  refine TK.walk (l := PySem.Challenge.rw_treewatch_k01_trees) rfl rfl (fun w h Y => PySem.W.kIn_of Y) ?F
  case F =>
    intro w mg fa h KX G hmg
    refine' TK.all_mk KX G hmg ?a1 ?l1 ?c1 ?k1 ?a2 ?l2 ?c2 ?k2 ?a3 ?l3 ?c3 ?k3 ?a4 ?l4 ?c4 ?k4 ?a5 ?l5 ?c5 ?k5 ?a6 ?l6 ?c6 ?k6 ?a7 ?l7 ?c7 ?k7 ?a8 ?l8 ?c8 ?k8 ?a9 ?l9 ?c9 ?k9 ?a10 ?l10 ?c10 ?k10 ?a11 ?l11 ?c11 ?k11 ?a12 ?l12 ?c12 ?k12 ?a13 ?l13 ?c13 ?k13 ?a14 ?l14 ?c14 ?k14 ?z1 ?z2 ?z3 ?z4 ?z5 ?z6 ?z7 ?z8 ?z9 ?z10 ?z11 ?z12 ?v1 ?v2 ?v3 ?v4
    (case a1 => k_is); (case l1 => k_is); (case c1 => k_is); (case k1 => k_is); (case a2 => k_is); (case l2 => k_is); (case c2 => k_is); (case k2 => k_is)
    (case a3 => k_is); (case l3 => k_is); (case c3 => k_is); (case k3 => k_is); (case a4 => k_is); (case l4 => k_is); (case c4 => k_is); (case k4 => k_is)
    (case a5 => k_is); (case l5 => k_is); (case c5 => k_is); (case k5 => k_is); (case a6 => k_is); (case l6 => k_is); (case c6 => k_is); (case k6 => k_is)
    (case a7 => k_is); (case l7 => k_is); (case c7 => k_is); (case k7 => k_is); (case a8 => k_is); (case l8 => k_is); (case c8 => k_is); (case k8 => k_is)
    (case a9 => k_is); (case l9 => k_is); (case c9 => k_is); (case k9 => k_is); (case a10 => k_is); (case l10 => k_is); (case c10 => k_is); (case k10 => k_is)
    (case a11 => k_is); (case l11 => k_is); (case c11 => k_is); (case k11 => k_is); (case a12 => k_is); (case l12 => k_is); (case c12 => k_is); (case k12 => k_is)
    (case a13 => k_is); (case l13 => k_is); (case c13 => k_is); (case k13 => k_is); (case a14 => k_is); (case l14 => k_is); (case c14 => k_is); (case k14 => k_is)
    (case z1 => k_is); (case z2 => k_is); (case z3 => k_is); (case z4 => k_is); (case z5 => k_is); (case z6 => k_is); (case z7 => k_is); (case z8 => k_is)
    (case z9 => k_is); (case z10 => k_is); (case z11 => k_is); (case z12 => k_is); (case v1 => k_is); (case v2 => k_is); (case v3 => k_is); (case v4 => k_is)
