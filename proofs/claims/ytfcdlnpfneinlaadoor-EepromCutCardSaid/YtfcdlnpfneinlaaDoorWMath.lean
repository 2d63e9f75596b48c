/-
  LEVELS, EVENTS, RUNS AS VALUES.
-/
import Derived.Test.YtfcdlnpfneinlaaDoorRows
namespace Go.Proofs.YtfcdlnpfneinlaaDoor

/-- the clock, and the data -/
abbrev Lev := Bool × Bool
def up : Lev := (true, true)
/-- what is told from one level to the next -/
def tell (a b : Lev) : Int :=
  if a.1 && b.1 then (if a.2 && !b.2 then 1 else if !a.2 && b.2 then 2 else 0)
  else if !a.1 && b.1 then 3 else if a.1 && !b.1 then 4 else 0
/-- the level in a cycle, and that ahead of it -/
def at_ (l : List Lev) (i : Nat) : Lev := l.getD i up
def was (l : List Lev) : Nat → Lev
  | 0 => up
  | i + 1 => at_ l i
def ev (l : List Lev) (i : Nat) : Int := tell (was l i) (at_ l i)
def evTo (l : List Lev) (k : Nat) : List Int := (List.range k).map (ev l)
def evs (l : List Lev) : List Int := evTo l l.length
theorem evTo_succ (l : List Lev) (k : Nat) : evTo l (k + 1) = evTo l k ++ [ev l k] := by
  unfold evTo
  rw [List.range_succ, List.map_append]
  rfl
theorem evTo_len (l : List Lev) (k : Nat) : (evTo l k).length = k := by simp [evTo]
theorem evTo_get (l : List Lev) (k i : Nat) (h : i < k) : (evTo l k)[i]? = some (ev l i) := by simp [evTo, h]
theorem evTo_getD (l : List Lev) (k i : Nat) (h : i < k) : (evTo l k).getD i 0 = ev l i := by simp [List.getD, evTo_get l k i h]
theorem at_get {l : List Lev} {i : Nat} (h : i < l.length) : l[i]? = some (at_ l i) := by simp [at_, List.getD, h]
theorem tell_in (a b : Lev) : tell a b = 0 ∨ tell a b = 1 ∨ tell a b = 2 ∨ tell a b = 3 ∨ tell a b = 4 := by
  obtain ⟨_ | _, _ | _⟩ := a <;> obtain ⟨_ | _, _ | _⟩ := b <;> decide
theorem tell_le (a b : Lev) : 0 ≤ tell a b ∧ tell a b ≤ 4 := by rcases tell_in a b with h | h | h | h | h <;> omega
theorem evTo_in (l : List Lev) (k : Nat) : ∀ v ∈ evTo l k, 0 ≤ v ∧ v ≤ 4 := by
  intro v hv
  obtain ⟨i, _, rfl⟩ := List.mem_map.1 hv
  exact tell_le _ _

/-- a run: its bits, and whether a Stop ended it -/
abbrev RunD := List Bool × Bool
/-- what an event does to a run that is open, or closed -/
def cs (e : Int) (sda : Bool) (x : RunD × Bool) : RunD × Bool :=
  if x.2 = false then x
  else if e = 1 then (x.1, false)
  else if e = 2 then ((x.1.1, true), false)
  else if e = 3 then ((x.1.1 ++ [sda], x.1.2), true)
  else x
/-- all runs behind so many cycles -/
def mac (l : List Lev) : Nat → List (RunD × Bool)
  | 0 => []
  | n + 1 => (mac l n).map (cs (ev l n) (at_ l n).2) ++ (if ev l n = 1 then [(([], false), true)] else [])
def runsTo (l : List Lev) (n : Nat) : List RunD := (mac l n).map (·.1)
def runs (l : List Lev) : List RunD := runsTo l l.length
/-- is the last one open? -/
def opened (m : List (RunD × Bool)) : Bool := match m.getLast? with | some x => x.2 | none => false

theorem cs_closed (e : Int) (s : Bool) (x : RunD × Bool) (h : x.2 = false) : cs e s x = x := by unfold cs; rw [if_pos h]
theorem cs_start (s : Bool) (x : RunD × Bool) : cs 1 s x = (x.1, false) := by
  obtain ⟨r, b⟩ := x
  cases b <;> rfl
theorem cs_none (s : Bool) (x : RunD × Bool) : cs 0 s x = x := by
  obtain ⟨r, b⟩ := x
  cases b <;> rfl
theorem cs_fall (s : Bool) (x : RunD × Bool) : cs 4 s x = x := by
  obtain ⟨r, b⟩ := x
  cases b <;> rfl

/-- all but the last one are closed -/
theorem mac_closed (l : List Lev) : ∀ n, ∀ x ∈ (mac l n).dropLast, x.2 = false := by
  intro n
  induction n with
  | zero => intro x hx; simp [mac] at hx
  | succ n ih =>
    intro x hx
    rw [mac] at hx
    by_cases he : ev l n = 1
    · rw [if_pos he, List.dropLast_concat, he] at hx
      obtain ⟨y, _, rfl⟩ := List.mem_map.1 hx
      rw [cs_start]
    · rw [if_neg he, List.append_nil, ← List.map_dropLast] at hx
      obtain ⟨y, hy, rfl⟩ := List.mem_map.1 hx
      rw [cs_closed _ _ _ (ih y hy)]
      exact ih y hy
/-- one open run stands at the end -/
theorem mac_form (l : List Lev) (n : Nat) : (opened (mac l n) = false ∧ (∀ x ∈ mac l n, x.2 = false)) ∨ ∃ init r, mac l n = init ++ [(r, true)] ∧ (∀ x ∈ init, x.2 = false) ∧ opened (mac l n) = true := by
  have hc := mac_closed l n
  generalize mac l n = m at *
  rcases List.eq_nil_or_concat m with rfl | ⟨init, ⟨r, b⟩, hm⟩
  · exact .inl ⟨rfl, by simp⟩
  · rw [List.concat_eq_append] at hm
    subst hm
    rw [List.dropLast_concat] at hc
    cases b
    · refine .inl ⟨by simp [opened], fun x hx => ?_⟩
      rw [List.mem_append] at hx
      rcases hx with hx | hx
      · exact hc x hx
      · simp at hx
        rw [hx]
    · exact .inr ⟨init, r, rfl, hc, by simp [opened]⟩
theorem map_closed {m : List (RunD × Bool)} (e : Int) (s : Bool) (h : ∀ x ∈ m, x.2 = false) : m.map (cs e s) = m := by
  have : m.map (cs e s) = m.map id := List.map_congr_left fun x hx => by rw [cs_closed e s x (h x hx)]; rfl
  rw [this, List.map_id]

/-- what each event does to the runs -/
theorem runs_start (l : List Lev) (n : Nat) (h : ev l n = 1) : runsTo l (n + 1) = runsTo l n ++ [([], false)] ∧ opened (mac l (n + 1)) = true := by
  unfold runsTo
  rw [mac, if_pos h, h]
  refine ⟨?_, by simp [opened]⟩
  rw [List.map_append, List.map_map]
  congr 1
  exact List.map_congr_left fun x _ => by show (cs 1 _ x).1 = x.1; rw [cs_start]
theorem runs_idle (l : List Lev) (n : Nat) (h : ev l n ≠ 1) (ho : opened (mac l n) = false) : runsTo l (n + 1) = runsTo l n ∧ opened (mac l (n + 1)) = false := by
  rcases mac_form l n with ⟨_, hc⟩ | ⟨init, r, _, _, h1⟩
  · have : mac l (n + 1) = mac l n := by rw [mac, if_neg h, List.append_nil, map_closed _ _ hc]
    unfold runsTo
    rw [this]
    exact ⟨rfl, ho⟩
  · rw [h1] at ho
    cases ho
theorem runs_same (l : List Lev) (n : Nat) (h : ev l n = 0 ∨ ev l n = 4) : runsTo l (n + 1) = runsTo l n ∧ opened (mac l (n + 1)) = opened (mac l n) := by
  have : mac l (n + 1) = mac l n := by
    rw [mac, if_neg (by omega), List.append_nil]
    rcases h with h | h
    · rw [h]
      conv => rhs; rw [← List.map_id (mac l n)]
      exact List.map_congr_left fun x _ => cs_none _ x
    · rw [h]
      conv => rhs; rw [← List.map_id (mac l n)]
      exact List.map_congr_left fun x _ => cs_fall _ x
  unfold runsTo
  rw [this]
  exact ⟨rfl, rfl⟩
/-- an open run has no Stop -/
theorem mac_open (l : List Lev) : ∀ n, ∀ x ∈ mac l n, x.2 = true → x.1.2 = false := by
  intro n
  induction n with
  | zero => intro x hx; simp [mac] at hx
  | succ n ih =>
    intro x hx h2
    rw [mac, List.mem_append] at hx
    rcases hx with hx | hx
    · obtain ⟨y, hy, rfl⟩ := List.mem_map.1 hx
      have h := ih y hy
      obtain ⟨⟨b, st⟩, op⟩ := y
      unfold cs at h2 ⊢
      cases op
      · simp at h2
      · simp only [Bool.true_eq_false, if_false] at h2 ⊢
        split at h2
        · cases h2
        · rename_i h1
          rw [if_neg h1]
          split at h2
          · cases h2
          · rename_i h3
            rw [if_neg h3]
            split
            · exact h rfl
            · exact h rfl
    · split at hx
      · simp at hx
        rw [hx]
      · cases hx
theorem runs_stop (l : List Lev) (n : Nat) (h : ev l n = 2) (ho : opened (mac l n) = true) : ∃ rs bits, runsTo l n = rs ++ [(bits, false)] ∧ runsTo l (n + 1) = rs ++ [(bits, true)] ∧ opened (mac l (n + 1)) = false := by
  rcases mac_form l n with ⟨h1, _⟩ | ⟨init, ⟨bits, st⟩, hm, hc, _⟩
  · rw [h1] at ho; cases ho
  · have hst : st = false := mac_open l n ((bits, st), true) (by rw [hm]; simp) rfl
    subst hst
    have hn : mac l (n + 1) = init ++ [((bits, true), false)] := by
      rw [mac, if_neg (by omega), List.append_nil, hm, List.map_append, map_closed _ _ hc, h]
      rfl
    unfold runsTo
    rw [hn, hm]
    exact ⟨init.map (·.1), bits, by simp, by simp, by simp [opened]⟩
theorem runs_rise (l : List Lev) (n : Nat) (h : ev l n = 3) (ho : opened (mac l n) = true) : ∃ rs bits, runsTo l n = rs ++ [(bits, false)] ∧ runsTo l (n + 1) = rs ++ [(bits ++ [(at_ l n).2], false)] ∧ opened (mac l (n + 1)) = true := by
  rcases mac_form l n with ⟨h1, _⟩ | ⟨init, ⟨bits, st⟩, hm, hc, _⟩
  · rw [h1] at ho; cases ho
  · have hst : st = false := mac_open l n ((bits, st), true) (by rw [hm]; simp) rfl
    subst hst
    have hn : mac l (n + 1) = init ++ [((bits ++ [(at_ l n).2], false), true)] := by
      rw [mac, if_neg (by omega), List.append_nil, hm, List.map_append, map_closed _ _ hc, h]
      rfl
    unfold runsTo
    rw [hn, hm]
    exact ⟨init.map (·.1), bits, by simp, by simp, by simp [opened]⟩
theorem mac_len (l : List Lev) : ∀ n, (mac l n).length ≤ n
  | 0 => by simp [mac]
  | n + 1 => by
    have := mac_len l n
    rw [mac, List.length_append, List.length_map]
    split
    · simp; omega
    · simp; omega
theorem runsTo_len (l : List Lev) (n : Nat) : (runsTo l n).length ≤ n := by unfold runsTo; rw [List.length_map]; exact mac_len l n
theorem cs_len (e : Int) (s : Bool) (x : RunD × Bool) : (cs e s x).1.1.length ≤ x.1.1.length + 1 := by
  unfold cs
  repeat' split
  all_goals simp
theorem mac_bits (l : List Lev) : ∀ n, ∀ x ∈ mac l n, x.1.1.length ≤ n := by
  intro n
  induction n with
  | zero => intro x hx; simp [mac] at hx
  | succ n ih =>
    intro x hx
    rw [mac, List.mem_append] at hx
    rcases hx with hx | hx
    · obtain ⟨y, hy, rfl⟩ := List.mem_map.1 hx
      have := ih y hy
      have := cs_len (ev l n) (at_ l n).2 y
      omega
    · split at hx
      · simp at hx
        rw [hx]
        simp
      · cases hx
theorem runsTo_bits (l : List Lev) (n : Nat) : ∀ x ∈ runsTo l n, x.1.length ≤ n := by
  intro x hx
  obtain ⟨y, hy, rfl⟩ := List.mem_map.1 hx
  exact mac_bits l n y hy

/-- the run of the Start in cycle i, so many cycles behind it -/
def col (l : List Lev) (i : Nat) : Nat → RunD × Bool
  | 0 => (([], false), true)
  | m + 1 => cs (ev l (i + 1 + m)) (at_ l (i + 1 + m)).2 (col l i m)
def starts (l : List Lev) (k : Nat) : List Nat := (List.range k).filter fun i => ev l i = 1
theorem mac_col (l : List Lev) : ∀ n, mac l n = (starts l n).map fun i => col l i (n - (i + 1))
  | 0 => rfl
  | n + 1 => by
    rw [mac, mac_col l n, show starts l (n + 1) = starts l n ++ (if ev l n = 1 then [n] else []) by unfold starts; rw [List.range_succ, List.filter_append]; by_cases h : ev l n = 1 <;> simp [h], List.map_append, List.map_map]
    congr 1
    · refine List.map_congr_left fun i hi => ?_
      have hi : i < n := by simp [starts] at hi; exact hi.1
      show cs _ _ (col l i (n - (i + 1))) = _
      rw [show n + 1 - (i + 1) = (n - (i + 1)) + 1 by omega, col, show i + 1 + (n - (i + 1)) = n by omega]
    · by_cases h : ev l n = 1
      · simp [h, col]
      · simp [h]
theorem col_closed (l : List Lev) (i m : Nat) (h : (col l i m).2 = false) : ∀ d, col l i (m + d) = col l i m
  | 0 => rfl
  | d + 1 => by
    rw [← Nat.add_assoc, col, cs_closed _ _ _ (by rw [col_closed l i m h d]; exact h), col_closed l i m h d]
/-- the runs of the first k cycles' Starts, each looked at to the end -/
def refTo (l : List Lev) (k : Nat) : List RunD := (starts l k).map fun i => (col l i (l.length - (i + 1))).1
theorem refTo_succ (l : List Lev) (k : Nat) : refTo l (k + 1) = refTo l k ++ (if ev l k = 1 then [(col l k (l.length - (k + 1))).1] else []) := by
  unfold refTo starts
  rw [List.range_succ, List.filter_append, List.map_append]
  congr 1
  by_cases h : ev l k = 1
  · simp [h]
  · simp [h]
theorem refTo_all (l : List Lev) : refTo l l.length = runs l := by
  unfold refTo runs runsTo
  rw [mac_col, List.map_map]
  rfl
theorem refTo_len (l : List Lev) (k : Nat) : (refTo l k).length ≤ k := by
  unfold refTo starts
  rw [List.length_map]
  exact Nat.le_trans (List.length_filter_le _ _) (by simp)
end Go.Proofs.YtfcdlnpfneinlaaDoor
