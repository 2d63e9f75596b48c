/-
  SEQUENCES, WHOLE, AS VALUES.
-/
import Derived.Test.YtojdbmkbcjaikaaFLaw
namespace Go.Proofs.Ytojdbmkbcjaikaa
open Go.RowKit
set_option maxRecDepth 20000

theorem Nums.off {k : IntKind} {w w' : World} {B n : Nat} {A : Option Addr} {l : List Int} {S : Nat → Prop} (h : Nums k w B A n l) (hk : Keeps S w w') (hB : B ≤ w.heap.size) (hS : Off S A n) : Nums k w' B A n l := by
  obtain ⟨h1, h2, h3⟩ := h
  refine ⟨h1, h2, fun hn => ?_⟩
  obtain ⟨b, o, e, hb, hc⟩ := h3 hn
  exact ⟨b, o, e, hb, fun i hi => (hk.cell (b := b) (by omega) (hS b o e hn)).trans (hc i hi)⟩
theorem Went.far {p d cap N : Nat} {s : Flash} {w w' : World} (h : Went p d cap s w w') (hp : N ≤ p) (hd : N ≤ d) (hN : N ≤ w.heap.size) : Below N w w' :=
  h.2.below (fun b hb => by rcases hb with rfl | rfl <;> assumption) hN
theorem OwnK.at_ {k : IntKind} {t base g n c : Nat} {w : World} {l : List Int} (h : OwnK k t base w (.slice (some ⟨g, 0, none⟩) n c) l) (i : Nat) (hi : i < l.length) : w.cell? ⟨g, i, none⟩ = some (.int k (l.getD i 0)) ∧ w.frozen? ⟨g, i, none⟩ = false := by
  obtain ⟨A', c', e, _, hm⟩ := h.mine
  injection e with e1 e2 e3
  obtain ⟨b, e4, _, _, hc⟩ := hm.2 (by omega)
  rw [← e1] at e4
  injection e4 with e4
  injection e4 with e4
  subst e4
  exact hc i hi
/-- a row beside a chip -/
theorem OwnK.beside {k : IntKind} {t base g n c p d cap : Nat} {s : Flash} {w w' : World} {l : List Int} (h : OwnK k t base w (.slice (some ⟨g, 0, none⟩) n c) l) (hz : Went p d cap s w w') (hg : p < g ∧ d < g) : OwnK k t base w' (.slice (some ⟨g, 0, none⟩) n c) l :=
  h.same fun g' hg' => by
    have hl := (h.lt hg').2
    simp [Value.ownBlock] at hg'
    subst hg'
    exact hz.2.block _ hl (fun hb => by rcases hb with rfl | rfl <;> omega)
/-- a row beside a chip is written -/
theorem ChipAt.beside {p d cap g n c i : Nat} {t base : Nat} {k : IntKind} {s : Flash} {w : World} {l : List Int} {u : Value} (h : ChipAt w p d cap s) (ho : OwnK k t base w (.slice (some ⟨g, 0, none⟩) n c) l) (hl : 2 ≤ l.length) (hg : p < g ∧ d < g) : ChipAt (w.setCell ⟨g, i, none⟩ u) p d cap s :=
  h.keep (S := fun b => b = g) ((Keeps.refl (fun b => b = g) w).set_ (p := ⟨g, i, none⟩) (.inl rfl) u) (fun e => by subst e; omega) (fun e => by subst e; omega) (fun b hb => by subst hb; exact row_plain ho hl _ rfl)
namespace Flash
variable {s : Flash}
theorem Ok.place_small (h : s.Ok) {a : Int} (h0 : 0 ≤ a) (h1 : a < 256) : s.place a = a := by
  have := h.len
  unfold Flash.place Flash.size
  rw [Int.max_eq_left h0]
  exact Int.emod_eq_of_lt h0 (by omega)
theorem Ok.to (h : s.Ok) {k : Nat} (hk : k ≤ 6) : ({ s with k := k } : Flash).Ok := { h with k := hk }
theorem write_key1 (h : s.Ok) (hl : s.left = 0) (hk : s.k = 0) : s.write 85 170 = { s with k := 1 } := by
  unfold Flash.write
  rw [if_pos hl, h.place_small (by omega) (by omega)]
  unfold Flash.put
  rw [if_neg (by omega), if_neg (by omega), if_neg (by omega)]
  unfold Flash.exact
  rw [hk, if_pos (by decide)]
theorem write_key2 (h : s.Ok) (hl : s.left = 0) (hk : s.k = 1) : s.write 170 85 = { s with k := 2 } := by
  unfold Flash.write
  rw [if_pos hl, h.place_small (by omega) (by omega)]
  unfold Flash.put
  rw [if_neg (by omega), if_neg (by omega), if_neg (by omega)]
  unfold Flash.exact
  rw [hk, if_pos (by decide)]
theorem write_key4 (h : s.Ok) (hl : s.left = 0) (hk : s.k = 4) : s.write 85 170 = { s with k := 5 } := by
  unfold Flash.write
  rw [if_pos hl, h.place_small (by omega) (by omega)]
  unfold Flash.put
  rw [if_neg (by omega), if_neg (by omega), if_neg (by omega)]
  unfold Flash.exact
  rw [hk, if_pos (by decide)]
theorem write_key5 (h : s.Ok) (hl : s.left = 0) (hk : s.k = 5) : s.write 170 85 = { s with k := 6 } := by
  unfold Flash.write
  rw [if_pos hl, h.place_small (by omega) (by omega)]
  unfold Flash.put
  rw [if_neg (by omega), if_neg (by omega), if_neg (by omega)]
  unfold Flash.exact
  rw [hk, if_pos (by decide)]
theorem write_cmd (h : s.Ok) (hl : s.left = 0) (hk : s.k = 2) (v : Int) : s.write 85 v = s.command 85 v := by
  unfold Flash.write
  rw [if_pos hl, h.place_small (by omega) (by omega)]
  unfold Flash.put
  rw [if_pos hk]
theorem write_byte (hl : s.left = 0) (hk : s.k = 3) (a v : Int) : s.write a v = s.busy 10 1 (s.place a) 1 v := by
  unfold Flash.write
  rw [if_pos hl]
  unfold Flash.put
  rw [if_neg (by omega), if_pos hk]
theorem write_six (hl : s.left = 0) (hk : s.k = 6) (a v : Int) : s.write a v = s.erase (s.place a) v := by
  unfold Flash.write
  rw [if_pos hl]
  unfold Flash.put
  rw [if_neg (by omega), if_neg (by omega), if_pos hk]
theorem puts_key (h : s.Ok) (hl : s.left = 0) (hk : s.k = 0) (l : List Wr) : s.puts (key1 :: key2 :: l) = ({ s with k := 2 } : Flash).puts l := by
  show ((s.write 85 170).write 170 85).puts l = _
  rw [write_key1 h hl hk, write_key2 (s := { s with k := 1 }) (h.to (by decide)) hl rfl]
theorem puts_key4 (h : s.Ok) (hl : s.left = 0) (hk : s.k = 4) (l : List Wr) : s.puts (key1 :: key2 :: l) = ({ s with k := 6 } : Flash).puts l := by
  show ((s.write 85 170).write 170 85).puts l = _
  rw [write_key4 h hl hk, write_key5 (s := { s with k := 5 }) (h.to (by decide)) hl rfl]
theorem puts_cmd (h : s.Ok) (hl : s.left = 0) (hk : s.k = 2) (v : Int) (hv : IsByte v) (l : List Wr) : s.puts (cmd v hv :: l) = (s.command 85 v).puts l := by
  show (s.write 85 v).puts l = _
  rw [write_cmd h hl hk]
theorem puts_program (h : s.Ok) (hl : s.left = 0) (hk : s.k = 0) (a v : Int) (ha : IsInt a) (hv : IsByte v) : s.puts (programW a v ha hv) = s.busy 10 1 (s.place a) 1 v := by
  unfold programW
  rw [puts_key h hl hk, puts_cmd (s := { s with k := 2 }) (h.to (by decide)) hl rfl]
  show Flash.write { s with k := 3 } a v = _
  rw [write_byte (s := { s with k := 3 }) hl rfl]
  rfl
theorem puts_erase (h : s.Ok) (hl : s.left = 0) (hk : s.k = 0) (a : Int) (ha : IsInt a) : s.puts (eraseW a ha) = s.busy 100 2 (s.place a - s.place a % 256) 256 0 := by
  unfold eraseW
  rw [puts_key h hl hk, puts_cmd (s := { s with k := 2 }) (h.to (by decide)) hl rfl]
  show Flash.puts { s with k := 4 } _ = _
  rw [puts_key4 (s := { s with k := 4 }) (h.to (by decide)) hl rfl]
  show Flash.write { s with k := 6 } a 48 = _
  rw [write_six (s := { s with k := 6 }) hl rfl]
  rfl
theorem puts_whole (h : s.Ok) (hl : s.left = 0) (hk : s.k = 0) : s.puts wholeW = s.busy 200 2 0 s.size 0 := by
  unfold wholeW
  rw [puts_key h hl hk, puts_cmd (s := { s with k := 2 }) (h.to (by decide)) hl rfl]
  show Flash.puts { s with k := 4 } _ = _
  rw [puts_key4 (s := { s with k := 4 }) (h.to (by decide)) hl rfl]
  show Flash.write { s with k := 6 } 85 16 = _
  rw [write_six (s := { s with k := 6 }) hl rfl, Ok.place_small (s := { s with k := 6 }) (h.to (by decide)) (by omega) (by omega)]
  rfl
theorem puts_name (h : s.Ok) (hl : s.left = 0) (hk : s.k = 0) : s.puts [key1, key2, cmd 144 (by decide)] = { s with k := 0, named := true } := by
  rw [puts_key h hl hk, puts_cmd (s := { s with k := 2 }) (h.to (by decide)) hl rfl]
  rfl
theorem puts_busy (hl : 0 < s.left) (l : List Wr) : s.puts l = s := by
  unfold Flash.puts
  induction l with
  | nil => rfl
  | cons x l ih =>
    have : s.write x.a x.v = s := if_neg (by omega)
    rw [List.foldl_cons, this, ih]
theorem ticks_lt (n : Nat) (h : (n : Int) < s.left) : s.ticks n = { s with left := s.left - n } := by
  induction n with
  | zero => show s = _; rw [show s.left - ((0 : Nat) : Int) = s.left by omega]
  | succ n ih =>
    show (s.ticks n).tick = _
    rw [ih (by omega)]
    unfold Flash.tick
    rw [if_neg (by show ¬ s.left - (n : Int) = 0; omega), if_neg (by show ¬ s.left - (n : Int) - 1 = 0; omega)]
    show ({ s with left := s.left - n - 1 } : Flash) = _
    rw [show s.left - (n : Int) - 1 = s.left - ((n + 1 : Nat) : Int) by omega]
theorem ticks_end (n : Nat) (h : ((n + 1 : Nat) : Int) = s.left) : s.ticks (n + 1) = ({ s with left := 0 } : Flash).finish := by
  show (s.ticks n).tick = _
  rw [ticks_lt n (by omega)]
  unfold Flash.tick
  rw [if_neg (by show ¬ s.left - (n : Int) = 0; omega), if_pos (by show s.left - (n : Int) - 1 = 0; omega)]
  show Flash.finish { s with left := s.left - n - 1 } = _
  rw [show s.left - (n : Int) - 1 = 0 by omega]
theorem ticks_one (h : s.left = 1) : s.tick = ({ s with left := 0 } : Flash).finish := ticks_end (s := s) 0 (by omega)
/-- what is programmed -/
theorem done_byte (hk : s.wk = 1) (hm : s.wm = 1) (f : Nat) (hf : s.wf = f) (hfl : f < s.data.length) : s.finish.data = s.data.set f (bits .and .u8 (s.data.getD f 0) s.wv) := by
  show s.doneTo s.wm.toNat = _
  rw [hm]
  have := doneTo_next s f 0 hf (by omega)
  rw [doneTo_zero, Nat.add_zero] at this
  rw [show (1 : Int).toNat = 0 + 1 from rfl, ← this]
  unfold Flash.upd
  rw [if_pos hk]
end Flash
end Go.Proofs.Ytojdbmkbcjaikaa
