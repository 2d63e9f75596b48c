/-
  THE WALKS OF keepsakeref05.Cut, Glue, Lists.
-/
import Derived.Test.YtcojpiepbdcohaaDoorLists
import Derived.Test.YtcojpiepbdcohaaDoorRefFac
import Derived.Test.YtcojpiepbdcohaaDoorPack
namespace Go.Proofs.YtcojpiepbdcohaaDoor
open Go.RowKit

theorem getD_left {α : Type} {xs ys : List α} {k : Nat} {d : α} (h : k < xs.length) : (xs ++ ys).getD k d = xs.getD k d := by rw [List.getD, List.getD, List.getElem?_append_left h]
theorem getD_right {α : Type} {xs ys : List α} {k : Nat} {d : α} (h : xs.length ≤ k) : (xs ++ ys).getD k d = ys.getD (k - xs.length) d := by rw [List.getD, List.getD, List.getElem?_append_right h]
theorem own_apart {b1 b2 n : Nat} {w : World} {u V : Value} {l : List Int} {vs : List Value} (h : Own b1 w u l) (H : w.ownsRow b2 25 1 V n vs) : u.ownBlock = none ∨ u.ownBlock ≠ V.ownBlock := by
  rcases h.2 with ⟨rfl, _⟩ | ⟨g, cap, cur, rfl, _, hh, _⟩
  · exact .inl rfl
  · right
    rcases H.2 with ⟨rfl, _⟩ | ⟨g', cap', cur', rfl, _, hh', _⟩
    · simp [Value.ownBlock]
    · simp only [Value.ownBlock, ne_eq, Option.some.injEq]
      rintro rfl
      rw [hh] at hh'
      injection hh' with hh'
      injection hh' with _ ht
      cases ht
theorem own_form {base : Nat} {w : World} {v : Value} {l : List Int} (h : Own base w v l) : ∃ A n c, v = .slice A n c := by
  rcases h.2 with ⟨rfl, _⟩ | ⟨g, cap, cur, rfl, _⟩ <;> exact ⟨_, _, _, rfl⟩
theorem row_form {base n : Nat} {w : World} {v : Value} {l : List Value} (h : w.ownsRow base 25 1 v n l) : ∃ A n c, v = .slice A n c := by
  rcases h.2 with ⟨rfl, _⟩ | ⟨g, cap, cur, rfl, _⟩ <;> exact ⟨_, _, _, rfl⟩
/-- append of one list onto lists of the call's own -/
theorem append_list (wr : World) (base ty n : Nat) (V u : Value) (vs : List Value) (hV : wr.ownsRow base 25 1 V n vs) (hu : u.oneCell' = true) (hn : n ≤ 100000) (hbase : base ≤ wr.heap.size) :
    ∃ V' w', (Builtin.append_ #[38, 38] ty #[V, .slice (some ⟨wr.heap.size, 0, none⟩) 1 1]).run Tryd.prog (wr.alloc (.cells #[u] 25)) = .ok V' w' ∧ w'.ownsRow base 25 1 V' (n + 1) (vs ++ [u]) ∧ (wr.alloc (.cells #[u] 25)).grownBy w' V.ownBlock := by
  obtain ⟨i0, hi, hz0, hz1, hz2⟩ := info_parts info25
  obtain ⟨v', w', hr, h2, h3, _, _⟩ := run_append_own_at (P := Tryd.prog) (wr.alloc (.cells #[u] 25)) base 38 ty 25 i0 _ 1 24 Tryd.underlying38 hi hz0 hz1 hz2 rfl (by omega) V n _ (hV.alloc _) ⟨wr.heap.size, 0, none⟩ 1 1 [u] rfl (cell_one_new wr u 25) (by simpa using hu) (by unfold maxLen; omega) (by omega) (by simp; omega)
  exact ⟨v', w', hr, h2, h3⟩

/-- where the outer loop stands -/
structure RCut (w : World) (X : List Int) (size k : Nat) (V : Value) (wr : World) : Prop where
  bel : Below w.heap.size w wr
  vals : ∃ vs, wr.ownsRow w.heap.size 25 1 V k vs ∧ ∀ i, i < k → Own w.heap.size wr (vs.getD i undef) ((X.drop (i * size)).take size)
theorem RCut.next {w wr w' : World} {X : List Int} {size k : Nat} {V : Value} (H : RCut w X size k V wr) (hb : Below wr.heap.size wr w') : RCut w X size k V w' := by
  obtain ⟨h1, vs, h2, h3⟩ := H
  refine ⟨h1.trans (hb.mono h1.size), vs, ?_, fun i hi => (h3 i hi).below hb⟩
  refine ⟨h2.1, ?_⟩
  rcases h2.2 with ⟨rfl, h0⟩ | ⟨g, cap, cur, rfl, hg, hh, r⟩
  · exact .inl ⟨rfl, h0⟩
  · exact .inr ⟨g, cap, cur, rfl, hg, (hb.block g (Array.getElem?_eq_some_iff.1 hh).1).trans hh, r⟩
theorem own_one {base : Nat} {w : World} {v : Value} {l : List Int} (h : Own base w v l) : v.oneCell' = true := by
  rcases h.2 with ⟨rfl, _⟩ | ⟨g, cap, cur, rfl, _⟩ <;> rfl
theorem RCut.put {w wr w' : World} {X : List Int} {size k : Nat} {V V' u : Value} {vs : List Value} (hb : Below w.heap.size w wr) (hV : wr.ownsRow w.heap.size 25 1 V k vs) (hall : ∀ i, i < k → Own w.heap.size wr (vs.getD i undef) ((X.drop (i * size)).take size))
    (hu : Own w.heap.size wr u ((X.drop (k * size)).take size)) (hV' : w'.ownsRow w.heap.size 25 1 V' (k + 1) (vs ++ [u])) (hg : (wr.alloc (.cells #[u] 25)).grownBy w' V.ownBlock) : RCut w X size (k + 1) V' w' := by
  have hl : vs.length = k := by have := hV.1; simpa using this
  have kept : ∀ {x : Value} {l : List Int}, Own w.heap.size wr x l → Own w.heap.size w' x l := by
    intro x l hx
    have hx' := hx.below (below_box wr (.cells #[u] 25))
    exact hx'.kept hg (own_apart hx' (hV.alloc (.cells #[u] 25)))
  refine ⟨?_, vs ++ [u], hV', fun i hi => ?_⟩
  · refine (hb.trans ((below_box wr (.cells #[u] 25)).mono hb.size)).grown hg (by have := hb.size; simp; omega) ?_
    intro g hgr
    exact (hV.lt g hgr).1
  · by_cases h : i < k
    · rw [getD_left (by omega)]
      exact kept (hall i h)
    · obtain rfl : i = k := by omega
      rw [getD_right (by omega), hl, Nat.sub_self]
      exact kept hu
theorem RCut.lsts {w wr : World} {X : List Int} {size s : Nat} {V : Value} (H : RCut w X size s V wr) (hv : ∀ v ∈ X, 0 ≤ v ∧ v ≤ 255) : ∃ A c, V = .slice A s c ∧ Lsts wr wr.heap.size A s (cutL X size s) := by
  obtain ⟨_, vs, h2, h3⟩ := H
  have hl : vs.length = s := by have := h2.1; simpa using this
  rcases h2.2 with ⟨rfl, h0⟩ | ⟨g, cap, cur, rfl, hg, hh, r⟩
  · subst h0
    exact ⟨none, 0, rfl, cutL_len _ _ _, fun h => absurd h (by omega)⟩
  · refine ⟨_, cap, rfl, cutL_len _ _ _, fun _ => ⟨g, 0, rfl, (Array.getElem?_eq_some_iff.1 hh).1, fun k hk => ⟨vs.getD k undef, ?_, ?_⟩⟩⟩
    · have := h2.cells (g := g) rfl k (vs.getD k undef) (by simp [List.getD, hl, hk])
      rw [Go.WideShapes.add_plain] at this
      exact this
    · rw [cutL_get X size s k hk]
      exact (h3 k hk).byv fun v hv' => hv v (List.mem_of_mem_drop (List.mem_of_mem_take hv'))
theorem part_succ (X : List Int) (a j : Nat) (h : a + j < X.length) : (X.drop a).take (j + 1) = (X.drop a).take j ++ [X.getD (a + j) 0] := by
  rw [List.take_add_one, List.getElem?_drop]
  congr 1
  simp [List.getD, h]
theorem fill_get (l : List Int) (m k : Nat) (_h : k < m) : (fill l m).getD k 0 = if k < l.length then l.getD k 0 else 0 := by
  unfold fill
  split
  · rename_i h1
    rw [getD_left h1]
  · rename_i h1
    rw [getD_right (by omega)]
    simp [List.getD, List.getElem?_replicate]
    split <;> rfl
theorem refCut_bad (A : Option Addr) (n c : Nat) (size : Int) (w : World) (hs : sizeOk size = false) : Calls Tryd.prog 22 #[.slice A n c, .int .i64 size] w fun e w' => e = .returned (.tuple #[.slice none 0 0, .int .i64 1]) ∧ w' = w := by
  have hs' : size < 1 ∨ 4096 < size := by unfold sizeOk at hs; simp at hs; omega
  clear hs
  rcases hs' with h | h
  · go_enter Tryd.func22, Tryd.ntmps22
    go_wp2_with fail
    go_returns
    exact ⟨rfl, rfl⟩
  · go_enter Tryd.func22, Tryd.ntmps22
    go_wp2_with fail
    go_returns
    exact ⟨rfl, rfl⟩

theorem refCut_ok (A : Option Addr) (n c B size s : Nat) (l : List Int) (w : World) (hl : Bytes w B A n l) (hB : B ≤ w.heap.size) (h1 : 1 ≤ size) (h2 : size ≤ 4096) (hn : n ≤ 100000) (hs : many n size = s) :
    Calls Tryd.prog 22 #[.slice A n c, .int .i64 size] w fun e w' => ∃ V, e = .returned (.tuple #[V, .int .i64 0]) ∧ RCut w (fill l (s * size)) size s V w' := by
  obtain ⟨b1, b2, b3⟩ := many_bounds n size h1 h2
  rw [hs] at b1 b2 b3
  have HE := Lib.hid (show sect n size = (s : Nat) by rw [many_eq, hs])
  have HL := Lib.hid hl
  have HB := Lib.hid hB
  obtain ⟨X, hX⟩ : ∃ X, fill l (s * size) = X := ⟨_, rfl⟩
  have HXL := Lib.hid (show X.length = s * size by rw [← hX, fill_len _ _ (by rw [hl.1]; exact b1)])
  have HXG := Lib.hid (show ∀ k, k < s * size → X.getD k 0 = if k < n then l.getD k 0 else 0 by intro k hk; rw [← hX, fill_get l _ k hk, hl.1])
  have HXI := Lib.hid (show ∀ v ∈ X, 0 ≤ v ∧ v ≤ 255 by rw [← hX]; exact fill_in _ _ hl.2.1)
  rw [hX]
  clear hs hl hB hX
  go_enter Tryd.func22, Tryd.ntmps22
  go_wp2_with fail
  go_loopw [6, 7] (fun V i wr => ∃ k : Nat, k ≤ s ∧ i = .int .i64 k ∧ RCut w X size k V wr) (fun _ i _ => s - (intOf i).toNat)
  case atStart => exact ⟨0, Nat.zero_le _, rfl, Below.refl _ _, [], World.ownsRow_nil _ _ _ _, fun i hi => absurd hi (by omega)⟩
  case round =>
    obtain ⟨k, hk, rfl, hat⟩ := hrel
    have HAT := Lib.hid hat
    clear hat
    by_cases hlt : k < s
    · have hks : (k + 1) * size ≤ s * size := Nat.mul_le_mul_right _ hlt
      have hk1 : (k + 1) * size = k * size + size := by rw [Nat.add_mul, Nat.one_mul]
      obtain ⟨a, ha⟩ : ∃ a, k * size = a := ⟨_, rfl⟩
      obtain ⟨z, hz⟩ : ∃ z, a + size = z := ⟨_, rfl⟩
      have ha1 : (k : Int) * (size : Int) = (a : Nat) := by rw [← ha, Int.natCast_mul]
      have ha2 : ((k : Int) + 1) * (size : Int) = (z : Nat) := by rw [Int.add_mul, ha1]; omega
      rw [hk1, ha, hz] at hks
      have HA := Lib.hid ha
      have HKS := Lib.hid hks
      have hzb : z ≤ 200000 := by omega
      clear hk1 ha hks
      go_wp2_with fail
      refine (refSectors_any n size s _ (by simp [Lit.wf, IntKind.min, IntKind.max, IntKind.signed, IntKind.bits]; omega) HE.out).mono ?_
      rintro e wr ⟨rfl, rfl⟩
      go_wp2_with fail
      obtain ⟨U, hU⟩ : ∃ U, U = wr := ⟨_, rfl⟩
      rw [← hU] at HAT ⊢
      clear hU
      go_loopw [8, 9] (fun v i wr => ∃ j : Nat, j ≤ size ∧ i = .int .i64 (a + j : Nat) ∧ Own U.heap.size wr v ((X.drop a).take j) ∧ Below U.heap.size U wr) (fun _ i _ => z - (intOf i).toNat)
      case atStart => exact ⟨0, Nat.zero_le _, rfl, by unfold Own; simpa using World.ownsRow_nil _ _ _ _, Below.refl _ _⟩
      case round =>
        obtain ⟨j, hj, rfl, hown, hbel⟩ := hrel
        obtain ⟨q, hq⟩ : ∃ q, a + j = q := ⟨_, rfl⟩
        rw [hq]
        have HQ := Lib.hid hq
        have hlen : ((X.drop a).take j).length + 1 ≤ 1000000 := by rw [List.length_take]; omega
        by_cases hjs : j < size
        · have hqz : q < z := by omega
          have hxg := HXG.out q (Nat.lt_of_lt_of_le hqz HKS.out)
          have hps := part_succ X a j (by rw [hq, HXL.out]; exact Nat.lt_of_lt_of_le hqz HKS.out)
          rw [hq, hxg] at hps
          by_cases hqn : q < n
          · rw [if_pos hqn] at hps
            obtain ⟨b, o, rfl, hbB, hcs⟩ := HL.out.2.2 (by omega)
            have hcell : wr.cell? ⟨b, o + q, none⟩ = some (.int .u8 (l.getD q 0)) := ((HAT.out.bel.trans (hbel.mono HAT.out.bel.size)).cell (p := ⟨b, o + q, none⟩) (Nat.lt_of_lt_of_le hbB HB.out)).trans (hcs q hqn)
            have hxr := HL.out.2.1 (l.getD q 0) (by have := HL.out.1; simp [List.getD, this, hqn])
            obtain ⟨x, hx⟩ : ∃ x, l.getD q 0 = x := ⟨_, rfl⟩
            rw [hx] at hps hcell hxr
            obtain ⟨v', w', hrun, ho', hb'⟩ := append_byte wr U.heap.size 25 _ _ hown x hxr hlen hbel.size
            rw [← hps] at ho'
            have R := Lib.hid (And.intro ho' (hbel.trans hb'))
            have HRUN := Lib.hid hrun
            have hq0 : (0 : Int) ≤ (q : Int) := by omega
            have hq1 : (q : Int) < (n : Int) := by omega
            clear hq hlen hxg hps hcs hxr hx hrun ho' hb' hown hbel hz
            go_wp2_with (at_builtin; refine Lib.wpList_append_run _ rfl _ _ _ _ rfl _ _ rfl rfl _ _ HRUN.out ?_)
            go_roundw
            case rel => exact ⟨j + 1, by omega, by rw [← Nat.add_assoc, HQ.out]; go_num, R.out.1, R.out.2⟩
            case measure => simp [intOf]; omega
          · rw [if_neg hqn] at hps
            obtain ⟨v', w', hrun, ho', hb'⟩ := append_byte wr U.heap.size 25 _ _ hown 0 (by omega) hlen hbel.size
            rw [← hps] at ho'
            have R := Lib.hid (And.intro ho' (hbel.trans hb'))
            have HRUN := Lib.hid hrun
            clear hq hlen hxg hps hrun ho' hb' hown hbel hz
            go_wp2_with (at_builtin; refine Lib.wpList_append_run _ rfl _ _ _ _ rfl _ _ rfl rfl _ _ HRUN.out ?_)
            go_roundw
            case rel => exact ⟨j + 1, by omega, by rw [← Nat.add_assoc, HQ.out]; go_num, R.out.1, R.out.2⟩
            case measure => simp [intOf]; omega
        · obtain rfl : j = size := by omega
          obtain rfl : q = z := by omega
          have hr0 := HAT.out.next hbel
          obtain ⟨hb0, vs, hV, hall⟩ := hr0
          obtain ⟨A8, m8, c8, rfl⟩ := own_form hown
          obtain ⟨A6, m6, c6, rfl⟩ := row_form hV
          have hown' : Own w.heap.size wr (.slice A8 m8 c8) ((X.drop (k * j)).take j) := by
            rw [HA.out]
            exact ⟨hown.1, hown.2.imp id fun ⟨g, cap, cur, e, hg, r⟩ => ⟨g, cap, cur, e, Nat.le_trans HAT.out.bel.size hg, r⟩⟩
          obtain ⟨V', w', hrun, hV', hg⟩ := append_list wr w.heap.size 38 k _ _ vs hV (own_one hown) (by omega) hb0.size
          have R := Lib.hid (RCut.put hb0 hV hall hown' hV' hg)
          have HRUN := Lib.hid hrun
          clear hq hlen hrun hV hall hown' hV' hg hown hbel hb0 hz
          go_wp2_with (at_builtin; refine Lib.wpList_append_run _ rfl _ _ _ _ rfl _ _ rfl rfl _ _ HRUN.out ?_)
          go_roundw
          case rel => exact ⟨k + 1, by omega, by go_num, R.out⟩
          case measure => simp [intOf]; omega
    · obtain rfl : k = s := by omega
      go_wp2_with fail
      refine (refSectors_any n size k _ (by simp [Lit.wf, IntKind.min, IntKind.max, IntKind.signed, IntKind.bits]; omega) HE.out).mono ?_
      rintro e wr ⟨rfl, rfl⟩
      go_wp2_with fail
      go_returns
      exact ⟨_, rfl, HAT.out⟩
end Go.Proofs.YtcojpiepbdcohaaDoor
