/-
  THE WALK OF (*Chip).collect.
-/
import Derived.Test.YtfcdlnpfneinlaaDoorEDev
import Derived.Shelf.SlMaps.Clone
namespace Go.Proofs.YtfcdlnpfneinlaaDoor
open Go.RowKit
set_option maxRecDepth 20000

theorem ChipIn.d_blk {w : World} {p d cap l : Nat} {cm wm : Option Nat} {F : Nat → Prop} {s : Chip} (h : ChipIn w p d cap l cm wm F s) : ∃ cur, Blk w d 5 cur := by
  rcases h.data.2 with ⟨h1, _⟩ | ⟨g, c, cur, h1, _, hg, _⟩
  · cases h1
  · injection h1 with h1
    injection h1 with h1
    injection h1 with h1
    subst h1
    exact ⟨cur, hg⟩
theorem ChipIn.byte_at {w : World} {p d cap l : Nat} {cm wm : Option Nat} {F : Nat → Prop} {s : Chip} (h : ChipIn w p d cap l cm wm F s) (i : Nat) (hi : i < s.data.length) : w.cell? ⟨d, i, none⟩ = some (.int .u8 (s.data.getD i 0)) := by
  obtain ⟨A, c, e, _, hm⟩ := h.data.mine
  injection e with e1 e2 e3
  subst e1
  obtain ⟨b, e, _, _, hc⟩ := hm.2 (by omega)
  injection e with e
  injection e with e
  subst e
  exact (hc i hi).1
theorem ChipIn.coll_none {w : World} {p d cap l : Nat} {wm : Option Nat} {F : Nat → Prop} {s : Chip} (h : ChipIn w p d cap l none wm F s) : s.coll = [] := by
  rcases h.coll with ⟨_, h⟩ | ⟨b, D, h, _⟩
  · exact h
  · cases h
/-- one more is collected -/
theorem collect_in {w w1 w3 : World} {p d cap l mb : Nat} {cm wm : Option Nat} {F : Nat → Prop} {s : Chip} {D1 : DataW Unit} {k b : Int} (h : ChipIn w p d cap l cm wm F s) (hj : s.join = false) (hk1 : Keeps (fun b => b = p) w w1)
    (hb1 : Blk w1 p 70 (cellsOf p (.slice (some ⟨d, 0, none⟩) s.data.length cap) l (some mb) wm s)) (hmb : cm = some mb ∨ w.heap.size ≤ mb) (hml : mb < w1.heap.size) (hR : Reads D1 s.coll) (hM : Maps.IsMap D1)
    (hown : w3.ownsMap Tryd.prog 3 plainB mb (s.coll.length + 1) (D1.put (K k) (.lit (.int .u8 b)))) (hturn : w1.mapTurned w3 mb) : Went p F { s with coll := s.coll ++ [(k, b)] } w w3 := by
  have hmp : mb ≠ p := by
    rcases hmb with e | e
    · obtain ⟨es, clock, h1⟩ := h.coll.blk e
      exact not_blk h.blk h1
    · have := h.blk.lt
      omega
  have hmd : mb ≠ d := by
    rcases hmb with e | e
    · obtain ⟨es, clock, h1⟩ := h.coll.blk e
      obtain ⟨cur, hc⟩ := h.d_blk
      exact not_blk hc h1
    · have := h.there _ h.fd
      omega
  have hml' : mb ≠ l := by
    rcases hmb with e | e
    · obtain ⟨es, clock, h1⟩ := h.coll.blk e
      exact not_blk h.line h1
    · have := h.there _ h.fl
      omega
  have hmw : ∀ x, wm = some x → x ≠ mb := fun x hx => by
    rcases hmb with e | e
    · rintro rfl
      exact h.apart hj _ e hx
    · have := h.there _ (h.fw x hx)
      omega
  have hg : ∀ x, x < w.heap.size → x ≠ p → x ≠ mb → w3.heap[x]? = w.heap[x]? := fun x hx h1 h2 =>
    (hturn.grown.block x (Nat.lt_of_lt_of_le hx hk1.size) (fun e => h2 (by simpa using e))).trans (hk1.block x hx h1)
  have hs3 : w1.heap.size ≤ w3.heap.size := hturn.grown.size
  have hk3 : Keeps F w w3 := (hk1.mono (T := F) fun x e => by rw [e]; exact h.fp).grown hturn.grown (fun x hx => by
    simp at hx
    subst hx
    rcases hmb with e | e
    · exact .inl (h.fc _ e)
    · exact .inr e)
  have hF : ∀ x, F x → Grow F w w3 x := fun x hx => .inl hx
  refine ⟨⟨d, cap, l, some mb, wm, ⟨?_, ?_, ?_, ?_, ?_, ?_, tab_keeps h.tab hk3 h.ft, hF _ h.fp, hF _ h.fd, hF _ h.fl, ?_, fun x hx => hF _ (h.fw x hx), grow_tab h.tab h.ft, ?_⟩⟩, hk3⟩
  · exact hb1.of_eq (hturn.grown.block p hb1.lt (fun e => hmp (by simpa using e.symm)))
  · exact h.data.same fun g hg' => by
      simp [Value.ownBlock] at hg'
      subst hg'
      exact hg _ (h.there _ h.fd) h.p_ne_d hmd.symm
  · exact Blk.of_eq h.line (hg _ (h.there _ h.fl) (Blk.ne_ h.line h.blk (by decide)) hml'.symm)
  · exact .inr ⟨mb, _, rfl, by simp, by simpa using hown, hR.put hM k b⟩
  · exact h.wait.keep fun x hx => hg x (h.there _ (h.fw x hx)) (by obtain ⟨es, clock, h1⟩ := h.wait.blk hx; exact not_blk h.blk h1) (hmw x hx)
  · intro _ x hx hx'
    cases hx
    exact hmw _ hx' rfl
  · intro x hx
    cases hx
    rcases hmb with e | e
    · exact .inl (h.fc _ e)
    · exact .inr ⟨e, by omega⟩
  · intro x hx
    rcases hx with hx | hx
    · exact Nat.lt_of_lt_of_le (h.there x hx) hk3.size
    · exact hx.2

set_option maxRecDepth 100000 in
set_option maxHeartbeats 4000000 in
theorem collect_any (w : World) (p : Nat) (F : Nat → Prop) (s : Chip) (n b : Int) (h : ChipAt w p F s) (hok : s.Ok n) (hj : s.join = false) (hn : n ≤ 1000000) (hb : 0 ≤ b ∧ b ≤ 255) :
    Calls Tryd.prog 87 #[.pointer (some ⟨p, 0, none⟩), .int .u8 b] w (Did p F (s.collect b) w) := by
  have HT := Lib.hid h.tab
  obtain ⟨d, cap, l, cm, wm, hin⟩ := h
  have HI := Lib.hid hin
  have HK := Lib.hid hok
  have HJ := Lib.hid hj
  have hlt := hin.blk.lt
  obtain ⟨x, hx⟩ : ∃ x, s.pointer = x := ⟨_, rfl⟩
  have hx01 := hok.ptr
  have hz01 := hok.pos
  rw [hx] at hx01
  have hx0 := hx01.1
  have hx1 : x < 65536 := by omega
  have HX := Lib.hid hx
  have hpg := kind_size hok.kind
  obtain ⟨g, hg⟩ : ∃ g, gcol s.kind 1 = g := ⟨_, rfl⟩
  rw [hg] at hpg
  have hg0 : 8 ≤ g := hpg.2.2.1
  have hg1 : g ≤ 128 := hpg.2.2.2.1
  have HG := Lib.hid hg
  have hcl := hok.colls
  have hw8 : (Lit.int .u8 b).wf = true := byte_wf hb
  have hpe : plainB (.int .u8 b) = some (.lit (.int .u8 b), []) := plainElem_int Tryd.underlying5 hw8
  have hkey := key3 x (by omega) (by omega)
  have hq := fun w => run_eql_map_nil_sl (P := Tryd.prog) w 68 _ _ cm Tryd.underlying68
  have f11 := hin.blk.frozen 11
  have f12 := hin.blk.frozen 12
  have c0 := hin.blk.cell 0
  have c11 := hin.blk.cell 11
  have c12 := hin.blk.cell 12
  simp only [cellsOf, List.getElem?_toArray, List.getElem?_cons_zero, List.getElem?_cons_succ] at c0 c11 c12
  rw [hx] at c11
  have HR := Lib.hid (show s.collect b = { s with coll := s.coll ++ [(x, b)], pointer := x - x % g + (x + 1) % g } by unfold Chip.collect Chip.page; rw [hx, hg])
  have HB := Lib.hid hb
  have hr0 : 0 ≤ x % g := Int.emod_nonneg _ (by omega)
  have hr1 : x % g < g := Int.emod_lt_of_pos _ (by omega)
  have hr2 : 0 ≤ (x + 1) % g := Int.emod_nonneg _ (by omega)
  have hr3 : (x + 1) % g < g := Int.emod_lt_of_pos _ (by omega)
  have HW1 := Lib.hid (show wrap64 (x - x % g) = x - x % g by generalize x % g = r at *; unfold wrap64; omega)
  have HW2 := Lib.hid (show wrap64 (x - x % g + (x + 1) % g) = x - x % g + (x + 1) % g by generalize x % g = r at *; generalize (x + 1) % g = t at *; unfold wrap64; omega)
  clear hok hj hx hx01 hz01 hpg hg hw8 hb hr0 hr1 hr2 hr3
  cases cm with
  | none =>
    have hss : (w.setCell ⟨p, 12, none⟩ (.map (some w.heap.size))).heap.size = w.heap.size := by simp [World.setCell]
    have hown1 : (((w.setCell ⟨p, 12, none⟩ (.map (some w.heap.size))).alloc (.map #[] 0)).drew).ownsMap Tryd.prog 3 plainB w.heap.size 0 (.map []) := by
      have := World.ownsMap_made (H := Unit) (w.setCell ⟨p, 12, none⟩ (.map (some w.heap.size))) Tryd.prog 3 plainB
      rw [hss] at this
      exact this.drew
    obtain ⟨w3, hupd, hown3, hturn⟩ := hown1.store law3 Tryd.underlying68 (by unfold maxLen; omega) hkey hpe
    have hmm := @run_makeMap Tryd.prog
    have hk1 : Keeps (fun b => b = p) w (((w.setCell ⟨p, 12, none⟩ (.map (some w.heap.size))).alloc (.map #[] 0)).drew) := (((Keeps.refl (fun b => b = p) w).set_ (p := ⟨p, 12, none⟩) (.inl rfl) _).alloc _).drew
    have hb1 : Blk (((w.setCell ⟨p, 12, none⟩ (.map (some w.heap.size))).alloc (.map #[] 0)).drew) p 70 _ := (hin.blk.set_ 12 (.map (some w.heap.size))).of_eq (Below.heap_alloc _ _ _ (by simpa [World.setCell] using hlt))
    have Z := Lib.hid (collect_in hin HJ.out hk1 hb1 (.inr (Nat.le_refl _)) (by simp [World.setCell]) (by rw [hin.coll_none]; exact reads_nil) ⟨[], rfl⟩ (by rw [hin.coll_none]; exact hown3) hturn)
    clear hin hown1 hown3 hturn hkey hss hpe hk1 hb1
    go_enter Tryd.func87, Tryd.ntmps87
    go_wp2_with fail
    go_region
    clear c0 c11 c12 f11 f12 hq
    obtain ⟨d', cap', l', cm', wm', hin3⟩ := Z.out.1
    have c0 := hin3.blk.cell 0
    simp only [cellsOf, List.getElem?_toArray, List.getElem?_cons_zero] at c0
    clear hin3
    go_wp2_with fail
    refine (page_any s.kind g _ w3 (On.start Z.out.1.tab) HG.out).mono ?_
    rintro e w4 ⟨rfl, hz⟩
    have Z4 := Lib.hid (Z.out.calm hz.bel HT.out)
    clear hz c0
    obtain ⟨d4, cap4, l4, cm4, wm4, hin4⟩ := Z4.out.1
    have HI4 := Lib.hid hin4
    have c11 := hin4.blk.cell 11
    have f11 := hin4.blk.frozen 11
    have hw1 := HW1.out
    have hw2 := HW2.out
    simp only [cellsOf, List.getElem?_toArray, List.getElem?_cons_zero, List.getElem?_cons_succ] at c11
    rw [HX.out] at c11
    clear hin4
    go_wp2_with fail
    go_region
    go_wp2_with fail
    go_end0
    rw [HR.out]
    have HI5 := HI4.out.sets (cm' := cm4) [(11, .int .i64 (x - x % g + (x + 1) % g))] { s with coll := s.coll ++ [(x, b)], pointer := x - x % g + (x + 1) % g } rfl rfl rfl rfl (.inl ⟨rfl, rfl, rfl⟩)
    exact ⟨rfl, (Z4.out.then_ HI5 HT.out).calm (below_drew _) HT.out⟩
  | some mb =>
    obtain ⟨D1, hne, hown, hR⟩ : ∃ D, s.coll ≠ [] ∧ w.ownsMap Tryd.prog 3 plainB mb s.coll.length D ∧ Reads D s.coll := by
      rcases hin.coll with ⟨h, _⟩ | ⟨b', D, h, h1, h2, h3⟩
      · cases h
      · cases h
        exact ⟨D, h1, h2, h3⟩
    obtain ⟨w3, hupd, hown3, hturn⟩ := hown.drew.store law3 Tryd.underlying68 (by unfold maxLen; omega) hkey hpe
    have Z := Lib.hid (collect_in hin HJ.out (Keeps.refl (fun b => b = p) w).drew hin.blk (.inl rfl) hown.lt hR hown.isMap hown3 hturn)
    clear hin hown hown3 hturn hkey hpe hR hne
    go_enter Tryd.func87, Tryd.ntmps87
    go_wp2_with fail
    go_region
    clear c0 c11 c12 f11 f12 hq
    obtain ⟨d', cap', l', cm', wm', hin3⟩ := Z.out.1
    have c0 := hin3.blk.cell 0
    simp only [cellsOf, List.getElem?_toArray, List.getElem?_cons_zero] at c0
    clear hin3
    go_wp2_with fail
    refine (page_any s.kind g _ w3 (On.start Z.out.1.tab) HG.out).mono ?_
    rintro e w4 ⟨rfl, hz⟩
    have Z4 := Lib.hid (Z.out.calm hz.bel HT.out)
    clear hz c0
    obtain ⟨d4, cap4, l4, cm4, wm4, hin4⟩ := Z4.out.1
    have HI4 := Lib.hid hin4
    have c11 := hin4.blk.cell 11
    have f11 := hin4.blk.frozen 11
    have hw1 := HW1.out
    have hw2 := HW2.out
    simp only [cellsOf, List.getElem?_toArray, List.getElem?_cons_zero, List.getElem?_cons_succ] at c11
    rw [HX.out] at c11
    clear hin4
    go_wp2_with fail
    go_region
    go_wp2_with fail
    go_end0
    rw [HR.out]
    have HI5 := HI4.out.sets (cm' := cm4) [(11, .int .i64 (x - x % g + (x + 1) % g))] { s with coll := s.coll ++ [(x, b)], pointer := x - x % g + (x + 1) % g } rfl rfl rfl rfl (.inl ⟨rfl, rfl, rfl⟩)
    exact ⟨rfl, (Z4.out.then_ HI5 HT.out).calm (below_drew _) HT.out⟩
end Go.Proofs.YtfcdlnpfneinlaaDoor
