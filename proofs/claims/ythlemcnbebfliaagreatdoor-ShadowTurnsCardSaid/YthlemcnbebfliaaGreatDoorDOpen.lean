/-
  THE WALKS OF Open, New.
-/
import Derived.Test.YthlemcnbebfliaaGreatDoorDBytes
import Derived.Deep.RegionLaw
namespace Go.Proofs.YthlemcnbebfliaaGreatDoor.Dsk
open Ks Go.RowKit
set_option maxRecDepth 20000

theorem info31 : (Tryz.prog.info? 33).map (fun i => (i.zero, i.size, i.bytes)) = some (some (.slice none 0 0), 1, 24) := by kernel_rfl

/-- the k-th piece -/
def chunk (n : Nat) (bs : List Int) (k : Nat) : List Int := (bs.drop (k * n)).take n
def chunks (n m : Nat) (bs : List Int) : List (List Int) := (List.range m).map (chunk n bs)
/-- a new disk -/
def fresh (n : Nat) (l : List (List Int)) : St := ⟨n, l, fun _ => none, fun _ => false, 0, 0, 0, 0⟩

theorem mayBe_any (w : World) (n : Int) : Calls Tryz.prog 64 #[.int .i64 n] w fun e w' => e = .returned (.bool (decide (1 ≤ n) && decide (n ≤ 4096))) ∧ w = w' := by
  by_cases h1 : 1 ≤ n
  · by_cases h2 : n ≤ 4096
    · go_enter Tryz.func64, Tryz.ntmps64
      go_wp2_with fail
      go_ret
      exact ⟨ret_bool (by simp [h1, h2]), rfl⟩
    · go_enter Tryz.func64, Tryz.ntmps64
      go_wp2_with fail
      go_ret
      exact ⟨ret_bool (by simp [h2]), rfl⟩
  · go_enter Tryz.func64, Tryz.ntmps64
    go_wp2_with fail
    go_ret
    exact ⟨ret_bool (by rw [decide_eq_false (show ¬ 1 ≤ n by omega)]; rfl), rfl⟩

/-- where the loop of Open stands -/
def OpenAt (w : World) (n : Nat) (bs : List Int) (k : Nat) (wr : World) : Prop :=
  ∃ lastV lv, Blk wr (w.heap.size + 1) 101 #[.int .i64 n, lastV, .map (some w.heap.size), .map none, .int .i64 0, .int .i64 0] ∧ wr.ownsRow w.heap.size 33 1 lastV k lv ∧ wr.heap[w.heap.size]? = some (.map #[] 0) ∧
    (∀ i, i < k → Byt wr (From w.heap.size) (lv.getD i undef) (chunk n bs i)) ∧ Keeps No w wr

/-- a disk in new memory -/
def Opens (w : World) (s : St) (e : Ending) (w' : World) : Prop :=
  ∃ p, e = .returned (.tuple #[.pointer (some ⟨p, 0, none⟩), .int .i64 0]) ∧ DiskAt Tryz.prog w' p (Grow No w w') s ∧ Keeps No w w'

/-- the disk's block is as it was, behind the append -/
theorem open_blk {wr w2 w4 : World} {t base p k : Nat} {lastV v2 : Value} {lv : List Value} {cs : Array Value} (hb : Blk wr p 101 cs) (hrow : wr.ownsRow base 33 1 lastV k lv)
    (hk2 : Keeps No wr w2) (hgrow : (w2.alloc (.cells #[v2] t)).grownBy w4 lastV.ownBlock) : Blk w4 p 101 cs := by
  have hne : lastV.ownBlock ≠ some p := fun hx => by
    rcases hrow.2 with ⟨rfl, _⟩ | ⟨g', cap', cur, rfl, _, hh, _⟩
    · cases hx
    · simp [Value.ownBlock] at hx
      subst hx
      exact hb.ne_ (show Blk wr g' 33 cur from hh) (by decide) rfl
  exact ((hb.of_eq (hk2.block _ hb.lt (fun h => h))).of_eq (Below.heap_alloc w2 (.cells #[v2] t) _ (Nat.lt_of_lt_of_le hb.lt hk2.size))).of_eq (hgrow.block _ (by have h1 := hb.lt; have h2 := hk2.size; simp; omega) (fun e => hne e.symm))

theorem open_step {w wr w2 w4 : World} {n k g cap : Nat} {bs : List Int} {lastV v2 : Value} {lv : List Value} (hb : Blk wr (w.heap.size + 1) 101 #[.int .i64 n, lastV, .map (some w.heap.size), .map none, .int .i64 0, .int .i64 0])
    (hrow : wr.ownsRow w.heap.size 33 1 lastV k lv) (hm : wr.heap[w.heap.size]? = some (.map #[] 0)) (hs : ∀ i, i < k → Byt wr (From w.heap.size) (lv.getD i undef) (chunk n bs i)) (hk : Keeps No w wr)
    (hk2 : Keeps No wr w2) (hv2 : Byt w2 (From wr.heap.size) v2 (chunk n bs k)) (hown : w4.ownsRow w.heap.size 33 1 (.slice (some ⟨g, 0, none⟩) (k + 1) cap) (k + 1) (lv ++ [v2]))
    (hgrow : (w2.alloc (.cells #[v2] 33)).grownBy w4 lastV.ownBlock) : OpenAt w n bs (k + 1) (w4.setCell ⟨w.heap.size + 1, 1, none⟩ (.slice (some ⟨g, 0, none⟩) (k + 1) cap)) := by
  have hlv : lv.length = k := by have := hrow.1; simpa using this
  -- the row's own block is neither the disk's nor the map's, nor one of bytes
  have hne : ∀ x, lastV.ownBlock = some x → ∃ cur, Blk wr x 33 cur := fun x hx => by
    rcases hrow.2 with ⟨rfl, _⟩ | ⟨g', cap', cur, rfl, _, hh, _⟩
    · cases hx
    · simp [Value.ownBlock] at hx
      subst hx
      exact ⟨cur, hh⟩
  have keep : ∀ x, x < wr.heap.size → x ≠ w.heap.size + 1 → lastV.ownBlock ≠ some x → (w4.setCell ⟨w.heap.size + 1, 1, none⟩ (.slice (some ⟨g, 0, none⟩) (k + 1) cap)).heap[x]? = wr.heap[x]? := fun x h1 h2 h3 => by
    rw [Below.heap_setCell _ _ _ _ h2, hgrow.block x (by simp; exact Nat.lt_succ_of_lt (Nat.lt_of_lt_of_le h1 hk2.size)) (fun e => h3 e.symm), Below.heap_alloc _ _ _ (Nat.lt_of_lt_of_le h1 hk2.size), hk2.block x h1 (fun h => h)]
  have keep2 : ∀ x, x < w2.heap.size → wr.heap.size ≤ x → (w4.setCell ⟨w.heap.size + 1, 1, none⟩ (.slice (some ⟨g, 0, none⟩) (k + 1) cap)).heap[x]? = w2.heap[x]? := fun x h1 h2 => by
    have hp := hb.lt
    have hx : lastV.ownBlock ≠ some x := fun e => by obtain ⟨cur, hc⟩ := hne x e; have := hc.lt; omega
    rw [Below.heap_setCell _ _ _ _ (show x ≠ w.heap.size + 1 by omega), hgrow.block x (by simp; omega) (fun e => hx e.symm), Below.heap_alloc _ _ _ h1]
  refine ⟨.slice (some ⟨g, 0, none⟩) (k + 1) cap, lv ++ [v2], ?_, ?_, ?_, fun i hi => ?_, ?_⟩
  · have h4 : Blk w4 (w.heap.size + 1) 101 _ := ((hb.of_eq (hk2.block _ hb.lt (fun h => h))).of_eq (Below.heap_alloc w2 (.cells #[v2] 33) _ (Nat.lt_of_lt_of_le hb.lt hk2.size))).of_eq (hgrow.block _ (by have h1 := hb.lt; have h2 := hk2.size; simp; omega) (fun e => by
      obtain ⟨cur, hc⟩ := hne _ e.symm
      exact hb.ne_ hc (by decide) rfl))
    exact h4.set_ 1 _
  · refine ownsRow_of_eq hown fun x hx => Below.heap_setCell _ _ _ _ ?_
    simp only [Value.ownBlock, Option.some.injEq] at hx
    subst hx
    rintro rfl
    rcases hown.2 with ⟨h, _⟩ | ⟨g', cap', cur, h, _, hh, _⟩
    · cases h
    · simp only [Value.slice.injEq, Option.some.injEq, Addr.mk.injEq, and_true, true_and] at h
      obtain ⟨rfl, rfl⟩ := h
      have h4 : Blk w4 (w.heap.size + 1) 101 _ := ((hb.of_eq (hk2.block _ hb.lt (fun h => h))).of_eq (Below.heap_alloc w2 (.cells #[v2] 33) _ (Nat.lt_of_lt_of_le hb.lt hk2.size))).of_eq (hgrow.block _ (by have h1 := hb.lt; have h2 := hk2.size; simp; omega) (fun e => by
        obtain ⟨cur, hc⟩ := hne _ e.symm
        exact hb.ne_ hc (by decide) rfl))
      exact h4.ne_ (show Blk w4 (w.heap.size + 1) 33 cur from hh) (by decide) rfl
  · rw [keep _ (lt_of_heap hm) (by omega) (fun e => by obtain ⟨cur, hc⟩ := hne _ e; unfold Blk at hc; rw [hm] at hc; cases hc)]
    exact hm
  · by_cases e : i = k
    · subst e
      have : (lv ++ [v2]).getD i undef = v2 := by simp [List.getD, ← hlv]
      rw [this]
      have h1 := hv2.keep (w' := w4.setCell ⟨w.heap.size + 1, 1, none⟩ (.slice (some ⟨g, 0, none⟩) (i + 1) cap)) (fun b hb => keep2 b hb.lt hb.1)
      exact h1.mono fun b hb => Nat.le_trans hk.size hb
    · have hi' : i < k := by omega
      have : (lv ++ [v2]).getD i undef = lv.getD i undef := by simp [List.getD, List.getElem?_append_left (show i < lv.length by omega)]
      rw [this]
      refine (hs i hi').keep (fun b hb' => keep b hb'.lt (fun e => ?_) (fun e => ?_))
      · subst e
        obtain ⟨_, cs, h⟩ := hb'
        unfold Blk at hb
        rw [h] at hb
        simp at hb
      · obtain ⟨cur, hc⟩ := hne _ e
        obtain ⟨_, cs, h⟩ := hb'
        unfold Blk at hc
        rw [h] at hc
        simp at hc
  · refine ⟨?_, ?_, ?_, ?_, fun b hb' _ => ?_⟩
    · exact hgrow.os.trans (hk2.os.trans hk.os)
    · exact hgrow.tape.trans (hk2.tape.trans hk.tape)
    · exact hgrow.output.trans (hk2.output.trans hk.output)
    · have h1 := hgrow.size
      have h2 := hk2.size
      have h3 := hk.size
      simp [World.setCell] at h1 ⊢
      omega
    · rw [keep b (Nat.lt_of_lt_of_le hb' hk.size) (by omega) (fun e => by
        rcases hrow.2 with ⟨rfl, _⟩ | ⟨g', cap', cur, rfl, hg', hh, _⟩
        · cases e
        · simp [Value.ownBlock] at e
          omega)]
      exact hk.block b hb' (fun h => h)

theorem chunk_length {n m k : Nat} {bs : List Int} (hb : bs.length = m * n) (hk : k < m) : (chunk n bs k).length = n := by
  unfold chunk
  rw [List.length_take, List.length_drop, hb]
  have : (k + 1) * n ≤ m * n := Nat.mul_le_mul_right _ hk
  rw [Nat.add_mul] at this
  omega
/-- a part of bytes is bytes -/
theorem bys_cut {w : World} {F : Nat → Prop} {b o c : Nat} {bs : List Int} (h : Bys w F (.slice (some ⟨b, o, none⟩) bs.length c) bs) {i n : Nat} (hi : i + n ≤ bs.length) (h0 : 0 < n) : Bys w F (.slice (some ⟨b, o + i, none⟩) n (c - i)) ((bs.drop i).take n) := by
  obtain ⟨A, c', e, hc, hx⟩ := h
  simp only [Value.slice.injEq, true_and] at e
  obtain ⟨rfl, rfl⟩ := e
  obtain ⟨b', o', e, hF, hcs⟩ := hx (by omega)
  cases e
  have hl : ((bs.drop i).take n).length = n := by rw [List.length_take, List.length_drop]; omega
  refine ⟨_, _, by rw [hl], by rw [hl]; omega, fun _ => ⟨b, o + i, rfl, hF, fun k hk => ?_⟩⟩
  rw [hl] at hk
  rw [Nat.add_assoc, hcs (i + k) (by omega)]
  simp [List.getD, hk]

theorem own_lt {w : World} {base e size n g : Nat} {v : Value} {xs : List Value} (h : w.ownsRow base e size v n xs) (hg : v.ownBlock = some g) : g < w.heap.size := by
  rcases h.2 with ⟨rfl, _⟩ | ⟨g', cap, cur, rfl, _, hh, _⟩
  · cases hg
  · simp [Value.ownBlock] at hg
    subst hg
    exact lt_of_heap hh
theorem byt_one {w : World} {F : Nat → Prop} {v : Value} {bs : List Int} (h : Byt w F v bs) : ∀ u ∈ [v], u.oneCell' = true := by
  obtain ⟨A, c, rfl, _⟩ := h
  intro u hu
  simp at hu
  subst hu
  rfl

theorem open_done {w wr : World} {n m : Nat} {bs : List Int} (h : OpenAt w n bs m wr) (hb : bs.length = m * n) : DiskAt Tryz.prog wr (w.heap.size + 1) (Grow No w wr) (fresh n (chunks n m bs)) := by
  obtain ⟨lastV, lv, h1, h2, h3, h4, h5⟩ := h
  have hl : (chunks n m bs).length = m := by simp [chunks]
  have hg : ∀ i, i < m → (chunks n m bs).getD i [] = chunk n bs i := fun i hi => by simp [chunks, List.getD, hi]
  have hb' : ∀ v bs, Byt wr (From w.heap.size) v bs → Byt wr (Grow No w wr) v bs := fun v bs h => by
    obtain ⟨A, c, rfl, hc, hx⟩ := h
    refine ⟨A, c, rfl, hc, fun h0 => ?_⟩
    obtain ⟨b, o, rfl, hb, hcs⟩ := hx h0
    exact ⟨b, o, rfl, ⟨.inr ⟨hb.1, hb.lt⟩, hb.2⟩, hcs⟩
  refine ⟨lastV, lv, w.heap.size, none, .map [], ⟨h1, .inr ⟨by omega, h1.lt⟩, ?_, fun g hg' => ?_, fun i hi => ?_, fun i hi => ?_, .inr ⟨Nat.le_refl _, lt_of_heap h3⟩, ?_, fun k => ?_, (fun k b hb => by cases hb), (fun k => rfl), fun b hb => ?_⟩⟩
  · show wr.ownsRow 0 33 1 lastV (chunks n m bs).length lv
    rw [hl]
    refine ⟨h2.1, ?_⟩
    rcases h2.2 with h | ⟨g, cap, cur, e, _, r⟩
    · exact .inl h
    · exact .inr ⟨g, cap, cur, e, Nat.zero_le _, r⟩
  · rcases h2.2 with ⟨rfl, _⟩ | ⟨g', cap, cur, rfl, hb1, hh, _⟩
    · cases hg'
    · simp [Value.ownBlock] at hg'
      subst hg'
      exact .inr ⟨hb1, lt_of_heap hh⟩
  · have hi : i < m := by rw [← hl]; exact hi
    show Byt wr _ _ ((chunks n m bs).getD i [])
    rw [hg i hi]
    exact hb' _ _ (h4 i hi)
  · have hi : i < m := by rw [← hl]; exact hi
    show ((chunks n m bs).getD i []).length = n
    rw [hg i hi]
    exact chunk_length hb hi
  · exact ⟨#[], 0, h3, ⟨by simp, Go.MapKept.stamped_empty 0, by simp⟩, Nat.le_refl _, rfl⟩
  · rfl
  · rcases hb with hb | hb
    · exact hb.elim
    · exact hb.2

set_option maxRecDepth 100000 in
set_option maxHeartbeats 2000000 in
theorem open_ok (w : World) (F : Nat → Prop) (n m : Nat) (v : Value) (bs : List Int) (hv : Bys w F v bs) (hn0 : 1 ≤ n) (hn : n ≤ 4096) (hb : bs.length = m * n) (hm : m ≤ 4096) :
    Calls Tryz.prog 41 #[.int .i64 n, v] w (Opens w (fresh n (chunks n m bs))) := by
  have hle : m * n ≤ 16777216 := Nat.mul_le_mul hm hn
  have hmod : ((bs.length : Int) % (n : Int) != 0) = false := by
    rw [hb]; simp
  have hdiv : (bs.length : Int) / (n : Int) = (m : Int) := by
    rw [hb, Int.natCast_mul, Int.mul_ediv_cancel _ (by omega)]
  have HV := Lib.hid hv
  obtain ⟨A, c, rfl, hc, _⟩ := hv
  have HB := Lib.hid hb
  have hbl : bs.length ≤ 16777216 := by omega
  have hn1 : (1 : Int) ≤ (n : Int) := by omega
  have hn2 : (n : Int) ≤ 4096 := by omega
  have hmm := @run_makeMap Tryz.prog
  have hok : (decide (1 ≤ (n : Int)) && decide ((n : Int) ≤ 4096)) = true := by simp; omega
  have HOK := Lib.hid hok
  clear hb hok
  go_enter Tryz.func41, Tryz.ntmps41
  go_wp2_with fail
  refine (mayBe_any w n).mono ?_
  rintro e w' ⟨rfl, rfl⟩
  rw [HOK.out]
  go_wp2_with fail
  go_loopw [7] (fun i wr => ∃ k : Nat, k ≤ m ∧ i = .int .i64 (k * n : Nat) ∧ OpenAt w n bs k wr) (fun i _ => bs.length - (intOf i).toNat)
  case atStart =>
    refine ⟨0, Nat.zero_le _, by simp, .slice none 0 0, [], ?_, World.ownsRow_nil _ _ _ _, ?_, fun i hi => absurd hi (by omega), ((Keeps.refl No w).alloc _).alloc _⟩
    · have := Blk.new (w.alloc (.map #[] 0)) 101 #[.int .i64 n, .slice none 0 0, .map (some w.heap.size), .map none, .int .i64 0, .int .i64 0]
      simpa using this
    · rw [Below.heap_alloc _ _ _ (by simp)]
      exact heap_alloc_new w _
  case round =>
    obtain ⟨k, hk, rfl, lastV, lv, h1, h2, h3, h4, h5⟩ := hrel
    have hkn : k * n ≤ m * n := Nat.mul_le_mul_right _ hk
    by_cases hlt : k < m
    · have hkn1 : (k + 1) * n ≤ m * n := Nat.mul_le_mul_right _ hlt
      have hsum : (k + 1) * n = k * n + n := by rw [Nat.add_mul, Nat.one_mul]
      obtain ⟨j, hj⟩ : ∃ j, k * n = j := ⟨_, rfl⟩
      have hbs := HB.out
      have HJ := Lib.hid hj
      rw [hj] at hkn hsum ⊢
      have hjb : j + n ≤ bs.length := by omega
      have hj0 : (0 : Int) ≤ (j : Int) := by omega
      have hj1 : (j : Int) < (bs.length : Int) := by omega
      have hj2 : (j : Int) + (n : Int) ≤ (bs.length : Int) := by omega
      have hj3 : (j : Int) + (n : Int) ≤ (c : Int) := by omega
      have hw1 : IntKind.i64.wrap ((j : Int) + (n : Int)) = (j : Int) + (n : Int) := IntWalk.i64_in _ (by omega)
      have hj4 : (0 : Int) ≤ (j : Int) + (n : Int) := by omega
      have hj5 : ((j : Int) + (n : Int)).toNat = j + n := by omega
      have hj6 : c ≠ j := by omega
      have HS := Lib.hid hsum
      have hbw := HV.out.keeps h5 (fun _ _ _ h => h)
      obtain ⟨A', c', e, _, hx⟩ := hbw
      obtain ⟨b, o, rfl, hF, hcs⟩ := hx (by omega)
      simp only [Value.slice.injEq, true_and] at e
      obtain ⟨rfl, rfl⟩ := e
      have HCH := Lib.hid (show Bys wr F (.slice (some ⟨b, o + j, none⟩) n (c - j)) (chunk n bs k) by
        unfold chunk
        rw [hj]
        exact bys_cut (i := j) (n := n) (c := c) ⟨_, _, rfl, hc, fun _ => ⟨b, o, rfl, hF, hcs⟩⟩ hjb (by omega))
      have HCL := Lib.hid (chunk_length (k := k) hbs hlt)
      have c1 := h1.cell 1
      have f1 := h1.frozen 1
      have hpl := h1.lt
      have H1 := Lib.hid h1
      have H2 := Lib.hid h2
      have H3 := Lib.hid h3
      have H4 := Lib.hid h4
      have H5 := Lib.hid h5
      simp only [List.getElem?_toArray, List.getElem?_cons_succ, List.getElem?_cons_zero] at c1
      obtain ⟨i0, hi, hz0, hz1, hz2⟩ := info_parts info31
      clear h1 h2 h3 h4 h5 hx hcs hj hsum hbs hkn1 hle hmod hdiv
      go_wp2_with fail
      go_region_law (first
        | (refine step_append_lies _ (by rfl) _ _ _ (by rfl) w.heap.size 33 i0 _ 1 24 Tryz.underlying63 hi hz0 hz1 hz2 rfl (by omega) _ k lv (by rfl) HROW.out
            ⟨w2.heap.size, 0, none⟩ 1 1 [.slice A2 n c2] (by rfl) (by rfl) (World.news_of_block (cs := #[.slice A2 n c2]) (t := 33) (fr := (0, 0)) (heap_alloc_new w2 _)) HONE.out
            (by omega) (by unfold maxLen; omega) (by omega) HBASE.out (w2.heap.size + 1) (by simp) ?_; intro g cap w4 hown4 hgrow4 hat4 hlt4
           have HO4 := Lib.hid hown4
           have HG4 := Lib.hid hgrow4
           have hB4 := open_blk H1.out H2.out HK2.out HG4.out
           have Z4 := hB4.cell 1
           have F4 := hB4.frozen 1
           simp only [List.getElem?_toArray, List.getElem?_cons_succ, List.getElem?_cons_zero] at Z4
           clear hown4 hgrow4 hat4 hlt4 hB4)
        | (go_simp; go_at_call 57; refine (clone_any wr.drew F _ (chunk n bs k) HCH.out (by have := HCL.out; omega)).mono ?_; rintro e w2 ⟨v2, rfl, hb2, hk2⟩
           obtain ⟨A2, c2, rfl⟩ : ∃ A2 c2, v2 = .slice A2 n c2 := (by obtain ⟨A, c, e, _⟩ := hb2; exact ⟨A, c, by rw [e, HCL.out]⟩)
           have HB2 := Lib.hid hb2
           have HK2 := Lib.hid hk2.of_drew
           have hB2 : Blk w2 (w.heap.size + 1) 101 _ := H1.out.of_eq (HK2.out.block _ H1.out.lt (fun h => h))
           have Z2 := hB2.cell 1
           have ZL := hB2.lt
           simp only [List.getElem?_toArray, List.getElem?_cons_succ, List.getElem?_cons_zero] at Z2
           have HROW := Lib.hid ((ownsRow_of_eq (w' := w2) H2.out (fun g hg => HK2.out.block g (own_lt H2.out hg) (fun h => h))).alloc (.cells #[.slice A2 n c2] 33))
           have HONE := Lib.hid (byt_one hb2)
           have HBASE := Lib.hid (show w.heap.size ≤ (w2.alloc (.cells #[.slice A2 n c2] 33)).heap.size by have h1 := H5.out.size; have h2 := HK2.out.size; simp; omega)
           clear hb2 hk2 hB2))
      all_goals
        have R := Lib.hid (open_step H1.out H2.out H3.out H4.out H5.out HK2.out HB2.out HO4.out HG4.out)
        clear Z2 Z4 F4 c1 f1
        go_wp2_with fail
        go_roundw
        case rel => exact ⟨k + 1, by omega, by rw [HS.out]; go_num, R.out⟩
        case measure => simp [intOf]; omega
    · obtain rfl : k = m := by omega
      have HR := Lib.hid (open_done ⟨lastV, lv, h1, h2, h3, h4, h5⟩ HB.out)
      have H5 := Lib.hid h5
      have hge : decide (k * n < bs.length) = false := by simp [HB.out]
      have hge2 : bs.length ≤ k * n := by rw [HB.out]; exact Nat.le_refl _
      obtain ⟨j, hj⟩ : ∃ j, k * n = j := ⟨_, rfl⟩
      rw [hj] at hge hge2 ⊢
      clear hj h1 h2 h3 h4 h5 hle hmod hdiv hkn
      go_wp2_with fail
      go_ret2
      exact ⟨_, rfl, HR.out, H5.out⟩
end Go.Proofs.YthlemcnbebfliaaGreatDoor.Dsk
