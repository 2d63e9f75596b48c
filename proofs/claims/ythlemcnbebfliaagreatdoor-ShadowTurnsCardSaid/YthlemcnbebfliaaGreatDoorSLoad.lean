/-
  THE WALK OF slot's load: sectors in a row, glued.
-/
import Derived.Test.YthlemcnbebfliaaGreatDoorSHand
namespace Go.Proofs.YthlemcnbebfliaaGreatDoor
open Ks Go.RowKit
set_option maxRecDepth 20000

theorem info27 : (Tryz.prog.info? 33).map (fun i => (i.zero, i.size, i.bytes)) = some (some (.slice none 0 0), 1, 24) := by kernel_rfl
theorem cell_one (w : World) (u : Value) (t : TypeId) : ∀ j x, [u][j]? = some x → (w.alloc (.cells #[u] t)).cell? ((⟨w.heap.size, 0, none⟩ : Addr).add j) = some x := by
  intro j x hx
  rw [Go.WideShapes.add_plain]
  rcases j with _ | j
  · simp at hx
    subst hx
    simp [go_sem]
  · simp at hx
/-- append of one list onto lists of the call's own -/
theorem append_list (wr : World) (base ty n : Nat) (V u : Value) (vs : List Value) (hV : wr.ownsRow base 33 1 V n vs) (hu : u.oneCell' = true) (hn : n ≤ 200000) (hbase : base ≤ wr.heap.size) :
    ∃ V' w', (Builtin.append_ #[63, 63] ty #[V, .slice (some ⟨wr.heap.size, 0, none⟩) 1 1]).run Tryz.prog (wr.alloc (.cells #[u] 33)) = .ok V' w' ∧ w'.ownsRow base 33 1 V' (n + 1) (vs ++ [u]) ∧ (wr.alloc (.cells #[u] 33)).grownBy w' V.ownBlock := by
  obtain ⟨i0, hi, hz0, hz1, hz2⟩ := info_parts info27
  obtain ⟨v', w', hr, h2, h3, _, _⟩ := run_append_own_at (P := Tryz.prog) (wr.alloc (.cells #[u] 33)) base 63 ty 33 i0 _ 1 24 Tryz.underlying63 hi hz0 hz1 hz2 rfl (by omega) V n _ (hV.alloc _) ⟨wr.heap.size, 0, none⟩ 1 1 [u] rfl (cell_one wr u 33) (by simpa using hu) (by unfold maxLen; omega) (by omega) (by simp; omega)
  exact ⟨v', w', hr, h2, h3⟩
theorem bys_one {w : World} {F : Nat → Prop} {v : Value} {bs : List Int} (h : Bys w F v bs) : v.oneCell' = true := by
  obtain ⟨A, c, rfl, _⟩ := h
  rfl
theorem getD_left {α : Type} {xs ys : List α} {k : Nat} {d : α} (h : k < xs.length) : (xs ++ ys).getD k d = xs.getD k d := by rw [List.getD, List.getD, List.getElem?_append_left h]
theorem getD_right {α : Type} {xs ys : List α} {k : Nat} {d : α} (h : xs.length ≤ k) : (xs ++ ys).getD k d = ys.getD (k - xs.length) d := by rw [List.getD, List.getD, List.getElem?_append_right h]
/-- bytes stay while a row of slices is written -/
theorem byt_grown {w w' : World} {G : Nat → Prop} {x V : Value} {l : List Int} {base n : Nat} {vs : List Value} (hx : Byt w G x l) (hV : w.ownsRow base 33 1 V n vs) (hg : w.grownBy w' V.ownBlock) : Byt w' G x l := by
  refine hx.keep fun b hb => hg.block b hb.lt fun e => ?_
  obtain ⟨_, cs, hcs⟩ := hb
  rcases hV.2 with ⟨rfl, _⟩ | ⟨g, cap, cur, rfl, _, hh, _⟩
  · cases e
  · simp [Value.ownBlock] at e
    subst e
    rw [hcs] at hh
    simp at hh
theorem row_keeps {w w' : World} {base n : Nat} {V : Value} {vs : List Value} {F : Nat → Prop} (h : w.ownsRow base 33 1 V n vs) (hk : Keeps F w w') (hF : ∀ b, F b → b < base) : w'.ownsRow base 33 1 V n vs := by
  refine ⟨h.1, ?_⟩
  rcases h.2 with ⟨rfl, h0⟩ | ⟨g, cap, cur, rfl, hg, hh, r⟩
  · exact .inl ⟨rfl, h0⟩
  · exact .inr ⟨g, cap, cur, rfl, hg, (hk.block g (Array.getElem?_eq_some_iff.1 hh).1 (fun hf => by have := hF g hf; omega)).trans hh, r⟩
theorem Own.base_ {b b' : Nat} {w : World} {v : Value} {l : List Int} (h : Own b w v l) (hb : b' ≤ b) : Own b' w v l := by
  refine ⟨h.1, ?_⟩
  rcases h.2 with ⟨rfl, h0⟩ | ⟨g, cap, cur, rfl, hg, r⟩
  · exact .inl ⟨rfl, h0⟩
  · exact .inr ⟨g, cap, cur, rfl, Nat.le_trans hb hg, r⟩

/-- a number's value -/
def iv : Value → Int | .int _ q => q | _ => 0
/-- where load's loop stands -/
structure LoadAt (w : World) (p : Nat) (F : Nat → Prop) (s : St) (i : Int) (k : Nat) (V : Value) (wr : World) : Prop where
  err : (loads s i k).2.2 = 0
  disk : DiskAt Tryz.prog wr p F (loads s i k).1
  keeps : Keeps F w wr
  vals : ∃ vs, wr.ownsRow w.heap.size 33 1 V k vs ∧ ∀ j, j < k → Byt wr (From w.heap.size) (vs.getD j undef) ((loads s i k).2.1.getD j [])
theorem LoadAt.next {w wr w1 w2 : World} {p : Nat} {F : Nat → Prop} {s : St} {i : Int} {k : Nat} {V V' u : Value} {vs : List Value} (H : LoadAt w p F s i k V wr) (hF : ∀ b, F b → b < w.heap.size)
    (h0 : (Dsk.St.read (loads s i k).1 (i + k)).2 = 0) (hu : Byt w1 (From wr.heap.size) u (Dsk.St.read (loads s i k).1 (i + k)).1) (hd : DiskAt Tryz.prog w1 p F (loads s i k).1.tick) (hk : Keeps F wr w1)
    (hvs : wr.ownsRow w.heap.size 33 1 V k vs) (hall : ∀ j, j < k → Byt wr (From w.heap.size) (vs.getD j undef) ((loads s i k).2.1.getD j []))
    (hV' : w2.ownsRow w.heap.size 33 1 V' (k + 1) (vs ++ [u])) (hg : (w1.alloc (.cells #[u] 33)).grownBy w2 V.ownBlock) : LoadAt w p F s i (k + 1) V' w2 := by
  have e := loads_succ s i k H.err
  have hV1 := (row_keeps hvs hk hF).alloc (.cells #[u] 33)
  have hlen := loads_len s i k H.err
  have hvl : vs.length = k := by have := hvs.1; simpa using this
  have hrow : ∀ g, V.ownBlock = some g → w.heap.size ≤ g := fun g hgr => (hvs.lt g hgr).1
  have hk2 : Keeps F w w2 := ((H.keeps.trans hk).alloc _).grown hg fun b hb => .inr (hrow b hb)
  have kept : ∀ {G : Nat → Prop} {x : Value} {l : List Int}, Byt w1 G x l → Byt w2 G x l := by
    intro G x l hx
    exact byt_grown (hx.keep fun b hb => Below.heap_alloc _ _ _ hb.lt) hV1 hg
  refine ⟨by rw [e]; exact h0, ?_, hk2, vs ++ [u], hV', fun j hj => ?_⟩
  · rw [e]
    refine hd.keep (fun b hb => ?_) ?_
    · have hlt := hF b hb
      have hs := (H.keeps.trans hk).size
      rw [hg.block b (by simp; omega) (fun e => by have := hrow b e.symm; omega)]
      exact Below.heap_alloc _ _ _ (by omega)
    · have := hg.size
      simp at this
      omega
  · rw [e]
    by_cases h : j < k
    · rw [getD_left (by omega), getD_left (by omega)]
      refine kept ((hall j h).keeps hk fun b hb hf => ?_)
      have := hF b hf
      have := hb.1
      unfold From at this
      omega
    · obtain rfl : j = k := by omega
      rw [getD_right (by omega), getD_right (by omega), hvl, hlen, Nat.sub_self]
      exact kept (hu.mono fun b hb => Nat.le_trans H.keeps.size hb)
/-- the list, as Glue reads it -/
theorem LoadAt.lsts {w wr : World} {p m n : Nat} {F : Nat → Prop} {s : St} {i : Int} {A : Option Addr} {q c : Nat} (H : LoadAt w p F s i n (.slice A q c) wr) (hO : Ok m s) (hz : ∀ k, k < n → 0 < ((loads s i n).2.1.getD k []).length) : q = n ∧ Lsts wr wr.heap.size A n (loads s i n).2.1 := by
  obtain ⟨vs, hvs, hall⟩ := H.vals
  have hlen := loads_len s i n H.err
  have hin := loads_in8 hO i n
  have hvl : vs.length = n := by have := hvs.1; simpa using this
  rcases hvs.2 with ⟨h1, h2⟩ | ⟨g, cap, cur, h1, hg, hh, _⟩
  · injection h1 with h1 h3 h4
    exact ⟨by omega, hlen, fun h => by omega⟩
  · injection h1 with h1 h3 h4
    subst h1
    refine ⟨h3, hlen, fun hn => ⟨g, 0, rfl, lt_of_heap hh, fun k hk => ⟨vs.getD k undef, ?_, ?_⟩⟩⟩
    · have := hvs.cells (g := g) (by simp [Value.ownBlock]) k (vs.getD k undef) (by simp [List.getD, hvl, hk])
      rw [Go.WideShapes.add_plain] at this
      exact this
    · have hb := (hall k hk).bys
      obtain ⟨A1, c1, e1, hc1, hb1⟩ := bys_bytes (B := wr.heap.size) hb (fun b _ hb => hb) (by
        have hkl : k < (loads s i n).2.1.length := by omega
        simp only [List.getD, List.getElem?_eq_getElem hkl, Option.getD_some]
        exact hin _ (List.getElem_mem hkl))
      refine ⟨A1, c1, e1, hc1, fun hA => ?_, hb1⟩
      obtain ⟨b', o', hA', _⟩ := hb1.2.2 (hz k hk)
      rw [hA] at hA'
      cases hA'
theorem loads_each {P : Program} {w : World} {p : Nat} {F : Nat → Prop} {s : St} (h : DiskAt P w p F s) (i : Int) (n : Nat) (h0 : (loads s i n).2.2 = 0) : ∀ k, k < n → ((loads s i n).2.1.getD k []).length = s.size := by
  obtain ⟨lastV, lv, cb, pm, D, hd⟩ := h
  have key : ∀ n, (loads s i n).1.size = s.size ∧ (loads s i n).1.last = s.last ∧ (loads s i n).1.cach = s.cach := by
    intro n
    induction n with
    | zero => exact ⟨rfl, rfl, rfl⟩
    | succ n ih =>
      rw [loads]
      split
      · exact ih
      · exact ih
  induction n with
  | zero => intro k hk; omega
  | succ n ih =>
    intro k hk
    by_cases h1 : (loads s i n).2.2 = 0
    · have hl := loads_len s i n h1
      rw [loads_succ s i n h1] at h0 ⊢
      by_cases h : k < n
      · rw [getD_left (by omega)]
        exact ih h1 k h
      · obtain rfl : k = n := by omega
        rw [getD_right (by omega), hl, Nat.sub_self]
        obtain ⟨q1, q2, q3⟩ := key k
        simp only [List.getD_cons_zero]
        simp only at h0
        unfold Dsk.St.read at h0 ⊢
        rw [q2, q3] at h0 ⊢
        split at h0
        · cases h0
        split at h0
        · cases h0
        rename_i g1 g2
        rw [if_neg g1, if_neg g2]
        cases hc : s.cach (i + k) with
        | none => exact hd.lens _ (by omega)
        | some bs => exact (hd.keys _ bs hc).2.2
    · rw [loads_stop s i n (n + 1) h1 (by omega)] at h0
      exact absurd h0 h1

/-- what load answers -/
def LoadPost (w : World) (p : Nat) (F : Nat → Prop) (s : St) (i : Int) (n t : Nat) (e : Ending) (w' : World) : Prop :=
  Keeps F w w' ∧ DiskAt Tryz.prog w' p F (loads s i n).1 ∧ (((loads s i n).2.2 ≠ 0 ∧ e = .returned (.tuple #[.slice none 0 0, .int .i64 (loads s i n).2.2])) ∨
    ((loads s i n).2.2 = 0 ∧ ∃ v, e = .returned (.tuple #[v, .int .i64 0]) ∧ Own w.heap.size w' v (glued (loads s i n).2.1 t) ∧ (glued (loads s i n).2.1 t).length = t))
theorem sect_room (t size : Nat) (n : Nat) (h1 : 1 ≤ size) (hs : size ≤ 4096) (ht : t ≤ 131072) (h : sect t size = n) : t ≤ n * size ∧ n * size ≤ 140000 ∧ n ≤ 131072 := by
  unfold sect at h
  split at h
  · rename_i hq
    have hd : ((t : Int) - 1) / (size : Int) = ((t - 1) / size : Nat) := by
      have : (t : Int) - 1 = ((t - 1 : Nat) : Int) := by omega
      rw [this]
      exact (Int.natCast_ediv _ _).symm
    try rw [Int.tdiv_eq_ediv_of_nonneg (by omega)] at h
    rw [hd] at h
    have e := Nat.div_add_mod (t - 1) size
    have l := Nat.mod_lt (t - 1) (show 0 < size by omega)
    have hn : n = (t - 1) / size + 1 := by omega
    have e2 : n * size = size * ((t - 1) / size) + size := by rw [hn, Nat.add_mul, Nat.one_mul, Nat.mul_comm]
    have hle : (t - 1) / size ≤ t - 1 := Nat.div_le_self _ _
    omega
  · obtain rfl : n = 0 := by omega
    omega
set_option maxHeartbeats 1000000 in
theorem load_any (w : World) (p a c m : Nat) (F : Nat → Prop) (s : St) (first : Int) (n t size : Nat) (h : DiskAt Tryz.prog w p F s) (hH : Hand w a c p first) (hFa : ¬ F a) (hFc : ¬ F c) (hO : Ok m s) (hm : m + n < 1000000) (hsz : s.size = size) (h1 : 1 ≤ size)
    (ht : t ≤ 131072) (hn : sect t size = n) (hf0 : 0 ≤ first) (hf1 : first ≤ 500000) :
    Calls Tryz.prog 141 #[placeV size a c, .int .i64 t] w (LoadPost w p F s (first + 1) n t) := by
  have hs4 := hO.size
  rw [hsz] at hs4
  obtain ⟨r1, r2, r3⟩ := sect_room t size n h1 hs4 ht hn
  have HR := Lib.hid (And.intro r1 r2)
  have H := Lib.hid h
  have HH := Lib.hid hH
  have HF := Lib.hid (And.intro hFa hFc)
  have HO := Lib.hid hO
  have HS := Lib.hid hsz
  have HN := Lib.hid hn
  obtain ⟨b0, b1, b2⟩ := boxed w (.int .i64 (size : Int)) (fnV 110 a c) (fnV 112 a c) 130
  clear h hH hFa hFc hO hsz hn r1 r2
  go_enter Tryz.func141, Tryz.ntmps141
  go_wp2_with fail
  have HK0 := Lib.hid ((Keeps.refl No w).alloc (.cells #[.int .i64 (size : Int), fnV 110 a c, fnV 112 a c] 130))
  have HP := Lib.hid (show w.heap.size < (w.alloc (.cells #[.int .i64 (size : Int), fnV 110 a c, fnV 112 a c] 130)).heap.size by simp)
  generalize w.alloc (.cells #[.int .i64 (size : Int), fnV 110 a c, fnV 112 a c] 130) = W at *
  refine (sectors_any t size n _ (by simp [Lit.wf, IntKind.min, IntKind.max, IntKind.signed, IntKind.bits]; omega) HN.out).mono ?_
  rintro e W ⟨rfl, rfl⟩
  have HF2 := Lib.hid (fun b (hb : F b) => Nat.lt_trans (H.out.there b hb) HP.out)
  have HD := Lib.hid (H.out.keeps HK0.out (fun b _ hs => hs))
  have HHD := Lib.hid (HH.out.keep HK0.out (fun hs => hs) (fun hs => hs))
  have HPN := Lib.hid (show ¬ F w.heap.size from fun hb => Nat.lt_irrefl _ (H.out.there _ hb))
  go_wp2_with fail
  go_loopw [6, 14] (fun V i wr => ∃ k : Nat, k ≤ n ∧ i = .int .i64 k ∧ LoadAt W p F s (first + 1) k V wr) (fun _ i _ => n - (iv i).toNat)
  case atStart => exact ⟨0, Nat.zero_le _, rfl, rfl, HD.out, Keeps.refl _ _, [], World.ownsRow_nil _ _ _ _, fun j hj => absurd hj (by omega)⟩
  case round =>
    obtain ⟨k, hk, rfl, hat⟩ := hrel
    have k0 := (hat.keeps.cell HP.out HPN.out).trans b0
    have k1 := (hat.keeps.cell HP.out HPN.out).trans b1
    have HAT := Lib.hid hat
    clear hat
    obtain ⟨A, q, cc, rfl⟩ : ∃ A q cc, u6 = .slice A q cc := by
      obtain ⟨vs, hvs, _⟩ := HAT.out.vals
      rcases hvs.2 with ⟨e, _⟩ | ⟨g, cap, cur, e, _⟩ <;> exact ⟨_, _, _, e⟩
    by_cases hlt : k < n
    · have HHW := Lib.hid (HHD.out.keep HAT.out.keeps HF.out.1 HF.out.2)
      have HOK := Lib.hid (loads_ok HO.out (first + 1) k).1
      obtain ⟨j, hj⟩ : ∃ j, first + (1 + (k : Int)) = j := ⟨_, rfl⟩
      have HJ := Lib.hid hj
      have hje : first + 1 + (k : Int) = j := by omega
      have HJE := Lib.hid hje
      have hj0 : 0 ≤ j := by omega
      have hj1 : j ≤ 1000000 := by omega
      have HB := Lib.hid (And.intro hj0 hj1)
      clear hj hje hj0 hj1
      obtain ⟨vs, hvs, hall⟩ := HAT.out.vals
      have HVS := Lib.hid hvs
      have HALL := Lib.hid hall
      clear hvs hall
      go_wp2_with fail
      refine (readC_any _ p a c _ F _ _ first j HAT.out.disk HHW.out HOK.out (by omega) HJ.out HB.out.1 HB.out.2).mono ?_
      rintro e w' ⟨u, rfl, hu, hd, hkp⟩
      obtain ⟨Au, nu, cu, rfl⟩ : ∃ A q cc, u = .slice A q cc := by
        obtain ⟨A, cc, e⟩ := hu.bys.form
        exact ⟨_, _, _, e⟩
      obtain ⟨er, her⟩ : ∃ er, (Dsk.St.read (loads s (first + 1) k).1 j).2 = er := ⟨_, rfl⟩
      rw [her]
      have HU := Lib.hid (And.intro hu (And.intro hd hkp))
      clear hu hd hkp
      by_cases h0 : er = 0
      · subst h0
        have HER := Lib.hid her
        obtain ⟨V', w2, hr, hV', hg⟩ := append_list w' W.heap.size 63 k _ _ vs (row_keeps HVS.out HU.out.2.2 HF2.out) (bys_one HU.out.1) (by omega) (HAT.out.keeps.trans HU.out.2.2).size
        have HRR := Lib.hid hr
        have R := Lib.hid (HAT.out.next HF2.out (by rw [HJE.out]; exact HER.out) (by rw [HJE.out]; exact HU.out.1) HU.out.2.1 HU.out.2.2 HVS.out HALL.out hV' hg)
        clear hr hV' hg her
        go_wp2_with (at_builtin; refine Lib.wpList_append_run _ rfl _ _ _ _ rfl _ _ rfl rfl _ _ HRR.out ?_)
        go_roundw
        case rel => exact ⟨k + 1, by omega, by go_num, R.out⟩
        case measure => simp [iv]; omega
      · have hd0 : decide (er = 0) = false := by simp [h0]
        have HE := Lib.hid (show loads s (first + 1) n = ((loads s (first + 1) k).1.tick, (loads s (first + 1) k).2.1 ++ [(Dsk.St.read (loads s (first + 1) k).1 (first + 1 + k)).1], er) by
          have e1 := loads_succ s (first + 1) k HAT.out.err
          rw [HJE.out, her] at e1
          rw [loads_stop s (first + 1) (k + 1) n (by rw [e1]; exact h0) (by omega), e1, HJE.out])
        go_wp2_with fail
        go_returns
        refine ⟨HK0.out.no.trans (HAT.out.keeps.trans HU.out.2.2), ?_, .inl ⟨?_, ?_⟩⟩
        · rw [HE.out]; exact HU.out.2.1
        · rw [HE.out]; exact h0
        · rw [HE.out]; rfl
    · obtain rfl : k = n := by omega
      have hz := loads_each HD.out (first + 1) k HAT.out.err
      rw [HS.out] at hz
      obtain ⟨rfl, hls⟩ := HAT.out.lsts HO.out (fun j hj => by rw [hz j hj]; omega)
      have HLS := Lib.hid hls
      have HZ := Lib.hid hz
      clear hls hz
      go_wp2_with fail
      refine (glue_any _ _ _ _ t size _ _ HLS.out (Nat.le_refl _) (fun j hj => by rw [HZ.out j (by rw [loads_len _ _ _ HAT.out.err] at hj; exact hj)]; exact Nat.le_refl _) (by have := HR.out.2; omega) (by omega) (by omega)).mono ?_
      have hfull : (glued (loads s (first + 1) q).2.1 t).length = t := by
        have : ∀ (L : List (List Int)), (∀ j, j < L.length → (L.getD j []).length = size) → L.flatten.length = L.length * size := by
          intro L
          induction L with
          | nil => intro _; simp
          | cons x L ih =>
            intro hx
            have h0 := hx 0 (by simp)
            have h1 := ih (fun j hj => by have := hx (j + 1) (by simpa using hj); simpa using this)
            simp at h0
            rw [List.flatten_cons, List.length_append, h0, h1, List.length_cons, Nat.add_mul, Nat.one_mul, Nat.add_comm]
        unfold glued
        have hl := loads_len _ _ _ HAT.out.err
        rw [List.length_take, this _ (fun j hj => HZ.out j (by rw [hl] at hj; exact hj)), hl]
        have := HR.out.1
        omega
      have HFULL := Lib.hid hfull
      rintro e w' ⟨hb, h⟩
      rcases h with ⟨hlt2, _⟩ | ⟨_, v, rfl, hv⟩
      · omega
      have HB := Lib.hid (And.intro hb hv)
      clear hb hv hfull
      go_wp2_with fail
      go_returns
      refine ⟨(HK0.out.no.trans HAT.out.keeps).trans (Keeps.of_below HB.out.1).no, HAT.out.disk.keeps (Keeps.of_below HB.out.1) (fun _ _ h => h), .inr ⟨HAT.out.err, v, rfl, ?_, HFULL.out⟩⟩
      exact HB.out.2.base_ (HK0.out.no (T := F) |>.trans HAT.out.keeps).size
end Go.Proofs.YthlemcnbebfliaaGreatDoor
