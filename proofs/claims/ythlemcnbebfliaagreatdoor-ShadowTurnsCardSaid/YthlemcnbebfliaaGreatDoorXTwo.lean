/-
  THE WALKS OF bytes.Equal, of a shadow's other, Image, Seq, Which, Stale.
  WHAT Commit DOES, OF DISKS AS VALUES; the walk of shadow.Commit.
-/
import Derived.Test.YthlemcnbebfliaaGreatDoorXOpen
import Derived.Laws.BytesArg
import Derived.Lib.Bytes
namespace Go.Proofs.YthlemcnbebfliaaGreatDoor
open Ks Go.RowKit
set_option maxRecDepth 20000

theorem str_zero (w : World) (src e : TypeId) (hs : Tryz.prog.underlying src = some (.slice e)) (he : Tryz.prog.underlying e = some (.int .u8)) (p : Option Addr) (c : Nat) :
    ∀ dst, Tryz.prog.underlying dst = some .string → (convert src dst (.slice p 0 c)).run Tryz.prog w = .ok (.string (strOfNums [])) w := by
  intro dst hd
  rw [run_convert_bytes_string w src dst e _ 0 c hs he hd]
  cases p <;> simp [Conv.bytesToString, loadCells]
  all_goals rfl
theorem str_of {w : World} {F : Nat → Prop} {A : Option Addr} {n c : Nat} {l : List Int} (h : Bys w F (.slice A n c) l) : (convert 33 9 (.slice A n c)).run Tryz.prog w = .ok (.string (strOfNums l)) w := by
  obtain ⟨A', c', e, _, hx⟩ := h
  injection e with e1 e2 e3
  subst e1 e2 e3
  rcases Nat.eq_zero_or_pos l.length with h0 | h0
  · obtain rfl := List.eq_nil_of_length_eq_zero h0
    exact str_zero w _ _ Tryz.underlying33 Tryz.underlying5 _ _ 9 Tryz.underlying9
  · obtain ⟨b, o, rfl, _, hc⟩ := hx h0
    exact run_convert_bytes_arg w _ _ Tryz.underlying33 Tryz.underlying5 b o _ _ l rfl hc 9 Tryz.underlying9
theorem str_inj {l l' : List Int} (h : In8 l) (h' : In8 l') : ((strOfNums l).toList == (strOfNums l').toList) = decide (l = l') := by
  rw [Lib.strOfNums_toList, Lib.strOfNums_toList]
  by_cases e : l = l'
  · subst e
    simp
  · rw [decide_eq_false e]
    have : Lib.bytesOf l ≠ Lib.bytesOf l' := fun h1 => e (by
      clear e
      unfold Lib.bytesOf at h1
      induction l generalizing l' with
      | nil => cases l' with
        | nil => rfl
        | cons _ _ => simp at h1
      | cons x xs ih => cases l' with
        | nil => simp at h1
        | cons y ys =>
          rw [List.map_cons, List.map_cons] at h1
          injection h1 with h2 h3
          have hx := h x (List.mem_cons_self ..)
          have hy := h' y (List.mem_cons_self ..)
          have h4 : x.toNat % 256 = y.toNat % 256 := by
            have := congrArg UInt8.toNat h2
            simpa using this
          rw [ih (fun v hv => h v (List.mem_cons_of_mem _ hv)) (fun v hv => h' v (List.mem_cons_of_mem _ hv)) h3, show x = y by omega])
    simpa using this
theorem equal_any (w : World) (F G : Nat → Prop) (A A' : Option Addr) (n c n' c' : Nat) (l l' : List Int) (h : Bys w F (.slice A n c) l) (h' : Bys w G (.slice A' n' c') l') (h8 : In8 l) (h8' : In8 l') :
    Calls Tryz.prog 59 #[.slice A n c, .slice A' n' c'] w fun e w' => e = .returned (.bool (decide (l = l'))) ∧ w = w' := by
  have q1 := str_of h
  have q2 := str_of h'
  have q3 := Lib.hid (str_inj h8 h8')
  generalize strOfNums l = sa at *
  generalize strOfNums l' = sb at *
  clear h h' h8 h8'
  go_enter Tryz.func59, Tryz.ntmps59
  go_wp2_with fail
  go_ret
  rw [q3.out]
  exact ⟨rfl, rfl⟩
/-- a shadow's cells -/
theorem sh_cells {w : World} {q p : Nat} {a b c sq wh : Int} {st : Bool} {iv : Value} (h : Blk w q 97 #[.pointer (some ⟨p, 0, none⟩), .int .i64 a, .int .i64 b, .int .i64 c, iv, .int .u64 sq, .int .i64 wh, .bool st]) :
    w.cell? ⟨q, 0, none⟩ = some (.pointer (some ⟨p, 0, none⟩)) ∧ w.cell? ⟨q, 1, none⟩ = some (.int .i64 a) ∧ w.cell? ⟨q, 2, none⟩ = some (.int .i64 b) ∧ w.cell? ⟨q, 3, none⟩ = some (.int .i64 c) ∧ w.cell? ⟨q, 4, none⟩ = some iv ∧ w.cell? ⟨q, 5, none⟩ = some (.int .u64 sq) ∧ w.cell? ⟨q, 6, none⟩ = some (.int .i64 wh) ∧ w.cell? ⟨q, 7, none⟩ = some (.bool st) :=
  ⟨h.cell 0, h.cell 1, h.cell 2, h.cell 3, h.cell 4, h.cell 5, h.cell 6, h.cell 7⟩
theorem other_any (w : World) (q : Nat) (wh : Int) (h : w.cell? ⟨q, 6, none⟩ = some (.int .i64 wh)) (hw : 0 ≤ wh ∧ wh ≤ 1) : Calls Tryz.prog 61 #[.pointer (some ⟨q, 0, none⟩)] w fun e w' => e = .returned (.int .i64 (1 - wh)) ∧ w = w' := by
  obtain ⟨h1, h2⟩ := hw
  have hwr : IntKind.i64.wrap (1 - wh) = 1 - wh := by rw [IntKind.wrap_i64]; omega
  go_enter Tryz.func61, Tryz.ntmps61
  go_wp2_with fail
  go_ret
  exact ⟨rfl, rfl⟩
section
variable {w : World} {q p : Nat} {F : Nat → Prop} {a b c : Int} {x : Sh}
theorem seq_any (h : ShAt w q p F a b c x) : Calls Tryz.prog 33 #[.pointer (some ⟨q, 0, none⟩)] w fun e w' => e = .returned (.int .u64 x.seq) ∧ w = w' := by
  obtain ⟨⟨iv, hb, _⟩, _⟩ := h
  obtain ⟨_, _, _, _, _, h5, _, _⟩ := sh_cells hb
  generalize x.seq = y at *
  clear hb
  go_enter Tryz.func33, Tryz.ntmps33
  go_wp2_with fail
  go_ret
  exact ⟨rfl, rfl⟩
theorem which_any (h : ShAt w q p F a b c x) : Calls Tryz.prog 34 #[.pointer (some ⟨q, 0, none⟩)] w fun e w' => e = .returned (.int .i64 x.which) ∧ w = w' := by
  obtain ⟨⟨iv, hb, _⟩, _⟩ := h
  obtain ⟨_, _, _, _, _, _, h5, _⟩ := sh_cells hb
  generalize x.which = y at *
  clear hb
  go_enter Tryz.func34, Tryz.ntmps34
  go_wp2_with fail
  go_ret
  exact ⟨rfl, rfl⟩
theorem stale_any (h : ShAt w q p F a b c x) : Calls Tryz.prog 35 #[.pointer (some ⟨q, 0, none⟩)] w fun e w' => e = .returned (.bool x.stale) ∧ w = w' := by
  obtain ⟨⟨iv, hb, _⟩, _⟩ := h
  obtain ⟨_, _, _, _, _, _, _, h5⟩ := sh_cells hb
  generalize x.stale = y at *
  clear hb
  go_enter Tryz.func35, Tryz.ntmps35
  go_wp2_with fail
  go_ret
  exact ⟨rfl, rfl⟩
theorem image_any (h : ShAt w q p F a b c x) (hl : x.img.length ≤ 1000000) : Calls Tryz.prog 19 #[.pointer (some ⟨q, 0, none⟩)] w (Dsk.NewBys w x.img) := by
  obtain ⟨⟨iv, hb, hi⟩, _⟩ := h
  obtain ⟨_, _, _, _, h5, _, _, _⟩ := sh_cells hb
  obtain ⟨A, c', rfl⟩ := hi.form
  have HI := Lib.hid hi
  have HL := Lib.hid hl
  obtain ⟨l, hll⟩ : ∃ l, x.img = l := ⟨_, rfl⟩
  rw [hll] at HI HL h5 ⊢
  obtain ⟨n, hn⟩ : ∃ n, l.length = n := ⟨_, rfl⟩
  rw [hn] at h5
  have HN := Lib.hid hn
  rw [hn] at HI
  clear hb hi hl hll hn
  go_enter Tryz.func19, Tryz.ntmps19
  go_wp2_with fail
  refine (Dsk.clone_any w _ _ l HI.out HL.out).mono ?_
  rintro e w1 ⟨v, rfl, hv, hk⟩
  obtain ⟨A1, c1, rfl⟩ := hv.bys.form
  have HV := Lib.hid (And.intro hv hk)
  rw [HN.out] at HV ⊢
  clear hv hk
  go_wp2_with fail
  go_ret
  exact ⟨_, rfl, HV.out.1, HV.out.2⟩
end
end Go.Proofs.YthlemcnbebfliaaGreatDoor
namespace Go.Proofs.YthlemcnbebfliaaGreatDoor
open Ks Go.RowKit
set_option maxRecDepth 20000

theorem doorC_panic {tmps : Array Value} {R : Ending → World → Prop} {N : Nat} {x er : Int} {w : World} (ht : tmps[4]? = some (.pointer (some ⟨N, 0, none⟩))) (hc : w.cell? ⟨N, 0, none⟩ = some (.int .i64 x)) (hz : w.frozen? ⟨N, 0, none⟩ = false)
    (hR : R (.returned (.int .i64 er)) (w.setCell ⟨N, 0, none⟩ (.int .i64 er)).drew) : Leaves Tryz.prog Tryz.f24 tmps R [{ target := Target.fn (Fn.func 60) #[.pointer (some ⟨N, 0, none⟩)], args := #[] }] (.panicking (wrongV er)) w := by
  refine leaves_cons (f := 60) (args := #[.pointer (some ⟨N, 0, none⟩)]) (by simp) (by simp [go_sem]) ?_
  refine (catchC_panicking ⟨N, 0, none⟩ x er w hc hz).mono ?_
  rintro e u' w'' ⟨rfl, rfl, rfl⟩
  have hs : (w.setCell ⟨N, 0, none⟩ (.int .i64 er)).cell? ⟨N, 0, none⟩ = some (.int .i64 er) := by simp [go_sem, hc]
  simp [Leaves, settle, results, Tryz.results24, go_sem, ht, hs]
  exact hR
theorem doorC_ret {tmps : Array Value} {R : Ending → World → Prop} {N : Nat} {x : Int} {w : World} (ht : tmps[4]? = some (.pointer (some ⟨N, 0, none⟩))) (hc : w.cell? ⟨N, 0, none⟩ = some (.int .i64 x)) (hz : w.frozen? ⟨N, 0, none⟩ = false)
    (hR : R (.returned (.int .i64 x)) (w.setCell ⟨N, 0, none⟩ (.int .i64 x)).drew) : Leaves Tryz.prog Tryz.f24 tmps R [{ target := Target.fn (Fn.func 60) #[.pointer (some ⟨N, 0, none⟩)], args := #[] }] .returning w := by
  refine leaves_cons (f := 60) (args := #[.pointer (some ⟨N, 0, none⟩)]) (by simp) (by simp [go_sem]) ?_
  refine (catchC_idle ⟨N, 0, none⟩ x w hc hz).mono ?_
  rintro e u' w'' ⟨rfl, rfl, rfl⟩
  have hs : (w.setCell ⟨N, 0, none⟩ (.int .i64 x)).cell? ⟨N, 0, none⟩ = some (.int .i64 x) := by simp [go_sem, hc]
  simp [Leaves, settle, results, Tryz.results24, go_sem, ht, hs]
  exact hR
theorem doorC_plain {tmps : Array Value} {R : Ending → World → Prop} {N : Nat} {x : Int} {w : World} (ht : tmps[4]? = some (.pointer (some ⟨N, 0, none⟩))) (hc : w.cell? ⟨N, 0, none⟩ = some (.int .i64 x)) (hR : R (.returned (.int .i64 x)) w) :
    Leaves Tryz.prog Tryz.f24 tmps R [] .returning w := by
  simp [Leaves, results, Tryz.results24, go_sem, ht, hc]
  exact hR
/-- what Commit does, and tells -/
def commitOf (s : St) (x : Sh) (a b c : Int) (l : List Int) : St × Sh × Int :=
  if x.stale = true then (s, x, 11) else if (l.length : Int) ≠ total a b c then (s, x, 1) else if l = x.img then (s, x, 0) else if x.seq = 18446744073709551615 then (s, x, 12)
  else if (lodgeOf s (1 - x.which) a b c (x.seq + 1) l).2 = 0 then ((lodgeOf s (1 - x.which) a b c (x.seq + 1) l).1, ⟨l, x.seq + 1, 1 - x.which, false⟩, 0)
  else ((lodgeOf s (1 - x.which) a b c (x.seq + 1) l).1, { x with stale := true }, (lodgeOf s (1 - x.which) a b c (x.seq + 1) l).2)
/-- the disk and its shadow, since w; block N is neither's -/
structure Com (p q N : Nat) (F : Nat → Prop) (s : St) (a b c : Int) (x : Sh) (w V : World) : Prop where
  keeps : Keeps (fun k => F k ∨ k = q) w V
  more : ∃ F', DiskAt Tryz.prog V p F' s ∧ (∀ k, F' k → Dsk.Grow F w V k) ∧ ShAt V q p (fun k => F' k ∨ k = N) a b c x
/-- what Commit says -/
def CommitSays (w : World) (p q : Nat) (F : Nat → Prop) (s : St) (a b c : Int) (x : Sh) (er : Int) (e : Ending) (w' : World) : Prop :=
  e = .returned (.int .i64 er) ∧ Keeps (fun k => F k ∨ k = q) w w' ∧ ∃ F', DiskAt Tryz.prog w' p F' s ∧ (∀ k, F' k → Dsk.Grow F w w' k) ∧ ShAt w' q p F' a b c x
theorem ShAt.mono {w : World} {q p : Nat} {F G : Nat → Prop} {a b c : Int} {x : Sh} (h : ShAt w q p F a b c x) (hG : ∀ k, G k → F k) : ShAt w q p G a b c x := by
  obtain ⟨⟨iv, hb, hi⟩, hF, h8⟩ := h
  exact ⟨⟨iv, hb, hi.mono fun b hb => ⟨fun h => hb.1 (hG b h), hb.2⟩⟩, fun h => hF (hG q h), h8⟩
theorem ShAt.avoid {w w' : World} {q p N : Nat} {F : Nat → Prop} {a b c : Int} {x : Sh} (h : ShAt w q p F a b c x) (hb : Below w.heap.size w w') (hN : w.heap.size ≤ N) : ShAt w' q p (fun k => F k ∨ k = N) a b c x := by
  obtain ⟨⟨iv, hbl, hi⟩, hF, h8⟩ := h
  have hl := hbl.lt
  refine ⟨⟨iv, hbl.of_eq (hb.block _ hbl.lt), (hi.there.keeps (S := No) (Keeps.of_below hb) fun _ _ _ h => h).mono fun b hb => ⟨fun h => ?_, hb.1.2⟩⟩, fun h => ?_, h8⟩
  · rcases h with h | h
    · exact hb.1.1 h
    · have := hb.2; omega
  · rcases h with h | h
    · exact hF h
    · omega
/-- a shadow stays while nothing of it is written -/
theorem ShAt.keep {w w' : World} {q p : Nat} {F : Nat → Prop} {a b c : Int} {x : Sh} {S : Nat → Prop} (h : ShAt w q p F a b c x) (hk : Keeps S w w') (hq : ¬ S q) (hS : ∀ k, S k → k < w.heap.size → F k ∨ k = q ∨ False) : ShAt w' q p F a b c x := by
  obtain ⟨⟨iv, hb, hi⟩, hF, h8⟩ := h
  refine ⟨⟨iv, hb.of_eq (hk.block _ hb.lt hq), hi.keeps hk fun b hb hl hs => ?_⟩, hF, h8⟩
  rcases hS b hs hl with h1 | h1 | h1
  · exact hb.1 h1
  · exact hb.2 h1
  · exact h1
theorem ShAt.below {w w' : World} {q p : Nat} {F : Nat → Prop} {a b c : Int} {x : Sh} (h : ShAt w q p F a b c x) (hb : Below w.heap.size w w') : ShAt w' q p F a b c x :=
  h.keep (S := No) (Keeps.of_below hb) (fun h => h) (fun _ h _ => h.elim)
theorem ShAt.lt {w : World} {q p : Nat} {F : Nat → Prop} {a b c : Int} {x : Sh} (h : ShAt w q p F a b c x) : q < w.heap.size := by
  obtain ⟨⟨iv, hb, _⟩, _⟩ := h
  exact hb.lt
theorem ShAt.grow {w w' : World} {q p : Nat} {F : Nat → Prop} {a b c : Int} {x : Sh} (h : ShAt w q p F a b c x) (hk : Keeps F w w') : ShAt w' q p (Dsk.Grow F w w') a b c x := by
  have hl := h.lt
  obtain ⟨⟨iv, hb, hi⟩, hF, h8⟩ := h
  refine ⟨⟨iv, hb.of_eq (hk.block _ hb.lt hF), (hi.there.keeps hk fun b hb hl hs => hb.1.1 hs).mono fun b hb => ⟨fun hg => ?_, hb.1.2⟩⟩, fun hg => ?_, h8⟩
  · rcases hg with hg | hg
    · exact hb.1.1 hg
    · have := hb.2; omega
  · rcases hg with hg | hg
    · exact hF hg
    · omega
theorem Com.close {p q N : Nat} {F : Nat → Prop} {s : St} {a b c : Int} {x : Sh} {w W V : World} (h : Com p q N F s a b c x W V) (hb : Below w.heap.size w W) (h0 : w.heap.size ≤ N) (h1 : N < W.heap.size) (hF : ¬ F N) (v : Value) (er : Int) :
    CommitSays w p q F s a b c x er (.returned (.int .i64 er)) (V.setCell ⟨N, 0, none⟩ v) := by
  have hsz : (V.setCell ⟨N, 0, none⟩ v).heap.size = V.heap.size := by simp [World.setCell]
  have hk : Keeps (fun k => k = N) V (V.setCell ⟨N, 0, none⟩ v) := (Keeps.refl (fun k => k = N) V).set_ (p := ⟨N, 0, none⟩) (.inl rfl) v
  obtain ⟨F', hd, hG, hS⟩ := h.more
  have hN : ¬ F' N := fun hf => by
    rcases hG N hf with h2 | h2
    · exact hF h2
    · omega
  have hsh : ShAt (V.setCell ⟨N, 0, none⟩ v) q p F' a b c x := by
    obtain ⟨⟨iv, hbl, hi⟩, hFq, h8⟩ := hS
    exact ⟨⟨iv, hbl.of_eq (hk.block _ hbl.lt (fun e => hFq (.inr e))), (hi.keeps hk fun b hb _ e => hb.1 (.inr e)).mono fun b hb => ⟨fun h => hb.1 (.inl h), hb.2⟩⟩, fun h => hFq (.inl h), h8⟩
  refine ⟨rfl, (((Keeps.of_below hb).no.trans h.keeps).set_ (p := ⟨N, 0, none⟩) (.inr h0) v), F', hd.keeps hk (fun b hf e => hN (by have e : b = N := e; exact e ▸ hf)), fun k hk => ?_, hsh⟩
  rcases hG k hk with h2 | h2
  · exact .inl h2
  · exact .inr ⟨Nat.le_trans hb.size h2.1, by rw [hsz]; exact h2.2⟩
theorem Com.below {p q N : Nat} {F : Nat → Prop} {s : St} {a b c : Int} {x : Sh} {W V V' : World} (h : Com p q N F s a b c x W V) (hb : Below V.heap.size V V') : Com p q N F s a b c x W V' := by
  obtain ⟨F', hd, hG, hS⟩ := h.more
  refine ⟨h.keeps.trans (Keeps.of_below hb).no, F', hd.below_ hb, fun k hk => ?_, hS.below hb⟩
  rcases hG k hk with h2 | h2
  · exact .inl h2
  · exact .inr ⟨h2.1, Nat.lt_of_lt_of_le h2.2 hb.size⟩
theorem CommitSays.drew {w w' : World} {p q : Nat} {F : Nat → Prop} {s : St} {a b c er : Int} {x : Sh} {e : Ending} (h : CommitSays w p q F s a b c x er e w') : CommitSays w p q F s a b c x er e w'.drew := by
  obtain ⟨h1, h2, F', h3, h4, h5⟩ := h
  exact ⟨h1, h2.drew, F', h3.below_ (Below.refl _ _).drew, h4, h5.below (Below.refl _ _).drew⟩
abbrev setsq (w : World) (q : Nat) (v : Value) (sq wh : Int) : World := (((w.setCell ⟨q, 4, none⟩ v).setCell ⟨q, 5, none⟩ (.int .u64 sq)).setCell ⟨q, 6, none⟩ (.int .i64 wh)).setCell ⟨q, 7, none⟩ (.bool false)
theorem setsq_one (w : World) (q : Nat) (v : Value) (sq wh : Int) : Keeps (fun k => k = q) w (setsq w q v sq wh) :=
  ((((Keeps.refl (fun k => k = q) w).set_ (p := ⟨q, 4, none⟩) (.inl rfl) v).set_ (p := ⟨q, 5, none⟩) (.inl rfl) (.int .u64 sq)).set_ (p := ⟨q, 6, none⟩) (.inl rfl) (.int .i64 wh)).set_ (p := ⟨q, 7, none⟩) (.inl rfl) (.bool false)
theorem commit_end {p q N : Nat} {F G : Nat → Prop} {s : St} {a b c sq wh sq' wh' : Int} {st : Bool} {W w4 w5 : World} {iv v : Value} {l : List Int} (hK : Keeps (fun k => F k ∨ k = q) W w4) (hd : DiskAt Tryz.prog w4 p G s) (hG : ∀ k, G k → Dsk.Grow F W w4 k) (hN : N < w4.heap.size)
    (hb : Blk w4 q 97 #[.pointer (some ⟨p, 0, none⟩), .int .i64 a, .int .i64 b, .int .i64 c, iv, .int .u64 sq, .int .i64 wh, .bool st]) (hq : ¬ (G q ∨ q = N)) (hk : Keeps No w4 w5) (hv : Byt w5 (From w4.heap.size) v l) (h8 : In8 l) :
    Com p q N F s a b c ⟨l, sq', wh', false⟩ W (setsq w5 q v sq' wh') := by
  have hb5 := hb.of_eq (hk.block _ hb.lt (fun h => h))
  have k1 := setsq_one w5 q v sq' wh'
  have hsz := k1.size
  have hbl : Blk (setsq w5 q v sq' wh') q 97 #[.pointer (some ⟨p, 0, none⟩), .int .i64 a, .int .i64 b, .int .i64 c, v, .int .u64 sq', .int .i64 wh', .bool false] := by
    have h1 : Blk (w5.setCell ⟨q, 4, none⟩ v) q 97 #[.pointer (some ⟨p, 0, none⟩), .int .i64 a, .int .i64 b, .int .i64 c, v, .int .u64 sq, .int .i64 wh, .bool st] := hb5.set_ 4 v
    have h2 : Blk ((w5.setCell ⟨q, 4, none⟩ v).setCell ⟨q, 5, none⟩ (.int .u64 sq')) q 97 #[.pointer (some ⟨p, 0, none⟩), .int .i64 a, .int .i64 b, .int .i64 c, v, .int .u64 sq', .int .i64 wh, .bool st] := h1.set_ 5 _
    have h3 : Blk (((w5.setCell ⟨q, 4, none⟩ v).setCell ⟨q, 5, none⟩ (.int .u64 sq')).setCell ⟨q, 6, none⟩ (.int .i64 wh')) q 97 #[.pointer (some ⟨p, 0, none⟩), .int .i64 a, .int .i64 b, .int .i64 c, v, .int .u64 sq', .int .i64 wh', .bool st] := h2.set_ 6 _
    exact h3.set_ 7 _
  have hlq := hb.lt
  refine ⟨(hK.trans hk.no).trans (k1.mono fun b hb => .inr hb), G, ?_, fun k hk' => ?_, ⟨⟨v, hbl, ?_⟩, hq, h8⟩⟩
  · exact (hd.keeps hk (fun _ _ h => h)).keeps k1 (fun b hf e => hq (.inl (by have e : b = q := e; exact e ▸ hf)))
  · rcases hG k hk' with h | h
    · exact .inl h
    · exact .inr ⟨h.1, Nat.lt_of_lt_of_le (Nat.lt_of_lt_of_le h.2 hk.size) hsz⟩
  · refine (hv.bys.keeps k1 fun b hb' _ e => ?_).mono fun b hb' => ?_
    · have e : b = q := e
      unfold From at hb'
      omega
    · unfold From at hb'
      refine ⟨fun h => ?_, by omega⟩
      rcases h with h | h
      · have := hd.there b h
        omega
      · omega
set_option maxHeartbeats 8000000 in
theorem commit_any (w : World) (p q m : Nat) (F : Nat → Prop) (s s2 : St) (x x2 : Sh) (a b c er : Int) (v : Value) (l : List Int) (hT : Tab w) (hF2 : ∀ k, F k → 2 ≤ k) (hq2 : 2 ≤ q) (h : DiskAt Tryz.prog w p F s) (hO : Ok m s) (hm : m + many l.length s.size + 20 < 1000000) (hS : ShAt w q p F a b c x)
    (hsq : 0 ≤ x.seq ∧ x.seq < 18446744073709551616) (hwh : 0 ≤ x.which ∧ x.which ≤ 1) (hl : Bys w (fun k => ¬ F k ∧ k ≠ q) v l) (h8 : In8 l) (hn : l.length ≤ 100000) (hw : commitOf s x a b c l = (s2, x2, er)) :
    Calls Tryz.prog 24 #[.pointer (some ⟨q, 0, none⟩), v] w (CommitSays w p q F s2 a b c x2 er) := by
  have hmf : ∀ (fn : Fn) (first cap : Array Value) (w : World), (Instr.makeFunc fn first cap).run Tryz.prog w = .ok (.func fn first cap) w := fun _ _ _ _ => rfl
  obtain ⟨A, cp, rfl⟩ := hl.form
  obtain ⟨n, hnn⟩ : ∃ n, l.length = n := ⟨_, rfl⟩
  have HNN := Lib.hid hnn
  rw [hnn] at hl ⊢
  have hbb := below_box w (.cells #[.int .i64 0] 31)
  have hr := Blk.new w 31 #[.int .i64 0]
  have hsz := size_alloc w (.cells #[.int .i64 0] 31)
  have HG := Lib.hid (show ¬ F w.heap.size from fun hf => by have := h.there _ hf; omega)
  have HQL := Lib.hid hS.lt
  have HSH := Lib.hid (hS.avoid hbb (Nat.le_refl _))
  have HD := Lib.hid (h.below_ hbb)
  have HT := Lib.hid (tab_below hT hbb (tab_pos hT))
  have HL := Lib.hid ((hl.there.keeps (S := No) (Keeps.of_below hbb) fun _ _ _ h => h).mono (G := fun k => ¬ (F k ∨ k = w.heap.size) ∧ k ≠ q) fun b hb => ⟨fun h => by
    rcases h with h | h
    · exact hb.1.1 h
    · have := hb.2; omega, hb.1.2⟩)
  obtain ⟨W, hW⟩ : ∃ W, w.alloc (.cells #[.int .i64 0] 31) = W := ⟨_, rfl⟩
  rw [hW] at hbb hr hsz HSH HD HT HL
  have HB := Lib.hid hbb
  have HR := Lib.hid hr
  have HWS := Lib.hid hsz
  have HF2 := Lib.hid hF2
  have HQ2 := Lib.hid hq2
  have HO := Lib.hid hO
  have HM := Lib.hid hm
  have HSQ := Lib.hid hsq
  have HWH := Lib.hid hwh
  have H8 := Lib.hid h8
  have HN := Lib.hid hn
  have HW := Lib.hid hw
  have HFR := Lib.hid hr.frozen
  have fr := hr.frozen 0
  have m0 := hr.cell 0
  simp only [List.getElem?_toArray, List.getElem?_cons_zero] at m0
  obtain ⟨img, sq, wh, st⟩ := x
  obtain ⟨⟨iv, hbl, hi⟩, hFq, hi8⟩ := HSH.out
  obtain ⟨A', c', rfl⟩ := hi.form
  have HI := Lib.hid hi
  have HFQ := Lib.hid hFq
  have HI8 := Lib.hid hi8
  have HBL := Lib.hid hbl
  obtain ⟨n', hn'⟩ : ∃ n, img.length = n := ⟨_, rfl⟩
  simp only [hn'] at HI HBL hbl
  obtain ⟨k0, k1, k2, k3, k4, k5, k6, k7⟩ := sh_cells hbl
  simp only at HSQ HWH
  clear hT hF2 hq2 h hO hm hS hsq hwh hl h8 hn hw hbb hr hsz hi hFq hi8 hbl hn' hnn
  go_enter_defers Tryz.func24, Tryz.ntmps24
  have C0 := Lib.hid (show Com p q w.heap.size F s a b c ⟨img, sq, wh, st⟩ W W from ⟨Keeps.refl _ _, F, HD.out, fun k h => .inl h, HSH.out⟩)
  cases st
  rotate_left 1
  · have HE := Lib.hid (show s2 = s ∧ x2 = ⟨img, sq, wh, true⟩ ∧ er = 11 by
      have := HW.out; unfold commitOf at this; rw [if_pos rfl] at this
      exact ⟨(congrArg Prod.fst this).symm, (congrArg (fun z => z.2.1) this).symm, (congrArg (fun z => z.2.2) this).symm⟩)
    go_wp2_with fail
    refine doorC_plain rfl (x := 11) (by simp [go_sem, m0]) ?_
    obtain ⟨rfl, rfl, rfl⟩ := HE.out
    exact C0.out.close HB.out (Nat.le_refl _) (by have := HWS.out; omega) HG.out _ _
  obtain ⟨t, ht⟩ : ∃ t, total a b c = t := ⟨_, rfl⟩
  have HTT := Lib.hid ht
  clear ht
  go_wp2_with fail
  clear hW
  refine (total_at a b c t W HT.out HTT.out).mono ?_
  rintro e w1 ⟨rfl, o1⟩
  have O1 := Lib.hid o1
  have C1 := Lib.hid (C0.out.below o1.bel)
  have HR1 := Lib.hid (HR.out.of_eq (o1.bel.block _ HR.out.lt))
  have HBL1 := Lib.hid (HBL.out.of_eq (o1.bel.block _ HBL.out.lt))
  have HL1 := Lib.hid (HL.out.keeps (S := No) (Keeps.of_below o1.bel) fun _ _ _ h => h)
  have HI1 := Lib.hid (HI.out.keeps (S := No) (Keeps.of_below o1.bel) fun _ _ _ h => h)
  clear o1 m0 fr k0 k1 k2 k3 k4 k5 k6 k7 HBL HL HI C0 HR
  have m0 := HR1.out.cell 0
  have fr := HR1.out.frozen 0
  simp only [List.getElem?_toArray, List.getElem?_cons_zero] at m0
  obtain ⟨k0, k1, k2, k3, k4, k5, k6, k7⟩ := sh_cells HBL1.out
  by_cases hnt : (n : Int) ≠ t
  · have hb : ((n : Int) != t) = true := by simpa using hnt
    have HE := Lib.hid (show s2 = s ∧ x2 = ⟨img, sq, wh, false⟩ ∧ er = 1 by
      have := HW.out; unfold commitOf at this; rw [if_neg Bool.false_ne_true, HNN.out, HTT.out, if_pos hnt] at this
      exact ⟨(congrArg Prod.fst this).symm, (congrArg (fun z => z.2.1) this).symm, (congrArg (fun z => z.2.2) this).symm⟩)
    go_wp2_with fail
    refine doorC_plain rfl (x := 1) (by simp [go_sem, m0]) ?_
    obtain ⟨rfl, rfl, rfl⟩ := HE.out
    exact C1.out.close HB.out (Nat.le_refl _) (by have := HWS.out; omega) HG.out _ _
  have hnt' : (n : Int) = t := by omega
  have hb : ((n : Int) != t) = false := by simpa using hnt'
  clear hnt'
  go_wp2_with fail
  refine (equal_any w1 _ _ A A' n cp n' c' l img HL1.out HI1.out H8.out HI8.out).mono ?_
  rintro e w2 ⟨rfl, rfl⟩
  by_cases hli : l = img
  · rw [decide_eq_true hli]
    have HE := Lib.hid (show s2 = s ∧ x2 = ⟨img, sq, wh, false⟩ ∧ er = 0 by
      have := HW.out; unfold commitOf at this; rw [if_neg Bool.false_ne_true, HNN.out, HTT.out, if_neg hnt, if_pos hli] at this
      exact ⟨(congrArg Prod.fst this).symm, (congrArg (fun z => z.2.1) this).symm, (congrArg (fun z => z.2.2) this).symm⟩)
    go_wp2_with fail
    refine doorC_plain rfl (x := 0) (by simp [go_sem, m0]) ?_
    obtain ⟨rfl, rfl, rfl⟩ := HE.out
    exact C1.out.close HB.out (Nat.le_refl _) (by have := HWS.out; omega) HG.out _ _
  rw [decide_eq_false hli]
  by_cases hsm : sq = 18446744073709551615
  · subst hsm
    have HE := Lib.hid (show s2 = s ∧ x2 = ⟨img, 18446744073709551615, wh, false⟩ ∧ er = 12 by
      have := HW.out; unfold commitOf at this; rw [if_neg Bool.false_ne_true, HNN.out, HTT.out, if_neg hnt, if_neg hli, if_pos rfl] at this
      exact ⟨(congrArg Prod.fst this).symm, (congrArg (fun z => z.2.1) this).symm, (congrArg (fun z => z.2.2) this).symm⟩)
    go_wp2_with fail
    refine doorC_plain rfl (x := 12) (by simp [go_sem, m0]) ?_
    obtain ⟨rfl, rfl, rfl⟩ := HE.out
    exact C1.out.close HB.out (Nat.le_refl _) (by have := HWS.out; omega) HG.out _ _
  have hbs : (sq == 18446744073709551615) = false := by simpa using hsm
  have frq := HBL1.out.frozen 7
  have HNQ := Lib.hid (show ¬ (F q ∨ q = w.heap.size) from HFQ.out)
  have HD1 := Lib.hid (HD.out.below_ O1.out.bel)
  have HK1 := Lib.hid (show Keeps (fun k => F k ∨ k = q) W w1 from (Keeps.of_below O1.out.bel).no)
  go_wp2_with fail
  have q1 : Keeps (fun k => k = q) w1 (w1.setCell ⟨q, 7, none⟩ (.bool true)) := (Keeps.refl (fun k => k = q) w1).set_ (p := ⟨q, 7, none⟩) (.inl rfl) _
  have HB2 := Lib.hid (show Blk (w1.setCell ⟨q, 7, none⟩ (.bool true)) q 97 #[.pointer (some ⟨p, 0, none⟩), .int .i64 a, .int .i64 b, .int .i64 c, .slice A' n' c', .int .u64 sq, .int .i64 wh, .bool true] from HBL1.out.set_ 7 (.bool true))
  have HD2 := Lib.hid (HD1.out.keeps q1 (fun b hf e => HNQ.out (.inl (by have e : b = q := e; exact e ▸ hf))))
  have HL2 := Lib.hid (HL1.out.keeps q1 (fun b hb _ e => hb.2 e))
  have HI2 := Lib.hid (HI1.out.keeps q1 (fun b hb _ e => hb.2 e))
  have HK2 := Lib.hid (HK1.out.trans (q1.mono fun b hb => .inr hb))
  have HR2 := Lib.hid (HR1.out.of_eq (q1.block _ HR1.out.lt (fun e => HNQ.out (.inr e.symm))))
  have HT2 := Lib.hid (tab_keeps HT.out HK2.out (fun b hb => by rcases hb with hb | hb; exact HF2.out b hb; rw [hb]; exact HQ2.out))
  clear q1 frq m0 fr k0 k1 k2 k3 k4 k5 k6 k7
  generalize w1.setCell ⟨q, 7, none⟩ (.bool true) = V1 at *
  have hwrap : IntKind.u64.wrap (sq + 1) = sq + 1 := by have := HSQ.out; rw [IntKind.wrap_u64]; omega
  have hres : ∀ (d : Tmp) (v : Value), d ≠ 4 → ∀ tmps : Array Value, results Tryz.f24 (tmps.setIfInBounds d v) = results Tryz.f24 tmps := fun d v h4 tmps => by
    have e : ∀ k, d ≠ k → (tmps.setIfInBounds d v)[k]?.getD undef = tmps[k]?.getD undef := fun k h => by rw [Array.getElem?_setIfInBounds_ne h]
    simp [results, Tryz.results24, e 4 h4]
  obtain ⟨s3, e3, h3⟩ : ∃ s3 e3, lodgeOf s (1 - wh) a b c (sq + 1) l = (s3, e3) := ⟨_, _, rfl⟩
  have H3 := Lib.hid h3
  clear h3
  rename_i K0 _
  have hpq : ∀ (cc : List PanicEntry) (aa : Act) (ww : World) {d : Tmp} {v : Value}, d ≠ 4 → (Exit.then K0 (bodyPostD Tryz.prog Tryz.f24 (CommitSays w p q F s2 a b c x2 er))) (.panic cc) (aa.put (some d) v) ww → (Exit.then K0 (bodyPostD Tryz.prog Tryz.f24 (CommitSays w p q F s2 a b c x2 er))) (.panic cc) aa ww := fun cc aa ww d v h4 h => leaves_put (hres d v h4) aa.tmps _ _ _ h
  obtain ⟨k0, k1, k2, k3, k4, k5, k6, k7⟩ := sh_cells HB2.out
  refine wp_region_held_drew (S := fun w' => w'.cell? ⟨q, 0, none⟩ = some (.pointer (some ⟨p, 0, none⟩)) ∧ w'.cell? ⟨q, 1, none⟩ = some (.int .i64 a) ∧ w'.cell? ⟨q, 2, none⟩ = some (.int .i64 b) ∧ w'.cell? ⟨q, 3, none⟩ = some (.int .i64 c) ∧ w'.cell? ⟨q, 5, none⟩ = some (.int .u64 sq)) (by kernel_rfl) ⟨k0, k1, k2, k3, k5⟩ (fun hS => ?_)
  refine wpAnyH_take (i := 0) (v := ?_) rfl (by kernel_rfl) (by kernel_rfl) (by kernel_rfl) (fun c a w h => hpq c a w (d := 36) (by decide) h) (Or.inl ⟨by rfl, ?_⟩) (by first | assumption | trivial) ?_
  rotate_left 1
  · intro w0 hSw
    go_simp
    with_reducible rfl
  simp only [Act.put]
  refine wpAnyH_take (i := 1) (v := ?_) rfl (by kernel_rfl) (by kernel_rfl) (by kernel_rfl) (fun c a w h => hpq c a w (d := 37) (by decide) h) (Or.inl ⟨by rfl, ?_⟩) (by first | assumption | trivial) ?_
  rotate_left 1
  · intro w0 hSw
    go_simp
    with_reducible rfl
  simp only [Act.put]
  refine wpAnyH_take (i := 2) (v := ?_) rfl (by kernel_rfl) (by kernel_rfl) (by kernel_rfl) (fun c a w h => hpq c a w (d := 38) (by decide) h) (Or.inl ⟨by rfl, ?_⟩) (by first | assumption | trivial) ?_
  rotate_left 1
  · intro w0 hSw
    go_simp
    with_reducible rfl
  simp only [Act.put]
  refine wpAnyH_take (i := 3) (v := ?_) rfl (by kernel_rfl) (by kernel_rfl) (by kernel_rfl) (fun c a w h => hpq c a w (d := 39) (by decide) h) (Or.inl ⟨by rfl, ?_⟩) (by first | assumption | trivial) ?_
  rotate_left 1
  · intro w0 hSw
    go_simp
    with_reducible rfl
  simp only [Act.put]
  refine wpAnyH_take (i := 4) (v := ?_) rfl (by kernel_rfl) (by kernel_rfl) (by kernel_rfl) (fun c a w h => hpq c a w (d := 40) (by decide) h) (Or.inl ⟨by rfl, ?_⟩) (by first | assumption | trivial) ?_
  rotate_left 1
  · intro w0 hSw
    go_simp
    with_reducible rfl
  simp only [Act.put]
  refine wpAnyH_take (i := 6) (v := ?_) rfl (by kernel_rfl) (by kernel_rfl) (by kernel_rfl) (fun c a w h => hpq c a w (d := 42) (by decide) h) (Or.inl ⟨by rfl, ?_⟩) (by first | assumption | trivial) ?_
  rotate_left 1
  · intro w0 hSw
    go_simp
    with_reducible rfl
  simp only [Act.put]
  refine wpAnyH_take (i := 7) (v := ?_) rfl (by kernel_rfl) (by kernel_rfl) (by kernel_rfl) (fun c a w h => hpq c a w (d := 43) (by decide) h) (Or.inl ⟨by rfl, ?_⟩) (by first | assumption | trivial) ?_
  rotate_left 1
  · intro w0 hSw
    go_simp
    with_reducible rfl
  simp only [Act.put]
  refine wpAnyH_take (i := 8) (v := ?_) rfl (by kernel_rfl) (by kernel_rfl) (by kernel_rfl) (fun c a w h => hpq c a w (d := 44) (by decide) h) (Or.inl ⟨by rfl, ?_⟩) (by first | assumption | trivial) ?_
  rotate_left 1
  · intro w0 hSw
    go_simp
    with_reducible rfl
  simp only [Act.put]
  refine wpAnyH_take (i := 9) (v := ?_) rfl (by kernel_rfl) (by kernel_rfl) (by kernel_rfl) (fun c a w h => hpq c a w (d := 45) (by decide) h) (Or.inl ⟨by rfl, ?_⟩) (by first | assumption | trivial) ?_
  rotate_left 1
  · intro w0 hSw
    go_simp
    with_reducible rfl
  simp only [Act.put]
  refine wpAnyH_take (i := 10) (v := ?_) rfl (by kernel_rfl) (by kernel_rfl) (by kernel_rfl) (fun c a w h => hpq c a w (d := 46) (by decide) h) (Or.inl ⟨by rfl, ?_⟩) (by first | assumption | trivial) ?_
  rotate_left 1
  · intro w0 hSw
    go_simp
    with_reducible rfl
  simp only [Act.put]
  refine wpAnyH_take (i := 11) (v := ?_) rfl (by kernel_rfl) (by kernel_rfl) (by kernel_rfl) (fun c a w h => hpq c a w (d := 47) (by decide) h) (Or.inl ⟨by rfl, ?_⟩) (by first | assumption | trivial) ?_
  rotate_left 1
  · intro w0 hSw
    go_simp
    with_reducible rfl
  simp only [Act.put]
  refine wpAnyH_take (i := 12) (v := ?_) rfl (by kernel_rfl) (by kernel_rfl) (by kernel_rfl) (fun c a w h => hpq c a w (d := 48) (by decide) h) (Or.inl ⟨by rfl, ?_⟩) (by first | assumption | trivial) ?_
  rotate_left 1
  · intro w0 hSw
    go_simp
    with_reducible rfl
  simp only [Act.put]
  refine wpAnyH_take (i := 13) (v := ?_) rfl (by kernel_rfl) (by kernel_rfl) (by kernel_rfl) (fun c a w h => hpq c a w (d := 49) (by decide) h) (Or.inl ⟨by rfl, ?_⟩) (by first | assumption | trivial) ?_
  rotate_left 1
  · intro w0 hSw
    go_simp
    with_reducible rfl
  simp only [Act.put]
  refine wpAnyH_take (i := 14) (v := ?_) rfl (by kernel_rfl) (by kernel_rfl) (by kernel_rfl) (fun c a w h => hpq c a w (d := 50) (by decide) h) (Or.inl ⟨by rfl, ?_⟩) (by first | assumption | trivial) ?_
  rotate_left 1
  · intro w0 hSw
    go_simp
    with_reducible rfl
  simp only [Act.put]
  refine wpAnyH_take (i := 15) (v := ?_) rfl (by kernel_rfl) (by kernel_rfl) (by kernel_rfl) (fun c a w h => hpq c a w (d := 51) (by decide) h) (Or.inl ⟨by rfl, ?_⟩) (by first | assumption | trivial) ?_
  rotate_left 1
  · intro w0 hSw
    go_simp
    with_reducible rfl
  simp only [Act.put]
  refine wpAnyH_ready (rs := [5]) (by kernel_rfl) (by simp) ?_
  refine AllReadyH.cons rfl (fun K hK => ?_) AllReadyH.nil
  go_simp
  refine (other_any V1.drew q wh k6 HWH.out).mono ?_
  rintro e w3 ⟨rfl, rfl⟩
  go_simp
  refine hK.out _ _ ⟨k0, k1, k2, k3, k5⟩ (fun hHeld => ?_)
  clear hK K
  try simp only [Act.put]
  refine wpAnyH_ready (rs := [16]) (by kernel_rfl) (by simp) ?_
  refine AllReadyH.cons rfl (fun K hK => ?_) AllReadyH.nil
  go_simp
  have HL3 := Lib.hid (show Bys V1.drew (fun k => ¬ F k) (.slice A n cp) l from HL2.out.mono fun b hb h => hb.1 (.inl h))
  have HSH3 := Lib.hid (show ShAt V1.drew q p (fun k => F k ∨ k = w.heap.size) a b c ⟨img, sq, wh, true⟩ from ⟨⟨_, HB2.out, HI2.out⟩, HNQ.out, HI8.out⟩)
  refine (shput_any V1.drew p m F s s3 (1 - wh) a b c (sq + 1) e3 _ l (show Tab V1.drew from HT2.out) HF2.out (HD2.out.below_ (Below.refl _ _).drew) HO.out (by have := HM.out; omega) HL3.out H8.out HN.out (by have := HSQ.out; omega) H3.out).mono ?_
  rintro e w4 ⟨rfl, hs⟩
  have S4 := Lib.hid hs
  have HR4 := Lib.hid (HR2.out.of_eq (hs.keeps.block _ (show w.heap.size < V1.drew.heap.size from HR2.out.lt) HG.out))
  have HB4 := Lib.hid (HB2.out.of_eq (hs.keeps.block _ (show q < V1.drew.heap.size from HB2.out.lt) (fun h => HNQ.out (.inl h))))
  have HSH4 := Lib.hid ((HSH3.out.grow (hs.keeps.mono fun k h => .inl h)).mono (G := fun k => Dsk.Grow F V1.drew w4 k ∨ k = w.heap.size) fun k h => by
    rcases h with (h | h) | h
    · exact .inl (.inl h)
    · exact .inr h
    · exact .inl (.inr h))
  have HK4 := Lib.hid (show Keeps (fun k => F k ∨ k = q) W w4 from (HK2.out.drew).trans (hs.keeps.mono fun k h => .inl h))
  have HG4 := Lib.hid (show ∀ k, Dsk.Grow F V1.drew w4 k → Dsk.Grow F W w4 k from fun k h => by
    rcases h with h | h
    · exact .inl h
    · exact .inr ⟨Nat.le_trans HK2.out.size h.1, h.2⟩)
  clear hs
  by_cases h0 : e3 ≠ 0
  · have HE := Lib.hid (show s2 = s3 ∧ x2 = ⟨img, sq, wh, true⟩ ∧ er = e3 by
      have := HW.out; unfold commitOf at this; rw [if_neg Bool.false_ne_true, HNN.out, HTT.out, if_neg hnt, if_neg hli, if_neg hsm] at this
      dsimp only at this
      rw [H3.out, if_neg h0] at this
      exact ⟨(congrArg Prod.fst this).symm, (congrArg (fun z => z.2.1) this).symm, (congrArg (fun z => z.2.2) this).symm⟩)
    rw [if_neg h0]
    obtain ⟨rfl, rfl, rfl⟩ := HE.out
    have C4 : Com p q w.heap.size F s2 a b c ⟨img, sq, wh, true⟩ W w4 := ⟨HK4.out, _, S4.out.disk, HG4.out, HSH4.out⟩
    exact doorC_panic (x := 0) rfl (HR4.out.cell 0) (HR4.out.frozen 0) (C4.close HB.out (Nat.le_refl _) (by have := HWS.out; omega) HG.out _ _).drew
  obtain rfl : e3 = 0 := by omega
  rw [if_pos rfl]
  have HE := Lib.hid (show s2 = s3 ∧ x2 = ⟨l, sq + 1, 1 - wh, false⟩ ∧ er = 0 by
    have := HW.out; unfold commitOf at this; rw [if_neg Bool.false_ne_true, HNN.out, HTT.out, if_neg hnt, if_neg hli, if_neg hsm] at this
    dsimp only at this
    rw [H3.out, if_pos rfl] at this
    exact ⟨(congrArg Prod.fst this).symm, (congrArg (fun z => z.2.1) this).symm, (congrArg (fun z => z.2.2) this).symm⟩)
  clear k0 k1 k2 k3 k4 k5 k6 k7
  obtain ⟨k0, k1, k2, k3, k4, k5, k6, k7⟩ := sh_cells HB4.out
  go_simp
  refine hK.out _ _ ⟨k0, k1, k2, k3, k5⟩ (fun hHeld => ?_)
  clear hK K
  refine wpAnyH_done (by kernel_rfl) ?_ _
  clear hpq hres hHeld hS
  go_wp2_with fail
  have HL4 := Lib.hid (S4.out.bys HL3.out)
  obtain ⟨kq0, kq1⟩ : w.heap.size < w4.heap.size ∧ q < w4.heap.size := ⟨HR4.out.lt, HB4.out.lt⟩
  have HKQ := Lib.hid (And.intro kq0 kq1)
  clear kq0 kq1
  refine wp_region_noPanic ?_
  refine wp_region_held_drew (S := fun _ => True) (by kernel_rfl) trivial (fun _ => ?_)
  refine wpAnyH_take (i := 0) (v := ?_) rfl (by kernel_rfl) (by kernel_rfl) (by kernel_rfl) (fun _ _ _ h => h) (Or.inl ⟨by rfl, ?_⟩) (by first | assumption | trivial) ?_
  rotate_left 1
  · intro w0 hSw
    go_simp
    with_reducible rfl
  simp only [Act.put]
  refine wpAnyH_take (i := 1) (v := ?_) rfl (by kernel_rfl) (by kernel_rfl) (by kernel_rfl) (fun _ _ _ h => h) (Or.inl ⟨by rfl, ?_⟩) (by first | assumption | trivial) ?_
  rotate_left 1
  · intro w0 hSw
    go_simp
    with_reducible rfl
  simp only [Act.put]
  refine wpAnyH_take (i := 2) (v := ?_) rfl (by kernel_rfl) (by kernel_rfl) (by kernel_rfl) (fun _ _ _ h => h) (Or.inl ⟨by rfl, ?_⟩) (by first | assumption | trivial) ?_
  rotate_left 1
  · intro w0 hSw
    go_simp
    with_reducible rfl
  simp only [Act.put]
  refine wpAnyH_take (i := 3) (v := ?_) rfl (by kernel_rfl) (by kernel_rfl) (by kernel_rfl) (fun _ _ _ h => h) (Or.inl ⟨by rfl, ?_⟩) (by first | assumption | trivial) ?_
  rotate_left 1
  · intro w0 hSw
    go_simp
    with_reducible rfl
  simp only [Act.put]
  refine wpAnyH_take (i := 4) (v := ?_) rfl (by kernel_rfl) (by kernel_rfl) (by kernel_rfl) (fun _ _ _ h => h) (Or.inl ⟨by rfl, ?_⟩) (by first | assumption | trivial) ?_
  rotate_left 1
  · intro w0 hSw
    go_simp
    with_reducible rfl
  simp only [Act.put]
  refine wpAnyH_take (i := 6) (v := ?_) rfl (by kernel_rfl) (by kernel_rfl) (by kernel_rfl) (fun _ _ _ h => h) (Or.inl ⟨by rfl, ?_⟩) (by first | assumption | trivial) ?_
  rotate_left 1
  · intro w0 hSw
    go_simp
    with_reducible rfl
  simp only [Act.put]
  refine wpAnyH_take (i := 7) (v := ?_) rfl (by kernel_rfl) (by kernel_rfl) (by kernel_rfl) (fun _ _ _ h => h) (Or.inl ⟨by rfl, ?_⟩) (by first | assumption | trivial) ?_
  rotate_left 1
  · intro w0 hSw
    go_simp
    with_reducible rfl
  simp only [Act.put]
  refine wpAnyH_take (i := 8) (v := ?_) rfl (by kernel_rfl) (by kernel_rfl) (by kernel_rfl) (fun _ _ _ h => h) (Or.inl ⟨by rfl, ?_⟩) (by first | assumption | trivial) ?_
  rotate_left 1
  · intro w0 hSw
    go_simp
    with_reducible rfl
  simp only [Act.put]
  refine wpAnyH_take (i := 11) (v := ?_) rfl (by kernel_rfl) (by kernel_rfl) (by kernel_rfl) (fun _ _ _ h => h) (Or.inl ⟨by rfl, ?_⟩) (by first | assumption | trivial) ?_
  rotate_left 1
  · intro w0 hSw
    go_simp
    with_reducible rfl
  simp only [Act.put]
  refine wpAnyH_ready (rs := [5, 9]) (by kernel_rfl) (by simp) ?_
  refine AllReadyH.cons rfl (fun K hK => ?_) (AllReadyH.cons rfl (fun K hK => ?_) AllReadyH.nil)
  · go_simp
    refine (Dsk.clone_any w4.drew _ _ l HL4.out (by have := HN.out; omega)).mono ?_
    rintro e w5 ⟨v5, rfl, hv5, hk5⟩
    obtain ⟨A5, c5, rfl⟩ := hv5.bys.form
    have C5 := Lib.hid (commit_end (sq' := sq + 1) (wh' := 1 - wh) HK4.out S4.out.disk HG4.out HKQ.out.1 HB4.out (fun h => by rcases h with (h | h) | h; exact HNQ.out (.inl h); have h1 := h.1; have h2 := HB2.out.lt; exact absurd h2 (Nat.not_lt.2 h1); exact HNQ.out (.inr h)) hk5.of_drew hv5 H8.out)
    rw [HNN.out] at C5 ⊢
    have HB5 := Lib.hid (HB4.out.of_eq (hk5.block _ HKQ.out.2 (fun h => h)))
    have HR5 := Lib.hid (HR4.out.of_eq (hk5.block _ HKQ.out.1 (fun h => h)))
    clear hv5 hk5 k0 k1 k2 k3 k4 k5 k6 k7
    obtain ⟨k0, k1, k2, k3, k4, k5, k6, k7⟩ := sh_cells HB5.out
    have frq := HB5.out.frozen
    go_simp
    refine hK.out _ _ trivial (fun _ => ?_)
    clear hK K
    try simp only [Act.put]
    refine wpAnyH_ready (rs := [9, 12]) (by kernel_rfl) (by simp) ?_
    refine AllReadyH.cons rfl (fun K hK => ?_) (AllReadyH.cons rfl (fun K hK => ?_) AllReadyH.nil)
    · go_simp
      refine hK.out _ _ trivial (fun _ => ?_)
      clear hK K
      try simp only [Act.put]
      refine wpAnyH_take (i := 10) (v := ?_) rfl (by kernel_rfl) (by kernel_rfl) (by kernel_rfl) (fun _ _ _ h => h) (Or.inl ⟨by rfl, ?_⟩) (by first | assumption | trivial) ?_
      rotate_left 1
      · intro w0 hSw
        go_simp
        with_reducible rfl
      simp only [Act.put]
      refine wpAnyH_ready (rs := [12]) (by kernel_rfl) (by simp) ?_
      refine AllReadyH.cons rfl (fun K hK => ?_) AllReadyH.nil
      go_simp
      refine (other_any _ q wh k6 HWH.out).mono ?_
      rintro e w6 ⟨rfl, rfl⟩
      go_simp
      refine hK.out _ _ trivial (fun _ => ?_)
      clear hK K
      try simp only [Act.put]
      refine wpAnyH_take (i := 13) (v := ?_) rfl (by kernel_rfl) (by kernel_rfl) (by kernel_rfl) (fun _ _ _ h => h) (Or.inl ⟨by rfl, ?_⟩) (by first | assumption | trivial) ?_
      rotate_left 1
      · intro w0 hSw
        go_simp
        with_reducible rfl
      simp only [Act.put]
      refine wpAnyH_take (i := 14) (v := ?_) rfl (by kernel_rfl) (by kernel_rfl) (by kernel_rfl) (fun _ _ _ h => h) (Or.inl ⟨by rfl, ?_⟩) (by first | assumption | trivial) ?_
      rotate_left 1
      · intro w0 hSw
        go_simp
        with_reducible rfl
      simp only [Act.put]
      refine wpAnyH_ready (rs := [15]) (by kernel_rfl) (by simp) ?_
      refine AllReadyH.cons rfl (fun K hK => ?_) AllReadyH.nil
      go_simp
      refine hK.out _ _ trivial (fun _ => ?_)
      clear hK K
      try simp only [Act.put]
      refine wpAnyH_take (i := 16) (v := ?_) rfl (by kernel_rfl) (by kernel_rfl) (by kernel_rfl) (fun _ _ _ h => h) (Or.inl ⟨by rfl, ?_⟩) (by first | assumption | trivial) ?_
      rotate_left 1
      · intro w0 hSw
        go_simp
        with_reducible rfl
      simp only [Act.put]
      refine wpAnyH_take (i := 17) (v := ?_) rfl (by kernel_rfl) (by kernel_rfl) (by kernel_rfl) (fun _ _ _ h => h) (Or.inl ⟨by rfl, ?_⟩) (by first | assumption | trivial) ?_
      rotate_left 1
      · intro w0 hSw
        go_simp
        with_reducible rfl
      simp only [Act.put]
      refine wpAnyH_ready (rs := [18]) (by kernel_rfl) (by simp) ?_
      refine AllReadyH.cons rfl (fun K hK => ?_) AllReadyH.nil
      go_simp
      refine hK.out _ _ trivial (fun _ => ?_)
      clear hK K
      try simp only [Act.put]
      refine wpAnyH_take (i := 19) (v := ?_) rfl (by kernel_rfl) (by kernel_rfl) (by kernel_rfl) (fun _ _ _ h => h) (Or.inl ⟨by rfl, ?_⟩) (by first | assumption | trivial) ?_
      rotate_left 1
      · intro w0 hSw
        go_simp
        with_reducible rfl
      simp only [Act.put]
      refine wpAnyH_take (i := 20) (v := ?_) rfl (by kernel_rfl) (by kernel_rfl) (by kernel_rfl) (fun _ _ _ h => h) (Or.inl ⟨by rfl, ?_⟩) (by first | assumption | trivial) ?_
      rotate_left 1
      · intro w0 hSw
        go_simp
        with_reducible rfl
      simp only [Act.put]
      refine wpAnyH_ready (rs := [21]) (by kernel_rfl) (by simp) ?_
      refine AllReadyH.cons rfl (fun K hK => ?_) AllReadyH.nil
      go_simp
      refine hK.out _ _ trivial (fun _ => ?_)
      clear hK K
      try simp only [Act.put]
      refine wpAnyH_take (i := 22) (v := ?_) rfl (by kernel_rfl) (by kernel_rfl) (by kernel_rfl) (fun _ _ _ h => h) (Or.inl ⟨by rfl, ?_⟩) (by first | assumption | trivial) ?_
      rotate_left 1
      · intro w0 hSw
        go_simp
        with_reducible rfl
      simp only [Act.put]
      refine wpAnyH_take (i := 23) (v := ?_) rfl (by kernel_rfl) (by kernel_rfl) (by kernel_rfl) (fun _ _ _ h => h) (Or.inl ⟨by rfl, ?_⟩) (by first | assumption | trivial) ?_
      rotate_left 1
      · intro w0 hSw
        go_simp
        with_reducible rfl
      simp only [Act.put]
      refine wpAnyH_ready (rs := [24]) (by kernel_rfl) (by simp) ?_
      refine AllReadyH.cons rfl (fun K hK => ?_) AllReadyH.nil
      go_simp
      refine hK.out _ _ trivial (fun _ => ?_)
      clear hK K
      try simp only [Act.put]
      refine wpAnyH_done (by kernel_rfl) ?_ _
      refine NoPanic.normal ?_
      have HU := Lib.hid (show Blk (setsq w5 q (.slice A5 n c5) (sq + 1) (1 - wh)) w.heap.size 31 #[.int .i64 0] from HR5.out.of_eq ((setsq_one w5 q (.slice A5 n c5) (sq + 1) (1 - wh)).block _ HR5.out.lt (fun e => HNQ.out (.inr e.symm))))
      change Exit.then _ _ _ _ (setsq w5 q (.slice A5 n c5) (sq + 1) (1 - wh))
      clear k0 k1 k2 k3 k4 k5 k6 k7 frq
      generalize setsq w5 q (.slice A5 n c5) (sq + 1) (1 - wh) = U at *
      have m0 := HU.out.cell 0
      have fr := HU.out.frozen
      simp only [List.getElem?_toArray, List.getElem?_cons_zero] at m0
      have hss : U.setCell ⟨w.heap.size, 0, none⟩ (.int .i64 0) = U := set_same HU.out rfl
      go_wp2_with fail
      obtain ⟨rfl, rfl, rfl⟩ := HE.out
      exact doorC_ret rfl m0 (fr 0) (C5.out.close HB.out (Nat.le_refl _) (by have := HWS.out; omega) HG.out _ _).drew
    · go_simp
      refine (other_any _ q wh k6 HWH.out).mono ?_
      rintro e w6 ⟨rfl, rfl⟩
      go_simp
      refine hK.out _ _ trivial (fun _ => ?_)
      clear hK K
      try simp only [Act.put]
      refine wpAnyH_ready (rs := [9]) (by kernel_rfl) (by simp) ?_
      refine AllReadyH.cons rfl (fun K hK => ?_) AllReadyH.nil
      go_simp
      refine hK.out _ _ trivial (fun _ => ?_)
      clear hK K
      try simp only [Act.put]
      refine wpAnyH_take (i := 10) (v := ?_) rfl (by kernel_rfl) (by kernel_rfl) (by kernel_rfl) (fun _ _ _ h => h) (Or.inl ⟨by rfl, ?_⟩) (by first | assumption | trivial) ?_
      rotate_left 1
      · intro w0 hSw
        go_simp
        with_reducible rfl
      simp only [Act.put]
      refine wpAnyH_take (i := 13) (v := ?_) rfl (by kernel_rfl) (by kernel_rfl) (by kernel_rfl) (fun _ _ _ h => h) (Or.inl ⟨by rfl, ?_⟩) (by first | assumption | trivial) ?_
      rotate_left 1
      · intro w0 hSw
        go_simp
        with_reducible rfl
      simp only [Act.put]
      refine wpAnyH_take (i := 14) (v := ?_) rfl (by kernel_rfl) (by kernel_rfl) (by kernel_rfl) (fun _ _ _ h => h) (Or.inl ⟨by rfl, ?_⟩) (by first | assumption | trivial) ?_
      rotate_left 1
      · intro w0 hSw
        go_simp
        with_reducible rfl
      simp only [Act.put]
      refine wpAnyH_ready (rs := [15]) (by kernel_rfl) (by simp) ?_
      refine AllReadyH.cons rfl (fun K hK => ?_) AllReadyH.nil
      go_simp
      refine hK.out _ _ trivial (fun _ => ?_)
      clear hK K
      try simp only [Act.put]
      refine wpAnyH_take (i := 16) (v := ?_) rfl (by kernel_rfl) (by kernel_rfl) (by kernel_rfl) (fun _ _ _ h => h) (Or.inl ⟨by rfl, ?_⟩) (by first | assumption | trivial) ?_
      rotate_left 1
      · intro w0 hSw
        go_simp
        with_reducible rfl
      simp only [Act.put]
      refine wpAnyH_take (i := 17) (v := ?_) rfl (by kernel_rfl) (by kernel_rfl) (by kernel_rfl) (fun _ _ _ h => h) (Or.inl ⟨by rfl, ?_⟩) (by first | assumption | trivial) ?_
      rotate_left 1
      · intro w0 hSw
        go_simp
        with_reducible rfl
      simp only [Act.put]
      refine wpAnyH_ready (rs := [18]) (by kernel_rfl) (by simp) ?_
      refine AllReadyH.cons rfl (fun K hK => ?_) AllReadyH.nil
      go_simp
      refine hK.out _ _ trivial (fun _ => ?_)
      clear hK K
      try simp only [Act.put]
      refine wpAnyH_take (i := 19) (v := ?_) rfl (by kernel_rfl) (by kernel_rfl) (by kernel_rfl) (fun _ _ _ h => h) (Or.inl ⟨by rfl, ?_⟩) (by first | assumption | trivial) ?_
      rotate_left 1
      · intro w0 hSw
        go_simp
        with_reducible rfl
      simp only [Act.put]
      refine wpAnyH_take (i := 20) (v := ?_) rfl (by kernel_rfl) (by kernel_rfl) (by kernel_rfl) (fun _ _ _ h => h) (Or.inl ⟨by rfl, ?_⟩) (by first | assumption | trivial) ?_
      rotate_left 1
      · intro w0 hSw
        go_simp
        with_reducible rfl
      simp only [Act.put]
      refine wpAnyH_ready (rs := [21]) (by kernel_rfl) (by simp) ?_
      refine AllReadyH.cons rfl (fun K hK => ?_) AllReadyH.nil
      go_simp
      refine hK.out _ _ trivial (fun _ => ?_)
      clear hK K
      try simp only [Act.put]
      refine wpAnyH_take (i := 22) (v := ?_) rfl (by kernel_rfl) (by kernel_rfl) (by kernel_rfl) (fun _ _ _ h => h) (Or.inl ⟨by rfl, ?_⟩) (by first | assumption | trivial) ?_
      rotate_left 1
      · intro w0 hSw
        go_simp
        with_reducible rfl
      simp only [Act.put]
      refine wpAnyH_take (i := 23) (v := ?_) rfl (by kernel_rfl) (by kernel_rfl) (by kernel_rfl) (fun _ _ _ h => h) (Or.inl ⟨by rfl, ?_⟩) (by first | assumption | trivial) ?_
      rotate_left 1
      · intro w0 hSw
        go_simp
        with_reducible rfl
      simp only [Act.put]
      refine wpAnyH_ready (rs := [24]) (by kernel_rfl) (by simp) ?_
      refine AllReadyH.cons rfl (fun K hK => ?_) AllReadyH.nil
      go_simp
      refine hK.out _ _ trivial (fun _ => ?_)
      clear hK K
      try simp only [Act.put]
      refine wpAnyH_done (by kernel_rfl) ?_ _
      refine NoPanic.normal ?_
      have HU := Lib.hid (show Blk (setsq w5 q (.slice A5 n c5) (sq + 1) (1 - wh)) w.heap.size 31 #[.int .i64 0] from HR5.out.of_eq ((setsq_one w5 q (.slice A5 n c5) (sq + 1) (1 - wh)).block _ HR5.out.lt (fun e => HNQ.out (.inr e.symm))))
      change Exit.then _ _ _ _ (setsq w5 q (.slice A5 n c5) (sq + 1) (1 - wh))
      clear k0 k1 k2 k3 k4 k5 k6 k7 frq
      generalize setsq w5 q (.slice A5 n c5) (sq + 1) (1 - wh) = U at *
      have m0 := HU.out.cell 0
      have fr := HU.out.frozen
      simp only [List.getElem?_toArray, List.getElem?_cons_zero] at m0
      have hss : U.setCell ⟨w.heap.size, 0, none⟩ (.int .i64 0) = U := set_same HU.out rfl
      go_wp2_with fail
      obtain ⟨rfl, rfl, rfl⟩ := HE.out
      exact doorC_ret rfl m0 (fr 0) (C5.out.close HB.out (Nat.le_refl _) (by have := HWS.out; omega) HG.out _ _).drew
  · go_simp
    refine hK.out _ _ trivial (fun _ => ?_)
    clear hK K
    try simp only [Act.put]
    refine wpAnyH_take (i := 10) (v := ?_) rfl (by kernel_rfl) (by kernel_rfl) (by kernel_rfl) (fun _ _ _ h => h) (Or.inl ⟨by rfl, ?_⟩) (by first | assumption | trivial) ?_
    rotate_left 1
    · intro w0 hSw
      go_simp
      with_reducible rfl
    simp only [Act.put]
    refine wpAnyH_ready (rs := [5]) (by kernel_rfl) (by simp) ?_
    refine AllReadyH.cons rfl (fun K hK => ?_) AllReadyH.nil
    go_simp
    refine (Dsk.clone_any w4.drew _ _ l HL4.out (by have := HN.out; omega)).mono ?_
    rintro e w5 ⟨v5, rfl, hv5, hk5⟩
    obtain ⟨A5, c5, rfl⟩ := hv5.bys.form
    have C5 := Lib.hid (commit_end (sq' := sq + 1) (wh' := 1 - wh) HK4.out S4.out.disk HG4.out HKQ.out.1 HB4.out (fun h => by rcases h with (h | h) | h; exact HNQ.out (.inl h); have h1 := h.1; have h2 := HB2.out.lt; exact absurd h2 (Nat.not_lt.2 h1); exact HNQ.out (.inr h)) hk5.of_drew hv5 H8.out)
    rw [HNN.out] at C5 ⊢
    have HB5 := Lib.hid (HB4.out.of_eq (hk5.block _ HKQ.out.2 (fun h => h)))
    have HR5 := Lib.hid (HR4.out.of_eq (hk5.block _ HKQ.out.1 (fun h => h)))
    clear hv5 hk5 k0 k1 k2 k3 k4 k5 k6 k7
    obtain ⟨k0, k1, k2, k3, k4, k5, k6, k7⟩ := sh_cells HB5.out
    have frq := HB5.out.frozen
    go_simp
    refine hK.out _ _ trivial (fun _ => ?_)
    clear hK K
    try simp only [Act.put]
    refine wpAnyH_ready (rs := [12]) (by kernel_rfl) (by simp) ?_
    refine AllReadyH.cons rfl (fun K hK => ?_) AllReadyH.nil
    go_simp
    refine (other_any _ q wh k6 HWH.out).mono ?_
    rintro e w6 ⟨rfl, rfl⟩
    go_simp
    refine hK.out _ _ trivial (fun _ => ?_)
    clear hK K
    try simp only [Act.put]
    refine wpAnyH_take (i := 13) (v := ?_) rfl (by kernel_rfl) (by kernel_rfl) (by kernel_rfl) (fun _ _ _ h => h) (Or.inl ⟨by rfl, ?_⟩) (by first | assumption | trivial) ?_
    rotate_left 1
    · intro w0 hSw
      go_simp
      with_reducible rfl
    simp only [Act.put]
    refine wpAnyH_take (i := 14) (v := ?_) rfl (by kernel_rfl) (by kernel_rfl) (by kernel_rfl) (fun _ _ _ h => h) (Or.inl ⟨by rfl, ?_⟩) (by first | assumption | trivial) ?_
    rotate_left 1
    · intro w0 hSw
      go_simp
      with_reducible rfl
    simp only [Act.put]
    refine wpAnyH_ready (rs := [15]) (by kernel_rfl) (by simp) ?_
    refine AllReadyH.cons rfl (fun K hK => ?_) AllReadyH.nil
    go_simp
    refine hK.out _ _ trivial (fun _ => ?_)
    clear hK K
    try simp only [Act.put]
    refine wpAnyH_take (i := 16) (v := ?_) rfl (by kernel_rfl) (by kernel_rfl) (by kernel_rfl) (fun _ _ _ h => h) (Or.inl ⟨by rfl, ?_⟩) (by first | assumption | trivial) ?_
    rotate_left 1
    · intro w0 hSw
      go_simp
      with_reducible rfl
    simp only [Act.put]
    refine wpAnyH_take (i := 17) (v := ?_) rfl (by kernel_rfl) (by kernel_rfl) (by kernel_rfl) (fun _ _ _ h => h) (Or.inl ⟨by rfl, ?_⟩) (by first | assumption | trivial) ?_
    rotate_left 1
    · intro w0 hSw
      go_simp
      with_reducible rfl
    simp only [Act.put]
    refine wpAnyH_ready (rs := [18]) (by kernel_rfl) (by simp) ?_
    refine AllReadyH.cons rfl (fun K hK => ?_) AllReadyH.nil
    go_simp
    refine hK.out _ _ trivial (fun _ => ?_)
    clear hK K
    try simp only [Act.put]
    refine wpAnyH_take (i := 19) (v := ?_) rfl (by kernel_rfl) (by kernel_rfl) (by kernel_rfl) (fun _ _ _ h => h) (Or.inl ⟨by rfl, ?_⟩) (by first | assumption | trivial) ?_
    rotate_left 1
    · intro w0 hSw
      go_simp
      with_reducible rfl
    simp only [Act.put]
    refine wpAnyH_take (i := 20) (v := ?_) rfl (by kernel_rfl) (by kernel_rfl) (by kernel_rfl) (fun _ _ _ h => h) (Or.inl ⟨by rfl, ?_⟩) (by first | assumption | trivial) ?_
    rotate_left 1
    · intro w0 hSw
      go_simp
      with_reducible rfl
    simp only [Act.put]
    refine wpAnyH_ready (rs := [21]) (by kernel_rfl) (by simp) ?_
    refine AllReadyH.cons rfl (fun K hK => ?_) AllReadyH.nil
    go_simp
    refine hK.out _ _ trivial (fun _ => ?_)
    clear hK K
    try simp only [Act.put]
    refine wpAnyH_take (i := 22) (v := ?_) rfl (by kernel_rfl) (by kernel_rfl) (by kernel_rfl) (fun _ _ _ h => h) (Or.inl ⟨by rfl, ?_⟩) (by first | assumption | trivial) ?_
    rotate_left 1
    · intro w0 hSw
      go_simp
      with_reducible rfl
    simp only [Act.put]
    refine wpAnyH_take (i := 23) (v := ?_) rfl (by kernel_rfl) (by kernel_rfl) (by kernel_rfl) (fun _ _ _ h => h) (Or.inl ⟨by rfl, ?_⟩) (by first | assumption | trivial) ?_
    rotate_left 1
    · intro w0 hSw
      go_simp
      with_reducible rfl
    simp only [Act.put]
    refine wpAnyH_ready (rs := [24]) (by kernel_rfl) (by simp) ?_
    refine AllReadyH.cons rfl (fun K hK => ?_) AllReadyH.nil
    go_simp
    refine hK.out _ _ trivial (fun _ => ?_)
    clear hK K
    try simp only [Act.put]
    refine wpAnyH_done (by kernel_rfl) ?_ _
    refine NoPanic.normal ?_
    have HU := Lib.hid (show Blk (setsq w5 q (.slice A5 n c5) (sq + 1) (1 - wh)) w.heap.size 31 #[.int .i64 0] from HR5.out.of_eq ((setsq_one w5 q (.slice A5 n c5) (sq + 1) (1 - wh)).block _ HR5.out.lt (fun e => HNQ.out (.inr e.symm))))
    change Exit.then _ _ _ _ (setsq w5 q (.slice A5 n c5) (sq + 1) (1 - wh))
    clear k0 k1 k2 k3 k4 k5 k6 k7 frq
    generalize setsq w5 q (.slice A5 n c5) (sq + 1) (1 - wh) = U at *
    have m0 := HU.out.cell 0
    have fr := HU.out.frozen
    simp only [List.getElem?_toArray, List.getElem?_cons_zero] at m0
    have hss : U.setCell ⟨w.heap.size, 0, none⟩ (.int .i64 0) = U := set_same HU.out rfl
    go_wp2_with fail
    obtain ⟨rfl, rfl, rfl⟩ := HE.out
    exact doorC_ret rfl m0 (fr 0) (C5.out.close HB.out (Nat.le_refl _) (by have := HWS.out; omega) HG.out _ _).drew
end Go.Proofs.YthlemcnbebfliaaGreatDoor
