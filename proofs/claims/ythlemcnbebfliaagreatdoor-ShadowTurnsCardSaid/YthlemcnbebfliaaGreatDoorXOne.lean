/-
  A DEFERRED CLOSURE THAT RECOVERS, IN A REGION THAT DRAWS ITS ORDER; the walks of shadow.must, shadow.told and of the three faces' closures.
  A COMMIT'S STEPS OF DISKS AS VALUES; the walks of shadow.canBeMade and shadow.put.
  THE DOOR OF A FACE THAT RECOVERS; the walk of shadow.Format.
  THE WALKS OF shadow.read AND shadow.newest.
  THE WALK OF shadow.newest.
-/
import Derived.Test.YthlemcnbebfliaaGreatDoorHPre
import Derived.Defers
import Derived.Recover
import Derived.Handy
import Derived.Test.YthlemcnbebfliaaGreatDoorSMore
import Derived.Test.YthlemcnbebfliaaGreatDoorIFac
import Derived.Deep.RegionHeld3
namespace Go
theorem wpS_region_draw {P : Program} {id : Nat} {ops : Array Oper} {Q : Exit → Act → List Frame → World → Prop} {a : Act} {cs : List Frame} {w : World}
    (h : ∀ t, wpOpsS P ops Q (Region.schedule (P.follows .mixedOrders) ops t) a cs { w with drawn := w.drawn + 1 }) : (Code.region id ops true).wpS P Q a cs w :=
  fun b k hb hr => let ⟨e, a', cs', w', q, r⟩ := wp_opsS _ a cs _ (h _) b k hb hr; ⟨e, a', cs', w', q, .of_steps (.one step_region_draw) r⟩
end Go
namespace Go.Proofs.YthlemcnbebfliaaGreatDoor
open Ks Go.RowKit
set_option maxRecDepth 20000

theorem must_ok (w : World) : Calls Tryz.prog 49 #[.int .i64 0] w fun e w' => e = .returned (.tuple #[]) ∧ w = w' := by
  go_enter Tryz.func49, Tryz.ntmps49
  go_wp2_with fail
  go_end0
  exact ⟨rfl, rfl⟩
/-- what must panics with -/
abbrev wrongV (v : Int) : List PanicEntry := [{ v := .iface 31 (.int .i64 v), recovered := false }]
theorem must_no (v : Int) (w : World) (h : v ≠ 0) : Calls Tryz.prog 49 #[.int .i64 v] w fun e w' => e = .panicked (wrongV v) ∧ w = w' := by
  have hd : (v != 0) = true := by simpa using h
  clear h
  go_enter Tryz.func49, Tryz.ntmps49
  go_wp2_with fail
  exact ⟨rfl, rfl, rfl⟩
theorem told_nil (v : Int) (w : World) : Calls Tryz.prog 48 #[.nilIface, .int .i64 v] w fun e w' => e = .returned (.int .i64 v) ∧ w = w' := by
  have hnn : ∀ w, (binOp .eql 20 .nilIface .nilIface).run Tryz.prog w = .ok (.bool true) w := fun w => by kernel_rfl
  go_enter Tryz.func48, Tryz.ntmps48
  go_wp2_with fail
  go_ret
  exact ⟨rfl, rfl⟩
theorem told_some (u v : Int) (w : World) : Calls Tryz.prog 48 #[.iface 31 (.int .i64 u), .int .i64 v] w fun e w' => e = .returned (.int .i64 u) ∧ w = w' := by
  have hta : ∀ w, (Instr.typeAssert (.iface 31 (.int .i64 u)) 20 31 true).run Tryz.prog w = .ok (.tuple #[.int .i64 u, .bool true]) w := fun w => by kernel_rfl
  go_enter Tryz.func48, Tryz.ntmps48
  go_wp2_with fail
  go_ret
  exact ⟨rfl, rfl⟩

/-- the closure's region, as its order is drawn -/
theorem catch_order (ops : Array Oper) (h0 : Region.ready .any ops (Array.replicate 4 false) = [0, 1])
    (h1 : Region.ready .any ops ((Array.replicate 4 false).setIfInBounds 0 true) = [1]) (h2 : Region.ready .any ops ((Array.replicate 4 false).setIfInBounds 1 true) = [0])
    (h3 : Region.ready .any ops (((Array.replicate 4 false).setIfInBounds 0 true).setIfInBounds 1 true) = [2]) (h4 : Region.ready .any ops (((Array.replicate 4 false).setIfInBounds 1 true).setIfInBounds 0 true) = [2])
    (h5 : Region.ready .any ops ((((Array.replicate 4 false).setIfInBounds 0 true).setIfInBounds 1 true).setIfInBounds 2 true) = [3]) (h6 : Region.ready .any ops ((((Array.replicate 4 false).setIfInBounds 1 true).setIfInBounds 0 true).setIfInBounds 2 true) = [3]) (t : Nat) :
    Region.linearise.go .any ops 4 t (Array.replicate 4 false) [] = [0, 1, 2, 3] ∨ Region.linearise.go .any ops 4 t (Array.replicate 4 false) [] = [1, 0, 2, 3] := by
  have step : ∀ (fuel t : Nat) (listed : Array Bool) (acc : List Nat), Region.linearise.go .any ops (fuel + 1) t listed acc = match (Region.ready .any ops listed)[t % (Region.ready .any ops listed).length]? with
      | some i => Region.linearise.go .any ops fuel (t / (Region.ready .any ops listed).length) (listed.setIfInBounds i true) (i :: acc)
      | none => acc.reverse := fun fuel t listed acc => rfl
  have one : ∀ (fuel t : Nat) (listed : Array Bool) (acc : List Nat) (i : Nat), Region.ready .any ops listed = [i] → Region.linearise.go .any ops (fuel + 1) t listed acc = Region.linearise.go .any ops fuel t (listed.setIfInBounds i true) (i :: acc) := fun fuel t listed acc i h => by
    rw [step, h]
    simp [Nat.mod_one]
  have fin : ∀ t listed acc, Region.linearise.go .any ops 0 t listed acc = acc.reverse := fun _ _ _ => rfl
  rcases Nat.mod_two_eq_zero_or_one t with e | e
  · left
    rw [step, h0]
    simp only [List.length_cons, List.length_nil, Nat.zero_add, Nat.reduceAdd, e, List.getElem?_cons_zero]
    rw [one _ _ _ _ _ h1, one _ _ _ _ _ h3, one _ _ _ _ _ h5, fin]
    rfl
  · right
    rw [step, h0]
    simp only [List.length_cons, List.length_nil, Nat.zero_add, Nat.reduceAdd, e, List.getElem?_cons_succ, List.getElem?_cons_zero]
    rw [one _ _ _ _ _ h2, one _ _ _ _ _ h4, one _ _ _ _ _ h6, fin]
    rfl
theorem wpS_catch {P : Program} {id : Nat} {ops : Array Oper} {Q : Exit → Act → List Frame → World → Prop} {a : Act} {cs : List Frame} {w : World} (hm : P.follows .mixedOrders = true) (hs : ops.size = 4)
    (h0 : Region.ready .any ops (Array.replicate 4 false) = [0, 1])
    (h1 : Region.ready .any ops ((Array.replicate 4 false).setIfInBounds 0 true) = [1]) (h2 : Region.ready .any ops ((Array.replicate 4 false).setIfInBounds 1 true) = [0])
    (h3 : Region.ready .any ops (((Array.replicate 4 false).setIfInBounds 0 true).setIfInBounds 1 true) = [2]) (h4 : Region.ready .any ops (((Array.replicate 4 false).setIfInBounds 1 true).setIfInBounds 0 true) = [2])
    (h5 : Region.ready .any ops ((((Array.replicate 4 false).setIfInBounds 0 true).setIfInBounds 1 true).setIfInBounds 2 true) = [3]) (h6 : Region.ready .any ops ((((Array.replicate 4 false).setIfInBounds 1 true).setIfInBounds 0 true).setIfInBounds 2 true) = [3])
    (hA : wpOpsS P ops Q [0, 1, 2, 3] a cs w.drew) (hB : wpOpsS P ops Q [1, 0, 2, 3] a cs w.drew) : (Code.region id ops true).wpS P Q a cs w := by
  apply wpS_region_draw
  intro t
  have e : Region.schedule (P.follows .mixedOrders) ops t = Region.linearise.go .any ops 4 t (Array.replicate 4 false) [] := by
    rw [hm]
    simp only [Region.schedule, Bool.true_or, if_true, Region.linearise, hs]
  rw [e]
  rcases catch_order ops h0 h1 h2 h3 h4 h5 h6 t with e | e
  · rw [e]; exact hA
  · rw [e]; exact hB

theorem catchF_panicking (p : Addr) (x v : Int) (w : World) (hc : w.cell? p = some (.int .i64 x)) (hz : w.frozen? p = false) :
    CallsD Tryz.prog 47 #[.pointer (some p)] (.panicking (wrongV v)) w fun e u' w' =>
      e = .returned (.tuple #[]) ∧ u' = .panicking [{ v := .iface 31 (.int .i64 v), recovered := true }] ∧ w' = (w.setCell p (.int .i64 v)).drew := by
  have hm : Tryz.prog.follows .mixedOrders = true := by kernel_rfl
  refine callsD_of_wpS Tryz.func47 rfl fun c₀ cs hu => ?_
  refine wpS_catch hm rfl (by kernel_rfl) (by kernel_rfl) (by kernel_rfl) (by kernel_rfl) (by kernel_rfl) (by kernel_rfl) (by kernel_rfl) ?_ ?_
  · simp [wpOpsS, go_sem, recoverD, hu, Tryz.ntmps47, hc]
    refine (told_some v x _).mono ?_
    rintro e w' ⟨rfl, rfl⟩
    simp [go_sem, hc, hz, bodyPostS, results, Tryz.results47]
  · simp [wpOpsS, go_sem, recoverD, hu, Tryz.ntmps47, hc]
    refine (told_some v x _).mono ?_
    rintro e w' ⟨rfl, rfl⟩
    simp [go_sem, hc, hz, bodyPostS, results, Tryz.results47]
theorem catchF_idle (p : Addr) (x : Int) (w : World) (hc : w.cell? p = some (.int .i64 x)) (hz : w.frozen? p = false) :
    CallsD Tryz.prog 47 #[.pointer (some p)] .returning w fun e u' w' => e = .returned (.tuple #[]) ∧ u' = .returning ∧ w' = (w.setCell p (.int .i64 x)).drew := by
  have hm : Tryz.prog.follows .mixedOrders = true := by kernel_rfl
  refine callsD_of_wpS Tryz.func47 rfl fun c₀ cs hu => ?_
  refine wpS_catch hm rfl (by kernel_rfl) (by kernel_rfl) (by kernel_rfl) (by kernel_rfl) (by kernel_rfl) (by kernel_rfl) (by kernel_rfl) ?_ ?_
  · simp [wpOpsS, go_sem, recoverD, hu, Tryz.ntmps47, hc]
    refine (told_nil x _).mono ?_
    rintro e w' ⟨rfl, rfl⟩
    cases c₀
    simp_all [go_sem, bodyPostS, results, Tryz.results47]
  · simp [wpOpsS, go_sem, recoverD, hu, Tryz.ntmps47, hc]
    refine (told_nil x _).mono ?_
    rintro e w' ⟨rfl, rfl⟩
    cases c₀
    simp_all [go_sem, bodyPostS, results, Tryz.results47]
theorem catchC_panicking (p : Addr) (x v : Int) (w : World) (hc : w.cell? p = some (.int .i64 x)) (hz : w.frozen? p = false) :
    CallsD Tryz.prog 60 #[.pointer (some p)] (.panicking (wrongV v)) w fun e u' w' =>
      e = .returned (.tuple #[]) ∧ u' = .panicking [{ v := .iface 31 (.int .i64 v), recovered := true }] ∧ w' = (w.setCell p (.int .i64 v)).drew := by
  have hm : Tryz.prog.follows .mixedOrders = true := by kernel_rfl
  refine callsD_of_wpS Tryz.func60 rfl fun c₀ cs hu => ?_
  refine wpS_catch hm rfl (by kernel_rfl) (by kernel_rfl) (by kernel_rfl) (by kernel_rfl) (by kernel_rfl) (by kernel_rfl) (by kernel_rfl) ?_ ?_
  · simp [wpOpsS, go_sem, recoverD, hu, Tryz.ntmps60, hc]
    refine (told_some v x _).mono ?_
    rintro e w' ⟨rfl, rfl⟩
    simp [go_sem, hc, hz, bodyPostS, results, Tryz.results60]
  · simp [wpOpsS, go_sem, recoverD, hu, Tryz.ntmps60, hc]
    refine (told_some v x _).mono ?_
    rintro e w' ⟨rfl, rfl⟩
    simp [go_sem, hc, hz, bodyPostS, results, Tryz.results60]
theorem catchC_idle (p : Addr) (x : Int) (w : World) (hc : w.cell? p = some (.int .i64 x)) (hz : w.frozen? p = false) :
    CallsD Tryz.prog 60 #[.pointer (some p)] .returning w fun e u' w' => e = .returned (.tuple #[]) ∧ u' = .returning ∧ w' = (w.setCell p (.int .i64 x)).drew := by
  have hm : Tryz.prog.follows .mixedOrders = true := by kernel_rfl
  refine callsD_of_wpS Tryz.func60 rfl fun c₀ cs hu => ?_
  refine wpS_catch hm rfl (by kernel_rfl) (by kernel_rfl) (by kernel_rfl) (by kernel_rfl) (by kernel_rfl) (by kernel_rfl) (by kernel_rfl) ?_ ?_
  · simp [wpOpsS, go_sem, recoverD, hu, Tryz.ntmps60, hc]
    refine (told_nil x _).mono ?_
    rintro e w' ⟨rfl, rfl⟩
    cases c₀
    simp_all [go_sem, bodyPostS, results, Tryz.results60]
  · simp [wpOpsS, go_sem, recoverD, hu, Tryz.ntmps60, hc]
    refine (told_nil x _).mono ?_
    rintro e w' ⟨rfl, rfl⟩
    cases c₀
    simp_all [go_sem, bodyPostS, results, Tryz.results60]
theorem catchO_panicking (p : Addr) (x v : Int) (w : World) (hc : w.cell? p = some (.int .i64 x)) (hz : w.frozen? p = false) :
    CallsD Tryz.prog 69 #[.pointer (some p)] (.panicking (wrongV v)) w fun e u' w' =>
      e = .returned (.tuple #[]) ∧ u' = .panicking [{ v := .iface 31 (.int .i64 v), recovered := true }] ∧ w' = (w.setCell p (.int .i64 v)).drew := by
  have hm : Tryz.prog.follows .mixedOrders = true := by kernel_rfl
  refine callsD_of_wpS Tryz.func69 rfl fun c₀ cs hu => ?_
  refine wpS_catch hm rfl (by kernel_rfl) (by kernel_rfl) (by kernel_rfl) (by kernel_rfl) (by kernel_rfl) (by kernel_rfl) (by kernel_rfl) ?_ ?_
  · simp [wpOpsS, go_sem, recoverD, hu, Tryz.ntmps69, hc]
    refine (told_some v x _).mono ?_
    rintro e w' ⟨rfl, rfl⟩
    simp [go_sem, hc, hz, bodyPostS, results, Tryz.results69]
  · simp [wpOpsS, go_sem, recoverD, hu, Tryz.ntmps69, hc]
    refine (told_some v x _).mono ?_
    rintro e w' ⟨rfl, rfl⟩
    simp [go_sem, hc, hz, bodyPostS, results, Tryz.results69]
theorem catchO_idle (p : Addr) (x : Int) (w : World) (hc : w.cell? p = some (.int .i64 x)) (hz : w.frozen? p = false) :
    CallsD Tryz.prog 69 #[.pointer (some p)] .returning w fun e u' w' => e = .returned (.tuple #[]) ∧ u' = .returning ∧ w' = (w.setCell p (.int .i64 x)).drew := by
  have hm : Tryz.prog.follows .mixedOrders = true := by kernel_rfl
  refine callsD_of_wpS Tryz.func69 rfl fun c₀ cs hu => ?_
  refine wpS_catch hm rfl (by kernel_rfl) (by kernel_rfl) (by kernel_rfl) (by kernel_rfl) (by kernel_rfl) (by kernel_rfl) (by kernel_rfl) ?_ ?_
  · simp [wpOpsS, go_sem, recoverD, hu, Tryz.ntmps69, hc]
    refine (told_nil x _).mono ?_
    rintro e w' ⟨rfl, rfl⟩
    cases c₀
    simp_all [go_sem, bodyPostS, results, Tryz.results69]
  · simp [wpOpsS, go_sem, recoverD, hu, Tryz.ntmps69, hc]
    refine (told_nil x _).mono ?_
    rintro e w' ⟨rfl, rfl⟩
    cases c₀
    simp_all [go_sem, bodyPostS, results, Tryz.results69]
end Go.Proofs.YthlemcnbebfliaaGreatDoor
namespace Go.Proofs.YthlemcnbebfliaaGreatDoor
open Ks Go.RowKit
set_option maxRecDepth 20000

/-- one behind the other, as far as no error is told -/
def nx (x : St × Int) (f : St → St × Int) : St × Int := if x.2 ≠ 0 then x else f x.1
theorem nx_no {x : St × Int} {f : St → St × Int} (h : x.2 ≠ 0) : nx x f = x := if_pos h
theorem nx_ok {s : St} {f : St → St × Int} : nx (s, 0) f = f s := if_neg (fun h => h rfl)
/-- what put does, and what ends it -/
def lodgeOf (s : St) (which a b c q : Int) (l : List Int) : St × Int :=
  nx (nx (nx (put_ s which a b c l) St.sync) fun t => laid t which a b c q l) St.sync
/-- what Format does, and tells -/
def formatOf (s : St) (a b c : Int) : St × Int :=
  if findErr s 0 a b c ≠ 0 then (s, findErr s 0 a b c) else nx (nx (nx (wiped s 0 a b c) fun t => wiped t 1 a b c) St.sync) fun t => lodgeOf t 0 a b c 1 (fac a b c)

/-- a disk in memory, since w -/
structure Since (p : Nat) (F : Nat → Prop) (s : St) (w w1 : World) : Prop where
  disk : DiskAt Tryz.prog w1 p (Dsk.Grow F w w1) s
  keeps : Keeps F w w1
section
variable {p : Nat} {F : Nat → Prop} {s s' : St} {w w1 w2 : World}
theorem Since.start (h : DiskAt Tryz.prog w p F s) : Since p F s w w := ⟨Dsk.DiskAt.grow h, Keeps.refl _ _⟩
theorem Since.below (h : Since p F s w w1) (hb : Below w1.heap.size w1 w2) : Since p F s w w2 := by
  have hd := h.disk.below_ hb
  refine ⟨hd.mono (fun b hg => ?_) (fun b hg => ?_), h.keeps.trans (Keeps.of_below hb).no⟩
  · rcases hg with hg | hg
    · exact .inl hg
    · exact .inr ⟨hg.1, Nat.lt_of_lt_of_le hg.2 hb.size⟩
  · rcases hg with hg | hg
    · exact hd.there b (.inl hg)
    · exact hg.2
theorem Since.before {w0 : World} (h : Since p F s w w1) (hb : Below w0.heap.size w0 w) : Since p F s w0 w1 :=
  ⟨h.disk.mono (fun b hg => by rcases hg with hg | hg; exact .inl hg; exact .inr ⟨Nat.le_trans hb.size hg.1, hg.2⟩) (fun b hg => by
    rcases hg with hg | hg
    · exact h.disk.there b (.inl hg)
    · exact hg.2), (Keeps.of_below hb).no.trans h.keeps⟩
theorem Since.next (h : Since p F s w w1) (hd : DiskAt Tryz.prog w2 p (Dsk.Grow (Dsk.Grow F w w1) w1 w2) s') (hk : Keeps (Dsk.Grow F w w1) w1 w2) : Since p F s' w w2 := by
  refine ⟨hd.mono (fun b hg => ?_) (fun b hg => ?_), h.keeps.then hk fun b hg => ?_⟩
  · rcases hg with (hg | hg) | hg
    · exact .inl hg
    · exact .inr ⟨hg.1, Nat.lt_of_lt_of_le hg.2 hk.size⟩
    · exact .inr ⟨Nat.le_trans h.keeps.size hg.1, hg.2⟩
  · rcases hg with hg | hg
    · exact hd.there b (.inl (.inl hg))
    · exact hg.2
  · rcases hg with hg | hg
    · exact .inl hg
    · exact .inr hg.1
theorem Since.tells {er : Int} {e : Ending} (h : Since p F s w w1) (ht : Dsk.Tells p (Dsk.Grow F w w1) s' w1 er e w2) : Since p F s' w w2 := h.next ht.2.1 ht.2.2
theorem Since.ge (_h : Since p F s w w1) (hF2 : ∀ k, F k → 2 ≤ k) (hT : 2 ≤ w.heap.size) : ∀ k, Dsk.Grow F w w1 k → 2 ≤ k := fun k hk => by
  rcases hk with hk | hk
  · exact hF2 k hk
  · exact Nat.le_trans hT hk.1
theorem Since.tab (h : Since p F s w w1) (hF2 : ∀ k, F k → 2 ≤ k) (hT : Tab w) : Tab w1 := tab_keeps hT h.keeps hF2
/-- bytes beside the disk -/
theorem Since.bys {v : Value} {l : List Int} (h : Since p F s w w1) (hl : Bys w (fun b => ¬ F b) v l) : Bys w1 (fun b => ¬ Dsk.Grow F w w1 b) v l :=
  (hl.there.keeps h.keeps fun b hb _ => hb.1).mono fun b hb hg => by
    rcases hg with hg | hg
    · exact hb.1 hg
    · have := hb.2
      omega
theorem Since.cell (h : Since p F s w w1) {b o : Nat} {v : Value} (hc : w.cell? ⟨b, o, none⟩ = some v) (hF : ¬ F b) : w1.cell? ⟨b, o, none⟩ = some v := (h.keeps.cell (block_lt_of_cell hc) hF).trans hc
end

theorem canBeMade_any (w : World) (p m : Nat) (F : Nat → Prop) (s : St) (a b c er : Int) (hT : Tab w) (h : DiskAt Tryz.prog w p F s) (hO : Ok m s) (her : findErr s 0 a b c = er) :
    Calls Tryz.prog 50 #[.pointer (some ⟨p, 0, none⟩), geoV a b c] w fun e w' => e = .returned (.int .i64 er) ∧ Below w.heap.size w w' := by
  obtain ⟨g0, g1, g2⟩ := boxed w (.int .i64 a) (.int .i64 b) (.int .i64 c) 23
  have HGE := Lib.hid (And.intro g0 (And.intro g1 g2))
  have HB := Lib.hid (below_box w (.cells #[.int .i64 a, .int .i64 b, .int .i64 c] 23))
  have HT := Lib.hid (tab_below hT HB.out (tab_pos hT))
  have HD := Lib.hid (h.below_ HB.out)
  have HO := Lib.hid hO
  have HER := Lib.hid her
  obtain ⟨x, hx⟩ : ∃ x, right a b c = x := ⟨_, rfl⟩
  have HX := Lib.hid hx
  obtain ⟨z, hz⟩ : ∃ z : Int, (s.size : Int) = z := ⟨_, rfl⟩
  obtain ⟨n, hn⟩ : ∃ z : Int, (s.last.length : Int) = z := ⟨_, rfl⟩
  obtain ⟨r, hr⟩ : ∃ r, 2 * spanOf z a b c = r := ⟨_, rfl⟩
  have HR := Lib.hid (And.intro hz (And.intro hn hr))
  clear hT h hO her hx hz hn hr
  go_enter Tryz.func50, Tryz.ntmps50
  go_wp2_with fail
  generalize w.alloc (.cells #[.int .i64 a, .int .i64 b, .int .i64 c] 23) = W at *
  refine (right_any a b c x W W (On.start HT.out) HX.out).mono ?_
  rintro e w1 ⟨rfl, o1⟩
  have O1 := Lib.hid o1
  clear o1
  have HE1 := Lib.hid (HB.out.trans (O1.out.bel.mono HB.out.size))
  have HD1 := Lib.hid (HD.out.below_ O1.out.bel)
  cases x
  · have HR0 := Lib.hid (show er = 9 by rw [← HER.out]; unfold findErr; rw [if_pos HX.out])
    go_wp2_with fail
    go_ret
    exact ⟨by rw [HR0.out]; rfl, HE1.out⟩
  have HR1 := Lib.hid (show ¬ right a b c = false by rw [HX.out]; decide)
  go_wp2_with fail
  refine (Dsk.size_any w1 p F s HD1.out).mono ?_
  rintro e w2 ⟨rfl, rfl⟩
  rw [HR.out.1]
  by_cases h2 : z < 32
  · have HR0 := Lib.hid (show er = 1 by rw [← HER.out]; unfold findErr; rw [if_neg HR1.out, if_pos (by have := HR.out.1; omega)])
    go_wp2_with fail
    go_ret
    exact ⟨by rw [HR0.out]; rfl, HE1.out⟩
  have HR0 := Lib.hid (show er = if n < r then 4 else 0 by
    rw [← HER.out]; unfold findErr
    rw [if_neg HR1.out, if_neg (by have := HR.out.1; omega), HR.out.1, HR.out.2.1, HR.out.2.2])
  obtain ⟨y0, y1, y2⟩ := geo_below HGE.out O1.out.bel
  have r1 := fun d os => cell_regrown y0 d os
  have r2 := fun d os => cell_regrown y1 d os
  have r3 := fun d os => cell_regrown y2 d os
  have hn0 : 0 ≤ n ∧ n ≤ 4096 := by have := HR.out.2.1; have := HO.out.len; omega
  have hrb : 0 ≤ r ∧ r ≤ 262146 := by have := HR.out.2.2; have := spanOf_bounds z a b c; omega
  obtain ⟨hn0, hn1⟩ := hn0
  obtain ⟨hrb0, hrb1⟩ := hrb
  clear y0 y1 y2
  go_wp2_with fail
  refine wp_region_quiet_below (by kernel_rfl) (by kernel_rfl) ?_
  go_big_quiet_step (fail)
  go_big_quiet_step ((refine sectors_in w1 _ p F s n HD1.out HR.out.2.1))
  go_big_quiet_step (fail)
  go_big_quiet_step ((refine size_in w1 _ p F s z HD1.out HR.out.1))
  go_big_quiet_step (fail)
  go_big_quiet_step ((refine room_in w1 _ z a b c r O1.out.tab HR.out.2.2))
  repeat (go_big_quiet_step (fail))
  refine wpQuiet_nil ?_
  rintro w' ⟨q, rfl⟩
  have HE2 := Lib.hid (HE1.out.trans ((in_below w1 q).mono HE1.out.size))
  clear r1 r2 r3
  change Exit.then _ _ _ _ (In w1 q)
  generalize In w1 q = W2 at *
  by_cases hfull : n < r
  · have HR2 := Lib.hid (show er = 4 by rw [HR0.out, if_pos hfull])
    go_wp2_with fail
    go_ret
    exact ⟨by rw [HR2.out]; rfl, HE2.out⟩
  · have HR2 := Lib.hid (show er = 0 by rw [HR0.out, if_neg hfull])
    go_wp2_with fail
    go_ret
    exact ⟨by rw [HR2.out]; rfl, HE2.out⟩

theorem Since.bytes {p : Nat} {F : Nat → Prop} {s : St} {w w1 : World} {A : Option Addr} {n c : Nat} {l : List Int} (h : Since p F s w w1) (hl : Bys w (fun b => ¬ F b) (.slice A n c) l) (h8 : In8 l) : Bytes w1 w1.heap.size A n l := by
  obtain ⟨A', c', e, _, hb⟩ := bys_bytes (B := w1.heap.size) (h.bys hl) (fun b _ hb => hb) h8
  injection e with e1 e2 e3
  subst e1 e2
  exact hb
/-- what put says -/
def Lets (p : Nat) (F : Nat → Prop) (s : St) (w : World) (er : Int) (e : Ending) (w' : World) : Prop :=
  e = (if er = 0 then .returned (.tuple #[]) else .panicked (wrongV er)) ∧ Since p F s w w'
theorem put_fst {s s2 : St} {which a b c er : Int} {l : List Int} {m : Nat} (hO : Ok m s) (h8 : In8 l) (h : put_ s which a b c l = (s2, er)) : s2.size = s.size := by
  unfold put_ at h
  split at h
  · rw [show s2 = _ from (congrArg Prod.fst h).symm]
  · rw [show s2 = _ from (congrArg Prod.fst h).symm]
    exact (stores_ok hO _ _ (secs_in h8) _).2.1
set_option maxHeartbeats 1000000 in
theorem shput_any (w : World) (p m : Nat) (F : Nat → Prop) (s s2 : St) (which a b c q er : Int) (v : Value) (l : List Int) (hT : Tab w) (hF2 : ∀ k, F k → 2 ≤ k) (h : DiskAt Tryz.prog w p F s) (hO : Ok m s) (hm : m + many l.length s.size + 10 < 1000000) (hl : Bys w (fun b => ¬ F b) v l) (h8 : In8 l) (hn : l.length ≤ 100000)
    (hq : 0 ≤ q ∧ q < 18446744073709551616) (hw : lodgeOf s which a b c q l = (s2, er)) :
    Calls Tryz.prog 54 #[.pointer (some ⟨p, 0, none⟩), .int .i64 which, geoV a b c, .int .u64 q, v] w (Lets p F s2 w er) := by
  obtain ⟨A, cp, rfl, _⟩ := bys_bytes (B := w.heap.size) hl (fun b _ hb => hb) h8
  obtain ⟨g0, g1, g2⟩ := boxed w (.int .i64 a) (.int .i64 b) (.int .i64 c) 23
  have HGE := Lib.hid (And.intro g0 (And.intro g1 g2))
  have HG := Lib.hid (show ¬ F w.heap.size from fun hf => by have := h.there _ hf; omega)
  have hbb := below_box w (.cells #[.int .i64 a, .int .i64 b, .int .i64 c] 23)
  have HB := Lib.hid hbb
  have S0 := Lib.hid (Since.start (h.below_ hbb))
  have hT := tab_below hT hbb (tab_pos hT)
  have HT := Lib.hid hT
  have HF2 := Lib.hid hF2
  have H2 := Lib.hid (tab_pos hT)
  have HO := Lib.hid hO
  have HM := Lib.hid hm
  have H8 := Lib.hid h8
  have HQ := Lib.hid hq
  have HW := Lib.hid hw
  have HN := Lib.hid hn
  obtain ⟨n, hnn⟩ : ∃ n, l.length = n := ⟨_, rfl⟩
  have HNN := Lib.hid hnn
  have HL := Lib.hid (show Bys (w.alloc (.cells #[.int .i64 a, .int .i64 b, .int .i64 c] 23)) (fun b => ¬ F b) (.slice A n cp) l from hnn ▸ (hl.there.keeps (Keeps.of_below hbb) fun _ _ _ h => h).mono fun _ hb => hb.1)
  rw [hnn]
  clear hT hF2 h hO hm hl h8 hq hw hn g0 g1 g2 hnn hbb
  obtain ⟨s1, e1, h1⟩ : ∃ s1 e1, put_ s which a b c l = (s1, e1) := ⟨_, _, rfl⟩
  have H1 := Lib.hid h1
  clear h1
  have HO1 := Lib.hid (put_ok HO.out H8.out H1.out)
  go_enter Tryz.func54, Tryz.ntmps54
  go_wp2_with fail
  generalize w.alloc (.cells #[.int .i64 a, .int .i64 b, .int .i64 c] 23) = W at *
  refine (data_any W p m n cp _ s s1 which a b c e1 A l (S0.out.tab HF2.out HT.out) S0.out.disk HO.out (by have := HM.out; rw [HNN.out] at this; omega) (S0.out.bytes HL.out H8.out) (by have := HN.out; rw [HNN.out] at this; omega) H1.out).mono ?_
  rintro e w1 ht
  have S1 := Lib.hid (S0.out.tells ht)
  obtain ⟨rfl, _⟩ := ht
  by_cases h0 : e1 ≠ 0
  · have HE := Lib.hid (show s2 = s1 ∧ er = e1 by
      have := HW.out; unfold lodgeOf at this; rw [H1.out, nx_no (x := (s1, e1)) h0, nx_no (x := (s1, e1)) h0, nx_no (x := (s1, e1)) h0] at this
      exact ⟨(congrArg Prod.fst this).symm, (congrArg Prod.snd this).symm⟩)
    go_wp2_with fail
    refine (must_no e1 w1 h0).mono ?_
    rintro e w2 ⟨rfl, rfl⟩
    refine ⟨rfl, ?_⟩
    obtain ⟨rfl, rfl⟩ := HE.out
    exact ⟨by rw [if_neg h0], S1.out.before HB.out⟩
  obtain rfl : e1 = 0 := by omega
  have HW1 := Lib.hid (show nx (nx s1.sync fun t => laid t which a b c q l) St.sync = (s2, er) by
    have := HW.out; unfold lodgeOf at this; rwa [H1.out, nx_ok] at this)
  clear h0 H1 HW
  have HO3 := Lib.hid HO1.out.sync
  obtain ⟨s3, e3, h3⟩ : ∃ s3 e3, s1.sync = (s3, e3) := ⟨_, _, rfl⟩
  rw [h3] at HO3
  have H3 := Lib.hid h3
  clear h3 HO
  obtain ⟨x0, x1, x2⟩ := HGE.out
  go_wp2_with fail
  refine (must_ok w1).mono ?_
  rintro e w2 ⟨rfl, rfl⟩
  go_wp2_with fail
  refine (sync_is S1.out.disk HO1.out (by have := HM.out; omega) H3.out).mono ?_
  rintro e w2 ht
  have S2 := Lib.hid (S1.out.tells ht)
  obtain ⟨rfl, _⟩ := ht
  by_cases h0 : e3 ≠ 0
  · have HE := Lib.hid (show s2 = s3 ∧ er = e3 by
      have := HW1.out; rw [H3.out, nx_no (x := (s3, e3)) h0, nx_no (x := (s3, e3)) h0] at this
      exact ⟨(congrArg Prod.fst this).symm, (congrArg Prod.snd this).symm⟩)
    go_wp2_with fail
    refine (must_no e3 w2 h0).mono ?_
    rintro e w3 ⟨rfl, rfl⟩
    refine ⟨rfl, ?_⟩
    obtain ⟨rfl, rfl⟩ := HE.out
    exact ⟨by rw [if_neg h0], S2.out.before HB.out⟩
  obtain rfl : e3 = 0 := by omega
  have HW2 := Lib.hid (show nx (laid s3 which a b c q l) St.sync = (s2, er) by
    have := HW1.out; rwa [H3.out, nx_ok] at this)
  clear h0 HW1 H3 S1 HO1 S0
  obtain ⟨s4, e4, h4⟩ : ∃ s4 e4, laid s3 which a b c q l = (s4, e4) := ⟨_, _, rfl⟩
  have HO4 := Lib.hid (laid_ok HO3.out h4)
  have H4 := Lib.hid h4
  clear h4
  have hc0 := S2.out.cell x0 HG.out
  have hc1 := S2.out.cell x1 HG.out
  have hc2 := S2.out.cell x2 HG.out
  go_wp2_with fail
  refine (must_ok w2).mono ?_
  rintro e w3 ⟨rfl, rfl⟩
  go_wp2_with fail
  refine (seal_any w2 p _ n cp _ s3 s4 which a b c q e4 A l (S2.out.tab HF2.out HT.out) S2.out.disk HO3.out (by have := HM.out; omega) (S2.out.bytes HL.out H8.out) HQ.out H4.out).mono ?_
  rintro e w3 ht
  have S3 := Lib.hid (S2.out.tells ht)
  obtain ⟨rfl, _⟩ := ht
  by_cases h0 : e4 ≠ 0
  · have HE := Lib.hid (show s2 = s4 ∧ er = e4 by
      have := HW2.out; rw [H4.out, nx_no (x := (s4, e4)) h0] at this
      exact ⟨(congrArg Prod.fst this).symm, (congrArg Prod.snd this).symm⟩)
    go_wp2_with fail
    refine (must_no e4 w3 h0).mono ?_
    rintro e w4 ⟨rfl, rfl⟩
    refine ⟨rfl, ?_⟩
    obtain ⟨rfl, rfl⟩ := HE.out
    exact ⟨by rw [if_neg h0], S3.out.before HB.out⟩
  obtain rfl : e4 = 0 := by omega
  have HW3 := Lib.hid (show s4.sync = (s2, er) by
    have := HW2.out; rwa [H4.out, nx_ok] at this)
  clear h0 HW2 H4 S2 hc0 hc1 hc2
  go_wp2_with fail
  refine (must_ok w3).mono ?_
  rintro e w4 ⟨rfl, rfl⟩
  go_wp2_with fail
  refine (sync_is S3.out.disk HO4.out (by have := HM.out; omega) HW3.out).mono ?_
  rintro e w4 ht
  have S4 := Lib.hid (S3.out.tells ht)
  obtain ⟨rfl, _⟩ := ht
  by_cases h0 : er ≠ 0
  · go_wp2_with fail
    refine (must_no er w4 h0).mono ?_
    rintro e w5 ⟨rfl, rfl⟩
    refine ⟨rfl, ?_⟩
    exact ⟨by rw [if_neg h0], S4.out.before HB.out⟩
  obtain rfl : er = 0 := by omega
  clear h0
  go_wp2_with fail
  refine (must_ok w4).mono ?_
  rintro e w5 ⟨rfl, rfl⟩
  go_wp2_with fail
  go_end0
  exact ⟨rfl, S4.out.before HB.out⟩
end Go.Proofs.YthlemcnbebfliaaGreatDoor
namespace Go.Proofs.YthlemcnbebfliaaGreatDoor
open Ks Go.RowKit
set_option maxRecDepth 20000

theorem doorF_panic {tmps : Array Value} {R : Ending → World → Prop} {N : Nat} {x er : Int} {w : World} (ht : tmps[4]? = some (.pointer (some ⟨N, 0, none⟩))) (hc : w.cell? ⟨N, 0, none⟩ = some (.int .i64 x)) (hz : w.frozen? ⟨N, 0, none⟩ = false)
    (hR : R (.returned (.int .i64 er)) (w.setCell ⟨N, 0, none⟩ (.int .i64 er)).drew) : Leaves Tryz.prog Tryz.f16 tmps R [{ target := Target.fn (Fn.func 47) #[.pointer (some ⟨N, 0, none⟩)], args := #[] }] (.panicking (wrongV er)) w := by
  refine leaves_cons (f := 47) (args := #[.pointer (some ⟨N, 0, none⟩)]) (by simp) (by simp [go_sem]) ?_
  refine (catchF_panicking ⟨N, 0, none⟩ x er w hc hz).mono ?_
  rintro e u' w'' ⟨rfl, rfl, rfl⟩
  have hs : (w.setCell ⟨N, 0, none⟩ (.int .i64 er)).cell? ⟨N, 0, none⟩ = some (.int .i64 er) := by simp [go_sem, hc]
  simp [Leaves, settle, results, Tryz.results16, go_sem, ht, hs]
  exact hR
theorem doorF_ret {tmps : Array Value} {R : Ending → World → Prop} {N : Nat} {x : Int} {w : World} (ht : tmps[4]? = some (.pointer (some ⟨N, 0, none⟩))) (hc : w.cell? ⟨N, 0, none⟩ = some (.int .i64 x)) (hz : w.frozen? ⟨N, 0, none⟩ = false)
    (hR : R (.returned (.int .i64 x)) (w.setCell ⟨N, 0, none⟩ (.int .i64 x)).drew) : Leaves Tryz.prog Tryz.f16 tmps R [{ target := Target.fn (Fn.func 47) #[.pointer (some ⟨N, 0, none⟩)], args := #[] }] .returning w := by
  refine leaves_cons (f := 47) (args := #[.pointer (some ⟨N, 0, none⟩)]) (by simp) (by simp [go_sem]) ?_
  refine (catchF_idle ⟨N, 0, none⟩ x w hc hz).mono ?_
  rintro e u' w'' ⟨rfl, rfl, rfl⟩
  have hs : (w.setCell ⟨N, 0, none⟩ (.int .i64 x)).cell? ⟨N, 0, none⟩ = some (.int .i64 x) := by simp [go_sem, hc]
  simp [Leaves, settle, results, Tryz.results16, go_sem, ht, hs]
  exact hR
theorem Since.close {p : Nat} {F : Nat → Prop} {s : St} {w W w1 : World} {N : Nat} (h : Since p F s W w1) (hb : Below w.heap.size w W) (h0 : w.heap.size ≤ N) (h1 : N < W.heap.size) (hF : ¬ F N) (v : Value) : Since p F s w (w1.setCell ⟨N, 0, none⟩ v).drew := by
  have hsz : (w1.setCell ⟨N, 0, none⟩ v).drew.heap.size = w1.heap.size := by simp [World.setCell]
  have hd : DiskAt Tryz.prog (w1.setCell ⟨N, 0, none⟩ v).drew p (Dsk.Grow F W w1) s := h.disk.keep (fun b hg => Below.heap_setCell _ _ _ _ (fun e => by
    have e : b = N := e
    subst e
    rcases hg with hg | hg
    · exact hF hg
    · omega)) (by rw [hsz]; exact Nat.le_refl _)
  refine ⟨hd.mono (fun b hg => ?_) (fun b hg => ?_), (((Keeps.of_below hb).no.trans h.keeps).set_ (p := ⟨N, 0, none⟩) (.inr h0) v).drew⟩
  · rcases hg with hg | hg
    · exact .inl hg
    · exact .inr ⟨Nat.le_trans hb.size hg.1, by rw [hsz]; exact hg.2⟩
  · rcases hg with hg | hg
    · exact hd.there b (.inl hg)
    · exact hg.2
theorem Since.frozen {p : Nat} {F : Nat → Prop} {s : St} {w w1 : World} {b o : Nat} (h : Since p F s w w1) (hl : b < w.heap.size) (hF : ¬ F b) (hf : w.frozen? ⟨b, o, none⟩ = false) : w1.frozen? ⟨b, o, none⟩ = false := (World.frozen?_of_block (w := w) (h.keeps.block b hl hF)).trans hf

def Done (p : Nat) (F : Nat → Prop) (s : St) (w : World) (er : Int) (e : Ending) (w' : World) : Prop := e = .returned (.int .i64 er) ∧ Since p F s w w'
/-- what was there is stored -/
theorem set_same {w : World} {g : Nat} {t : TypeId} {cs : Array Value} (h : Blk w g t cs) {k : Nat} {v : Value} (hk : cs[k]? = some v) : w.setCell ⟨g, k, none⟩ v = w := by
  have e : (w.setCell ⟨g, k, none⟩ v).heap = w.heap := by
    apply Array.ext_getElem?
    intro i
    by_cases hi : i = g
    · subst hi
      rw [show (w.setCell ⟨i, k, none⟩ v).heap[i]? = _ from h.set_ k v, show w.heap[i]? = _ from h]
      congr 2
      apply Array.ext_getElem?
      intro j
      by_cases hj : k = j
      · subst hj
        obtain ⟨h1, h2⟩ := Array.getElem?_eq_some_iff.1 hk
        simp [h1, h2]
      · simp [hj]
    · exact Below.heap_setCell _ _ _ _ hi
  cases w
  simp only [World.setCell] at e ⊢
  rw [e]
theorem outF {p : Nat} {F : Nat → Prop} {s s2 : St} {w W w1 : World} {er er' : Int} {tmps : Array Value} (S : Since p F s W w1) (hR : Blk W (w.heap.size + 1) 31 #[.int .i64 0]) (hG : ¬ F (w.heap.size + 1)) (hB : Below w.heap.size w W)
    (ht : tmps[4]? = some (.pointer (some ⟨w.heap.size + 1, 0, none⟩))) (hE : s2 = s ∧ er' = er) :
    Leaves Tryz.prog Tryz.f16 tmps (Done p F s2 w er') [{ target := Target.fn (Fn.func 47) #[.pointer (some ⟨w.heap.size + 1, 0, none⟩)], args := #[] }] (.panicking (wrongV er)) w1 := by
  obtain ⟨rfl, rfl⟩ := hE
  exact doorF_panic ht (S.cell (hR.cell 0) hG) (S.frozen hR.lt hG (hR.frozen 0)) ⟨rfl, S.close hB (Nat.le_succ _) hR.lt hG _⟩
theorem sync_size (s : St) : s.sync.1.size = s.size ∧ s.sync.1.last.length = s.last.length := by
  unfold St.sync
  split
  · exact ⟨rfl, rfl⟩
  · have := syncL_is s.uns s.tick (Dsk.sorted_uns s) (fun u hu => by have := (Dsk.mem_uns s u).1 hu; exact ⟨this.1, this.2.1⟩)
    exact ⟨this.1, this.2.1⟩
theorem Since.join {p : Nat} {F : Nat → Prop} {s s' : St} {w w1 w2 w3 : World} (h : Since p F s w w1) (hb : Below w1.heap.size w1 w2) (k : Since p (Dsk.Grow F w w1) s' w2 w3) : Since p F s' w w3 := by
  have := k.before hb
  exact h.next this.disk this.keeps
set_option maxHeartbeats 1000000 in
theorem format_any (w : World) (p m : Nat) (F : Nat → Prop) (s s2 : St) (a b c er : Int) (hT : Tab w) (hF2 : ∀ k, F k → 2 ≤ k) (h : DiskAt Tryz.prog w p F s) (hO : Ok m s) (hm : m + many (total a b c).toNat s.size + 20 < 1000000) (hw : formatOf s a b c = (s2, er)) :
    Calls Tryz.prog 16 #[.pointer (some ⟨p, 0, none⟩), geoV a b c] w (Done p F s2 w er) := by
  have hmf : ∀ (fn : Fn) (first cap : Array Value) (w : World), (Instr.makeFunc fn first cap).run Tryz.prog w = .ok (.func fn first cap) w := fun _ _ _ _ => rfl
  obtain ⟨W, hW⟩ : ∃ W, (w.alloc (.cells #[.int .i64 a, .int .i64 b, .int .i64 c] 23)).alloc (.cells #[.int .i64 0] 31) = W := ⟨_, rfl⟩
  have b1 := below_box w (.cells #[.int .i64 a, .int .i64 b, .int .i64 c] 23)
  have b2 := below_box (w.alloc (.cells #[.int .i64 a, .int .i64 b, .int .i64 c] 23)) (.cells #[.int .i64 0] 31)
  have hbb : Below w.heap.size w W := by rw [← hW]; exact b1.trans (b2.mono b1.size)
  have hWs : W.heap.size = w.heap.size + 2 := by rw [← hW]; simp
  have hge := geo_below (boxed w (.int .i64 a) (.int .i64 b) (.int .i64 c) 23) b2
  rw [hW] at hge
  have hr := Blk.new (w.alloc (.cells #[.int .i64 a, .int .i64 b, .int .i64 c] 23)) 31 #[.int .i64 0]
  rw [hW, size_alloc] at hr
  have HGE := Lib.hid hge
  have HR := Lib.hid hr
  have HB := Lib.hid hbb
  have HWS := Lib.hid hWs
  have HG := Lib.hid (show ¬ F w.heap.size ∧ ¬ F (w.heap.size + 1) from ⟨fun hf => by have := h.there _ hf; omega, fun hf => by have := h.there _ hf; omega⟩)
  have S0 := Lib.hid (Since.start (h.below_ hbb))
  have HT := Lib.hid (tab_below hT hbb (tab_pos hT))
  have HF2 := Lib.hid hF2
  have HO := Lib.hid hO
  have HM := Lib.hid hm
  have HW := Lib.hid hw
  obtain ⟨e0, h0⟩ : ∃ e0, findErr s 0 a b c = e0 := ⟨_, rfl⟩
  have H0 := Lib.hid h0
  clear hT hF2 h hO hm hw b1 b2 hbb hWs hge hr h0
  obtain ⟨g0, g1, g2⟩ := HGE.out
  go_enter_defers Tryz.func16, Tryz.ntmps16
  go_wp2_with fail
  clear hW
  refine (canBeMade_any W p m _ s a b c e0 HT.out S0.out.disk HO.out H0.out).mono ?_
  rintro e w1 ⟨rfl, hb1⟩
  have S1 := Lib.hid (S0.out.below hb1)
  clear hb1
  by_cases h0 : e0 ≠ 0
  · have HE := Lib.hid (show s2 = s ∧ er = e0 by
      have := HW.out; unfold formatOf at this; rw [H0.out, if_pos h0] at this
      exact ⟨(congrArg Prod.fst this).symm, (congrArg Prod.snd this).symm⟩)
    clear g0 g1 g2
    go_wp2_with fail
    refine (must_no e0 w1 h0).mono ?_
    rintro e w2 ⟨rfl, rfl⟩
    exact outF S1.out HR.out HG.out.2 HB.out rfl HE.out
  obtain rfl : e0 = 0 := by omega
  have HW1 := Lib.hid (show (nx (nx (nx (wiped s 0 a b c) fun t => wiped t 1 a b c) St.sync) fun t => lodgeOf t 0 a b c 1 (fac a b c)) = (s2, er) by
    have := HW.out; unfold formatOf at this; rwa [H0.out, if_neg (fun h => h rfl)] at this)
  clear h0 HW S0 g0 g1 g2
  have g0 := S1.out.cell HGE.out.1 HG.out.1
  have g1 := S1.out.cell HGE.out.2.1 HG.out.1
  have g2 := S1.out.cell HGE.out.2.2 HG.out.1
  obtain ⟨s3, e3, h3⟩ : ∃ s1 e1, wiped s 0 a b c = (s1, e1) := ⟨_, _, rfl⟩
  have HO3 := Lib.hid (wiped_ok HO.out h3)
  have H3 := Lib.hid h3
  clear h3
  go_wp2_with fail
  refine (must_ok w1).mono ?_
  rintro e w2 ⟨rfl, rfl⟩
  go_wp2_with fail
  refine (wipe_any w1 p m _ s s3 0 a b c e3 (S1.out.tab HF2.out HT.out) S1.out.disk HO.out (by have := HM.out; omega) H3.out).mono ?_
  rintro e w2 ht
  have S2 := Lib.hid (S1.out.tells ht)
  obtain ⟨rfl, _⟩ := ht
  clear g0 g1 g2
  by_cases h0 : e3 ≠ 0
  · have HE := Lib.hid (show s2 = s3 ∧ er = e3 by
      have := HW1.out; rw [H3.out, nx_no (x := (s3, e3)) h0, nx_no (x := (s3, e3)) h0, nx_no (x := (s3, e3)) h0] at this
      exact ⟨(congrArg Prod.fst this).symm, (congrArg Prod.snd this).symm⟩)
    go_wp2_with fail
    refine (must_no e3 w2 h0).mono ?_
    rintro e w3 ⟨rfl, rfl⟩
    exact outF S2.out HR.out HG.out.2 HB.out rfl HE.out
  obtain rfl : e3 = 0 := by omega
  have HW2 := Lib.hid (show (nx (nx (wiped s3 1 a b c) St.sync) fun t => lodgeOf t 0 a b c 1 (fac a b c)) = (s2, er) by
    have := HW1.out; rwa [H3.out, nx_ok] at this)
  clear h0 HW1 S1
  have g0 := S2.out.cell HGE.out.1 HG.out.1
  have g1 := S2.out.cell HGE.out.2.1 HG.out.1
  have g2 := S2.out.cell HGE.out.2.2 HG.out.1
  obtain ⟨s4, e4, h4⟩ : ∃ s1 e1, wiped s3 1 a b c = (s1, e1) := ⟨_, _, rfl⟩
  have HO4 := Lib.hid (wiped_ok HO3.out h4)
  have H4 := Lib.hid h4
  clear h4
  go_wp2_with fail
  refine (must_ok w2).mono ?_
  rintro e w3 ⟨rfl, rfl⟩
  go_wp2_with fail
  refine (wipe_any w2 p _ _ s3 s4 1 a b c e4 (S2.out.tab HF2.out HT.out) S2.out.disk HO3.out (by have := HM.out; omega) H4.out).mono ?_
  rintro e w3 ht
  have S3 := Lib.hid (S2.out.tells ht)
  obtain ⟨rfl, _⟩ := ht
  clear g0 g1 g2
  by_cases h0 : e4 ≠ 0
  · have HE := Lib.hid (show s2 = s4 ∧ er = e4 by
      have := HW2.out; rw [H4.out, nx_no (x := (s4, e4)) h0, nx_no (x := (s4, e4)) h0] at this
      exact ⟨(congrArg Prod.fst this).symm, (congrArg Prod.snd this).symm⟩)
    go_wp2_with fail
    refine (must_no e4 w3 h0).mono ?_
    rintro e w4 ⟨rfl, rfl⟩
    exact outF S3.out HR.out HG.out.2 HB.out rfl HE.out
  obtain rfl : e4 = 0 := by omega
  have HW3 := Lib.hid (show (nx s4.sync fun t => lodgeOf t 0 a b c 1 (fac a b c)) = (s2, er) by
    have := HW2.out; rwa [H4.out, nx_ok] at this)
  clear h0 HW2 S2
  have HO5 := Lib.hid HO4.out.sync
  obtain ⟨s5, e5, h5⟩ : ∃ s1 e1, s4.sync = (s1, e1) := ⟨_, _, rfl⟩
  rw [h5] at HO5
  have H5 := Lib.hid h5
  clear h5
  go_wp2_with fail
  refine (must_ok w3).mono ?_
  rintro e w4 ⟨rfl, rfl⟩
  go_wp2_with fail
  refine (sync_is S3.out.disk HO4.out (by have := HM.out; omega) H5.out).mono ?_
  rintro e w4 ht
  have S4 := Lib.hid (S3.out.tells ht)
  obtain ⟨rfl, _⟩ := ht
  by_cases h0 : e5 ≠ 0
  · have HE := Lib.hid (show s2 = s5 ∧ er = e5 by
      have := HW3.out; rw [H5.out, nx_no (x := (s5, e5)) h0] at this
      exact ⟨(congrArg Prod.fst this).symm, (congrArg Prod.snd this).symm⟩)
    go_wp2_with fail
    refine (must_no e5 w4 h0).mono ?_
    rintro e w5 ⟨rfl, rfl⟩
    exact outF S4.out HR.out HG.out.2 HB.out rfl HE.out
  obtain rfl : e5 = 0 := by omega
  have HW4 := Lib.hid (show lodgeOf s5 0 a b c 1 (fac a b c) = (s2, er) by
    have := HW3.out; rwa [H5.out, nx_ok] at this)
  clear h0 HW3 S3
  have HRI := Lib.hid (show right a b c = true by
    have := H0.out; unfold findErr at this
    cases hr : right a b c
    · rw [hr] at this; cases this
    · rfl)
  have g0 := S4.out.cell HGE.out.1 HG.out.1
  have g1 := S4.out.cell HGE.out.2.1 HG.out.1
  have g2 := S4.out.cell HGE.out.2.2 HG.out.1
  go_wp2_with fail
  refine (must_ok w4).mono ?_
  rintro e w5 ⟨rfl, rfl⟩
  go_wp2_with fail
  refine (factory_ok a b c w4 w4 (On.start (S4.out.tab HF2.out HT.out)) HRI.out).mono ?_
  rintro e w5 ⟨g, rfl, o5, hg5, hrow⟩
  have S5 := Lib.hid (S4.out.below o5.bel)
  have HROW := Lib.hid (And.intro hg5 hrow)
  have HB5 := Lib.hid o5.bel
  clear o5 hg5 hrow g0 g1 g2
  have hcl := S5.out.cell (HR.out.cell 0) HG.out.2
  have hfz := S5.out.frozen (o := 0) HR.out.lt HG.out.2 (HR.out.frozen 0)
  have hss : w5.setCell ⟨w.heap.size + 1, 0, none⟩ (.int .i64 0) = w5 := set_same (HR.out.of_eq (S5.out.keeps.block _ HR.out.lt HG.out.2)) rfl
  have g0 := S5.out.cell HGE.out.1 HG.out.1
  have g1 := S5.out.cell HGE.out.2.1 HG.out.1
  have g2 := S5.out.cell HGE.out.2.2 HG.out.1
  go_wp2_with fail
  refine (must_ok w5).mono ?_
  rintro e w6 ⟨rfl, rfl⟩
  go_wp2_with fail
  have hfl : (fac a b c).length = facM a b c := facAt_len _ _ (fac_nums HRI.out).2.2.1
  have HSZ := Lib.hid (show s5.size = s.size by
    have e1 : s3.size = s.size := by
      have := H3.out; unfold wiped at this
      split at this
      · rw [show s3 = s from (congrArg Prod.fst this).symm]
      · rw [show s3 = _ from (congrArg Prod.fst this).symm]; exact (put_size _ _ _).1
    have e2 : s4.size = s3.size := by
      have := H4.out; unfold wiped at this
      split at this
      · rw [show s4 = s3 from (congrArg Prod.fst this).symm]
      · rw [show s4 = _ from (congrArg Prod.fst this).symm]; exact (put_size _ _ _).1
    have e3 : s5.size = s4.size := by
      have := (sync_size s4).1
      rw [H5.out] at this
      exact this
    rw [e3, e2, e1])
  have HD5 := Lib.hid (S4.out.disk.below_ (w' := w5) HB5.out)
  refine (shput_any w5 p _ (Dsk.Grow F W w4) s5 s2 0 a b c 1 er _ (fac a b c) (S5.out.tab HF2.out HT.out) (S4.out.ge HF2.out (tab_pos HT.out)) HD5.out HO5.out ?_ ?_ (facAt_in _ _) ?_ (by omega) HW4.out).mono ?_
  · rw [hfl, HSZ.out]
    have := HM.out
    unfold facM
    omega
  · have hb := bys_row HROW.out.2 hfl (Nat.le_refl _)
    exact hb.mono fun b hb hg => by
      have hb : b = g := hb
      subst hb
      have := S4.out.disk.there b hg
      have := HROW.out.1
      omega
  · rw [hfl]
    have := fac_nums HRI.out
    have h1 := col0_bounds a
    have h2 : bytesOf b 64 256 ≤ 16384 := by unfold bytesOf; split <;> omega
    have h3 : bytesOf c 128 64 ≤ 8192 := by unfold bytesOf; split <;> omega
    omega
  rintro e w6 ⟨rfl, hs⟩
  have S7 := Lib.hid (S4.out.join HB5.out hs)
  clear hs
  by_cases h0 : er = 0
  · subst h0
    rw [if_pos rfl]
    have hcl := S7.out.cell (HR.out.cell 0) HG.out.2
    have hfz := S7.out.frozen (o := 0) HR.out.lt HG.out.2 (HR.out.frozen 0)
    have hss : w6.setCell ⟨w.heap.size + 1, 0, none⟩ (.int .i64 0) = w6 := set_same (HR.out.of_eq (S7.out.keeps.block _ HR.out.lt HG.out.2)) rfl
    go_wp2_with fail
    exact doorF_ret rfl hcl hfz ⟨rfl, S7.out.close HB.out (Nat.le_succ _) HR.out.lt HG.out.2 _⟩
  · rw [if_neg h0]
    exact outF S7.out HR.out HG.out.2 HB.out rfl ⟨rfl, rfl⟩
end Go.Proofs.YthlemcnbebfliaaGreatDoor
namespace Go.Proofs.YthlemcnbebfliaaGreatDoor
open Ks Go.RowKit
set_option maxRecDepth 20000

/-- what read says -/
def ReadSays (w : World) (p : Nat) (F : Nat → Prop) (s : St) (x : Slt) (er : Int) (e : Ending) (w' : World) : Prop :=
  Keeps F w w' ∧ DiskAt Tryz.prog w' p F s ∧ ((er ≠ 0 ∧ e = .panicked (wrongV er)) ∨ (er = 0 ∧ ∃ v, e = .returned v ∧ SltAt w' w.heap.size v x))
set_option maxHeartbeats 1000000 in
theorem shread_any (w : World) (p m : Nat) (F : Nat → Prop) (s s2 : St) (x : Slt) (which a b c er : Int) (hT : Tab w) (hF2 : ∀ k, F k → 2 ≤ k) (h : DiskAt Tryz.prog w p F s) (hO : Ok m s) (hm : m + 1 + many (total a b c).toNat s.size < 1000000) (hr : readOf s which a b c = (s2, x, er)) :
    Calls Tryz.prog 70 #[.pointer (some ⟨p, 0, none⟩), .int .i64 which, geoV a b c] w (ReadSays w p F s2 x er) := by
  have HS := Lib.hid (BoxAt.start a b c 110 #[.int .i64 0, .int .i64 0, .int .u64 0, .slice none 0 0] hT)
  have HD := Lib.hid (h.below_ HS.out.bel)
  have HTH := Lib.hid h.there
  have HF2 := Lib.hid hF2
  have HO := Lib.hid hO
  have HM := Lib.hid hm
  have HR := Lib.hid hr
  clear hT h hO hF2 hm hr
  obtain ⟨g0, g1, g2⟩ : _ ∧ _ ∧ _ := ⟨HS.out.g0, HS.out.g1, HS.out.g2⟩
  go_enter Tryz.func70, Tryz.ntmps70
  go_wp2_with fail
  have HSZ := Lib.hid (show ((w.alloc (.cells #[.int .i64 a, .int .i64 b, .int .i64 c] 23)).alloc (.cells #[.int .i64 0, .int .i64 0, .int .u64 0, .slice none 0 0] 110)).heap.size = w.heap.size + 1 + 1 by rw [size_alloc, size_alloc])
  generalize (w.alloc (.cells #[.int .i64 a, .int .i64 b, .int .i64 c] 23)).alloc (.cells #[.int .i64 0, .int .i64 0, .int .u64 0, .slice none 0 0] 110) = W at *
  refine (read_is HS.out.tab HF2.out HD.out HO.out HM.out HR.out).mono ?_
  rintro e w1 ⟨hk, hd, v, rfl, hx⟩
  obtain ⟨st, why, q, img⟩ := x
  obtain ⟨iv, rfl, ho⟩ := hx
  obtain ⟨A, c', rfl⟩ := Dsk.row_slice ho
  simp only at ho
  have HK := Lib.hid hk
  have HD1 := Lib.hid hd
  have HI := Lib.hid ho
  clear hk hd ho g0 g1 g2
  obtain ⟨n, hn⟩ : ∃ n, img.length = n := ⟨_, rfl⟩
  have hI := (hn ▸ HI.out : Own W.heap.size w1 (.slice A n c') img)
  rw [hn]
  have HIO := Lib.hid (hI.base_ (show w.heap.size ≤ W.heap.size from HS.out.bel.size))
  clear hn hI HI
  have HNF := Lib.hid (show (¬ F (w.heap.size + 1)) ∧ (¬ F w1.heap.size) from ⟨fun hf => by have := HTH.out _ hf; omega, fun hf => by have := HD1.out.there _ hf; omega⟩)
  have HB2 := Lib.hid (below_box w1 (.cells #[.int .i64 st, .int .i64 why, .int .u64 q, .slice A n c'] 110))
  have HN := Lib.hid (Blk.new w1 110 #[.int .i64 st, .int .i64 why, .int .u64 q, .slice A n c'])
  have HKN := Lib.hid (show Keeps F w (w1.alloc (.cells #[.int .i64 st, .int .i64 why, .int .u64 q, .slice A n c'] 110)) from ((Keeps.of_below HS.out.bel).no.trans HK.out).alloc _)
  have HW1 := Lib.hid (show w.heap.size + 1 < w1.heap.size from by have := HK.out.size; have := HSZ.out; omega)
  have HRN := Lib.hid (show Blk (w1.alloc (.cells #[.int .i64 st, .int .i64 why, .int .u64 q, .slice A n c'] 110)) (w.heap.size + 1) 110 #[.int .i64 0, .int .i64 0, .int .u64 0, .slice none 0 0] from
    (HS.out.res.of_eq (HK.out.block _ HS.out.res.lt HNF.out.1)).of_eq (HB2.out.block _ HW1.out))
  have HD2 := Lib.hid (HD1.out.below_ HB2.out)
  have HI2 := Lib.hid (own_keeps HIO.out (Keeps.of_below HB2.out) (fun _ _ h => h))
  go_wp2_with fail
  generalize w1.alloc (.cells #[.int .i64 st, .int .i64 why, .int .u64 q, .slice A n c'] 110) = w2 at *
  by_cases h0 : er ≠ 0
  · refine (must_no er w2 h0).mono ?_
    rintro e w3 ⟨rfl, rfl⟩
    exact ⟨rfl, HKN.out, HD2.out, .inl ⟨h0, rfl⟩⟩
  obtain rfl : er = 0 := by omega
  refine (must_ok w2).mono ?_
  rintro e w3 ⟨rfl, rfl⟩
  obtain ⟨d0, d1, d2, d3⟩ := HN.out.c4
  have fr := HRN.out.frozen
  obtain ⟨c0, c1, c2, c3⟩ := HRN.out.four (.int .i64 st) (.int .i64 why) (.int .u64 q)
  go_wp2_with fail
  have HB := Lib.hid (HRN.out.sets4 (.int .i64 st) (.int .i64 why) (.int .u64 q) (.slice A n c'))
  have HE := Lib.hid (reads_end HKN.out HD2.out HNF.out.1 (by omega) (.int .i64 st) (.int .i64 why) (.int .u64 q) (.slice A n c') HI2.out (own_ne HI2.out HRN.out (by decide)))
  change bodyPost _ _ _ _ _ (sets4 w2 (w.heap.size + 1) (.int .i64 st) (.int .i64 why) (.int .u64 q) (.slice A n c'))
  generalize sets4 w2 (w.heap.size + 1) (.int .i64 st) (.int .i64 why) (.int .u64 q) (.slice A n c') = W5 at *
  obtain ⟨f0, f1, f2, f3⟩ := HB.out.c4
  (try simp only [Exit.inBlock, Exit.then])
  refine bodyPost_ret (by simp [results, Tryz.results70, go_sem, f0, f1, f2, f3]; try rfl) rfl ?_
  exact ⟨HE.out.1, HE.out.2.1, .inr ⟨rfl, _, rfl, _, rfl, HE.out.2.2⟩⟩
end Go.Proofs.YthlemcnbebfliaaGreatDoor
namespace Go.Proofs.YthlemcnbebfliaaGreatDoor
open Ks Go.RowKit
set_option maxRecDepth 20000

/-- which slot is taken, or what is wrong -/
def pick (x y : Slt) : Int × Int := if y.st = 2 ∧ (x.st ≠ 2 ∨ x.seq < y.seq) then (1, 0) else if x.st = 2 then (0, 0) else if x.st = 1 ∨ y.st = 1 then (0, 9) else (0, 10)
theorem newest_any (w : World) (st st' why why' q q' : Int) (A A' : Option Addr) (n n' c c' : Nat) (r : Int × Int) (hr : (if st' = 2 ∧ (st ≠ 2 ∨ q < q') then ((1 : Int), (0 : Int)) else if st = 2 then (0, 0) else if st = 1 ∨ st' = 1 then (0, 9) else (0, 10)) = r) :
    Calls Tryz.prog 71 #[.agg #[.int .i64 st, .int .i64 why, .int .u64 q, .slice A n c, .int .i64 st', .int .i64 why', .int .u64 q', .slice A' n' c']] w fun e w' => e = .returned (.tuple #[.int .i64 r.1, .int .i64 r.2]) ∧ Below w.heap.size w w' := by
  have HR := Lib.hid hr
  clear hr
  go_enter Tryz.func71, Tryz.ntmps71
  go_wp2_with fail
  have H8 := Lib.hid (Blk.new w 112 #[.int .i64 st, .int .i64 why, .int .u64 q, .slice A n c, .int .i64 st', .int .i64 why', .int .u64 q', .slice A' n' c'])
  have HB := Lib.hid (below_box w (.cells #[.int .i64 st, .int .i64 why, .int .u64 q, .slice A n c, .int .i64 st', .int .i64 why', .int .u64 q', .slice A' n' c'] 112))
  have HW := Lib.hid (show w.heap.size < (w.alloc (.cells #[.int .i64 st, .int .i64 why, .int .u64 q, .slice A n c, .int .i64 st', .int .i64 why', .int .u64 q', .slice A' n' c'] 112)).heap.size by simp)
  generalize w.alloc (.cells #[.int .i64 st, .int .i64 why, .int .u64 q, .slice A n c, .int .i64 st', .int .i64 why', .int .u64 q', .slice A' n' c'] 112) = W at *
  obtain ⟨k0, k1, k2, k3, k4, k5, k6, k7⟩ : _ ∧ _ ∧ _ ∧ _ ∧ _ ∧ _ ∧ _ ∧ _ := ⟨H8.out.cell 0, H8.out.cell 1, H8.out.cell 2, H8.out.cell 3, H8.out.cell 4, H8.out.cell 5, H8.out.cell 6, H8.out.cell 7⟩
  simp only [List.getElem?_toArray, List.getElem?_cons_zero, List.getElem?_cons_succ] at k0 k1 k2 k3 k4 k5 k6 k7
  go_region_held3 (fun w' => w'.cell? ⟨w.heap.size, 0, none⟩ = some (.int .i64 st) ∧ w'.cell? ⟨w.heap.size, 1, none⟩ = some (.int .i64 why) ∧ w'.cell? ⟨w.heap.size, 2, none⟩ = some (.int .u64 q) ∧ w'.cell? ⟨w.heap.size, 3, none⟩ = some (.slice A n c) ∧
    w'.cell? ⟨w.heap.size, 4, none⟩ = some (.int .i64 st') ∧ w'.cell? ⟨w.heap.size, 5, none⟩ = some (.int .i64 why') ∧ w'.cell? ⟨w.heap.size, 6, none⟩ = some (.int .u64 q') ∧ w'.cell? ⟨w.heap.size, 7, none⟩ = some (.slice A' n' c')) (go_keep) (fail)
  · have q1 := below_box W (.cells #[.int .i64 st, .int .i64 why, .int .u64 q, .slice A n c] 110)
    have q2 := below_box (W.alloc (.cells #[.int .i64 st, .int .i64 why, .int .u64 q, .slice A n c] 110)) (.cells #[.int .i64 st', .int .i64 why', .int .u64 q', .slice A' n' c'] 110)
    have HV := Lib.hid (show Below w.heap.size w ((W.alloc (.cells #[.int .i64 st, .int .i64 why, .int .u64 q, .slice A n c] 110)).alloc (.cells #[.int .i64 st', .int .i64 why', .int .u64 q', .slice A' n' c'] 110)).drew from ((HB.out.trans (q1.mono HB.out.size)).trans (q2.mono (Nat.le_trans HB.out.size q1.size))).drew)
    have z1 : Blk ((W.alloc (.cells #[.int .i64 st, .int .i64 why, .int .u64 q, .slice A n c] 110)).alloc (.cells #[.int .i64 st', .int .i64 why', .int .u64 q', .slice A' n' c'] 110)).drew W.heap.size 110 #[.int .i64 st, .int .i64 why, .int .u64 q, .slice A n c] := (Blk.new W _ _).of_eq (q2.block _ (by simp))
    have z2 : Blk ((W.alloc (.cells #[.int .i64 st, .int .i64 why, .int .u64 q, .slice A n c] 110)).alloc (.cells #[.int .i64 st', .int .i64 why', .int .u64 q', .slice A' n' c'] 110)).drew (W.heap.size + 1) 110 #[.int .i64 st', .int .i64 why', .int .u64 q', .slice A' n' c'] := by
      have := Blk.new (W.alloc (.cells #[.int .i64 st, .int .i64 why, .int .u64 q, .slice A n c] 110)) 110 #[.int .i64 st', .int .i64 why', .int .u64 q', .slice A' n' c']
      rw [size_alloc] at this
      exact this
    change Exit.then _ _ _ _ ((W.alloc (.cells #[.int .i64 st, .int .i64 why, .int .u64 q, .slice A n c] 110)).alloc (.cells #[.int .i64 st', .int .i64 why', .int .u64 q', .slice A' n' c'] 110)).drew
    generalize ((W.alloc (.cells #[.int .i64 st, .int .i64 why, .int .u64 q, .slice A n c] 110)).alloc (.cells #[.int .i64 st', .int .i64 why', .int .u64 q', .slice A' n' c'] 110)).drew = V at *
    obtain ⟨e0, _, e2, _⟩ := z1.c4
    obtain ⟨f0, _, f2, _⟩ := z2.c4
    clear z1 z2 q1 q2
    obtain ⟨r1, r2⟩ := r
    by_cases h1 : st' = 2
    · subst h1
      by_cases h2 : st = 2
      · subst h2
        by_cases h3 : q < q'
        · have HE := Lib.hid (show (1 : Int) = r1 ∧ (0 : Int) = r2 by have := HR.out; rw [if_pos ⟨rfl, .inr h3⟩] at this; exact Prod.mk.inj this)
          clear HR
          obtain ⟨rfl, rfl⟩ := HE.out
          clear HE
          go_wp2_with fail
          go_returns
          exact ⟨rfl, HV.out⟩
        · have HE := Lib.hid (show (0 : Int) = r1 ∧ (0 : Int) = r2 by have := HR.out; rw [if_neg (fun h => by rcases h.2 with h | h; exact h rfl; exact h3 h), if_pos rfl] at this; exact Prod.mk.inj this)
          clear HR
          obtain ⟨rfl, rfl⟩ := HE.out
          clear HE
          go_wp2_with fail
          go_returns
          exact ⟨rfl, HV.out⟩
      · have hb2 : (st != 2) = true := by simpa using h2
        have HE := Lib.hid (show (1 : Int) = r1 ∧ (0 : Int) = r2 by have := HR.out; rw [if_pos ⟨rfl, .inl h2⟩] at this; exact Prod.mk.inj this)
        clear HR
        obtain ⟨rfl, rfl⟩ := HE.out
        clear HE
        go_wp2_with fail
        go_returns
        exact ⟨rfl, HV.out⟩
    · have hb1 : (st' == 2) = false := by simpa using h1
      by_cases h2 : st = 2
      · subst h2
        have HE := Lib.hid (show (0 : Int) = r1 ∧ (0 : Int) = r2 by have := HR.out; rw [if_neg (fun h => h1 h.1), if_pos rfl] at this; exact Prod.mk.inj this)
        clear HR
        obtain ⟨rfl, rfl⟩ := HE.out
        clear HE
        go_wp2_with fail
        go_returns
        exact ⟨rfl, HV.out⟩
      · have hb2 : (st == 2) = false := by simpa using h2
        by_cases h4 : st = 1
        · subst h4
          have HE := Lib.hid (show (0 : Int) = r1 ∧ (9 : Int) = r2 by have := HR.out; rw [if_neg (fun h => h1 h.1), if_neg h2, if_pos (.inl rfl)] at this; exact Prod.mk.inj this)
          clear HR
          obtain ⟨rfl, rfl⟩ := HE.out
          clear HE
          go_wp2_with fail
          go_returns
          exact ⟨rfl, HV.out⟩
        · have hb4 : (st == 1) = false := by simpa using h4
          by_cases h5 : st' = 1
          · subst h5
            have HE := Lib.hid (show (0 : Int) = r1 ∧ (9 : Int) = r2 by have := HR.out; rw [if_neg (fun h => h1 h.1), if_neg h2, if_pos (.inr rfl)] at this; exact Prod.mk.inj this)
            clear HR
            obtain ⟨rfl, rfl⟩ := HE.out
            clear HE
            go_wp2_with fail
            go_returns
            exact ⟨rfl, HV.out⟩
          · have hb5 : (st' == 1) = false := by simpa using h5
            have HE := Lib.hid (show (0 : Int) = r1 ∧ (10 : Int) = r2 by have := HR.out; rw [if_neg (fun h => h1 h.1), if_neg h2, if_neg (fun h => by rcases h with h | h; exact h4 h; exact h5 h)] at this; exact Prod.mk.inj this)
            clear HR
            obtain ⟨rfl, rfl⟩ := HE.out
            clear HE
            go_wp2_with fail
            go_returns
            exact ⟨rfl, HV.out⟩
  · have q1 := below_box W (.cells #[.int .i64 st', .int .i64 why', .int .u64 q', .slice A' n' c'] 110)
    have q2 := below_box (W.alloc (.cells #[.int .i64 st', .int .i64 why', .int .u64 q', .slice A' n' c'] 110)) (.cells #[.int .i64 st, .int .i64 why, .int .u64 q, .slice A n c] 110)
    have HV := Lib.hid (show Below w.heap.size w ((W.alloc (.cells #[.int .i64 st', .int .i64 why', .int .u64 q', .slice A' n' c'] 110)).alloc (.cells #[.int .i64 st, .int .i64 why, .int .u64 q, .slice A n c] 110)).drew from ((HB.out.trans (q1.mono HB.out.size)).trans (q2.mono (Nat.le_trans HB.out.size q1.size))).drew)
    have z1 : Blk ((W.alloc (.cells #[.int .i64 st', .int .i64 why', .int .u64 q', .slice A' n' c'] 110)).alloc (.cells #[.int .i64 st, .int .i64 why, .int .u64 q, .slice A n c] 110)).drew W.heap.size 110 #[.int .i64 st', .int .i64 why', .int .u64 q', .slice A' n' c'] := (Blk.new W _ _).of_eq (q2.block _ (by simp))
    have z2 : Blk ((W.alloc (.cells #[.int .i64 st', .int .i64 why', .int .u64 q', .slice A' n' c'] 110)).alloc (.cells #[.int .i64 st, .int .i64 why, .int .u64 q, .slice A n c] 110)).drew (W.heap.size + 1) 110 #[.int .i64 st, .int .i64 why, .int .u64 q, .slice A n c] := by
      have := Blk.new (W.alloc (.cells #[.int .i64 st', .int .i64 why', .int .u64 q', .slice A' n' c'] 110)) 110 #[.int .i64 st, .int .i64 why, .int .u64 q, .slice A n c]
      rw [size_alloc] at this
      exact this
    change Exit.then _ _ _ _ ((W.alloc (.cells #[.int .i64 st', .int .i64 why', .int .u64 q', .slice A' n' c'] 110)).alloc (.cells #[.int .i64 st, .int .i64 why, .int .u64 q, .slice A n c] 110)).drew
    generalize ((W.alloc (.cells #[.int .i64 st', .int .i64 why', .int .u64 q', .slice A' n' c'] 110)).alloc (.cells #[.int .i64 st, .int .i64 why, .int .u64 q, .slice A n c] 110)).drew = V at *
    obtain ⟨e0, _, e2, _⟩ := z1.c4
    obtain ⟨f0, _, f2, _⟩ := z2.c4
    clear z1 z2 q1 q2
    obtain ⟨r1, r2⟩ := r
    by_cases h1 : st' = 2
    · subst h1
      by_cases h2 : st = 2
      · subst h2
        by_cases h3 : q < q'
        · have HE := Lib.hid (show (1 : Int) = r1 ∧ (0 : Int) = r2 by have := HR.out; rw [if_pos ⟨rfl, .inr h3⟩] at this; exact Prod.mk.inj this)
          clear HR
          obtain ⟨rfl, rfl⟩ := HE.out
          clear HE
          go_wp2_with fail
          go_returns
          exact ⟨rfl, HV.out⟩
        · have HE := Lib.hid (show (0 : Int) = r1 ∧ (0 : Int) = r2 by have := HR.out; rw [if_neg (fun h => by rcases h.2 with h | h; exact h rfl; exact h3 h), if_pos rfl] at this; exact Prod.mk.inj this)
          clear HR
          obtain ⟨rfl, rfl⟩ := HE.out
          clear HE
          go_wp2_with fail
          go_returns
          exact ⟨rfl, HV.out⟩
      · have hb2 : (st != 2) = true := by simpa using h2
        have HE := Lib.hid (show (1 : Int) = r1 ∧ (0 : Int) = r2 by have := HR.out; rw [if_pos ⟨rfl, .inl h2⟩] at this; exact Prod.mk.inj this)
        clear HR
        obtain ⟨rfl, rfl⟩ := HE.out
        clear HE
        go_wp2_with fail
        go_returns
        exact ⟨rfl, HV.out⟩
    · have hb1 : (st' == 2) = false := by simpa using h1
      by_cases h2 : st = 2
      · subst h2
        have HE := Lib.hid (show (0 : Int) = r1 ∧ (0 : Int) = r2 by have := HR.out; rw [if_neg (fun h => h1 h.1), if_pos rfl] at this; exact Prod.mk.inj this)
        clear HR
        obtain ⟨rfl, rfl⟩ := HE.out
        clear HE
        go_wp2_with fail
        go_returns
        exact ⟨rfl, HV.out⟩
      · have hb2 : (st == 2) = false := by simpa using h2
        by_cases h4 : st = 1
        · subst h4
          have HE := Lib.hid (show (0 : Int) = r1 ∧ (9 : Int) = r2 by have := HR.out; rw [if_neg (fun h => h1 h.1), if_neg h2, if_pos (.inl rfl)] at this; exact Prod.mk.inj this)
          clear HR
          obtain ⟨rfl, rfl⟩ := HE.out
          clear HE
          go_wp2_with fail
          go_returns
          exact ⟨rfl, HV.out⟩
        · have hb4 : (st == 1) = false := by simpa using h4
          by_cases h5 : st' = 1
          · subst h5
            have HE := Lib.hid (show (0 : Int) = r1 ∧ (9 : Int) = r2 by have := HR.out; rw [if_neg (fun h => h1 h.1), if_neg h2, if_pos (.inr rfl)] at this; exact Prod.mk.inj this)
            clear HR
            obtain ⟨rfl, rfl⟩ := HE.out
            clear HE
            go_wp2_with fail
            go_returns
            exact ⟨rfl, HV.out⟩
          · have hb5 : (st' == 1) = false := by simpa using h5
            have HE := Lib.hid (show (0 : Int) = r1 ∧ (10 : Int) = r2 by have := HR.out; rw [if_neg (fun h => h1 h.1), if_neg h2, if_neg (fun h => by rcases h with h | h; exact h4 h; exact h5 h)] at this; exact Prod.mk.inj this)
            clear HR
            obtain ⟨rfl, rfl⟩ := HE.out
            clear HE
            go_wp2_with fail
            go_returns
            exact ⟨rfl, HV.out⟩
end Go.Proofs.YthlemcnbebfliaaGreatDoor
