/- Which tables may be. -/
import Derived.Test.YtadodccciejghaaRCheck
import Derived.Test.YtadodccciejghaaPairs
import Derived.RangeFuncBox
namespace Go.Proofs.Ytadodccciejghaa
open Go.RowKit Go.Shelf Go.Maps
attribute [local go_sem] Oper.semAt_some
set_option maxRecDepth 100000

/-- between two rounds -/
def ckI (w : World) (v u : Value) (pre : List (ByteArray × ByteArray)) (W : World) : Prop :=
  pre.length ≤ 200 ∧ (∀ p ∈ pre, nameB p.1 = true ∧ nameB p.2 = true) ∧ Blk W w.heap.size #[v, u] 24 ∧ Blk W (w.heap.size + 1) #[.int .i64 0] 27 ∧ Below w.heap.size w W
/-- where a round ends all -/
def ckX (w : World) (c : Code) (pre : List (ByteArray × ByteArray)) (W : World) : Prop :=
  c = .ret ∧ (∃ p ∈ pre, ¬ (nameB p.1 = true ∧ nameB p.2 = true)) ∧ Blk W (w.heap.size + 1) #[.int .i64 4] 27 ∧ Below w.heap.size w W
theorem ckI_kept {w W W' : World} {v u : Value} {pre : List (ByteArray × ByteArray)} {row : Option Nat} (h : ckI w v u pre W) (hg : W.grownBy W' row) (hr : ∀ r, row = some r → w.heap.size + 3 ≤ r) : ckI w v u pre W' := by
  obtain ⟨h0, h1, h2, h3, h4⟩ := h
  exact ⟨h0, h1, grown_keeps hg h2 (fun e => by have := hr _ e; omega), grown_keeps hg h3 (fun e => by have := hr _ e; omega), h4.grown hg h4.size (fun r e => by have := hr _ e; omega)⟩
theorem ckX_kept {w W W' : World} {c : Code} {pre : List (ByteArray × ByteArray)} {row : Option Nat} (h : ckX w c pre W) (hg : W.grownBy W' row) (hr : ∀ r, row = some r → w.heap.size + 3 ≤ r) : ckX w c pre W' := by
  obtain ⟨h1, h2, h3, h4⟩ := h
  exact ⟨h1, h2, grown_keeps hg h3 (fun e => by have := hr _ e; omega), h4.grown hg h4.size (fun r e => by have := hr _ e; omega)⟩
theorem zip_all {a b : List ByteArray} (hab : a.length = b.length) (h : ∀ p ∈ a.zip b, nameB p.1 = true ∧ nameB p.2 = true) : (∀ x ∈ a, nameB x = true) ∧ ∀ x ∈ b, nameB x = true := by
  constructor
  · intro x hx
    obtain ⟨i, hi⟩ := List.getElem?_of_mem hx
    obtain ⟨hil, _⟩ := List.getElem?_eq_some_iff.1 hi
    have hz : (a.zip b)[i]? = some (x, b[i]'(by omega)) := List.getElem?_zip_eq_some.2 ⟨hi, List.getElem?_eq_getElem (by omega)⟩
    exact (h _ (List.mem_of_getElem? hz)).1
  · intro x hx
    obtain ⟨i, hi⟩ := List.getElem?_of_mem hx
    obtain ⟨hil, _⟩ := List.getElem?_eq_some_iff.1 hi
    have hz : (a.zip b)[i]? = some (a[i]'(by omega), x) := List.getElem?_zip_eq_some.2 ⟨List.getElem?_eq_getElem (by omega), hi⟩
    exact (h _ (List.mem_of_getElem? hz)).2
theorem zip_no {a b : List ByteArray} {k : Nat} {p : ByteArray × ByteArray} (hp : p ∈ (a.zip b).take k) (h : ¬ (nameB p.1 = true ∧ nameB p.2 = true)) : ¬ ((∀ x ∈ a, nameB x = true) ∧ ∀ x ∈ b, nameB x = true) := fun hh => by
  have := List.of_mem_zip (List.mem_of_mem_take hp)
  exact h ⟨hh.1 _ this.1, hh.2 _ this.2⟩
theorem field_side (b : Nat) (z : Bool) (wx : World) : (Instr.field 101 (.agg #[.map (some b), .bool z]) 1).run Try.prog wx = .ok (.bool z) wx := by
  simp [Instr.field, run_underlying Try.underlying101, go_sem, Result.andThen, asAgg]
theorem results_cell_int (r : Int) (tmps : Array Value) (w : World) (g : Nat) (hp : tmps[2]?.getD undef = .pointer (some ⟨g, 0, none⟩)) (c1 : w.cell? ⟨g, 0, none⟩ = some (.int .i64 r)) : (results Try.f24 tmps).run Try.prog w = .ok (.int .i64 r) w := by
  simp [results, Try.results24, go_sem, hp, c1]

set_option maxHeartbeats 1000000 in
theorem chk_a (a b : List ByteArray) (v u : Value) (w : World) (hv : Lst stc w v a) (hu : Lst stc w u b) (h1 : (200 : Int) < (a.length : Int)) :
    Calls Try.prog 24 #[.agg #[v, u]] w fun e w' => e = .returned (.int .i64 8) ∧ Below w.heap.size w w' := by
  have HB := Lib.hid (((Below.refl w.heap.size w).alloc (Nat.le_refl _) (.cells #[v, u] 24)).alloc (by simp) (.cells #[.int .i64 8] 27))
  obtain ⟨x, y, rfl⟩ := hv.slice
  obtain ⟨x', y', rfl⟩ := hu.slice
  have g0 := (((Blk.new w #[.slice x a.length y, .slice x' b.length y'] 24)).alloc (.cells #[.int .i64 0] 27)).cell 0
  have g1 := (((Blk.new w #[.slice x a.length y, .slice x' b.length y'] 24)).alloc (.cells #[.int .i64 0] 27)).cell 1
  have f1 := (Blk.new (w.alloc (.cells #[.slice x a.length y, .slice x' b.length y'] 24)) #[.int .i64 0] 27).frozen 0
  have c1 := (Blk.new (w.alloc (.cells #[.slice x a.length y, .slice x' b.length y'] 24)) #[.int .i64 8] 27).cell 0
  rw [World.size_alloc] at f1 c1
  simp at g0 g1
  clear hv hu
  go_enter Try.func24, Try.ntmps24
  go_wp2
  refine bodyPost_ret (results_cell_int 8 _ _ (w.heap.size + 1) rfl (c1.trans rfl)) rfl ?_
  exact ⟨rfl, HB.out⟩

set_option maxHeartbeats 1000000 in
theorem chk_b (a b : List ByteArray) (v u : Value) (w : World) (hv : Lst stc w v a) (hu : Lst stc w u b) (h1 : ¬ (200 : Int) < (a.length : Int)) (h2 : (200 : Int) < (b.length : Int)) :
    Calls Try.prog 24 #[.agg #[v, u]] w fun e w' => e = .returned (.int .i64 8) ∧ Below w.heap.size w w' := by
  have HB := Lib.hid (((Below.refl w.heap.size w).alloc (Nat.le_refl _) (.cells #[v, u] 24)).alloc (by simp) (.cells #[.int .i64 8] 27))
  obtain ⟨x, y, rfl⟩ := hv.slice
  obtain ⟨x', y', rfl⟩ := hu.slice
  have g0 := (((Blk.new w #[.slice x a.length y, .slice x' b.length y'] 24)).alloc (.cells #[.int .i64 0] 27)).cell 0
  have g1 := (((Blk.new w #[.slice x a.length y, .slice x' b.length y'] 24)).alloc (.cells #[.int .i64 0] 27)).cell 1
  have f1 := (Blk.new (w.alloc (.cells #[.slice x a.length y, .slice x' b.length y'] 24)) #[.int .i64 0] 27).frozen 0
  have c1 := (Blk.new (w.alloc (.cells #[.slice x a.length y, .slice x' b.length y'] 24)) #[.int .i64 8] 27).cell 0
  rw [World.size_alloc] at f1 c1
  simp at g0 g1
  clear hv hu
  have h1' : decide ((200 : Int) < (a.length : Int)) = false := decide_eq_false h1
  go_enter Try.func24, Try.ntmps24
  go_wp2
  refine bodyPost_ret (results_cell_int 8 _ _ (w.heap.size + 1) rfl (c1.trans rfl)) rfl ?_
  exact ⟨rfl, HB.out⟩

set_option maxHeartbeats 1000000 in
theorem chk_c (a b : List ByteArray) (v u : Value) (w : World) (hv : Lst stc w v a) (hu : Lst stc w u b) (h1 : ¬ (200 : Int) < (a.length : Int)) (h2 : ¬ (200 : Int) < (b.length : Int)) (h3 : a.length ≠ b.length) :
    Calls Try.prog 24 #[.agg #[v, u]] w fun e w' => e = .returned (.int .i64 1) ∧ Below w.heap.size w w' := by
  have HB := Lib.hid (((Below.refl w.heap.size w).alloc (Nat.le_refl _) (.cells #[v, u] 24)).alloc (by simp) (.cells #[.int .i64 1] 27))
  obtain ⟨x, y, rfl⟩ := hv.slice
  obtain ⟨x', y', rfl⟩ := hu.slice
  have g0 := (((Blk.new w #[.slice x a.length y, .slice x' b.length y'] 24)).alloc (.cells #[.int .i64 0] 27)).cell 0
  have g1 := (((Blk.new w #[.slice x a.length y, .slice x' b.length y'] 24)).alloc (.cells #[.int .i64 0] 27)).cell 1
  have f1 := (Blk.new (w.alloc (.cells #[.slice x a.length y, .slice x' b.length y'] 24)) #[.int .i64 0] 27).frozen 0
  have c1 := (Blk.new (w.alloc (.cells #[.slice x a.length y, .slice x' b.length y'] 24)) #[.int .i64 1] 27).cell 0
  rw [World.size_alloc] at f1 c1
  simp at g0 g1
  clear hv hu
  have h1' : decide ((200 : Int) < (a.length : Int)) = false := decide_eq_false h1
  have h2' : decide ((200 : Int) < (b.length : Int)) = false := decide_eq_false h2
  have hne : ((a.length : Int) != (b.length : Int)) = true := by rw [bne_iff_ne]; omega
  clear h3
  go_enter Try.func24, Try.ntmps24
  go_wp2
  refine bodyPost_ret (results_cell_int 1 _ _ (w.heap.size + 1) rfl (c1.trans rfl)) rfl ?_
  exact ⟨rfl, HB.out⟩

def NamesAll (a b : List ByteArray) : Prop := (∀ x ∈ a, nameB x = true) ∧ ∀ x ∈ b, nameB x = true
theorem ckf_bad {a b : List ByteArray} (hl : a.length ≤ 200) (hab : a.length = b.length) (hn : ¬ NamesAll a b) : checkF a b = 4 := by
  unfold NamesAll at hn; unfold checkF; rw [if_neg (by omega), if_neg (by simpa using hab), if_pos hn]
theorem ckf_ta {a b : List ByteArray} (hl : a.length ≤ 200) (hab : a.length = b.length) (hn : NamesAll a b) (ht : twB a a.length = true) : checkF a b = 5 := by
  unfold NamesAll at hn; unfold checkF; rw [if_neg (by omega), if_neg (by simpa using hab), if_neg (fun h => h hn), if_pos (fun h => by rw [(tw_once a).2 h.1] at ht; cases ht)]
theorem ckf_tb {a b : List ByteArray} (hl : a.length ≤ 200) (hab : a.length = b.length) (hn : NamesAll a b) (ht : twB b b.length = true) : checkF a b = 5 := by
  unfold NamesAll at hn; unfold checkF; rw [if_neg (by omega), if_neg (by simpa using hab), if_neg (fun h => h hn), if_pos (fun h => by rw [(tw_once b).2 h.2] at ht; cases ht)]
theorem ckf_ok {a b : List ByteArray} (hl : a.length ≤ 200) (hab : a.length = b.length) (hn : NamesAll a b) (ha : twB a a.length = false) (hb : twB b b.length = false) : checkF a b = 0 := by
  unfold NamesAll at hn; unfold checkF; rw [if_neg (by omega), if_neg (by simpa using hab), if_neg (fun h => h hn), if_neg (fun h => h ⟨(tw_once a).1 ha, (tw_once b).1 hb⟩)]

set_option maxHeartbeats 20000000 in
theorem chk_d (a b : List ByteArray) (v u : Value) (w : World) (hv : Lst stc w v a) (hu : Lst stc w u b) (hl : a.length ≤ 200) (hab : a.length = b.length) (hz : ∀ x ∈ a, x.size ≤ maxLen) (hz' : ∀ x ∈ b, x.size ≤ maxLen) :
    Calls Try.prog 24 #[.agg #[v, u]] w fun e w' => e = .returned (.int .i64 (checkF a b)) ∧ Below w.heap.size w w' := by
  have HZ := Lib.hid hz
  have HZ' := Lib.hid hz'
  have HAB := Lib.hid hab
  have HL := Lib.hid hl
  have HV := Lib.hid hv
  have HU := Lib.hid hu
  obtain ⟨va, vc, rfl⟩ := hv.slice
  obtain ⟨ua, uc, rfl⟩ := hu.slice
  have h1' : decide ((200 : Int) < (a.length : Int)) = false := decide_eq_false (by omega)
  have h2' : decide ((200 : Int) < (b.length : Int)) = false := decide_eq_false (by omega)
  have hne : ((a.length : Int) != (b.length : Int)) = false := by rw [bne_eq_false_iff_eq]; omega
  clear hz hz' hab hl hv hu
  have k0 := (Blk.new w #[.slice va a.length vc, .slice ua b.length uc] 24).alloc (.cells #[.int .i64 0] 27)
  have g0 := k0.cell 0
  have g1 := k0.cell 1
  have k1 := Blk.new (w.alloc (.cells #[.slice va a.length vc, .slice ua b.length uc] 24)) #[.int .i64 0] 27
  rw [World.size_alloc] at k1
  simp at g0 g1
  have hB0 : Below w.heap.size w ((w.alloc (.cells #[.slice va a.length vc, .slice ua b.length uc] 24)).alloc (.cells #[.int .i64 0] 27)) :=
    ((Below.refl _ w).alloc (Nat.le_refl _) _).alloc (by simp) _
  have hsz0 : ((w.alloc (.cells #[.slice va a.length vc, .slice ua b.length uc] 24)).alloc (.cells #[.int .i64 0] 27)).heap.size = w.heap.size + 2 := by simp
  have K0 := Lib.hid k0
  have K1 := Lib.hid k1
  have HB0 := Lib.hid hB0
  have HSZ0 := Lib.hid hsz0
  clear k0 k1 hB0 hsz0
  refine (callsIn_wide (n := 5)).1 ?_
  refine callsIn_of_wp_marks Try.func24 rfl trivial ?_ rfl
  simp only [Try.ntmps24, List.size_toArray, List.length_cons, List.length_nil, Nat.reduceAdd, Nat.reduceSub, Array.replicate_succ, Array.replicate_zero, List.push_toArray, List.append_toArray, List.nil_append, List.cons_append]
  gi_wp2
  generalize (w.alloc (.cells #[.slice va a.length vc, .slice ua b.length uc] 24)).alloc (.cells #[.int .i64 0] 27) = W0 at *
  gi_wp2_with fail
  refine ⟨trivial, (callsIn_wide.2 (mkpairs (.slice va a.length vc) (.slice ua b.length uc) W0)).mono ?_⟩
  rintro e w' ⟨rfl, rfl⟩
  rw [HSZ0.out]
  have bN := Blk.new W0 #[.slice va a.length vc, .slice ua b.length uc] 24
  rw [HSZ0.out] at bN
  have hs1 : (W0.alloc (.cells #[.slice va a.length vc, .slice ua b.length uc] 24)).heap.size = w.heap.size + 3 := by simp [HSZ0.out]
  have hB1 := HB0.out.alloc HB0.out.size (.cells #[.slice va a.length vc, .slice ua b.length uc] 24)
  have i0 : ckI w (.slice va a.length vc) (.slice ua b.length uc) [] (W0.alloc (.cells #[.slice va a.length vc, .slice ua b.length uc] 24)) := ⟨by simp, (fun p h => by cases h), K0.out.alloc _, K1.out.alloc _, hB1⟩
  generalize W0.alloc (.cells #[.slice va a.length vc, .slice ua b.length uc] 24) = W1 at *
  have I0 := Lib.hid i0
  clear i0 K0 K1 HB0 HSZ0
  gi_wp2_with fail
  refine range_over (α := ByteArray × ByteArray) (gf := 95) (lb := #[.pointer (some ⟨w.heap.size + 2, 0, none⟩)]) (N := 201) (encs := strsOf) (R := fun _ => False) (Kp := KeptB w.heap.size (w.heap.size + 2)) rfl (by omega) rfl trivial (enters_of Try.func95 (by kernel_rfl) rfl)
    (pairs_iter (w.heap.size + 2) 201 a b _ _ w W1 (by have := HL.out; omega) HAB.out HV.out HU.out hB1 bN) (fun r h => h.elim) (fun h k => h.trans k) (fun W l o hlw => ⟨by simp, fun k hk => World.putObj_heap_other (by omega), World.putObj_heap_other (by omega)⟩) (fun _ => rfl)
    (ckI w (.slice va a.length vc) (.slice ua b.length uc)) (ckX w) (fun pre W W' row h hg hr => ckI_kept h hg (fun r e => by have := (hr r e).1; omega)) (fun pre W1 h => by have := h.1; omega) (fun pre A B row h hg hr => ckI_kept h hg (fun r e => (hr r e).elim))
    (fun cd pre W W' row h hg hr => ckX_kept h hg (fun r e => by have := (hr r e).1; omega)) I0.out ?a1 ?assign ?body ?done ?stop
  case assign =>
    intro l x W K hK
    unfold strsOf
    gi_wp2
    exact hK
  case body =>
    rintro l pre ⟨x1, x2⟩ W hsW ⟨h0, h1, h2, h3, h4⟩ hlt ⟨k, hpf⟩
    have HH1 := Lib.hid h1
    have HH2 := Lib.hid h2
    have HH3 := Lib.hid h3
    have HH4 := Lib.hid h4
    have hlen : (pre ++ [(x1, x2)]).length ≤ 200 := by
      rw [hpf, List.length_take, List.length_zip]
      have := HL.out
      omega
    have HLEN := Lib.hid hlen
    have f3 := h3.frozen 0
    have c3 := h3.cell 0
    simp at c3
    have K3 := Lib.hid (h3.set 0 (.int .i64 4))
    have B3 := Lib.hid (h4.setCell (p := ⟨w.heap.size + 1, 0, none⟩) (by simp) (.int .i64 4))
    have KF := Lib.hid (KeepsFrom.of_grownBy (B := W1.heap.size) (grownBy_setCell' W (w.heap.size + 1) (.int .i64 4)) (fun j e => by cases e; omega))
    clear h1 h2 h3 h4 hpf hlen h0
    simp only []
    clear g0 g1 hB1 bN hs1
    cases hq1 : nameB x1
    · have HQ1 := Lib.hid hq1
      clear hq1
      gi_wp2_with fail
      refine ⟨trivial, (callsIn_wide.2 (name_any x1 _)).mono ?_⟩
      rw [HQ1.out]
      rintro e w' ⟨rfl, rfl⟩
      gi_wp2
      refine ⟨trivial, ?_⟩
      gi_wp2
      exact ⟨KF.out, rfl, ⟨(x1, x2), by simp, fun h => by rw [HQ1.out] at h; cases h.1⟩, K3.out, B3.out⟩
    · have HQ1 := Lib.hid hq1
      clear hq1
      cases hq2 : nameB x2
      · have HQ2 := Lib.hid hq2
        clear hq2
        gi_wp2_with fail
        refine ⟨trivial, (callsIn_wide.2 (name_any x1 _)).mono ?_⟩
        rw [HQ1.out]
        rintro e w' ⟨rfl, rfl⟩
        gi_wp2_with fail
        refine ⟨trivial, (callsIn_wide.2 (name_any x2 _)).mono ?_⟩
        rw [HQ2.out]
        rintro e w' ⟨rfl, rfl⟩
        gi_wp2
        exact ⟨KF.out, rfl, ⟨(x1, x2), by simp, fun h => by rw [HQ2.out] at h; cases h.2⟩, K3.out, B3.out⟩
      · have HQ2 := Lib.hid hq2
        clear hq2
        gi_wp2_with fail
        refine ⟨trivial, (callsIn_wide.2 (name_any x1 _)).mono ?_⟩
        rw [HQ1.out]
        rintro e w' ⟨rfl, rfl⟩
        gi_wp2_with fail
        refine ⟨trivial, (callsIn_wide.2 (name_any x2 _)).mono ?_⟩
        rw [HQ2.out]
        rintro e w' ⟨rfl, rfl⟩
        gi_wp2
        refine ⟨KeepsFrom.refl _ _, KeptB.refl _ _ _, HLEN.out, ?_, HH2.out, HH3.out, HH4.out⟩
        intro p hp
        rcases List.mem_append.1 hp with hp | hp
        · exact HH1.out p hp
        · rw [List.mem_singleton.1 hp]
          exact ⟨HQ1.out, HQ2.out⟩
  case stop =>
    rintro D cd pre W hD ⟨k, hk⟩ ⟨rfl, ⟨p, hp, hnp⟩, h3, h4⟩ hK
    subst hk
    have HQ := Lib.hid (ckf_bad HL.out HAB.out (zip_no hp hnp))
    have hK2 := hK
    have hDn : D ≠ w.heap.size + 1 := by omega
    have h3' : Blk (W.putObj D (.deferred none)) (w.heap.size + 1) #[.int .i64 4] 27 := (World.putObj_heap_other (Ne.symm hDn)).trans h3
    have c3 := h3'.cell 0
    simp at c3
    have HB := Lib.hid (h4.trans (belowK_b (w := w) (Nat.le_refl _) W D _ (.deferred none) (by omega) hK rfl rfl))
    clear h3 h4 h3' hp hnp
    gi_wp2
    refine ⟨by simp, .inl ⟨_, _, rfl, run_takeDeferred hK2, ?_⟩⟩
    refine ⟨.int .i64 4, ?_, by rw [HQ.out], HB.out⟩
    simp [results, Try.results24, go_sem, c3]
  case done =>
    rintro D ys W hD rfl ⟨h0, h1, h2, h3, h4⟩ hK
    have HN := Lib.hid (zip_all HAB.out h1)
    have HA := Lib.hid h4
    have hDn : D ≠ w.heap.size + 1 := by omega
    have hDW : w.heap.size + 3 ≤ W.heap.size := by have := (Array.getElem?_eq_some_iff.1 hK).1; omega
    have V2 := Lib.hid (HV.out.below h4)
    have U2 := Lib.hid (HU.out.below h4)
    have c0 := h2.cell 0
    have c1 := h2.cell 1
    simp at c0 c1
    have HK2 := Lib.hid h2
    have HK3 := Lib.hid h3
    have HKD := Lib.hid hK
    have f3 := h3.frozen 0
    clear h0 h1 h2 h3 h4 hK
    have hal : a.length ≤ 100000 := by have := HL.out; omega
    have hbl : b.length ≤ 100000 := by have := HL.out; have := HAB.out; omega
    have HTA := Lib.hid (ckf_ta HL.out HAB.out HN.out)
    have HTB := Lib.hid (ckf_tb HL.out HAB.out HN.out)
    have HTC := Lib.hid (ckf_ok HL.out HAB.out HN.out)
    cases hta : twB a a.length
    · have TA := Lib.hid hta
      clear hta
      cases htb : twB b b.length
      · have TB := Lib.hid htb
        clear htb
        have hq : checkF a b = 0 := HTC.out TA.out TB.out
        have HQ := Lib.hid hq
        clear HTA HTB HTC hq
        gi_wp2_with fail
        refine ⟨trivial, (callsIn_wide.2 (side_any a _ _ hal HZ.out V2.out)).mono ?_⟩
        rintro e w1 ⟨b1, rfl, _, _, _, d1⟩
        rw [TA.out]
        have hfa := fun wx z => field_side b1 z wx
        have D1 := Lib.hid d1
        have HK4 := Lib.hid (HK2.out.below d1 (by omega))
        have HK5 := Lib.hid (HK3.out.below d1 (by omega))
        have HKD1 := Lib.hid ((d1.block D (Array.getElem?_eq_some_iff.1 HKD.out).1).trans HKD.out)
        have U3 := Lib.hid (U2.out.below d1)
        have HA1 := Lib.hid (HA.out.trans (d1.mono HA.out.size))
        have hD1 : w.heap.size + 3 ≤ w1.heap.size := Nat.le_trans hDW d1.size
        clear d1
        have g0 := HK4.out.cell 0
        have g1 := HK4.out.cell 1
        have f5 := HK5.out.frozen 0
        have c5 := HK5.out.cell 0
        simp at g0 g1 c5
        gi_wp2_with fail
        refine ⟨trivial, (callsIn_wide.2 (side_any b _ _ hbl HZ'.out U3.out)).mono ?_⟩
        rintro e w2 ⟨b2, rfl, _, _, _, d2⟩
        rw [TB.out]
        have hfb := fun wx z => field_side b2 z wx
        have HK6 := Lib.hid (HK5.out.below d2 (by omega))
        have HKD2 := Lib.hid ((d2.block D (Array.getElem?_eq_some_iff.1 HKD1.out).1).trans HKD1.out)
        have HA2 := Lib.hid (HA1.out.trans (d2.mono HA1.out.size))
        clear d2
        have f6 := HK6.out.frozen 0
        have c6 := HK6.out.cell 0
        simp at c6
        have k8 := HK6.out.set 0 (.int .i64 0)
        have hk8 : (World.setCell w2 ⟨w.heap.size + 1, 0, none⟩ (.int .i64 0)).heap[D]? = some (.deferred (some [])) := (RowKit.Below.heap_setCell _ _ _ _ hDn).trans HKD2.out
        have hb8 := HA2.out.setCell (p := ⟨w.heap.size + 1, 0, none⟩) (by simp) (.int .i64 0)
        have HB := Lib.hid (hb8.trans (belowK_b (w := w) (Nat.le_refl _) _ D _ (.deferred none) (by omega) hk8 rfl rfl))
        have h9 : Blk ((World.setCell w2 ⟨w.heap.size + 1, 0, none⟩ (.int .i64 0)).putObj D (.deferred none)) (w.heap.size + 1) #[.int .i64 0] 27 := (World.putObj_heap_other (Ne.symm hDn)).trans k8
        have c9 := h9.cell 0
        simp at c9
        have HK8 := Lib.hid hk8
        clear k8 hb8 h9 hk8
        gi_wp2
        refine ⟨by simp, .inl ⟨_, _, rfl, run_takeDeferred HK8.out, ?_⟩⟩
        refine ⟨.int .i64 0, ?_, by rw [HQ.out], HB.out⟩
        simp [results, Try.results24, go_sem, c9]
      · have TB := Lib.hid htb
        clear htb
        have hq : checkF a b = 5 := HTB.out TB.out
        have HQ := Lib.hid hq
        clear HTA HTB HTC hq
        gi_wp2_with fail
        refine ⟨trivial, (callsIn_wide.2 (side_any a _ _ hal HZ.out V2.out)).mono ?_⟩
        rintro e w1 ⟨b1, rfl, _, _, _, d1⟩
        rw [TA.out]
        have hfa := fun wx z => field_side b1 z wx
        have D1 := Lib.hid d1
        have HK4 := Lib.hid (HK2.out.below d1 (by omega))
        have HK5 := Lib.hid (HK3.out.below d1 (by omega))
        have HKD1 := Lib.hid ((d1.block D (Array.getElem?_eq_some_iff.1 HKD.out).1).trans HKD.out)
        have U3 := Lib.hid (U2.out.below d1)
        have HA1 := Lib.hid (HA.out.trans (d1.mono HA.out.size))
        have hD1 : w.heap.size + 3 ≤ w1.heap.size := Nat.le_trans hDW d1.size
        clear d1
        have g0 := HK4.out.cell 0
        have g1 := HK4.out.cell 1
        have f5 := HK5.out.frozen 0
        have c5 := HK5.out.cell 0
        simp at g0 g1 c5
        gi_wp2_with fail
        refine ⟨trivial, (callsIn_wide.2 (side_any b _ _ hbl HZ'.out U3.out)).mono ?_⟩
        rintro e w2 ⟨b2, rfl, _, _, _, d2⟩
        rw [TB.out]
        have hfb := fun wx z => field_side b2 z wx
        have HK6 := Lib.hid (HK5.out.below d2 (by omega))
        have HKD2 := Lib.hid ((d2.block D (Array.getElem?_eq_some_iff.1 HKD1.out).1).trans HKD1.out)
        have HA2 := Lib.hid (HA1.out.trans (d2.mono HA1.out.size))
        clear d2
        have f6 := HK6.out.frozen 0
        have c6 := HK6.out.cell 0
        simp at c6
        have k8 := HK6.out.set 0 (.int .i64 5)
        have hk8 : (World.setCell w2 ⟨w.heap.size + 1, 0, none⟩ (.int .i64 5)).heap[D]? = some (.deferred (some [])) := (RowKit.Below.heap_setCell _ _ _ _ hDn).trans HKD2.out
        have hb8 := HA2.out.setCell (p := ⟨w.heap.size + 1, 0, none⟩) (by simp) (.int .i64 5)
        have HB := Lib.hid (hb8.trans (belowK_b (w := w) (Nat.le_refl _) _ D _ (.deferred none) (by omega) hk8 rfl rfl))
        have h9 : Blk ((World.setCell w2 ⟨w.heap.size + 1, 0, none⟩ (.int .i64 5)).putObj D (.deferred none)) (w.heap.size + 1) #[.int .i64 5] 27 := (World.putObj_heap_other (Ne.symm hDn)).trans k8
        have c9 := h9.cell 0
        simp at c9
        have HK8 := Lib.hid hk8
        clear k8 hb8 h9 hk8
        gi_wp2
        refine ⟨by simp, .inl ⟨_, _, rfl, run_takeDeferred HK8.out, ?_⟩⟩
        refine ⟨.int .i64 5, ?_, by rw [HQ.out], HB.out⟩
        simp [results, Try.results24, go_sem, c9]
    · have TA := Lib.hid hta
      clear hta
      have hq : checkF a b = 5 := HTA.out TA.out
      have HQ := Lib.hid hq
      clear HTA HTB HTC hq
      gi_wp2_with fail
      refine ⟨trivial, (callsIn_wide.2 (side_any a _ _ hal HZ.out V2.out)).mono ?_⟩
      rintro e w1 ⟨b1, rfl, _, _, _, d1⟩
      rw [TA.out]
      have hfa := fun wx z => field_side b1 z wx
      have D1 := Lib.hid d1
      have HK4 := Lib.hid (HK2.out.below d1 (by omega))
      have HK5 := Lib.hid (HK3.out.below d1 (by omega))
      have HKD1 := Lib.hid ((d1.block D (Array.getElem?_eq_some_iff.1 HKD.out).1).trans HKD.out)
      have U3 := Lib.hid (U2.out.below d1)
      have HA1 := Lib.hid (HA.out.trans (d1.mono HA.out.size))
      have hD1 : w.heap.size + 3 ≤ w1.heap.size := Nat.le_trans hDW d1.size
      clear d1
      have g0 := HK4.out.cell 0
      have g1 := HK4.out.cell 1
      have f5 := HK5.out.frozen 0
      have c5 := HK5.out.cell 0
      simp at g0 g1 c5
      have k8 := HK5.out.set 0 (.int .i64 5)
      have hk8 : (World.setCell w1 ⟨w.heap.size + 1, 0, none⟩ (.int .i64 5)).heap[D]? = some (.deferred (some [])) := (RowKit.Below.heap_setCell _ _ _ _ hDn).trans HKD1.out
      have hb8 := HA1.out.setCell (p := ⟨w.heap.size + 1, 0, none⟩) (by simp) (.int .i64 5)
      have HB := Lib.hid (hb8.trans (belowK_b (w := w) (Nat.le_refl _) _ D _ (.deferred none) (by omega) hk8 rfl rfl))
      have h9 : Blk ((World.setCell w1 ⟨w.heap.size + 1, 0, none⟩ (.int .i64 5)).putObj D (.deferred none)) (w.heap.size + 1) #[.int .i64 5] 27 := (World.putObj_heap_other (Ne.symm hDn)).trans k8
      have c9 := h9.cell 0
      simp at c9
      have HK8 := Lib.hid hk8
      clear k8 hb8 h9 hk8
      gi_wp2
      refine ⟨trivial, ?_⟩
      gi_wp2
      refine ⟨by simp, .inl ⟨_, _, rfl, run_takeDeferred HK8.out, ?_⟩⟩
      refine ⟨.int .i64 5, ?_, by rw [HQ.out], HB.out⟩
      simp [results, Try.results24, go_sem, c9]

theorem tcheck_any (a b : List ByteArray) (v u : Value) (w : World) (hv : Lst stc w v a) (hu : Lst stc w u b) (hz : ∀ x ∈ a, x.size ≤ maxLen) (hz' : ∀ x ∈ b, x.size ≤ maxLen) :
    Calls Try.prog 24 #[.agg #[v, u]] w fun e w' => e = .returned (.int .i64 (checkF a b)) ∧ Below w.heap.size w w' := by
  by_cases h1 : (200 : Int) < (a.length : Int)
  · rw [show checkF a b = 8 from by unfold checkF; rw [if_pos (.inl (by omega))]]
    exact chk_a a b v u w hv hu h1
  by_cases h2 : (200 : Int) < (b.length : Int)
  · rw [show checkF a b = 8 from by unfold checkF; rw [if_pos (.inr (by omega))]]
    exact chk_b a b v u w hv hu h1 h2
  by_cases h3 : a.length = b.length
  · exact chk_d a b v u w hv hu (by omega) h3 hz hz'
  · rw [show checkF a b = 1 from by unfold checkF; rw [if_neg (by omega), if_pos h3]]
    exact chk_c a b v u w hv hu h1 h2 h3
end Go.Proofs.Ytadodccciejghaa
