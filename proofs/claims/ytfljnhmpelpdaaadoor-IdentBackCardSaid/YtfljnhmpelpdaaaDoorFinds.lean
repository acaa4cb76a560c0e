/- Of, and Find, as the program and as the document have it. -/
import Derived.Test.YtfljnhmpelpdaaaDoorTiOf
import Derived.Deep.RegionHeld3
import Derived.Deep.AppendLies
import Derived.StillTactics
import Derived.OwnWalk
import Derived.Laws.Pointers
import Derived.BigQuiet
namespace Go.Proofs.YtfljnhmpelpdaaaDoor
open Go.RowKit
set_option maxRecDepth 100000

theorem info31 : (Tryd.prog.info? 31).map (fun i => (i.zero, i.size, i.bytes)) = some (some (.agg #[.int .i64 0, .string ⟨#[]⟩, .int .i64 0]), 3, 32) := by kernel_rfl
set_option maxHeartbeats 1000000 in
theorem of_any (l : List Ti) (v : Value) (w : World) (hl : l.length ≤ 100000) (ht : Lst tic w v l) :
    Calls Tryd.prog 23 #[v] w fun e w' => ∃ v', e = .returned v' ∧ w'.ownsRow w.heap.size 31 3 v' l.length (l.flatMap tic) ∧ Below w.heap.size w w' := by
  obtain ⟨i0, hi, hz0, hz1, hz2⟩ := info_parts info31
  have HT := Lib.hid ht
  obtain ⟨b, c, rfl⟩ := ht.slice
  clear ht
  go_enter Tryd.func23, Tryd.ntmps23
  go_wp2
  go_loopw [3, 4] (fun r i wr => ∃ k : Nat, k ≤ l.length ∧ i = .int .i64 (k : Int) ∧ wr.ownsRow w.heap.size 31 3 r k ((l.take k).flatMap tic) ∧ Below w.heap.size w wr) (fun _ i _ => l.length - (intOf i).toNat)
  case atStart => exact ⟨0, by omega, rfl, World.ownsRow_nil _ _ _ _, Below.refl _ _⟩
  case round =>
    obtain ⟨k, hk, rfl, hrow, hB⟩ := hrel
    by_cases hlt : k < l.length
    · have hlt' : (k : Int) < (l.length : Int) := by omega
      obtain ⟨g, o, c', x, hx, hv, hg, hc⟩ := HT.out.at_ tic_len hlt
      injection hv with hb _ hcc
      subst hb hcc
      have c0 := (hB.cell (p := ⟨g, o + k * 3 + 0, none⟩) hg).trans (hc 0 (by omega))
      have c1 := (hB.cell (p := ⟨g, o + k * 3 + 1, none⟩) hg).trans (hc 1 (by omega))
      have c2 := (hB.cell (p := ⟨g, o + k * 3 + 2, none⟩) hg).trans (hc 2 (by omega))
      simp [tic] at c0 c1 c2
      have HTK := Lib.hid (flat_take (ec := tic) l k x hx)
      have HR := Lib.hid hrow
      have HB := Lib.hid hB
      have hBs := hB.size
      clear hc hx hrow hB
      have hg2 : u3.ownBlock ≠ some g := fun e => by
        have := (HR.out.lt g e).1
        omega
      go_wp2_with fail
      go_region_held3 (fun w' => w'.cell? ⟨g, o + k * 3, none⟩ = some (.int .i64 x.k) ∧ w'.cell? ⟨g, o + k * 3 + 1, none⟩ = some (.string x.t) ∧ w'.cell? ⟨g, o + k * 3 + 2, none⟩ = some (.int .i64 x.p))
        (first | go_keep | (go_split_ands; refine ⟨?_, ?_, ?_⟩ <;> (rw [hgrow.cell_far _ (by simp; omega) (Ne.symm hg2)]; assumption)))
        ((refine step_append_lies _ (by rfl) _ _ _ (by rfl) w.heap.size 31 i0 _ 3 32 Tryd.underlying46 hi hz0 hz1 hz2 rfl (by omega) u3 k _ (by rfl) ((HR.out.alloc _).drew) ⟨wr.heap.size, 0, none⟩ 1 1 [.int .i64 x.k, .string x.t, .int .i64 x.p] (by rfl) (by rfl) (World.news_of_block (cs := #[.int .i64 x.k, .string x.t, .int .i64 x.p]) (t := 31) (fr := (0, 0)) (heap_alloc_new wr _)) (fun x hx => by simp at hx; rcases hx with rfl | rfl | rfl <;> rfl) (by omega) (by unfold maxLen; omega) (by omega) (by simp; omega) (wr.heap.size + 1) (by simp) ?_; intro gg cap w1 hown1 hgrow hat hlt2)) 
      have HO := Lib.hid hown1
      have HG := Lib.hid (Below.grown ((HB.out.alloc hBs (.cells #[.int .i64 x.k, .string x.t, .int .i64 x.p] 31)).drew) hgrow (by simp; omega) (fun j hj => (HR.out.lt j hj).1))
      clear hown1 hgrow
      go_wp2
      refine ⟨⟨k + 1, by omega, by go_num, ?_, HG.out⟩, ?_⟩
      · rw [HTK.out]
        exact HO.out
      · simp [intOf]; omega
    · have hge : (l.length : Int) ≤ (k : Int) := by omega
      have hkl : k = l.length := by omega
      subst hkl
      have HR := Lib.hid hrow
      have HB := Lib.hid hB
      clear hrow hB
      go_wp2
      go_ret
      refine ⟨_, rfl, ?_, HB.out⟩
      have := HR.out
      rw [List.take_length] at this
      exact this

/-- the place of the first token whose word is the name; else 0 -/
def findL (f : Int) (s : ByteArray) : List Ti → Int
  | [] => 0
  | x :: l => if ((wordF f x).2 == 0 && ((wordF f x).1.toList == s.toList)) = true then x.p else findL f s l
theorem find_drop (f : Int) (s : ByteArray) (l : List Ti) (k : Nat) (x : Ti) (h : l[k]? = some x) : findL f s (l.drop k) = if ((wordF f x).2 == 0 && ((wordF f x).1.toList == s.toList)) = true then x.p else findL f s (l.drop (k + 1)) := by
  obtain ⟨h1, rfl⟩ := List.getElem?_eq_some_iff.1 h
  rw [List.drop_eq_getElem_cons h1]
  rfl

set_option maxHeartbeats 1000000 in
theorem rfind_any (f : Int) (l : List Ti) (v : Value) (s : ByteArray) (w : World) (hl : l.length ≤ 100000) (ht : Lst tic w v l) (hz : ∀ x ∈ l, x.t.size ≤ 100000) :
    Calls Tryd.prog 22 #[.int .i64 f, v, .string s] w fun e w' => e = .returned (.int .i64 (findL f s l)) ∧ Below w.heap.size w w' := by
  have HT := Lib.hid ht
  obtain ⟨b, c, rfl⟩ := ht.slice
  clear ht
  obtain ⟨q, hq⟩ : ∃ q, findL f s l = q := ⟨_, rfl⟩
  rw [hq]
  have HQ := Lib.hid hq
  have HZ := Lib.hid hz
  clear hq hz
  go_enter Tryd.func22, Tryd.ntmps22
  go_wp2
  go_loopw [7] (fun i wr => ∃ k : Nat, k ≤ l.length ∧ i = .int .i64 (k : Int) ∧ Below w.heap.size w wr ∧ Hid (findL f s (l.drop k) = q)) (fun i _ => l.length - (intOf i).toNat)
  case atStart => exact ⟨0, by omega, rfl, Below.refl _ _, Lib.hid (by rw [List.drop_zero]; exact HQ.out)⟩
  case round =>
    obtain ⟨k, hk, rfl, hB, hrun⟩ := hrel
    have HB := Lib.hid hB
    by_cases hlt : k < l.length
    · have hlt' : (k : Int) < (l.length : Int) := by omega
      obtain ⟨g, o, cc, x, hx, hv, hg, hc⟩ := HT.out.at_ tic_len hlt
      injection hv with hb _ hcc
      subst hb hcc
      have c0 := (hB.cell (p := ⟨g, o + k * 3 + 0, none⟩) hg).trans (hc 0 (by omega))
      have c1 := (hB.cell (p := ⟨g, o + k * 3 + 1, none⟩) hg).trans (hc 1 (by omega))
      have c2 := (hB.cell (p := ⟨g, o + k * 3 + 2, none⟩) hg).trans (hc 2 (by omega))
      have HC2 := Lib.hid (show w.cell? ⟨g, o + k * 3 + 2, none⟩ = some (.int .i64 x.p) from hc 2 (by omega))
      have HG := Lib.hid hg
      have HX := Lib.hid (HZ.out x (List.mem_of_getElem? hx))
      have hrun2 := hrun.out
      rw [find_drop f s l k x hx] at hrun2
      have HR := Lib.hid hrun2
      simp [tic] at c0 c1 c2
      clear hc hx hB hrun2 hrun
      go_wp2_with fail
      refine (rword_any f x _ HX.out).mono ?_
      obtain ⟨⟨r1, r2⟩, hr⟩ : ∃ r : ByteArray × Int, wordF f x = r := ⟨_, rfl⟩
      have hr3 := HR.out
      rw [hr] at hr3
      rw [hr]
      have HR3 := Lib.hid hr3
      clear HR hr hr3 c0 c1 c2
      rintro e w2 ⟨rfl, b2⟩
      have B2 := Lib.hid (HB.out.trans (b2.mono HB.out.size))
      have d2 := (B2.out.cell (p := ⟨g, o + k * 3 + 2, none⟩) HG.out).trans HC2.out
      clear b2 hg
      simp only []
      cases h0 : (r2 == 0)
      · have HN := Lib.hid (show findL f s (l.drop (k + 1)) = q from by have := HR3.out; rw [h0] at this; exact this)
        clear HR3
        go_wp2
        refine ⟨⟨k + 1, by omega, by go_num, B2.out, HN⟩, ?_⟩
        simp [intOf]; omega
      · cases he : (r1.toList == s.toList)
        · have HN := Lib.hid (show findL f s (l.drop (k + 1)) = q from by have := HR3.out; rw [h0, he] at this; exact this)
          clear HR3
          go_wp2
          refine ⟨⟨k + 1, by omega, by go_num, B2.out, HN⟩, ?_⟩
          simp [intOf]; omega
        · have hqp : q = x.p := by have := HR3.out; rw [h0, he] at this; exact this.symm
          subst hqp
          clear HR3
          go_wp2
          go_ret
          exact ⟨rfl, B2.out⟩
    · have hge : (l.length : Int) ≤ (k : Int) := by omega
      have hqz : q = 0 := by rw [← hrun.out, List.drop_of_length_le (by omega)]; rfl
      subst hqz
      clear hrun hB
      go_wp2
      go_ret
      exact ⟨rfl, HB.out⟩

set_option maxHeartbeats 1000000 in
theorem find_any (f : Int) (l : List Ti) (v : Value) (s : ByteArray) (w : World) (hl : l.length ≤ 100000) (ht : Lst tic w v l) (hz : ∀ x ∈ l, x.t.size ≤ 100000) :
    Calls Tryd.prog 24 #[.int .i64 f, v, .string s] w fun e w' => e = .returned (.int .i64 (findL f s l)) ∧ Below w.heap.size w w' := by
  have HT := Lib.hid ht
  obtain ⟨b, c, rfl⟩ := ht.slice
  clear ht
  obtain ⟨q, hq⟩ : ∃ q, findL f s l = q := ⟨_, rfl⟩
  rw [hq]
  have HQ := Lib.hid hq
  have HZ := Lib.hid hz
  clear hq hz
  go_enter Tryd.func24, Tryd.ntmps24
  go_wp2
  go_loopw [13] (fun i wr => ∃ k : Nat, k ≤ l.length ∧ i = .int .i64 (k : Int) ∧ Below w.heap.size w wr ∧ Hid (findL f s (l.drop k) = q)) (fun i _ => l.length - (intOf i).toNat)
  case atStart => exact ⟨0, by omega, rfl, Below.refl _ _, Lib.hid (by rw [List.drop_zero]; exact HQ.out)⟩
  case round =>
    obtain ⟨k, hk, rfl, hB, hrun⟩ := hrel
    have HB := Lib.hid hB
    by_cases hlt : k < l.length
    · have hlt' : (k : Int) < (l.length : Int) := by omega
      obtain ⟨g, o, cc, x, hx, hv, hg, hc⟩ := HT.out.at_ tic_len hlt
      injection hv with hb _ hcc
      subst hb hcc
      have c0 := (hB.cell (p := ⟨g, o + k * 3 + 0, none⟩) hg).trans (hc 0 (by omega))
      have c1 := (hB.cell (p := ⟨g, o + k * 3 + 1, none⟩) hg).trans (hc 1 (by omega))
      have c2 := (hB.cell (p := ⟨g, o + k * 3 + 2, none⟩) hg).trans (hc 2 (by omega))
      have HX := Lib.hid (HZ.out x (List.mem_of_getElem? hx))
      have hrun2 := hrun.out
      rw [find_drop f s l k x hx] at hrun2
      have HR := Lib.hid hrun2
      have HB1 := Lib.hid (hB.alloc hB.size (.cells #[.int .i64 x.k, .string x.t, .int .i64 x.p] 23))
      simp [tic] at c0 c1 c2
      clear hc hx hB hrun2 hrun
      go_wp2_with fail
      refine (word_any f x _ HX.out).mono ?_
      obtain ⟨⟨r1, r2⟩, hr⟩ : ∃ r : ByteArray × Int, wordF f x = r := ⟨_, rfl⟩
      have hr3 := HR.out
      rw [hr] at hr3
      rw [hr]
      have HR3 := Lib.hid hr3
      clear HR hr hr3 c0 c1 c2
      rintro e w2 ⟨rfl, b2⟩
      have B2 := Lib.hid (HB1.out.trans (b2.mono HB1.out.size))
      have d2 := b2.cell (p := ⟨wr.heap.size, 2, none⟩) (by simp)
      simp at d2
      clear b2 hg
      simp only []
      cases h0 : (r2 == 0)
      · have HN := Lib.hid (show findL f s (l.drop (k + 1)) = q from by have := HR3.out; rw [h0] at this; exact this)
        clear HR3
        go_wp2
        refine ⟨⟨k + 1, by omega, by go_num, B2.out, HN⟩, ?_⟩
        simp [intOf]; omega
      · cases he : (r1.toList == s.toList)
        · have HN := Lib.hid (show findL f s (l.drop (k + 1)) = q from by have := HR3.out; rw [h0, he] at this; exact this)
          clear HR3
          go_wp2
          refine ⟨⟨k + 1, by omega, by go_num, B2.out, HN⟩, ?_⟩
          simp [intOf]; omega
        · have hqp : q = x.p := by have := HR3.out; rw [h0, he] at this; exact this.symm
          subst hqp
          clear HR3
          go_wp2
          go_ret
          exact ⟨rfl, B2.out⟩
    · have hge : (l.length : Int) ≤ (k : Int) := by omega
      have hqz : q = 0 := by rw [← hrun.out, List.drop_of_length_le (by omega)]; rfl
      subst hqz
      clear hrun hB
      go_wp2
      go_ret
      exact ⟨rfl, HB.out⟩
end Go.Proofs.YtfljnhmpelpdaaaDoor
