import Derived.Test.YtpbfkpdfodmcaaaEng20
import Derived.Test.YtpbfkpdfodmcaaaTys
import Derived.WalkKit
import Derived.BigFrameIn
import Derived.LoopIn
import Derived.Lib.Hide
namespace Go.Proofs.Ytpbfkpdfodmcaaa
open Go.RowKit
set_option maxRecDepth 100000
attribute [local go_sem] Oper.semAt_some
variable (Hy : World → Prop)
/-- one behind the other, from the last one on -/
def backL (l : List (Int × Int)) : List (List T) := ((List.range l.length).map fun i : Nat => [.i .i64 ((l.length : Int) - 1 - i), .ag [.i .i64 (l.getD (l.length - 1 - i) (0, 0)).1, .i .i64 (l.getD (l.length - 1 - i) (0, 0)).2]])
theorem backL_get {l : List (Int × Int)} {k : Nat} {x : Int × Int} (hk : k < l.length) (hx : l[k]? = some x) : (backL l)[l.length - 1 - k]? = some [.i .i64 (k : Int), .ag [.i .i64 x.1, .i .i64 x.2]] := by
  unfold backL
  rw [List.getElem?_map, List.getElem?_range (by omega)]
  simp only [Option.map_some]
  rw [show l.length - 1 - (l.length - 1 - k) = k from by omega, show ((l.length : Int) - 1 - ((l.length - 1 - k : Nat) : Int)) = k from by omega]
  rw [List.getD_eq_getElem?_getD, hx]
  rfl
/-- a list of pairs, read -/
theorem pairs_get {W : World} {D : Nat → Prop} {c : Value} {l : List (Int × Int)} (h : Rt W D c (.sl (l.map fun x => [.i .i64 x.1, .i .i64 x.2]))) :
    ∃ ad cap, c = .slice ad l.length cap ∧ ∀ k x, l[k]? = some x → ∃ g off, ad = some ⟨g, off, none⟩ ∧ k < l.length ∧ l.length ≤ cap ∧ W.cell? ⟨g, off + k * 2, none⟩ = some (.int .i64 x.1) ∧ W.cell? ⟨g, off + k * 2 + 1, none⟩ = some (.int .i64 x.2) := by
  generalize he : (l.map fun x => [T.i .i64 x.1, T.i .i64 x.2]) = L at h
  cases h with
  | sl0 a cap _ =>
    have : l = [] := List.map_eq_nil_iff.1 he
    subst this
    exact ⟨a, cap, rfl, fun k x hx => by simp at hx⟩
  | sl g off n cap z L cc hn hq hD hz hc hl hr =>
    subst he
    have hn' : n = l.length := by rw [hn, List.length_map]
    subst hn'
    refine ⟨_, cap, rfl, fun k x hx => ?_⟩
    have hk := (List.getElem?_eq_some_iff.1 hx).1
    have hm : (l.map fun x => [T.i .i64 x.1, T.i .i64 x.2])[k]? = some [.i .i64 x.1, .i .i64 x.2] := by rw [List.getElem?_map, hx]; rfl
    have hz2 : z = 2 := (hz _ (List.mem_of_getElem? hm)).symm
    subst hz2
    have f0 := flat_in (j := 0) hz hm (t := .i .i64 x.1) rfl
    have f1 := flat_in (j := 1) hz hm (t := .i .i64 x.2) rfl
    have c0 := hc (k * 2 + 0) (by rw [List.length_map]; omega)
    have c1 := hc (k * 2 + 1) (by rw [List.length_map]; omega)
    have r0 := hr _ _ f0
    have r1 := hr _ _ f1
    generalize cc (k * 2 + 0) = v0 at c0 r0
    generalize cc (k * 2 + 1) = v1 at c1 r1
    cases r0
    cases r1
    exact ⟨g, off, rfl, hk, hq, c0, c1⟩
theorem back_it (l : List (Int × Int)) (hl : l.length ≤ 1000000) {o : Nat → O} {bid gb : Nat} (ho : o bid = ⟨gb, .cells 23 [.t (.sl (l.map fun x => [.i .i64 x.1, .i .i64 x.2]))]⟩) : ItC Try.prog Hy 115 [.ptr bid gb 0] o [bid] (backL l) := by
  refine ⟨⟨_, Try.func115, by decide, Option.isSome_iff_ne_none.1 (by kernel_rfl)⟩, fun B St w0 ι w cl hM hcl hca yl n J hJ hK hY h0 => ?_⟩
  obtain ⟨v, hv, hrv⟩ := hca 0 _ rfl
  obtain rfl : cl = #[v] := by
    obtain ⟨cl⟩ := cl
    match cl, hcl, hv with
    | [x], _, hv => cases hv; rfl
  have hgen : ∀ {o1 : Nat → O}, o1 bid = o bid → gb = (o1 bid).gen := fun h => by rw [h, ho]
  obtain ⟨blk, rfl⟩ : ∃ blk, v = .pointer (some ⟨blk, 0, none⟩) := by
    cases hrv with
    | ptr h1 h2 h3 =>
      obtain ⟨blk, _, h5⟩ := h2 (hgen rfl)
      exact ⟨blk, h5⟩
  have rd : ∀ i W, J i W → ∃ c, W.cell? ⟨blk, 0, none⟩ = some c ∧ ∃ D, Rt W D c (.sl (l.map fun x => [.i .i64 x.1, .i .i64 x.2])) := fun i W hj => by
    obtain ⟨o1, ι1, hM1, hid, hmo⟩ := hJ i W hj
    have hob := hid bid (by simp)
    have hb : ι1 bid = .pointer (some ⟨blk, 0, none⟩) := by
      have := hmo _ _ hrv
      cases this with
      | ptr h1 h2 h3 =>
        obtain ⟨b2, h4, h5⟩ := h2 (hgen hob)
        rw [h4, h5]
    have hc := hM1.ob bid
    rw [hob, ho] at hc
    obtain ⟨b2, cs, c1, _, c3, c4, c5⟩ := hc
    rw [hb] at c1
    cases c1
    obtain ⟨c, d1, _, d3⟩ := c5 0 _ rfl
    refine ⟨c, ?_, _, d3.dat⟩
    simp [World.cell?, c3, d1]
  have HRD := Lib.hid rd
  have HY := Lib.hid hY
  have H0 := Lib.hid h0
  obtain ⟨c0, k0, D0, r0⟩ := rd 0 w h0
  obtain ⟨ad0, cap0, rfl, _⟩ := pairs_get r0
  clear rd hY h0 hK hJ hM hca hrv hcl hv r0
  show CallsIn Fence.wide (n + 1) Try.prog 115 #[.func (.yield yl) #[] #[], .pointer (some ⟨blk, 0, none⟩)] w fun e W' => (∃ v, e = .returned v) ∧ J (backL l).length W'
  have hbl : (backL l).length = l.length := by simp [backL]
  rw [hbl]
  refine callsIn_of_wp Try.func115 rfl trivial ?_ rfl
  simp only [Try.ntmps115, List.size_toArray, List.length_cons, List.length_nil, Nat.reduceAdd, Nat.reduceSub, Array.replicate_succ, Array.replicate_zero, List.push_toArray, List.append_toArray, List.nil_append, List.cons_append]
  gi_wp2_with fail
  clear k0
  gi_loopw [3] (fun v W => ∃ k : Nat, k ≤ l.length ∧ v = .int .i64 ((k : Int) - 1) ∧ RowKit.Hid (J (l.length - k) W)) (fun v _ => match v with | .int _ n => (n + 1).toNat | _ => 0)
  case atStart => exact ⟨l.length, Nat.le_refl _, rfl, by rw [Nat.sub_self]; exact H0⟩
  case round =>
    obtain ⟨k, hk, rfl, HJ⟩ := hrel
    obtain ⟨c, rc, D, rr⟩ := HRD.out _ _ HJ.out
    obtain ⟨ad, cap, rfl, hget⟩ := pairs_get rr
    clear rr
    by_cases hk0 : k = 0
    · subst hk0
      gi_wp2_with fail
      go_end0
      exact ⟨⟨_, rfl⟩, HJ.out⟩
    · obtain ⟨x, hx⟩ : ∃ x, l[k - 1]? = some x := ⟨_, List.getElem?_eq_getElem (by omega)⟩
      obtain ⟨g, off, rfl, hkl, hcap, g1, g2⟩ := hget (k - 1) x hx
      have hb := backL_get hkl hx
      rw [show l.length - 1 - (k - 1) = l.length - k from by omega] at hb
      obtain ⟨fn, tmps, assign, body, hyr, hR⟩ := HY.out _ _ wr #[.int .i64 ((k - 1 : Nat) : Int), .agg #[.int .i64 x.1, .int .i64 x.2]] HJ.out hb rfl (fun j v t hv ht => by
        match j with
        | 0 => cases hv; cases ht; exact fun _ _ => .i _ _
        | 1 => cases hv; cases ht; exact fun _ _ => .ag _ _ (fun j => (#[Value.int .i64 x.1, .int .i64 x.2]).getD j undef) rfl (fun j hj => by
            match j, hj with
            | 0, _ => rfl
            | 1, _ => rfl) (fun j t ht => by
            match j with
            | 0 => cases ht; rfl
            | 1 => cases ht; rfl
            | j + 2 => simp at ht) (fun j t ht => by
            match j with
            | 0 => cases ht; exact .i _ _
            | 1 => cases ht; exact .i _ _
            | j + 2 => simp at ht)
        | j + 2 => simp at hv)
      rw [show ((k - 1 : Nat) : Int) = (k : Int) - 1 from by omega] at hyr
      have HR := Lib.hid hR
      clear hR hb hget
      gi_wp2_with fail
      refine HR.out.mono ?_
      rintro e W2 ⟨rfl, hJ2⟩
      have HJ2 := Lib.hid hJ2
      clear hJ2 hyr
      gi_wp2_with fail
      refine ⟨⟨k - 1, by omega, by rw [show ((k - 1 : Nat) : Int) = (k : Int) - 1 from by omega], ?_⟩, ?_⟩
      · rw [show l.length - (k - 1) = l.length - k + 1 from by omega]
        exact HJ2
      · show ((k : Int) - 1 - 1 + 1).toNat < ((k : Int) - 1 + 1).toNat
        omega
end Go.Proofs.Ytpbfkpdfodmcaaa
