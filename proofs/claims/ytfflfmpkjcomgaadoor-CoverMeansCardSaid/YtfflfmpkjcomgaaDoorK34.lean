import Derived.Test.YtfflfmpkjcomgaaDoorQ5
namespace Go.Proofs.YtfflfmpkjcomgaaDoor
open Go.RowKit
set_option maxRecDepth 100000
set_option linter.unusedSimpArgs false
variable (Hy : World → Prop)
attribute [local irreducible] runM runD cwp seqQ blkQ lpQ retQ asQ bdQ bdY retP endR preD retD
/-- are a row's signs 0, 1 and - -/
def okS (r : Row) : Prop := ∀ c ∈ r, c = 48 ∨ c = 49 ∨ c = 45
theorem rowV_fit : ∀ (r : Row) (pre rest : List Bool), okS r → r.length = rest.length → (litsAt pre.length r).all (satL (pre ++ rest)) = (List.zipWith fit1 r rest).all id
  | [], pre, [], _, _ => rfl
  | [], pre, _ :: _, _, h => by simp at h
  | _ :: _, pre, [], _, h => by simp at h
  | c :: r, pre, v :: rest, hok, h => by
    have ih := rowV_fit r (pre ++ [v]) rest (fun x hx => hok x (List.mem_cons_of_mem _ hx)) (by simpa using h)
    rw [List.length_append, List.length_singleton, List.append_assoc] at ih
    rw [List.zipWith_cons_cons, List.all_cons, ← ih]
    simp only [litsAt]
    have hs : ∀ c, satL (pre ++ v :: rest) ⟨pre.length, c⟩ = (v != decide (c = 48)) := fun c => by
      unfold satL
      simp [List.getD_eq_getElem?_getD]
    rcases hok c List.mem_cons_self with rfl | rfl | rfl
    · rw [if_neg (by decide), List.all_cons, hs]
      cases v <;> rfl
    · rw [if_neg (by decide), List.all_cons, hs]
      cases v <;> rfl
    · rw [if_pos rfl]
      cases v <;> rfl
theorem rowV_fitB {r : Row} {ins : List Bool} (hok : okS r) (hl : r.length = ins.length) : rowV ins r = fitB r ins := rowV_fit r [] ins hok hl
theorem okRow_okS {n : Int} {r : Row} (h : okRow n r = true) : (r.length : Int) = n ∧ okS r := by
  rw [okRow, Bool.and_eq_true, List.all_eq_true] at h
  refine ⟨of_decide_eq_true h.1, fun c hc => ?_⟩
  have := h.2 c hc
  simpa using this
theorem textsB_lens {rows : List Row} {k : Nat} (h : textsB rows k = true) : rows.length ≤ k ∧ ∀ r ∈ rows, r.length ≤ 60 := by
  unfold textsB at h
  rw [Bool.and_eq_true, List.all_eq_true] at h
  exact ⟨of_decide_eq_true h.1, fun r hr => of_decide_eq_true (h.2 r hr)⟩
theorem any_once (p : Row → Bool) (rows : List Row) : (onceF rows).any p = rows.any p := by
  have h1 := (onceF_ok rows).2
  have h2 := (once_mem rows []).2
  rw [Bool.eq_iff_iff, List.any_eq_true, List.any_eq_true]
  exact ⟨fun ⟨r, hr, hp⟩ => ⟨r, h1 r hr, hp⟩, fun ⟨r, hr, hp⟩ => ⟨r, h2 r hr, hp⟩⟩
def nm8 : List ByteArray := [⟨#[97]⟩, ⟨#[98]⟩, ⟨#[99]⟩, ⟨#[100]⟩, ⟨#[101]⟩, ⟨#[102]⟩, ⟨#[103]⟩, ⟨#[104]⟩]
def gN (rows : List Row) (n : Nat) : Gt := ⟨⟨#[122]⟩, 10, nm8.take n, rows, false⟩
theorem gN_ok {rows : List Row} {ins : List Bool} (h8 : ins.length ≤ 8) : okG (gN rows ins.length) ins = !badA rows ins.length := by
  have hl : (nm8.take ins.length).length = ins.length := by rw [List.length_take]; show min ins.length 8 = _; omega
  have h0 : decide ((0 : Int) ≤ ins.length ∧ (ins.length : Int) ≤ 8) = true := decide_eq_true (by omega)
  unfold okG gateB gN badA
  simp only [hl, show opB 10 = true from rfl, show loF 10 = 0 from rfl, show hiF 10 = 8 from rfl, if_true, decide_true, Bool.true_and, Bool.and_true, Bool.not_or, Bool.not_not, h0]
  congr 1
  rw [← decide_not, decide_eq_decide]
  omega
theorem gN_val {rows : List Row} {ins : List Bool} : gateV (gN rows ins.length) ins = rows.any fun r => fitB r ins := by
  have h1 : turnsB (gN rows ins.length) = false := rfl
  have h2 : askV (gN rows ins.length) ins = rows.any fun r => fitB r ins := rfl
  unfold gateV
  rw [h1, h2]
  simp
set_option maxHeartbeats 8000000 in
theorem coverMeans_ct (rows : List Row) (ins : List Bool) (hil : ins.length ≤ 9223372036854775807) : Ct Tryd.prog Hy 5 [rL rows, bL ins] [.b true] := by
  have hw := works10_ct Hy
  have hfew := few_ct Hy rows
  simp only [rL] at hfew
  cases ht : textsB rows 40 with
  | false =>
    rw [ht] at hfew
    refine ct_of (cls := _root_.id) tt_ok follows_ Tryd.func5 rfl (by decide) (Nat.le_of_ble_eq_true rfl) ?_
    rw [show Tryd.f5.ntmps = 79 from rfl, s0_nf]
    simp only [List.zipIdx_cons, List.zipIdx_nil, List.map_cons, List.map_nil, Nat.reduceAdd, rL]
    repeat' first | refine c_seq ?_ | refine c_reg' rfl fun K E hK hE => ?_ | (refine r_opN fun κ η => ?_; simp only [go_sem, Nat.reduceLT, Nat.reduceEqDiff, Nat.reduceAdd, Nat.reduceMul, Nat.reduceLeDiff, Nat.le_refl, reduceIte, reduceCtorEq]; refine η _ ?_; clear η κ) | (refine r_nil (hK _ ?_); clear hE hK E K) | refine q_seq ?_
    refine r_opN fun κ η => ?_; simp only [go_sem, Nat.reduceLT, Nat.reduceEqDiff, Nat.reduceAdd, Nat.reduceMul, Nat.reduceLeDiff, Nat.le_refl, reduceIte, reduceCtorEq]; refine ⟨_, hw, ?_⟩; simp only [go_sem, Nat.reduceLT, Nat.reduceEqDiff, Nat.reduceAdd, Nat.reduceMul, Nat.reduceLeDiff, Nat.le_refl, reduceIte, reduceCtorEq]; refine η _ ?_; clear η κ
    repeat' first | refine c_seq ?_ | refine c_reg' rfl fun K E hK hE => ?_ | (refine r_opN fun κ η => ?_; simp only [go_sem, Nat.reduceLT, Nat.reduceEqDiff, Nat.reduceAdd, Nat.reduceMul, Nat.reduceLeDiff, Nat.le_refl, reduceIte, reduceCtorEq]; refine η _ ?_; clear η κ) | (refine r_nil (hK _ ?_); clear hE hK E K) | refine q_seq ?_ | refine c_cond false rfl (fun h => (by cases h)) fun _ => ?_ | refine c_skip ?_
    refine r_opN fun κ η => ?_; simp only [go_sem, Nat.reduceLT, Nat.reduceEqDiff, Nat.reduceAdd, Nat.reduceMul, Nat.reduceLeDiff, Nat.le_refl, reduceIte, reduceCtorEq]; refine ⟨_, hfew, ?_⟩; simp only [go_sem, Nat.reduceLT, Nat.reduceEqDiff, Nat.reduceAdd, Nat.reduceMul, Nat.reduceLeDiff, Nat.le_refl, reduceIte, reduceCtorEq]; refine η _ ?_; clear η κ
    repeat' first | refine c_seq ?_ | refine c_reg' rfl fun K E hK hE => ?_ | ((first | refine r_opN fun κ η => ?_ | refine r_opG rfl fun κ η => ?_); simp only [go_sem, Nat.reduceLT, Nat.reduceEqDiff, Nat.reduceAdd, Nat.reduceMul, Nat.reduceLeDiff, Nat.le_refl, reduceIte, reduceCtorEq]; refine η _ ?_; clear η κ) | (refine r_nil (hK _ ?_); clear hE hK E K) | refine q_seq ?_ | refine c_cond true rfl (fun _ => ?_) (fun h => (by cases h)) | refine c_ret ?_ | refine q_seqR ?_ | (refine q_ret ?_; refine q_r1 ?_; simp only [go_sem, Nat.reduceLT, Nat.reduceEqDiff, Nat.reduceAdd, Nat.reduceMul, Nat.reduceLeDiff, Nat.le_refl, reduceIte, reduceCtorEq])
  | true =>
    rw [ht] at hfew
    obtain ⟨t1, t2⟩ := textsB_lens ht
    by_cases h8 : 8 < ins.length
    · have h8' : ((8 : Int) < ins.length) = True := eq_true (by omega)
      refine ct_of (cls := _root_.id) tt_ok follows_ Tryd.func5 rfl (by decide) (Nat.le_of_ble_eq_true rfl) ?_
      rw [show Tryd.f5.ntmps = 79 from rfl, s0_nf]
      simp only [List.zipIdx_cons, List.zipIdx_nil, List.map_cons, List.map_nil, Nat.reduceAdd, rL, bL]
      repeat' first | refine c_seq ?_ | refine c_reg' rfl fun K E hK hE => ?_ | (refine r_opN fun κ η => ?_; simp only [go_sem, Nat.reduceLT, Nat.reduceEqDiff, Nat.reduceAdd, Nat.reduceMul, Nat.reduceLeDiff, Nat.le_refl, reduceIte, reduceCtorEq]; refine η _ ?_; clear η κ) | (refine r_nil (hK _ ?_); clear hE hK E K) | refine q_seq ?_
      refine r_opN fun κ η => ?_; simp only [go_sem, Nat.reduceLT, Nat.reduceEqDiff, Nat.reduceAdd, Nat.reduceMul, Nat.reduceLeDiff, Nat.le_refl, reduceIte, reduceCtorEq]; refine ⟨_, hw, ?_⟩; simp only [go_sem, Nat.reduceLT, Nat.reduceEqDiff, Nat.reduceAdd, Nat.reduceMul, Nat.reduceLeDiff, Nat.le_refl, reduceIte, reduceCtorEq]; refine η _ ?_; clear η κ
      repeat' first | refine c_seq ?_ | refine c_reg' rfl fun K E hK hE => ?_ | (refine r_opN fun κ η => ?_; simp only [go_sem, Nat.reduceLT, Nat.reduceEqDiff, Nat.reduceAdd, Nat.reduceMul, Nat.reduceLeDiff, Nat.le_refl, reduceIte, reduceCtorEq]; refine η _ ?_; clear η κ) | (refine r_nil (hK _ ?_); clear hE hK E K) | refine q_seq ?_ | refine c_cond false rfl (fun h => (by cases h)) fun _ => ?_ | refine c_skip ?_
      refine r_opN fun κ η => ?_; simp only [go_sem, Nat.reduceLT, Nat.reduceEqDiff, Nat.reduceAdd, Nat.reduceMul, Nat.reduceLeDiff, Nat.le_refl, reduceIte, reduceCtorEq]; refine ⟨_, hfew, ?_⟩; simp only [go_sem, Nat.reduceLT, Nat.reduceEqDiff, Nat.reduceAdd, Nat.reduceMul, Nat.reduceLeDiff, Nat.le_refl, reduceIte, reduceCtorEq]; refine η _ ?_; clear η κ
      repeat' first | refine c_seq ?_ | refine c_reg' rfl fun K E hK hE => ?_ | ((first | refine r_opN fun κ η => ?_ | refine r_opG rfl fun κ η => ?_); simp only [go_sem, Nat.reduceLT, Nat.reduceEqDiff, Nat.reduceAdd, Nat.reduceMul, Nat.reduceLeDiff, Nat.le_refl, reduceIte, reduceCtorEq, h8']; refine η _ ?_; clear η κ) | (refine r_nil (hK _ ?_); clear hE hK E K) | refine q_seq ?_ | refine c_cond true rfl (fun _ => ?_) (fun h => (by cases h)) | refine c_ret ?_ | refine q_seqR ?_ | (refine q_ret ?_; refine q_r1 ?_; simp only [go_sem, Nat.reduceLT, Nat.reduceEqDiff, Nat.reduceAdd, Nat.reduceMul, Nat.reduceLeDiff, Nat.le_refl, reduceIte, reduceCtorEq, h8'])
    have h8' : ((8 : Int) < ins.length) = False := eq_false (by omega)
    have hok := gN_ok (rows := rows) (ins := ins) (by omega)
    have hst := stepGate_ct Hy (gN rows ins.length) ins ⟨by show _ ≤ (10 : Int); decide, by show (10 : Int) ≤ _; decide⟩ (by show (nm8.take _).length ≤ _; rw [List.length_take]; omega) (by omega) (by show rows.length ≤ _; omega) (fun r hr => by have := t2 r hr; omega)
    have hf := factorC2_ct Hy rows ins.length
    have hnm : gE (gN rows ins.length) = [.s ⟨#[122]⟩, .i .i64 10, .sl (List.take ins.length [[.s ⟨#[97]⟩], [.s ⟨#[98]⟩], [.s ⟨#[99]⟩], [.s ⟨#[100]⟩], [.s ⟨#[101]⟩], [.s ⟨#[102]⟩], [.s ⟨#[103]⟩], [.s ⟨#[104]⟩]]), rL rows, .b false] := by
      unfold gE gN sL nm8
      rw [List.map_take]
      rfl
    rw [hnm, hok] at hst
    have hz8 : ∀ e ∈ List.take ins.length [[T.s ⟨#[97]⟩], [T.s ⟨#[98]⟩], [T.s ⟨#[99]⟩], [T.s ⟨#[100]⟩], [T.s ⟨#[101]⟩], [T.s ⟨#[102]⟩], [T.s ⟨#[103]⟩], [T.s ⟨#[104]⟩]], e.length = 1 := fun e he => by
      have := List.mem_of_mem_take he
      simp only [List.mem_cons, List.not_mem_nil, or_false] at this
      rcases this with rfl | rfl | rfl | rfl | rfl | rfl | rfl | rfl <;> rfl
    cases hb : badA rows ins.length with
    | true =>
      rw [hb] at hst hf
      rw [if_pos rfl, if_pos rfl] at hf
      have he := ceval_ct Hy [] ins (by decide) (fun f h => by cases h)
      generalize evalV [] ins = ev at he
      generalize chkF (ins.length : Int) [] = ec at he
      simp only [Bool.not_true, Bool.false_and, Bool.false_eq_true, if_false] at hst
      simp only [rL, fL, bL, List.map_nil] at hst hf he
      refine ct_of (cls := _root_.id) tt_ok follows_ Tryd.func5 rfl (by decide) (Nat.le_of_ble_eq_true rfl) ?_
      rw [show Tryd.f5.ntmps = 79 from rfl, s0_nf]
      simp only [List.zipIdx_cons, List.zipIdx_nil, List.map_cons, List.map_nil, Nat.reduceAdd, rL, bL]
      repeat' first | refine c_seq ?_ | refine c_reg' rfl fun K E hK hE => ?_ | (refine r_opN fun κ η => ?_; simp only [go_sem, Nat.reduceLT, Nat.reduceEqDiff, Nat.reduceAdd, Nat.reduceMul, Nat.reduceLeDiff, Nat.le_refl, reduceIte, reduceCtorEq]; refine η _ ?_; clear η κ) | (refine r_nil (hK _ ?_); clear hE hK E K) | refine q_seq ?_
      refine r_opN fun κ η => ?_; simp only [go_sem, Nat.reduceLT, Nat.reduceEqDiff, Nat.reduceAdd, Nat.reduceMul, Nat.reduceLeDiff, Nat.le_refl, reduceIte, reduceCtorEq]; refine ⟨_, hw, ?_⟩; simp only [go_sem, Nat.reduceLT, Nat.reduceEqDiff, Nat.reduceAdd, Nat.reduceMul, Nat.reduceLeDiff, Nat.le_refl, reduceIte, reduceCtorEq]; refine η _ ?_; clear η κ
      repeat' first | refine c_seq ?_ | refine c_reg' rfl fun K E hK hE => ?_ | (refine r_opN fun κ η => ?_; simp only [go_sem, Nat.reduceLT, Nat.reduceEqDiff, Nat.reduceAdd, Nat.reduceMul, Nat.reduceLeDiff, Nat.le_refl, reduceIte, reduceCtorEq]; refine η _ ?_; clear η κ) | (refine r_nil (hK _ ?_); clear hE hK E K) | refine q_seq ?_ | refine c_cond false rfl (fun h => (by cases h)) fun _ => ?_ | refine c_skip ?_
      refine r_opN fun κ η => ?_; simp only [go_sem, Nat.reduceLT, Nat.reduceEqDiff, Nat.reduceAdd, Nat.reduceMul, Nat.reduceLeDiff, Nat.le_refl, reduceIte, reduceCtorEq]; refine ⟨_, hfew, ?_⟩; simp only [go_sem, Nat.reduceLT, Nat.reduceEqDiff, Nat.reduceAdd, Nat.reduceMul, Nat.reduceLeDiff, Nat.le_refl, reduceIte, reduceCtorEq]; refine η _ ?_; clear η κ
      repeat' first | refine c_seq ?_ | refine c_reg' rfl fun K E hK hE => ?_ | ((first | refine r_opN fun κ η => ?_ | refine r_opG rfl fun κ η => ?_); simp only [go_sem, Nat.reduceLT, Nat.reduceEqDiff, Nat.reduceAdd, Nat.reduceMul, Nat.reduceLeDiff, Nat.le_refl, reduceIte, reduceCtorEq, h8']; refine η _ ?_; clear η κ) | (refine r_nil (hK _ ?_); clear hE hK E K) | refine q_seq ?_ | refine c_cond false rfl (fun h => (by cases h)) fun _ => ?_ | refine c_skip ?_
      refine r_opN fun κ η => ?_; simp only [go_sem, Nat.reduceLT, Nat.reduceEqDiff, Nat.reduceAdd, Nat.reduceMul, Nat.reduceLeDiff, Nat.le_refl, reduceIte, reduceCtorEq]; refine ⟨_, hf, ?_⟩; simp only [go_sem, Nat.reduceLT, Nat.reduceEqDiff, Nat.reduceAdd, Nat.reduceMul, Nat.reduceLeDiff, Nat.le_refl, reduceIte, reduceCtorEq]; refine η _ ?_; clear η κ
      repeat' first | refine c_seq ?_ | refine c_reg' rfl fun K E hK hE => ?_ | (refine r_opN fun κ η => ?_; simp only [go_sem, Nat.reduceLT, Nat.reduceEqDiff, Nat.reduceAdd, Nat.reduceMul, Nat.reduceLeDiff, Nat.le_refl, reduceIte, reduceCtorEq, Int.toNat_natCast]; (repeat refine ⟨by (first | omega | exact ⟨_, rfl, rfl⟩), ?_⟩); refine η _ ?_; clear η κ) | (refine r_nil (hK _ ?_); clear hE hK E K) | refine q_seq ?_
      refine r_callF fun κ η => ?_; simp only [go_sem, Nat.reduceLT, Nat.reduceEqDiff, Nat.reduceAdd, Nat.reduceMul, Nat.reduceLeDiff, Nat.le_refl, reduceIte, reduceCtorEq]; refine ⟨_, (Cm.of_ct hst), ?_⟩; rintro _ _ ⟨rfl, rfl⟩; simp only [go_sem, Nat.reduceLT, Nat.reduceEqDiff, Nat.reduceAdd, Nat.reduceMul, Nat.reduceLeDiff, Nat.le_refl, reduceIte, reduceCtorEq]; refine η _ ?_; clear η κ
      repeat' first | refine c_seq ?_ | refine c_reg' rfl fun K E hK hE => ?_ | (refine r_opN fun κ η => ?_; simp only [go_sem, Nat.reduceLT, Nat.reduceEqDiff, Nat.reduceAdd, Nat.reduceMul, Nat.reduceLeDiff, Nat.le_refl, reduceIte, reduceCtorEq]; refine η _ ?_; clear η κ) | (refine r_nil (hK _ ?_); clear hE hK E K) | refine q_seq ?_
      refine r_opN fun κ η => ?_; simp only [go_sem, Nat.reduceLT, Nat.reduceEqDiff, Nat.reduceAdd, Nat.reduceMul, Nat.reduceLeDiff, Nat.le_refl, reduceIte, reduceCtorEq]; refine ⟨_, he, ?_⟩; simp only [go_sem, Nat.reduceLT, Nat.reduceEqDiff, Nat.reduceAdd, Nat.reduceMul, Nat.reduceLeDiff, Nat.le_refl, reduceIte, reduceCtorEq]; refine η _ ?_; clear η κ
      repeat' first | refine c_seq ?_ | refine c_reg' rfl fun K E hK hE => ?_ | ((first | refine r_opN fun κ η => ?_ | refine r_opG rfl fun κ η => ?_); simp only [go_sem, Nat.reduceLT, Nat.reduceEqDiff, Nat.reduceAdd, Nat.reduceMul, Nat.reduceLeDiff, Nat.le_refl, reduceIte, reduceCtorEq, Int.reduceEq, Int.natCast_zero, decide_true]; refine η _ ?_; clear η κ) | (refine r_nil (hK _ ?_); clear hE hK E K) | refine q_seq ?_ | refine c_cond true rfl (fun _ => ?_) (fun h => (by cases h)) | refine c_ret ?_ | refine q_seqR ?_ | (refine q_ret ?_; refine q_r1 ?_; simp only [go_sem, Nat.reduceLT, Nat.reduceEqDiff, Nat.reduceAdd, Nat.reduceMul, Nat.reduceLeDiff, Nat.le_refl, reduceIte, reduceCtorEq, Int.reduceEq, Int.natCast_zero, decide_true])
    | false =>
      rw [hb] at hst hf
      rw [if_neg (by decide), if_neg (by decide)] at hf
      obtain ⟨⟨n0, n8, _⟩, hrn⟩ := badA_ok hb
      have hIn := factD_inF hb
      have horn : ∀ r ∈ onceF rows, r.length = ins.length := fun r hr => by have := hrn r ((onceF_ok rows).2 r hr); omega
      have hrok : ∀ r ∈ rows, okS r := fun r hr => by
        unfold badA at hb
        rw [Bool.or_eq_false_iff, Bool.not_eq_false', List.all_eq_true] at hb
        exact (okRow_okS (hb.2 r hr)).2
      have his := factF_is ins.length _ (onceF rows) (Nat.le_refl _) horn
      have hev := factF_means ins _ (onceF rows) (Nat.le_refl _) horn
      have hmz := mz_le (rows := onceF rows) (m := 8) fun r hr => by have := horn r hr; omega
      have o1 := (onceF_ok rows).1
      have hfl := factF_len (mz (onceF rows) + (onceF rows).length) (onceF rows)
      change (factD (onceF rows)).length ≤ _ at hfl
      change IsF ins.length (factD (onceF rows)) at his
      change EvF ins (factD (onceF rows)) _ at hev
      rw [any_once] at hev
      generalize factD (onceF rows) = L at *
      have hisF : isF ins.length L = true := decide_eq_true ⟨by omega, by omega, by omega, by
        have := his L.length [] (Nat.le_refl _)
        rw [List.append_nil] at this
        exact this⟩
      have he := ceval_ct Hy L ins (by omega) hIn
      have hv : evalV L ins = gateV (gN rows ins.length) ins := by
        have := hev L.length [] (Nat.le_refl _)
        rw [List.append_nil] at this
        rw [evalV, hisF, Bool.true_and, this, gN_val]
        rw [Bool.eq_iff_iff, List.any_eq_true, List.any_eq_true]
        exact ⟨fun ⟨r, hr, hp⟩ => ⟨r, hr, by rw [← rowV_fitB (hrok r hr) (by have := hrn r hr; omega)]; exact hp⟩, fun ⟨r, hr, hp⟩ => ⟨r, hr, by rw [rowV_fitB (hrok r hr) (by have := hrn r hr; omega)]; exact hp⟩⟩
      rw [hv, chkF, hisF, if_pos rfl] at he
      rw [Bool.not_false, Bool.true_and, if_pos rfl] at hst
      generalize gateV (gN rows ins.length) ins = gv at *
      simp only [rL, fL, bL] at hst hf he
      refine ct_of (cls := _root_.id) tt_ok follows_ Tryd.func5 rfl (by decide) (Nat.le_of_ble_eq_true rfl) ?_
      rw [show Tryd.f5.ntmps = 79 from rfl, s0_nf]
      simp only [List.zipIdx_cons, List.zipIdx_nil, List.map_cons, List.map_nil, Nat.reduceAdd, rL, bL]
      repeat' first | refine c_seq ?_ | refine c_reg' rfl fun K E hK hE => ?_ | (refine r_opN fun κ η => ?_; simp only [go_sem, Nat.reduceLT, Nat.reduceEqDiff, Nat.reduceAdd, Nat.reduceMul, Nat.reduceLeDiff, Nat.le_refl, reduceIte, reduceCtorEq]; refine η _ ?_; clear η κ) | (refine r_nil (hK _ ?_); clear hE hK E K) | refine q_seq ?_
      refine r_opN fun κ η => ?_; simp only [go_sem, Nat.reduceLT, Nat.reduceEqDiff, Nat.reduceAdd, Nat.reduceMul, Nat.reduceLeDiff, Nat.le_refl, reduceIte, reduceCtorEq]; refine ⟨_, hw, ?_⟩; simp only [go_sem, Nat.reduceLT, Nat.reduceEqDiff, Nat.reduceAdd, Nat.reduceMul, Nat.reduceLeDiff, Nat.le_refl, reduceIte, reduceCtorEq]; refine η _ ?_; clear η κ
      repeat' first | refine c_seq ?_ | refine c_reg' rfl fun K E hK hE => ?_ | (refine r_opN fun κ η => ?_; simp only [go_sem, Nat.reduceLT, Nat.reduceEqDiff, Nat.reduceAdd, Nat.reduceMul, Nat.reduceLeDiff, Nat.le_refl, reduceIte, reduceCtorEq]; refine η _ ?_; clear η κ) | (refine r_nil (hK _ ?_); clear hE hK E K) | refine q_seq ?_ | refine c_cond false rfl (fun h => (by cases h)) fun _ => ?_ | refine c_skip ?_
      refine r_opN fun κ η => ?_; simp only [go_sem, Nat.reduceLT, Nat.reduceEqDiff, Nat.reduceAdd, Nat.reduceMul, Nat.reduceLeDiff, Nat.le_refl, reduceIte, reduceCtorEq]; refine ⟨_, hfew, ?_⟩; simp only [go_sem, Nat.reduceLT, Nat.reduceEqDiff, Nat.reduceAdd, Nat.reduceMul, Nat.reduceLeDiff, Nat.le_refl, reduceIte, reduceCtorEq]; refine η _ ?_; clear η κ
      repeat' first | refine c_seq ?_ | refine c_reg' rfl fun K E hK hE => ?_ | ((first | refine r_opN fun κ η => ?_ | refine r_opG rfl fun κ η => ?_); simp only [go_sem, Nat.reduceLT, Nat.reduceEqDiff, Nat.reduceAdd, Nat.reduceMul, Nat.reduceLeDiff, Nat.le_refl, reduceIte, reduceCtorEq, h8']; refine η _ ?_; clear η κ) | (refine r_nil (hK _ ?_); clear hE hK E K) | refine q_seq ?_ | refine c_cond false rfl (fun h => (by cases h)) fun _ => ?_ | refine c_skip ?_
      refine r_opN fun κ η => ?_; simp only [go_sem, Nat.reduceLT, Nat.reduceEqDiff, Nat.reduceAdd, Nat.reduceMul, Nat.reduceLeDiff, Nat.le_refl, reduceIte, reduceCtorEq]; refine ⟨_, hf, ?_⟩; simp only [go_sem, Nat.reduceLT, Nat.reduceEqDiff, Nat.reduceAdd, Nat.reduceMul, Nat.reduceLeDiff, Nat.le_refl, reduceIte, reduceCtorEq]; refine η _ ?_; clear η κ
      repeat' first | refine c_seq ?_ | refine c_reg' rfl fun K E hK hE => ?_ | (refine r_opN fun κ η => ?_; simp only [go_sem, Nat.reduceLT, Nat.reduceEqDiff, Nat.reduceAdd, Nat.reduceMul, Nat.reduceLeDiff, Nat.le_refl, reduceIte, reduceCtorEq, Int.toNat_natCast]; (repeat refine ⟨by (first | omega | exact ⟨_, rfl, rfl⟩), ?_⟩); refine η _ ?_; clear η κ) | (refine r_nil (hK _ ?_); clear hE hK E K) | refine q_seq ?_
      refine r_callF fun κ η => ?_; simp only [go_sem, Nat.reduceLT, Nat.reduceEqDiff, Nat.reduceAdd, Nat.reduceMul, Nat.reduceLeDiff, Nat.le_refl, reduceIte, reduceCtorEq]; refine ⟨_, (Cm.of_ct hst), ?_⟩; rintro _ _ ⟨rfl, rfl⟩; simp only [go_sem, Nat.reduceLT, Nat.reduceEqDiff, Nat.reduceAdd, Nat.reduceMul, Nat.reduceLeDiff, Nat.le_refl, reduceIte, reduceCtorEq]; refine η _ ?_; clear η κ
      repeat' first | refine c_seq ?_ | refine c_reg' rfl fun K E hK hE => ?_ | (refine r_opN fun κ η => ?_; simp only [go_sem, Nat.reduceLT, Nat.reduceEqDiff, Nat.reduceAdd, Nat.reduceMul, Nat.reduceLeDiff, Nat.le_refl, reduceIte, reduceCtorEq]; refine η _ ?_; clear η κ) | (refine r_nil (hK _ ?_); clear hE hK E K) | refine q_seq ?_
      refine r_opN fun κ η => ?_; simp only [go_sem, Nat.reduceLT, Nat.reduceEqDiff, Nat.reduceAdd, Nat.reduceMul, Nat.reduceLeDiff, Nat.le_refl, reduceIte, reduceCtorEq]; refine ⟨_, he, ?_⟩; simp only [go_sem, Nat.reduceLT, Nat.reduceEqDiff, Nat.reduceAdd, Nat.reduceMul, Nat.reduceLeDiff, Nat.le_refl, reduceIte, reduceCtorEq]; refine η _ ?_; clear η κ
      repeat' first | refine c_seq ?_ | refine c_reg' rfl fun K E hK hE => ?_ | ((first | refine r_opN fun κ η => ?_ | refine r_opG rfl fun κ η => ?_); simp only [go_sem, Nat.reduceLT, Nat.reduceEqDiff, Nat.reduceAdd, Nat.reduceMul, Nat.reduceLeDiff, Nat.le_refl, reduceIte, reduceCtorEq]; refine η _ ?_; clear η κ) | (refine r_nil (hK _ ?_); clear hE hK E K) | refine q_seq ?_ | refine c_cond false rfl (fun h => (by cases h)) fun _ => ?_ | refine c_skip ?_ | refine c_ret ?_ | (refine q_ret ?_; refine q_r1 ?_; simp only [go_sem, Nat.reduceLT, Nat.reduceEqDiff, Nat.reduceAdd, Nat.reduceMul, Nat.reduceLeDiff, Nat.le_refl, reduceIte, reduceCtorEq])
end Go.Proofs.YtfflfmpkjcomgaaDoor
