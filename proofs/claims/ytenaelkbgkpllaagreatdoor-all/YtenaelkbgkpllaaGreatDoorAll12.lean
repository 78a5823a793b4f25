/- The document's May, off, distance, far. -/
import Derived.Test.YtenaelkbgkpllaaGreatDoorAll11
import Derived.Test.YtenaelkbgkpllaaGreatDoorAll9
import Derived.Test.YtenaelkbgkpllaaGreatDoorAll8
namespace Go.Proofs.YtenaelkbgkpllaaGreatDoor
open Go.RowKit

theorem may_eq (q : Ward.Qr) : Ward.mayBe q = (if q.kind = 0 then ((Ward.coordOk q.a && Ward.coordOk q.b && Ward.coordOk q.c && Ward.coordOk q.d) && decide (q.a ≤ q.c) && decide (q.b ≤ q.d)) else if q.kind = 1 then ((Ward.coordOk q.x && Ward.coordOk q.y) && decide (1 ≤ q.k) && decide (q.k ≤ 20)) else false) := rfl
set_option maxRecDepth 100000 in
set_option maxHeartbeats 4000000 in
theorem may_ref (q : Ward.Qr) (w : World) :
    Calls Tryz.prog 101 #[Qv q] w fun e w' => e = .returned (.bool (Ward.mayBe q)) ∧ Below w.heap.size w w' := by
  have HM := hide (may_eq q)
  have HAR := hide (coord_ref q.a)
  have HBR := hide (coord_ref q.b)
  have HCR := hide (coord_ref q.c)
  have HDR := hide (coord_ref q.d)
  have HXR := hide (coord_ref q.x)
  have HYR := hide (coord_ref q.y)
  have HB0 := hide (fun o => (Below.refl w.heap.size w).alloc (Nat.le_refl _) o)
  generalize Ward.mayBe q = res at *
  generalize Ward.coordOk q.a = ca at *
  generalize Ward.coordOk q.b = cb at *
  generalize Ward.coordOk q.c = cc at *
  generalize Ward.coordOk q.d = cd at *
  generalize Ward.coordOk q.x = cx at *
  generalize Ward.coordOk q.y = cy at *
  obtain ⟨kd, qa, qb, qc, qd, qx, qy, qk⟩ := q
  go_enter Tryz.func101, Tryz.ntmps101
  go_upto_region 1 with fail
  have hc0 := fun i => cell_of_row (w.alloc (.cells #[I kd, I qa, I qb, I qc, I qd, I qx, I qy, I qk] 46)) w.heap.size i #[I kd, I qa, I qb, I qc, I qd, I qx, I qy, I qk] 46 (0, 0) (heap_alloc_new w _)
  have hbl := HB0.out (.cells #[I kd, I qa, I qb, I qc, I qd, I qx, I qy, I qk] 46)
  generalize w.alloc (.cells #[I kd, I qa, I qb, I qc, I qd, I qx, I qy, I qk] 46) = w1 at hc0 hbl ⊢
  have c0 : w1.cell? ⟨w.heap.size, 0, none⟩ = some (I kd) := hc0 0
  have c1 : w1.cell? ⟨w.heap.size, 1, none⟩ = some (I qa) := hc0 1
  have c2 : w1.cell? ⟨w.heap.size, 2, none⟩ = some (I qb) := hc0 2
  have c3 : w1.cell? ⟨w.heap.size, 3, none⟩ = some (I qc) := hc0 3
  have c4 : w1.cell? ⟨w.heap.size, 4, none⟩ = some (I qd) := hc0 4
  have c5 : w1.cell? ⟨w.heap.size, 5, none⟩ = some (I qx) := hc0 5
  have c6 : w1.cell? ⟨w.heap.size, 6, none⟩ = some (I qy) := hc0 6
  have c7 : w1.cell? ⟨w.heap.size, 7, none⟩ = some (I qk) := hc0 7
  have HBL := hide hbl
  clear hc0 hbl HB0
  go_cut [3] from 5 to 22 (fun v3 wx => v3 = .bool (ca && cb && cc && cd) ∧ wx = w1)
  case first =>
    cases ca with
    | false =>
      go_wp2_with (first | (go_at_call_of 91 (I qa); refine (HAR.out _).mono ?_; rintro _ _ ⟨rfl, rfl⟩) | (go_at_call_of 91 (I qb); refine (HBR.out _).mono ?_; rintro _ _ ⟨rfl, rfl⟩) | (go_at_call_of 91 (I qc); refine (HCR.out _).mono ?_; rintro _ _ ⟨rfl, rfl⟩) | (go_at_call_of 91 (I qd); refine (HDR.out _).mono ?_; rintro _ _ ⟨rfl, rfl⟩))
      go_meet
      exact ⟨rfl, rfl⟩
    | true =>
      cases cb with
      | false =>
        go_wp2_with (first | (go_at_call_of 91 (I qa); refine (HAR.out _).mono ?_; rintro _ _ ⟨rfl, rfl⟩) | (go_at_call_of 91 (I qb); refine (HBR.out _).mono ?_; rintro _ _ ⟨rfl, rfl⟩) | (go_at_call_of 91 (I qc); refine (HCR.out _).mono ?_; rintro _ _ ⟨rfl, rfl⟩) | (go_at_call_of 91 (I qd); refine (HDR.out _).mono ?_; rintro _ _ ⟨rfl, rfl⟩))
        go_meet
        exact ⟨rfl, rfl⟩
      | true =>
        cases cc with
        | false =>
          go_wp2_with (first | (go_at_call_of 91 (I qa); refine (HAR.out _).mono ?_; rintro _ _ ⟨rfl, rfl⟩) | (go_at_call_of 91 (I qb); refine (HBR.out _).mono ?_; rintro _ _ ⟨rfl, rfl⟩) | (go_at_call_of 91 (I qc); refine (HCR.out _).mono ?_; rintro _ _ ⟨rfl, rfl⟩) | (go_at_call_of 91 (I qd); refine (HDR.out _).mono ?_; rintro _ _ ⟨rfl, rfl⟩))
          go_meet
          exact ⟨rfl, rfl⟩
        | true =>
          cases cd with
          | false =>
            go_wp2_with (first | (go_at_call_of 91 (I qa); refine (HAR.out _).mono ?_; rintro _ _ ⟨rfl, rfl⟩) | (go_at_call_of 91 (I qb); refine (HBR.out _).mono ?_; rintro _ _ ⟨rfl, rfl⟩) | (go_at_call_of 91 (I qc); refine (HCR.out _).mono ?_; rintro _ _ ⟨rfl, rfl⟩) | (go_at_call_of 91 (I qd); refine (HDR.out _).mono ?_; rintro _ _ ⟨rfl, rfl⟩))
            go_meet
            exact ⟨rfl, rfl⟩
          | true =>
            go_wp2_with (first | (go_at_call_of 91 (I qa); refine (HAR.out _).mono ?_; rintro _ _ ⟨rfl, rfl⟩) | (go_at_call_of 91 (I qb); refine (HBR.out _).mono ?_; rintro _ _ ⟨rfl, rfl⟩) | (go_at_call_of 91 (I qc); refine (HCR.out _).mono ?_; rintro _ _ ⟨rfl, rfl⟩) | (go_at_call_of 91 (I qd); refine (HDR.out _).mono ?_; rintro _ _ ⟨rfl, rfl⟩))
            go_meet
            exact ⟨rfl, rfl⟩
  case rest =>
    obtain ⟨rfl, rfl⟩ := hcut
    generalize hA : (ca && cb && cc && cd) = A at *
    clear hA HAR HBR HCR HDR
    go_upto_region 2 with fail
    go_cut [4] from 23 to 30 (fun v4 wx => v4 = .bool (cx && cy) ∧ wx = wc)
    case first =>
      cases cx with
      | false =>
        go_wp2_with (first | (go_at_call_of 91 (I qx); refine (HXR.out _).mono ?_; rintro _ _ ⟨rfl, rfl⟩) | (go_at_call_of 91 (I qy); refine (HYR.out _).mono ?_; rintro _ _ ⟨rfl, rfl⟩))
        go_meet
        exact ⟨rfl, rfl⟩
      | true =>
        cases cy with
        | false =>
          go_wp2_with (first | (go_at_call_of 91 (I qx); refine (HXR.out _).mono ?_; rintro _ _ ⟨rfl, rfl⟩) | (go_at_call_of 91 (I qy); refine (HYR.out _).mono ?_; rintro _ _ ⟨rfl, rfl⟩))
          go_meet
          exact ⟨rfl, rfl⟩
        | true =>
          go_wp2_with (first | (go_at_call_of 91 (I qx); refine (HXR.out _).mono ?_; rintro _ _ ⟨rfl, rfl⟩) | (go_at_call_of 91 (I qy); refine (HYR.out _).mono ?_; rintro _ _ ⟨rfl, rfl⟩))
          go_meet
          exact ⟨rfl, rfl⟩
    case rest =>
      obtain ⟨rfl, rfl⟩ := hcut
      generalize hB : (cx && cy) = B at *
      clear hB HXR HYR
      by_cases hk0 : kd = 0
      · subst hk0
        cases A with
        | false =>
          have hres : res = false := by have := HM.out; simpa using this
          subst hres
          go_wp2_with fail
          go_ret
          exact ⟨rfl, HBL.out⟩
        | true =>
          by_cases h1 : qa ≤ qc
          · by_cases h2 : qb ≤ qd
            · have hres : res = true := by have := HM.out; simpa [h1, h2] using this
              subst hres
              go_wp2_with fail
              go_ret
              exact ⟨rfl, HBL.out⟩
            · have hres : res = false := by have := HM.out; simpa [h2] using this
              subst hres
              go_wp2_with fail
              go_ret
              exact ⟨rfl, HBL.out⟩
          · have hres : res = false := by have := HM.out; simpa [h1] using this
            subst hres
            go_wp2_with fail
            go_ret
            exact ⟨rfl, HBL.out⟩
      · by_cases hk1 : kd = 1
        · subst hk1
          cases B with
          | false =>
            have hres : res = false := by have := HM.out; simpa using this
            subst hres
            go_wp2_with fail
            go_ret
            exact ⟨rfl, HBL.out⟩
          | true =>
            by_cases h1 : 1 ≤ qk
            · by_cases h2 : qk ≤ 20
              · have hres : res = true := by have := HM.out; simpa [h1, h2] using this
                subst hres
                go_wp2_with fail
                go_ret
                exact ⟨rfl, HBL.out⟩
              · have hres : res = false := by have := HM.out; simpa [h2] using this
                subst hres
                go_wp2_with fail
                go_ret
                exact ⟨rfl, HBL.out⟩
            · have hres : res = false := by have := HM.out; simpa [h1] using this
              subst hres
              go_wp2_with fail
              go_ret
              exact ⟨rfl, HBL.out⟩
        · have hres : res = false := by have := HM.out; simpa [hk0, hk1] using this
          subst hres
          go_wp2_with fail
          go_ret
          exact ⟨rfl, HBL.out⟩
end Go.Proofs.YtenaelkbgkpllaaGreatDoor
/- The document's Look: the number at the place. -/
namespace Go.Proofs.YtenaelkbgkpllaaGreatDoor
open Go.RowKit

/-- a Look as it lies: the text, the place, whether it is bad; its points, its children -/
def LookRow (w : World) (l : Nat) (s : List UInt8) (i : Nat) (bad : Bool) (vL vK : Value) : Prop := w.heap[l]? = some (.cells #[Sv s, I i, .bool bad, vL, vK] 193 (0, 0))
theorem LookRow.lt {w : World} {l : Nat} {s : List UInt8} {i : Nat} {bad : Bool} {vL vK : Value} (h : LookRow w l s i bad vL vK) : l < w.heap.size := (Array.getElem?_eq_some_iff.1 h).1
theorem i32_signed {n : Nat} (h : n < 4294967296) : IntKind.i64.wrap (IntKind.i32.wrap (n : Int)) = Ward.signed n := by
  unfold Ward.signed
  have h1 : IntKind.i32.wrap (n : Int) = if n < 2147483648 then (n : Int) else (n : Int) - 4294967296 := by
    simp [IntKind.wrap, IntKind.signed, IntKind.bits]
    split <;> omega
  rw [h1]
  split <;> (rw [IntKind.wrap_i64]; omega)
set_option maxRecDepth 100000 in
set_option maxHeartbeats 2000000 in
theorem lsigned_ref (l : Nat) (s : List UInt8) (i : Nat) (bad : Bool) (vL vK : Value) (w : World) (hl : LookRow w l s i bad vL vK) (hi : i + 4 ≤ s.length) (hs : s.length ≤ 140737488355328) :
    Calls Tryz.prog 182 #[.pointer (some ⟨l, 0, none⟩)] w fun e w' => e = .returned (I (Ward.signed (Sha.word s i))) ∧ LookRow w' l s (i + 4) bad vL vK ∧ Keeps (fun k => k = l) w w' := by
  have hlt := hl.lt
  have HL := hide hl
  have c0 : w.cell? ⟨l, 0, none⟩ = some (Sv s) := by rw [cell_of_row _ _ _ _ _ _ hl]; rfl
  have c1 : w.cell? ⟨l, 1, none⟩ = some (I i) := by rw [cell_of_row _ _ _ _ _ _ hl]; rfl
  have HNR := hide (fun W => number_ref ⟨s.toArray⟩ i W (by show _ ≤ s.toArray.size; rw [List.size_toArray]; exact hi) (by show s.toArray.size ≤ _; rw [List.size_toArray]; unfold maxLen; omega))
  have HWD := hide (show (⟨s.toArray⟩ : ByteArray).data.toList = s from rfl)
  rw [HWD.out] at HNR
  have hlw := Ward.word_lt s i
  have HSG := hide (i32_signed hlw)
  generalize Sha.word s i = nn at *
  clear hl
  go_enter Tryz.func182, Tryz.ntmps182
  go_upto_region 1 with fail
  have hS : w.cell? ⟨l, 0, none⟩ = some (Sv s) ∧ w.cell? ⟨l, 1, none⟩ = some (I i) := ⟨c0, c1⟩
  go_cut [3] from 4 to 14 (fun v3 wx => v3 = I (Ward.signed nn) ∧ ∃ k, wx = w.drewN k)
  case first =>
    go_region_held3 (fun W => W.cell? ⟨l, 0, none⟩ = some (Sv s) ∧ W.cell? ⟨l, 1, none⟩ = some (I i)) (first | assumption | exact hS | exact ⟨by simpa using c0, by simpa using c1⟩) ((go_at_call 158; refine (HNR.out _).mono ?_; rintro _ w6 ⟨rfl, k6, hk6⟩))
    all_goals
      go_wp2_with fail
      rw [HSG.out]
      go_meet
      exact ⟨rfl, _, rfl⟩
  case rest =>
    obtain ⟨rfl, k, rfl⟩ := hcut
    have hrow : (w.drewN k).heap[l]? = some (.cells #[Sv s, I i, .bool bad, vL, vK] 193 (0, 0)) := HL.out
    have hK : Keeps (fun j => j = l) w (w.drewN k) := ⟨rfl, rfl, rfl, Nat.le_refl _, fun _ _ _ => rfl⟩
    generalize w.drewN k = w5 at *
    have d1 : w5.cell? ⟨l, 1, none⟩ = some (I i) := by rw [cell_of_row _ _ _ _ _ _ hrow]; rfl
    have hfz : w5.frozen? ⟨l, 1, none⟩ = false := frozen_of_row _ _ _ _ _ hrow
    have HEND := hide (show LookRow (w5.setCell ⟨l, 1, none⟩ (.int .i64 ((i : Int) + 4))) l s (i + 4) bad vL vK ∧ Keeps (fun j => j = l) w (w5.setCell ⟨l, 1, none⟩ (.int .i64 ((i : Int) + 4))) from by
      refine ⟨?_, hK.trans (S' := fun j => j = l) ⟨rfl, rfl, rfl, by simp, fun j hj hn => Below.heap_setCell _ _ _ _ hn⟩ (fun _ _ h => h)⟩
      have := heap_setCell_same w5 l 1 #[Sv s, I i, .bool bad, vL, vK] 193 (.int .i64 ((i : Int) + 4)) hrow
      exact this)
    clear hrow hK hS c0 c1
    go_wp2_with fail
    go_ret
    exact ⟨rfl, HEND.out⟩
end Go.Proofs.YtenaelkbgkpllaaGreatDoor
/- The document's Look: are there so many bytes more? -/
namespace Go.Proofs.YtenaelkbgkpllaaGreatDoor
open Go.RowKit

set_option maxRecDepth 100000 in
set_option maxHeartbeats 2000000 in
theorem has_ref (l : Nat) (s : List UInt8) (i n : Nat) (bad : Bool) (vL vK : Value) (w : World) (hl : LookRow w l s i bad vL vK) (hi : i ≤ s.length) (hs : s.length ≤ 140737488355328) :
    Calls Tryz.prog 160 #[.pointer (some ⟨l, 0, none⟩), I n] w fun e w' => e = .returned (.bool (!(bad || decide (s.length < i + n)))) ∧ LookRow w' l s i (bad || decide (s.length < i + n)) vL vK ∧ Keeps (fun k => k = l) w w' := by
  have hlt := hl.lt
  have HL := hide hl
  have c0 : w.cell? ⟨l, 0, none⟩ = some (Sv s) := by rw [cell_of_row _ _ _ _ _ _ hl]; rfl
  have c1 : w.cell? ⟨l, 1, none⟩ = some (I i) := by rw [cell_of_row _ _ _ _ _ _ hl]; rfl
  have c2 : w.cell? ⟨l, 2, none⟩ = some (.bool bad) := by rw [cell_of_row _ _ _ _ _ _ hl]; rfl
  have hfz : w.frozen? ⟨l, 2, none⟩ = false := frozen_of_row _ _ _ _ _ hl
  have HSET := hide (fun b => show LookRow ((w.setCell ⟨l, 2, none⟩ (.bool b)).drew) l s i b vL vK ∧ Keeps (fun j => j = l) w ((w.setCell ⟨l, 2, none⟩ (.bool b)).drew) from by
    refine ⟨?_, ⟨rfl, rfl, rfl, by simp, fun j hj hn => Below.heap_setCell _ _ _ _ hn⟩⟩
    exact heap_setCell_same w l 2 #[Sv s, I i, .bool bad, vL, vK] 193 (.bool b) hl)
  have hsz : (⟨s.toArray⟩ : ByteArray).size = s.length := by show s.toArray.size = _; rw [List.size_toArray]
  clear hl
  cases bad with
  | true =>
    have HEND := hide (HSET.out true)
    rw [Bool.true_or]
    clear HSET HL
    go_enter Tryz.func160, Tryz.ntmps160
    go_upto_region 1 with fail
    have hS : w.drew.cell? ⟨l, 0, none⟩ = some (Sv s) ∧ w.drew.cell? ⟨l, 1, none⟩ = some (I i) ∧ w.drew.cell? ⟨l, 2, none⟩ = some (.bool true) := ⟨by simpa using c0, by simpa using c1, by simpa using c2⟩
    refine wp_region_L 21 (fun W => W.cell? ⟨l, 0, none⟩ = some (Sv s) ∧ W.cell? ⟨l, 1, none⟩ = some (I i) ∧ W.cell? ⟨l, 2, none⟩ = some (.bool true)) (by kernel_rfl) hS (fun hH => ?_)
    clear hS
    refine wpAnyL_take (i := 0) (v := ?_) rfl (by kernel_rfl) (by kernel_rfl) (by kernel_rfl) (by kernel_rfl) (by kernel_rfl) (fun _ _ _ h => h) (Or.inl ⟨by rfl, ?_⟩) hH ?_
    rotate_left
    · intro W hSW
      obtain ⟨z0, z1, z2⟩ := hSW
      go_simp
      try with_reducible rfl
    try go_simp
    refine wpAnyL_take (i := 1) (v := ?_) rfl (by kernel_rfl) (by kernel_rfl) (by kernel_rfl) (by kernel_rfl) (by kernel_rfl) (fun _ _ _ h => h) (Or.inl ⟨by rfl, ?_⟩) hH ?_
    rotate_left
    · intro W hSW
      obtain ⟨z0, z1, z2⟩ := hSW
      go_simp
      try with_reducible rfl
    try go_simp
    refine wpAnyL_take (i := 2) (v := ?_) rfl (by kernel_rfl) (by kernel_rfl) (by kernel_rfl) (by kernel_rfl) (by kernel_rfl) (fun _ _ _ h => h) (Or.inl ⟨by rfl, ?_⟩) hH ?_
    rotate_left
    · intro W hSW
      obtain ⟨z0, z1, z2⟩ := hSW
      go_simp
      try with_reducible rfl
    try go_simp
    refine wpAnyL_take (i := 3) (v := ?_) rfl (by kernel_rfl) (by kernel_rfl) (by kernel_rfl) (by kernel_rfl) (by kernel_rfl) (fun _ _ _ h => h) (Or.inl ⟨by rfl, ?_⟩) hH ?_
    rotate_left
    · intro W hSW
      obtain ⟨z0, z1, z2⟩ := hSW
      go_simp
      try with_reducible rfl
    try go_simp
    refine wpAnyL_take (i := 4) (v := ?_) rfl (by kernel_rfl) (by kernel_rfl) (by kernel_rfl) (by kernel_rfl) (by kernel_rfl) (fun _ _ _ h => h) (Or.inl ⟨by rfl, ?_⟩) hH ?_
    rotate_left
    · intro W hSW
      obtain ⟨z0, z1, z2⟩ := hSW
      go_simp
      try with_reducible rfl
    try go_simp
    refine wpAnyL_take (i := 5) (v := ?_) rfl (by kernel_rfl) (by kernel_rfl) (by kernel_rfl) (by kernel_rfl) (by kernel_rfl) (fun _ _ _ h => h) (Or.inl ⟨by rfl, ?_⟩) hH ?_
    rotate_left
    · intro W hSW
      obtain ⟨z0, z1, z2⟩ := hSW
      go_simp
      try with_reducible rfl
    try go_simp
    refine wpAnyL_take (i := 6) (v := undef) rfl (by kernel_rfl) (by kernel_rfl) (by kernel_rfl) (by kernel_rfl) (by kernel_rfl) (fun _ _ _ h => h) (Or.inr ⟨by rfl, rfl⟩) hH ?_
    try go_simp
    refine wpAnyL_take (i := 7) (v := undef) rfl (by kernel_rfl) (by kernel_rfl) (by kernel_rfl) (by kernel_rfl) (by kernel_rfl) (fun _ _ _ h => h) (Or.inr ⟨by rfl, rfl⟩) hH ?_
    try go_simp
    refine wpAnyL_take (i := 8) (v := undef) rfl (by kernel_rfl) (by kernel_rfl) (by kernel_rfl) (by kernel_rfl) (by kernel_rfl) (fun _ _ _ h => h) (Or.inr ⟨by rfl, rfl⟩) hH ?_
    try go_simp
    refine wpAnyL_take (i := 9) (v := undef) rfl (by kernel_rfl) (by kernel_rfl) (by kernel_rfl) (by kernel_rfl) (by kernel_rfl) (fun _ _ _ h => h) (Or.inr ⟨by rfl, rfl⟩) hH ?_
    try go_simp
    refine wpAnyL_take (i := 10) (v := undef) rfl (by kernel_rfl) (by kernel_rfl) (by kernel_rfl) (by kernel_rfl) (by kernel_rfl) (fun _ _ _ h => h) (Or.inr ⟨by rfl, rfl⟩) hH ?_
    try go_simp
    refine wpAnyL_take (i := 11) (v := undef) rfl (by kernel_rfl) (by kernel_rfl) (by kernel_rfl) (by kernel_rfl) (by kernel_rfl) (fun _ _ _ h => h) (Or.inr ⟨by rfl, rfl⟩) hH ?_
    try go_simp
    refine wpAnyL_take (i := 12) (v := undef) rfl (by kernel_rfl) (by kernel_rfl) (by kernel_rfl) (by kernel_rfl) (by kernel_rfl) (fun _ _ _ h => h) (Or.inr ⟨by rfl, rfl⟩) hH ?_
    try go_simp
    refine wpAnyL_take (i := 13) (v := undef) rfl (by kernel_rfl) (by kernel_rfl) (by kernel_rfl) (by kernel_rfl) (by kernel_rfl) (fun _ _ _ h => h) (Or.inr ⟨by rfl, rfl⟩) hH ?_
    try go_simp
    refine wpAnyL_take (i := 14) (v := undef) rfl (by kernel_rfl) (by kernel_rfl) (by kernel_rfl) (by kernel_rfl) (by kernel_rfl) (fun _ _ _ h => h) (Or.inr ⟨by rfl, rfl⟩) hH ?_
    try go_simp
    refine wpAnyL_take (i := 15) (v := undef) rfl (by kernel_rfl) (by kernel_rfl) (by kernel_rfl) (by kernel_rfl) (by kernel_rfl) (fun _ _ _ h => h) (Or.inr ⟨by rfl, rfl⟩) hH ?_
    try go_simp
    refine wpAnyL_take (i := 16) (v := undef) rfl (by kernel_rfl) (by kernel_rfl) (by kernel_rfl) (by kernel_rfl) (by kernel_rfl) (fun _ _ _ h => h) (Or.inr ⟨by rfl, rfl⟩) hH ?_
    try go_simp
    refine wpAnyL_take (i := 17) (v := undef) rfl (by kernel_rfl) (by kernel_rfl) (by kernel_rfl) (by kernel_rfl) (by kernel_rfl) (fun _ _ _ h => h) (Or.inr ⟨by rfl, rfl⟩) hH ?_
    try go_simp
    refine wpAnyL_take (i := 18) (v := ?_) rfl (by kernel_rfl) (by kernel_rfl) (by kernel_rfl) (by kernel_rfl) (by kernel_rfl) (fun _ _ _ h => h) (Or.inl ⟨by rfl, ?_⟩) hH ?_
    rotate_left
    · intro W hSW
      obtain ⟨z0, z1, z2⟩ := hSW
      go_simp
      try with_reducible rfl
    try go_simp
    refine wpAnyL_one (i := 19) (by kernel_rfl) rfl (fun K hK => ?_)
    go_simp
    refine hK.out _ _ (fun _ => hH) ?_
    clear hK K
    try go_simp
    refine wpAnyL_one (i := 20) (by kernel_rfl) rfl (fun K hK => ?_)
    go_simp
    refine hK.out _ _ (fun _ => hH) ?_
    clear hK K
    try go_simp
    refine wpAnyL_one (i := 21) (by kernel_rfl) rfl (fun K hK => ?_)
    go_simp
    refine hK.out _ _ (fun h => absurd rfl h) ?_
    clear hK K
    refine wpAnyL_done (by kernel_rfl) ?_ _
    go_wp2_with fail
    go_ret
    exact ⟨rfl, HEND.out⟩
  | false =>
    rw [Bool.false_or]
    by_cases hc : s.length < i + n
    · have HEND := hide (HSET.out true)
      have hc' : (s.length : Int) - (i : Int) < (n : Int) := by omega
      rw [decide_eq_true hc]
      clear HSET HL hc
      go_enter Tryz.func160, Tryz.ntmps160
      go_upto_region 1 with fail
      have hS : w.drew.cell? ⟨l, 0, none⟩ = some (Sv s) ∧ w.drew.cell? ⟨l, 1, none⟩ = some (I i) ∧ w.drew.cell? ⟨l, 2, none⟩ = some (.bool false) := ⟨by simpa using c0, by simpa using c1, by simpa using c2⟩
      refine wp_region_L 21 (fun W => W.cell? ⟨l, 0, none⟩ = some (Sv s) ∧ W.cell? ⟨l, 1, none⟩ = some (I i) ∧ W.cell? ⟨l, 2, none⟩ = some (.bool false)) (by kernel_rfl) hS (fun hH => ?_)
      clear hS
      refine wpAnyL_take (i := 0) (v := ?_) rfl (by kernel_rfl) (by kernel_rfl) (by kernel_rfl) (by kernel_rfl) (by kernel_rfl) (fun _ _ _ h => h) (Or.inl ⟨by rfl, ?_⟩) hH ?_
      rotate_left
      · intro W hSW
        obtain ⟨z0, z1, z2⟩ := hSW
        go_simp
        try with_reducible rfl
      try go_simp
      refine wpAnyL_take (i := 1) (v := ?_) rfl (by kernel_rfl) (by kernel_rfl) (by kernel_rfl) (by kernel_rfl) (by kernel_rfl) (fun _ _ _ h => h) (Or.inl ⟨by rfl, ?_⟩) hH ?_
      rotate_left
      · intro W hSW
        obtain ⟨z0, z1, z2⟩ := hSW
        go_simp
        try with_reducible rfl
      try go_simp
      refine wpAnyL_take (i := 2) (v := ?_) rfl (by kernel_rfl) (by kernel_rfl) (by kernel_rfl) (by kernel_rfl) (by kernel_rfl) (fun _ _ _ h => h) (Or.inl ⟨by rfl, ?_⟩) hH ?_
      rotate_left
      · intro W hSW
        obtain ⟨z0, z1, z2⟩ := hSW
        go_simp
        try with_reducible rfl
      try go_simp
      refine wpAnyL_take (i := 3) (v := ?_) rfl (by kernel_rfl) (by kernel_rfl) (by kernel_rfl) (by kernel_rfl) (by kernel_rfl) (fun _ _ _ h => h) (Or.inl ⟨by rfl, ?_⟩) hH ?_
      rotate_left
      · intro W hSW
        obtain ⟨z0, z1, z2⟩ := hSW
        go_simp
        try with_reducible rfl
      try go_simp
      refine wpAnyL_take (i := 4) (v := ?_) rfl (by kernel_rfl) (by kernel_rfl) (by kernel_rfl) (by kernel_rfl) (by kernel_rfl) (fun _ _ _ h => h) (Or.inl ⟨by rfl, ?_⟩) hH ?_
      rotate_left
      · intro W hSW
        obtain ⟨z0, z1, z2⟩ := hSW
        go_simp
        try with_reducible rfl
      try go_simp
      refine wpAnyL_take (i := 5) (v := ?_) rfl (by kernel_rfl) (by kernel_rfl) (by kernel_rfl) (by kernel_rfl) (by kernel_rfl) (fun _ _ _ h => h) (Or.inl ⟨by rfl, ?_⟩) hH ?_
      rotate_left
      · intro W hSW
        obtain ⟨z0, z1, z2⟩ := hSW
        go_simp
        try with_reducible rfl
      try go_simp
      refine wpAnyL_take (i := 6) (v := ?_) rfl (by kernel_rfl) (by kernel_rfl) (by kernel_rfl) (by kernel_rfl) (by kernel_rfl) (fun _ _ _ h => h) (Or.inl ⟨by rfl, ?_⟩) hH ?_
      rotate_left
      · intro W hSW
        obtain ⟨z0, z1, z2⟩ := hSW
        go_simp
        try with_reducible rfl
      try go_simp
      refine wpAnyL_take (i := 7) (v := ?_) rfl (by kernel_rfl) (by kernel_rfl) (by kernel_rfl) (by kernel_rfl) (by kernel_rfl) (fun _ _ _ h => h) (Or.inl ⟨by rfl, ?_⟩) hH ?_
      rotate_left
      · intro W hSW
        obtain ⟨z0, z1, z2⟩ := hSW
        go_simp
        try with_reducible rfl
      try go_simp
      refine wpAnyL_take (i := 8) (v := ?_) rfl (by kernel_rfl) (by kernel_rfl) (by kernel_rfl) (by kernel_rfl) (by kernel_rfl) (fun _ _ _ h => h) (Or.inl ⟨by rfl, ?_⟩) hH ?_
      rotate_left
      · intro W hSW
        obtain ⟨z0, z1, z2⟩ := hSW
        go_simp
        try with_reducible rfl
      try go_simp
      refine wpAnyL_take (i := 9) (v := ?_) rfl (by kernel_rfl) (by kernel_rfl) (by kernel_rfl) (by kernel_rfl) (by kernel_rfl) (fun _ _ _ h => h) (Or.inl ⟨by rfl, ?_⟩) hH ?_
      rotate_left
      · intro W hSW
        obtain ⟨z0, z1, z2⟩ := hSW
        go_simp
        try with_reducible rfl
      try go_simp
      refine wpAnyL_take (i := 10) (v := ?_) rfl (by kernel_rfl) (by kernel_rfl) (by kernel_rfl) (by kernel_rfl) (by kernel_rfl) (fun _ _ _ h => h) (Or.inl ⟨by rfl, ?_⟩) hH ?_
      rotate_left
      · intro W hSW
        obtain ⟨z0, z1, z2⟩ := hSW
        go_simp
        try with_reducible rfl
      try go_simp
      refine wpAnyL_take (i := 11) (v := ?_) rfl (by kernel_rfl) (by kernel_rfl) (by kernel_rfl) (by kernel_rfl) (by kernel_rfl) (fun _ _ _ h => h) (Or.inl ⟨by rfl, ?_⟩) hH ?_
      rotate_left
      · intro W hSW
        obtain ⟨z0, z1, z2⟩ := hSW
        go_simp
        try with_reducible rfl
      try go_simp
      refine wpAnyL_take (i := 12) (v := ?_) rfl (by kernel_rfl) (by kernel_rfl) (by kernel_rfl) (by kernel_rfl) (by kernel_rfl) (fun _ _ _ h => h) (Or.inl ⟨by rfl, ?_⟩) hH ?_
      rotate_left
      · intro W hSW
        obtain ⟨z0, z1, z2⟩ := hSW
        go_simp
        try with_reducible rfl
      try go_simp
      refine wpAnyL_take (i := 13) (v := ?_) rfl (by kernel_rfl) (by kernel_rfl) (by kernel_rfl) (by kernel_rfl) (by kernel_rfl) (fun _ _ _ h => h) (Or.inl ⟨by rfl, ?_⟩) hH ?_
      rotate_left
      · intro W hSW
        obtain ⟨z0, z1, z2⟩ := hSW
        go_simp
        try with_reducible rfl
      try go_simp
      refine wpAnyL_take (i := 14) (v := ?_) rfl (by kernel_rfl) (by kernel_rfl) (by kernel_rfl) (by kernel_rfl) (by kernel_rfl) (fun _ _ _ h => h) (Or.inl ⟨by rfl, ?_⟩) hH ?_
      rotate_left
      · intro W hSW
        obtain ⟨z0, z1, z2⟩ := hSW
        go_simp
        try with_reducible rfl
      try go_simp
      refine wpAnyL_take (i := 15) (v := ?_) rfl (by kernel_rfl) (by kernel_rfl) (by kernel_rfl) (by kernel_rfl) (by kernel_rfl) (fun _ _ _ h => h) (Or.inl ⟨by rfl, ?_⟩) hH ?_
      rotate_left
      · intro W hSW
        obtain ⟨z0, z1, z2⟩ := hSW
        go_simp
        try with_reducible rfl
      try go_simp
      refine wpAnyL_take (i := 16) (v := ?_) rfl (by kernel_rfl) (by kernel_rfl) (by kernel_rfl) (by kernel_rfl) (by kernel_rfl) (fun _ _ _ h => h) (Or.inl ⟨by rfl, ?_⟩) hH ?_
      rotate_left
      · intro W hSW
        obtain ⟨z0, z1, z2⟩ := hSW
        go_simp
        try with_reducible rfl
      try go_simp
      refine wpAnyL_take (i := 17) (v := ?_) rfl (by kernel_rfl) (by kernel_rfl) (by kernel_rfl) (by kernel_rfl) (by kernel_rfl) (fun _ _ _ h => h) (Or.inl ⟨by rfl, ?_⟩) hH ?_
      rotate_left
      · intro W hSW
        obtain ⟨z0, z1, z2⟩ := hSW
        go_simp
        try with_reducible rfl
      try go_simp
      refine wpAnyL_take (i := 18) (v := ?_) rfl (by kernel_rfl) (by kernel_rfl) (by kernel_rfl) (by kernel_rfl) (by kernel_rfl) (fun _ _ _ h => h) (Or.inl ⟨by rfl, ?_⟩) hH ?_
      rotate_left
      · intro W hSW
        obtain ⟨z0, z1, z2⟩ := hSW
        go_simp
        try with_reducible rfl
      try go_simp
      refine wpAnyL_one (i := 19) (by kernel_rfl) rfl (fun K hK => ?_)
      go_simp
      refine hK.out _ _ (fun _ => hH) ?_
      clear hK K
      try go_simp
      refine wpAnyL_one (i := 20) (by kernel_rfl) rfl (fun K hK => ?_)
      go_simp
      refine hK.out _ _ (fun _ => hH) ?_
      clear hK K
      try go_simp
      refine wpAnyL_one (i := 21) (by kernel_rfl) rfl (fun K hK => ?_)
      go_simp
      refine hK.out _ _ (fun h => absurd rfl h) ?_
      clear hK K
      refine wpAnyL_done (by kernel_rfl) ?_ _
      go_wp2_with fail
      go_ret
      exact ⟨rfl, HEND.out⟩
    · have HEND := hide (HSET.out false)
      have hc' : ¬ (s.length : Int) - (i : Int) < (n : Int) := by omega
      rw [decide_eq_false hc]
      clear HSET HL hc
      go_enter Tryz.func160, Tryz.ntmps160
      go_upto_region 1 with fail
      have hS : w.drew.cell? ⟨l, 0, none⟩ = some (Sv s) ∧ w.drew.cell? ⟨l, 1, none⟩ = some (I i) ∧ w.drew.cell? ⟨l, 2, none⟩ = some (.bool false) := ⟨by simpa using c0, by simpa using c1, by simpa using c2⟩
      refine wp_region_L 21 (fun W => W.cell? ⟨l, 0, none⟩ = some (Sv s) ∧ W.cell? ⟨l, 1, none⟩ = some (I i) ∧ W.cell? ⟨l, 2, none⟩ = some (.bool false)) (by kernel_rfl) hS (fun hH => ?_)
      clear hS
      refine wpAnyL_take (i := 0) (v := ?_) rfl (by kernel_rfl) (by kernel_rfl) (by kernel_rfl) (by kernel_rfl) (by kernel_rfl) (fun _ _ _ h => h) (Or.inl ⟨by rfl, ?_⟩) hH ?_
      rotate_left
      · intro W hSW
        obtain ⟨z0, z1, z2⟩ := hSW
        go_simp
        try with_reducible rfl
      try go_simp
      refine wpAnyL_take (i := 1) (v := ?_) rfl (by kernel_rfl) (by kernel_rfl) (by kernel_rfl) (by kernel_rfl) (by kernel_rfl) (fun _ _ _ h => h) (Or.inl ⟨by rfl, ?_⟩) hH ?_
      rotate_left
      · intro W hSW
        obtain ⟨z0, z1, z2⟩ := hSW
        go_simp
        try with_reducible rfl
      try go_simp
      refine wpAnyL_take (i := 2) (v := ?_) rfl (by kernel_rfl) (by kernel_rfl) (by kernel_rfl) (by kernel_rfl) (by kernel_rfl) (fun _ _ _ h => h) (Or.inl ⟨by rfl, ?_⟩) hH ?_
      rotate_left
      · intro W hSW
        obtain ⟨z0, z1, z2⟩ := hSW
        go_simp
        try with_reducible rfl
      try go_simp
      refine wpAnyL_take (i := 3) (v := ?_) rfl (by kernel_rfl) (by kernel_rfl) (by kernel_rfl) (by kernel_rfl) (by kernel_rfl) (fun _ _ _ h => h) (Or.inl ⟨by rfl, ?_⟩) hH ?_
      rotate_left
      · intro W hSW
        obtain ⟨z0, z1, z2⟩ := hSW
        go_simp
        try with_reducible rfl
      try go_simp
      refine wpAnyL_take (i := 4) (v := ?_) rfl (by kernel_rfl) (by kernel_rfl) (by kernel_rfl) (by kernel_rfl) (by kernel_rfl) (fun _ _ _ h => h) (Or.inl ⟨by rfl, ?_⟩) hH ?_
      rotate_left
      · intro W hSW
        obtain ⟨z0, z1, z2⟩ := hSW
        go_simp
        try with_reducible rfl
      try go_simp
      refine wpAnyL_take (i := 5) (v := ?_) rfl (by kernel_rfl) (by kernel_rfl) (by kernel_rfl) (by kernel_rfl) (by kernel_rfl) (fun _ _ _ h => h) (Or.inl ⟨by rfl, ?_⟩) hH ?_
      rotate_left
      · intro W hSW
        obtain ⟨z0, z1, z2⟩ := hSW
        go_simp
        try with_reducible rfl
      try go_simp
      refine wpAnyL_take (i := 6) (v := ?_) rfl (by kernel_rfl) (by kernel_rfl) (by kernel_rfl) (by kernel_rfl) (by kernel_rfl) (fun _ _ _ h => h) (Or.inl ⟨by rfl, ?_⟩) hH ?_
      rotate_left
      · intro W hSW
        obtain ⟨z0, z1, z2⟩ := hSW
        go_simp
        try with_reducible rfl
      try go_simp
      refine wpAnyL_take (i := 7) (v := ?_) rfl (by kernel_rfl) (by kernel_rfl) (by kernel_rfl) (by kernel_rfl) (by kernel_rfl) (fun _ _ _ h => h) (Or.inl ⟨by rfl, ?_⟩) hH ?_
      rotate_left
      · intro W hSW
        obtain ⟨z0, z1, z2⟩ := hSW
        go_simp
        try with_reducible rfl
      try go_simp
      refine wpAnyL_take (i := 8) (v := ?_) rfl (by kernel_rfl) (by kernel_rfl) (by kernel_rfl) (by kernel_rfl) (by kernel_rfl) (fun _ _ _ h => h) (Or.inl ⟨by rfl, ?_⟩) hH ?_
      rotate_left
      · intro W hSW
        obtain ⟨z0, z1, z2⟩ := hSW
        go_simp
        try with_reducible rfl
      try go_simp
      refine wpAnyL_take (i := 9) (v := ?_) rfl (by kernel_rfl) (by kernel_rfl) (by kernel_rfl) (by kernel_rfl) (by kernel_rfl) (fun _ _ _ h => h) (Or.inl ⟨by rfl, ?_⟩) hH ?_
      rotate_left
      · intro W hSW
        obtain ⟨z0, z1, z2⟩ := hSW
        go_simp
        try with_reducible rfl
      try go_simp
      refine wpAnyL_take (i := 10) (v := ?_) rfl (by kernel_rfl) (by kernel_rfl) (by kernel_rfl) (by kernel_rfl) (by kernel_rfl) (fun _ _ _ h => h) (Or.inl ⟨by rfl, ?_⟩) hH ?_
      rotate_left
      · intro W hSW
        obtain ⟨z0, z1, z2⟩ := hSW
        go_simp
        try with_reducible rfl
      try go_simp
      refine wpAnyL_take (i := 11) (v := ?_) rfl (by kernel_rfl) (by kernel_rfl) (by kernel_rfl) (by kernel_rfl) (by kernel_rfl) (fun _ _ _ h => h) (Or.inl ⟨by rfl, ?_⟩) hH ?_
      rotate_left
      · intro W hSW
        obtain ⟨z0, z1, z2⟩ := hSW
        go_simp
        try with_reducible rfl
      try go_simp
      refine wpAnyL_take (i := 12) (v := ?_) rfl (by kernel_rfl) (by kernel_rfl) (by kernel_rfl) (by kernel_rfl) (by kernel_rfl) (fun _ _ _ h => h) (Or.inl ⟨by rfl, ?_⟩) hH ?_
      rotate_left
      · intro W hSW
        obtain ⟨z0, z1, z2⟩ := hSW
        go_simp
        try with_reducible rfl
      try go_simp
      refine wpAnyL_take (i := 13) (v := ?_) rfl (by kernel_rfl) (by kernel_rfl) (by kernel_rfl) (by kernel_rfl) (by kernel_rfl) (fun _ _ _ h => h) (Or.inl ⟨by rfl, ?_⟩) hH ?_
      rotate_left
      · intro W hSW
        obtain ⟨z0, z1, z2⟩ := hSW
        go_simp
        try with_reducible rfl
      try go_simp
      refine wpAnyL_take (i := 14) (v := ?_) rfl (by kernel_rfl) (by kernel_rfl) (by kernel_rfl) (by kernel_rfl) (by kernel_rfl) (fun _ _ _ h => h) (Or.inl ⟨by rfl, ?_⟩) hH ?_
      rotate_left
      · intro W hSW
        obtain ⟨z0, z1, z2⟩ := hSW
        go_simp
        try with_reducible rfl
      try go_simp
      refine wpAnyL_take (i := 15) (v := ?_) rfl (by kernel_rfl) (by kernel_rfl) (by kernel_rfl) (by kernel_rfl) (by kernel_rfl) (fun _ _ _ h => h) (Or.inl ⟨by rfl, ?_⟩) hH ?_
      rotate_left
      · intro W hSW
        obtain ⟨z0, z1, z2⟩ := hSW
        go_simp
        try with_reducible rfl
      try go_simp
      refine wpAnyL_take (i := 16) (v := ?_) rfl (by kernel_rfl) (by kernel_rfl) (by kernel_rfl) (by kernel_rfl) (by kernel_rfl) (fun _ _ _ h => h) (Or.inl ⟨by rfl, ?_⟩) hH ?_
      rotate_left
      · intro W hSW
        obtain ⟨z0, z1, z2⟩ := hSW
        go_simp
        try with_reducible rfl
      try go_simp
      refine wpAnyL_take (i := 17) (v := ?_) rfl (by kernel_rfl) (by kernel_rfl) (by kernel_rfl) (by kernel_rfl) (by kernel_rfl) (fun _ _ _ h => h) (Or.inl ⟨by rfl, ?_⟩) hH ?_
      rotate_left
      · intro W hSW
        obtain ⟨z0, z1, z2⟩ := hSW
        go_simp
        try with_reducible rfl
      try go_simp
      refine wpAnyL_take (i := 18) (v := ?_) rfl (by kernel_rfl) (by kernel_rfl) (by kernel_rfl) (by kernel_rfl) (by kernel_rfl) (fun _ _ _ h => h) (Or.inl ⟨by rfl, ?_⟩) hH ?_
      rotate_left
      · intro W hSW
        obtain ⟨z0, z1, z2⟩ := hSW
        go_simp
        try with_reducible rfl
      try go_simp
      refine wpAnyL_one (i := 19) (by kernel_rfl) rfl (fun K hK => ?_)
      go_simp
      refine hK.out _ _ (fun _ => hH) ?_
      clear hK K
      try go_simp
      refine wpAnyL_one (i := 20) (by kernel_rfl) rfl (fun K hK => ?_)
      go_simp
      refine hK.out _ _ (fun _ => hH) ?_
      clear hK K
      try go_simp
      refine wpAnyL_one (i := 21) (by kernel_rfl) rfl (fun K hK => ?_)
      go_simp
      refine hK.out _ _ (fun h => absurd rfl h) ?_
      clear hK K
      refine wpAnyL_done (by kernel_rfl) ?_ _
      go_wp2_with fail
      go_ret
      exact ⟨rfl, HEND.out⟩
end Go.Proofs.YtenaelkbgkpllaaGreatDoor
/- What a proof taken apart is, and that each text has one. -/
namespace Go.Proofs.YtenaelkbgkpllaaGreatDoor
namespace Ward
/-- the text of what is shown below a node -/
def textS : (n : Nat) → NT n → List UInt8
  | 0, t => nomatch t
  | n + 1, t => if (Nd.kids t).length = 0 then leafText (Nd.pts t) else 2 :: UInt8.ofNat (Nd.kids t).length :: (Nd.kids t).flatMap fun c => saidN n c ++ (if shownN n c = true then 1 :: textS n c else [0])
def kidText (n : Nat) (c : NT n) : List UInt8 := saidN n c ++ (if shownN n c = true then 1 :: textS n c else [0])
theorem textS_kids (n : Nat) (t : NT (n + 1)) (h : 0 < (Nd.kids t).length) : textS (n + 1) t = 2 :: UInt8.ofNat (Nd.kids t).length :: (Nd.kids t).flatMap (kidText n) := by
  rw [textS, if_neg (by omega)]; rfl
theorem textS_leaf (n : Nat) (t : NT (n + 1)) (h : (Nd.kids t).length = 0) : textS (n + 1) t = leafText (Nd.pts t) := by rw [textS, if_pos h]
/-- a tree that a proof may show, so deep; of a child: what is said of it -/
def FormN : (d : Nat) → Bool → NT (d + 1) → Prop
  | 0, _, _ => False
  | d + 1, root, t => (Nd.kids t = [] ∧ (Nd.pts t).length ≤ 4 ∧ (root = true ∨ 0 < (Nd.pts t).length) ∧ Each Pt.Ok (Nd.pts t)) ∨
      (Nd.pts t = [] ∧ 0 < (Nd.kids t).length ∧ (Nd.kids t).length ≤ 4 ∧ Each (fun c : NT (d + 1) => (boxMay (Nd.box c) = true ∧ 1 ≤ Nd.n c ∧ Nd.n c ≤ 150 ∧ (Nd.dig c).length = 32) ∧ ((Nd.pts c = [] ∧ Nd.kids c = []) ∨ FormN d false c)) (Nd.kids t))
def KidForm (d : Nat) (c : NT (d + 1)) : Prop := (boxMay (Nd.box c) = true ∧ 1 ≤ Nd.n c ∧ Nd.n c ≤ 150 ∧ (Nd.dig c).length = 32) ∧ ((Nd.pts c = [] ∧ Nd.kids c = []) ∨ FormN d false c)
def idsN (n : Nat) (t : NT n) : List Int := (allN n t).map Pt.id
/-- ids that were read behind others -/
def Reads2 (ids : List Int) (s s' : List Int) : Prop := s' = ids.reverse ++ s ∧ ids.Nodup ∧ ∀ i ∈ ids, i ∉ s
theorem reads_nil (s : List Int) : Reads2 [] s s := ⟨rfl, List.nodup_nil, fun _ h => by simp at h⟩
theorem reads_app {a b s s' s'' : List Int} (h : Reads2 a s s') (k : Reads2 b s' s'') : Reads2 (a ++ b) s s'' := by
  obtain ⟨rfl, h2, h3⟩ := h
  obtain ⟨rfl, k2, k3⟩ := k
  refine ⟨by simp, List.nodup_append.2 ⟨h2, k2, fun x hx y hy e => ?_⟩, fun i hi => ?_⟩
  · subst e; exact k3 x hy (by simp [hx])
  · rcases List.mem_append.1 hi with hi | hi
    · exact h3 i hi
    · exact fun hs => k3 i hi (by simp [hs])
theorem reads_of {a b s s'' : List Int} (h : Reads2 (a ++ b) s s'') : Reads2 a s (a.reverse ++ s) ∧ Reads2 b (a.reverse ++ s) s'' := by
  obtain ⟨rfl, h2, h3⟩ := h
  obtain ⟨n1, n2, n3⟩ := List.nodup_append.1 h2
  refine ⟨⟨rfl, n1, fun i hi => h3 i (by simp [hi])⟩, ⟨by simp, n2, fun i hi hs => ?_⟩⟩
  rcases List.mem_append.1 hs with hs | hs
  · exact n3 i (by simpa using hs) i hi rfl
  · exact h3 i (by simp [hi]) hs
theorem idOk_iff (n : Int) : idOk n = true ↔ 1 ≤ n ∧ n ≤ 1000000 := by simp [idOk]
theorem coordOk_iff (n : Int) : coordOk n = true ↔ -1000000 ≤ n ∧ n ≤ 1000000 := by simp [coordOk]
theorem ok_of {p : Pt} (h1 : idOk p.id = true) (h2 : coordOk p.x = true) (h3 : coordOk p.y = true) : p.Ok := by
  rw [idOk_iff] at h1
  rw [coordOk_iff] at h2 h3
  exact ⟨h1.1, h1.2, h2.1, h2.2, h3.1, h3.2⟩
theorem take_three {l : List UInt8} (h : 12 ≤ l.length) : l = (fourI (numAt l 0) ++ fourI (numAt l 1) ++ fourI (numAt l 2)) ++ l.drop 12 := by
  rw [fourI_at (by omega), fourI_at (by omega), fourI_at (by omega)]
  match l, h with
  | a :: b :: c :: d :: e :: f :: g :: h :: i :: j :: k :: m :: l, _ => rfl
theorem rdPt_sound {s s' : Sta} {p : Pt} (h : rdPt s = some (p, s')) : p.Ok ∧ s.1 = ptText p ++ s'.1 ∧ Reads2 [p.id] s.2 s'.2 := by
  unfold rdPt at h
  by_cases hl : s.1.length < 12
  · rw [if_pos hl] at h; cases h
  · rw [if_neg hl] at h
    simp only at h
    split at h
    · rename_i hc
      simp only [Bool.and_eq_true, Bool.not_eq_true', List.contains_eq_mem, decide_eq_false_iff_not] at hc
      obtain ⟨⟨⟨h1, h2⟩, h3⟩, h4⟩ := hc
      cases h
      exact ⟨ok_of h1 h3 h4, take_three (by omega), ⟨rfl, by simp, fun i hi => by rw [List.mem_singleton.1 hi]; exact h2⟩⟩
    · cases h
theorem rdPt_full {p : Pt} {rest : List UInt8} {ids ids' : List Int} (hp : p.Ok) (h : Reads2 [p.id] ids ids') : rdPt (ptText p ++ rest, ids) = some (p, (rest, ids')) := by
  obtain ⟨rfl, -, h3⟩ := h
  have hlen : ¬ (ptText p ++ rest).length < 12 := by rw [List.length_append, ptText_len]; omega
  have e0 : numAt (ptText p ++ rest) 0 = p.id := by
    show numAt ((fourI p.id ++ fourI p.x ++ fourI p.y) ++ rest) 0 = _
    rw [List.append_assoc, List.append_assoc, numAt_zero _ (by have := hp.id1; omega) hp.id2]
  have e1 : numAt (ptText p ++ rest) 1 = p.x := by
    show numAt ((fourI p.id ++ fourI p.x ++ fourI p.y) ++ rest) (0 + 1) = _
    rw [List.append_assoc, List.append_assoc, numAt_succ, numAt_zero _ hp.x1 hp.x2]
  have e2 : numAt (ptText p ++ rest) 2 = p.y := by
    show numAt ((fourI p.id ++ fourI p.x ++ fourI p.y) ++ rest) (0 + 1 + 1) = _
    rw [List.append_assoc, List.append_assoc, numAt_succ, numAt_succ, numAt_zero _ hp.y1 hp.y2]
  unfold rdPt
  simp only
  rw [if_neg hlen, e0, e1, e2, if_pos (by
    simp only [Bool.and_eq_true, Bool.not_eq_true', List.contains_eq_mem, decide_eq_false_iff_not]
    exact ⟨⟨⟨(idOk_iff _).2 ⟨hp.id1, hp.id2⟩, h3 p.id (by simp)⟩, (coordOk_iff _).2 ⟨hp.x1, hp.x2⟩⟩, (coordOk_iff _).2 ⟨hp.y1, hp.y2⟩⟩)]
  rfl
section
variable {α : Type} {rd : Sta → Option (α × Sta)} {P : α → Prop} {tx : α → List UInt8} {ids : α → List Int}
theorem rdMany_sound (hrd : ∀ s x s', rd s = some (x, s') → P x ∧ s.1 = tx x ++ s'.1 ∧ Reads2 (ids x) s.2 s'.2) : ∀ (k : Nat) (s : Sta) (l : List α) (s' : Sta), rdMany rd k s = some (l, s') → l.length = k ∧ Each P l ∧ s.1 = l.flatMap tx ++ s'.1 ∧ Reads2 (l.flatMap ids) s.2 s'.2
  | 0, s, l, s', h => by
    cases h
    exact ⟨rfl, fun _ h => by simp at h, rfl, reads_nil _⟩
  | k + 1, s, l, s', h => by
    unfold rdMany at h
    cases hx : rd s with
    | none => rw [hx] at h; cases h
    | some xs =>
      obtain ⟨x, s1⟩ := xs
      rw [hx] at h
      simp only at h
      cases hm : rdMany rd k s1 with
      | none => rw [hm] at h; cases h
      | some ls =>
        obtain ⟨m, s2⟩ := ls
        rw [hm] at h
        cases h
        obtain ⟨p1, p2, p3⟩ := hrd s x s1 hx
        obtain ⟨q1, q2, q3, q4⟩ := rdMany_sound hrd k s1 m s' hm
        refine ⟨by simp [q1], fun y hy => ?_, ?_, ?_⟩
        · rcases List.mem_cons.1 hy with rfl | hy
          · exact p1
          · exact q2 y hy
        · rw [p2, q3, List.flatMap_cons, List.append_assoc]
        · rw [List.flatMap_cons]; exact reads_app p3 q4
theorem rdMany_full (hrd : ∀ x rest i i', P x → Reads2 (ids x) i i' → rd (tx x ++ rest, i) = some (x, (rest, i'))) : ∀ (l : List α) (rest : List UInt8) (i i' : List Int), Each P l → Reads2 (l.flatMap ids) i i' → rdMany rd l.length (l.flatMap tx ++ rest, i) = some (l, (rest, i'))
  | [], rest, i, i', _, h => by
    obtain ⟨rfl, -, -⟩ := h
    rfl
  | x :: l, rest, i, i', hP, h => by
    rw [List.flatMap_cons] at h
    obtain ⟨h1, h2⟩ := reads_of h
    have e1 := hrd x (l.flatMap tx ++ rest) i _ (hP x (by simp)) h1
    have e2 := rdMany_full hrd l rest _ i' (fun y hy => hP y (by simp [hy])) h2
    rw [List.flatMap_cons, List.append_assoc, List.length_cons]
    unfold rdMany
    rw [e1]
    simp only
    rw [e2]
end
theorem head_text {l : List UInt8} (n : Nat) (h : 53 ≤ l.length) : saidN (n + 1) (headN n l) = l.take 52 ∧ (Nd.dig (headN n l)).length = 32 := by
  have e : saidN (n + 1) (headN n l) = ((fourI (numAt l 0) ++ fourI (numAt l 1) ++ fourI (numAt l 2) ++ fourI (numAt l 3)) ++ fourI (numAt l 4)) ++ (l.drop 20).take 32 := rfl
  refine ⟨?_, ?_⟩
  · rw [e, fourI_at (by omega), fourI_at (by omega), fourI_at (by omega), fourI_at (by omega), fourI_at (by omega)]
    rw [show 52 = 4 * 0 + 4 + 4 + 4 + 4 + 4 + 32 from rfl, List.take_add, List.take_add, List.take_add, List.take_add, List.take_add]
    rfl
  · show ((l.drop 20).take 32).length = 32
    rw [List.length_take, List.length_drop]; omega
theorem shown_no {n : Nat} {c : NT (n + 1)} (h1 : Nd.pts c = []) (h2 : Nd.kids c = []) : shownN (n + 1) c = false := by simp [shownN, h1, h2]
theorem form_shown {d : Nat} {c : NT (d + 1)} (h : FormN d false c) : shownN (d + 1) c = true := by
  cases d with
  | zero => exact absurd h (fun h => h)
  | succ d =>
    rcases h with ⟨_, _, h3, _⟩ | ⟨_, h2, _, _⟩
    · rcases h3 with h3 | h3
      · cases h3
      · simp only [shownN, decide_eq_true_eq]; omega
    · simp only [shownN, decide_eq_true_eq]; omega
end Ward
end Go.Proofs.YtenaelkbgkpllaaGreatDoor
/- A proof taken apart: sound and whole. -/
namespace Go.Proofs.YtenaelkbgkpllaaGreatDoor
namespace Ward
/-- nothing is said of it yet -/
def Bare (n : Nat) (t : NT (n + 1)) : Prop := Nd.box t = ⟨0, 0, 0, 0⟩ ∧ Nd.n t = 0 ∧ Nd.dig t = List.replicate 32 0
theorem nd_ext {α : Type} {a b : Nd α} (h1 : a.pts = b.pts) (h2 : a.kids = b.kids) (h3 : a.box = b.box) (h4 : a.n = b.n) (h5 : a.dig = b.dig) : a = b := by
  cases a
  cases b
  simp only at *
  subst h1 h2 h3 h4 h5
  rfl
theorem may_in {b : Box} (h : boxMay b = true) : b.In ∧ b.a ≤ b.c ∧ b.b ≤ b.d := by
  simp only [boxMay, Bool.and_eq_true, coordOk_iff, decide_eq_true_eq] at h
  obtain ⟨⟨⟨⟨⟨h1, h2⟩, h3⟩, h4⟩, h5⟩, h6⟩ := h
  exact ⟨⟨h1.1, h1.2, h2.1, h2.2, h3.1, h3.2, h4.1, h4.2⟩, h5, h6⟩
theorem said_of {n : Nat} {b c : NT (n + 1)} (h3 : Nd.box b = Nd.box c) (h4 : Nd.n b = Nd.n c) (h5 : Nd.dig b = Nd.dig c) : saidN (n + 1) b = saidN (n + 1) c := by
  show boxText (Nd.box b) ++ fourI (Nd.n b) ++ Nd.dig b = boxText (Nd.box c) ++ fourI (Nd.n c) ++ Nd.dig c
  rw [h3, h4, h5]
theorem text_of {n : Nat} {b c : NT (n + 1)} (h1 : Nd.pts b = Nd.pts c) (h2 : Nd.kids b = Nd.kids c) : textS (n + 1) b = textS (n + 1) c := by
  show (if (Nd.kids b).length = 0 then leafText (Nd.pts b) else _) = (if (Nd.kids c).length = 0 then leafText (Nd.pts c) else _)
  rw [h1, h2]
theorem all_of {n : Nat} {b c : NT (n + 1)} (h1 : Nd.pts b = Nd.pts c) (h2 : Nd.kids b = Nd.kids c) : allN (n + 1) b = allN (n + 1) c := by
  show Nd.pts b ++ (Nd.kids b).flatMap (allN n) = Nd.pts c ++ (Nd.kids c).flatMap (allN n)
  rw [h1, h2]
theorem form_of {d : Nat} {r : Bool} {b c : NT (d + 1)} (h1 : Nd.pts b = Nd.pts c) (h2 : Nd.kids b = Nd.kids c) (h : FormN d r b) : FormN d r c := by
  cases d with
  | zero => exact h
  | succ d =>
    unfold FormN at h ⊢
    rw [h1, h2] at h
    exact h
theorem shown_of {n : Nat} {b c : NT (n + 1)} (h1 : Nd.pts b = Nd.pts c) (h2 : Nd.kids b = Nd.kids c) : shownN (n + 1) b = shownN (n + 1) c := by
  show decide (0 < (Nd.pts b).length + (Nd.kids b).length) = decide (0 < (Nd.pts c).length + (Nd.kids c).length)
  rw [h1, h2]
theorem ids_all (n : Nat) (t : NT (n + 1)) (h : Nd.pts t = []) : idsN (n + 1) t = (Nd.kids t).flatMap (idsN n) := by
  show (Nd.pts t ++ (Nd.kids t).flatMap (allN n)).map Pt.id = _
  rw [h, List.nil_append, List.map_flatMap]
  rfl
theorem split53 {l : List UInt8} (h : 53 ≤ l.length) : l = l.take 52 ++ l.getD 52 0 :: l.drop 53 := by
  have h2 : l.drop 52 = l.getD 52 0 :: l.drop 53 := by
    rw [List.drop_eq_getElem_cons (by omega), List.getD_eq_getElem?_getD, List.getElem?_eq_getElem (by omega)]
    rfl
  rw [← h2, List.take_append_drop]
theorem rdKid_sound {d : Nat} {below : Sta → Option (NT (d + 1) × Sta)} (hb : ∀ s t s', below s = some (t, s') → FormN d false t ∧ s.1 = textS (d + 1) t ++ s'.1 ∧ Reads2 (idsN (d + 1) t) s.2 s'.2)
    (s : Sta) (c : NT (d + 1)) (s' : Sta) (h : rdKid d below s = some (c, s')) : KidForm d c ∧ s.1 = kidText (d + 1) c ++ s'.1 ∧ Reads2 (idsN (d + 1) c) s.2 s'.2 := by
  unfold rdKid at h
  by_cases hl : s.1.length < 53
  · rw [if_pos hl] at h; cases h
  · rw [if_neg hl] at h
    obtain ⟨ht, hd⟩ := head_text (l := s.1) d (by omega)
    have h53 := split53 (l := s.1) (by omega)
    simp only at h
    generalize hH : headN d s.1 = H at *
    have hp : Nd.pts H = [] := by rw [← hH]; rfl
    have hk : Nd.kids H = [] := by rw [← hH]; rfl
    split at h
    · rename_i hc
      simp only [Bool.and_eq_true, decide_eq_true_eq] at hc
      obtain ⟨⟨h1, h2⟩, h3⟩ := hc
      split at h
      · rename_i h0
        cases h
        refine ⟨⟨⟨h1, h2, h3, hd⟩, .inl ⟨hp, hk⟩⟩, ?_, ?_⟩
        · show s.1 = (saidN (d + 1) c ++ (if shownN (d + 1) c = true then _ else [0])) ++ s.1.drop 53
          rw [if_neg (by rw [shown_no hp hk]; simp), ht, List.append_assoc]
          rw [h0] at h53
          exact h53
        · have : idsN (d + 1) c = [] := by
            show (Nd.pts c ++ (Nd.kids c).flatMap (allN d)).map Pt.id = []
            rw [hp, hk]; rfl
          rw [this]
          exact reads_nil _
      · split at h
        · rename_i h1'
          cases hbe : below (s.1.drop 53, s.2) with
          | none => rw [hbe] at h; cases h
          | some bs =>
            obtain ⟨b, s1⟩ := bs
            rw [hbe] at h
            cases h
            obtain ⟨b1, b2, b3⟩ := hb _ _ _ hbe
            refine ⟨⟨⟨h1, h2, h3, hd⟩, .inr (form_of (b := b) rfl rfl b1)⟩, ?_, ?_⟩
            · have e1 : shownN (d + 1) { H with pts := Nd.pts b, kids := Nd.kids b } = true := by
                rw [shown_of (b := { H with pts := Nd.pts b, kids := Nd.kids b }) (c := b) rfl rfl]
                exact form_shown b1
              have e2 : textS (d + 1) { H with pts := Nd.pts b, kids := Nd.kids b } = textS (d + 1) b := text_of rfl rfl
              have e3 : saidN (d + 1) { H with pts := Nd.pts b, kids := Nd.kids b } = saidN (d + 1) H := said_of rfl rfl rfl
              rw [kidText, if_pos e1, e2, e3, ht, List.append_assoc, List.cons_append]
              rw [h1'] at h53
              rw [← b2]
              exact h53
            · have e : allN (d + 1) { H with pts := Nd.pts b, kids := Nd.kids b } = allN (d + 1) b := all_of rfl rfl
              rw [idsN, e]
              exact b3
        · cases h
    · cases h
theorem getD_zero {a : UInt8} {l : List UInt8} : (a :: l).getD 0 0 = a := rfl
theorem two_of {l : List UInt8} (h : ¬ l.length < 2) : l = l.getD 0 0 :: l.getD 1 0 :: l.drop 2 := by
  match l, h with
  | [], h => exact absurd (by decide) h
  | [_], h => exact absurd (by simp) h
  | a :: b :: l, _ => rfl
theorem ofNat_toNat8 (a : UInt8) : UInt8.ofNat a.toNat = a := by simp
theorem rdNode_sound : ∀ (d : Nat) (root : Bool) (s : Sta) (t : NT (d + 1)) (s' : Sta), rdNode d root s = some (t, s') → (FormN d root t ∧ s.1 = textS (d + 1) t ++ s'.1 ∧ Reads2 (idsN (d + 1) t) s.2 s'.2) ∧ Bare d t
  | 0, _, _, _, _, h => by cases h
  | d + 1, root, s, t, s', h => by
    unfold rdNode at h
    by_cases hl : s.1.length < 2
    · rw [if_pos hl] at h; cases h
    · rw [if_neg hl] at h
      simp only at h
      have h2 := two_of hl
      by_cases h4 : 4 < (s.1.getD 1 0).toNat
      · rw [if_pos h4] at h; cases h
      · rw [if_neg h4] at h
        by_cases hm1 : s.1.getD 0 0 = 1 ∧ (0 < (s.1.getD 1 0).toNat ∨ root = true)
        · rw [if_pos hm1] at h
          cases hr : rdMany rdPt (s.1.getD 1 0).toNat (s.1.drop 2, s.2) with
          | none => rw [hr] at h; cases h
          | some ls =>
            obtain ⟨l, s1⟩ := ls
            rw [hr] at h
            cases h
            obtain ⟨r1, r2, r3, r4⟩ := rdMany_sound (P := Pt.Ok) (tx := ptText) (ids := fun p => [p.id]) (fun s x s' h => rdPt_sound h) _ _ _ _ hr
            refine ⟨⟨.inl ⟨rfl, by show l.length ≤ 4; omega, by show root = true ∨ 0 < l.length; rw [r1]; exact hm1.2.symm, r2⟩, ?_, ?_⟩, rfl, rfl, rfl⟩
            · rw [textS_leaf _ _ (by rfl)]
              show s.1 = leafText l ++ s'.1
              unfold leafText
              rw [r1, ofNat_toNat8, List.cons_append, List.cons_append, ← r3]
              have e := hm1.1
              rw [← e]
              exact h2
            · have e : idsN (d + 1 + 1) { bareN (d + 1) with pts := l } = l.flatMap (fun p => [p.id]) := by
                show (l ++ ([] : List (NT (d + 1))).flatMap (allN (d + 1))).map Pt.id = _
                rw [List.flatMap_nil, List.append_nil]
                clear r1 r2 r3 r4 hr
                induction l with
                | nil => rfl
                | cons p l ih => rw [List.map_cons, List.flatMap_cons, ih]; rfl
              rw [e]
              exact r4
        · rw [if_neg hm1] at h
          by_cases hm2 : s.1.getD 0 0 = 2 ∧ 0 < (s.1.getD 1 0).toNat
          · rw [if_pos hm2] at h
            cases hr : rdMany (rdKid d (rdNode d false)) (s.1.getD 1 0).toNat (s.1.drop 2, s.2) with
            | none => rw [hr] at h; cases h
            | some ls =>
              obtain ⟨l, s1⟩ := ls
              rw [hr] at h
              cases h
              obtain ⟨r1, r2, r3, r4⟩ := rdMany_sound (P := KidForm d) (tx := kidText (d + 1)) (ids := idsN (d + 1)) (fun s x s' h => rdKid_sound (fun s t s' h => (rdNode_sound d false s t s' h).1) s x s' h) _ _ _ _ hr
              refine ⟨⟨.inr ⟨rfl, by show 0 < l.length; omega, by show l.length ≤ 4; omega, r2⟩, ?_, ?_⟩, rfl, rfl, rfl⟩
              · rw [textS_kids _ _ (by show 0 < l.length; omega)]
                show s.1 = (2 :: UInt8.ofNat l.length :: l.flatMap (kidText (d + 1))) ++ s'.1
                rw [r1, ofNat_toNat8, List.cons_append, List.cons_append, ← r3]
                have e := hm2.1
                rw [← e]
                exact h2
              · rw [ids_all _ _ (by rfl)]
                exact r4
          · rw [if_neg hm2] at h; cases h
end Ward
end Go.Proofs.YtenaelkbgkpllaaGreatDoor
/- Each tree of the right form is read off its text. -/
namespace Go.Proofs.YtenaelkbgkpllaaGreatDoor
namespace Ward
theorem headN_text {n : Nat} {c : NT (n + 1)} (hb : (Nd.box c).In) (h1 : 1 ≤ Nd.n c) (h2 : Nd.n c ≤ 150) (hd : (Nd.dig c).length = 32) (m : List UInt8) : headN n (saidN (n + 1) c ++ m) = { c with pts := [], kids := [] } := by
  obtain ⟨a1, a2, b1, b2, c1, c2, d1, d2⟩ := hb
  have e : saidN (n + 1) c ++ m = fourI (Nd.box c).a ++ (fourI (Nd.box c).b ++ (fourI (Nd.box c).c ++ (fourI (Nd.box c).d ++ (fourI (Nd.n c) ++ (Nd.dig c ++ m))))) := by
    show boxText (Nd.box c) ++ fourI (Nd.n c) ++ Nd.dig c ++ m = _
    simp only [boxText, List.append_assoc]
  have e0 : numAt (saidN (n + 1) c ++ m) 0 = (Nd.box c).a := by rw [e, numAt_zero _ a1 a2]
  have e1 : numAt (saidN (n + 1) c ++ m) 1 = (Nd.box c).b := by rw [e, show 1 = 0 + 1 from rfl, numAt_succ, numAt_zero _ b1 b2]
  have e2 : numAt (saidN (n + 1) c ++ m) 2 = (Nd.box c).c := by rw [e, show 2 = 0 + 1 + 1 from rfl, numAt_succ, numAt_succ, numAt_zero _ c1 c2]
  have e3 : numAt (saidN (n + 1) c ++ m) 3 = (Nd.box c).d := by rw [e, show 3 = 0 + 1 + 1 + 1 from rfl, numAt_succ, numAt_succ, numAt_succ, numAt_zero _ d1 d2]
  have e4 : numAt (saidN (n + 1) c ++ m) 4 = Nd.n c := by rw [e, show 4 = 0 + 1 + 1 + 1 + 1 from rfl, numAt_succ, numAt_succ, numAt_succ, numAt_succ, numAt_zero _ (by omega) (by omega)]
  have e5 : ((saidN (n + 1) c ++ m).drop 20).take 32 = Nd.dig c := by
    have hl : (boxText (Nd.box c) ++ fourI (Nd.n c)).length = 20 := by rw [List.length_append, boxText_len, fourI_len]
    have e6 : saidN (n + 1) c ++ m = (boxText (Nd.box c) ++ fourI (Nd.n c)) ++ (Nd.dig c ++ m) := by
      show boxText (Nd.box c) ++ fourI (Nd.n c) ++ Nd.dig c ++ m = _
      rw [List.append_assoc]
    rw [e6, ← hl, List.drop_left, ← hd, List.take_left]
  refine nd_ext rfl rfl ?_ e4 e5
  show (⟨numAt _ 0, numAt _ 1, numAt _ 2, numAt _ 3⟩ : Box) = Nd.box c
  rw [e0, e1, e2, e3]
theorem said_len52 {n : Nat} {c : NT (n + 1)} (hd : (Nd.dig c).length = 32) : (saidN (n + 1) c).length = 52 := by
  show (boxText (Nd.box c) ++ fourI (Nd.n c) ++ Nd.dig c).length = 52
  rw [List.length_append, List.length_append, boxText_len, fourI_len, hd]
theorem get52 {l : List UInt8} {a : UInt8} {m : List UInt8} (h : l.length = 52) : (l ++ a :: m).getD 52 0 = a ∧ (l ++ a :: m).drop 53 = m := by
  refine ⟨?_, ?_⟩
  · rw [List.getD_eq_getElem?_getD, List.getElem?_append_right (by omega), h]
    rfl
  · rw [show 53 = l.length + 1 by omega, ← List.drop_drop, List.drop_left]
    rfl
theorem rdKid_full {d : Nat} {below : Sta → Option (NT (d + 1) × Sta)} (hb : ∀ t rest i i', FormN d false t → Bare d t → Reads2 (idsN (d + 1) t) i i' → below (textS (d + 1) t ++ rest, i) = some (t, (rest, i')))
    (c : NT (d + 1)) (rest : List UInt8) (i i' : List Int) (hc : KidForm d c) (hi : Reads2 (idsN (d + 1) c) i i') : rdKid d below (kidText (d + 1) c ++ rest, i) = some (c, (rest, i')) := by
  obtain ⟨⟨h1, h2, h3, hd⟩, hs⟩ := hc
  have hbi := (may_in h1).1
  have hsl := said_len52 (c := c) hd
  have hcond : (boxMay (Nd.box c) && decide (1 ≤ Nd.n c) && decide (Nd.n c ≤ 150)) = true := by simp [h1, h2, h3]
  rcases hs with ⟨hp, hk⟩ | hf
  · have e : kidText (d + 1) c ++ rest = saidN (d + 1) c ++ 0 :: rest := by
      rw [kidText, if_neg (by rw [shown_no hp hk]; simp), List.append_assoc]; rfl
    obtain ⟨g1, g2⟩ := get52 (a := 0) (m := rest) hsl
    have hH := headN_text hbi h2 h3 hd (0 :: rest)
    have hcc : ({ c with pts := [], kids := [] } : NT (d + 1)) = c := nd_ext hp.symm hk.symm rfl rfl rfl
    rw [hcc] at hH
    unfold rdKid
    simp only
    rw [e, if_neg (by rw [List.length_append, hsl, List.length_cons]; omega), hH, if_pos hcond, if_pos g1, g2]
    obtain ⟨rfl, -, -⟩ := hi
    have : idsN (d + 1) c = [] := by
      show (Nd.pts c ++ (Nd.kids c).flatMap (allN d)).map Pt.id = []
      rw [hp, hk]; rfl
    rw [this]
    rfl
  · have e : kidText (d + 1) c ++ rest = saidN (d + 1) c ++ 1 :: (textS (d + 1) c ++ rest) := by
      rw [kidText, if_pos (form_shown hf), List.append_assoc]; rfl
    obtain ⟨g1, g2⟩ := get52 (a := 1) (m := textS (d + 1) c ++ rest) hsl
    have hH := headN_text hbi h2 h3 hd (1 :: (textS (d + 1) c ++ rest))
    obtain ⟨b, hbd⟩ : ∃ b : NT (d + 1), b = { bareN d with pts := Nd.pts c, kids := Nd.kids c } := ⟨_, rfl⟩
    have hb1 : Nd.pts b = Nd.pts c := by rw [hbd]
    have hb2 : Nd.kids b = Nd.kids c := by rw [hbd]
    have hb3 : Bare d b := by rw [hbd]; exact ⟨rfl, rfl, rfl⟩
    have hi2 : Reads2 (idsN (d + 1) b) i i' := by rw [idsN, all_of hb1 hb2]; exact hi
    have hbe := hb b rest i i' (form_of hb1.symm hb2.symm hf) hb3 hi2
    rw [text_of hb1 hb2] at hbe
    unfold rdKid
    simp only
    rw [e, if_neg (by rw [List.length_append, hsl, List.length_cons]; omega), hH, if_pos hcond, if_neg (by rw [g1]; decide), if_pos g1, g2, hbe]
    simp only
    rw [hb1, hb2]
theorem u8_small {k : Nat} (h : k ≤ 4) : (UInt8.ofNat k).toNat = k := by rw [UInt8.toNat_ofNat']; omega
theorem rdNode_full : ∀ (d : Nat) (root : Bool) (t : NT (d + 1)) (rest : List UInt8) (i i' : List Int), FormN d root t → Bare d t → Reads2 (idsN (d + 1) t) i i' → rdNode d root (textS (d + 1) t ++ rest, i) = some (t, (rest, i'))
  | 0, _, _, _, _, _, h, _, _ => absurd h (fun h => h)
  | d + 1, root, t, rest, i, i', h, hbare, hi => by
    rcases h with ⟨hk, h4, h0, hok⟩ | ⟨hp, h0, h4, hkids⟩
    · have hl : textS (d + 1 + 1) t = leafText (Nd.pts t) := textS_leaf _ _ (by rw [hk]; rfl)
      have e : textS (d + 1 + 1) t ++ rest = 1 :: UInt8.ofNat (Nd.pts t).length :: ((Nd.pts t).flatMap ptText ++ rest) := by rw [hl]; rfl
      have hids : idsN (d + 1 + 1) t = (Nd.pts t).flatMap (fun p => [p.id]) := by
        show (Nd.pts t ++ (Nd.kids t).flatMap (allN (d + 1))).map Pt.id = _
        rw [hk, List.flatMap_nil, List.append_nil]
        generalize Nd.pts t = l
        induction l with
        | nil => rfl
        | cons p l ih => rw [List.map_cons, List.flatMap_cons, ih]; rfl
      rw [hids] at hi
      have hm := rdMany_full (P := Pt.Ok) (tx := ptText) (ids := fun p => [p.id]) (rd := rdPt) (fun x rest i i' hx hr => rdPt_full hx hr) (Nd.pts t) rest i i' hok hi
      unfold rdNode
      simp only
      rw [e]
      have g0 : (1 :: UInt8.ofNat (Nd.pts t).length :: ((Nd.pts t).flatMap ptText ++ rest) : List UInt8).getD 0 0 = 1 := rfl
      have g1 : (1 :: UInt8.ofNat (Nd.pts t).length :: ((Nd.pts t).flatMap ptText ++ rest) : List UInt8).getD 1 0 = UInt8.ofNat (Nd.pts t).length := rfl
      have g2 : (1 :: UInt8.ofNat (Nd.pts t).length :: ((Nd.pts t).flatMap ptText ++ rest) : List UInt8).drop 2 = (Nd.pts t).flatMap ptText ++ rest := rfl
      rw [if_neg (by simp), g0, g1, g2, u8_small h4, if_neg (by omega), if_pos ⟨rfl, h0.symm⟩, hm]
      simp only
      congr 2
      exact nd_ext rfl hk.symm hbare.1.symm hbare.2.1.symm hbare.2.2.symm
    · have e : textS (d + 1 + 1) t ++ rest = 2 :: UInt8.ofNat (Nd.kids t).length :: ((Nd.kids t).flatMap (kidText (d + 1)) ++ rest) := by rw [textS_kids _ _ h0]; rfl
      rw [ids_all _ _ hp] at hi
      have hm := rdMany_full (P := KidForm d) (tx := kidText (d + 1)) (ids := idsN (d + 1)) (rd := rdKid d (rdNode d false)) (fun x rest i i' hx hr => rdKid_full (fun t rest i i' hf hb hr => rdNode_full d false t rest i i' hf hb hr) x rest i i' hx hr) (Nd.kids t) rest i i' hkids hi
      unfold rdNode
      simp only
      rw [e]
      have g0 : (2 :: UInt8.ofNat (Nd.kids t).length :: ((Nd.kids t).flatMap (kidText (d + 1)) ++ rest) : List UInt8).getD 0 0 = 2 := rfl
      have g1 : (2 :: UInt8.ofNat (Nd.kids t).length :: ((Nd.kids t).flatMap (kidText (d + 1)) ++ rest) : List UInt8).getD 1 0 = UInt8.ofNat (Nd.kids t).length := rfl
      have g2 : (2 :: UInt8.ofNat (Nd.kids t).length :: ((Nd.kids t).flatMap (kidText (d + 1)) ++ rest) : List UInt8).drop 2 = (Nd.kids t).flatMap (kidText (d + 1)) ++ rest := rfl
      rw [if_neg (by simp), g0, g1, g2, u8_small h4, if_neg (by omega), if_neg (fun h => absurd h.1 (by decide)), if_pos ⟨rfl, h0⟩, hm]
      simp only
      congr 2
      exact nd_ext hp.symm rfl hbare.1.symm hbare.2.1.symm hbare.2.2.symm
theorem made_leaf {n : Nat} {t : NT (n + 1)} (h : (Nd.kids t).length = 0) : madeN (n + 1) t = ⟨Nd.pts t, [], boxL ((Nd.pts t).map boxOf), ((Nd.pts t).length : Nat), Sha.sha (leafText (Nd.pts t))⟩ := by
  show (if (Nd.kids t).length = 0 then _ else _) = _
  rw [if_pos h]
theorem made_node {n : Nat} {t : NT (n + 1)} (h : ¬ (Nd.kids t).length = 0) : madeN (n + 1) t = ⟨[], Nd.kids t, boxL ((Nd.kids t).map (boxN n)), ((Nd.kids t).map (numN n)).sum, Sha.sha (textK n (Nd.kids t))⟩ := by
  show (if (Nd.kids t).length = 0 then _ else _) = _
  rw [if_neg h]
/-- the root as what stands below it makes it: the same below it -/
theorem made_same {d : Nat} {r : Bool} {t : NT (d + 1)} (h : FormN d r t) : Nd.pts (madeN (d + 1) t) = Nd.pts t ∧ Nd.kids (madeN (d + 1) t) = Nd.kids t := by
  cases d with
  | zero => exact absurd h (fun h => h)
  | succ d =>
    rcases h with ⟨hk, _⟩ | ⟨hp, h0, _⟩
    · rw [made_leaf (by rw [hk]; rfl)]
      exact ⟨rfl, hk.symm⟩
    · rw [made_node (by omega)]
      exact ⟨hp.symm, rfl⟩
theorem made_of {n : Nat} {b c : NT (n + 1)} (h1 : Nd.pts b = Nd.pts c) (h2 : Nd.kids b = Nd.kids c) : madeN (n + 1) b = madeN (n + 1) c := by
  by_cases h : (Nd.kids b).length = 0
  · rw [made_leaf h, made_leaf (by rw [← h2]; exact h), h1]
  · rw [made_node h, made_node (by rw [← h2]; exact h), h2]
theorem nodup_reads {l : List Int} (h : l.Nodup) : Reads2 l [] (l.reverse ++ []) := ⟨rfl, h, fun _ _ => by simp⟩
/-- what a text that is taken apart is -/
theorem parse_sound {s : List UInt8} {t : NT 7} (h : parse s = some t) : FormN 6 true t ∧ textS 7 t = s ∧ (idsN 7 t).Nodup ∧ madeN 7 t = t := by
  unfold parse at h
  split at h
  · rename_i t0 ids hr
    cases h
    obtain ⟨⟨h1, h2, h3⟩, -⟩ := rdNode_sound 6 true _ t0 _ hr
    obtain ⟨m1, m2⟩ := made_same h1
    refine ⟨form_of m1.symm m2.symm h1, ?_, ?_, made_of m1 m2⟩
    · rw [text_of m1 m2]
      have h2' : s = textS 7 t0 ++ [] := h2
      rw [h2', List.append_nil]
    · rw [idsN, all_of m1 m2]
      exact h3.2.1
  · cases h
theorem parse_full {t : NT 7} (hf : FormN 6 true t) (hn : (idsN 7 t).Nodup) (hm : madeN 7 t = t) : parse (textS 7 t) = some t := by
  obtain ⟨b, hbd⟩ : ∃ b : NT 7, b = { bareN 6 with pts := Nd.pts t, kids := Nd.kids t } := ⟨_, rfl⟩
  have hb1 : Nd.pts b = Nd.pts t := by rw [hbd]
  have hb2 : Nd.kids b = Nd.kids t := by rw [hbd]
  have hb3 : Bare 6 b := by rw [hbd]; exact ⟨rfl, rfl, rfl⟩
  have hr := rdNode_full 6 true b [] [] _ (form_of hb1.symm hb2.symm hf) hb3 (nodup_reads (by rw [idsN, all_of hb1 hb2]; exact hn))
  rw [List.append_nil, text_of hb1 hb2] at hr
  unfold parse
  rw [hr]
  simp only
  rw [made_of hb1 hb2, hm]
end Ward
end Go.Proofs.YtenaelkbgkpllaaGreatDoor
/- What a proof taken apart is, for those who go through it. -/
namespace Go.Proofs.YtenaelkbgkpllaaGreatDoor
namespace Ward
/-- the numbers said of children are small -/
def NumsN : (n : Nat) → NT n → Prop
  | 0, t => nomatch t
  | n + 1, t => ∀ c ∈ Nd.kids t, (0 ≤ numN n c ∧ numN n c ≤ 1000000) ∧ NumsN n c
structure Fine (n : Nat) (t : NT n) : Prop where
  few : Few n t
  inn : InN n t
  nums : NumsN n t
  ok : ∀ p ∈ allN n t, p.Ok
theorem form_fine : ∀ (d : Nat) (r : Bool) (t : NT (d + 1)), FormN d r t → Fine (d + 1) t
  | 0, _, _, h => h.elim
  | d + 1, r, t, h => by
    rcases h with ⟨h1, h2, _, h4⟩ | ⟨h1, h2, h3, h4⟩
    · refine ⟨⟨h2, by simp [h1], fun c hc => by simp [h1] at hc⟩, fun c hc => by simp [h1] at hc, fun c hc => by simp [h1] at hc, fun p hp => ?_⟩
      rw [show allN (d + 2) t = Nd.pts t ++ (Nd.kids t).flatMap (allN (d + 1)) from rfl, h1] at hp
      exact h4 p (by simpa using hp)
    · have key : ∀ c ∈ Nd.kids t, Fine (d + 1) c ∧ boxMay (Nd.box c) = true ∧ 1 ≤ Nd.n c ∧ Nd.n c ≤ 150 := by
        intro c hc
        obtain ⟨⟨k1, k2, k3, _⟩, k5⟩ := h4 c hc
        refine ⟨?_, k1, k2, k3⟩
        rcases k5 with ⟨e1, e2⟩ | k
        · refine ⟨⟨by simp [e1], by simp [e2], fun c hc => by simp [e2] at hc⟩, fun c hc => by simp [e2] at hc, fun c hc => by simp [e2] at hc, fun p hp => ?_⟩
          rw [show allN (d + 1) c = Nd.pts c ++ (Nd.kids c).flatMap (allN d) from rfl, e1, e2] at hp
          simp at hp
        · exact form_fine d false c k
      refine ⟨⟨by simp [h1], h3, fun c hc => (key c hc).1.few⟩, fun c hc => ⟨(may_in (key c hc).2.1).1, (key c hc).1.inn⟩, fun c hc => ⟨?_, (key c hc).1.nums⟩, fun p hp => ?_⟩
      · have := (key c hc).2.2
        show 0 ≤ Nd.n c ∧ Nd.n c ≤ 1000000
        omega
      · rw [show allN (d + 2) t = Nd.pts t ++ (Nd.kids t).flatMap (allN (d + 1)) from rfl, h1, List.nil_append] at hp
        obtain ⟨c, hc, hp⟩ := List.mem_flatMap.1 hp
        exact (key c hc).1.ok p hp
theorem boxEq_iff {a b : Box} (h : boxEq a b = true) : a = b := by
  unfold boxEq at h
  simp only [decide_eq_true_eq] at h
  cases a; cases b
  simp only at h
  obtain ⟨rfl, rfl, rfl, rfl⟩ := h
  rfl
theorem flat_len {α β : Type} (f : α → List β) (n : α → Int) : ∀ K : List α, (∀ c ∈ K, ((f c).length : Int) ≤ n c) → ((K.flatMap f).length : Int) ≤ (K.map n).sum
  | [], _ => by simp
  | c :: K, h => by
    have h1 := h c List.mem_cons_self
    have h2 := flat_len f n K (fun c hc => h c (List.mem_cons_of_mem _ hc))
    rw [List.flatMap_cons, List.length_append, List.map_cons, List.sum_cons]
    omega
/-- where boxes and numbers hold, a box holds all that is below it -/
theorem holds_encl : ∀ (d : Nat) (r : Bool) (t : NT (d + 1)), FormN d r t → everyN boxHolds (d + 1) t = true → Nd.box t = Nd.box (madeN (d + 1) t) → Nd.n t = Nd.n (madeN (d + 1) t) →
    Encl (d + 1) t ∧ (∀ p ∈ allN (d + 1) t, (Nd.box t).has (boxOf p)) ∧ ((allN (d + 1) t).length : Int) ≤ Nd.n t
  | 0, _, _, h, _, _, _ => h.elim
  | d + 1, r, t, h, he, hb, hn => by
    rcases h with ⟨h1, h2, _, h4⟩ | ⟨h1, h2, h3, h4⟩
    · have e0 : (Nd.kids t).length = 0 := by rw [h1]; rfl
      rw [made_leaf e0] at hb hn
      simp only at hb hn
      have ea : allN (d + 2) t = Nd.pts t := by
        rw [show allN (d + 2) t = Nd.pts t ++ (Nd.kids t).flatMap (allN (d + 1)) from rfl, h1]
        simp
      have hh : ∀ p ∈ Nd.pts t, (Nd.box t).has (boxOf p) := fun p hp => by
        rw [hb]
        exact boxL_has (List.mem_map.2 ⟨p, hp, rfl⟩)
      exact ⟨⟨hh, fun c hc => by simp [h1] at hc⟩, by rw [ea]; exact hh, by rw [ea, hn]; exact Int.le_refl _⟩
    · have e0 : ¬ (Nd.kids t).length = 0 := by omega
      rw [made_node e0] at hb hn
      simp only at hb hn
      have he' : ∀ c ∈ Nd.kids t, boxHolds (d + 1) c = true ∧ everyN boxHolds (d + 1) c = true := by
        intro c hc
        have := List.all_eq_true.1 (show (Nd.kids t).all (fun c => boxHolds (d + 1) c && everyN boxHolds (d + 1) c) = true from he) c hc
        simpa using this
      have key : ∀ c ∈ Nd.kids t, Encl (d + 1) c ∧ (∀ p ∈ allN (d + 1) c, (Nd.box c).has (boxOf p)) ∧ ((allN (d + 1) c).length : Int) ≤ Nd.n c := by
        intro c hc
        obtain ⟨⟨k1, k2, k3, _⟩, k5⟩ := h4 c hc
        rcases k5 with ⟨e1, e2⟩ | k
        · have ea : allN (d + 1) c = [] := by rw [show allN (d + 1) c = Nd.pts c ++ (Nd.kids c).flatMap (allN d) from rfl, e1, e2]; rfl
          refine ⟨⟨fun p hp => by simp [e1] at hp, fun c hc => by simp [e2] at hc⟩, fun p hp => by simp [ea] at hp, by rw [ea]; simp; omega⟩
        · obtain ⟨hh, hee⟩ := he' c hc
          unfold boxHolds at hh
          rw [form_shown k] at hh
          simp only [Bool.not_true, Bool.false_or, Bool.and_eq_true, decide_eq_true_eq] at hh
          exact holds_encl d false c k hee (boxEq_iff hh.1) hh.2
      have hall : allN (d + 2) t = (Nd.kids t).flatMap (allN (d + 1)) := by
        rw [show allN (d + 2) t = Nd.pts t ++ (Nd.kids t).flatMap (allN (d + 1)) from rfl, h1, List.nil_append]
      refine ⟨⟨fun p hp => by simp [h1] at hp, fun c hc => ⟨(key c hc).2.1, (key c hc).1⟩⟩, fun p hp => ?_, ?_⟩
      · rw [hall] at hp
        obtain ⟨c, hc, hp⟩ := List.mem_flatMap.1 hp
        rw [hb]
        exact has_trans (boxL_has (List.mem_map.2 ⟨c, hc, rfl⟩)) ((key c hc).2.1 p hp)
      · rw [hall, hn]
        exact flat_len (allN (d + 1)) (numN (d + 1)) _ (fun c hc => (key c hc).2.2)
theorem sum_few {α : Type} (n : α → Int) : ∀ K : List α, (∀ c ∈ K, n c ≤ 150) → (K.map n).sum ≤ 150 * K.length
  | [], _ => by simp
  | c :: K, h => by
    have h1 := h c List.mem_cons_self
    have h2 := sum_few n K (fun c hc => h c (List.mem_cons_of_mem _ hc))
    rw [List.map_cons, List.sum_cons, List.length_cons]
    omega
/-- what is known of a proof taken apart -/
theorem parse_fine {s : List UInt8} {t : NT 7} (h : parse s = some t) : Fine 7 t ∧ Ids (allN 7 t) := by
  obtain ⟨h1, _, h3, _⟩ := parse_sound h
  refine ⟨form_fine 6 true t h1, ?_⟩
  unfold idsN at h3
  exact List.pairwise_map.1 h3
theorem parse_holds {s : List UInt8} {t : NT 7} (h : parse s = some t) (hb : everyN boxHolds 7 t = true) : Encl 7 t ∧ (allN 7 t).length ≤ 600 := by
  obtain ⟨h1, _, _, h4⟩ := parse_sound h
  obtain ⟨k1, _, k3⟩ := holds_encl 6 true t h1 hb (by rw [h4]) (by rw [h4])
  refine ⟨k1, ?_⟩
  rcases (show _ ∨ _ from h1) with ⟨e1, e2, _, _⟩ | ⟨_, e2, e3, e4⟩
  · have ea : allN 7 t = Nd.pts t := by
      rw [show allN 7 t = Nd.pts t ++ (Nd.kids t).flatMap (allN 6) from rfl, e1]
      simp
    rw [ea]; omega
  · have hn : Nd.n t = ((Nd.kids t).map (numN 6)).sum := by
      have := made_node (n := 6) (t := t) (by omega)
      rw [h4] at this
      exact congrArg Nd.n this
    have := sum_few (numN 6) (Nd.kids t) (fun c hc => (e4 c hc).1.2.2.1)
    have k : ((allN 7 t).length : Int) ≤ Nd.n t := k3
    omega
end Ward
end Go.Proofs.YtenaelkbgkpllaaGreatDoor
/- As many of a kind, read one by one. -/
namespace Go.Proofs.YtenaelkbgkpllaaGreatDoor
namespace Ward
/-- behind i rounds: what was read, and what is left -/
def Half {α : Type} (rd : Sta → Option (α × Sta)) (k : Nat) (s : Sta) (i : Nat) (l : List α) (si : Sta) : Prop :=
  l.length = i ∧ i ≤ k ∧ rdMany rd k s = match rdMany rd (k - i) si with | none => none | some (m, s') => some (l ++ m, s')
theorem half_start {α : Type} (rd : Sta → Option (α × Sta)) (k : Nat) (s : Sta) : Half rd k s 0 [] s := by
  refine ⟨rfl, Nat.zero_le _, ?_⟩
  rw [Nat.sub_zero]
  cases h : rdMany rd k s with
  | none => rfl
  | some m => rfl
theorem half_end {α : Type} {rd : Sta → Option (α × Sta)} {k : Nat} {s : Sta} {l : List α} {si : Sta} (h : Half rd k s k l si) : rdMany rd k s = some (l, si) := by
  rw [h.2.2, Nat.sub_self]
  simp [rdMany]
theorem half_none {α : Type} {rd : Sta → Option (α × Sta)} {k : Nat} {s : Sta} {i : Nat} {l : List α} {si : Sta} (h : Half rd k s i l si) (hi : i < k) (hr : rd si = none) : rdMany rd k s = none := by
  rw [h.2.2, show k - i = (k - i - 1) + 1 by omega, rdMany, hr]
theorem half_step {α : Type} {rd : Sta → Option (α × Sta)} {k : Nat} {s : Sta} {i : Nat} {l : List α} {si sj : Sta} {x : α} (h : Half rd k s i l si) (hi : i < k) (hr : rd si = some (x, sj)) : Half rd k s (i + 1) (l ++ [x]) sj := by
  refine ⟨by rw [List.length_append, h.1]; rfl, hi, ?_⟩
  rw [h.2.2, show k - i = (k - (i + 1)) + 1 by omega, rdMany, hr]
  simp only
  cases rdMany rd (k - (i + 1)) sj with
  | none => rfl
  | some m => simp
end Ward
end Go.Proofs.YtenaelkbgkpllaaGreatDoor
