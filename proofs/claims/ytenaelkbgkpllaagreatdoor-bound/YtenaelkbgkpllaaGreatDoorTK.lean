/- A node's text. -/
import Derived.Test.YtenaelkbgkpllaaGreatDoorTJ
namespace Go.Proofs.YtenaelkbgkpllaaGreatDoor
open Go.RowKit

/-- what the laws for a row ask of a node's cells -/
structure Row39 (V : List Value) : Prop where
  len : V.length = 39
  one : V.toArray.all (·.oneCell') = true
  info : (Tryz.prog.info? 90).map (·.size) = some V.toArray.size
  infl : (Tryz.prog.info? 90).map (·.size) = some V.length
  size : V.toArray.size = 39
theorem nodeV_row {a : Option Addr} {l c : Nat} {a' : Option Addr} {l' c' : Nat} {b : Ward.Box} {n : Int} {D : List UInt8} (hD : D.length = 32) : Row39 (nodeV (.slice a l c) (.slice a' l' c') b n (D.map Y)) := by
  have h : (nodeV (.slice a l c) (.slice a' l' c') b n (D.map Y)).length = 39 := by simp [nodeV, hD]
  exact ⟨h, nodeV_one rfl rfl (fun v hv => by obtain ⟨x, _, rfl⟩ := List.mem_map.1 hv; rfl), by rw [List.size_toArray, h]; exact Tryz.infoNode, by rw [h]; exact Tryz.infoNode, by rw [List.size_toArray, h]⟩
theorem textK_two (n : Nat) (K : List (Ward.NT n)) : Ward.textK n K = [2, UInt8.ofNat K.length] ++ K.flatMap (Ward.saidN n) := rfl
theorem said_len {w : World} {S : Nat → Prop} {n : Nat} {t : Ward.NT n} {V : List Value} (h : NodeIs w S n t V) : (Ward.saidN n t).length = 52 := by
  obtain ⟨_, _, _, _, _, _, _, hd⟩ := h.cells
  simp [Ward.saidN, Ward.boxText_len, Ward.fourI_len, hd]
theorem flat_len {α β : Type} {f : α → List β} {c : Nat} : ∀ {l : List α}, (∀ x ∈ l, (f x).length = c) → (l.flatMap f).length = c * l.length
  | [], _ => by simp
  | x :: l, h => by
    rw [List.flatMap_cons, List.length_append, flat_len (l := l) fun y hy => h y (by simp [hy]), h x (by simp), List.length_cons, Nat.mul_succ]; omega
theorem take_said_len {w : World} {S : Nat → Prop} {n : Nat} {K : List (Ward.NT n)} (h : ∀ i (h : i < K.length), ∃ U, NodeIs w S n K[i] U) (i : Nat) : ((K.take i).flatMap (Ward.saidN n)).length ≤ 52 * K.length := by
  rw [flat_len (c := 52) fun t ht => by
    obtain ⟨j, hj, rfl⟩ := List.getElem_of_mem (List.mem_of_mem_take ht)
    obtain ⟨U, hU⟩ := h j hj
    exact said_len hU]
  exact Nat.mul_le_mul_left _ (by rw [List.length_take]; omega)
set_option maxRecDepth 100000 in
set_option maxHeartbeats 2000000 in
theorem nodeText_any (vc : Value) (n : Nat) (K : List (Ward.NT n)) (w : World) (S : Nat → Prop) (hS : ∀ g, S g → g < w.heap.size) (hK : K.length ≤ 4) (hk : RowsAt (NodeIs w S n) w S vc K) :
    Calls Tryz.prog 143 #[vc] w fun e w' => e = .returned (Sv (Ward.textK n K)) ∧ Below w.heap.size w w' := by
  obtain ⟨ap, cp, rfl, hrd⟩ := hk
  have HRD := hide hrd
  clear hrd
  have hB1 := (Below.refl w.heap.size w).alloc (Nat.le_refl _) (.cells #[.int .u8 2, .int .u8 K.length] 5)
  have hO1 : OwnB (w.alloc (.cells #[.int .u8 2, .int .u8 K.length] 5)) w.heap.size (.slice (some ⟨w.heap.size, 0, none⟩) 2 2) [2, UInt8.ofNat K.length] := by
    have hkk : (UInt8.ofNat K.length).toNat = K.length := by rw [UInt8.toNat_ofNat']; omega
    have h := World.ownsRow_lit (base := w.heap.size) (e := 5) (size := 1) w #[.int .u8 2, .int .u8 K.length] 2 (Nat.le_refl _) (by decide) rfl
    have e : [2, UInt8.ofNat K.length].map Y = [.int .u8 2, .int .u8 K.length] := by simp [Y, hkk]
    unfold OwnB
    rw [e]
    exact h
  have HB1 := hide hB1
  have HO1 := hide hO1
  clear hB1 hO1
  obtain ⟨fs, hu⟩ := underNode
  have HU := hide hu
  clear hu
  go_enter Tryz.func143, Tryz.ntmps143
  go_wp2_with fail
  go_loopg [3, 12] K.length (fun gk v3 v12 wq => ∃ i : Nat, gk = K.length - i ∧ v12 = I i ∧ i ≤ K.length ∧ OwnB wq w.heap.size v3 ([2, UInt8.ofNat K.length] ++ (K.take i).flatMap (Ward.saidN n)) ∧ Below w.heap.size w wq)
  case atStart => exact ⟨0, by omega, rfl, by omega, by simpa using HO1.out, HB1.out⟩
  case round =>
    clear HO1 HB1
    obtain ⟨i, hgk, rfl, hi, ho, hb⟩ := hrel
    have HGK := hide hgk
    have HO := hide ho
    have HB := hide hb
    clear hgk ho hb
    by_cases hlt : i < K.length
    · obtain ⟨g, o, rfl, hgS, hrows⟩ := HRD.out (fun e => by subst e; simp at hlt)
      have hgB := hS g hgS
      clear hgS
      obtain ⟨U, hU, hc⟩ := hrows i hlt
      have HT := hide (show (K.take (i + 1)).flatMap (Ward.saidN n) = (K.take i).flatMap (Ward.saidN n) ++ Ward.saidN n K[i] from flat_step (Ward.saidN n) K i hlt)
      have hlen : ((K.take i).flatMap (Ward.saidN n)).length ≤ 208 := Nat.le_trans (take_said_len (fun j hj => ⟨_, (hrows j hj).choose_spec.1⟩) i) (by omega)
      have HC := hide (rangeAt_below hc HB.out hgB)
      obtain ⟨a1, l1, c1, a2, l2, c2, hV, hd⟩ := hU.cells
      have HR := hide (show Row39 U by rw [hV]; exact nodeV_row hd)
      have hs : Ward.saidN n K[i] = childT (Ward.boxN n K[i]) (Ward.numN n K[i]) (Ward.digN n K[i]) := (childT_said _ _ _).symm
      have HA := hide (fun (v : Value) (l : List UInt8) (w2 : World) (hB : w.heap.size ≤ w2.heap.size) (hx : l.length ≤ 700000) (hown : OwnB w2 w.heap.size v l) => by
        have h := appendChild_any v l (.slice a1 l1 c1) (.slice a2 l2 c2) (Ward.boxN n K[i]) (Ward.numN n K[i]) (Ward.digN n K[i]) w2 w.heap.size hB hx hd hown
        rw [← hV, ← hs] at h
        exact h)
      clear hs hV hd hc hU hrows
      generalize Ward.saidN n K[i] = Sd at *
      generalize (K.take i).flatMap (Ward.saidN n) = N at *
      have hsz := HB.out.size
      go_wp2_with (first | (refine wpList_load_mid rfl 90 (.tmp 14) rfl g (o + i * 39) rfl U (.struct fs) HC.out HU.out rfl HR.out.infl ?_) | (refine wpList_store_row rfl 90 (.tmp 5) (.tmp 15) rfl wr.heap.size U.toArray rfl rfl 90 _ (heap_alloc_new wr _) HR.out.info (by rw [HR.out.size]; rfl) HR.out.one ?_; rw [World.setRow_alloc_new]) | (refine wpList_load_row rfl 90 (.tmp 5) rfl wr.heap.size rfl 90 U.toArray (0, 0) (.struct fs) (heap_alloc_new wr _) HU.out rfl HR.out.info ?_))
      have hb2 : Below wr.heap.size wr (wr.alloc (.cells U.toArray 90)) := (Below.refl wr.heap.size wr).alloc (Nat.le_refl _) _
      refine (HA.out _ _ _ (Nat.le_trans hsz hb2.size) (by simp; omega) (HO.out.below hb2)).mono ?_
      intro e w3 h3
      obtain ⟨v3, rfl, ho3, hg3, hf3⟩ := h3.lift hb2
      have HO3 := hide ho3
      have HB3 := hide (HB.out.grown hg3 hsz (fun k hk => (HO.out.lt hk).1))
      clear ho3 hg3 hf3 h3 hb2
      go_wp2_with fail
      go_roundg (K.length - (i + 1))
      case measure => have := HGK.out; omega
      case rel => exact ⟨i + 1, rfl, by go_num, hlt, by
        have h := HO3.out
        rw [HT.out, ← List.append_assoc]
        exact h, HB3.out⟩
    · have ei : i = K.length := by omega
      subst ei
      rw [List.take_length, ← textK_two] at HO
      have hc := HO.out.conv (by simp [Ward.textK])
      generalize hT : Ward.textK n K = T at *
      have HT := hide hT
      clear hT
      go_wp2
      go_ret
      exact ⟨by rw [HT.out]; rfl, HB.out⟩
end Go.Proofs.YtenaelkbgkpllaaGreatDoor
