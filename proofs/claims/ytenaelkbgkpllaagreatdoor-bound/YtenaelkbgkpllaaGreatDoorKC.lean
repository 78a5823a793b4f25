/- The texts that a proof shows. -/
import Derived.Test.YtenaelkbgkpllaaGreatDoorKB
namespace Go.Proofs.YtenaelkbgkpllaaGreatDoor
open Go.RowKit

/-- a text as a value -/
abbrev Sv (l : List UInt8) : Value := .string ⟨l.toArray⟩
/-- a list of texts in a row of its own -/
def OwnS (w : World) (B : Nat) (v : Value) (ls : List (List UInt8)) : Prop := w.ownsRow B 9 1 v ls.length (ls.map Sv)
theorem Tryz.infoStr : (Tryz.prog.info? 9).map (fun i => (i.zero, i.size, i.bytes)) = some (some (.string ⟨#[]⟩), 1, 16) := by kernel_rfl
theorem ba_eq {s : ByteArray} {l : List UInt8} (h : s.data.toList = l) : s = ⟨l.toArray⟩ := by
  subst h; rfl
theorem idx_at (s : ByteArray) (i : Int) (k : Nat) (b : UInt8) (h : s.data.toList[k]? = some b) (hi : i = k) (W : World) : (Instr.index 9 (.string s) (.int .i64 i)).run Tryz.prog W = .ok (.int .u8 b.toNat) W := by
  have hk : k < s.size := by
    obtain ⟨h', _⟩ := List.getElem?_eq_some_iff.1 h
    simpa using h'
  rw [idx_str s i k hi hk, Sha.byteAt, List.getD_eq_getElem?_getD, h]
  rfl
theorem cut_at (s : ByteArray) (i j : Int) (a n : Nat) (l : List UInt8) (h : (s.data.toList.drop a).take n = l) (hn : a + n ≤ s.size) (hi : i = a) (hj : j = a + n) (W : World) : (Instr.slice 9 (.string s) (some (.int .i64 i)) (some (.int .i64 j)) none).run Tryz.prog W = .ok (Sv l) W := by
  subst hi hj
  rw [run_slice_string W 9 s .i64 .i64 a (a + n) Tryz.underlying9 (by omega) (by omega) (by omega), show ((a : Int)).toNat = a by omega, show ((a : Int) + (n : Int)).toNat = a + n by omega]
  have e := ba_eq (s := s.extract a (a + n)) (l := l) (by rw [cut_list, Nat.add_sub_cancel_left]; exact h)
  rw [e]
/-- a text has this at a place -/
def At (s : ByteArray) (i : Nat) (l : List UInt8) : Prop := ∃ r, s.data.toList.drop i = l ++ r
theorem At.size {s : ByteArray} {i : Nat} {l : List UInt8} (h : At s i l) (hne : l ≠ []) : i + l.length ≤ s.size := by
  obtain ⟨r, h⟩ := h
  have h1 := congrArg List.length h
  have h2 : l.length ≠ 0 := fun e => hne (List.length_eq_zero_iff.1 e)
  simp at h1
  omega
theorem At.head {s : ByteArray} {i : Nat} {l m : List UInt8} (h : At s i (l ++ m)) : At s i l := by
  obtain ⟨r, h⟩ := h
  exact ⟨m ++ r, by rw [h, List.append_assoc]⟩
theorem At.tail {s : ByteArray} {i : Nat} {l m : List UInt8} (h : At s i (l ++ m)) : At s (i + l.length) m := by
  obtain ⟨r, h⟩ := h
  refine ⟨r, ?_⟩
  rw [← List.drop_drop, h, List.append_assoc, List.drop_left]
theorem At.take {s : ByteArray} {i : Nat} {l : List UInt8} (h : At s i l) : (s.data.toList.drop i).take l.length = l := by
  obtain ⟨r, h⟩ := h
  rw [h, List.take_left]
theorem At.get {s : ByteArray} {i : Nat} {l : List UInt8} (h : At s i l) (j : Nat) (b : UInt8) (hj : l[j]? = some b) : s.data.toList[i + j]? = some b := by
  obtain ⟨r, h⟩ := h
  rw [← List.getElem?_drop, h, List.getElem?_append_left (List.getElem?_eq_some_iff.1 hj).1, hj]
theorem grown_trans {a b c : World} {v v' : Value} (h : a.grownBy b v.ownBlock) (hf : Fresh a v v') (k : b.grownBy c v'.ownBlock) : a.grownBy c v.ownBlock := by
  refine ⟨k.os.trans h.os, k.tape.trans h.tape, k.output.trans h.output, Nat.le_trans h.size k.size, fun j hj hn => (k.block j (Nat.lt_of_lt_of_le hj h.size) (fun e => ?_)).trans (h.block j hj hn)⟩
  rcases hf with hf | ⟨g, hf, hg⟩
  · exact hn (by rw [e, hf])
  · rw [hf] at e; injection e with e; omega
theorem fresh_trans {a b : World} {v v' v'' : Value} (h : Fresh a v v') (hs : a.heap.size ≤ b.heap.size) (k : Fresh b v' v'') : Fresh a v v'' := by
  rcases k with k | ⟨g, k, hg⟩
  · rcases h with h | ⟨g, h, hg⟩
    · exact .inl (k.trans h)
    · exact .inr ⟨g, k.trans h, hg⟩
  · exact .inr ⟨g, k, Nat.le_trans hs hg⟩
/-- what texts leaves behind -/
def Told (w : World) (B : Nat) (v : Value) (ls more : List (List UInt8)) (own : List UInt8) (i : Nat) (e : Ending) (w' : World) : Prop :=
  ∃ v', e = .returned (.tuple #[v', Sv own, I i]) ∧ OwnS w' B v' (ls ++ more) ∧ w.grownBy w' v.ownBlock ∧ Fresh w v v'
theorem OwnS.slice {w : World} {B : Nat} {v : Value} {ls : List (List UInt8)} (h : OwnS w B v ls) : ∃ a c, v = .slice a ls.length c := by
  rcases h.2 with ⟨rfl, h0⟩ | ⟨g, c, cur, rfl, _⟩
  · exact ⟨none, 0, by rw [h0]⟩
  · exact ⟨_, c, rfl⟩
theorem OwnS.below {w w' : World} {B : Nat} {v : Value} {ls : List (List UInt8)} (h : OwnS w B v ls) (hb : Below w.heap.size w w') : OwnS w' B v ls := by
  refine ⟨h.1, ?_⟩
  rcases h.2 with h0 | ⟨g, cap, cur, rfl, hB, hg, r⟩
  · exact .inl h0
  · exact .inr ⟨g, cap, cur, rfl, hB, (hb.block g (Array.getElem?_eq_some_iff.1 hg).1).trans hg, r⟩

/-- an append as a step of a region that draws, its run being known -/
theorem step_append_run {P : Program} {ops : Array Oper} {o : Oper} {a : Act} {w : World} {K : Act → World → Prop} {Q : Exit → Act → World → Prop} {E : Prop}
    (hg : o.guard = none) (d x : Operand) (dT sT : TypeId) (hop : o.op = Op.call { callee := Callee.builtin Builtin.append, args := #[d, x], argTypes := #[dT, sT] })
    (v u : Value) (hd : a.eval d = v) (hx : a.eval x = u) {v' : Value} {w' : World} (hr : (Builtin.append_ #[dT, sT] o.type #[v, u]).run P w = .ok v' w') (hK : K (a.put o.dst v') w') :
    if Region.wanted o (yielded ops a.tmps) = true then Oper.wp P o a w K Q else E := by
  have hw : Region.wanted o (yielded ops a.tmps) = true := by simp [Region.wanted, hg]
  rw [if_pos hw]
  exact Lib.wp_append_run w d x dT sT hop v u hd hx v' w' hr hK
theorem sv_one (l : List UInt8) : (Sv l).oneCell' = true := rfl
/-- one text more -/
theorem append_text {w : World} {B : Nat} {v : Value} {ls : List (List UInt8)} (T : List UInt8) (hown : OwnS w B v ls) (hB : B ≤ w.heap.size) (hls : ls.length ≤ 1000000) :
    ∃ v' w', (Builtin.append_ #[58, 58] 58 #[v, .slice (some ⟨w.heap.size, 0, none⟩) 1 1]).run Tryz.prog (w.alloc (.cells #[Sv T] 9)) = .ok v' w' ∧ OwnS w' B v' (ls ++ [T]) ∧ w.grownBy w' v.ownBlock ∧ Fresh w v v' := by
  obtain ⟨i0, hi0, hz0, hz1, hz2⟩ := info_parts Tryz.infoStr
  have hb0 := (Below.refl w.heap.size w).alloc (Nat.le_refl _) (.cells #[Sv T] 9)
  obtain ⟨v', w', hr, ho, hg, hf⟩ := run_append_own2 (P := Tryz.prog) (w.alloc (.cells #[Sv T] 9)) B 58 58 9 i0 (.string ⟨#[]⟩) 1 16 Tryz.underlying58 hi0 hz0 hz1 hz2 rfl (by decide) v ls.length (ls.map Sv) (hown.below hb0) ⟨w.heap.size, 0, none⟩ 1 1 [Sv T] rfl
    (fun j u hj => by
      rw [Addr.add_lit]
      rw [cell_of_row _ _ _ _ _ _ (heap_alloc_new w _)]
      match j, hj with
      | 0, hj => simpa using hj)
    (fun u hu => by rw [List.mem_singleton.1 hu]; rfl) (by unfold maxLen; omega) (by omega) (by simp; omega)
  refine ⟨v', w', hr, ?_, ⟨hg.os, hg.tape, hg.output, Nat.le_trans (by simp) hg.size, fun j hj hn => (hg.block j (by simp; omega) hn).trans (Below.heap_alloc w _ j hj)⟩, ?_⟩
  · unfold OwnS
    rw [List.length_append, List.map_append]
    exact ho
  · rcases hf with hf | ⟨g, hf, hgs⟩
    · exact .inl hf
    · exact .inr ⟨g, hf, Nat.le_trans (by simp) hgs⟩

set_option maxRecDepth 100000 in
set_option maxHeartbeats 2000000 in
theorem texts_leaf (s : ByteArray) (i deep B k : Nat) (b : List UInt8) (v : Value) (ls : List (List UInt8)) (w : World) (hk : k ≤ 4) (hb : b.length = 12 * k) (hat : At s i (1 :: UInt8.ofNat k :: b)) (hdeep : deep ≤ 6) (hown : OwnS w B v ls) (hB : B ≤ w.heap.size) (hls : ls.length ≤ 100000) (hs : s.size ≤ 140737488355328) :
    Calls Tryz.prog 44 #[.string s, I i, I deep, v] w fun e w' => Told w B v ls [1 :: UInt8.ofNat k :: b] (1 :: UInt8.ofNat k :: b) (i + (2 + 12 * k)) e w' := by
  obtain ⟨i0, hi0, hz0, hz1, hz2⟩ := info_parts Tryz.infoStr
  have hsz := hat.size (by simp)
  have hlen : (1 :: UInt8.ofNat k :: b).length = 2 + 12 * k := by simp [hb]; omega
  rw [hlen] at hsz
  have b0 := idx_at s i i 1 (by simpa using hat.get 0 1 rfl) rfl
  have b1 := idx_at s ((i : Int) + 1) (i + 1) (UInt8.ofNat k) (hat.get 1 _ rfl) (by omega)
  have hkk : (UInt8.ofNat k).toNat = k := by rw [UInt8.toNat_ofNat']; omega
  rw [hkk] at b1
  have hcut := cut_at s i ((i : Int) + 2 + 12 * (k : Int)) i (2 + 12 * k) (1 :: UInt8.ofNat k :: b) (by rw [← hlen]; exact hat.take) hsz rfl (by omega)
  generalize (1 :: UInt8.ofNat k :: b) = T at *
  obtain ⟨v', w6, hr, ho, hg, hf⟩ := append_text (w := w.drew) T hown hB (by omega)
  obtain ⟨a, c, rfl⟩ := hown.slice
  have HR := hide (show Told w B (.slice a ls.length c) ls [T] T (i + (2 + 12 * k)) (.returned (.tuple #[v', Sv T, I ((i + (2 + 12 * k) : Nat) : Int)])) w6 from ⟨v', rfl, ho, ⟨hg.os, hg.tape, hg.output, hg.size, hg.block⟩, hf⟩)
  have hr' : (Builtin.append_ #[58, 58] 58 #[.slice a ls.length c, .slice (some ⟨w.heap.size, 0, none⟩) 1 1]).run Tryz.prog (w.alloc (.cells #[.string ⟨T.toArray⟩] 9)).drew = .ok v' w6 := hr
  have hcast := hide (show (i : Int) + 2 + 12 * (k : Int) = ((i + (2 + 12 * k) : Nat) : Int) by omega)
  clear hat hown ho hg hf hr
  go_enter Tryz.func44, Tryz.ntmps44
  go_wp2_with fail
  go_region_law (refine step_append_run rfl _ _ 58 58 rfl _ _ (by simp [Act.eval]) (by simp [Act.eval]) hr' ?_)
  all_goals
    go_wp2
    go_ret3
    have h := HR.out
    rw [← hcast.out] at h
    exact h
end Go.Proofs.YtenaelkbgkpllaaGreatDoor
