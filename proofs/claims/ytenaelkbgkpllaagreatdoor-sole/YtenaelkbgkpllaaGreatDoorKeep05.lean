/- Part 5 of what the claims on Bound, Small, Right and Sole rest on. -/
import Derived.Test.YtenaelkbgkpllaaGreatDoorKeep04
import Derived.Deep.DeepCutAuto
import Derived.KernelRfl
import Derived.Laws.BytesArg
import Derived.Shelf.Strings.Builder1
import Derived.Shelf.Strings.Builder2
import Derived.Shelf.Strings.BuilderF
import Derived.Shelf.Strings.Repeat
/- The state's numbers as 32 bytes; the state at first. -/
namespace Go.Proofs.YtenaelkbgkpllaaGreatDoor
open Go.RowKit

/-- the bytes of the first k numbers of a list -/
def bytesTo (l : List Nat) : Nat → List UInt8
  | 0 => []
  | k + 1 => bytesTo l k ++ Sha.four (l.getD k 0)
theorem bytesTo_length (l : List Nat) : ∀ k, (bytesTo l k).length = 4 * k
  | 0 => rfl
  | k + 1 => by simp [bytesTo, bytesTo_length l k, Sha.four]; omega
theorem join_bytes (s : Sha.St) : bytesTo (toL s) 8 = Sha.join s := by
  simp [bytesTo, toL, Sha.join]
theorem Tryz.under22 : Tryz.prog.underlying 39 = some (.array 32 5) := by kernel_rfl
theorem Tryz.info22 : (Tryz.prog.info? 39).map (·.size) = some 32 := by kernel_rfl
theorem arrayAt22 (g cap : Nat) (W : World) : (Instr.arrayAt 39 (.slice (some ⟨g, 0, none⟩) 32 cap)).run Tryz.prog W = .ok (.pointer (some ⟨g, 0, none⟩)) W := by
  simp [Instr.arrayAt, run_underlying Tryz.under22]
theorem getD_ok (s : Sha.St) (h : Sha.Ok s) : ∀ k, (toL s).getD k 0 < 4294967296 := by
  refine Sha.getD_lt ?_
  obtain ⟨a, b, c, d, e, f, g, i⟩ := h
  intro x hx
  simp only [toL, List.mem_cons, List.not_mem_nil, or_false] at hx
  rcases hx with rfl | rfl | rfl | rfl | rfl | rfl | rfl | rfl <;> assumption

set_option maxRecDepth 100000 in
set_option maxHeartbeats 400000 in
theorem join_any (a b c d e f g h : Nat) (w : World) (hs : Sha.Ok ⟨a, b, c, d, e, f, g, h⟩) :
    Calls Tryz.prog 106 #[.agg #[U a, U b, U c, U d, U e, U f, U g, U h]] w fun e' w' => e' = .returned (.agg ((Sha.join ⟨a, b, c, d, e, f, g, h⟩).map Y).toArray) ∧ Below w.heap.size w w' := by
  have HG := hide (getD_ok _ hs)
  clear hs
  have HJ := hide (join_bytes ⟨a, b, c, d, e, f, g, h⟩)
  go_enter Tryz.func106, Tryz.ntmps106
  go_wp2
  go_loopw [3, 7] (fun v i wq => ∃ k : Nat, k ≤ 8 ∧ i = .int .i64 k ∧ wq.ownsRow (w.heap.size + 2) 5 1 v (4 * k) ((bytesTo (toL ⟨a, b, c, d, e, f, g, h⟩) k).map Y) ∧ (k = 8 → v ≠ .slice none 0 0) ∧ w.heap.size + 2 ≤ wq.heap.size ∧ (∃ z : Array Value, z.size = 32 ∧ wq.heap[w.heap.size + 1]? = some (.cells z 39 (0, 0))) ∧ Below w.heap.size w wq)
    (fun _ i _ => 8 - (intOf i).toNat)
  case atStart =>
    refine ⟨0, by omega, rfl, World.ownsRow_nil _ _ _ _, by simp, by simp, ⟨_, ?_, heap_alloc2_new _ _ _⟩, ?_⟩
    · rfl
    · exact ((Below.refl _ _).alloc (Nat.le_refl _) _).alloc (by simp) _
  case round =>
    obtain ⟨k, hk, rfl, hown, hne, hz, ⟨z, hz8, hres⟩, hb⟩ := hrel
    have HO := hide hown
    have HR := hide hres
    have H8 := hide hz8
    clear hown hres hz8
    by_cases hlt : k < 8
    · have hv := idxAgg28 #[U a, U b, U c, U d, U e, U f, U g, U h] (k : Int) k _ rfl hlt (st8_at ⟨a, b, c, d, e, f, g, h⟩ k hlt)
      have hg := HG.out k
      have HB := hide (show bytesTo (toL ⟨a, b, c, d, e, f, g, h⟩) (k + 1) = bytesTo (toL ⟨a, b, c, d, e, f, g, h⟩) k ++ Sha.four ((toL ⟨a, b, c, d, e, f, g, h⟩).getD k 0) from rfl)
      clear hne
      generalize (toL ⟨a, b, c, d, e, f, g, h⟩).getD k 0 = x at *
      go_wp2_with fail
      refine (append_any _ (4 * k) ((bytesTo (toL ⟨a, b, c, d, e, f, g, h⟩) k).map Y) x _ (w.heap.size + 2) hg hz (by omega) HO.out).mono ?_
      rintro e' w' ⟨v', rfl, hown', hb', hsz', hne'⟩
      have HO' := hide hown'
      clear hown'
      go_wp2
      go_roundw
      case rel =>
        refine ⟨k + 1, hlt, by go_num, ?_, fun _ => hne', by omega, ⟨z, H8.out, (hb'.block (w.heap.size + 1) (by omega)).trans HR.out⟩, hb.trans (hb'.mono (by omega))⟩
        have := HO'.out
        rw [← List.map_append, ← HB.out] at this
        exact this
      case measure => simp [intOf]; omega
    · have e8 : k = 8 := by omega
      subst e8
      have hne := hne rfl
      have hown := HO.out
      obtain ⟨hlen, hv | ⟨gb, cap, cur, rfl, hgb, hheap, hcap, hmax, hcs, htake⟩⟩ := hown
      · exact absurd hv.1 hne
      have hrange : wr.rangeAt gb 0 ((bytesTo (toL ⟨a, b, c, d, e, f, g, h⟩) 8).map Y) := by
        intro j u hu
        rw [cell_of_row _ _ _ _ _ _ hheap, Nat.zero_add, ← Array.getElem?_toList]
        rw [← htake] at hu
        have hj : j < 4 * 8 * 1 := by
          rcases Nat.lt_or_ge j (4 * 8 * 1) with h' | h'
          · exact h'
          · rw [List.getElem?_eq_none (by rw [List.length_take]; omega)] at hu; cases hu
        rwa [List.getElem?_take_of_lt hj] at hu
      have h32 : ((bytesTo (toL ⟨a, b, c, d, e, f, g, h⟩) 8).map Y).length = 32 := by rw [List.length_map, bytesTo_length]
      have hone : ((bytesTo (toL ⟨a, b, c, d, e, f, g, h⟩) 8).map Y).toArray.all (·.oneCell') = true := by
        rw [List.all_toArray, List.all_eq_true]
        intro v hv
        obtain ⟨n, _, rfl⟩ := List.mem_map.1 hv
        rfl
      have har := arrayAt22 gb cap
      rw [HJ.out] at hrange h32 hone
      clear hne hlen hheap hcap hmax hcs htake HO HJ HG hlt hk
      generalize hLe : (Sha.join ⟨a, b, c, d, e, f, g, h⟩).map Y = L at *
      have HLe := hide hLe
      clear hLe
      have HRg := hide hrange
      have H32 := hide h32
      have H1 := hide hone
      have HI := hide (show (Tryz.prog.info? 39).map (·.size) = some L.toArray.size by rw [List.size_toArray, h32]; exact Tryz.info22)
      have HE := hide (show z.size = L.toArray.size by rw [H8.out, List.size_toArray, h32])
      clear hrange h32 hone
      go_wp2_with (first | (refine wpList_load_mid rfl 39 (.tmp 15) rfl gb 0 rfl L _ HRg.out Tryz.under22 rfl (by rw [H32.out]; exact Tryz.info22) ?_) | (refine wpList_store_row rfl 39 (.tmp 2) (.tmp 16) rfl (w.heap.size + 1) L.toArray rfl rfl 39 z HR.out HI.out HE.out H1.out ?_))
      refine bodyPost_ret (v := .agg L.toArray) ?_ rfl ⟨by rw [HLe.out], below_setRow hb (by omega) _⟩
      exact results_cell_row rfl _ _ (w.heap.size + 1) 39 L.toArray (0, 0) _ rfl (setRow_heap _ _ _ _ _ _ HR.out) Tryz.under22 rfl HI.out

set_option maxRecDepth 100000 in
set_option maxHeartbeats 400000 in
theorem start_any (w : World) :
    Calls Tryz.prog 105 #[] w fun e' w' => e' = .returned (.agg #[U 1779033703, U 3144134277, U 1013904242, U 2773480762, U 1359893119, U 2600822924, U 528734635, U 1541459225]) ∧ Below w.heap.size w w' := by
  go_enter Tryz.func105, Tryz.ntmps105
  go_wp2
  exact bodyPost_ret (v := .agg #[U 1779033703, U 3144134277, U 1013904242, U 2773480762, U 1359893119, U 2600822924, U 528734635, U 1541459225]) (results_cell_row rfl _ _ w.heap.size 64 _ (0, 0) _ rfl (heap_alloc_new w _) Tryz.under28 rfl Tryz.info28) rfl ⟨rfl, (Below.refl _ _).alloc (Nat.le_refl _) _⟩
end Go.Proofs.YtenaelkbgkpllaaGreatDoor
/- The library's contract of strings.Repeat, laid at this program. -/
namespace Go.Proofs.YtenaelkbgkpllaaGreatDoor
open Go.Shelf
def Tryz.lays105_ren : Go.Shelf.Ren := ⟨fun | 105 => 141 | 212 => 169 | 99 => 170 | 165 => 171 | 166 => 172 | 170 => 173 | 169 => 174 | 263 => 187 | 264 => 188 | 206 => 189 | 240 => 190 | 241 => 191 | 276 => 194 | 277 => 195 | n => n, fun | 9 => 9 | 3 => 3 | 4 => 4 | 20 => 20 | 0 => 0 | 46 => 123 | 109 => 231 | 5 => 5 | 72 => 235 | 76 => 239 | 51 => 63 | 146 => 250 | 53 => 142 | 148 => 252 | 70 => 233 | 37 => 59 | 75 => 238 | 127 => 254 | 164 => 258 | 80 => 200 | n => n, fun | n => n⟩
theorem Tryz.lays105 : Go.Proofs.Lays.n105 Tryz.prog Tryz.lays105_ren := {
  mixed := by kernel_rfl
  f99 := Tryz.func170.trans (congrArg some (by kernel_rfl))
  f105 := Tryz.func141.trans (congrArg some (by kernel_rfl))
  f165 := Tryz.func171.trans (congrArg some (by kernel_rfl))
  f166 := Tryz.func172.trans (congrArg some (by kernel_rfl))
  f169 := Tryz.func174.trans (congrArg some (by kernel_rfl))
  f170 := Tryz.func173.trans (congrArg some (by kernel_rfl))
  f206 := Tryz.func189.trans (congrArg some (by kernel_rfl))
  f212 := Tryz.func169.trans (congrArg some (by kernel_rfl))
  f240 := Tryz.func190.trans (congrArg some (by kernel_rfl))
  f241 := Tryz.func191.trans (congrArg some (by kernel_rfl))
  f263 := Tryz.func187.trans (congrArg some (by kernel_rfl))
  f264 := Tryz.func188.trans (congrArg some (by kernel_rfl))
  f276 := Tryz.func194.trans (congrArg some (by kernel_rfl))
  f277 := Tryz.func195.trans (congrArg some (by kernel_rfl))
  t0 := Tryz.underlying0
  a0 := Tryz.isAgg0
  z0 := Tryz.sizeOf0
  v0 := Tryz.zeroValue0
  t3 := Tryz.underlying3
  a3 := Tryz.isAgg3
  z3 := Tryz.sizeOf3
  v3 := Tryz.zeroValue3
  t4 := Tryz.underlying4
  a4 := Tryz.isAgg4
  z4 := Tryz.sizeOf4
  v4 := Tryz.zeroValue4
  t5 := Tryz.underlying5
  a5 := Tryz.isAgg5
  z5 := Tryz.sizeOf5
  v5 := Tryz.zeroValue5
  t9 := Tryz.underlying9
  a9 := Tryz.isAgg9
  z9 := Tryz.sizeOf9
  v9 := Tryz.zeroValue9
  t20 := Tryz.underlying20
  a20 := Tryz.isAgg20
  z20 := Tryz.sizeOf20
  v20 := Tryz.zeroValue20
  t37 := Tryz.underlying59
  a37 := Tryz.isAgg59
  z37 := Tryz.sizeOf59
  v37 := Tryz.zeroValue59
  t46 := Tryz.underlying123
  a46 := Tryz.isAgg123
  z46 := Tryz.sizeOf123
  v46 := Tryz.zeroValue123
  t51 := Tryz.underlying63
  a51 := Tryz.isAgg63
  z51 := Tryz.sizeOf63
  v51 := Tryz.zeroValue63
  t53 := Tryz.underlying142
  a53 := Tryz.isAgg142
  z53 := Tryz.sizeOf142
  v53 := Tryz.zeroValue142
  t70 := Tryz.underlying233
  a70 := Tryz.isAgg233
  z70 := Tryz.sizeOf233
  v70 := Tryz.zeroValue233
  t72 := Tryz.underlying235
  a72 := Tryz.isAgg235
  z72 := Tryz.sizeOf235
  v72 := Tryz.zeroValue235
  t75 := Tryz.underlying238
  a75 := Tryz.isAgg238
  z75 := Tryz.sizeOf238
  v75 := Tryz.zeroValue238
  t76 := Tryz.underlying239
  a76 := Tryz.isAgg239
  z76 := Tryz.sizeOf239
  v76 := Tryz.zeroValue239
  t109 := Tryz.underlying231
  a109 := Tryz.isAgg231
  z109 := Tryz.sizeOf231
  v109 := Tryz.zeroValue231
  t127 := Tryz.underlying254
  a127 := Tryz.isAgg254
  z127 := Tryz.sizeOf254
  v127 := Tryz.zeroValue254
  t146 := Tryz.underlying250
  a146 := Tryz.isAgg250
  z146 := Tryz.sizeOf250
  v146 := Tryz.zeroValue250
  t148 := Tryz.underlying252
  a148 := Tryz.isAgg252
  z148 := Tryz.sizeOf252
  v148 := Tryz.zeroValue252
  t164 := Tryz.underlying258
  a164 := Tryz.isAgg258
  z164 := Tryz.sizeOf258
  v164 := Tryz.zeroValue258 }
theorem Tryz.Builder_Extra_105 : Builder.Extra Tryz.prog Tryz.lays105_ren := {
  sizeBuilder := by kernel_rfl
  liesBuilder := by kernel_rfl
  t5 := Tryz.underlying5
  a5 := Tryz.isAgg5
  z5 := Tryz.sizeOf5
  v5 := Tryz.zeroValue5
  infoByte := by kernel_rfl
  cellsByte := by kernel_rfl
  sizeByte := by kernel_rfl
  neB5 := by decide }
theorem repeat_any (s : ByteArray) (c : Nat) (w : World) (hc : c ≤ 9223372036854775807) (hlen : s.size * c ≤ 140737488355328) :
    Calls Tryz.prog 141 #[.string s, .int .i64 c] w fun e w' => e = .returned (.string ⟨(Lib.repeatL s.data.toList c).toArray⟩) ∧ Go.RowKit.Below w.heap.size w w' := Any.strings_Repeat Tryz.lays105 Tryz.Builder_Extra_105 s c w hc hlen
end Go.Proofs.YtenaelkbgkpllaaGreatDoor
/- What is put behind a text. -/
namespace Go.Proofs.YtenaelkbgkpllaaGreatDoor
open Go.RowKit

theorem str_of_bytes (l : List UInt8) : strOfNums (l.map fun b => (b.toNat : Int)) = ⟨l.toArray⟩ := by
  apply ByteArray.ext
  apply Array.toList_inj.1
  rw [strOfNums_data, List.map_map]
  show l.map ((fun n : Int => UInt8.ofNat n.toNat) ∘ fun b : UInt8 => (b.toNat : Int)) = l
  have : ((fun n : Int => UInt8.ofNat n.toNat) ∘ fun b : UInt8 => (b.toNat : Int)) = id := by
    funext b; simp
  rw [this, List.map_id]
theorem conv_bytes (g n cap : Nat) (l : List UInt8) (hl : l.length = n) (W : World) (h : W.rangeAt g 0 (l.map Y)) :
    (convert 59 9 (.slice (some ⟨g, 0, none⟩) n cap)).run Tryz.prog W = .ok (.string ⟨l.toArray⟩) W := by
  rw [← str_of_bytes]
  refine run_convert_bytes_arg W 59 5 Tryz.underlying59 Tryz.underlying5 g 0 n cap (l.map fun b => (b.toNat : Int)) (by rw [List.length_map, hl]) (fun i hi => ?_) 9 Tryz.underlying9
  refine h i _ ?_
  rw [List.getElem?_map, List.getElem?_eq_getElem (by omega), List.getD_eq_getElem?_getD, List.getElem?_map, List.getElem?_eq_getElem (by omega)]
  rfl
theorem range_of_owns {w : World} {B n : Nat} {l : List UInt8} {v : Value} (h : w.ownsRow B 5 1 v n (l.map Y)) (hne : v ≠ .slice none 0 0) :
    ∃ g cap, v = .slice (some ⟨g, 0, none⟩) n cap ∧ B ≤ g ∧ g < w.heap.size ∧ w.rangeAt g 0 (l.map Y) := by
  obtain ⟨hlen, hv | ⟨gb, cap, cur, rfl, hgb, hheap, hcap, hmax, hcs, htake⟩⟩ := h
  · exact absurd hv.1 hne
  refine ⟨gb, cap, rfl, hgb, ?_, ?_⟩
  · rcases Nat.lt_or_ge gb w.heap.size with h' | h'
    · exact h'
    · rw [Array.getElem?_eq_none h'] at hheap; cases hheap
  · intro j u hu
    rw [cell_of_row _ _ _ _ _ _ hheap, Nat.zero_add, ← Array.getElem?_toList]
    rw [← htake] at hu
    have hj : j < n * 1 := by
      rcases Nat.lt_or_ge j (n * 1) with h' | h'
      · exact h'
      · rw [List.getElem?_eq_none (by rw [List.length_take]; omega)] at hu; cases hu
    rwa [List.getElem?_take_of_lt hj] at hu
theorem range_below {B : Nat} {w w' : World} {g : Nat} {L : List Value} (hb : Below B w w') (hg : g < B) (h : w.rangeAt g 0 L) : w'.rangeAt g 0 L :=
  fun j v hv => (hb.cell (p := ⟨g, 0 + j, none⟩) hg).trans (h j v hv)
theorem append_anyI (v : Value) (k : Nat) (xs : List Value) (x : Int) (n : Nat) (w : World) (B : Nat) (hx : x = n) (hn : n < 4294967296) (hB : B ≤ w.heap.size) (hk : k ≤ 1000) (hown : w.ownsRow B 5 1 v k xs) :
    Calls Tryz.prog 140 #[v, .int .u32 x] w fun e w' => ∃ v', e = .returned v' ∧ w'.ownsRow B 5 1 v' (k + 4) (xs ++ (Sha.four n).map Y) ∧ Below B w w' ∧ w.heap.size ≤ w'.heap.size ∧ v' ≠ .slice none 0 0 := by
  subst hx; exact append_any v k xs n w B hn hB hk hown
theorem repeat_anyI (x : Int) (c : Nat) (Z : List UInt8) (w : World) (hx : x = c) (hc : c < 64) (hZ : List.replicate c (0 : UInt8) = Z) :
    Calls Tryz.prog 141 #[.string ⟨#[0]⟩, .int .i64 x] w fun e w' => e = .returned (.string ⟨Z.toArray⟩) ∧ Below w.heap.size w w' := by
  subst hx
  subst hZ
  have := repeat_any ⟨#[0]⟩ c w (by omega) (by show 1 * c ≤ _; omega)
  have e : ∀ c, Lib.repeatL [(0 : UInt8)] c = List.replicate c 0 := by
    intro c; induction c with
    | zero => rfl
    | succ c ih => rw [Lib.repeatL, ih]; rfl
  rw [show (⟨#[0]⟩ : ByteArray).data.toList = [(0 : UInt8)] from rfl, e] at this
  exact this

set_option maxRecDepth 100000 in
set_option maxHeartbeats 400000 in
theorem padding_any (n : Nat) (w : World) (hn : n ≤ 140737488355328) :
    Calls Tryz.prog 107 #[.int .i64 n] w fun e w' => e = .returned (.string ⟨(Sha.padding n).toArray⟩) ∧ Below w.heap.size w w' := by
  go_enter Tryz.func107, Tryz.ntmps107
  go_wp2_with fail
  refine (append_anyI _ 0 [] _ (8 * n / 4294967296 % 4294967296) _ w.heap.size (by omega) (by omega) (Nat.le_refl _) (by omega) (World.ownsRow_nil _ _ _ _)).mono ?_
  rintro e w1 ⟨v1, rfl, hown1, hb1, hs1, -⟩
  have HO1 := hide hown1
  clear hown1
  go_wp2_with fail
  refine (append_anyI _ 4 _ _ (8 * n % 4294967296) _ w.heap.size (by omega) (by omega) hs1 (by omega) HO1.out).mono ?_
  rintro e w2 ⟨v2, rfl, hown2, hb2, hs2, hne⟩
  rw [List.nil_append, ← List.map_append] at hown2
  obtain ⟨g, cap, rfl, hg0, hg1, hrg⟩ := range_of_owns hown2 hne
  have hbw := hb1.trans hb2
  clear hown2 hne HO1
  have hconv := conv_bytes g 8 cap (Sha.four (8 * n / 4294967296 % 4294967296) ++ Sha.four (8 * n % 4294967296)) rfl
  have HP := hide (show Sha.padding n = (128 :: List.replicate ((119 - n % 64) % 64) 0) ++ (Sha.four (8 * n / 4294967296 % 4294967296) ++ Sha.four (8 * n % 4294967296)) from rfl)
  have hT8 : (Sha.four (8 * n / 4294967296 % 4294967296) ++ Sha.four (8 * n % 4294967296)).length = 8 := rfl
  generalize Sha.four (8 * n / 4294967296 % 4294967296) ++ Sha.four (8 * n % 4294967296) = T at *
  have hZl : (List.replicate ((119 - n % 64) % 64) (0 : UInt8)).length = (119 - n % 64) % 64 := List.length_replicate
  generalize hZe : List.replicate ((119 - n % 64) % 64) (0 : UInt8) = Z at *
  have HZe := hide hZe
  have ha1 : ∀ W, (Op.stringOp .add ⟨#[128]⟩ ⟨Z.toArray⟩).run Tryz.prog W = .ok (.string ⟨(128 :: Z).toArray⟩) W := fun W => run_string_add_lists W [128] Z (by simp) (by omega)
  have ha2 : ∀ W, (Op.stringOp .add ⟨(128 :: Z).toArray⟩ ⟨T.toArray⟩).run Tryz.prog W = .ok (.string ⟨(128 :: Z ++ T).toArray⟩) W := fun W => run_string_add_lists W (128 :: Z) T (by simp; omega) (by omega)
  generalize hAe : 128 :: Z = A at *
  generalize hBe : A ++ T = D at *
  clear hZe hZl hT8 hAe hBe
  go_wp2_with fail
  go_region_held3 (fun W => W.rangeAt g 0 (T.map Y)) (first | assumption | (simpa using hrg)) ((go_at_call 141; refine (repeat_anyI _ ((119 - n % 64) % 64) Z _ (by omega) (by omega) HZe.out).mono ?_; rintro e w3 ⟨rfl, hb3⟩; have hS3 := range_below hb3 (by simpa using hg1) (by simpa using hrg)))
  go_wp2
  go_ret
  exact ⟨congrArg (fun l : List UInt8 => Ending.returned (Value.string ⟨l.toArray⟩)) HP.out.symm, hbw.drew.trans (hb3.mono (show w.heap.size ≤ w2.heap.size by omega))⟩
end Go.Proofs.YtenaelkbgkpllaaGreatDoor
/- The digest of a text. -/
namespace Go.Proofs.YtenaelkbgkpllaaGreatDoor
open Go.RowKit

theorem stirAll_lit (a b c d e f g h : Nat) (s : ByteArray) (m : Nat) (l : List UInt8) (w : World) (hs : Sha.Ok ⟨a, b, c, d, e, f, g, h⟩) (hm : s.size = 64 * m) (hl : s.size ≤ 140737488355328) (hK : KT w) (hd : s.data.toList = l) :
    Calls Tryz.prog 104 #[.agg #[U a, U b, U c, U d, U e, U f, U g, U h], .string s] w fun e' w' => ∃ x : Sha.St, x = Sha.stirN l m ⟨a, b, c, d, e, f, g, h⟩ ∧ e' = .returned (.agg #[U x.a, U x.b, U x.c, U x.d, U x.e, U x.f, U x.g, U x.h]) ∧ Below w.heap.size w w' :=
  (stirAll_any a b c d e f g h s m w hs hm hl hK).mono fun _ _ ⟨he, hb⟩ => ⟨_, rfl, by rw [he, hd]; rfl, hb⟩
theorem KT.drew {w : World} (h : KT w) : KT w.drew := fun i hi => h i hi

theorem padding_length (n : Nat) : (Sha.padding n).length = 9 + (119 - n % 64) % 64 := by
  simp [Sha.padding, Sha.four]; omega
theorem last_length (l : List UInt8) : (Sha.last l).length = 64 * ((Sha.last l).length / 64) ∧ (Sha.last l).length ≤ 128 := by
  have h : (Sha.last l).length = l.length % 64 + (9 + (119 - l.length % 64) % 64) := by
    rw [Sha.last, List.length_append, padding_length, List.length_drop, Sha.whole]; omega
  rw [h]; omega
theorem keep9 {B g b xa xb xc xd xe xf xg xh : Nat} {W W' : World} (hb : Below B W W') (hg : g < B) (hr : b < B) (h : W.cell? ⟨g, 0, none⟩ = some (U xa) ∧ W.cell? ⟨g, 1, none⟩ = some (U xb) ∧ W.cell? ⟨g, 2, none⟩ = some (U xc) ∧ W.cell? ⟨g, 3, none⟩ = some (U xd) ∧ W.cell? ⟨g, 4, none⟩ = some (U xe) ∧ W.cell? ⟨g, 5, none⟩ = some (U xf) ∧ W.cell? ⟨g, 6, none⟩ = some (U xg) ∧ W.cell? ⟨g, 7, none⟩ = some (U xh) ∧ W.there b 0 32) : W'.cell? ⟨g, 0, none⟩ = some (U xa) ∧ W'.cell? ⟨g, 1, none⟩ = some (U xb) ∧ W'.cell? ⟨g, 2, none⟩ = some (U xc) ∧ W'.cell? ⟨g, 3, none⟩ = some (U xd) ∧ W'.cell? ⟨g, 4, none⟩ = some (U xe) ∧ W'.cell? ⟨g, 5, none⟩ = some (U xf) ∧ W'.cell? ⟨g, 6, none⟩ = some (U xg) ∧ W'.cell? ⟨g, 7, none⟩ = some (U xh) ∧ W'.there b 0 32 := by
  obtain ⟨c0, c1, c2, c3, c4, c5, c6, c7, ht⟩ := h
  refine ⟨(hb.cell hg).trans c0, (hb.cell hg).trans c1, (hb.cell hg).trans c2, (hb.cell hg).trans c3, (hb.cell hg).trans c4, (hb.cell hg).trans c5, (hb.cell hg).trans c6, (hb.cell hg).trans c7, fun j hj => ?_⟩
  rw [hb.cell (p := ⟨b, 0 + j, none⟩) hr, hb.frozen (p := ⟨b, 0 + j, none⟩) hr]
  exact ht j hj
theorem keepSet {g b xa xb xc xd xe xf xg xh : Nat} {W : World} (L : List Value) (hne : g ≠ b) (h : W.cell? ⟨g, 0, none⟩ = some (U xa) ∧ W.cell? ⟨g, 1, none⟩ = some (U xb) ∧ W.cell? ⟨g, 2, none⟩ = some (U xc) ∧ W.cell? ⟨g, 3, none⟩ = some (U xd) ∧ W.cell? ⟨g, 4, none⟩ = some (U xe) ∧ W.cell? ⟨g, 5, none⟩ = some (U xf) ∧ W.cell? ⟨g, 6, none⟩ = some (U xg) ∧ W.cell? ⟨g, 7, none⟩ = some (U xh) ∧ W.there b 0 32) : (W.setCells b 0 L).cell? ⟨g, 0, none⟩ = some (U xa) ∧ (W.setCells b 0 L).cell? ⟨g, 1, none⟩ = some (U xb) ∧ (W.setCells b 0 L).cell? ⟨g, 2, none⟩ = some (U xc) ∧ (W.setCells b 0 L).cell? ⟨g, 3, none⟩ = some (U xd) ∧ (W.setCells b 0 L).cell? ⟨g, 4, none⟩ = some (U xe) ∧ (W.setCells b 0 L).cell? ⟨g, 5, none⟩ = some (U xf) ∧ (W.setCells b 0 L).cell? ⟨g, 6, none⟩ = some (U xg) ∧ (W.setCells b 0 L).cell? ⟨g, 7, none⟩ = some (U xh) ∧ (W.setCells b 0 L).there b 0 32 := by
  obtain ⟨c0, c1, c2, c3, c4, c5, c6, c7, ht⟩ := h
  have o : ∀ i, (W.setCells b 0 L).cell? ⟨g, i, none⟩ = W.cell? ⟨g, i, none⟩ := fun i => World.cell?_setCells_out b L 0 W ⟨g, i, none⟩ (fun e => absurd e hne)
  exact ⟨(o 0).trans c0, (o 1).trans c1, (o 2).trans c2, (o 3).trans c3, (o 4).trans c4, (o 5).trans c5, (o 6).trans c6, (o 7).trans c7, World.there_setCells ht b 0 L⟩
theorem there_of_row {w : World} {b n : Nat} {z : Array Value} {t : TypeId} (h : w.heap[b]? = some (.cells z t (0, 0))) (hn : z.size = n) : w.there b 0 n := fun j hj => by
  rw [cell_of_row _ _ _ _ _ _ h, Nat.zero_add, frozen_of_row _ _ _ _ _ h, Array.getElem?_eq_getElem (by omega)]
  exact ⟨rfl, rfl⟩
theorem stirAll_to (a b c d e f g h a' b' c' d' e' f' g' h' : Nat) (s : ByteArray) (m : Nat) (l : List UInt8) (w : World) (hs : Sha.Ok ⟨a, b, c, d, e, f, g, h⟩) (hm : s.size = 64 * m) (hl : s.size ≤ 140737488355328) (hd : s.data.toList = l) (hy : Sha.stirN l m ⟨a, b, c, d, e, f, g, h⟩ = ⟨a', b', c', d', e', f', g', h'⟩) (hK : KT w) :
    Calls Tryz.prog 104 #[.agg #[U a, U b, U c, U d, U e, U f, U g, U h], .string s] w fun r w' => r = .returned (.agg #[U a', U b', U c', U d', U e', U f', U g', U h']) ∧ Below w.heap.size w w' :=
  (stirAll_any a b c d e f g h s m w hs hm hl hK).mono fun _ _ ⟨he, hb⟩ => ⟨by rw [he, hd, hy]; rfl, hb⟩
theorem join_to (a b c d e f g h : Nat) (L : List Value) (w : World) (hs : Sha.Ok ⟨a, b, c, d, e, f, g, h⟩) (hL : (Sha.join ⟨a, b, c, d, e, f, g, h⟩).map Y = L) :
    Calls Tryz.prog 106 #[.agg #[U a, U b, U c, U d, U e, U f, U g, U h]] w fun e' w' => e' = .returned (.agg L.toArray) ∧ Below w.heap.size w w' := by
  subst hL; exact join_any a b c d e f g h w hs
theorem below_setCells {B b : Nat} (hB : B ≤ b) : ∀ (L : List Value) (o : Nat) {w w' : World}, Below B w w' → Below B w (w'.setCells b o L)
  | [], _, _, _, h => h
  | v :: L, o, _, _, h => below_setCells hB L (o + 1) (h.setCell (p := ⟨b, o, none⟩) hB v)
theorem results_cell_mid {fn : Func} {p : Tmp} {ty : TypeId} (h : fn.results = #[.cell p ty]) (tmps : Array Value) (w : World) (g : Nat) (L : List Value) (d : TypeDesc)
    (hp : tmps.getD p undef = .pointer (some ⟨g, 0, none⟩)) (hg : w.rangeAt g 0 L)
    (hu : Tryz.prog.underlying ty = some d) (hd : d.isRow = true) (hi : (Tryz.prog.info? ty).map (·.size) = some L.length) :
    (results fn tmps).run Tryz.prog w = .ok (.agg L.toArray) w := by
  have hp' : tmps[p]?.getD undef = .pointer (some ⟨g, 0, none⟩) := by simpa using hp
  simp [results, h, hp', asAddr, run_loadVar_mid w g 0 ty L d hg hu hd hi]
theorem below_set8 {B g : Nat} {w w2 : World} {v0 v1 v2 v3 v4 v5 v6 v7 : Value} (h : Below B w w2) (hg : B ≤ g) : Below B w ((((((((w2.setCell ⟨g, 0, none⟩ v0).setCell ⟨g, 1, none⟩ v1).setCell ⟨g, 2, none⟩ v2).setCell ⟨g, 3, none⟩ v3).setCell ⟨g, 4, none⟩ v4).setCell ⟨g, 5, none⟩ v5).setCell ⟨g, 6, none⟩ v6).setCell ⟨g, 7, none⟩ v7) :=
  (((((((h.setCell hg _).setCell hg _).setCell hg _).setCell hg _).setCell hg _).setCell hg _).setCell hg _).setCell hg _
theorem KT.le {B : Nat} {w w' : World} (h : KT w) (hb : Below B w w') (hB : 1 < B) : KT w' := fun i hi => (hb.cell (p := ⟨1, i, none⟩) hB).trans (h i hi)
theorem wayC {w w0 w1 w2 : World} {z : Array Value} {x X : Sha.St} (hR : w0.heap[w.heap.size]? = some (.cells z 39 (0, 0))) (h0 : Below w.heap.size w w0) (hz : w0.heap.size = w.heap.size + 1) (hK : KT w0)
    (hb1 : Below w0.drew.heap.size w0.drew w1) (hb2 : Below w1.heap.size w1 w2) (hx : x = X) :
    ∃ g', Value.pointer (some ⟨w2.heap.size, 0, none⟩) = .pointer (some ⟨g', 0, none⟩) ∧ w.heap.size < g' ∧ (∃ y : Sha.St, y = X ∧ (w2.alloc (.cells #[U x.a, U x.b, U x.c, U x.d, U x.e, U x.f, U x.g, U x.h] 64)).heap[g']? = some (.cells #[U y.a, U y.b, U y.c, U y.d, U y.e, U y.f, U y.g, U y.h] 64 (0, 0))) ∧ (w2.alloc (.cells #[U x.a, U x.b, U x.c, U x.d, U x.e, U x.f, U x.g, U x.h] 64)).heap[w.heap.size]? = some (.cells z 39 (0, 0)) ∧ Below w.heap.size w (w2.alloc (.cells #[U x.a, U x.b, U x.c, U x.d, U x.e, U x.f, U x.g, U x.h] 64)) ∧ KT (w2.alloc (.cells #[U x.a, U x.b, U x.c, U x.d, U x.e, U x.f, U x.g, U x.h] 64)) := by
  have s1 : w0.heap.size ≤ w1.heap.size := hb1.size
  have s2 := hb2.size
  have b1 : Below w0.heap.size w0 w1 := ((Below.refl _ _).drew).trans hb1
  have b2 : Below w0.heap.size w0 w2 := b1.trans (hb2.mono s1)
  have b3 : Below w0.heap.size w0 (w2.alloc (.cells #[U x.a, U x.b, U x.c, U x.d, U x.e, U x.f, U x.g, U x.h] 64)) := b2.alloc (by omega) _
  exact ⟨_, rfl, by omega, ⟨x, hx, heap_alloc_new w2 _⟩, (b3.block _ (by omega)).trans hR, h0.trans (b3.mono (by omega)), hK.below b3⟩
theorem wayB {w w0 w1 w2 : World} {z : Array Value} {x X : Sha.St} (hR : w0.heap[w.heap.size]? = some (.cells z 39 (0, 0))) (h0 : Below w.heap.size w w0) (hz : w0.heap.size = w.heap.size + 1) (hK : KT w0)
    (hb1 : Below w0.drew.heap.size w0.drew w1) (hb2 : Below (w1.alloc (.cells #[.int .u32 0, .int .u32 0, .int .u32 0, .int .u32 0, .int .u32 0, .int .u32 0, .int .u32 0, .int .u32 0] 64)).heap.size (w1.alloc (.cells #[.int .u32 0, .int .u32 0, .int .u32 0, .int .u32 0, .int .u32 0, .int .u32 0, .int .u32 0, .int .u32 0] 64)) w2) (hx : x = X) :
    ∃ g', Value.pointer (some ⟨w1.heap.size, 0, none⟩) = .pointer (some ⟨g', 0, none⟩) ∧ w.heap.size < g' ∧ (∃ y : Sha.St, y = X ∧ ((((((((w2.setCell ⟨w1.heap.size, 0, none⟩ (U x.a)).setCell ⟨w1.heap.size, 1, none⟩ (U x.b)).setCell ⟨w1.heap.size, 2, none⟩ (U x.c)).setCell ⟨w1.heap.size, 3, none⟩ (U x.d)).setCell ⟨w1.heap.size, 4, none⟩ (U x.e)).setCell ⟨w1.heap.size, 5, none⟩ (U x.f)).setCell ⟨w1.heap.size, 6, none⟩ (U x.g)).setCell ⟨w1.heap.size, 7, none⟩ (U x.h)).heap[g']? = some (.cells #[U y.a, U y.b, U y.c, U y.d, U y.e, U y.f, U y.g, U y.h] 64 (0, 0))) ∧ ((((((((w2.setCell ⟨w1.heap.size, 0, none⟩ (U x.a)).setCell ⟨w1.heap.size, 1, none⟩ (U x.b)).setCell ⟨w1.heap.size, 2, none⟩ (U x.c)).setCell ⟨w1.heap.size, 3, none⟩ (U x.d)).setCell ⟨w1.heap.size, 4, none⟩ (U x.e)).setCell ⟨w1.heap.size, 5, none⟩ (U x.f)).setCell ⟨w1.heap.size, 6, none⟩ (U x.g)).setCell ⟨w1.heap.size, 7, none⟩ (U x.h)).heap[w.heap.size]? = some (.cells z 39 (0, 0)) ∧ Below w.heap.size w ((((((((w2.setCell ⟨w1.heap.size, 0, none⟩ (U x.a)).setCell ⟨w1.heap.size, 1, none⟩ (U x.b)).setCell ⟨w1.heap.size, 2, none⟩ (U x.c)).setCell ⟨w1.heap.size, 3, none⟩ (U x.d)).setCell ⟨w1.heap.size, 4, none⟩ (U x.e)).setCell ⟨w1.heap.size, 5, none⟩ (U x.f)).setCell ⟨w1.heap.size, 6, none⟩ (U x.g)).setCell ⟨w1.heap.size, 7, none⟩ (U x.h)) ∧ KT ((((((((w2.setCell ⟨w1.heap.size, 0, none⟩ (U x.a)).setCell ⟨w1.heap.size, 1, none⟩ (U x.b)).setCell ⟨w1.heap.size, 2, none⟩ (U x.c)).setCell ⟨w1.heap.size, 3, none⟩ (U x.d)).setCell ⟨w1.heap.size, 4, none⟩ (U x.e)).setCell ⟨w1.heap.size, 5, none⟩ (U x.f)).setCell ⟨w1.heap.size, 6, none⟩ (U x.g)).setCell ⟨w1.heap.size, 7, none⟩ (U x.h)) := by
  have s1 : w0.heap.size ≤ w1.heap.size := hb1.size
  have b1 : Below w0.heap.size w0 w1 := ((Below.refl _ _).drew).trans hb1
  have b2 : Below w0.heap.size w0 w2 := (b1.alloc s1 _).trans (hb2.mono (by simp; omega))
  have b3 : Below w0.heap.size w0 ((((((((w2.setCell ⟨w1.heap.size, 0, none⟩ (U x.a)).setCell ⟨w1.heap.size, 1, none⟩ (U x.b)).setCell ⟨w1.heap.size, 2, none⟩ (U x.c)).setCell ⟨w1.heap.size, 3, none⟩ (U x.d)).setCell ⟨w1.heap.size, 4, none⟩ (U x.e)).setCell ⟨w1.heap.size, 5, none⟩ (U x.f)).setCell ⟨w1.heap.size, 6, none⟩ (U x.g)).setCell ⟨w1.heap.size, 7, none⟩ (U x.h)) := below_set8 b2 s1
  exact ⟨_, rfl, by omega, ⟨x, hx, set8 ((hb2.block w1.heap.size (by simp)).trans (heap_alloc_new w1 _))⟩, (b3.block _ (by omega)).trans hR, h0.trans (b3.mono (by omega)), hK.below b3⟩
theorem wayA {w w0 w1 w2 : World} {z : Array Value} {x X : Sha.St} (hR : w0.heap[w.heap.size]? = some (.cells z 39 (0, 0))) (h0 : Below w.heap.size w w0) (hz : w0.heap.size = w.heap.size + 1) (hK : KT w0)
    (hb1 : Below (w0.alloc (.cells #[.int .u32 0, .int .u32 0, .int .u32 0, .int .u32 0, .int .u32 0, .int .u32 0, .int .u32 0, .int .u32 0] 64)).drew.heap.size (w0.alloc (.cells #[.int .u32 0, .int .u32 0, .int .u32 0, .int .u32 0, .int .u32 0, .int .u32 0, .int .u32 0, .int .u32 0] 64)).drew w1) (hb2 : Below w1.heap.size w1 w2) (hx : x = X) :
    ∃ g', Value.pointer (some ⟨w0.heap.size, 0, none⟩) = .pointer (some ⟨g', 0, none⟩) ∧ w.heap.size < g' ∧ (∃ y : Sha.St, y = X ∧ ((((((((w2.setCell ⟨w0.heap.size, 0, none⟩ (U x.a)).setCell ⟨w0.heap.size, 1, none⟩ (U x.b)).setCell ⟨w0.heap.size, 2, none⟩ (U x.c)).setCell ⟨w0.heap.size, 3, none⟩ (U x.d)).setCell ⟨w0.heap.size, 4, none⟩ (U x.e)).setCell ⟨w0.heap.size, 5, none⟩ (U x.f)).setCell ⟨w0.heap.size, 6, none⟩ (U x.g)).setCell ⟨w0.heap.size, 7, none⟩ (U x.h)).heap[g']? = some (.cells #[U y.a, U y.b, U y.c, U y.d, U y.e, U y.f, U y.g, U y.h] 64 (0, 0))) ∧ ((((((((w2.setCell ⟨w0.heap.size, 0, none⟩ (U x.a)).setCell ⟨w0.heap.size, 1, none⟩ (U x.b)).setCell ⟨w0.heap.size, 2, none⟩ (U x.c)).setCell ⟨w0.heap.size, 3, none⟩ (U x.d)).setCell ⟨w0.heap.size, 4, none⟩ (U x.e)).setCell ⟨w0.heap.size, 5, none⟩ (U x.f)).setCell ⟨w0.heap.size, 6, none⟩ (U x.g)).setCell ⟨w0.heap.size, 7, none⟩ (U x.h)).heap[w.heap.size]? = some (.cells z 39 (0, 0)) ∧ Below w.heap.size w ((((((((w2.setCell ⟨w0.heap.size, 0, none⟩ (U x.a)).setCell ⟨w0.heap.size, 1, none⟩ (U x.b)).setCell ⟨w0.heap.size, 2, none⟩ (U x.c)).setCell ⟨w0.heap.size, 3, none⟩ (U x.d)).setCell ⟨w0.heap.size, 4, none⟩ (U x.e)).setCell ⟨w0.heap.size, 5, none⟩ (U x.f)).setCell ⟨w0.heap.size, 6, none⟩ (U x.g)).setCell ⟨w0.heap.size, 7, none⟩ (U x.h)) ∧ KT ((((((((w2.setCell ⟨w0.heap.size, 0, none⟩ (U x.a)).setCell ⟨w0.heap.size, 1, none⟩ (U x.b)).setCell ⟨w0.heap.size, 2, none⟩ (U x.c)).setCell ⟨w0.heap.size, 3, none⟩ (U x.d)).setCell ⟨w0.heap.size, 4, none⟩ (U x.e)).setCell ⟨w0.heap.size, 5, none⟩ (U x.f)).setCell ⟨w0.heap.size, 6, none⟩ (U x.g)).setCell ⟨w0.heap.size, 7, none⟩ (U x.h)) := by
  have s1 : w0.heap.size + 1 ≤ w1.heap.size := by have := hb1.size; simpa using this
  have b1 : Below w0.heap.size w0 w1 := (((Below.refl _ _).alloc (Nat.le_refl _) _).drew).trans (hb1.mono (by simp))
  have b2 : Below w0.heap.size w0 w2 := b1.trans (hb2.mono (by omega))
  have b3 : Below w0.heap.size w0 ((((((((w2.setCell ⟨w0.heap.size, 0, none⟩ (U x.a)).setCell ⟨w0.heap.size, 1, none⟩ (U x.b)).setCell ⟨w0.heap.size, 2, none⟩ (U x.c)).setCell ⟨w0.heap.size, 3, none⟩ (U x.d)).setCell ⟨w0.heap.size, 4, none⟩ (U x.e)).setCell ⟨w0.heap.size, 5, none⟩ (U x.f)).setCell ⟨w0.heap.size, 6, none⟩ (U x.g)).setCell ⟨w0.heap.size, 7, none⟩ (U x.h)) := below_set8 b2 (Nat.le_refl _)
  have hr : w2.heap[w0.heap.size]? = some (.cells #[.int .u32 0, .int .u32 0, .int .u32 0, .int .u32 0, .int .u32 0, .int .u32 0, .int .u32 0, .int .u32 0] 64) := ((hb2.block w0.heap.size (by omega)).trans (hb1.block w0.heap.size (by simp))).trans (heap_alloc_new w0 _)
  exact ⟨_, rfl, by omega, ⟨x, hx, set8 hr⟩, (b3.block _ (by omega)).trans hR, h0.trans (b3.mono (by omega)), hK.below b3⟩

set_option maxRecDepth 100000 in
set_option maxHeartbeats 1200000 in
theorem of_any (s : ByteArray) (w : World) (hs : s.size ≤ 140737488355327) (hK : KT w) :
    Calls Tryz.prog 63 #[.string s] w fun e w' => e = .returned (.agg ((Sha.sha s.data.toList).map Y).toArray) ∧ Below w.heap.size w w' := by
  have HK := hide hK
  clear hK
  have h1 : ∀ W, (Instr.slice 9 (.string s) none (some (.int .i64 ((s.size : Int) - (s.size : Int) % 64))) none).run Tryz.prog W = .ok (.string (s.extract 0 (s.size - s.size % 64))) W := fun W => by
    rw [run_slice_string_to_if W 9 s .i64 _ Tryz.underlying9, if_pos (by omega), show ((s.size : Int) - (s.size : Int) % 64).toNat = s.size - s.size % 64 by omega]
  have hc1 := hide (cut_size s 0 (s.size - s.size % 64) (by omega))
  have hd1 := hide (cut_list s 0 (s.size - s.size % 64))
  go_enter Tryz.func63, Tryz.ntmps63
  go_wp2_with fail
  have hz1 := heap_alloc_new w
  have hbb := fun o => (Below.refl w.heap.size w).alloc (Nat.le_refl _) o
  generalize hW : w.alloc _ = w0
  obtain ⟨z, hz32, hrow⟩ : ∃ z : Array Value, z.size = 32 ∧ w0.heap[w.heap.size]? = some (.cells z 39 (0, 0)) := by
    rw [← hW]; exact ⟨_, rfl, hz1 _⟩
  have hb0 : Below w.heap.size w w0 := by rw [← hW]; exact hbb _
  have hz0 : w0.heap.size = w.heap.size + 1 := by rw [← hW]; simp
  have HK0 := hide (HK.out.below hb0)
  have HZ0 := hide hz0
  have HB0 := hide hb0
  have HR := hide hrow
  have H32 := hide hz32
  clear hz1 hbb hW hrow hz32 hz0 hb0
  go_cut [4] (fun s4 wx => ∃ g, s4 = .pointer (some ⟨g, 0, none⟩) ∧ w.heap.size < g ∧ (∃ x : Sha.St, x = Sha.stirN (s.data.toList.take (Sha.whole s.data.toList.length)) (s.size / 64) Sha.start ∧ wx.heap[g]? = some (.cells #[U x.a, U x.b, U x.c, U x.d, U x.e, U x.f, U x.g, U x.h] 64 (0, 0))) ∧ wx.heap[w.heap.size]? = some (.cells z 39 (0, 0)) ∧ Below w.heap.size w wx ∧ KT wx)
  case first =>
    go_region_with ((first | (go_at_call 105; go_must (refine (start_any _).mono ?_; rintro e w1 ⟨rfl, hb1⟩)) | (go_at_call 104; go_must (refine (stirAll_lit 1779033703 3144134277 1013904242 2773480762 1359893119 2600822924 528734635 1541459225 _ (s.size / 64) (s.data.toList.take (Sha.whole s.data.toList.length)) _ Sha.start_ok (by rw [hc1.out]; omega) (by rw [hc1.out]; omega) (by first | exact HK0.out.drew.below hb1 | exact (HK0.out.drew.below hb1).below ((Below.refl _ _).alloc (Nat.le_refl _) _) | exact (HK0.out.below ((Below.refl _ _).alloc (Nat.le_refl _) _)).drew.below hb1) (by rw [hd1.out]; rfl)).mono ?_; rintro e w2 ⟨x, hx, rfl, hb2⟩; have HX := hide hx; clear hx; first | (have hr := ((hb2.block w0.heap.size (Nat.lt_of_lt_of_le (by simp) hb1.size)).trans (hb1.block w0.heap.size (by simp))).trans (heap_alloc_new w0 _); have HRA := hide hr; obtain ⟨⟨d0, d1, d2, d3, d4, d5, d6, d7⟩, df⟩ := row8 hr; clear hr) | (have hr := (hb2.block w1.heap.size (by simp)).trans (heap_alloc_new w1 _); have HRB := hide hr; obtain ⟨⟨d0, d1, d2, d3, d4, d5, d6, d7⟩, df⟩ := row8 hr; clear hr) | skip))))
    all_goals (go_wp2_with fail; go_meet)
    all_goals first
      | (have h_ := HRA; clear h_; exact wayA HR.out HB0.out HZ0.out HK0.out hb1 hb2 HX.out)
      | (have h_ := HRB; clear h_; exact wayB HR.out HB0.out HZ0.out HK0.out hb1 hb2 HX.out)
      | exact wayC HR.out HB0.out HZ0.out HK0.out hb1 hb2 HX.out
  case rest =>
    clear h1 hc1 hd1 HR HB0 HZ0 HK0
    obtain ⟨g, rfl, hg, ⟨x, hx, hrow⟩, hres, hb, hKc⟩ := hcut
    have hlast := hide (last_length s.data.toList)
    have hsha := hide (show Sha.sha s.data.toList = Sha.join (Sha.stirN (Sha.last s.data.toList) ((Sha.last s.data.toList).length / 64) x) by rw [hx]; rfl)
    have hxo : Sha.Ok x := by rw [hx]; exact Sha.stirN_ok _ Sha.start_ok
    have h2 : ∀ W, (Instr.slice 9 (.string s) (some (.int .i64 ((s.size : Int) - (s.size : Int) % 64))) none none).run Tryz.prog W = .ok (.string (s.extract (s.size - s.size % 64) s.size)) W := fun W => by
      rw [run_slice_string_from_if W 9 s .i64 _ Tryz.underlying9, if_pos (by omega), show ((s.size : Int) - (s.size : Int) % 64).toNat = s.size - s.size % 64 by omega]
    have hps := padding_length s.size
    have hcs := cut_size s (s.size - s.size % 64) s.size (Nat.le_refl _)
    have h3 : ∀ W, (Op.stringOp .add (s.extract (s.size - s.size % 64) s.size) ⟨(Sha.padding s.size).toArray⟩).run Tryz.prog W = .ok (.string (s.extract (s.size - s.size % 64) s.size ++ ⟨(Sha.padding s.size).toArray⟩)) W := fun W =>
      run_string_add_sum W _ _ (by rw [hcs]; show _ + (Sha.padding s.size).toArray.size ≤ _; rw [List.size_toArray, hps]; omega)
    have hdl : (s.extract (s.size - s.size % 64) s.size ++ (⟨(Sha.padding s.size).toArray⟩ : ByteArray)).data.toList = Sha.last s.data.toList := by
      rw [ByteArray.data_append, Array.toList_append, cut_list]
      show _ ++ Sha.padding s.size = List.drop (Sha.whole s.data.toList.length) s.data.toList ++ Sha.padding s.data.toList.length
      have hlen : s.data.toList.length = s.size := by simp
      rw [hlen, List.take_of_length_le (by simp)]; rfl
    have hp := fun W => padding_any s.size W (by omega)
    generalize (⟨(Sha.padding s.size).toArray⟩ : ByteArray) = pd at *
    generalize s.extract (s.size - s.size % 64) s.size = tl at *
    have hdz : (tl ++ pd).size = (Sha.last s.data.toList).length := by rw [← hdl]; simp
    have HDL := hide hdl
    have HDZ := hide hdz
    have HPC := hide hp
    have HX := hide hx
    have HXO := hide hxo
    have HKc := hide hKc
    have HRow := hide hrow
    have HRes := hide hres
    clear hdl hdz hp hx hxo hKc hps hcs
    generalize tl ++ pd = td at *
    obtain ⟨xa, xb, xc, xd, xe, xf, xg, xh⟩ := x
    obtain ⟨⟨c0, c1, c2, c3, c4, c5, c6, c7⟩, -⟩ := row8 hrow
    clear hrow hres
    obtain ⟨y, hy⟩ : ∃ y, Sha.stirN (Sha.last s.data.toList) ((Sha.last s.data.toList).length / 64) ⟨xa, xb, xc, xd, xe, xf, xg, xh⟩ = y := ⟨_, rfl⟩
    have hyo : Sha.Ok y := by rw [← hy]; exact Sha.stirN_ok _ HXO.out
    have hsha2 := hide (show Sha.sha s.data.toList = Sha.join y by rw [hsha.out, hy])
    obtain ⟨ya, yb, yc, yd, ye, yf, yg, yh⟩ := y
    have hL1 : ∀ v ∈ (Sha.join ⟨ya, yb, yc, yd, ye, yf, yg, yh⟩).map Y, v.oneCell' = true := fun v hv => by
      obtain ⟨n, _, rfl⟩ := List.mem_map.1 hv; rfl
    have hL2 : ((Sha.join ⟨ya, yb, yc, yd, ye, yf, yg, yh⟩).map Y).length = 32 := rfl
    have hsha3 := hide (show (Sha.sha s.data.toList).map Y = (Sha.join ⟨ya, yb, yc, yd, ye, yf, yg, yh⟩).map Y by rw [hsha2.out])
    have HY := hide hy
    have HYO := hide hyo
    clear hy hyo hsha hsha2 HX
    generalize hLe : (Sha.join ⟨ya, yb, yc, yd, ye, yf, yg, yh⟩).map Y = L at *
    have HL := hide hLe
    have hu22 := Tryz.under22
    have hi22 : (Tryz.prog.info? 39).map (·.size) = some L.length := by rw [hL2]; exact Tryz.info22
    have hth := there_of_row HRes.out H32.out
    have hgl : g < wc.heap.size := block_lt_of_cell c0
    have hH0 := hide (show wc.drew.cell? ⟨g, 0, none⟩ = some (U xa) ∧ wc.drew.cell? ⟨g, 1, none⟩ = some (U xb) ∧ wc.drew.cell? ⟨g, 2, none⟩ = some (U xc) ∧ wc.drew.cell? ⟨g, 3, none⟩ = some (U xd) ∧ wc.drew.cell? ⟨g, 4, none⟩ = some (U xe) ∧ wc.drew.cell? ⟨g, 5, none⟩ = some (U xf) ∧ wc.drew.cell? ⟨g, 6, none⟩ = some (U xg) ∧ wc.drew.cell? ⟨g, 7, none⟩ = some (U xh) ∧ wc.drew.there w.heap.size 0 32 from ⟨c0, c1, c2, c3, c4, c5, c6, c7, hth⟩)
    clear hLe c0 c1 c2 c3 c4 c5 c6 c7 hth
    go_wp2_with fail
    go_region_held3 (fun W => W.cell? ⟨g, 0, none⟩ = some (U xa) ∧ W.cell? ⟨g, 1, none⟩ = some (U xb) ∧ W.cell? ⟨g, 2, none⟩ = some (U xc) ∧ W.cell? ⟨g, 3, none⟩ = some (U xd) ∧ W.cell? ⟨g, 4, none⟩ = some (U xe) ∧ W.cell? ⟨g, 5, none⟩ = some (U xf) ∧ W.cell? ⟨g, 6, none⟩ = some (U xg) ∧ W.cell? ⟨g, 7, none⟩ = some (U xh) ∧ W.there w.heap.size 0 32) (first | exact hH0.out | assumption | exact keepSet _ (by omega) (by assumption)) ((first | (go_at_call 107; refine (HPC.out _).mono ?_; rintro e w3 ⟨rfl, hb3⟩; have hS3 := keep9 hb3 (show g < wc.heap.size from hgl) (show w.heap.size < wc.heap.size by omega) hH0.out; have hK3 := hide (HKc.out.drew.below hb3)) | (go_at_call 104; refine (stirAll_to xa xb xc xd xe xf xg xh ya yb yc yd ye yf yg yh td ((Sha.last s.data.toList).length / 64) (Sha.last s.data.toList) _ HXO.out (by rw [HDZ.out]; exact hlast.out.1) (by rw [HDZ.out]; have := hlast.out.2; omega) HDL.out HY.out hK3.out).mono ?_; rintro e w4 ⟨rfl, hb4⟩; have hS4 := keep9 hb4 (Nat.lt_of_lt_of_le (show g < wc.heap.size from hgl) hb3.size) (Nat.lt_of_lt_of_le (show w.heap.size < wc.heap.size by omega) hb3.size) hS3) | (go_at_call 106; refine (join_to ya yb yc yd ye yf yg yh L _ HYO.out HL.out).mono ?_; rintro e w5 ⟨rfl, hb5⟩; have hS5 := keep9 hb5 (Nat.lt_of_lt_of_le (Nat.lt_of_lt_of_le (show g < wc.heap.size from hgl) hb3.size) hb4.size) (Nat.lt_of_lt_of_le (Nat.lt_of_lt_of_le (show w.heap.size < wc.heap.size by omega) hb3.size) hb4.size) hS4)))
    have hb6 : Below w.heap.size w w5 := ((hb.drew.trans (hb3.mono (show w.heap.size ≤ wc.heap.size by omega))).trans (hb4.mono (Nat.le_trans (show w.heap.size ≤ wc.heap.size by omega) hb3.size))).trans (hb5.mono (Nat.le_trans (Nat.le_trans (show w.heap.size ≤ wc.heap.size by omega) hb3.size) hb4.size))
    have hr6 := World.rangeAt_setCells_same w5 w.heap.size 0 L (by rw [hL2]; exact hS5.2.2.2.2.2.2.2.2)
    clear hS3 hS4 hS5 hH0
    go_wp2
    refine bodyPost_ret (v := .agg L.toArray) ?_ rfl ⟨by rw [hsha3.out], below_setCells (Nat.le_refl _) L 0 hb6⟩
    exact results_cell_mid rfl _ _ w.heap.size L _ rfl hr6 Tryz.under22 rfl hi22
end Go.Proofs.YtenaelkbgkpllaaGreatDoor
/- The call Digest. -/
namespace Go.Proofs.YtenaelkbgkpllaaGreatDoor
open Go.RowKit

theorem sha_length (l : List UInt8) : (Sha.sha l).length = 32 := rfl
set_option maxRecDepth 100000 in
set_option maxHeartbeats 400000 in
theorem digest_any (s : ByteArray) (L : List Value) (w : World) (hs : s.size ≤ 140737488355327) (hK : KT w) (hL : (Sha.sha s.data.toList).map Y = L) :
    Calls Tryz.prog 30 #[.string s] w fun e w' => e = .returned (.agg L.toArray) ∧ Below w.heap.size w w' := by
  have h32 : L.length = 32 := by rw [← hL, List.length_map]; rfl
  have hL1 : L.toArray.all (·.oneCell') = true := by
    rw [List.all_toArray, List.all_eq_true]
    intro v hv
    rw [← hL] at hv
    obtain ⟨n, _, rfl⟩ := List.mem_map.1 hv
    rfl
  have HL := hide hL
  have HI := hide (show (Tryz.prog.info? 39).map (·.size) = some L.toArray.size by rw [List.size_toArray, h32]; exact Tryz.info22)
  have HK := hide hK
  clear hL hK
  go_enter Tryz.func30, Tryz.ntmps30
  go_wp2_with fail
  have hz1 := heap_alloc_new w
  have hbb := fun o => (Below.refl w.heap.size w).alloc (Nat.le_refl _) o
  generalize hW : w.alloc _ = w0
  obtain ⟨z, hz32, hrow⟩ : ∃ z : Array Value, z.size = 32 ∧ w0.heap[w.heap.size]? = some (.cells z 39 (0, 0)) := by
    rw [← hW]; exact ⟨_, rfl, hz1 _⟩
  have hb0 : Below w.heap.size w w0 := by rw [← hW]; exact hbb _
  have hz0 : w.heap.size < w0.heap.size := by rw [← hW]; simp
  clear hW hz1 hbb
  refine (of_any s _ hs (HK.out.below hb0)).mono ?_
  rintro e w1 ⟨rfl, hb1⟩
  rw [HL.out]
  have HR := hide ((hb1.block w.heap.size hz0).trans hrow)
  have HE := hide (show z.size = L.toArray.size by rw [hz32, List.size_toArray, h32])
  have hb : Below w.heap.size w w1 := hb0.trans (hb1.mono (Nat.le_of_lt hz0))
  clear hrow hz32 hb1 hb0 h32
  go_wp2_with (refine wpList_store_row rfl 39 (.tmp 2) (.tmp 4) rfl w.heap.size L.toArray rfl rfl 39 z HR.out HI.out HE.out hL1 ?_)
  refine bodyPost_ret (v := .agg L.toArray) ?_ rfl ⟨rfl, below_setRow hb (Nat.le_refl _) _⟩
  exact results_cell_row rfl _ _ w.heap.size 39 L.toArray (0, 0) _ rfl (setRow_heap _ _ _ _ _ _ HR.out) Tryz.under22 rfl HI.out
end Go.Proofs.YtenaelkbgkpllaaGreatDoor
/- A digest reckoned fast, and that it is the digest: for the kernel's own reckoning of closed texts. -/
namespace Go.Proofs.YtenaelkbgkpllaaGreatDoor
namespace Sha
/-- f at x, x reckoned first -/
def force {α : Type} (x : Nat) (f : Nat → α) : α := match x with
  | 0 => f 0
  | Nat.succ n => f (Nat.succ n)
theorem force_eq {α : Type} (x : Nat) (f : Nat → α) : force x f = f x := by cases x <;> rfl

def go (kws : List Nat) (k : Nat → Nat → Nat → Nat → Nat → Nat → Nat → Nat → Bool) : Nat → Nat → Nat → Nat → Nat → Nat → Nat → Nat → Bool :=
  match kws with
  | [] => k
  | kw :: l => fun a b c d e f g h =>
    force (Nat.mul e 4294967297) fun y =>
    force (Nat.add (Nat.add (Nat.add h (Nat.xor (Nat.xor (Nat.div y 64) (Nat.div y 2048)) (Nat.div y 33554432))) (Nat.xor g (Nat.land e (Nat.xor f g)))) kw) fun t1 =>
    force (Nat.mul a 4294967297) fun z =>
    force (Nat.mod (Nat.add d t1) 4294967296) fun e' =>
    force (Nat.mod (Nat.add (Nat.add t1 (Nat.xor (Nat.xor (Nat.div z 4) (Nat.div z 8192)) (Nat.div z 4194304))) (Nat.xor a (Nat.land (Nat.xor a b) (Nat.xor a c)))) 4294967296) fun a' =>
    go l k a' a b c e' e f g
def go1 (kws : List Nat) (k : Nat → Nat → Nat → Nat → Nat → Nat → Nat → Nat → Bool) (a b c d e f g h : Nat) : Bool :=
  go kws (fun a' b' c' d' e' f' g' h' =>
    force (Nat.mod (Nat.add a a') 4294967296) fun a1 => force (Nat.mod (Nat.add b b') 4294967296) fun b1 => force (Nat.mod (Nat.add c c') 4294967296) fun c1 => force (Nat.mod (Nat.add d d') 4294967296) fun d1 =>
    force (Nat.mod (Nat.add e e') 4294967296) fun e1 => force (Nat.mod (Nat.add f f') 4294967296) fun f1 => force (Nat.mod (Nat.add g g') 4294967296) fun g1 => force (Nat.mod (Nat.add h h') 4294967296) fun h1 => k a1 b1 c1 d1 e1 f1 g1 h1) a b c d e f g h
def goN (kws : List Nat) (k : Nat → Nat → Nat → Nat → Nat → Nat → Nat → Nat → Bool) : Nat → Nat → Nat → Nat → Nat → Nat → Nat → Nat → Nat → Bool
  | 0 => k
  | Nat.succ n => go1 kws (goN kws k n)
def isSt (A B C D E F G H a b c d e f g h : Nat) : Bool :=
  and (Nat.beq a A) (and (Nat.beq b B) (and (Nat.beq c C) (and (Nat.beq d D) (and (Nat.beq e E) (and (Nat.beq f F) (and (Nat.beq g G) (Nat.beq h H)))))))

theorem or_add (p q n : Nat) (h : q < 2 ^ n) : p * 2 ^ n ||| q = p * 2 ^ n + q := by
  rw [Nat.mul_comm, ← Nat.two_pow_add_eq_or_of_lt h]
theorem ror6 (x : Nat) (hx : x < 4294967296) : Nat.div (Nat.mul x 4294967297) 64 % 4294967296 = ror 6 x := by
  have e : x * 2 ^ (32 - 6) % 4294967296 = (x % 64) * 2 ^ 26 := by omega
  have q : x * 4294967297 / 64 = x * 67108864 + x / 64 := by omega
  have r : x * 67108864 + x / 64 = ((x % 64) * 67108864 + x / 64) + (x / 64) * 4294967296 := by omega
  have l : (x % 64) * 67108864 + x / 64 < 4294967296 := by omega
  rw [ror, e, or_add _ _ _ (by omega)]
  show x * 4294967297 / 64 % 4294967296 = _
  rw [q, r, Nat.add_mul_mod_self_right, Nat.mod_eq_of_lt l]
theorem ror11 (x : Nat) (hx : x < 4294967296) : Nat.div (Nat.mul x 4294967297) 2048 % 4294967296 = ror 11 x := by
  have e : x * 2 ^ (32 - 11) % 4294967296 = (x % 2048) * 2 ^ 21 := by omega
  have q : x * 4294967297 / 2048 = x * 2097152 + x / 2048 := by omega
  have r : x * 2097152 + x / 2048 = ((x % 2048) * 2097152 + x / 2048) + (x / 2048) * 4294967296 := by omega
  have l : (x % 2048) * 2097152 + x / 2048 < 4294967296 := by omega
  rw [ror, e, or_add _ _ _ (by omega)]
  show x * 4294967297 / 2048 % 4294967296 = _
  rw [q, r, Nat.add_mul_mod_self_right, Nat.mod_eq_of_lt l]
theorem ror25 (x : Nat) (hx : x < 4294967296) : Nat.div (Nat.mul x 4294967297) 33554432 % 4294967296 = ror 25 x := by
  have e : x * 2 ^ (32 - 25) % 4294967296 = (x % 33554432) * 2 ^ 7 := by omega
  have q : x * 4294967297 / 33554432 = x * 128 + x / 33554432 := by omega
  have r : x * 128 + x / 33554432 = ((x % 33554432) * 128 + x / 33554432) + (x / 33554432) * 4294967296 := by omega
  have l : (x % 33554432) * 128 + x / 33554432 < 4294967296 := by omega
  rw [ror, e, or_add _ _ _ (by omega)]
  show x * 4294967297 / 33554432 % 4294967296 = _
  rw [q, r, Nat.add_mul_mod_self_right, Nat.mod_eq_of_lt l]
theorem ror2 (x : Nat) (hx : x < 4294967296) : Nat.div (Nat.mul x 4294967297) 4 % 4294967296 = ror 2 x := by
  have e : x * 2 ^ (32 - 2) % 4294967296 = (x % 4) * 2 ^ 30 := by omega
  have q : x * 4294967297 / 4 = x * 1073741824 + x / 4 := by omega
  have r : x * 1073741824 + x / 4 = ((x % 4) * 1073741824 + x / 4) + (x / 4) * 4294967296 := by omega
  have l : (x % 4) * 1073741824 + x / 4 < 4294967296 := by omega
  rw [ror, e, or_add _ _ _ (by omega)]
  show x * 4294967297 / 4 % 4294967296 = _
  rw [q, r, Nat.add_mul_mod_self_right, Nat.mod_eq_of_lt l]
theorem ror13 (x : Nat) (hx : x < 4294967296) : Nat.div (Nat.mul x 4294967297) 8192 % 4294967296 = ror 13 x := by
  have e : x * 2 ^ (32 - 13) % 4294967296 = (x % 8192) * 2 ^ 19 := by omega
  have q : x * 4294967297 / 8192 = x * 524288 + x / 8192 := by omega
  have r : x * 524288 + x / 8192 = ((x % 8192) * 524288 + x / 8192) + (x / 8192) * 4294967296 := by omega
  have l : (x % 8192) * 524288 + x / 8192 < 4294967296 := by omega
  rw [ror, e, or_add _ _ _ (by omega)]
  show x * 4294967297 / 8192 % 4294967296 = _
  rw [q, r, Nat.add_mul_mod_self_right, Nat.mod_eq_of_lt l]
theorem ror22 (x : Nat) (hx : x < 4294967296) : Nat.div (Nat.mul x 4294967297) 4194304 % 4294967296 = ror 22 x := by
  have e : x * 2 ^ (32 - 22) % 4294967296 = (x % 4194304) * 2 ^ 10 := by omega
  have q : x * 4294967297 / 4194304 = x * 1024 + x / 4194304 := by omega
  have r : x * 1024 + x / 4194304 = ((x % 4194304) * 1024 + x / 4194304) + (x / 4194304) * 4294967296 := by omega
  have l : (x % 4194304) * 1024 + x / 4194304 < 4294967296 := by omega
  rw [ror, e, or_add _ _ _ (by omega)]
  show x * 4294967297 / 4194304 % 4294967296 = _
  rw [q, r, Nat.add_mul_mod_self_right, Nat.mod_eq_of_lt l]
theorem xor_mod (a b : Nat) : Nat.xor a b % 4294967296 = (a % 4294967296) ^^^ (b % 4294967296) := Nat.xor_mod_two_pow (n := 32)
theorem bs1_fast (x : Nat) (hx : x < 4294967296) : Nat.xor (Nat.xor (Nat.div (Nat.mul x 4294967297) 64) (Nat.div (Nat.mul x 4294967297) 2048)) (Nat.div (Nat.mul x 4294967297) 33554432) % 4294967296 = bs1 x := by
  rw [xor_mod, xor_mod, ror6 x hx, ror11 x hx, ror25 x hx]; rfl
theorem bs0_fast (x : Nat) (hx : x < 4294967296) : Nat.xor (Nat.xor (Nat.div (Nat.mul x 4294967297) 4) (Nat.div (Nat.mul x 4294967297) 8192)) (Nat.div (Nat.mul x 4294967297) 4194304) % 4294967296 = bs0 x := by
  rw [xor_mod, xor_mod, ror2 x hx, ror13 x hx, ror22 x hx]; rfl
theorem bit_hi {x i : Nat} (hx : x < 4294967296) (hi : ¬ i < 32) : x.testBit i = false := by
  have h := Nat.pow_le_pow_right (n := 2) (by decide) (show 32 ≤ i by omega)
  exact Nat.testBit_lt_two_pow (Nat.lt_of_lt_of_le hx h)
theorem ch_fast (x y z : Nat) (hz : z < 4294967296) : Nat.xor z (Nat.land x (Nat.xor y z)) = ch x y z := by
  show z ^^^ (x &&& (y ^^^ z)) = (x &&& y) ^^^ ((4294967295 ^^^ x) &&& z)
  apply Nat.eq_of_testBit_eq
  intro i
  by_cases hi : i < 32
  · have h1 : Nat.testBit 4294967295 i = true := by
      have : (4294967295 : Nat) = 2 ^ 32 - 1 := by decide
      rw [this, Nat.testBit_two_pow_sub_one]; simpa using hi
    simp only [Nat.testBit_xor, Nat.testBit_and, h1]
    cases x.testBit i <;> cases y.testBit i <;> cases z.testBit i <;> rfl
  · simp only [Nat.testBit_xor, Nat.testBit_and, bit_hi hz hi]
    cases x.testBit i <;> cases y.testBit i <;> cases Nat.testBit 4294967295 i <;> rfl
theorem maj_fast (x y z : Nat) : Nat.xor x (Nat.land (Nat.xor x y) (Nat.xor x z)) = maj x y z := by
  show x ^^^ ((x ^^^ y) &&& (x ^^^ z)) = ((x &&& y) ^^^ (x &&& z)) ^^^ (y &&& z)
  apply Nat.eq_of_testBit_eq
  intro i
  simp only [Nat.testBit_xor, Nat.testBit_and]
  cases x.testBit i <;> cases y.testBit i <;> cases z.testBit i <;> rfl
theorem step_e (d h S1 c kw k w b1 : Nat) (h1 : S1 % 4294967296 = b1) (hk : kw % 4294967296 = (k + w) % 4294967296) : Nat.mod (Nat.add d (Nat.add (Nat.add (Nat.add h S1) c) kw)) 4294967296 = (d + ((((h + b1) % 4294967296 + c) % 4294967296 + k) % 4294967296 + w) % 4294967296) % 4294967296 := by
  show (d + (h + S1 + c + kw)) % 4294967296 = _
  subst h1; omega
theorem step_a (h S1 c kw k w b1 S0 m b0 : Nat) (h1 : S1 % 4294967296 = b1) (h0 : S0 % 4294967296 = b0) (hk : kw % 4294967296 = (k + w) % 4294967296) : Nat.mod (Nat.add (Nat.add (Nat.add (Nat.add (Nat.add h S1) c) kw) S0) m) 4294967296 = (((((h + b1) % 4294967296 + c) % 4294967296 + k) % 4294967296 + w) % 4294967296 + (b0 + m) % 4294967296) % 4294967296 := by
  show (h + S1 + c + kw + S0 + m) % 4294967296 = _
  subst h1; subst h0; omega
theorem go_cons (kw : Nat) (l : List Nat) (q : Nat → Nat → Nat → Nat → Nat → Nat → Nat → Nat → Bool) (a b c d e f g h : Nat) :
    go (kw :: l) q a b c d e f g h =
    go l q (Nat.mod (Nat.add (Nat.add (Nat.add (Nat.add (Nat.add h (Nat.xor (Nat.xor (Nat.div (Nat.mul e 4294967297) 64) (Nat.div (Nat.mul e 4294967297) 2048)) (Nat.div (Nat.mul e 4294967297) 33554432))) (Nat.xor g (Nat.land e (Nat.xor f g)))) kw) (Nat.xor (Nat.xor (Nat.div (Nat.mul a 4294967297) 4) (Nat.div (Nat.mul a 4294967297) 8192)) (Nat.div (Nat.mul a 4294967297) 4194304))) (Nat.xor a (Nat.land (Nat.xor a b) (Nat.xor a c)))) 4294967296) a b c
      (Nat.mod (Nat.add d (Nat.add (Nat.add (Nat.add h (Nat.xor (Nat.xor (Nat.div (Nat.mul e 4294967297) 64) (Nat.div (Nat.mul e 4294967297) 2048)) (Nat.div (Nat.mul e 4294967297) 33554432))) (Nat.xor g (Nat.land e (Nat.xor f g)))) kw)) 4294967296) e f g := by
  simp only [go, force_eq]
theorem round_e (k w : Nat) (s : St) : (s.d + ((((s.h + bs1 s.e) % 4294967296 + ch s.e s.f s.g) % 4294967296 + k) % 4294967296 + w) % 4294967296) % 4294967296 = (round k w s).e := by
  unfold round t1; rfl
theorem round_a (k w : Nat) (s : St) : (((((s.h + bs1 s.e) % 4294967296 + ch s.e s.f s.g) % 4294967296 + k) % 4294967296 + w) % 4294967296 + (bs0 s.a + maj s.a s.b s.c) % 4294967296) % 4294967296 = (round k w s).a := by
  unfold round t1 t2; rfl
theorem go_step (kw k w : Nat) (l : List Nat) (q : Nat → Nat → Nat → Nat → Nat → Nat → Nat → Nat → Bool) (s : St) (hs : Ok s) (hk : kw % 4294967296 = (k + w) % 4294967296) :
    go (kw :: l) q s.a s.b s.c s.d s.e s.f s.g s.h = go l q (round k w s).a s.a s.b s.c (round k w s).e s.e s.f s.g := by
  obtain ⟨ha, hb, hc, hd, he, hf, hg, hh⟩ := hs
  rw [go_cons, ch_fast s.e s.f s.g hg, maj_fast, step_e s.d s.h _ (ch s.e s.f s.g) kw k w _ (bs1_fast s.e he) hk, step_a s.h _ (ch s.e s.f s.g) kw k w _ _ (maj s.a s.b s.c) _ (bs1_fast s.e he) (bs0_fast s.a ha) hk, round_e, round_a]
/-- the rounds by a list of the two numbers of each -/
def roundsP (ps : List (Nat × Nat)) (s : St) : St := ps.foldl (fun s p => round p.1 p.2 s) s
def plus (p : Nat × Nat) : Nat := (p.1 + p.2) % 4294967296
theorem plus_mod (p : Nat × Nat) : plus p % 4294967296 = (p.1 + p.2) % 4294967296 := by unfold plus; exact Nat.mod_mod _ _
theorem mod_add (a b : Nat) : Nat.mod (Nat.add a b) 4294967296 = (a + b) % 4294967296 := rfl
theorem roundsP_cons (p : Nat × Nat) (ps : List (Nat × Nat)) (s : St) : roundsP (p :: ps) s = roundsP ps (round p.1 p.2 s) := by
  unfold roundsP; rw [List.foldl_cons]
theorem round_b (k w : Nat) (s : St) : (round k w s).b = s.a := by unfold round; rfl
theorem round_c (k w : Nat) (s : St) : (round k w s).c = s.b := by unfold round; rfl
theorem round_d (k w : Nat) (s : St) : (round k w s).d = s.c := by unfold round; rfl
theorem round_f (k w : Nat) (s : St) : (round k w s).f = s.e := by unfold round; rfl
theorem round_g (k w : Nat) (s : St) : (round k w s).g = s.f := by unfold round; rfl
theorem round_h (k w : Nat) (s : St) : (round k w s).h = s.g := by unfold round; rfl
theorem go_all (q : Nat → Nat → Nat → Nat → Nat → Nat → Nat → Nat → Bool) (ps : List (Nat × Nat)) : ∀ (s : St), Ok s →
    go (ps.map plus) q s.a s.b s.c s.d s.e s.f s.g s.h = q (roundsP ps s).a (roundsP ps s).b (roundsP ps s).c (roundsP ps s).d (roundsP ps s).e (roundsP ps s).f (roundsP ps s).g (roundsP ps s).h := by
  induction ps with
  | nil => intro s _; simp only [List.map_nil, go, roundsP, List.foldl_nil]
  | cons p ps ih =>
    intro s hs
    have h := ih (round p.1 p.2 s) (round_ok hs)
    rw [round_b, round_c, round_d, round_f, round_g, round_h] at h
    rw [List.map_cons, go_step (plus p) p.1 p.2 _ _ s hs (plus_mod p), h, roundsP_cons]
theorem rounds_take (ws : List Nat) (s : St) (hw : ws.length = 64) (n : Nat) (h : n ≤ 64) : rounds ws n s = roundsP ((Ks.zip ws).take n) s := by
  induction n with
  | zero => simp only [rounds, List.take_zero, roundsP, List.foldl_nil]
  | succ n ih =>
    have hk : Ks.length = 64 := rfl
    have hz : n < (Ks.zip ws).length := by rw [List.length_zip, hk, hw]; omega
    rw [rounds, ih (by omega), List.take_succ_eq_append_getElem hz, roundsP, roundsP, List.foldl_append, List.foldl_cons, List.foldl_nil, List.getElem_zip]
    simp only [List.getD_eq_getElem?_getD, List.getElem?_eq_getElem (show n < Ks.length by omega), List.getElem?_eq_getElem (show n < ws.length by omega), Option.getD_some]
end Sha
end Go.Proofs.YtenaelkbgkpllaaGreatDoor
