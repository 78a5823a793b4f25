/- What a digest is, as plain functions on numbers and lists (no word of the program stands here). -/
namespace Go.Proofs.YtenaelkbgkpllaaGreatDoor
namespace Sha
def ror (n x : Nat) : Nat := (x * 2 ^ (32 - n) % 4294967296) ||| (x / 2 ^ n)
def ss0 (x : Nat) : Nat := (ror 7 x ^^^ ror 18 x) ^^^ (x / 8)
def ss1 (x : Nat) : Nat := (ror 17 x ^^^ ror 19 x) ^^^ (x / 1024)
def bs0 (x : Nat) : Nat := (ror 2 x ^^^ ror 13 x) ^^^ ror 22 x
def bs1 (x : Nat) : Nat := (ror 6 x ^^^ ror 11 x) ^^^ ror 25 x
def ch (x y z : Nat) : Nat := (x &&& y) ^^^ ((4294967295 ^^^ x) &&& z)
def maj (x y z : Nat) : Nat := ((x &&& y) ^^^ (x &&& z)) ^^^ (y &&& z)
structure St where
  a : Nat
  b : Nat
  c : Nat
  d : Nat
  e : Nat
  f : Nat
  g : Nat
  h : Nat
def Ok (s : St) : Prop := s.a < 4294967296 ∧ s.b < 4294967296 ∧ s.c < 4294967296 ∧ s.d < 4294967296 ∧ s.e < 4294967296 ∧ s.f < 4294967296 ∧ s.g < 4294967296 ∧ s.h < 4294967296
def t1 (k w : Nat) (s : St) : Nat := ((((s.h + bs1 s.e) % 4294967296 + ch s.e s.f s.g) % 4294967296 + k) % 4294967296 + w) % 4294967296
def t2 (s : St) : Nat := (bs0 s.a + maj s.a s.b s.c) % 4294967296
def round (k w : Nat) (s : St) : St := ⟨(t1 k w s + t2 s) % 4294967296, s.a, s.b, s.c, (s.d + t1 k w s) % 4294967296, s.e, s.f, s.g⟩
def Ks : List Nat := [1116352408, 1899447441, 3049323471, 3921009573, 961987163, 1508970993, 2453635748, 2870763221, 3624381080, 310598401, 607225278, 1426881987, 1925078388, 2162078206, 2614888103, 3248222580, 3835390401, 4022224774, 264347078, 604807628, 770255983, 1249150122, 1555081692, 1996064986, 2554220882, 2821834349, 2952996808, 3210313671, 3336571891, 3584528711, 113926993, 338241895, 666307205, 773529912, 1294757372, 1396182291, 1695183700, 1986661051, 2177026350, 2456956037, 2730485921, 2820302411, 3259730800, 3345764771, 3516065817, 3600352804, 4094571909, 275423344, 430227734, 506948616, 659060556, 883997877, 958139571, 1322822218, 1537002063, 1747873779, 1955562222, 2024104815, 2227730452, 2361852424, 2428436474, 2756734187, 3204031479, 3329325298]
def rounds (ws : List Nat) : Nat → St → St
  | 0, s => s
  | n + 1, s => round (Ks.getD n 0) (ws.getD n 0) (rounds ws n s)
def byteAt (l : List UInt8) (i : Nat) : Nat := (l.getD i 0).toNat
def word (l : List UInt8) (i : Nat) : Nat := ((byteAt l i * 16777216 ||| byteAt l (i + 1) * 65536) ||| byteAt l (i + 2) * 256) ||| byteAt l (i + 3)
/-- the first n numbers of a block's own -/
def first (l : List UInt8) : Nat → List Nat
  | 0 => []
  | n + 1 => first l n ++ [word l (4 * n)]
def nextW (l : List Nat) (n : Nat) : Nat := (((ss1 (l.getD (n + 14) 0) + l.getD (n + 9) 0) % 4294967296 + ss0 (l.getD (n + 1) 0)) % 4294967296 + l.getD n 0) % 4294967296
/-- the 16 numbers of a block, and n more -/
def spreadTo (l : List UInt8) : Nat → List Nat
  | 0 => first l 16
  | n + 1 => spreadTo l n ++ [nextW (spreadTo l n) n]
def add (s t : St) : St := ⟨(s.a + t.a) % 4294967296, (s.b + t.b) % 4294967296, (s.c + t.c) % 4294967296, (s.d + t.d) % 4294967296, (s.e + t.e) % 4294967296, (s.f + t.f) % 4294967296, (s.g + t.g) % 4294967296, (s.h + t.h) % 4294967296⟩
def stir (s : St) (l : List UInt8) : St := add s (rounds (spreadTo l 48) 64 s)
/-- the first n blocks of a text stirred in -/
def stirN (l : List UInt8) : Nat → St → St
  | 0, s => s
  | n + 1, s => stir (stirN l n s) ((l.drop (64 * n)).take 64)
def four (n : Nat) : List UInt8 := [UInt8.ofNat (n / 16777216), UInt8.ofNat (n / 65536), UInt8.ofNat (n / 256), UInt8.ofNat n]
def padding (n : Nat) : List UInt8 := (128 :: List.replicate ((119 - n % 64) % 64) 0) ++ (four (8 * n / 4294967296 % 4294967296) ++ four (8 * n % 4294967296))
def start : St := ⟨1779033703, 3144134277, 1013904242, 2773480762, 1359893119, 2600822924, 528734635, 1541459225⟩
def whole (n : Nat) : Nat := n - n % 64
def last (l : List UInt8) : List UInt8 := l.drop (whole l.length) ++ padding l.length
def state (l : List UInt8) : St := stirN (last l) ((last l).length / 64) (stirN (l.take (whole l.length)) (l.length / 64) start)
def join (s : St) : List UInt8 := four s.a ++ four s.b ++ four s.c ++ four s.d ++ four s.e ++ four s.f ++ four s.g ++ four s.h
def sha (l : List UInt8) : List UInt8 := join (state l)

theorem or_lt {x y : Nat} (hx : x < 4294967296) (hy : y < 4294967296) : x ||| y < 4294967296 := Nat.or_lt_two_pow (n := 32) hx hy
theorem xor_lt {x y : Nat} (hx : x < 4294967296) (hy : y < 4294967296) : x ^^^ y < 4294967296 := Nat.xor_lt_two_pow (n := 32) hx hy
theorem and_lt {x y : Nat} (hy : y < 4294967296) : x &&& y < 4294967296 := Nat.and_lt_two_pow (n := 32) x hy
theorem div_lt {x n : Nat} (hx : x < 4294967296) : x / n < 4294967296 := Nat.lt_of_le_of_lt (Nat.div_le_self _ _) hx
theorem ror_lt {n x : Nat} (hx : x < 4294967296) : ror n x < 4294967296 := or_lt (Nat.mod_lt _ (by decide)) (div_lt hx)
theorem ss0_lt {x : Nat} (hx : x < 4294967296) : ss0 x < 4294967296 := xor_lt (xor_lt (ror_lt hx) (ror_lt hx)) (div_lt hx)
theorem ss1_lt {x : Nat} (hx : x < 4294967296) : ss1 x < 4294967296 := xor_lt (xor_lt (ror_lt hx) (ror_lt hx)) (div_lt hx)
theorem bs0_lt {x : Nat} (hx : x < 4294967296) : bs0 x < 4294967296 := xor_lt (xor_lt (ror_lt hx) (ror_lt hx)) (ror_lt hx)
theorem bs1_lt {x : Nat} (hx : x < 4294967296) : bs1 x < 4294967296 := xor_lt (xor_lt (ror_lt hx) (ror_lt hx)) (ror_lt hx)
theorem ch_lt {x y z : Nat} (hy : y < 4294967296) (hz : z < 4294967296) : ch x y z < 4294967296 := xor_lt (and_lt hy) (and_lt hz)
theorem maj_lt {x y z : Nat} (hy : y < 4294967296) (hz : z < 4294967296) : maj x y z < 4294967296 := xor_lt (xor_lt (and_lt hy) (and_lt hz)) (and_lt hz)
theorem t1_lt {k w : Nat} {s : St} : t1 k w s < 4294967296 := Nat.mod_lt _ (by decide)
theorem t2_lt {s : St} : t2 s < 4294967296 := Nat.mod_lt _ (by decide)
theorem round_ok {k w : Nat} {s : St} (h : Ok s) : Ok (round k w s) :=
  ⟨Nat.mod_lt _ (by decide), h.1, h.2.1, h.2.2.1, Nat.mod_lt _ (by decide), h.2.2.2.2.1, h.2.2.2.2.2.1, h.2.2.2.2.2.2.1⟩
theorem rounds_ok {ws : List Nat} : ∀ (n : Nat) {s : St}, Ok s → Ok (rounds ws n s)
  | 0, _, h => h
  | n + 1, _, h => round_ok (rounds_ok n h)
theorem add_ok {s t : St} : Ok (add s t) := ⟨Nat.mod_lt _ (by decide), Nat.mod_lt _ (by decide), Nat.mod_lt _ (by decide), Nat.mod_lt _ (by decide), Nat.mod_lt _ (by decide), Nat.mod_lt _ (by decide), Nat.mod_lt _ (by decide), Nat.mod_lt _ (by decide)⟩
theorem stir_ok {s : St} {l : List UInt8} : Ok (stir s l) := add_ok
theorem start_ok : Ok start := by unfold Ok start; decide
theorem stirN_ok {l : List UInt8} : ∀ (n : Nat) {s : St}, Ok s → Ok (stirN l n s)
  | 0, _, h => h
  | _ + 1, _, _ => stir_ok
theorem byteAt_lt (l : List UInt8) (i : Nat) : byteAt l i < 256 := (l.getD i 0).toNat_lt
theorem up24 {x : Nat} (h : x < 256) : x * 16777216 < 4294967296 := by omega
theorem up16 {x : Nat} (h : x < 256) : x * 65536 < 4294967296 := by omega
theorem up8 {x : Nat} (h : x < 256) : x * 256 < 4294967296 := by omega
theorem cast_mul (a b : Nat) : (a : Int) * (b : Int) = ((a * b : Nat) : Int) := by simp
theorem word_lt (l : List UInt8) (i : Nat) : word l i < 4294967296 := by
  have h0 := byteAt_lt l i
  have h1 := byteAt_lt l (i + 1)
  have h2 := byteAt_lt l (i + 2)
  have h3 := byteAt_lt l (i + 3)
  exact or_lt (or_lt (or_lt (by omega) (by omega)) (by omega)) (by omega)
theorem first_length (l : List UInt8) : ∀ n, (first l n).length = n
  | 0 => rfl
  | n + 1 => by simp [first, first_length l n]
theorem first_lt (l : List UInt8) : ∀ n, ∀ x ∈ first l n, x < 4294967296
  | 0, x, h => by simp [first] at h
  | n + 1, x, h => by
    simp only [first, List.mem_append, List.mem_singleton] at h
    rcases h with h | rfl
    · exact first_lt l n x h
    · exact word_lt l _
theorem spreadTo_length (l : List UInt8) : ∀ n, (spreadTo l n).length = 16 + n
  | 0 => first_length l 16
  | n + 1 => by simp [spreadTo, spreadTo_length l n]; omega
theorem spreadTo_lt (l : List UInt8) : ∀ n, ∀ x ∈ spreadTo l n, x < 4294967296
  | 0, x, h => first_lt l 16 x h
  | n + 1, x, h => by
    simp only [spreadTo, List.mem_append, List.mem_singleton] at h
    rcases h with h | rfl
    · exact spreadTo_lt l n x h
    · exact Nat.mod_lt _ (by decide)
theorem getD_lt {l : List Nat} (h : ∀ x ∈ l, x < 4294967296) (i : Nat) : l.getD i 0 < 4294967296 := by
  by_cases hi : i < l.length
  · simp only [List.getD_eq_getElem?_getD, List.getElem?_eq_getElem hi, Option.getD_some]; exact h _ (List.getElem_mem hi)
  · simp only [List.getD_eq_getElem?_getD, List.getElem?_eq_none (Nat.le_of_not_lt hi), Option.getD_none]; decide
theorem Ks_lt : ∀ x ∈ Ks, x < 4294967296 := by decide
end Sha
end Go.Proofs.YtenaelkbgkpllaaGreatDoor
