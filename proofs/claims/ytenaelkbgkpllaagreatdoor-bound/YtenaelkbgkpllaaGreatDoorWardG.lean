/- A proof taken apart: the text's numbers, points, children, nodes. -/
import Derived.Test.YtenaelkbgkpllaaGreatDoorWardF
import Derived.Test.YtenaelkbgkpllaaGreatDoorDSha
namespace Go.Proofs.YtenaelkbgkpllaaGreatDoor
namespace Ward
theorem or_add {a b k : Nat} (ha : a % 2 ^ k = 0) (hb : b < 2 ^ k) : a ||| b = a + b := by
  have h : a = 2 ^ k * (a / 2 ^ k) := by
    have := Nat.div_add_mod a (2 ^ k)
    omega
  rw [h, ← Nat.two_pow_add_eq_or_of_lt hb]
/-- four bytes as a number -/
theorem word_add (l : List UInt8) (i : Nat) : Sha.word l i = Sha.byteAt l i * 16777216 + Sha.byteAt l (i + 1) * 65536 + Sha.byteAt l (i + 2) * 256 + Sha.byteAt l (i + 3) := by
  have h0 : Sha.byteAt l i < 256 := (l.getD i 0).toNat_lt
  have h1 : Sha.byteAt l (i + 1) < 256 := (l.getD (i + 1) 0).toNat_lt
  have h2 : Sha.byteAt l (i + 2) < 256 := (l.getD (i + 2) 0).toNat_lt
  have h3 : Sha.byteAt l (i + 3) < 256 := (l.getD (i + 3) 0).toNat_lt
  unfold Sha.word
  rw [or_add (a := Sha.byteAt l i * 16777216) (k := 24) (by omega) (by omega), or_add (a := Sha.byteAt l i * 16777216 + Sha.byteAt l (i + 1) * 65536) (k := 16) (by omega) (by omega), or_add (k := 8) (by omega) (by omega)]
theorem word_lt (l : List UInt8) (i : Nat) : Sha.word l i < 4294967296 := by
  have h0 : Sha.byteAt l i < 256 := (l.getD i 0).toNat_lt
  have h1 : Sha.byteAt l (i + 1) < 256 := (l.getD (i + 1) 0).toNat_lt
  have h2 : Sha.byteAt l (i + 2) < 256 := (l.getD (i + 2) 0).toNat_lt
  have h3 : Sha.byteAt l (i + 3) < 256 := (l.getD (i + 3) 0).toNat_lt
  rw [word_add]
  omega
/-- a number of 32 bits with a sign -/
def signed (n : Nat) : Int := if n < 2147483648 then n else (n : Int) - 4294967296
theorem signed_four {n : Int} (h1 : -1000000 ≤ n) (h2 : n ≤ 1000000) : signed (n % 4294967296).toNat = n := by
  unfold signed
  split <;> omega
/-- the number of that place -/
def numAt (l : List UInt8) (k : Nat) : Int := signed (Sha.word l (4 * k))
theorem byteAt_app {l m : List UInt8} {i : Nat} (h : i < l.length) : Sha.byteAt (l ++ m) i = Sha.byteAt l i := by
  unfold Sha.byteAt
  rw [List.getD_eq_getElem?_getD, List.getD_eq_getElem?_getD, List.getElem?_append_left h]
theorem byteAt_right {l m : List UInt8} {i : Nat} : Sha.byteAt (l ++ m) (l.length + i) = Sha.byteAt m i := by
  unfold Sha.byteAt
  rw [List.getD_eq_getElem?_getD, List.getD_eq_getElem?_getD, List.getElem?_append_right (by omega), Nat.add_sub_cancel_left]
theorem word_app {l m : List UInt8} {i : Nat} (h : i + 4 ≤ l.length) : Sha.word (l ++ m) i = Sha.word l i := by
  rw [word_add, word_add, byteAt_app (by omega), byteAt_app (by omega), byteAt_app (by omega), byteAt_app (by omega)]
theorem word_right {l m : List UInt8} {i : Nat} : Sha.word (l ++ m) (l.length + i) = Sha.word m i := by
  rw [word_add, word_add, show l.length + i + 1 = l.length + (i + 1) by omega, show l.length + i + 2 = l.length + (i + 2) by omega, show l.length + i + 3 = l.length + (i + 3) by omega, byteAt_right, byteAt_right, byteAt_right, byteAt_right]
theorem word_four {n : Nat} (h : n < 4294967296) : Sha.word (four n) 0 = n := by
  rw [word_add]
  show (UInt8.ofNat (n / 16777216)).toNat * 16777216 + (UInt8.ofNat (n / 65536)).toNat * 65536 + (UInt8.ofNat (n / 256)).toNat * 256 + (UInt8.ofNat n).toNat = n
  simp only [UInt8.toNat_ofNat']
  omega
theorem numAt_zero {n : Int} (m : List UInt8) (h1 : -1000000 ≤ n) (h2 : n ≤ 1000000) : numAt (fourI n ++ m) 0 = n := by
  unfold numAt
  rw [Nat.mul_zero, word_app (by rw [fourI_len]; decide)]
  unfold fourI
  rw [word_four (by omega), signed_four h1 h2]
theorem numAt_succ (n : Int) (m : List UInt8) (k : Nat) : numAt (fourI n ++ m) (k + 1) = numAt m k := by
  unfold numAt
  rw [show 4 * (k + 1) = (fourI n).length + 4 * k by rw [fourI_len]; omega, word_right]
/-- a word tells its four bytes -/
theorem four_word {a b c d : UInt8} (m : List UInt8) : four (Sha.word (a :: b :: c :: d :: m) 0) = [a, b, c, d] := by
  rw [word_add]
  show four (a.toNat * 16777216 + b.toNat * 65536 + c.toNat * 256 + d.toNat) = _
  have ha := a.toNat_lt
  have hb := b.toNat_lt
  have hc := c.toNat_lt
  have hd := d.toNat_lt
  have key : ∀ (x : UInt8) (n : Nat), n % 256 = x.toNat → UInt8.ofNat n = x := fun x n h => by
    apply UInt8.toNat_inj.1
    rw [UInt8.toNat_ofNat']
    exact h
  unfold four
  rw [key a _ (by omega), key b _ (by omega), key c _ (by omega), key d _ (by omega)]
theorem fourI_signed {n : Nat} (h : n < 4294967296) : fourI (signed n) = four n := by
  have h' : (signed n % 4294967296).toNat = n := by
    unfold signed
    by_cases h2 : n < 2147483648
    · rw [if_pos h2]; omega
    · rw [if_neg h2]; omega
  unfold fourI
  rw [h']
theorem fourI_numAt {a b c d : UInt8} (m : List UInt8) : fourI (numAt (a :: b :: c :: d :: m) 0) = [a, b, c, d] := by
  unfold numAt
  rw [Nat.mul_zero, fourI_signed (word_lt _ _), four_word]
theorem word_drop (l : List UInt8) (k : Nat) : Sha.word l k = Sha.word (l.drop k) 0 := by
  by_cases h : k ≤ l.length
  · have e := word_right (l := l.take k) (m := l.drop k) (i := 0)
    rw [List.take_append_drop, List.length_take, Nat.min_eq_left h] at e
    exact e
  · have e : l.drop k = [] := List.drop_eq_nil_of_le (by omega)
    rw [e, word_add, word_add]
    unfold Sha.byteAt
    simp only [List.getD_eq_getElem?_getD]
    rw [List.getElem?_eq_none (by omega), List.getElem?_eq_none (by omega), List.getElem?_eq_none (by omega), List.getElem?_eq_none (by omega)]
    rfl
theorem numAt_drop (l : List UInt8) (k : Nat) : numAt l k = numAt (l.drop (4 * k)) 0 := by
  unfold numAt
  rw [word_drop, Nat.mul_zero]
/-- the bytes of a number at a place -/
theorem fourI_at {l : List UInt8} {k : Nat} (h : 4 * k + 4 ≤ l.length) : fourI (numAt l k) = (l.drop (4 * k)).take 4 := by
  rw [numAt_drop]
  have hl : 4 ≤ (l.drop (4 * k)).length := by rw [List.length_drop]; omega
  generalize l.drop (4 * k) = m at *
  match m, hl with
  | a :: b :: c :: d :: m, _ => rw [fourI_numAt]; rfl
/-- what is still to be read, and the ids that were -/
abbrev Sta : Type := List UInt8 × List Int
def idOk (n : Int) : Bool := decide (1 ≤ n ∧ n ≤ 1000000)
/-- a point of a leaf -/
def rdPt (s : Sta) : Option (Pt × Sta) :=
  if s.1.length < 12 then none else
    let p : Pt := ⟨numAt s.1 0, numAt s.1 1, numAt s.1 2⟩
    if idOk p.id && !(s.2.contains p.id) && coordOk p.x && coordOk p.y then some (p, (s.1.drop 12, p.id :: s.2)) else none
/-- as many of a kind -/
def rdMany {α : Type} (rd : Sta → Option (α × Sta)) : Nat → Sta → Option (List α × Sta)
  | 0, s => some ([], s)
  | k + 1, s => match rd s with
    | none => none
    | some (x, s') => match rdMany rd k s' with
      | none => none
      | some (l, s'') => some (x :: l, s'')
/-- a node of nothing -/
def bareN (n : Nat) : NT (n + 1) := ⟨[], [], ⟨0, 0, 0, 0⟩, 0, List.replicate 32 0⟩
/-- what a node says of a child, of 52 bytes -/
def headN (n : Nat) (l : List UInt8) : NT (n + 1) := ⟨[], [], ⟨numAt l 0, numAt l 1, numAt l 2, numAt l 3⟩, numAt l 4, (l.drop 20).take 32⟩
/-- a child, behind it what is shown of it -/
def rdKid (n : Nat) (below : Sta → Option (NT (n + 1) × Sta)) (s : Sta) : Option (NT (n + 1) × Sta) :=
  if s.1.length < 53 then none else
    let c := headN n s.1
    if boxMay (Nd.box c) && decide (1 ≤ Nd.n c) && decide (Nd.n c ≤ 150) then
      if s.1.getD 52 0 = 0 then some (c, (s.1.drop 53, s.2))
      else if s.1.getD 52 0 = 1 then match below (s.1.drop 53, s.2) with
        | none => none
        | some (b, s') => some ({ c with pts := Nd.pts b, kids := Nd.kids b }, s')
      else none
    else none
/-- a leaf or a node, so many may lie within one another -/
def rdNode : (d : Nat) → (root : Bool) → Sta → Option (NT (d + 1) × Sta)
  | 0, _, _ => none
  | d + 1, root, s =>
    if s.1.length < 2 then none else
      let mark := s.1.getD 0 0
      let size := (s.1.getD 1 0).toNat
      let s' : Sta := (s.1.drop 2, s.2)
      if 4 < size then none
      else if mark = 1 ∧ (0 < size ∨ root = true) then match rdMany rdPt size s' with
        | none => none
        | some (l, s'') => some ({ bareN (d + 1) with pts := l }, s'')
      else if mark = 2 ∧ 0 < size then match rdMany (rdKid d (rdNode d false)) size s' with
        | none => none
        | some (l, s'') => some ({ bareN (d + 1) with kids := l }, s'')
      else none
/-- a node as what stands right below it makes it -/
def madeN : (n : Nat) → NT n → NT n
  | 0, t => nomatch t
  | n + 1, t => if (Nd.kids t).length = 0 then ⟨Nd.pts t, [], boxL ((Nd.pts t).map boxOf), ((Nd.pts t).length : Nat), Sha.sha (leafText (Nd.pts t))⟩ else ⟨[], Nd.kids t, boxL ((Nd.kids t).map (boxN n)), ((Nd.kids t).map (numN n)).sum, Sha.sha (textK n (Nd.kids t))⟩
/-- a proof taken apart -/
def parse (l : List UInt8) : Option (NT 7) := match rdNode 6 true (l, []) with
  | some (t, ([], _)) => some (madeN 7 t)
  | _ => none
def shownN : (n : Nat) → NT n → Bool
  | 0, t => nomatch t
  | _ + 1, t => decide (0 < (Nd.pts t).length + (Nd.kids t).length)
/-- it holds of every child and of those below them -/
def everyN (P : (n : Nat) → NT n → Bool) : (n : Nat) → NT n → Bool
  | 0, t => nomatch t
  | n + 1, t => (Nd.kids t).all fun c => P n c && everyN P n c
def boxEq (a b : Box) : Bool := decide (a.a = b.a ∧ a.b = b.b ∧ a.c = b.c ∧ a.d = b.d)
def boxHolds (n : Nat) (c : NT n) : Bool := !shownN n c || (boxEq (boxN n c) (boxN n (madeN n c)) && decide (numN n c = numN n (madeN n c)))
def digHolds (n : Nat) (c : NT n) : Bool := !shownN n c || decide (digN n c = digN n (madeN n c))
def lackN (q : Qr) (a : List Pt) (n : Nat) (c : NT n) : Bool := shownN n c || !must q a (boxN n c)
def wasteN (q : Qr) (a : List Pt) (n : Nat) (c : NT n) : Bool := !shownN n c || must q a (boxN n c)
/-- what Verify answers: the points, the error -/
def verify (root : List UInt8) (count : Int) (q : Qr) (s : List UInt8) : List Pt × Int :=
  if mayBe q = false then ([], 6) else match parse s with
  | none => ([], 7)
  | some t =>
    if everyN boxHolds 7 t = false then ([], 8)
    else if everyN digHolds 7 t = false ∨ ¬ (digN 7 t = root ∧ numN 7 t = count) then ([], 9)
    else if everyN (lackN q (ans q (allN 7 t))) 7 t = false then ([], 10)
    else if everyN (wasteN q (ans q (allN 7 t))) 7 t = false then ([], 11)
    else (ans q (allN 7 t), 0)
end Ward
end Go.Proofs.YtenaelkbgkpllaaGreatDoor
