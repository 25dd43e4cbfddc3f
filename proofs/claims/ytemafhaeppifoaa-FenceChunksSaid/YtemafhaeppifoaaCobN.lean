/-
  The mathematics of layer 5: blocks, bytes stuffed, what stuffed bytes are decoded to. No program.
-/
namespace Go.Proofs.Ytemafhaeppifoaa
namespace Cb

/-- how many numbers stand ahead of the first 0 -/
def nz : List Int → Nat
  | [] => 0
  | z :: r => if z = 0 then 0 else nz r + 1
def NZ (b : List Int) : Prop := ∀ c ∈ b, c ≠ 0
theorem nz_le (l : List Int) : nz l ≤ l.length := by
  induction l with
  | nil => simp [nz]
  | cons z r ih => simp only [nz, List.length_cons]; split <;> omega
theorem nz_take (l : List Int) : NZ (l.take (nz l)) := by
  induction l with
  | nil => intro c hc; simp at hc
  | cons z r ih =>
    simp only [nz]
    split
    · intro c hc; simp at hc
    · rename_i h
      rw [List.take_succ_cons]
      intro c hc
      rcases List.mem_cons.1 hc with rfl | hc
      · exact h
      · exact ih c hc
theorem nz_at (l : List Int) (h : nz l < l.length) : l[nz l]? = some 0 := by
  induction l with
  | nil => simp at h
  | cons z r ih =>
    simp only [nz] at h ⊢
    split
    · rename_i h0; simp [h0]
    · rename_i h0
      rw [if_neg h0] at h
      rw [List.getElem?_cons_succ]
      exact ih (by simp only [List.length_cons] at h; omega)
theorem nz_all {b : List Int} (h : NZ b) : nz b = b.length := by
  induction b with
  | nil => rfl
  | cons z r ih =>
    simp only [nz, List.length_cons]
    rw [if_neg (h z (by simp)), ih fun c hc => h c (by simp [hc])]
theorem nz_nought {b r : List Int} (h : NZ b) : nz (b ++ 0 :: r) = b.length := by
  induction b with
  | nil => simp [nz]
  | cons z r ih =>
    simp only [nz, List.length_cons, List.cons_append]
    rw [if_neg (h z (by simp)), ih fun c hc => h c (by simp [hc])]
theorem NZ.append {x y : List Int} (hx : NZ x) (hy : NZ y) : NZ (x ++ y) := fun c hc => by
  rcases List.mem_append.1 hc with h | h
  · exact hx c h
  · exact hy c h
theorem NZ.take {x : List Int} (h : NZ x) (n : Nat) : NZ (x.take n) := fun c hc => h c (List.mem_of_mem_take hc)

/-- how many bytes the first block has -/
def fst (l : List Int) : Nat := nz (l.take 254)
theorem fst_le (l : List Int) : fst l ≤ l.length := by have := nz_le (l.take 254); rw [List.length_take] at this; unfold fst; omega
theorem fst_254 (l : List Int) : fst l ≤ 254 := by have := nz_le (l.take 254); rw [List.length_take] at this; unfold fst; omega
theorem fst_nz (l : List Int) : NZ (l.take (fst l)) := by
  have := nz_take (l.take 254)
  rw [List.take_take] at this
  rw [show min (nz (l.take 254)) 254 = fst l from Nat.min_eq_left (fst_254 l)] at this
  exact this
theorem fst_at (l : List Int) (h : fst l < 254) (h2 : fst l < l.length) : l[fst l]? = some 0 := by
  have := nz_at (l.take 254) (by rw [List.length_take]; have : nz (l.take 254) = fst l := rfl; omega)
  rw [List.getElem?_take] at this
  rw [show nz (l.take 254) = fst l from rfl, if_pos h] at this
  exact this
theorem fst_last {b : List Int} (h : NZ b) (hl : b.length ≤ 254) : fst b = b.length := by
  unfold fst; rw [List.take_of_length_le hl]; exact nz_all h
theorem fst_nought {b r : List Int} (h : NZ b) (hl : b.length < 254) : fst (b ++ 0 :: r) = b.length := by
  unfold fst
  have e : (b ++ 0 :: r).take 254 = b ++ 0 :: r.take (253 - b.length) := by
    rw [List.take_append, List.take_of_length_le (by omega), show 254 - b.length = (253 - b.length) + 1 by omega, List.take_succ_cons]
  rw [e]; exact nz_nought h
theorem fst_full {b r : List Int} (h : NZ b) (hl : b.length = 254) : fst (b ++ r) = 254 := by
  unfold fst
  have e : (b ++ r).take 254 = b := by rw [← hl]; simp
  rw [e, nz_all h, hl]

/-- the blocks of bytes -/
def blocks (l : List Int) : List (List Int) :=
  if h : l.drop (fst l) = [] then [l.take (fst l)]
  else if h2 : fst l < 254 then l.take (fst l) :: blocks (l.drop (fst l + 1))
  else l.take (fst l) :: blocks (l.drop (fst l))
termination_by l.length
decreasing_by
  · have h3 : fst l < l.length := by
      rcases Nat.lt_or_ge (fst l) l.length with h' | h'
      · exact h'
      · exact absurd (List.drop_eq_nil_of_le h') h
    rw [List.length_drop]; omega
  · have h3 : fst l < l.length := by
      rcases Nat.lt_or_ge (fst l) l.length with h' | h'
      · exact h'
      · exact absurd (List.drop_eq_nil_of_le h') h
    rw [List.length_drop]; omega
theorem blocks_end {l : List Int} (h : l.length ≤ fst l) : blocks l = [l.take (fst l)] := by
  rw [blocks, dif_pos (List.drop_eq_nil_of_le h)]
theorem drop_ne {l : List Int} {n : Nat} (h : n < l.length) : l.drop n ≠ [] := fun e => by
  have := congrArg List.length e; rw [List.length_drop] at this; simp at this; omega
theorem blocks_short {l : List Int} (h : fst l < l.length) (h2 : fst l < 254) : blocks l = l.take (fst l) :: blocks (l.drop (fst l + 1)) := by
  rw [blocks, dif_neg (drop_ne h), dif_pos h2]
theorem blocks_long {l : List Int} (h : fst l < l.length) (h2 : ¬ fst l < 254) : blocks l = l.take (fst l) :: blocks (l.drop (fst l)) := by
  rw [blocks, dif_neg (drop_ne h), dif_neg h2]
theorem blocks_last {b : List Int} (h : NZ b) (hl : b.length ≤ 254) : blocks b = [b] := by
  rw [blocks_end (by rw [fst_last h hl]; exact Nat.le_refl _), fst_last h hl, List.take_length]
theorem blocks_nought {b r : List Int} (h : NZ b) (hl : b.length < 254) : blocks (b ++ 0 :: r) = b :: blocks r := by
  have e := fst_nought (r := r) h hl
  rw [blocks_short (by rw [e]; simp) (by rw [e]; exact hl), e]
  congr 1
  · simp
  · congr 1
    rw [List.drop_append]
    simp
theorem blocks_full {b r : List Int} (h : NZ b) (hl : b.length = 254) (hr : r ≠ []) : blocks (b ++ r) = b :: blocks r := by
  have e := fst_full (r := r) h hl
  have hp : 0 < r.length := List.length_pos_iff.2 hr
  rw [blocks_long (by rw [e, List.length_append]; omega) (by rw [e]; omega), e, ← hl]
  congr 1
  · simp
  · congr 1
    simp
/-- bytes are one block; or one, a 0, and others; or one of 254 and others -/
theorem shape (l : List Int) : (NZ l ∧ l.length ≤ 254) ∨ (∃ b r, NZ b ∧ b.length < 254 ∧ l = b ++ 0 :: r) ∨ (∃ b r, NZ b ∧ b.length = 254 ∧ r ≠ [] ∧ l = b ++ r) := by
  have h1 := fst_nz l
  have h2 := fst_254 l
  have h3 := fst_le l
  rcases Nat.lt_or_ge (fst l) l.length with h | h
  · by_cases h4 : fst l < 254
    · have h5 := fst_at l h4 h
      refine .inr (.inl ⟨l.take (fst l), l.drop (fst l + 1), h1, by rw [List.length_take]; omega, ?_⟩)
      rw [List.getElem?_eq_getElem h] at h5
      injection h5 with h5
      rw [← h5, List.getElem_cons_drop, List.take_append_drop]
    · exact .inr (.inr ⟨l.take (fst l), l.drop (fst l), h1, by rw [List.length_take]; omega, drop_ne h, (List.take_append_drop _ _).symm⟩)
  · rw [List.take_of_length_le h] at h1
    exact .inl ⟨h1, by omega⟩

/-- a block, stuffed -/
def one (b : List Int) : List Int := ((b.length + 1 : Nat) : Int) :: b
/-- bytes, stuffed -/
def join (bs : List (List Int)) : List Int := bs.flatMap one
def enc (l : List Int) : List Int := join (blocks l)
theorem join_append (a b : List (List Int)) : join (a ++ b) = join a ++ join b := by simp [join]
theorem enc_last {b : List Int} (h : NZ b) (hl : b.length ≤ 254) : enc b = one b := by simp [enc, join, blocks_last h hl]
theorem enc_nought {b r : List Int} (h : NZ b) (hl : b.length < 254) : enc (b ++ 0 :: r) = one b ++ enc r := by simp [enc, join, blocks_nought h hl]
theorem enc_full {b r : List Int} (h : NZ b) (hl : b.length = 254) (hr : r ≠ []) : enc (b ++ r) = one b ++ enc r := by simp [enc, join, blocks_full h hl hr]
theorem one_len (b : List Int) : (one b).length = b.length + 1 := rfl

/-- an induction along the blocks -/
theorem along {p : List Int → Prop} (h1 : ∀ b, NZ b → b.length ≤ 254 → p b) (h2 : ∀ b r, NZ b → b.length < 254 → p r → p (b ++ 0 :: r)) (h3 : ∀ b r, NZ b → b.length = 254 → r ≠ [] → p r → p (b ++ r)) (l : List Int) : p l := by
  suffices H : ∀ n (l : List Int), l.length ≤ n → p l from H l.length l (Nat.le_refl _)
  intro n
  induction n with
  | zero =>
    intro l hl
    obtain rfl : l = [] := List.length_eq_zero_iff.1 (by omega)
    exact h1 [] (fun c hc => by simp at hc) (by simp)
  | succ n ih =>
    intro l hl
    rcases shape l with ⟨ha, hb⟩ | ⟨b, r, ha, hb, rfl⟩ | ⟨b, r, ha, hb, hc, rfl⟩
    · exact h1 l ha hb
    · exact h2 b r ha hb (ih r (by simp only [List.length_append, List.length_cons] at hl; omega))
    · exact h3 b r ha hb hc (ih r (by simp only [List.length_append] at hl; omega))

theorem one_nz {b : List Int} (h : NZ b) : NZ (one b) := fun c hc => by
  rcases List.mem_cons.1 hc with rfl | hc
  · omega
  · exact h c hc
/-- what is stuffed has no 0 -/
theorem enc_nz (l : List Int) : NZ (enc l) := by
  refine along (p := fun l => NZ (enc l)) ?_ ?_ ?_ l
  · intro b h hl; rw [enc_last h hl]; exact one_nz h
  · intro b r h hl ih; rw [enc_nought h hl]; exact (one_nz h).append ih
  · intro b r h hl hr ih; rw [enc_full h hl hr]; exact (one_nz h).append ih
theorem enc_ne (l : List Int) : enc l ≠ [] := by
  rcases shape l with ⟨ha, hb⟩ | ⟨b, r, ha, hb, rfl⟩ | ⟨b, r, ha, hb, hc, rfl⟩
  · rw [enc_last ha hb]; simp [one]
  · rw [enc_nought ha hb]; simp [one]
  · rw [enc_full ha hb hc]; simp [one]
/-- how many bytes there are, stuffed -/
theorem enc_len (l : List Int) : l.length + 1 ≤ (enc l).length ∧ (enc l).length ≤ l.length + max 1 ((l.length + 253) / 254) ∧ (l.length ≤ 254 → (enc l).length = l.length + 1) ∧ (NZ l → (enc l).length = l.length + max 1 ((l.length + 253) / 254)) := by
  refine along (p := fun l => l.length + 1 ≤ (enc l).length ∧ (enc l).length ≤ l.length + max 1 ((l.length + 253) / 254) ∧ (l.length ≤ 254 → (enc l).length = l.length + 1) ∧ (NZ l → (enc l).length = l.length + max 1 ((l.length + 253) / 254))) ?_ ?_ ?_ l
  · intro b h hl
    rw [enc_last h hl, one_len]
    refine ⟨by omega, by omega, fun _ => rfl, fun _ => by omega⟩
  · intro b r h hl ⟨i1, i2, i3, _⟩
    rw [enc_nought h hl]
    simp only [List.length_append, List.length_cons, one_len] at *
    refine ⟨by omega, by omega, fun hh => by have := i3 (by omega); omega, fun hn => absurd rfl (hn 0 (by simp))⟩
  · intro b r h hl hr ⟨i1, i2, i3, i4⟩
    have hp : 0 < r.length := List.length_pos_iff.2 hr
    rw [enc_full h hl hr]
    simp only [List.length_append, one_len] at *
    refine ⟨by omega, by omega, fun hh => by omega, fun hn => ?_⟩
    have := i4 fun c hc => hn c (by simp [hc])
    omega
theorem enc_bytes {l : List Int} (h : ∀ z ∈ l, 0 ≤ z ∧ z < 256) : ∀ z ∈ enc l, 0 ≤ z ∧ z < 256 := by
  have ho : ∀ b : List Int, b.length ≤ 254 → (∀ z ∈ b, 0 ≤ z ∧ z < 256) → ∀ z ∈ one b, 0 ≤ z ∧ z < 256 := by
    intro b hl hb z hz
    rcases List.mem_cons.1 hz with rfl | hz
    · omega
    · exact hb z hz
  revert h
  refine along (p := fun l => (∀ z ∈ l, 0 ≤ z ∧ z < 256) → ∀ z ∈ enc l, 0 ≤ z ∧ z < 256) ?_ ?_ ?_ l
  · intro b h hl hb; rw [enc_last h hl]; exact ho b hl hb
  · intro b r h hl ih hb z hz
    rw [enc_nought h hl] at hz
    rcases List.mem_append.1 hz with hz | hz
    · exact ho b (by omega) (fun z hz => hb z (by simp [hz])) z hz
    · exact ih (fun z hz => hb z (by simp [hz])) z hz
  · intro b r h hl hr ih hb z hz
    rw [enc_full h hl hr] at hz
    rcases List.mem_append.1 hz with hz | hz
    · exact ho b (by omega) (fun z hz => hb z (by simp [hz])) z hz
    · exact ih (fun z hz => hb z (by simp [hz])) z hz

/-! ### decoding, as the program goes -/
/-- what is ahead has been decoded, and its last block has been full or not: what is behind -/
def dec (full : Bool) (s : List Int) : Option (List Int) :=
  match s with
  | [] => none
  | c :: r =>
    if c ≤ 0 ∨ (r.length : Int) + 1 < c then none
    else if nz (r.take (c.toNat - 1)) < c.toNat - 1 then none
    else if r.length ≤ c.toNat - 1 then (if full = true ∧ c.toNat - 1 = 0 then none else some (r.take (c.toNat - 1)))
    else (dec (decide (c.toNat - 1 = 254)) (r.drop (c.toNat - 1))).map fun x => r.take (c.toNat - 1) ++ (if c.toNat - 1 = 254 then x else 0 :: x)
termination_by s.length
decreasing_by
  simp only [List.length_drop, List.length_cons]
  omega

theorem dec_nil (f : Bool) : dec f [] = none := by rw [dec]
theorem dec_bad {f : Bool} {c : Int} {r : List Int} (h : c ≤ 0 ∨ (r.length : Int) + 1 < c) : dec f (c :: r) = none := by rw [dec, if_pos h]
/-- a code of n bytes, n no more than there are -/
theorem dec_zero {f : Bool} {n : Nat} {r : List Int} (h : n ≤ r.length) (hz : nz (r.take n) < n) : dec f (((n + 1 : Nat) : Int) :: r) = none := by
  rw [dec, if_neg (by omega), if_pos (by simpa using hz)]
theorem dec_last {f : Bool} {n : Nat} {r : List Int} (h : n = r.length) (hz : n ≤ nz (r.take n)) : dec f (((n + 1 : Nat) : Int) :: r) = if f = true ∧ n = 0 then none else some (r.take n) := by
  rw [dec, if_neg (by omega), if_neg (by simpa using hz), if_pos (by simp; omega)]
  simp
theorem dec_more {f : Bool} {n : Nat} {r : List Int} (h : n < r.length) (hz : n ≤ nz (r.take n)) : dec f (((n + 1 : Nat) : Int) :: r) = (dec (decide (n = 254)) (r.drop n)).map fun x => r.take n ++ (if n = 254 then x else 0 :: x) := by
  rw [dec, if_neg (by omega), if_neg (by simpa using hz), if_neg (by simp; omega)]
  simp
/-- a block, and what is behind -/
theorem dec_one {f : Bool} {b s : List Int} (hb : NZ b) (hs : s ≠ []) : dec f (one b ++ s) = (dec (decide (b.length = 254)) s).map fun x => b ++ (if b.length = 254 then x else 0 :: x) := by
  have hp : 0 < s.length := List.length_pos_iff.2 hs
  have h := dec_more (f := f) (n := b.length) (r := b ++ s) (by simp; omega) (by simp [nz_all hb])
  simpa [one] using h
theorem dec_end {f : Bool} {b : List Int} (hb : NZ b) : dec f (one b) = if f = true ∧ b.length = 0 then none else some b := by
  have h := dec_last (f := f) (n := b.length) (r := b) rfl (by simp [nz_all hb])
  simpa [one] using h
theorem dec_enc (l : List Int) : ∀ f : Bool, (f = true → l ≠ []) → dec f (enc l) = some l := by
  refine along (p := fun l => ∀ f : Bool, (f = true → l ≠ []) → dec f (enc l) = some l) ?_ ?_ ?_ l
  · intro b h hl f hf
    rw [enc_last h hl, dec_end h, if_neg]
    rintro ⟨h1, h2⟩
    exact hf h1 (List.length_eq_zero_iff.1 h2)
  · intro b r h hl ih f hf
    rw [enc_nought h hl, dec_one h (enc_ne r), ih _ (by simp; omega)]
    simp
    omega
  · intro b r h hl hr ih f hf
    rw [enc_full h hl hr, dec_one h (enc_ne r), ih _ (fun _ => hr)]
    simp [hl]
theorem NZ_of_nz {l : List Int} {n : Nat} (h : n ≤ nz (l.take n)) : NZ (l.take n) := by
  have h1 := nz_take (l.take n)
  rw [List.take_take, Nat.min_eq_right h] at h1
  exact h1
theorem enc_dec : ∀ (n : Nat) (s : List Int) (f : Bool) (x : List Int), s.length ≤ n → (∀ z ∈ s, z < 256) → dec f s = some x → enc x = s ∧ (f = true → x ≠ []) := by
  intro n
  induction n with
  | zero =>
    intro s f x hl _ h
    obtain rfl : s = [] := List.length_eq_zero_iff.1 (by omega)
    rw [dec_nil] at h; simp at h
  | succ n ih =>
    intro s f x hl hb h
    cases s with
    | nil => rw [dec_nil] at h; simp at h
    | cons c r =>
      by_cases h1 : c ≤ 0 ∨ (r.length : Int) + 1 < c
      · rw [dec_bad h1] at h; simp at h
      · obtain ⟨m, rfl⟩ : ∃ m : Nat, c = ((m + 1 : Nat) : Int) := ⟨(c - 1).toNat, by omega⟩
        have hm := hb ((m + 1 : Nat) : Int) (by simp)
        have hmr : m ≤ r.length := by omega
        by_cases h2 : nz (r.take m) < m
        · rw [dec_zero hmr h2] at h; simp at h
        · have hN : NZ (r.take m) := NZ_of_nz (by omega)
          have hlen : (r.take m).length = m := by rw [List.length_take]; omega
          have hone : one (r.take m) = ((m + 1 : Nat) : Int) :: r.take m := by rw [one, hlen]
          rcases Nat.lt_or_ge m r.length with h3 | h3
          · rw [dec_more h3 (by omega)] at h
            obtain ⟨y, hy, rfl⟩ := Option.map_eq_some_iff.1 h
            obtain ⟨i1, i2⟩ := ih _ _ _ (by simp only [List.length_drop, List.length_cons] at *; omega) (fun z hz => hb z (List.mem_cons_of_mem _ (List.mem_of_mem_drop hz))) hy
            by_cases h4 : m = 254
            · rw [if_pos h4, enc_full hN (by omega) (i2 (by simp [h4])), i1, hone, List.cons_append, List.take_append_drop]
              refine ⟨rfl, fun _ e => ?_⟩
              have := congrArg List.length e
              rw [List.length_append] at this
              simp only [List.length_nil] at this
              omega
            · rw [if_neg h4, enc_nought hN (by omega), i1, hone, List.cons_append, List.take_append_drop]
              exact ⟨rfl, fun _ e => by simp at e⟩
          · rw [dec_last (by omega) (by omega)] at h
            split at h
            · simp at h
            · rename_i h5
              injection h with h
              subst h
              rw [enc_last hN (by omega), hone]
              have e : r.take m = r := List.take_of_length_le h3
              rw [e] at hlen ⊢
              refine ⟨rfl, fun h6 h7 => h5 ⟨h6, ?_⟩⟩
              rw [h7] at hlen
              simpa using hlen.symm
/-- of which bytes these are the stuffed ones, if of some -/
theorem dec_iff {s x : List Int} (hb : ∀ z ∈ s, z < 256) : dec false s = some x ↔ enc x = s :=
  ⟨fun h => (enc_dec s.length s false x (Nat.le_refl _) hb h).1, fun h => by rw [← h]; exact dec_enc x false (by simp)⟩
theorem enc_inj {x y : List Int} (h : enc x = enc y) : x = y := by
  have h1 := dec_enc x false (by simp)
  rw [h, dec_enc y false (by simp)] at h1
  exact (Option.some.inj h1).symm

/-! ### blocks, as the document's answer goes -/
/-- what is left of the blocks, N the block that is open -/
def rem (e : Bool) (l : List Int) : List (List Int) := if e = true ∧ l = [] then [] else blocks l
theorem rem_false (l : List Int) : rem false l = blocks l := by simp [rem]
theorem rem_cons (e : Bool) (l : List Int) (h : l ≠ []) : rem e l = blocks l := by simp [rem, h]
theorem rem_full {b r : List Int} (h : NZ b) (hl : b.length = 254) : blocks (b ++ r) = b :: rem true r := by
  by_cases hr : r = []
  · subst hr
    simp [rem, blocks_last h (by omega : b.length ≤ 254)]
  · rw [blocks_full h hl hr, rem_cons _ _ hr]

/-! ### decoding, as the document's answer goes -/
/-- at a place of stuffed bytes: what has been decoded, and what is left; behind a block of 254 something is left -/
def At (x out rest : List Int) : Prop := x = out ++ rest
end Cb
end Go.Proofs.Ytemafhaeppifoaa
