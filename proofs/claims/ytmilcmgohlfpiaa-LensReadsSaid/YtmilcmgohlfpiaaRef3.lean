/-
  Contracts of the document's answers for layer 3: fail, Word, Number, Signed, Raw, Field.
-/
import Derived.Test.YtmilcmgohlfpiaaMeth
import Derived.Test.YtmilcmgohlfpiaaReadRef
import Derived.Handy
namespace Go.Proofs.Ytmilcmgohlfpiaa
open Go.RowKit
set_option maxRecDepth 100000

/-- the document's lens, as a value -/
abbrev RefL (A : Option Addr) (n c p e : Nat) : Value := .agg #[.slice A n c, .int .i64 p, .int .i64 e]
abbrev RefC (A : Option Addr) (n c p e : Nat) : Obj := .cells #[.slice A n c, .int .i64 p, .int .i64 e] 27

/-- a block that was laid, and another behind it -/
theorem two_blocks (w : World) (o1 o2 : Obj) : ((w.alloc o1).alloc o2).heap[w.heap.size]? = (w.alloc o1).heap[w.heap.size]? := Below.heap_alloc _ _ _ (by simp)

theorem rfail_any (A : Option Addr) (n c p e : Nat) (e' : Nat) (w : World) :
    Calls Try.prog 42 #[RefL A n c p e, .int .i64 e'] w fun r w' => r = .returned (RefL A n c p e') ∧ Below w.heap.size w w' := by
  go_enter Try.func42, Try.ntmps42
  go_wp2
  go_returns
  exact ⟨rfl, ((Below.refl _ w).alloc (Nat.le_refl _) _).alloc (by simp) _⟩

/-- what the document's read of a number answers -/
def RefI (k : IntKind) (A : Option Addr) (n c p e : Nat) (x : Int × Nat × Nat) (w : World) (r : Ending) (w' : World) : Prop :=
  r = .returned (.tuple #[RefL A n c (placeOf p e x.2.1) (errOf e x.2.2), .int k (ansI e x.1)]) ∧ Below w.heap.size w w'
section
variable {k : IntKind} {A : Option Addr} {n c p e : Nat} {x : Int × Nat × Nat} {w w' : World}
theorem RefI.err (he : e ≠ 0) (hb : Below w.heap.size w w') : RefI k A n c p e x w (.returned (.tuple #[RefL A n c p e, .int k 0])) w' :=
  ⟨by simp [placeOf, errOf, ansI, he], hb⟩
theorem RefI.bad (h0 : x.1 = 0) (h1 : x.2.1 = 0) (hb : Below w.heap.size w w') : RefI k A n c p 0 x w (.returned (.tuple #[RefL A n c p x.2.2, .int k 0])) w' :=
  ⟨by simp [placeOf, errOf, ansI, h0, h1], hb⟩
theorem RefI.ok {q v : Int} (h0 : x.2.2 = 0) (hq : q = ((p + x.2.1 : Nat) : Int)) (hv : v = x.1) (hb : Below w.heap.size w w') : RefI k A n c p 0 x w (.returned (.tuple #[.agg #[.slice A n c, .int .i64 q, .int .i64 0], .int k v])) w' := by
  subst hq hv
  exact ⟨by simp [placeOf, errOf, ansI, h0], hb⟩
end
/-- the block of the result: its cells, and what three stores make of them -/
structure ResB (b : Nat) (w : World) : Prop where
  c0 : ∃ v, w.cell? ⟨b, 0, none⟩ = some v
  f0 : w.frozen? ⟨b, 0, none⟩ = false
  f1 : w.frozen? ⟨b, 1, none⟩ = false
  f2 : w.frozen? ⟨b, 2, none⟩ = false
  k0 : ∀ v0 v1 v2, (((w.setCell ⟨b, 0, none⟩ v0).setCell ⟨b, 1, none⟩ v1).setCell ⟨b, 2, none⟩ v2).cell? ⟨b, 0, none⟩ = some v0
  k1 : ∀ v0 v1 v2, (((w.setCell ⟨b, 0, none⟩ v0).setCell ⟨b, 1, none⟩ v1).setCell ⟨b, 2, none⟩ v2).cell? ⟨b, 1, none⟩ = some v1
  k2 : ∀ v0 v1 v2, (((w.setCell ⟨b, 0, none⟩ v0).setCell ⟨b, 1, none⟩ v1).setCell ⟨b, 2, none⟩ v2).cell? ⟨b, 2, none⟩ = some v2
theorem resB_of {b : Nat} {w : World} {x0 x1 x2 : Value} {T : TypeId} (h : w.heap[b]? = some (.cells #[x0, x1, x2] T (0, 0))) : ResB b w := by
  have e : ∀ v0 v1 v2, (((w.setCell ⟨b, 0, none⟩ v0).setCell ⟨b, 1, none⟩ v1).setCell ⟨b, 2, none⟩ v2).heap[b]? = some (.cells #[v0, v1, v2] T (0, 0)) := fun v0 v1 v2 => by
    rw [setCell_at (setCell_at (setCell_at h))]; rfl
  refine ⟨⟨x0, by simp [World.cell?, h]⟩, by simp [World.frozen?, h], by simp [World.frozen?, h], by simp [World.frozen?, h], fun v0 v1 v2 => ?_, fun v0 v1 v2 => ?_, fun v0 v1 v2 => ?_⟩
  all_goals rw [World.cell?, e v0 v1 v2]; rfl
/-- the two blocks that each of them lays first -/
theorem ref_blocks (A : Option Addr) (n c p e : Nat) (w : World) {W w2 : World} (hW : (w.alloc (RefC A n c p e)).alloc (RefC none 0 0 0 0) = W) (hb : Below W.heap.size W w2) :
    w2.cell? ⟨w.heap.size + 1, 0, none⟩ = some (.slice none 0 0) ∧ w2.cell? ⟨w.heap.size + 1, 1, none⟩ = some (.int .i64 (0 : Nat)) ∧ w2.cell? ⟨w.heap.size + 1, 2, none⟩ = some (.int .i64 (0 : Nat)) ∧ ResB (w.heap.size + 1) w2 ∧ Below w.heap.size w w2 := by
  subst hW
  have h1 : ((w.alloc (RefC A n c p e)).alloc (RefC none 0 0 0 0)).heap[w.heap.size + 1]? = some (.cells #[.slice none 0 0, .int .i64 (0 : Nat), .int .i64 (0 : Nat)] 27 (0, 0)) := by
    have := heap_alloc_new (w.alloc (RefC A n c p e)) (RefC none 0 0 0 0)
    rwa [World.size_alloc] at this
  have h2 := (hb.block _ (by simp)).trans h1
  have h3 : Below w.heap.size w ((w.alloc (RefC A n c p e)).alloc (RefC none 0 0 0 0)) := ((Below.refl _ w).alloc (Nat.le_refl _) _).alloc (by simp) _
  exact ⟨by simp [World.cell?, h2], by simp [World.cell?, h2], by simp [World.cell?, h2], resB_of h2, h3.trans (hb.mono h3.size)⟩
theorem below_set3 {w w2 : World} {b : Nat} {v0 v1 v2 : Value} (h : Below w.heap.size w w2) (hb : w.heap.size ≤ b) : Below w.heap.size w (((w2.setCell ⟨b, 0, none⟩ v0).setCell ⟨b, 1, none⟩ v1).setCell ⟨b, 2, none⟩ v2) :=
  ((h.setCell (p := ⟨b, 0, none⟩) hb _).setCell (p := ⟨b, 1, none⟩) hb _).setCell (p := ⟨b, 2, none⟩) hb _

set_option maxHeartbeats 1000000 in
theorem rnum_any (A : Option Addr) (n c p e : Nat) (l : List Int) (most : Int) (w : World) (hn : l.length = n) (hl : n ≤ 1000000000) (hp : p ≤ n) (hz : ∀ x ∈ l, 0 ≤ x ∧ x ≤ 255) (h1 : Nums .u8 w w.heap.size A l) :
    Calls Try.prog 13 #[RefL A n c p e, .int .u64 most] w fun r w' => RefI .u64 A n c p e (numR (l.drop p) most) w r w' := by
  by_cases he : e = 0
  · subst he
    have hb0 : Below w.heap.size w ((w.alloc (RefC A n c p 0)).alloc (RefC none 0 0 0 0)) := ((Below.refl _ w).alloc (Nat.le_refl _) _).alloc (by simp) _
    have HG := rget_len _ A n c l p ((w.alloc (RefC A n c p 0)).alloc (RefC none 0 0 0 0)) hn (by omega) (by omega) (by omega) hz (h1.below hb0)
    rw [Int.toNat_natCast] at HG
    have HF := fun e' w => rfail_any A n c p 0 e' w
    have hle := Vi.get_le (l.drop p)
    have hdl : (l.drop p).length = n - p := by rw [List.length_drop, hn]
    clear h1 hz hb0
    by_cases h0 : (Vi.get (l.drop p)).2.2 = 0
    · by_cases hm : most < ((Vi.get (l.drop p)).1 : Int)
      · have HR : Hid (numR (l.drop p) most = (0, 0, 5)) := by show _ = _; unfold numR; rw [if_neg (by simp [h0]), if_pos hm]
        generalize Vi.get (l.drop p) = r at *
        obtain ⟨r1, r2, r3⟩ := r
        simp only at h0 hm hle HG
        subst h0
        clear hdl hle
        go_enter Try.func13, Try.ntmps13
        go_wp2_with (first
          | (go_at_call 46; refine HG.mono ?_; rintro e w1 ⟨rfl, rfl⟩)
          | (go_at_call 42; refine (HF 5 _).mono ?_; rintro e w1 ⟨rfl, hb⟩; obtain ⟨d0, d1, d2, hrb, hbb⟩ := ref_blocks A n c p 0 w rfl hb; obtain ⟨_, g0, g1, g2, k0, k1, k2⟩ := hrb; have HB := Lib.hid hbb; clear hb hbb))
        refine bodyPost_ret (by simp [results, Try.results13, go_sem, k0, k1, k2]; try rfl) rfl ?_
        exact by rw [HR.out]; exact RefI.bad rfl rfl (below_set3 HB.out (by omega))
      · have HR : Hid (numR (l.drop p) most = (((Vi.get (l.drop p)).1 : Int), (Vi.get (l.drop p)).2.1, 0)) := by show _ = _; unfold numR; rw [if_neg (by simp [h0]), if_neg hm]
        generalize Vi.get (l.drop p) = r at *
        obtain ⟨r1, r2, r3⟩ := r
        simp only at h0 hm hle HG HR
        subst h0
        clear hdl hle
        go_enter Try.func13, Try.ntmps13
        go_wp2_with (go_at_call 46; refine HG.mono ?_; rintro e w1 ⟨rfl, rfl⟩)
        go_returns
        exact RefI.ok (by rw [HR.out]) (by rw [HR.out]; simp) (by rw [HR.out]) (((Below.refl _ w).alloc (Nat.le_refl _) _).alloc (by simp) _)
    · have HR : Hid (numR (l.drop p) most = (0, 0, (Vi.get (l.drop p)).2.2)) := by show _ = _; unfold numR; rw [if_pos h0]
      have h3 : ¬ (((Vi.get (l.drop p)).2.2 : Nat) : Int) = 0 := by omega
      have h4 : ((((Vi.get (l.drop p)).2.2 : Nat) : Int) == 0) = false := by simp; omega
      have h5 : ((((Vi.get (l.drop p)).2.2 : Nat) : Int) != 0) = true := by simp; omega
      generalize Vi.get (l.drop p) = r at *
      obtain ⟨r1, r2, r3⟩ := r
      simp only at h0 h3 h4 h5 hle HG HR
      clear hdl hle h0
      go_enter Try.func13, Try.ntmps13
      go_wp2_with (first
        | (go_at_call 46; refine HG.mono ?_; rintro e w1 ⟨rfl, rfl⟩)
        | (go_at_call 42; refine (HF r3 _).mono ?_; rintro e w1 ⟨rfl, hb⟩; obtain ⟨d0, d1, d2, hrb, hbb⟩ := ref_blocks A n c p 0 w rfl hb; obtain ⟨_, g0, g1, g2, k0, k1, k2⟩ := hrb; have HB := Lib.hid hbb; clear hb hbb))
      refine bodyPost_ret (by simp [results, Try.results13, go_sem, k0, k1, k2]; try rfl) rfl ?_
      exact by rw [HR.out]; exact RefI.bad rfl rfl (below_set3 HB.out (by omega))
  · have h3 : ¬ (e : Int) = 0 := by omega
    have h4 : ((e : Int) != 0) = true := by simp; omega
    go_enter Try.func13, Try.ntmps13
    go_wp2
    go_returns
    exact RefI.err he (((Below.refl _ w).alloc (Nat.le_refl _) _).alloc (by simp) _)

set_option maxHeartbeats 1000000 in
theorem rsig_any (A : Option Addr) (n c p e : Nat) (l : List Int) (least most : Int) (w : World) (hn : l.length = n) (hl : n ≤ 1000000000) (hp : p ≤ n) (hz : ∀ x ∈ l, 0 ≤ x ∧ x ≤ 255) (h1 : Nums .u8 w w.heap.size A l) :
    Calls Try.prog 15 #[RefL A n c p e, .int .i64 least, .int .i64 most] w fun r w' => RefI .i64 A n c p e (sigR (l.drop p) least most) w r w' := by
  by_cases he : e = 0
  · subst he
    have hb0 : Below w.heap.size w ((w.alloc (RefC A n c p 0)).alloc (RefC none 0 0 0 0)) := ((Below.refl _ w).alloc (Nat.le_refl _) _).alloc (by simp) _
    have HG := rget_len _ A n c l p ((w.alloc (RefC A n c p 0)).alloc (RefC none 0 0 0 0)) hn (by omega) (by omega) (by omega) hz (h1.below hb0)
    rw [Int.toNat_natCast] at HG
    have HF := fun e' w => rfail_any A n c p 0 e' w
    have hle := Vi.get_le (l.drop p)
    have hdl : (l.drop p).length = n - p := by rw [List.length_drop, hn]
    have HZG := fun w => rzag_any ((Vi.get (l.drop p)).1 : Int) w (by omega) (by omega)
    clear h1 hz hb0
    by_cases h0 : (Vi.get (l.drop p)).2.2 = 0
    · by_cases hm1 : zagZ ((Vi.get (l.drop p)).1 : Int) < least
      · have HR : Hid (sigR (l.drop p) least most = (0, 0, 5)) := by show _ = _; unfold sigR; rw [if_neg (by simp [h0]), if_pos (.inl hm1)]
        generalize Vi.get (l.drop p) = r at *
        obtain ⟨r1, r2, r3⟩ := r
        simp only at h0 hm1 hle HG HZG
        subst h0
        generalize zagZ (r1 : Int) = z at *
        clear hdl hle
        go_enter Try.func15, Try.ntmps15
        go_wp2_with (first
          | (go_at_call 46; refine HG.mono ?_; rintro e w1 ⟨rfl, rfl⟩)
          | (go_at_call 50; refine (HZG _).mono ?_; rintro e w1 ⟨rfl, rfl⟩)
          | (go_at_call 42; refine (HF 5 _).mono ?_; rintro e w1 ⟨rfl, hb⟩; obtain ⟨d0, d1, d2, hrb, hbb⟩ := ref_blocks A n c p 0 w rfl hb; obtain ⟨_, g0, g1, g2, k0, k1, k2⟩ := hrb; have HB := Lib.hid hbb; clear hb hbb))
        refine bodyPost_ret (by simp [results, Try.results15, go_sem, k0, k1, k2]; try rfl) rfl ?_
        exact by rw [HR.out]; exact RefI.bad rfl rfl (below_set3 HB.out (by omega))
      · by_cases hm2 : most < zagZ ((Vi.get (l.drop p)).1 : Int)
        · have HR : Hid (sigR (l.drop p) least most = (0, 0, 5)) := by show _ = _; unfold sigR; rw [if_neg (by simp [h0]), if_pos (.inr hm2)]
          generalize Vi.get (l.drop p) = r at *
          obtain ⟨r1, r2, r3⟩ := r
          simp only at h0 hm1 hm2 hle HG HZG
          subst h0
          generalize zagZ (r1 : Int) = z at *
          clear hdl hle
          go_enter Try.func15, Try.ntmps15
          go_wp2_with (first
            | (go_at_call 46; refine HG.mono ?_; rintro e w1 ⟨rfl, rfl⟩)
            | (go_at_call 50; refine (HZG _).mono ?_; rintro e w1 ⟨rfl, rfl⟩)
            | (go_at_call 42; refine (HF 5 _).mono ?_; rintro e w1 ⟨rfl, hb⟩; obtain ⟨d0, d1, d2, hrb, hbb⟩ := ref_blocks A n c p 0 w rfl hb; obtain ⟨_, g0, g1, g2, k0, k1, k2⟩ := hrb; have HB := Lib.hid hbb; clear hb hbb))
          refine bodyPost_ret (by simp [results, Try.results15, go_sem, k0, k1, k2]; try rfl) rfl ?_
          exact by rw [HR.out]; exact RefI.bad rfl rfl (below_set3 HB.out (by omega))
        · have HR : Hid (sigR (l.drop p) least most = (zagZ ((Vi.get (l.drop p)).1 : Int), (Vi.get (l.drop p)).2.1, 0)) := by show _ = _; unfold sigR; rw [if_neg (by simp [h0]), if_neg (by rintro (h | h) <;> omega)]
          generalize Vi.get (l.drop p) = r at *
          obtain ⟨r1, r2, r3⟩ := r
          simp only at h0 hm1 hm2 hle HG HZG HR
          subst h0
          generalize zagZ (r1 : Int) = z at *
          clear hdl hle
          go_enter Try.func15, Try.ntmps15
          go_wp2_with (first
            | (go_at_call 46; refine HG.mono ?_; rintro e w1 ⟨rfl, rfl⟩)
            | (go_at_call 50; refine (HZG _).mono ?_; rintro e w1 ⟨rfl, rfl⟩))
          go_returns
          exact RefI.ok (by rw [HR.out]) (by rw [HR.out]; simp) (by rw [HR.out]) (((Below.refl _ w).alloc (Nat.le_refl _) _).alloc (by simp) _)
    · have HR : Hid (sigR (l.drop p) least most = (0, 0, (Vi.get (l.drop p)).2.2)) := by show _ = _; unfold sigR; rw [if_pos h0]
      have h3 : ¬ (((Vi.get (l.drop p)).2.2 : Nat) : Int) = 0 := by omega
      have h4 : ((((Vi.get (l.drop p)).2.2 : Nat) : Int) == 0) = false := by simp; omega
      have h5 : ((((Vi.get (l.drop p)).2.2 : Nat) : Int) != 0) = true := by simp; omega
      generalize Vi.get (l.drop p) = r at *
      obtain ⟨r1, r2, r3⟩ := r
      simp only at h0 h3 h4 h5 hle HG HZG HR
      generalize zagZ (r1 : Int) = z at *
      clear hdl hle h0
      go_enter Try.func15, Try.ntmps15
      go_wp2_with (first
        | (go_at_call 46; refine HG.mono ?_; rintro e w1 ⟨rfl, rfl⟩)
        | (go_at_call 50; refine (HZG _).mono ?_; rintro e w1 ⟨rfl, rfl⟩)
        | (go_at_call 42; refine (HF r3 _).mono ?_; rintro e w1 ⟨rfl, hb⟩; obtain ⟨d0, d1, d2, hrb, hbb⟩ := ref_blocks A n c p 0 w rfl hb; obtain ⟨_, g0, g1, g2, k0, k1, k2⟩ := hrb; have HB := Lib.hid hbb; clear hb hbb))
      refine bodyPost_ret (by simp [results, Try.results15, go_sem, k0, k1, k2]; try rfl) rfl ?_
      exact by rw [HR.out]; exact RefI.bad rfl rfl (below_set3 HB.out (by omega))
  · have h3 : ¬ (e : Int) = 0 := by omega
    have h4 : ((e : Int) != 0) = true := by simp; omega
    go_enter Try.func15, Try.ntmps15
    go_wp2
    go_returns
    exact RefI.err he (((Below.refl _ w).alloc (Nat.le_refl _) _).alloc (by simp) _)
end Go.Proofs.Ytmilcmgohlfpiaa
