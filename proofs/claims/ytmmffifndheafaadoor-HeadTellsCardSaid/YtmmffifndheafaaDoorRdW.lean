/-
  Contracts of read at words.
-/
import Derived.Test.YtmmffifndheafaaDoorLens
import Derived.Deep.RegionWith
namespace Go.Proofs.YtmmffifndheafaaDoor
open Go.RowKit
set_option maxRecDepth 100000
section
variable (lo b : Nat) (zs : List Int) (p e : Nat) (w : World)
theorem rdW_err (fv : Value) (h : LensAt w lo b zs p e) (he : e ≠ 0) :
    Calls Tryd.prog 36 #[.pointer (some ⟨b, 0, none⟩), fv] w fun r w' => r = .returned (.int .u32 0) ∧ w = w' := by
  have HE := lerr_any lo b zs p e w h
  have h3 : ¬ (e : Int) = 0 := by omega
  have h4 : ((e : Int) != 0) = true := by simp; omega
  clear h he
  go_enter Tryd.func36, Tryd.ntmps36
  go_wp2_with (go_at_call 45; refine HE.mono ?_; rintro r w2 ⟨rfl, rfl⟩)
  go_ret
  exact ⟨rfl, rfl⟩
theorem rdW_nil (fv : Value) : Calls Tryd.prog 36 #[.pointer none, fv] w fun r w' => r = .returned (.int .u32 0) ∧ w = w' := by
  go_enter Tryd.func36, Tryd.ntmps36
  go_wp2_with (go_at_call 45; refine (lerr_nil _).mono ?_; rintro r w2 ⟨rfl, rfl⟩)
  go_ret
  exact ⟨rfl, rfl⟩
set_option maxHeartbeats 2000000 in
theorem rdW_ok (c0 : Nat) (h : LensAt w lo b zs p 0) (hl : zs.length ≤ 1000000000) (size : Nat) (hs : p + size ≤ zs.length) (K : Value → World → Prop)
    (HC : ∀ n A cap, Nums .u8 (w.drewN n) b A (zs.drop p) → zs.length - p ≤ cap → Calls Tryd.prog 37 #[.slice A (zs.length - p) cap, .pointer (some ⟨c0, 0, none⟩)] (w.drewN n) fun r w' => ∃ v, r = .returned (.tuple #[v, .int .i64 size, .int .i64 0]) ∧ Below w.heap.size w w' ∧ K v w') :
    Calls Tryd.prog 36 #[.pointer (some ⟨b, 0, none⟩), .func (.func 37) #[] #[.pointer (some ⟨c0, 0, none⟩)]] w fun r w' => ∃ v w1, r = .returned v ∧ K v w1 ∧ Below w.heap.size w w1 ∧ w' = w1.setCell ⟨b, 1, none⟩ (.int .i64 (p + size)) := by
  have HE := lerr_any lo b zs p 0 w h
  have HW := Lib.hid h
  obtain ⟨A, cap, hb, c0, c1, c2, f1, f2, hn, hlc, hp, hlo⟩ := h.open
  have hnd := hn.nums.drop (i := p) hlc
  have hsz := h.lt
  have HB : Hid (∀ w1, Below w.heap.size w w1 → w1.cell? ⟨b, 1, none⟩ = some (.int .i64 p) ∧ w1.frozen? ⟨b, 1, none⟩ = false) := fun w1 hb1 => by
    obtain ⟨_, _, _, _, c1, c2, f1, f2, _⟩ := (HW.out.below hb1).open
    exact ⟨c1, f1⟩
  have hp1 : (p : Int) ≤ (zs.length : Int) := by omega
  have hp2 : (zs.length : Int) ≤ (cap : Int) := by omega
  obtain ⟨A', hA'⟩ : ∃ A', (if cap = p then A else Option.map (fun x => x.add p) A) = A' := ⟨_, rfl⟩
  rw [hA'] at hnd
  have HC1 := HC 1 A' (cap - p) (hnd.kept fun _ _ => rfl) (by omega)
  clear h hn HC
  go_enter Tryd.func36, Tryd.ntmps36
  go_wp2_with (go_at_call 45; refine HE.mono ?_; rintro r w2 ⟨rfl, rfl⟩)
  go_region_with (go_at_call 37; refine HC1.mono ?_; rintro r w3 ⟨v, rfl, hb3, hK⟩; obtain ⟨d1, g1⟩ := HB.out _ hb3)
  all_goals go_wp2
  all_goals go_ret
  all_goals exact ⟨_, _, rfl, hK, hb3, rfl⟩
set_option maxHeartbeats 2000000 in
theorem rdW_bad (c0 : Nat) (h : LensAt w lo b zs p 0) (_hl : zs.length ≤ 1000000000) (err : Nat) (he : err ≠ 0) (K : Value → World → Prop)
    (HC : ∀ n A cap, Nums .u8 (w.drewN n) b A (zs.drop p) → zs.length - p ≤ cap → Calls Tryd.prog 37 #[.slice A (zs.length - p) cap, .pointer (some ⟨c0, 0, none⟩)] (w.drewN n) fun r w' => ∃ v s, r = .returned (.tuple #[v, .int .i64 s, .int .i64 err]) ∧ Below w.heap.size w w' ∧ K v w') :
    Calls Tryd.prog 36 #[.pointer (some ⟨b, 0, none⟩), .func (.func 37) #[] #[.pointer (some ⟨c0, 0, none⟩)]] w fun r w' => r = .returned (.int .u32 0) ∧ ∃ v w1, K v w1 ∧ Below w.heap.size w w1 ∧ w' = w1.setCell ⟨b, 2, none⟩ (.int .i64 err) := by
  have HE := lerr_any lo b zs p 0 w h
  have HW := Lib.hid h
  obtain ⟨A, cap, hb, c0, c1, c2, f1, f2, hn, hlc, hp, hlo⟩ := h.open
  have hnd := hn.nums.drop (i := p) hlc
  have hsz := h.lt
  have HB : Hid (∀ w1, Below w.heap.size w w1 → w1.cell? ⟨b, 2, none⟩ = some (.int .i64 (0 : Nat)) ∧ w1.frozen? ⟨b, 2, none⟩ = false) := fun w1 hb1 => by
    obtain ⟨_, _, _, _, c1, c2, f1, f2, _⟩ := (HW.out.below hb1).open
    exact ⟨c2, f2⟩
  have hp1 : (p : Int) ≤ (zs.length : Int) := by omega
  have hp2 : (zs.length : Int) ≤ (cap : Int) := by omega
  obtain ⟨A', hA'⟩ : ∃ A', (if cap = p then A else Option.map (fun x => x.add p) A) = A' := ⟨_, rfl⟩
  rw [hA'] at hnd
  have HC1 := HC 1 A' (cap - p) (hnd.kept fun _ _ => rfl) (by omega)
  have h3 : ¬ (err : Int) = 0 := by omega
  have h4 : ((err : Int) != 0) = true := by simp; omega
  clear h hn HC he
  go_enter Tryd.func36, Tryd.ntmps36
  go_wp2_with (go_at_call 45; refine HE.mono ?_; rintro r w2 ⟨rfl, rfl⟩)
  go_region_with (go_at_call 37; refine HC1.mono ?_; rintro r w3 ⟨v, s, rfl, hb3, hK⟩; obtain ⟨d1, g1⟩ := HB.out _ hb3)
  all_goals go_wp2
  all_goals go_ret
  all_goals exact ⟨rfl, _, _, hK, hb3, rfl⟩
end
end Go.Proofs.YtmmffifndheafaaDoor
