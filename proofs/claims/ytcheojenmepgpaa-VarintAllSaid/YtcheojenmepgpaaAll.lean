/-
  Contracts of layer 1: the numbers of bytes and where they are: the document's All.
-/
import Derived.Test.YtcheojenmepgpaaReadRef
import Derived.Test.YtcheojenmepgpaaAllNum
namespace Go.Proofs.Ytcheojenmepgpaa
open Go.RowKit
set_option maxRecDepth 100000

theorem intInfo : (Try.prog.info? 3).map (fun i => (i.zero, i.size, i.bytes)) = some (some (.int .i64 0), 1, 8) := by kernel_rfl
theorem u64Info : (Try.prog.info? 27).map (fun i => (i.zero, i.size, i.bytes)) = some (some (.int .u64 0), 1, 8) := by kernel_rfl

def places (l : List (Nat × Nat)) : List Int := l.map fun x => (x.1 : Int)
def numbers (l : List (Nat × Nat)) : List Int := l.map fun x => (x.2 : Int)
theorem places_length (l : List (Nat × Nat)) : (places l).length = l.length := by simp [places]
theorem numbers_length (l : List (Nat × Nat)) : (numbers l).length = l.length := by simp [numbers]

/-- what the document's All answers -/
def RAll (w : World) (zs : List Int) (e : Ending) (w' : World) : Prop :=
  ∃ A c A2 c2, e = .returned (.tuple #[.slice A (Vi.tl zs 0).length c, .slice A2 (Vi.tl zs 0).length c2, .int .i64 (Vi.er zs)]) ∧
    Nums .i64 w' w'.heap.size A (places (Vi.tl zs 0)) ∧ Nums .u64 w' w'.heap.size A2 (numbers (Vi.tl zs 0)) ∧ Below w.heap.size w w' ∧ (Vi.tl zs 0).length ≤ c ∧ (Vi.tl zs 0).length ≤ c2
theorem RAll.of {w w' : World} {zs : List Int} {pre : List (Nat × Nat)} {v v2 : Value} {er : Int} (hp : Vi.tl zs 0 = pre) (he : er = Vi.er zs) (h1 : MadeK 3 .i64 w w' (places pre) v) (h2 : MadeK 27 .u64 w w' (numbers pre) v2) :
    RAll w zs (.returned (.tuple #[v, v2, .int .i64 er])) w' := by
  subst hp he
  obtain ⟨A, c, rfl, hc, hn⟩ := h1.slice
  obtain ⟨A2, c2, rfl, hc2, hn2⟩ := h2.slice
  rw [places_length] at hc ⊢
  rw [numbers_length] at hc2 ⊢
  exact ⟨A, c, A2, c2, rfl, hn, hn2, h1.2, hc, hc2⟩

set_option maxHeartbeats 800000 in
theorem rall_any (a : Option Addr) (cap : Nat) (zs : List Int) (w : World) (hl : zs.length ≤ 1000000) (hz : ∀ c ∈ zs, 0 ≤ c ∧ c ≤ 255) (hn : Nums .u8 w w.heap.size a zs) :
    Calls Try.prog 18 #[.slice a zs.length cap] w (RAll w zs) := by
  obtain ⟨i0, hi, hi0, hi1, hi2⟩ := info_parts intInfo
  obtain ⟨j0, hj, hj0, hj1, hj2⟩ := info_parts u64Info
  go_enter Try.func18, Try.ntmps18
  go_wp2
  go_loopw [5, 6, 7] (fun v v2 i wr => ∃ (p : Nat) (pre : List (Nat × Nat)), i = .int .i64 p ∧ Vi.Gone zs pre p ∧ MadeK 3 .i64 w wr (places pre) v ∧ MadeK 27 .u64 w wr (numbers pre) v2) (fun _ _ i _ => zs.length - (intOf i).toNat)
  case atStart => exact ⟨0, [], rfl, Vi.gone_nil zs, MadeK.nil _ _ (Below.refl _ _), MadeK.nil _ _ (Below.refl _ _)⟩
  case round =>
    obtain ⟨p, pre, rfl, hg, hm1, hm2⟩ := hrel
    have hple := hg.1
    by_cases hlt : p < zs.length
    · have hlt' : (p : Int) < (zs.length : Int) := by omega
      have HZ := Lib.hid hz
      have hn2 := hn.below hm1.2
      have hpl := Vi.gone_len hg
      clear hz
      go_wp2_with fail
      refine (rget_any w.heap.size _ _ zs _ _ (by omega) (by omega) (by omega) HZ.out hn2).mono ?_
      rintro e w1 ⟨rfl, rfl⟩
      rw [Int.toNat_natCast]
      by_cases hok : (Vi.get (zs.drop p)).2.2 = 0
      · have hmore := Vi.gone_more HZ.out hg hok
        have hle := Vi.get_le (zs.drop p)
        generalize Vi.get (zs.drop p) = r at *
        obtain ⟨r1, r2, r3⟩ := r
        simp only at hok hmore hle
        subst hok
        have HM := Lib.hid hmore
        have hp2 : 0 < r2 := hmore.2.2.1
        have hp3 : p + r2 ≤ zs.length := hmore.2.2.2
        clear hmore hle
        have hsz := hm1.2.size
        have hpl1 : (places pre).length ≤ 1000000 := by rw [places_length]; omega
        have hpl2 : (numbers pre).length ≤ 1000000 := by rw [numbers_length]; omega
        go_wp2_with (first
          | (at_builtin; refine wpList_append_own _ rfl (.tmp 27) (.tmp 29) 39 rfl w.heap.size 3 i0 (.int .i64 0) 1 8 Try.underlying39 hi hi0 hi1 hi2 rfl (by decide) _ _ _ rfl (hm1.1.alloc _) ⟨wr.heap.size, 0, none⟩ 1 1 [_] rfl rfl (cell_one_new _ _ _) ?_ ?_ ?_ ?_ ?_; (intro u hu; simp at hu; subst hu; rfl); (unfold maxLen; omega); omega; (simp; omega); intro v' w1 hown1 hgrow1 _; have hb1 := ((hm1.2.alloc hsz (.cells #[.int .i64 (p : Int)] 3)).grown hgrow1 (by simp; omega) (fun g hk => (hm1.own_ge hk).1)); have hm21 := hm2.far hm1 (by decide) hgrow1 hb1)
          | (at_builtin; refine wpList_append_own _ rfl (.tmp 31) (.tmp 33) 22 rfl w.heap.size 27 j0 (.int .u64 0) 1 8 Try.underlying22 hj hj0 hj1 hj2 rfl (by decide) _ _ _ rfl (hm21.1.alloc _) ⟨w1.heap.size, 0, none⟩ 1 1 [_] rfl rfl (cell_one_new _ _ _) ?_ ?_ ?_ ?_ ?_; (intro u hu; simp at hu; subst hu; rfl); (unfold maxLen; omega); omega; (have := hb1.size; simp; omega); intro v2' w2 hown2 hgrow2 _))
        have h1' := hm1.app (y := (p : Int)) hown1 hgrow1 rfl
        have h2' := hm21.app (y := (r1 : Int)) hown2 hgrow2 rfl
        have h1'' := h1'.far hm21 (by decide) hgrow2 h2'.2
        go_roundw
        case rel =>
          refine ⟨p + r2, pre ++ [(p, r1)], by go_num, HM.out.1, ?_, ?_⟩
          · rw [show places (pre ++ [(p, r1)]) = places pre ++ [(p : Int)] by simp [places]]; exact h1''
          · rw [show numbers (pre ++ [(p, r1)]) = numbers pre ++ [(r1 : Int)] by simp [numbers]]; exact h2'
        case measure => simp [intOf]; omega
      · have hstop := Lib.hid (Vi.gone_stop hg hok)
        have herr := Lib.hid (Vi.gone_err hg hok hlt)
        go_wp2
        go_ret3
        exact RAll.of hstop.out (by rw [herr.out]) hm1 hm2
    · have hend := Lib.hid (Vi.gone_end hg (by omega))
      go_wp2
      go_ret3
      exact RAll.of hend.out.1 (by rw [hend.out.2]; rfl) hm1 hm2

theorem rall_len (a : Option Addr) (n cap : Nat) (zs : List Int) (w : World) (hn0 : zs.length = n) (hl : n ≤ 1000000) (hz : ∀ c ∈ zs, 0 ≤ c ∧ c ≤ 255) (hn : Nums .u8 w w.heap.size a zs) :
    Calls Try.prog 18 #[.slice a n cap] w (RAll w zs) := by
  subst hn0; exact rall_any a cap zs w hl hz hn

end Go.Proofs.Ytcheojenmepgpaa
