/-
  The walk of the law HeadMates: it returns true.
-/
import Derived.Test.YtmmffifndheafaaDoorHdK
namespace Go.Proofs.YtmmffifndheafaaDoor
open Go.RowKit
set_option maxRecDepth 100000

set_option maxHeartbeats 8000000 in
theorem mates_go (v k s i c v' k' s' i' c' : Int) (w : World) (ht : Tens w w.heap.size) :
    Calls Tryd.prog 5 #[hdV v k s i c, hdV v' k' s' i' c'] w fun e w' => e = .returned (.bool true) ∧ Below w.heap.size w w' := by
  have ways : (v = v' ∧ k = k' ∧ s = s' ∧ c = c') ∨ (v = v' ∧ k = k' ∧ s = s' ∧ ¬ c = c') ∨ (v = v' ∧ k = k' ∧ ¬ s = s') ∨ (v = v' ∧ ¬ k = k') ∨ ¬ v = v' := by omega
  unfold hdV
  rcases ways with ⟨rfl, rfl, rfl, rfl⟩ | ⟨rfl, rfl, rfl, h⟩ | ⟨rfl, rfl, h⟩ | ⟨rfl, h⟩ | h
  · have e1 : mateZ v k s c v k s c = true := by simp [mateZ]
    have e2 : mateZ v k s c v k s c = true := by simp [mateZ]
    have e3 : mateZ v k s c v k s c = true := by simp [mateZ]
    have M1 := fun W => mates_any v k s i c v k s i' c W
    have M2 := fun W => mates_any v k s i' c v k s i c W
    have M3 := fun W => mates_any v k s i c v k s i' c W
    simp only [e1] at M1
    simp only [e2] at M2
    simp only [e3] at M3
    unfold hdV at M1 M2 M3
    clear e1 e2 e3
    obtain ⟨w3, hw3⟩ : ∃ w3, ((w.alloc (.cells #[.int .i64 v, .int .i64 k, .int .u32 s, .int .i64 i, .int .i64 c] 24)).alloc (.cells #[.int .i64 v, .int .i64 k, .int .u32 s, .int .i64 i', .int .i64 c] 24)).alloc (.cells #[.int .i64 v, .int .i64 k, .int .u32 s, .int .i64 i', .int .i64 c] 24) = w3 := ⟨_, rfl⟩
    have hs3 : w3.heap.size = w.heap.size + 3 := by rw [← hw3]; simp
    have hb3 : Below w.heap.size w w3 := by rw [← hw3]; exact (((Below.refl _ w).alloc (Nat.le_refl _) _).alloc (by simp) _).alloc (by simp; omega) _
    have p0 : w3.heap[w.heap.size]? = some (.cells #[.int .i64 v, .int .i64 k, .int .u32 s, .int .i64 i, .int .i64 c] 24 (0, 0)) := by
      rw [← hw3, Below.heap_alloc _ _ _ (by simp; omega), Below.heap_alloc _ _ _ (by simp)]; exact World.alloc_heap_new _ _
    have p1 : w3.heap[w.heap.size + 1]? = some (.cells #[.int .i64 v, .int .i64 k, .int .u32 s, .int .i64 i', .int .i64 c] 24 (0, 0)) := by
      rw [← hw3, Below.heap_alloc _ _ _ (by simp)]
      have := World.alloc_heap_new (w.alloc (.cells #[.int .i64 v, .int .i64 k, .int .u32 s, .int .i64 i, .int .i64 c] 24)) (.cells #[.int .i64 v, .int .i64 k, .int .u32 s, .int .i64 i', .int .i64 c] 24)
      rwa [World.size_alloc] at this
    have p2 : w3.heap[w.heap.size + 1 + 1]? = some (.cells #[.int .i64 v, .int .i64 k, .int .u32 s, .int .i64 i', .int .i64 c] 24 (0, 0)) := by
      rw [← hw3]
      have := World.alloc_heap_new ((w.alloc (.cells #[.int .i64 v, .int .i64 k, .int .u32 s, .int .i64 i, .int .i64 c] 24)).alloc (.cells #[.int .i64 v, .int .i64 k, .int .u32 s, .int .i64 i', .int .i64 c] 24)) (.cells #[.int .i64 v, .int .i64 k, .int .u32 s, .int .i64 i', .int .i64 c] 24)
      rwa [World.size_alloc, World.size_alloc] at this
    have KN := Lib.hid (known_any w.heap.size w3 (ht.below hb3) (by omega))
    have HW := Lib.hid hw3
    clear hw3
    go_enter Tryd.func5, Tryd.ntmps5
    go_wp2_with fail
    rw [HW.out]
    have HP0 := Lib.hid p0
    have HP1 := Lib.hid p1
    have HP2 := Lib.hid p2
    clear p0 p1 p2
    refine KN.out.mono ?_
    rintro e w4 ⟨rfl, hb4⟩
    have HB4 := Lib.hid hb4
    clear hb4 KN HW
    obtain ⟨f400, f401, f402, f403, f404⟩ := hd_block ((HB4.out.block (w.heap.size) (by omega)).trans HP0.out)
    obtain ⟨f410, f411, f412, f413, f414⟩ := hd_block ((HB4.out.block (w.heap.size + 1) (by omega)).trans HP1.out)
    obtain ⟨f420, f421, f422, f423, f424⟩ := hd_block ((HB4.out.block (w.heap.size + 1 + 1) (by omega)).trans HP2.out)
    go_wp2_with fail
    refine (M1 _).mono ?_
    rintro e w5 ⟨rfl, hb5⟩
    have HB5 := Lib.hid (HB4.out.trans (hb5.mono HB4.out.size))
    clear hb5 M1
    clear f400 f401 f402 f403 f404 f410 f411 f412 f413 f414 f420 f421 f422 f423 f424
    obtain ⟨f500, f501, f502, f503, f504⟩ := hd_block ((HB5.out.block (w.heap.size) (by omega)).trans HP0.out)
    obtain ⟨f510, f511, f512, f513, f514⟩ := hd_block ((HB5.out.block (w.heap.size + 1) (by omega)).trans HP1.out)
    obtain ⟨f520, f521, f522, f523, f524⟩ := hd_block ((HB5.out.block (w.heap.size + 1 + 1) (by omega)).trans HP2.out)
    go_wp2_with fail
    refine (M2 _).mono ?_
    rintro e w6 ⟨rfl, hb6⟩
    have HB6 := Lib.hid (HB5.out.trans (hb6.mono HB5.out.size))
    clear hb6 M2
    clear f500 f501 f502 f503 f504 f510 f511 f512 f513 f514 f520 f521 f522 f523 f524
    obtain ⟨f600, f601, f602, f603, f604⟩ := hd_block ((HB6.out.block (w.heap.size) (by omega)).trans HP0.out)
    obtain ⟨f610, f611, f612, f613, f614⟩ := hd_block ((HB6.out.block (w.heap.size + 1) (by omega)).trans HP1.out)
    obtain ⟨f620, f621, f622, f623, f624⟩ := hd_block ((HB6.out.block (w.heap.size + 1 + 1) (by omega)).trans HP2.out)
    go_wp2_with fail
    refine (M3 _).mono ?_
    rintro e w7 ⟨rfl, hb7⟩
    have HB7 := Lib.hid (hb3.trans ((HB6.out.trans (hb7.mono HB6.out.size)).mono (by omega)))
    clear hb7 M3
    go_wp2
    go_ret
    exact ⟨rfl, HB7.out⟩
  · have e1 : mateZ v k s c v k s c' = false := by simp [mateZ, h]
    have e2 : mateZ v k s c' v k s c = false := by simp [mateZ, Ne.symm h]
    have e3 : mateZ v k s c v k s c = true := by simp [mateZ]
    have M1 := fun W => mates_any v k s i c v k s i' c' W
    have M2 := fun W => mates_any v k s i' c' v k s i c W
    have M3 := fun W => mates_any v k s i c v k s i' c W
    simp only [e1] at M1
    simp only [e2] at M2
    simp only [e3] at M3
    unfold hdV at M1 M2 M3
    clear e1 e2 e3
    obtain ⟨w3, hw3⟩ : ∃ w3, ((w.alloc (.cells #[.int .i64 v, .int .i64 k, .int .u32 s, .int .i64 i, .int .i64 c] 24)).alloc (.cells #[.int .i64 v, .int .i64 k, .int .u32 s, .int .i64 i', .int .i64 c'] 24)).alloc (.cells #[.int .i64 v, .int .i64 k, .int .u32 s, .int .i64 i', .int .i64 c] 24) = w3 := ⟨_, rfl⟩
    have hs3 : w3.heap.size = w.heap.size + 3 := by rw [← hw3]; simp
    have hb3 : Below w.heap.size w w3 := by rw [← hw3]; exact (((Below.refl _ w).alloc (Nat.le_refl _) _).alloc (by simp) _).alloc (by simp; omega) _
    have p0 : w3.heap[w.heap.size]? = some (.cells #[.int .i64 v, .int .i64 k, .int .u32 s, .int .i64 i, .int .i64 c] 24 (0, 0)) := by
      rw [← hw3, Below.heap_alloc _ _ _ (by simp; omega), Below.heap_alloc _ _ _ (by simp)]; exact World.alloc_heap_new _ _
    have p1 : w3.heap[w.heap.size + 1]? = some (.cells #[.int .i64 v, .int .i64 k, .int .u32 s, .int .i64 i', .int .i64 c'] 24 (0, 0)) := by
      rw [← hw3, Below.heap_alloc _ _ _ (by simp)]
      have := World.alloc_heap_new (w.alloc (.cells #[.int .i64 v, .int .i64 k, .int .u32 s, .int .i64 i, .int .i64 c] 24)) (.cells #[.int .i64 v, .int .i64 k, .int .u32 s, .int .i64 i', .int .i64 c'] 24)
      rwa [World.size_alloc] at this
    have p2 : w3.heap[w.heap.size + 1 + 1]? = some (.cells #[.int .i64 v, .int .i64 k, .int .u32 s, .int .i64 i', .int .i64 c] 24 (0, 0)) := by
      rw [← hw3]
      have := World.alloc_heap_new ((w.alloc (.cells #[.int .i64 v, .int .i64 k, .int .u32 s, .int .i64 i, .int .i64 c] 24)).alloc (.cells #[.int .i64 v, .int .i64 k, .int .u32 s, .int .i64 i', .int .i64 c'] 24)) (.cells #[.int .i64 v, .int .i64 k, .int .u32 s, .int .i64 i', .int .i64 c] 24)
      rwa [World.size_alloc, World.size_alloc] at this
    have KN := Lib.hid (known_any w.heap.size w3 (ht.below hb3) (by omega))
    have HW := Lib.hid hw3
    clear hw3
    go_enter Tryd.func5, Tryd.ntmps5
    go_wp2_with fail
    rw [HW.out]
    have HP0 := Lib.hid p0
    have HP1 := Lib.hid p1
    have HP2 := Lib.hid p2
    clear p0 p1 p2
    refine KN.out.mono ?_
    rintro e w4 ⟨rfl, hb4⟩
    have HB4 := Lib.hid hb4
    clear hb4 KN HW
    obtain ⟨f400, f401, f402, f403, f404⟩ := hd_block ((HB4.out.block (w.heap.size) (by omega)).trans HP0.out)
    obtain ⟨f410, f411, f412, f413, f414⟩ := hd_block ((HB4.out.block (w.heap.size + 1) (by omega)).trans HP1.out)
    obtain ⟨f420, f421, f422, f423, f424⟩ := hd_block ((HB4.out.block (w.heap.size + 1 + 1) (by omega)).trans HP2.out)
    go_wp2_with fail
    refine (M1 _).mono ?_
    rintro e w5 ⟨rfl, hb5⟩
    have HB5 := Lib.hid (HB4.out.trans (hb5.mono HB4.out.size))
    clear hb5 M1
    clear f400 f401 f402 f403 f404 f410 f411 f412 f413 f414 f420 f421 f422 f423 f424
    obtain ⟨f500, f501, f502, f503, f504⟩ := hd_block ((HB5.out.block (w.heap.size) (by omega)).trans HP0.out)
    obtain ⟨f510, f511, f512, f513, f514⟩ := hd_block ((HB5.out.block (w.heap.size + 1) (by omega)).trans HP1.out)
    obtain ⟨f520, f521, f522, f523, f524⟩ := hd_block ((HB5.out.block (w.heap.size + 1 + 1) (by omega)).trans HP2.out)
    go_wp2_with fail
    refine (M2 _).mono ?_
    rintro e w6 ⟨rfl, hb6⟩
    have HB6 := Lib.hid (HB5.out.trans (hb6.mono HB5.out.size))
    clear hb6 M2
    clear f500 f501 f502 f503 f504 f510 f511 f512 f513 f514 f520 f521 f522 f523 f524
    obtain ⟨f600, f601, f602, f603, f604⟩ := hd_block ((HB6.out.block (w.heap.size) (by omega)).trans HP0.out)
    obtain ⟨f610, f611, f612, f613, f614⟩ := hd_block ((HB6.out.block (w.heap.size + 1) (by omega)).trans HP1.out)
    obtain ⟨f620, f621, f622, f623, f624⟩ := hd_block ((HB6.out.block (w.heap.size + 1 + 1) (by omega)).trans HP2.out)
    go_wp2_with fail
    refine (M3 _).mono ?_
    rintro e w7 ⟨rfl, hb7⟩
    have HB7 := Lib.hid (hb3.trans ((HB6.out.trans (hb7.mono HB6.out.size)).mono (by omega)))
    clear hb7 M3
    go_wp2
    go_ret
    exact ⟨ret_bool (by simp [h]), HB7.out⟩
  · have e1 : mateZ v k s c v k s' c' = false := by simp [mateZ, h]
    have e2 : mateZ v k s' c' v k s c = false := by simp [mateZ, Ne.symm h]
    have e3 : mateZ v k s c v k s c = true := by simp [mateZ]
    have M1 := fun W => mates_any v k s i c v k s' i' c' W
    have M2 := fun W => mates_any v k s' i' c' v k s i c W
    have M3 := fun W => mates_any v k s i c v k s i' c W
    simp only [e1] at M1
    simp only [e2] at M2
    simp only [e3] at M3
    unfold hdV at M1 M2 M3
    clear e1 e2 e3
    obtain ⟨w3, hw3⟩ : ∃ w3, ((w.alloc (.cells #[.int .i64 v, .int .i64 k, .int .u32 s, .int .i64 i, .int .i64 c] 24)).alloc (.cells #[.int .i64 v, .int .i64 k, .int .u32 s', .int .i64 i', .int .i64 c'] 24)).alloc (.cells #[.int .i64 v, .int .i64 k, .int .u32 s, .int .i64 i', .int .i64 c] 24) = w3 := ⟨_, rfl⟩
    have hs3 : w3.heap.size = w.heap.size + 3 := by rw [← hw3]; simp
    have hb3 : Below w.heap.size w w3 := by rw [← hw3]; exact (((Below.refl _ w).alloc (Nat.le_refl _) _).alloc (by simp) _).alloc (by simp; omega) _
    have p0 : w3.heap[w.heap.size]? = some (.cells #[.int .i64 v, .int .i64 k, .int .u32 s, .int .i64 i, .int .i64 c] 24 (0, 0)) := by
      rw [← hw3, Below.heap_alloc _ _ _ (by simp; omega), Below.heap_alloc _ _ _ (by simp)]; exact World.alloc_heap_new _ _
    have p1 : w3.heap[w.heap.size + 1]? = some (.cells #[.int .i64 v, .int .i64 k, .int .u32 s', .int .i64 i', .int .i64 c'] 24 (0, 0)) := by
      rw [← hw3, Below.heap_alloc _ _ _ (by simp)]
      have := World.alloc_heap_new (w.alloc (.cells #[.int .i64 v, .int .i64 k, .int .u32 s, .int .i64 i, .int .i64 c] 24)) (.cells #[.int .i64 v, .int .i64 k, .int .u32 s', .int .i64 i', .int .i64 c'] 24)
      rwa [World.size_alloc] at this
    have p2 : w3.heap[w.heap.size + 1 + 1]? = some (.cells #[.int .i64 v, .int .i64 k, .int .u32 s, .int .i64 i', .int .i64 c] 24 (0, 0)) := by
      rw [← hw3]
      have := World.alloc_heap_new ((w.alloc (.cells #[.int .i64 v, .int .i64 k, .int .u32 s, .int .i64 i, .int .i64 c] 24)).alloc (.cells #[.int .i64 v, .int .i64 k, .int .u32 s', .int .i64 i', .int .i64 c'] 24)) (.cells #[.int .i64 v, .int .i64 k, .int .u32 s, .int .i64 i', .int .i64 c] 24)
      rwa [World.size_alloc, World.size_alloc] at this
    have KN := Lib.hid (known_any w.heap.size w3 (ht.below hb3) (by omega))
    have HW := Lib.hid hw3
    clear hw3
    go_enter Tryd.func5, Tryd.ntmps5
    go_wp2_with fail
    rw [HW.out]
    have HP0 := Lib.hid p0
    have HP1 := Lib.hid p1
    have HP2 := Lib.hid p2
    clear p0 p1 p2
    refine KN.out.mono ?_
    rintro e w4 ⟨rfl, hb4⟩
    have HB4 := Lib.hid hb4
    clear hb4 KN HW
    obtain ⟨f400, f401, f402, f403, f404⟩ := hd_block ((HB4.out.block (w.heap.size) (by omega)).trans HP0.out)
    obtain ⟨f410, f411, f412, f413, f414⟩ := hd_block ((HB4.out.block (w.heap.size + 1) (by omega)).trans HP1.out)
    obtain ⟨f420, f421, f422, f423, f424⟩ := hd_block ((HB4.out.block (w.heap.size + 1 + 1) (by omega)).trans HP2.out)
    go_wp2_with fail
    refine (M1 _).mono ?_
    rintro e w5 ⟨rfl, hb5⟩
    have HB5 := Lib.hid (HB4.out.trans (hb5.mono HB4.out.size))
    clear hb5 M1
    clear f400 f401 f402 f403 f404 f410 f411 f412 f413 f414 f420 f421 f422 f423 f424
    obtain ⟨f500, f501, f502, f503, f504⟩ := hd_block ((HB5.out.block (w.heap.size) (by omega)).trans HP0.out)
    obtain ⟨f510, f511, f512, f513, f514⟩ := hd_block ((HB5.out.block (w.heap.size + 1) (by omega)).trans HP1.out)
    obtain ⟨f520, f521, f522, f523, f524⟩ := hd_block ((HB5.out.block (w.heap.size + 1 + 1) (by omega)).trans HP2.out)
    go_wp2_with fail
    refine (M2 _).mono ?_
    rintro e w6 ⟨rfl, hb6⟩
    have HB6 := Lib.hid (HB5.out.trans (hb6.mono HB5.out.size))
    clear hb6 M2
    clear f500 f501 f502 f503 f504 f510 f511 f512 f513 f514 f520 f521 f522 f523 f524
    obtain ⟨f600, f601, f602, f603, f604⟩ := hd_block ((HB6.out.block (w.heap.size) (by omega)).trans HP0.out)
    obtain ⟨f610, f611, f612, f613, f614⟩ := hd_block ((HB6.out.block (w.heap.size + 1) (by omega)).trans HP1.out)
    obtain ⟨f620, f621, f622, f623, f624⟩ := hd_block ((HB6.out.block (w.heap.size + 1 + 1) (by omega)).trans HP2.out)
    go_wp2_with fail
    refine (M3 _).mono ?_
    rintro e w7 ⟨rfl, hb7⟩
    have HB7 := Lib.hid (hb3.trans ((HB6.out.trans (hb7.mono HB6.out.size)).mono (by omega)))
    clear hb7 M3
    go_wp2
    go_ret
    exact ⟨rfl, HB7.out⟩
  · have e1 : mateZ v k s c v k' s' c' = false := by simp [mateZ, h]
    have e2 : mateZ v k' s' c' v k s c = false := by simp [mateZ, Ne.symm h]
    have e3 : mateZ v k s c v k s c = true := by simp [mateZ]
    have M1 := fun W => mates_any v k s i c v k' s' i' c' W
    have M2 := fun W => mates_any v k' s' i' c' v k s i c W
    have M3 := fun W => mates_any v k s i c v k s i' c W
    simp only [e1] at M1
    simp only [e2] at M2
    simp only [e3] at M3
    unfold hdV at M1 M2 M3
    clear e1 e2 e3
    obtain ⟨w3, hw3⟩ : ∃ w3, ((w.alloc (.cells #[.int .i64 v, .int .i64 k, .int .u32 s, .int .i64 i, .int .i64 c] 24)).alloc (.cells #[.int .i64 v, .int .i64 k', .int .u32 s', .int .i64 i', .int .i64 c'] 24)).alloc (.cells #[.int .i64 v, .int .i64 k, .int .u32 s, .int .i64 i', .int .i64 c] 24) = w3 := ⟨_, rfl⟩
    have hs3 : w3.heap.size = w.heap.size + 3 := by rw [← hw3]; simp
    have hb3 : Below w.heap.size w w3 := by rw [← hw3]; exact (((Below.refl _ w).alloc (Nat.le_refl _) _).alloc (by simp) _).alloc (by simp; omega) _
    have p0 : w3.heap[w.heap.size]? = some (.cells #[.int .i64 v, .int .i64 k, .int .u32 s, .int .i64 i, .int .i64 c] 24 (0, 0)) := by
      rw [← hw3, Below.heap_alloc _ _ _ (by simp; omega), Below.heap_alloc _ _ _ (by simp)]; exact World.alloc_heap_new _ _
    have p1 : w3.heap[w.heap.size + 1]? = some (.cells #[.int .i64 v, .int .i64 k', .int .u32 s', .int .i64 i', .int .i64 c'] 24 (0, 0)) := by
      rw [← hw3, Below.heap_alloc _ _ _ (by simp)]
      have := World.alloc_heap_new (w.alloc (.cells #[.int .i64 v, .int .i64 k, .int .u32 s, .int .i64 i, .int .i64 c] 24)) (.cells #[.int .i64 v, .int .i64 k', .int .u32 s', .int .i64 i', .int .i64 c'] 24)
      rwa [World.size_alloc] at this
    have p2 : w3.heap[w.heap.size + 1 + 1]? = some (.cells #[.int .i64 v, .int .i64 k, .int .u32 s, .int .i64 i', .int .i64 c] 24 (0, 0)) := by
      rw [← hw3]
      have := World.alloc_heap_new ((w.alloc (.cells #[.int .i64 v, .int .i64 k, .int .u32 s, .int .i64 i, .int .i64 c] 24)).alloc (.cells #[.int .i64 v, .int .i64 k', .int .u32 s', .int .i64 i', .int .i64 c'] 24)) (.cells #[.int .i64 v, .int .i64 k, .int .u32 s, .int .i64 i', .int .i64 c] 24)
      rwa [World.size_alloc, World.size_alloc] at this
    have KN := Lib.hid (known_any w.heap.size w3 (ht.below hb3) (by omega))
    have HW := Lib.hid hw3
    clear hw3
    go_enter Tryd.func5, Tryd.ntmps5
    go_wp2_with fail
    rw [HW.out]
    have HP0 := Lib.hid p0
    have HP1 := Lib.hid p1
    have HP2 := Lib.hid p2
    clear p0 p1 p2
    refine KN.out.mono ?_
    rintro e w4 ⟨rfl, hb4⟩
    have HB4 := Lib.hid hb4
    clear hb4 KN HW
    obtain ⟨f400, f401, f402, f403, f404⟩ := hd_block ((HB4.out.block (w.heap.size) (by omega)).trans HP0.out)
    obtain ⟨f410, f411, f412, f413, f414⟩ := hd_block ((HB4.out.block (w.heap.size + 1) (by omega)).trans HP1.out)
    obtain ⟨f420, f421, f422, f423, f424⟩ := hd_block ((HB4.out.block (w.heap.size + 1 + 1) (by omega)).trans HP2.out)
    go_wp2_with fail
    refine (M1 _).mono ?_
    rintro e w5 ⟨rfl, hb5⟩
    have HB5 := Lib.hid (HB4.out.trans (hb5.mono HB4.out.size))
    clear hb5 M1
    clear f400 f401 f402 f403 f404 f410 f411 f412 f413 f414 f420 f421 f422 f423 f424
    obtain ⟨f500, f501, f502, f503, f504⟩ := hd_block ((HB5.out.block (w.heap.size) (by omega)).trans HP0.out)
    obtain ⟨f510, f511, f512, f513, f514⟩ := hd_block ((HB5.out.block (w.heap.size + 1) (by omega)).trans HP1.out)
    obtain ⟨f520, f521, f522, f523, f524⟩ := hd_block ((HB5.out.block (w.heap.size + 1 + 1) (by omega)).trans HP2.out)
    go_wp2_with fail
    refine (M2 _).mono ?_
    rintro e w6 ⟨rfl, hb6⟩
    have HB6 := Lib.hid (HB5.out.trans (hb6.mono HB5.out.size))
    clear hb6 M2
    clear f500 f501 f502 f503 f504 f510 f511 f512 f513 f514 f520 f521 f522 f523 f524
    obtain ⟨f600, f601, f602, f603, f604⟩ := hd_block ((HB6.out.block (w.heap.size) (by omega)).trans HP0.out)
    obtain ⟨f610, f611, f612, f613, f614⟩ := hd_block ((HB6.out.block (w.heap.size + 1) (by omega)).trans HP1.out)
    obtain ⟨f620, f621, f622, f623, f624⟩ := hd_block ((HB6.out.block (w.heap.size + 1 + 1) (by omega)).trans HP2.out)
    go_wp2_with fail
    refine (M3 _).mono ?_
    rintro e w7 ⟨rfl, hb7⟩
    have HB7 := Lib.hid (hb3.trans ((HB6.out.trans (hb7.mono HB6.out.size)).mono (by omega)))
    clear hb7 M3
    go_wp2
    go_ret
    exact ⟨rfl, HB7.out⟩
  · have e1 : mateZ v k s c v' k' s' c' = false := by simp [mateZ, h]
    have e2 : mateZ v' k' s' c' v k s c = false := by simp [mateZ, Ne.symm h]
    have e3 : mateZ v k s c v k s c = true := by simp [mateZ]
    have M1 := fun W => mates_any v k s i c v' k' s' i' c' W
    have M2 := fun W => mates_any v' k' s' i' c' v k s i c W
    have M3 := fun W => mates_any v k s i c v k s i' c W
    simp only [e1] at M1
    simp only [e2] at M2
    simp only [e3] at M3
    unfold hdV at M1 M2 M3
    clear e1 e2 e3
    obtain ⟨w3, hw3⟩ : ∃ w3, ((w.alloc (.cells #[.int .i64 v, .int .i64 k, .int .u32 s, .int .i64 i, .int .i64 c] 24)).alloc (.cells #[.int .i64 v', .int .i64 k', .int .u32 s', .int .i64 i', .int .i64 c'] 24)).alloc (.cells #[.int .i64 v, .int .i64 k, .int .u32 s, .int .i64 i', .int .i64 c] 24) = w3 := ⟨_, rfl⟩
    have hs3 : w3.heap.size = w.heap.size + 3 := by rw [← hw3]; simp
    have hb3 : Below w.heap.size w w3 := by rw [← hw3]; exact (((Below.refl _ w).alloc (Nat.le_refl _) _).alloc (by simp) _).alloc (by simp; omega) _
    have p0 : w3.heap[w.heap.size]? = some (.cells #[.int .i64 v, .int .i64 k, .int .u32 s, .int .i64 i, .int .i64 c] 24 (0, 0)) := by
      rw [← hw3, Below.heap_alloc _ _ _ (by simp; omega), Below.heap_alloc _ _ _ (by simp)]; exact World.alloc_heap_new _ _
    have p1 : w3.heap[w.heap.size + 1]? = some (.cells #[.int .i64 v', .int .i64 k', .int .u32 s', .int .i64 i', .int .i64 c'] 24 (0, 0)) := by
      rw [← hw3, Below.heap_alloc _ _ _ (by simp)]
      have := World.alloc_heap_new (w.alloc (.cells #[.int .i64 v, .int .i64 k, .int .u32 s, .int .i64 i, .int .i64 c] 24)) (.cells #[.int .i64 v', .int .i64 k', .int .u32 s', .int .i64 i', .int .i64 c'] 24)
      rwa [World.size_alloc] at this
    have p2 : w3.heap[w.heap.size + 1 + 1]? = some (.cells #[.int .i64 v, .int .i64 k, .int .u32 s, .int .i64 i', .int .i64 c] 24 (0, 0)) := by
      rw [← hw3]
      have := World.alloc_heap_new ((w.alloc (.cells #[.int .i64 v, .int .i64 k, .int .u32 s, .int .i64 i, .int .i64 c] 24)).alloc (.cells #[.int .i64 v', .int .i64 k', .int .u32 s', .int .i64 i', .int .i64 c'] 24)) (.cells #[.int .i64 v, .int .i64 k, .int .u32 s, .int .i64 i', .int .i64 c] 24)
      rwa [World.size_alloc, World.size_alloc] at this
    have KN := Lib.hid (known_any w.heap.size w3 (ht.below hb3) (by omega))
    have HW := Lib.hid hw3
    clear hw3
    go_enter Tryd.func5, Tryd.ntmps5
    go_wp2_with fail
    rw [HW.out]
    have HP0 := Lib.hid p0
    have HP1 := Lib.hid p1
    have HP2 := Lib.hid p2
    clear p0 p1 p2
    refine KN.out.mono ?_
    rintro e w4 ⟨rfl, hb4⟩
    have HB4 := Lib.hid hb4
    clear hb4 KN HW
    obtain ⟨f400, f401, f402, f403, f404⟩ := hd_block ((HB4.out.block (w.heap.size) (by omega)).trans HP0.out)
    obtain ⟨f410, f411, f412, f413, f414⟩ := hd_block ((HB4.out.block (w.heap.size + 1) (by omega)).trans HP1.out)
    obtain ⟨f420, f421, f422, f423, f424⟩ := hd_block ((HB4.out.block (w.heap.size + 1 + 1) (by omega)).trans HP2.out)
    go_wp2_with fail
    refine (M1 _).mono ?_
    rintro e w5 ⟨rfl, hb5⟩
    have HB5 := Lib.hid (HB4.out.trans (hb5.mono HB4.out.size))
    clear hb5 M1
    clear f400 f401 f402 f403 f404 f410 f411 f412 f413 f414 f420 f421 f422 f423 f424
    obtain ⟨f500, f501, f502, f503, f504⟩ := hd_block ((HB5.out.block (w.heap.size) (by omega)).trans HP0.out)
    obtain ⟨f510, f511, f512, f513, f514⟩ := hd_block ((HB5.out.block (w.heap.size + 1) (by omega)).trans HP1.out)
    obtain ⟨f520, f521, f522, f523, f524⟩ := hd_block ((HB5.out.block (w.heap.size + 1 + 1) (by omega)).trans HP2.out)
    go_wp2_with fail
    refine (M2 _).mono ?_
    rintro e w6 ⟨rfl, hb6⟩
    have HB6 := Lib.hid (HB5.out.trans (hb6.mono HB5.out.size))
    clear hb6 M2
    clear f500 f501 f502 f503 f504 f510 f511 f512 f513 f514 f520 f521 f522 f523 f524
    obtain ⟨f600, f601, f602, f603, f604⟩ := hd_block ((HB6.out.block (w.heap.size) (by omega)).trans HP0.out)
    obtain ⟨f610, f611, f612, f613, f614⟩ := hd_block ((HB6.out.block (w.heap.size + 1) (by omega)).trans HP1.out)
    obtain ⟨f620, f621, f622, f623, f624⟩ := hd_block ((HB6.out.block (w.heap.size + 1 + 1) (by omega)).trans HP2.out)
    go_wp2_with fail
    refine (M3 _).mono ?_
    rintro e w7 ⟨rfl, hb7⟩
    have HB7 := Lib.hid (hb3.trans ((HB6.out.trans (hb7.mono HB6.out.size)).mono (by omega)))
    clear hb7 M3
    go_wp2
    go_ret
    exact ⟨rfl, HB7.out⟩
end Go.Proofs.YtmmffifndheafaaDoor
