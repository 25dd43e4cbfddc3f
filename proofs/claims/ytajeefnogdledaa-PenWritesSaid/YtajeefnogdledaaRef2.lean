/-
  Contracts of the document's answers for layer 2: Word, Signed, Field, Raw.
-/
import Derived.Test.YtajeefnogdledaaApp
import Derived.Test.YtajeefnogdledaaPn
import Derived.Handy
namespace Go.Proofs.Ytajeefnogdledaa
open Go.RowKit
set_option maxRecDepth 100000

theorem made_later {w w1 w2 : World} {L : List Int} {v : Value} (h1 : w2.ownsRow w1.heap.size 5 1 v L.length (L.map (Value.int .u8))) (h2 : Below w1.heap.size w1 w2) (hb : Below w.heap.size w w1) : Made w w2 L v := by
  have hs := hb.size
  refine ⟨⟨h1.1, ?_⟩, hb.trans (h2.mono hs)⟩
  rcases h1.2 with h | ⟨g, cap, cur, hv, hg, rest⟩
  · exact .inl h
  · exact .inr ⟨g, cap, cur, hv, by omega, rest⟩

/-- so many bytes of a number, the lowest ones first -/
def wordL (n : Int) : Nat → List Int
  | 0 => []
  | k + 1 => n % 256 :: wordL (n / 256) k
theorem wordL_length (n : Int) (k : Nat) : (wordL n k).length = k := by
  induction k generalizing n with
  | zero => rfl
  | succ k ih => simp [wordL, ih]
set_option maxHeartbeats 800000 in
theorem word_any (n : Int) (size : Nat) (w : World) (h0 : 0 ≤ n) (h1 : n ≤ 4294967295) (hs : size ≤ 1000) :
    Calls Try.prog 25 #[.int .u32 n, .int .i64 size] w fun e w' => ∃ v, e = .returned v ∧ Made w w' (wordL n size) v := by
  obtain ⟨i0, hi, hz0, hz1, hz2⟩ := info_parts byteInfo
  go_enter Try.func25, Try.ntmps25
  go_wp2
  go_loopw [0, 5, 6] (fun x v i wr => ∃ (k j : Nat) (L : List Int) (y : Int), k + j = size ∧ i = .int .i64 k ∧ 0 ≤ y ∧ y ≤ 4294967295 ∧ x = .int .u32 y ∧ Hid (L ++ wordL y j = wordL n size) ∧ L.length = k ∧ Made w wr L v) (fun _ _ i _ => size - (intOf i).toNat)
  case atStart => exact ⟨0, size, [], n, by omega, rfl, h0, h1, rfl, rfl, rfl, Made.nil w⟩
  case round =>
    obtain ⟨k, j, L, y, hkj, rfl, hy0, hy1, rfl, HE, hL, hm⟩ := hrel
    cases j with
    | zero =>
      go_wp2
      go_ret
      have he := HE.out
      simp [wordL] at he
      subst he
      exact ⟨_, rfl, hm⟩
    | succ j =>
      subst hL
      have hlt : L.length < size := by omega
      have hsz := hm.2.size
      go_wp2_with (at_builtin; refine wpList_append_own _ rfl _ _ 25 rfl w.heap.size 5 i0 (.int .u8 0) 1 1 Try.underlying25 hi hz0 hz1 hz2 rfl (by decide) _ _ _ rfl (hm.1.alloc _) ⟨wr.heap.size, 0, none⟩ 1 1 [_] rfl rfl (cell_one_new _ _ _) ?c2 ?c3 ?c4 ?c5 ?_)
      case c2 => intro u hu; simp at hu; subst hu; rfl
      case c3 => unfold maxLen; omega
      case c4 => omega
      case c5 => simp; omega
      intro v' w1 hown' hgrow _
      have HM := Lib.hid (hm.app hown' hgrow rfl)
      clear hown' hgrow hm
      go_wp2
      go_roundw
      case rel => exact ⟨L.length + 1, j, L ++ [y % 256], y / 256, by omega, by go_num, by omega, by omega, rfl, by have := HE.out; simpa [Hid, wordL] using this, by simp, HM.out⟩
      case measure => simp [intOf]; omega

theorem u64Info2 : (Try.prog.info? 45).map (fun i => (i.zero, i.size, i.bytes)) = some (some (.int .u64 0), 1, 8) := by kernel_rfl
set_option maxHeartbeats 800000 in
theorem rsigned_any (B : Nat) (a : Option Addr) (n c : Nat) (zs : List Int) (w : World) (hn1 : n ≤ 1000000) (hz : zs.length = n) (hzb : ∀ c ∈ zs, -9223372036854775808 ≤ c ∧ c ≤ 9223372036854775807) (hB : B ≤ w.heap.size) (hn : Nums .i64 w B a zs) :
    Calls Try.prog 27 #[.slice a n c] w fun e w' => ∃ v, e = .returned v ∧ Made w w' (puts (zs.map zigZ)) v := by
  obtain ⟨i0, hi, hz0, hz1, hz2⟩ := info_parts u64Info2
  have HZ := Lib.hid hzb
  have HN := Lib.hid hn
  have HL := Lib.hid hz
  clear hzb hn hz
  go_enter Try.func27, Try.ntmps27
  go_wp2
  go_loopw [3, 4] (fun v i wr => ∃ k : Nat, k ≤ n ∧ i = .int .i64 k ∧ MadeK 45 .u64 w wr ((zs.take k).map zigZ) v) (fun _ i _ => n - (intOf i).toNat)
  case atStart => exact ⟨0, by omega, rfl, MadeK.nil _ _ (Below.refl _ _)⟩
  case round =>
    obtain ⟨k, hk, rfl, hm⟩ := hrel
    by_cases hlt : k < n
    · obtain ⟨z, hz⟩ : ∃ z, zs[k]? = some z := ⟨_, List.getElem?_eq_getElem (by rw [HL.out]; exact hlt)⟩
      obtain ⟨b1, o1, rfl, hb1, hc1⟩ := (HN.out.below (hm.2.mono hB)).open hz
      have hzr := HZ.out z (List.mem_of_getElem? hz)
      have HT := Lib.hid (take_more hz)
      have hsz := hm.2.size
      have hlk : ((zs.take k).map zigZ).length ≤ 1000000 := by rw [List.length_map, List.length_take]; omega
      obtain ⟨X, hX⟩ : ∃ X, X = (zs.take k).map zigZ := ⟨_, rfl⟩
      rw [← hX] at hm hlk
      have HX := Lib.hid hX
      clear hz hX
      go_wp2_with (first
        | (go_at_call 34; refine (rzigz_any z _ hzr.1 hzr.2).mono ?_; rintro e w2 ⟨rfl, rfl⟩)
        | (at_builtin; refine wpList_append_own _ rfl _ _ 29 rfl w.heap.size 45 i0 (.int .u64 0) 1 8 Try.underlying29 hi hz0 hz1 hz2 rfl (by decide) _ _ _ rfl (hm.1.alloc _) ⟨wr.heap.size, 0, none⟩ 1 1 [_] rfl rfl (cell_one_new _ _ _) ?c2 ?c3 ?c4 ?c5 ?_))
      case c2 => intro u hu; simp at hu; subst hu; rfl
      case c3 => unfold maxLen; omega
      case c4 => omega
      case c5 => simp; omega
      intro v' w1 hown' hgrow _
      have HM := Lib.hid (hm.app (y := zigZ z) hown' hgrow rfl)
      clear hown' hgrow hm
      go_wp2
      go_roundw
      case rel =>
        refine ⟨k + 1, by omega, by go_num, ?_⟩
        rw [HT.out, List.map_append, ← HX.out]
        exact HM.out
      case measure => simp [intOf]; omega
    · have hX : (zs.take k).map zigZ = zs.map zigZ := by rw [List.take_of_length_le (by rw [HL.out]; omega)]
      rw [hX] at hm
      obtain ⟨A, cc, hv, hlc, hnn⟩ := hm.slice
      have hlen : (zs.map zigZ).length = n := by rw [List.length_map, HL.out]
      have HM := Lib.hid hm.2
      have HC := rput_any wr.heap.size A cc (zs.map zigZ) wr (by rw [List.length_map, HL.out]; omega) (zigs_range HZ.out) (Nat.le_refl _) hnn
      have hsz := hm.2.size
      rw [hlen] at hv HC
      subst hv
      clear hm hnn hX hlen hlc
      go_wp2_with (go_at_call 26; refine HC.mono ?_; rintro e w2 ⟨v, rfl, h1, h2⟩; have HR : Hid (Made w w2 (puts (zs.map zigZ)) v) := made_later h1 h2 HM.out; clear h1 h2)
      go_ret
      exact ⟨v, rfl, HR.out⟩

set_option maxHeartbeats 800000 in
theorem rfield_any (B : Nat) (a : Option Addr) (n c : Nat) (z : List Int) (w : World) (hn1 : n ≤ 1000000) (hz : z.length = n) (hB : B ≤ w.heap.size) (hn : Nums .u8 w B a z) :
    Calls Try.prog 28 #[.slice a n c] w fun e w' => ∃ v, e = .returned v ∧ Made w w' (puts [(n : Int)] ++ z) v := by
  obtain ⟨i0, hi, hz0, hz1, hz2⟩ := info_parts byteInfo
  have hlen := puts_length [(n : Int)] (by simp; omega)
  have hll : (puts [(n : Int)]).length ≤ 10 := by simpa using hlen
  have HP := rput_any (w.heap.size + 1) (some ⟨w.heap.size, 0, none⟩) 1 [(n : Int)] (w.alloc (.cells #[.int .u64 n] 45)) (by simp) (by simp; omega) (by simp) (Nums.new .u64 w 45 [(n : Int)] _ rfl)
  have HN := Lib.hid hn
  have HZ := Lib.hid hz
  clear hn hz hlen
  go_enter Try.func28, Try.ntmps28
  go_wp2_with (first
    | (go_at_call 26; refine HP.mono ?_; rintro e w1 ⟨v, rfl, h1, h2⟩; have hm : MadeK 5 .u8 w w1 (puts [(n : Int)]) v := made_later h1 h2 ((Below.refl _ w).alloc (Nat.le_refl _) _); clear h1 h2)
    | (at_builtin; refine wpList_append_any rfl _ _ 25 rfl w.heap.size 5 i0 (.int .u8 0) 1 Try.underlying25 hi hz0 hz1 hz2 rfl .u8 (puts [(n : Int)]) z _ rfl hm.1 a n c B rfl HZ.out (HN.out.below (hm.2.mono hB)) ?c1 ?c2 hm.2.size ?_))
  case c1 => unfold maxLen; omega
  case c2 => omega
  intro v' w2 hown hg
  have HM := Lib.hid (hm.more hown hg)
  clear hown hg hm
  go_wp2
  go_ret
  exact ⟨v', rfl, HM.out⟩

/-- what Raw answers -/
def RRaw (A : Option Addr) (room : Int) (L : List Int) (full : Bool) (zs : List Int) (w : World) (e : Ending) (w' : World) : Prop :=
  ∃ A' c', e = .returned (.tuple #[.agg #[.slice A' (bytesNext room L full zs).length c', .int .i64 room, .bool (fullNext room L full zs.length)], .int .i64 (codeOf (fullNext room L full zs.length))]) ∧
    Nums .u8 w' w'.heap.size A' (bytesNext room L full zs) ∧ Below w.heap.size w w' ∧ ((A' = A ∧ bytesNext room L full zs = L) ∨ ∀ q, blockOf A' q → w.heap.size ≤ q)
theorem RRaw.fullOf {A : Option Addr} {room : Int} {L zs : List Int} {full : Bool} {w w' : World} {c : Nat} (hf : fullNext room L full zs.length = true) (hb : Below w.heap.size w w') (hn : Nums .u8 w w.heap.size A L) :
    RRaw A room L full zs w (.returned (.tuple #[.agg #[.slice A L.length c, .int .i64 room, .bool true], .int .i64 2])) w' := by
  unfold RRaw bytesNext
  rw [hf]
  exact ⟨A, c, rfl, (hn.below hb).mono hb.size, hb, .inl ⟨rfl, rfl⟩⟩
theorem RRaw.roomOf {A A' : Option Addr} {room : Int} {L zs : List Int} {full : Bool} {w w' : World} {c : Nat} (hf : fullNext room L full zs.length = false) (hm : MadeK 5 .u8 w w' (L ++ zs) (.slice A' (L ++ zs).length c)) :
    RRaw A room L full zs w (.returned (.tuple #[.agg #[.slice A' (L ++ zs).length c, .int .i64 room, .bool false], .int .i64 0])) w' := by
  unfold RRaw bytesNext
  rw [hf]
  obtain ⟨A2, c2, he, _, hn⟩ := hm.slice
  injection he with he; subst he
  exact ⟨A', c, rfl, hn, hm.2, .inr fun q hq => hm.ge hq⟩
theorem raw_facts {wb w2 : World} {s n cap : Nat} {A : Option Addr} {room : Int} (h : Below wb.heap.size wb w2) (hs : wb.heap.size = s + 1 + 1) (h0 : wb.heap[s]? = some (.cells #[.slice A n cap, .int .i64 room, .bool false] 27 (0, 0)))
    (h1 : wb.heap[s + 1]? = some (.cells #[.slice none 0 0, .int .i64 0, .bool false] 27 (0, 0))) :
    w2.cell? ⟨s, 0, none⟩ = some (.slice A n cap) ∧ w2.cell? ⟨s, 1, none⟩ = some (.int .i64 room) ∧ w2.cell? ⟨s, 2, none⟩ = some (.bool false) ∧ w2.frozen? ⟨s, 0, none⟩ = false ∧
    w2.cell? ⟨s + 1, 0, none⟩ = some (.slice none 0 0) ∧ w2.cell? ⟨s + 1, 1, none⟩ = some (.int .i64 0) ∧ w2.cell? ⟨s + 1, 2, none⟩ = some (.bool false) ∧ w2.frozen? ⟨s + 1, 0, none⟩ = false ∧ w2.frozen? ⟨s + 1, 1, none⟩ = false ∧ w2.frozen? ⟨s + 1, 2, none⟩ = false := by
  have e0 := (h.block s (by omega)).trans h0
  have e1 := (h.block (s + 1) (by omega)).trans h1
  refine ⟨?_, ?_, ?_, frozen_of e0, ?_, ?_, ?_, frozen_of e1, frozen_of e1, frozen_of e1⟩ <;> simp [World.cell?, e0, e1]
set_option maxHeartbeats 1000000 in
theorem rraw_any (A a : Option Addr) (n cap m c : Nat) (room : Int) (L zs : List Int) (full : Bool) (w : World) (h0 : 0 ≤ room) (h1 : room ≤ 9223372036854775807) (hl : L.length = n) (hz : zs.length = m) (hb : n + m ≤ 1000000000) (hL : Nums .u8 w w.heap.size A L) (hZ : Nums .u8 w w.heap.size a zs) :
    Calls Try.prog 9 #[.agg #[.slice A n cap, .int .i64 room, .bool full], .slice a m c] w fun e w' => RRaw A room L full zs w e w' := by
  obtain ⟨i0, hi, hz0, hz1, hz2⟩ := info_parts byteInfo
  cases full with
  | true =>
    have HF : Hid (∀ w', Below w.heap.size w w' → RRaw A room L true zs w (.returned (.tuple #[.agg #[.slice A n cap, .int .i64 room, .bool true], .int .i64 2])) w') := fun w' h => by
      rw [← hl]; exact RRaw.fullOf rfl h hL
    clear hL hZ hl hz
    go_enter Try.func9, Try.ntmps9
    go_wp2
    go_returns
    exact HF.out _ (((Below.refl _ w).alloc (Nat.le_refl _) _).alloc (by simp) _)
  | false =>
    by_cases hno : (n : Int) + m ≤ room
    · have hnf : fullNext room L false zs.length = false := fullNext_no (by rw [hl, hz]; exact hno)
      have HF : Hid (∀ A' c' w', MadeK 5 .u8 w w' (L ++ zs) (.slice A' (L ++ zs).length c') → RRaw A room L false zs w (.returned (.tuple #[.agg #[.slice A' (L.length + zs.length) c', .int .i64 room, .bool false], .int .i64 0])) w') := fun A' c' w' h => by rw [← List.length_append]; exact RRaw.roomOf hnf h
      obtain ⟨wb, hwb⟩ : ∃ wb, wb = (w.alloc (.cells #[.slice A n cap, .int .i64 room, .bool false] 27)).alloc (.cells #[.slice none 0 0, .int .i64 0, .bool false] 27) := ⟨_, rfl⟩
      have hbb : Below w.heap.size w wb := by rw [hwb]; exact ((Below.refl _ w).alloc (Nat.le_refl _) _).alloc (by simp) _
      have hsb : wb.heap.size = w.heap.size + 1 + 1 := by rw [hwb]; simp
      have h0b : wb.heap[w.heap.size]? = some (.cells #[.slice A n cap, .int .i64 room, .bool false] 27 (0, 0)) := by
        rw [hwb, Below.heap_alloc _ _ _ (by simp)]; exact heap_alloc_new w _
      have h1b : wb.heap[w.heap.size + 1]? = some (.cells #[.slice none 0 0, .int .i64 0, .bool false] 27 (0, 0)) := by
        rw [hwb]
        have := heap_alloc_new (w.alloc (.cells #[.slice A n cap, .int .i64 room, .bool false] 27)) (.cells #[.slice none 0 0, .int .i64 0, .bool false] 27)
        simpa using this
      have hLit := MadeK.lit' (w := wb) (w1 := wb) 5 .u8 hsb (Below.refl _ _)
      have hL3 := (hL.below hbb).below ((Below.refl _ wb).alloc (B := w.heap.size) hbb.size (.cells #[] 5))
      have HZ := Lib.hid ((hZ.below hbb).mono (B' := wb.heap.size) hbb.size)
      rw [hwb] at hLit hL3
      have HLit := Lib.hid hLit
      have HL3 := Lib.hid hL3
      have HBB := Lib.hid hbb
      have HSB := Lib.hid hsb
      have H0B := Lib.hid h0b
      have H1B := Lib.hid h1b
      have HWB := Lib.hid hwb
      have HN := Lib.hid hl
      have HM := Lib.hid hz
      clear hL hZ hnf hl hz hbb hsb h0b h1b hwb hLit hL3
      go_enter Try.func9, Try.ntmps9
      go_wp2_with (first
        | (at_builtin; refine wpList_append_any rfl (.tmp 21) (.tmp 23) 25 rfl _ 5 i0 (.int .u8 0) 1 Try.underlying25 hi hz0 hz1 hz2 rfl .u8 [] L _ rfl HLit.out.1 A n cap _ rfl HN.out HL3.out ?c1 ?c2 HLit.out.2.size ?_; rotate_left 2; intro v1 w1 hown hg; have HM1 : Hid (MadeK 5 .u8 wb w1 L v1) := (by have h := HLit.out.more hown hg; rwa [← HWB.out, List.nil_append] at h); clear hown hg HLit HL3)
        | (at_builtin; refine wpList_append_any rfl (.tmp 24) (.tmp 25) 25 rfl wb.heap.size 5 i0 (.int .u8 0) 1 Try.underlying25 hi hz0 hz1 hz2 rfl .u8 L zs _ rfl HM1.out.1 a m c wb.heap.size rfl HM.out (HZ.out.below HM1.out.2) ?d1 ?d2 HM1.out.2.size ?_; rotate_left 2; intro v2 w2 hown hg; have hm2 := HM1.out.more hown hg; obtain ⟨A', c', rfl, _, _⟩ := hm2.slice; obtain ⟨c0, c1, c2, f0, c3, c4, c5, f3, f4, f5⟩ := raw_facts hm2.2 HSB.out H0B.out H1B.out; have HM2 := Lib.hid hm2; clear hown hg hm2))
      · refine bodyPost_ret (by simp [results, Try.results9, go_sem, c3, c4, c5]; try rfl) rfl ?_
        have hg : ∀ g, (Value.slice A' (L ++ zs).length c').ownBlock = some g → w.heap.size + 1 + 1 ≤ g := fun g h => by
          have := (HM2.out.own_ge h).1
          rw [HSB.out] at this
          exact this
        have hm3 := (((((HM2.out.since HBB.out).store (q := ⟨w.heap.size, 0, none⟩) (fun g h (e : g = w.heap.size) => by have := hg g h; omega) (Nat.le_refl _) (.slice A' (L.length + zs.length) c')).store (q := ⟨w.heap.size + 1, 0, none⟩) (fun g h (e : g = w.heap.size + 1) => by have := hg g h; omega) (Nat.le_succ _) (.slice A' (L.length + zs.length) c')).store (q := ⟨w.heap.size + 1, 1, none⟩) (fun g h (e : g = w.heap.size + 1) => by have := hg g h; omega) (Nat.le_succ _) (.int .i64 room)).store (q := ⟨w.heap.size + 1, 2, none⟩) (fun g h (e : g = w.heap.size + 1) => by have := hg g h; omega) (Nat.le_succ _) (.bool false))
        exact HF.out _ _ _ hm3
      all_goals first
        | (unfold maxLen; omega)
        | (have h1 := HN.out; have h2 := HM.out; (try simp only [List.length_nil]); (try unfold maxLen); omega)
    · have hnf : fullNext room L false zs.length = true := fullNext_yes (by rw [hl, hz]; omega)
      have HF : Hid (∀ w', Below w.heap.size w w' → RRaw A room L false zs w (.returned (.tuple #[.agg #[.slice A n cap, .int .i64 room, .bool true], .int .i64 2])) w') := fun w' h => by
        rw [← hl]; exact RRaw.fullOf hnf h hL
      have hgt : room < (n : Int) + m := by omega
      clear hL hZ hnf hl hz hno
      go_enter Try.func9, Try.ntmps9
      go_wp2
      go_returns
      exact HF.out _ (((Below.refl _ w).alloc (Nat.le_refl _) _).alloc (by simp) _)
end Go.Proofs.Ytajeefnogdledaa
