/- B48: of the texts Keep1, Cal4. -/
import Derived.Test.YtpmmjkiclngpmaaGreatDoorB01
import Derived.Deep.RegionWith
import Derived.Test.YtpmmjkiclngpmaaGreatDoorB47
import Derived.Test.YtpmmjkiclngpmaaGreatDoorB45
set_option maxRecDepth 100000
set_option linter.unusedSimpArgs false
set_option linter.unusedVariables false
/- The contracts of pick, text and (*dice).next, of the statements' own package symcutkeep. -/
namespace Go.Proofs.YtpmmjkiclngpmaaGreatDoor
open Go.RowKit

/-- Which of n things the raw number c speaks of. -/
def pickB (c n : Int) : Int := (if c < 0 then -(c + 1) else c) % n
theorem pickB_bd (c n : Int) (h : 0 < n) : 0 ≤ pickB c n ∧ pickB c n < n := ⟨Int.emod_nonneg _ (by omega), Int.emod_lt_of_pos _ h⟩
set_option maxHeartbeats 400000 in
theorem pick_any (c n : Int) (w : World) (h1 : -9223372036854775808 ≤ c) (h2 : c ≤ 9223372036854775807) (hn : 0 < n) (hn2 : n ≤ 1000000) :
    Calls Tryz.prog 17 #[.int .i64 c, .int .i64 n] w fun e w' => e = .returned (.int .i64 (pickB c n)) ∧ w' = w := by
  by_cases hc : c < 0
  · have HP := hide (show -((c + 1).tmod n) = pickB c n by
      rw [← Int.neg_tmod, Int.tmod_eq_emod_of_nonneg (by omega)]; simp [pickB, hc])
    go_enter Tryz.func17, Tryz.ntmps17
    go_wp2
    go_ret
    exact ⟨ret_int HP.out, rfl⟩
  · have HP := hide (show c % n = pickB c n by simp [pickB, hc])
    go_enter Tryz.func17, Tryz.ntmps17
    go_wp2
    go_ret
    exact ⟨ret_int HP.out, rfl⟩

/-- The last digit of a number, as a byte. -/
def digitB (n : Nat) : UInt8 := UInt8.ofNat (48 + n % 10)
/-- A number from 0 on in decimals (to so many digits). -/
def textN : Nat → Nat → List UInt8
  | 0, _ => []
  | f + 1, n => if n < 10 then [digitB n] else textN f (n / 10) ++ [digitB n]
def textB (n : Nat) : List UInt8 := textN (n + 1) n
theorem textN_enough (f g n : Nat) (hf : n < f) (hg : n < g) : textN f n = textN g n := by
  induction f generalizing g n with
  | zero => omega
  | succ f ih =>
    cases g with
    | zero => omega
    | succ g =>
      simp only [textN]
      split
      · rfl
      · rw [ih g (n / 10) (by omega) (by omega)]
theorem textB_small (n : Nat) (h : n < 10) : textB n = [digitB n] := by simp [textB, textN, h]
theorem textB_big (n : Nat) (h : ¬ n < 10) : textB n = textB (n / 10) ++ [digitB n] := by
  rw [textB, textN, if_neg h, textB, textN_enough n (n / 10 + 1) (n / 10) (by omega) (by omega)]
theorem textB_len (n : Nat) : (textB n).length ≤ n + 1 := by
  have : ∀ f n, (textN f n).length ≤ f := by
    intro f
    induction f with
    | zero => intro n; simp [textN]
    | succ f ih =>
      intro n
      simp only [textN]
      split
      · simp
      · have := ih (n / 10); simp; omega
  exact this (n + 1) n

theorem one_digit (n : Nat) (w : World) : (convert 115 9 (.slice (some ⟨w.heap.size, 0, none⟩) 1 1)).run Tryz.prog (w.alloc (.cells #[.int .u8 (48 + (n : Int) % 10)] 5)) =
    .ok (.string ⟨[digitB n].toArray⟩) (w.alloc (.cells #[.int .u8 (48 + (n : Int) % 10)] 5)) := by
  refine run_convert_bytes_back (P := Tryz.prog) _ 115 9 5 ⟨w.heap.size, 0, none⟩ 1 [digitB n] Tryz.underlying115 Tryz.underlying5 Tryz.underlying9 ?_
  intro j hj
  have : j = 0 := by simp at hj; omega
  subst this
  have e : ((digitB n).toNat : Int) = 48 + (n : Int) % 10 := by
    have : (digitB n).toNat = 48 + n % 10 := by simp [digitB]; omega
    omega
  simp only [List.getElem_cons_zero, e]
  exact cell_block (block_new w _) 0
theorem app_lists (x y : List UInt8) : (ByteArray.mk x.toArray) ++ (ByteArray.mk y.toArray) = ByteArray.mk (x ++ y).toArray := by
  rw [ByteArray.mk_append_mk]
theorem ret_strK {a b : ByteArray} (h : a = b) : Ending.returned (.string a) = .returned (.string b) := by rw [h]
set_option maxHeartbeats 400000 in
theorem text_any (n : Nat) (w : World) (hn : n ≤ 1000000) :
    Calls Tryz.prog 29 #[.int .i64 n] w fun e w' => e = .returned (.string ⟨(textB n).toArray⟩) ∧ Below w.heap.size w w' := by
  induction n using Nat.strongRecOn generalizing w with
  | _ n ih =>
    have IH := hide ih
    clear ih
    have hcv := one_digit n w
    by_cases h10 : n < 10
    · have HT := hide (textB_small n h10)
      go_enter Tryz.func29, Tryz.ntmps29
      go_wp2
      go_ret
      exact ⟨by rw [HT.out]; rfl, (Below.refl _ _).alloc (Nat.le_refl _) _⟩
    · have HT := hide (textB_big n h10)
      have hlen := textB_len (n / 10)
      go_enter Tryz.func29, Tryz.ntmps29
      go_wp2_with fail
      rw [show (n : Int) / 10 = ((n / 10 : Nat) : Int) by omega]
      refine (IH.out (n / 10) (by omega) _ (by omega)).mono ?_
      rintro e w1 ⟨rfl, hb⟩
      have HB := hide hb
      clear hb hcv
      generalize textB (n / 10) = t at *
      go_wp2
      go_ret
      exact ⟨by rw [HT.out]; exact ret_strK (app_lists t [digitB n]), ((Below.refl _ _).alloc (Nat.le_refl _) _).trans (HB.out.mono (by simp))⟩

/-- Where the dice lie: their block, the numbers' row. -/
structure Dp where
  xb : Nat
  ao : Option Addr
  b : Nat
  off : Nat
  cap : Nat
  zs : List Int
/-- In w the dice have taken so many numbers. -/
structure Dc (D : Dp) (i : Nat) (w : World) : Prop where
  blk : w.heap[D.xb]? = some (.cells #[.slice D.ao D.zs.length D.cap, .int .i64 i] 30 (0, 0))
  cells : ∀ j, (h : j < D.zs.length) → w.cell? ⟨D.b, D.off + j, none⟩ = some (.int .i64 D.zs[j])
  addr : D.ao = some ⟨D.b, D.off, none⟩ ∨ D.zs = []
  ne : D.b ≠ D.xb
  old : D.b < D.xb
  wf : ∀ z ∈ D.zs, -9223372036854775808 ≤ z ∧ z ≤ 9223372036854775807
  le : i ≤ D.zs.length
  len : D.zs.length ≤ 140737488355328
def nextB (zs : List Int) (i : Nat) (n : Int) : Int × Nat := match zs[i]? with | none => (0, i) | some z => (pickB z n, i + 1)
theorem Dc.but {D : Dp} {i i' : Nat} {w w' : World} (h : Dc D i w) (hb : But D.xb w w') (hk : w'.heap[D.xb]? = some (.cells #[.slice D.ao D.zs.length D.cap, .int .i64 i'] 30 (0, 0))) (hi : i' ≤ D.zs.length) : Dc D i' w' :=
  ⟨hk, fun j hj => (hb.cell (by have := lt_of_some h.blk; have := h.old; omega) h.ne _).trans (h.cells j hj), h.addr, h.ne, h.old, h.wf, hi, h.len⟩
theorem Dc.below {D : Dp} {i : Nat} {w w' : World} (h : Dc D i w) (hb : Below w.heap.size w w') : Dc D i w' :=
  h.but (But.of_below hb) ((hb.block _ (lt_of_some h.blk)).trans h.blk) h.le

theorem next_end {D : Dp} {i : Nat} {w : World} (h : Dc D i w) (hi : i < D.zs.length) :
    But D.xb w (w.setCell ⟨D.xb, 1, none⟩ (.int .i64 ((i : Int) + 1))).drew.drew ∧ Dc D (i + 1) (w.setCell ⟨D.xb, 1, none⟩ (.int .i64 ((i : Int) + 1))).drew.drew := by
  have hb : But D.xb w (w.setCell ⟨D.xb, 1, none⟩ (.int .i64 ((i : Int) + 1))).drew.drew := ((But.refl _ _).setCell (p := ⟨D.xb, 1, none⟩) (Or.inl rfl) _).drew.drew
  refine ⟨hb, h.but hb ?_ hi⟩
  exact (block_setCell h.blk 1 _)
set_option maxHeartbeats 800000 in
theorem next_any (D : Dp) (i : Nat) (w : World) (hD : Dc D i w) (n : Int) (hn : 0 < n) (hn2 : n ≤ 1000000) :
    Calls Tryz.prog 22 #[.pointer (some ⟨D.xb, 0, none⟩), .int .i64 n] w fun e w' => e = .returned (.int .i64 (nextB D.zs i n).1) ∧ But D.xb w w' ∧ Dc D (nextB D.zs i n).2 w' := by
  have h1 := lt_of_some hD.blk
  have hlen := hD.len
  have hle := hD.le
  have f0 := cell_block hD.blk 0
  have f1 := cell_block hD.blk 1
  have ff := free_block hD.blk
  simp at f0 f1
  by_cases hlt : i < D.zs.length
  · have hc := hD.cells i hlt
    have hw := hD.wf _ (List.getElem_mem hlt)
    have HB := hide (show nextB D.zs i n = (pickB D.zs[i] n, i + 1) by simp [nextB, List.getElem?_eq_getElem hlt])
    have ha : D.ao = some ⟨D.b, D.off, none⟩ := by
      rcases hD.addr with h | h
      · exact h
      · rw [h] at hlt; simp at hlt
    have HDc := hide hD
    rw [ha] at f0
    have HA := hide ha
    clear hD ha
    generalize D.zs[i] = z at *
    go_enter Tryz.func22, Tryz.ntmps22
    go_wp2
    go_region
    all_goals go_wp2
    go_region_with (go_at_call 17; refine (pick_any _ _ _ hw.1 hw.2 hn hn2).mono ?_; rintro e w' ⟨rfl, rfl⟩)
    all_goals
      go_wp2
      go_ret
      rw [HB.out]
      exact ⟨rfl, next_end HDc.out hlt⟩
  · have HB := hide (show nextB D.zs i n = (0, i) by simp [nextB, List.getElem?_eq_none (Nat.le_of_not_lt hlt)])
    have HDc := hide hD
    clear hD
    go_enter Tryz.func22, Tryz.ntmps22
    go_wp2
    go_region
    all_goals
      go_wp2
      go_ret
      rw [HB.out]
      exact ⟨rfl, (But.refl _ _).drew, HDc.out.below ((Below.refl _ _).drew)⟩
end Go.Proofs.YtpmmjkiclngpmaaGreatDoor

/- The law Called. -/
namespace Go.Proofs.YtpmmjkiclngpmaaGreatDoor
open Go.RowKit

def calS6 : Sto := ⟨[⟨[97], calA, none⟩, ⟨[109], [], some ⟨[], [], []⟩⟩], [[109]], some []⟩
theorem cal_s6 : setS begS5 [97] calA = (0, calS6) := by
  have h1 : isNameT [97] = true := by kernel_rfl
  have h2 : ¬ 600 < calA.length := by decide
  unfold setS
  rw [if_neg (by rw [h1]; simp), if_neg (by simp [begS5, h2])]
  rfl
theorem cal_s7 : setS calS6 [109] calM = (0, calS) := by
  have h1 : isNameT [109] = true := by kernel_rfl
  have h2 : ¬ 600 < calM.length := by decide
  unfold setS
  rw [if_neg (by rw [h1]; simp), if_neg (by simp [calS6, h2])]
  rfl
theorem cal_m6 : StM calS6 := by have := beg_m5.set [97] calA; rw [cal_s6] at this; exact this
theorem cal_m7 : StM calS := by have := cal_m6.set [109] calM; rw [cal_s7] at this; exact this
theorem cal_small : ∀ m ∈ calS.L, m.name.length ≤ 8 ∧ m.now.length ≤ 600 := by
  intro m hm
  rcases List.mem_cons.1 hm with rfl | hm
  · exact ⟨by decide, by show calA.length ≤ 600; decide⟩
  · rcases List.mem_cons.1 hm with rfl | hm
    · exact ⟨by decide, by show calM.length ≤ 600; decide⟩
    · cases hm
/-- A slice that was built of these numbers. -/
theorem ints1 (w : World) (a : Int) : (w.alloc (.cells #[.int .i64 a] 3)).ownsRow 0 3 1 (.slice (some ⟨w.heap.size, 0, none⟩) 1 1) [a].length (intCs [a]) :=
  ⟨rfl, Or.inr ⟨w.heap.size, 1, #[.int .i64 a], rfl, Nat.zero_le _, block_new _ _, Nat.le_refl 1, by decide, rfl, rfl⟩⟩
theorem ints2 (w : World) (a b : Int) : (w.alloc (.cells #[.int .i64 a, .int .i64 b] 3)).ownsRow 0 3 1 (.slice (some ⟨w.heap.size, 0, none⟩) 2 2) [a, b].length (intCs [a, b]) :=
  ⟨rfl, Or.inr ⟨w.heap.size, 2, #[.int .i64 a, .int .i64 b], rfl, Nat.zero_le _, block_new _ _, Nat.le_refl 2, by decide, rfl, rfl⟩⟩
/-- A run of a store that has been built. -/
theorem Begun.run {w w1 : World} {p : SP} {s : Sto} (h : Begun w p s w1) (hok : ∀ fs, s.img = some fs → ImOk fs) (m n : Nm) (av : Value) (l : List Int) (ha : w1.ownsRow 0 3 1 av l.length (intCs l)) (hll : l.length ≤ 100000) (fuel : Int) {R : Int × Nat} (hR : RunIs s m n l fuel R) :
    Calls Tryz.prog 19 #[.pointer (some ⟨p.sb, 0, none⟩), .string ⟨m.toArray⟩, .string ⟨n.toArray⟩, av, .int .i64 fuel] w1 fun e w' => e = .returned (.tuple #[.int .i64 R.1, .int .i64 (R.2 : Int)]) ∧ Begun w p s w' :=
  (run_any h.st hok m n av l ha hll fuel R hR).mono fun e w' ⟨h1, h2⟩ => ⟨h1, h.below h2⟩
theorem pick_nat (c n : Int) (h : 0 < n) : ∃ k : Nat, pickB c n = (k : Int) ∧ (k : Int) < n := ⟨(pickB c n).toNat, by have := pickB_bd c n h; omega, by have := pickB_bd c n h; omega⟩
theorem cal_imok : ∀ fs, (buildS calS).2.img = some fs → ImOk fs := fun fs h => by rw [cal_img] at h; cases h; exact cal_ok
theorem tri_int (k : Nat) : ((k : Int) * ((k : Int) + 1)).tdiv 2 = ((tri k : Nat) : Int) := by
  have h : ((k : Int) * ((k : Int) + 1)) = ((k * (k + 1) : Nat) : Int) := by push_cast; rfl
  rw [h, Int.tdiv_eq_ediv_of_nonneg (by omega)]
  unfold tri
  omega
theorem tri_bd (k : Nat) (hk : k < 90) : 0 ≤ (k : Int) * ((k : Int) + 1) ∧ (k : Int) * ((k : Int) + 1) ≤ 8190 := by
  have h : ((k : Int) * ((k : Int) + 1)) = ((k * (k + 1) : Nat) : Int) := by push_cast; rfl
  have : k * (k + 1) ≤ 90 * 91 := Nat.mul_le_mul (by omega) (by omega)
  rw [h]; omega
theorem Begun.alloc {w w1 : World} {p : SP} {s : Sto} (h : Begun w p s w1) (o : Obj) : Begun w p s (w1.alloc o) := h.below ((Below.refl _ _).alloc (Nat.le_refl _) _)
theorem by_1 : bin2 12 (-7) 2 = -3 := by kernel_rfl
theorem by_2 : bin2 12 (-9223372036854775808) (-1) = -9223372036854775808 := by kernel_rfl
set_option maxHeartbeats 6400000 in
theorem called_zero (n fuel : Int) (w : World) (hn : -9223372036854775808 ≤ n ∧ n ≤ 9223372036854775807) (hf : -9223372036854775808 ≤ fuel ∧ fuel ≤ 9223372036854775807) (hk : pickB n 90 = 0) (hg : pickB fuel 200 = 0) :
    Calls Tryz.prog 9 #[.int .i64 n, .int .i64 fuel] w fun e w' => e = .returned (.bool true) ∧ Below w.heap.size w w' := by
  have HP1 := hide (pick_any n 90 · hn.1 hn.2 (by omega) (by omega))
  have HP2 := hide (pick_any fuel 200 · hf.1 hf.2 (by omega) (by omega))
  rw [hk] at HP1
  rw [hg] at HP2
  have HR1 := hide (cal_sum 0 0 (by omega) (by omega))
  rw [if_pos (by omega)] at HR1
  have HR2 := hide (cal_half 0 (by omega))
  rw [show tri 0 = 0 from rfl] at HR2
  have HR3 := hide (cal_deep 99 10000 (by omega) (by omega) (by omega))
  have HR4 := hide (cal_deep 100 10000 (by omega) (by omega) (by omega))
  have HR5 := hide (cal_deep 100 100 (by omega) (by omega) (by omega))
  have HR6 := hide (cal_by (-7) 2)
  have HR7 := hide (cal_by n 0)
  have HR8 := hide (cal_by (-9223372036854775808) (-1))
  have HR9 := hide (cal_range 1 1)
  rw [if_pos (by omega)] at HR3
  rw [if_neg (by omega), if_neg (by omega)] at HR4
  rw [if_neg (by omega), if_pos (by omega)] at HR5
  rw [if_neg (by omega), by_1] at HR6
  rw [if_pos rfl] at HR7
  rw [if_neg (by omega), by_2] at HR8
  clear hk hg
  go_enter Tryz.func9, Tryz.ntmps9
  go_wp2_with fail
  refine (began_any w).mono ?_
  rintro e w1 ⟨p, rfl, hb1⟩
  have HB1 := hide hb1
  clear hb1
  go_wp2_with fail
  refine (lset_any HB1.out.st [97] (by decide) calA (by decide)).mono ?_
  rw [cal_s6]
  rintro e w2 ⟨rfl, hb2, hs2⟩
  have HB2 := hide (HB1.out.step hb2 hs2 cal_m6)
  clear hb2 hs2
  go_wp2_with fail
  refine (lset_any HB2.out.st [109] (by decide) calM (by decide)).mono ?_
  rw [cal_s7]
  rintro e w3 ⟨rfl, hb3, hs3⟩
  have HB3 := hide (HB2.out.step hb3 hs3 cal_m7)
  clear hb3 hs3
  go_wp2_with fail
  refine (lclean_any HB3.out.st HB3.out.ex HB3.out.made).mono ?_
  rintro e w4 ⟨rfl, hb4, hs4⟩
  rw [show (decide ((buildS calS).1.length = 0)) = true by rw [cal_diag]; rfl]
  have HB4 := hide (HB3.out.step hb4 hs4 (cal_m7.build cal_small))
  clear hb4 hs4
  go_wp2_with fail
  refine (HP1.out _).mono ?_
  rintro e w5 ⟨rfl, rfl⟩
  go_wp2_with fail
  refine (HP2.out _).mono ?_
  rintro e w6 ⟨rfl, rfl⟩
  go_wp2_with fail
  refine ((HB4.out.alloc _).run cal_imok [97] [115, 117, 109] _ [((0 : Nat) : Int)] (ints1 _ _) (by simp) ((0 : Nat) : Int) HR1.out).mono ?_
  rintro e w7 ⟨rfl, hb7⟩
  have HB7 := hide hb7
  clear hb7
  go_wp2_with fail
  refine ((HB7.out.alloc _).run cal_imok [109] [104, 97, 108, 102] _ [((0 : Nat) : Int)] (ints1 _ _) (by simp) ((0 + 1 : Nat) : Int) HR2.out).mono ?_
  rintro e w8 ⟨rfl, hb8⟩
  have HB8 := hide hb8
  clear hb8
  go_wp2_with fail
  refine ((HB8.out.alloc _).run cal_imok [97] [100, 101, 101, 112] _ [((99 : Nat) : Int)] (ints1 _ _) (by simp) ((10000 : Nat) : Int) HR3.out).mono ?_
  rintro e w9 ⟨rfl, hb9⟩
  have HB9 := hide hb9
  clear hb9
  go_wp2_with fail
  refine ((HB9.out.alloc _).run cal_imok [97] [100, 101, 101, 112] _ [((100 : Nat) : Int)] (ints1 _ _) (by simp) ((10000 : Nat) : Int) HR4.out).mono ?_
  rintro e wa ⟨rfl, hba⟩
  have HBa := hide hba
  clear hba
  go_wp2_with fail
  refine ((HBa.out.alloc _).run cal_imok [97] [100, 101, 101, 112] _ [((100 : Nat) : Int)] (ints1 _ _) (by simp) ((100 : Nat) : Int) HR5.out).mono ?_
  rintro e wb ⟨rfl, hbb⟩
  have HBb := hide hbb
  clear hbb
  go_wp2_with fail
  refine ((HBb.out.alloc _).run cal_imok [97] [98, 121] _ [-7, 2] (ints2 _ _ _) (by simp) ((1 : Nat) : Int) HR6.out).mono ?_
  rintro e wc ⟨rfl, hbc⟩
  have HBc := hide hbc
  clear hbc
  go_wp2_with fail
  refine ((HBc.out.alloc _).run cal_imok [97] [98, 121] _ [n, 0] (ints2 _ _ _) (by simp) ((1 : Nat) : Int) HR7.out).mono ?_
  rintro e wd ⟨rfl, hbd⟩
  have HBd := hide hbd
  clear hbd
  go_wp2_with fail
  refine ((HBd.out.alloc _).run cal_imok [97] [98, 121] _ [-9223372036854775808, -1] (ints2 _ _ _) (by simp) ((1 : Nat) : Int) HR8.out).mono ?_
  rintro e we ⟨rfl, hbe⟩
  have HBe := hide hbe
  clear hbe
  go_wp2_with fail
  refine ((HBe.out.alloc _).run cal_imok [97] [98, 121] _ [1, 1] (ints2 _ _ _) (by simp) 10001 HR9.out).mono ?_
  rintro e wf ⟨rfl, hbf⟩
  have HBf := hide hbf
  clear hbf
  go_wp2
  go_ret
  exact ⟨rfl, HBf.out.bel⟩
set_option maxHeartbeats 6400000 in
theorem called_less (n fuel : Int) (w : World) (hn : -9223372036854775808 ≤ n ∧ n ≤ 9223372036854775807) (hf : -9223372036854775808 ≤ fuel ∧ fuel ≤ 9223372036854775807) (k g : Nat) (hk : pickB n 90 = (k : Int)) (hk9 : (k : Int) < 90) (hg : pickB fuel 200 = (g : Int)) (hg2 : (g : Int) < 200) (hgk : g < k + 1) (hk0 : 0 < k) :
    Calls Tryz.prog 9 #[.int .i64 n, .int .i64 fuel] w fun e w' => e = .returned (.bool true) ∧ Below w.heap.size w w' := by
  have HP1 := hide (pick_any n 90 · hn.1 hn.2 (by omega) (by omega))
  have HP2 := hide (pick_any fuel 200 · hf.1 hf.2 (by omega) (by omega))
  rw [hk] at HP1
  rw [hg] at HP2
  have hbd := tri_bd k (by omega)
  have htr := tri_int k
  have HR1 := hide (cal_sum k g (by omega) (by omega))
  rw [if_pos hgk] at HR1
  have hgk' : (g : Int) < (k : Int) + 1 := by omega
  have HR2 := hide (cal_half k (by omega))
  have HR3 := hide (cal_deep 99 10000 (by omega) (by omega) (by omega))
  have HR4 := hide (cal_deep 100 10000 (by omega) (by omega) (by omega))
  have HR5 := hide (cal_deep 100 100 (by omega) (by omega) (by omega))
  have HR6 := hide (cal_by (-7) 2)
  have HR7 := hide (cal_by n 0)
  have HR8 := hide (cal_by (-9223372036854775808) (-1))
  have HR9 := hide (cal_range 1 1)
  rw [if_pos (by omega)] at HR3
  rw [if_neg (by omega), if_neg (by omega)] at HR4
  rw [if_neg (by omega), if_pos (by omega)] at HR5
  rw [if_neg (by omega), by_1] at HR6
  rw [if_pos rfl] at HR7
  rw [if_neg (by omega), by_2] at HR8
  clear hk hg hgk
  have hwT : wrap64 ((tri k : Nat) : Int) = ((tri k : Nat) : Int) := by have := tri_le (show k ≤ 90 by omega); exact wrap_sm (by omega) (by omega)
  have hT0 : ¬ (0 : Int) = ((tri k : Nat) : Int) := by
    obtain ⟨q, rfl⟩ : ∃ q, k = q + 1 := ⟨k - 1, by omega⟩
    rw [tri_succ]; omega
  generalize tri k = T at *
  go_enter Tryz.func9, Tryz.ntmps9
  go_wp2_with fail
  refine (began_any w).mono ?_
  rintro e w1 ⟨p, rfl, hb1⟩
  have HB1 := hide hb1
  clear hb1
  go_wp2_with fail
  refine (lset_any HB1.out.st [97] (by decide) calA (by decide)).mono ?_
  rw [cal_s6]
  rintro e w2 ⟨rfl, hb2, hs2⟩
  have HB2 := hide (HB1.out.step hb2 hs2 cal_m6)
  clear hb2 hs2
  go_wp2_with fail
  refine (lset_any HB2.out.st [109] (by decide) calM (by decide)).mono ?_
  rw [cal_s7]
  rintro e w3 ⟨rfl, hb3, hs3⟩
  have HB3 := hide (HB2.out.step hb3 hs3 cal_m7)
  clear hb3 hs3
  go_wp2_with fail
  refine (lclean_any HB3.out.st HB3.out.ex HB3.out.made).mono ?_
  rintro e w4 ⟨rfl, hb4, hs4⟩
  rw [show (decide ((buildS calS).1.length = 0)) = true by rw [cal_diag]; rfl]
  have HB4 := hide (HB3.out.step hb4 hs4 (cal_m7.build cal_small))
  clear hb4 hs4
  go_wp2_with fail
  refine (HP1.out _).mono ?_
  rintro e w5 ⟨rfl, rfl⟩
  go_wp2_with fail
  refine (HP2.out _).mono ?_
  rintro e w6 ⟨rfl, rfl⟩
  go_wp2_with fail
  refine ((HB4.out.alloc _).run cal_imok [97] [115, 117, 109] _ [(k : Int)] (ints1 _ _) (by simp) g HR1.out).mono ?_
  rintro e w7 ⟨rfl, hb7⟩
  have HB7 := hide hb7
  clear hb7
  go_wp2_with fail
  refine ((HB7.out.alloc _).run cal_imok [109] [104, 97, 108, 102] _ [(k : Int)] (ints1 _ _) (by simp) ((k + 1 : Nat) : Int) HR2.out).mono ?_
  rintro e w8 ⟨rfl, hb8⟩
  have HB8 := hide hb8
  clear hb8
  go_wp2_with fail
  refine ((HB8.out.alloc _).run cal_imok [97] [100, 101, 101, 112] _ [((99 : Nat) : Int)] (ints1 _ _) (by simp) ((10000 : Nat) : Int) HR3.out).mono ?_
  rintro e w9 ⟨rfl, hb9⟩
  have HB9 := hide hb9
  clear hb9
  go_wp2_with fail
  refine ((HB9.out.alloc _).run cal_imok [97] [100, 101, 101, 112] _ [((100 : Nat) : Int)] (ints1 _ _) (by simp) ((10000 : Nat) : Int) HR4.out).mono ?_
  rintro e wa ⟨rfl, hba⟩
  have HBa := hide hba
  clear hba
  go_wp2_with fail
  refine ((HBa.out.alloc _).run cal_imok [97] [100, 101, 101, 112] _ [((100 : Nat) : Int)] (ints1 _ _) (by simp) ((100 : Nat) : Int) HR5.out).mono ?_
  rintro e wb ⟨rfl, hbb⟩
  have HBb := hide hbb
  clear hbb
  go_wp2_with fail
  refine ((HBb.out.alloc _).run cal_imok [97] [98, 121] _ [-7, 2] (ints2 _ _ _) (by simp) ((1 : Nat) : Int) HR6.out).mono ?_
  rintro e wc ⟨rfl, hbc⟩
  have HBc := hide hbc
  clear hbc
  go_wp2_with fail
  refine ((HBc.out.alloc _).run cal_imok [97] [98, 121] _ [n, 0] (ints2 _ _ _) (by simp) ((1 : Nat) : Int) HR7.out).mono ?_
  rintro e wd ⟨rfl, hbd⟩
  have HBd := hide hbd
  clear hbd
  go_wp2_with fail
  refine ((HBd.out.alloc _).run cal_imok [97] [98, 121] _ [-9223372036854775808, -1] (ints2 _ _ _) (by simp) ((1 : Nat) : Int) HR8.out).mono ?_
  rintro e we ⟨rfl, hbe⟩
  have HBe := hide hbe
  clear hbe
  go_wp2_with fail
  refine ((HBe.out.alloc _).run cal_imok [97] [98, 121] _ [1, 1] (ints2 _ _ _) (by simp) 10001 HR9.out).mono ?_
  rintro e wf ⟨rfl, hbf⟩
  have HBf := hide hbf
  clear hbf
  go_wp2
  go_ret
  exact ⟨rfl, HBf.out.bel⟩
set_option maxHeartbeats 6400000 in
theorem called_full (n fuel : Int) (w : World) (hn : -9223372036854775808 ≤ n ∧ n ≤ 9223372036854775807) (hf : -9223372036854775808 ≤ fuel ∧ fuel ≤ 9223372036854775807) (k g : Nat) (hk : pickB n 90 = (k : Int)) (hk9 : (k : Int) < 90) (hg : pickB fuel 200 = (g : Int)) (hg2 : (g : Int) < 200) (hgk : ¬ g < k + 1) :
    Calls Tryz.prog 9 #[.int .i64 n, .int .i64 fuel] w fun e w' => e = .returned (.bool true) ∧ Below w.heap.size w w' := by
  have HP1 := hide (pick_any n 90 · hn.1 hn.2 (by omega) (by omega))
  have HP2 := hide (pick_any fuel 200 · hf.1 hf.2 (by omega) (by omega))
  rw [hk] at HP1
  rw [hg] at HP2
  have hbd := tri_bd k (by omega)
  have htr := tri_int k
  have HR1 := hide (cal_sum k g (by omega) (by omega))
  rw [if_neg hgk] at HR1
  have hgk' : ¬ (g : Int) < (k : Int) + 1 := by omega
  have HR2 := hide (cal_half k (by omega))
  have HR3 := hide (cal_deep 99 10000 (by omega) (by omega) (by omega))
  have HR4 := hide (cal_deep 100 10000 (by omega) (by omega) (by omega))
  have HR5 := hide (cal_deep 100 100 (by omega) (by omega) (by omega))
  have HR6 := hide (cal_by (-7) 2)
  have HR7 := hide (cal_by n 0)
  have HR8 := hide (cal_by (-9223372036854775808) (-1))
  have HR9 := hide (cal_range 1 1)
  rw [if_pos (by omega)] at HR3
  rw [if_neg (by omega), if_neg (by omega)] at HR4
  rw [if_neg (by omega), if_pos (by omega)] at HR5
  rw [if_neg (by omega), by_1] at HR6
  rw [if_pos rfl] at HR7
  rw [if_neg (by omega), by_2] at HR8
  clear hk hg hgk
  have hwT : wrap64 ((tri k : Nat) : Int) = ((tri k : Nat) : Int) := by have := tri_le (show k ≤ 90 by omega); exact wrap_sm (by omega) (by omega)
  generalize tri k = T at *
  go_enter Tryz.func9, Tryz.ntmps9
  go_wp2_with fail
  refine (began_any w).mono ?_
  rintro e w1 ⟨p, rfl, hb1⟩
  have HB1 := hide hb1
  clear hb1
  go_wp2_with fail
  refine (lset_any HB1.out.st [97] (by decide) calA (by decide)).mono ?_
  rw [cal_s6]
  rintro e w2 ⟨rfl, hb2, hs2⟩
  have HB2 := hide (HB1.out.step hb2 hs2 cal_m6)
  clear hb2 hs2
  go_wp2_with fail
  refine (lset_any HB2.out.st [109] (by decide) calM (by decide)).mono ?_
  rw [cal_s7]
  rintro e w3 ⟨rfl, hb3, hs3⟩
  have HB3 := hide (HB2.out.step hb3 hs3 cal_m7)
  clear hb3 hs3
  go_wp2_with fail
  refine (lclean_any HB3.out.st HB3.out.ex HB3.out.made).mono ?_
  rintro e w4 ⟨rfl, hb4, hs4⟩
  rw [show (decide ((buildS calS).1.length = 0)) = true by rw [cal_diag]; rfl]
  have HB4 := hide (HB3.out.step hb4 hs4 (cal_m7.build cal_small))
  clear hb4 hs4
  go_wp2_with fail
  refine (HP1.out _).mono ?_
  rintro e w5 ⟨rfl, rfl⟩
  go_wp2_with fail
  refine (HP2.out _).mono ?_
  rintro e w6 ⟨rfl, rfl⟩
  go_wp2_with fail
  refine ((HB4.out.alloc _).run cal_imok [97] [115, 117, 109] _ [(k : Int)] (ints1 _ _) (by simp) g HR1.out).mono ?_
  rintro e w7 ⟨rfl, hb7⟩
  have HB7 := hide hb7
  clear hb7
  go_wp2_with fail
  refine ((HB7.out.alloc _).run cal_imok [109] [104, 97, 108, 102] _ [(k : Int)] (ints1 _ _) (by simp) ((k + 1 : Nat) : Int) HR2.out).mono ?_
  rintro e w8 ⟨rfl, hb8⟩
  have HB8 := hide hb8
  clear hb8
  go_wp2_with fail
  refine ((HB8.out.alloc _).run cal_imok [97] [100, 101, 101, 112] _ [((99 : Nat) : Int)] (ints1 _ _) (by simp) ((10000 : Nat) : Int) HR3.out).mono ?_
  rintro e w9 ⟨rfl, hb9⟩
  have HB9 := hide hb9
  clear hb9
  go_wp2_with fail
  refine ((HB9.out.alloc _).run cal_imok [97] [100, 101, 101, 112] _ [((100 : Nat) : Int)] (ints1 _ _) (by simp) ((10000 : Nat) : Int) HR4.out).mono ?_
  rintro e wa ⟨rfl, hba⟩
  have HBa := hide hba
  clear hba
  go_wp2_with fail
  refine ((HBa.out.alloc _).run cal_imok [97] [100, 101, 101, 112] _ [((100 : Nat) : Int)] (ints1 _ _) (by simp) ((100 : Nat) : Int) HR5.out).mono ?_
  rintro e wb ⟨rfl, hbb⟩
  have HBb := hide hbb
  clear hbb
  go_wp2_with fail
  refine ((HBb.out.alloc _).run cal_imok [97] [98, 121] _ [-7, 2] (ints2 _ _ _) (by simp) ((1 : Nat) : Int) HR6.out).mono ?_
  rintro e wc ⟨rfl, hbc⟩
  have HBc := hide hbc
  clear hbc
  go_wp2_with fail
  refine ((HBc.out.alloc _).run cal_imok [97] [98, 121] _ [n, 0] (ints2 _ _ _) (by simp) ((1 : Nat) : Int) HR7.out).mono ?_
  rintro e wd ⟨rfl, hbd⟩
  have HBd := hide hbd
  clear hbd
  go_wp2_with fail
  refine ((HBd.out.alloc _).run cal_imok [97] [98, 121] _ [-9223372036854775808, -1] (ints2 _ _ _) (by simp) ((1 : Nat) : Int) HR8.out).mono ?_
  rintro e we ⟨rfl, hbe⟩
  have HBe := hide hbe
  clear hbe
  go_wp2_with fail
  refine ((HBe.out.alloc _).run cal_imok [97] [98, 121] _ [1, 1] (ints2 _ _ _) (by simp) 10001 HR9.out).mono ?_
  rintro e wf ⟨rfl, hbf⟩
  have HBf := hide hbf
  clear hbf
  go_wp2
  go_ret
  exact ⟨rfl, HBf.out.bel⟩
theorem called_any (n fuel : Int) (w : World) (hn : -9223372036854775808 ≤ n ∧ n ≤ 9223372036854775807) (hf : -9223372036854775808 ≤ fuel ∧ fuel ≤ 9223372036854775807) :
    Calls Tryz.prog 9 #[.int .i64 n, .int .i64 fuel] w fun e w' => e = .returned (.bool true) ∧ Below w.heap.size w w' := by
  obtain ⟨k, hk, hk9⟩ := pick_nat n 90 (by omega)
  obtain ⟨g, hg, hg2⟩ := pick_nat fuel 200 (by omega)
  by_cases hgk : g < k + 1
  · rcases Nat.eq_zero_or_pos k with h0 | h0
    · subst h0
      have hg0 : g = 0 := by omega
      subst hg0
      exact called_zero n fuel w hn hf hk hg
    · exact called_less n fuel w hn hf k g hk hk9 hg hg2 hgk h0
  · exact called_full n fuel w hn hf k g hk hk9 hg hg2 hgk
end Go.Proofs.YtpmmjkiclngpmaaGreatDoor
