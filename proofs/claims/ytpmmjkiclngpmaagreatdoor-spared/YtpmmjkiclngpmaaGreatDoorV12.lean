/- YtpmmjkiclngpmaaGreatDoorV12 -/
import Derived.Test.YtpmmjkiclngpmaaGreatDoorB05
import Derived.Test.YtpmmjkiclngpmaaGreatDoorB06
import Derived.Deep.RegionHeld3
import Derived.Deep.DeepCutAuto
set_option maxRecDepth 100000
set_option linter.unusedSimpArgs false
set_option linter.unusedVariables false
set_option maxHeartbeats 12800000
namespace Go.Proofs.YtpmmjkiclngpmaaGreatDoor
open Go.RowKit
theorem argument_any (b : Bool) (w : World) : Calls Tryz.prog 48 #[.bool b] w fun e w' => e = .returned (.string ⟨(if b then [116,114,117,101] else [55] : List UInt8).toArray⟩) ∧ w' = w := by
  cases b
  · go_enter Tryz.func48,Tryz.ntmps48
    go_wp2
    go_ret
    exact ⟨rfl,rfl⟩
  · go_enter Tryz.func48,Tryz.ntmps48
    go_wp2
    go_ret
    exact ⟨rfl,rfl⟩
def sumN (u : Nat) (vs : Nat → Nat) : Nat → Nat
  | 0 => 0
  | j + 1 => if (u / 2 ^ j) % 2 = 1 then sumN u vs j + vs j else sumN u vs j
theorem sumN_le (u : Nat) (vs : Nat → Nat) (hv : ∀ i,i < 4 → vs i ≤ 1000) : ∀ j,j ≤ 4 → sumN u vs j ≤ 1000 * j
  | 0,_ => by simp [sumN]
  | j + 1,h => by
    have := sumN_le u vs hv j (by omega)
    have := hv j (by omega)
    unfold sumN
    split <;> omega
theorem bit_all : ∀ u : Nat,u < 16 → ∀ j : Nat,j < 4 → (bits BinOp.and IntKind.i64 ((u : Int) / 2 ^ j) 1 == 1) = ((u / 2 ^ j) % 2 == 1) := by decide +kernel
theorem bit_is {u j : Nat} (hu : u < 16) (hj : j < 4) : (bits BinOp.and IntKind.i64 ((u : Int) / 2 ^ j) 1 == 1) = ((u / 2 ^ j) % 2 == 1) := bit_all u hu j hj
abbrev vals4 (vs : Nat → Nat) : Array Value := #[.int .i64 (vs 0),.int .i64 (vs 1),.int .i64 (vs 2),.int .i64 (vs 3)]
abbrev bools4 (bs : Nat → Bool) : Array Value := #[.bool (bs 0),.bool (bs 1),.bool (bs 2),.bool (bs 3)]
theorem lt4 {i : Nat} (h : i < 4) : i = 0 ∨ i = 1 ∨ i = 2 ∨ i = 3 := by omega
theorem vals_at {vs : Nat → Nat} {w : World} {b : Nat} {t : TypeId} (h : w.heap[b]? = some (.cells (vals4 vs) t (0,0))) {j : Nat} (hj : j < 4) : w.cell? ⟨b,j,none⟩ = some (.int .i64 (vs j)) := by
  have a := cell_block h j
  rcases lt4 hj with rfl | rfl | rfl | rfl <;> exact a
theorem bools_at {bs : Nat → Bool} {w : World} {b : Nat} {t : TypeId} (h : w.heap[b]? = some (.cells (bools4 bs) t (0,0))) {j : Nat} (hj : j < 4) : w.cell? ⟨b,j,none⟩ = some (.bool (bs j)) := by
  have a := cell_block h j
  rcases lt4 hj with rfl | rfl | rfl | rfl <;> exact a
theorem total_any (u : Nat) (hu : u < 16) (vs : Nat → Nat) (hv : ∀ i,i < 4 → vs i ≤ 1000) (w : World) :
    Calls Tryz.prog 26 #[.int .i64 u,.agg (vals4 vs)] w fun e w' => e = .returned (.int .i64 (sumN u vs 4 : Nat)) ∧ Below w.heap.size w w' := by
  have HV := hide hv
  obtain ⟨W,hW⟩ : ∃ W,W = w.alloc (.cells (vals4 vs) 50) := ⟨_,rfl⟩
  have HB := hide (show Below w.heap.size w W by rw [hW]; exact (Below.refl _ _).alloc (Nat.le_refl _) _)
  have hblk : W.heap[w.heap.size]? = some (.cells (vals4 vs) 50 (0,0)) := by rw [hW]; exact block_new _ _
  have HBk := hide hblk
  have HW := hide hW
  clear hv hblk
  go_enter Tryz.func26,Tryz.ntmps26
  go_wp2
  rw [← HW.out]
  clear hW HW
  go_loopw [5,6] (fun n i wr => ∃ j : Nat,j ≤ 4 ∧ n = .int .i64 (sumN u vs j : Nat) ∧ i = .int .i64 j ∧ Hid (wr = W)) (fun _ i _ => 4 - (intOf i).toNat)
  case atStart => exact ⟨0,by omega,rfl,rfl,hide rfl⟩
  case round =>
    obtain ⟨j,hj,rfl,rfl,HE⟩ := hrel
    by_cases hlt : j < 4
    · have hj4 : (j : Int) < 4 := by omega
      have hj0 : (0 : Int) ≤ (j : Int) := by omega
      have HBr := hide (show wr.heap[w.heap.size]? = some (.cells (vals4 vs) 50 (0,0)) by rw [HE.out]; exact HBk.out)
      have hc := vals_at HBr.out hlt
      have hl := lt_of_some HBr.out
      have hs1 := sumN_le u vs HV.out j (by omega)
      have hv1 := HV.out j hlt
      by_cases hb : (u / 2 ^ j) % 2 = 1
      · have hbt : (bits BinOp.and IntKind.i64 ((u : Int) / 2 ^ j) 1 == 1) = true := by rw [bit_is hu hlt]; simpa using hb
        have HNx := hide (show sumN u vs (j + 1) = sumN u vs j + vs j by simp [sumN,hb])
        go_wp2
        go_roundw
        case rel => exact ⟨j + 1,by omega,by rw [HNx.out]; go_num,by go_num,HE⟩
        case measure => simp [intOf]; omega
      · have hbt : (bits BinOp.and IntKind.i64 ((u : Int) / 2 ^ j) 1 == 1) = false := by rw [bit_is hu hlt]; simpa using hb
        have HNx := hide (show sumN u vs (j + 1) = sumN u vs j by simp [sumN,hb])
        go_wp2
        go_roundw
        case rel => exact ⟨j + 1,by omega,by rw [HNx.out],by go_num,HE⟩
        case measure => simp [intOf]; omega
    · have hj4 : j = 4 := by omega
      subst hj4
      go_wp2
      go_ret
      exact ⟨rfl,by rw [HE.out]; exact HB.out⟩
end Go.Proofs.YtpmmjkiclngpmaaGreatDoor
namespace Go.Proofs.YtpmmjkiclngpmaaGreatDoor
open Go.RowKit
theorem undrewB {w w' : World} (h : Below w.drew.heap.size w.drew w') : Below w.heap.size w w' := ((Below.refl w.heap.size w).drew).trans h
theorem cat8 (a b c d e f g h : List UInt8) : ((((((ByteArray.mk a.toArray ++ ByteArray.mk b.toArray) ++ ByteArray.mk c.toArray) ++ ByteArray.mk d.toArray) ++ ByteArray.mk e.toArray) ++ ByteArray.mk f.toArray) ++ ByteArray.mk g.toArray) ++ ByteArray.mk h.toArray = ByteArray.mk (a ++ b ++ c ++ d ++ e ++ f ++ g ++ h).toArray := by
  simp [ByteArray.mk_append_mk]
theorem cat6 (a b c d e f : List UInt8) : ((((ByteArray.mk a.toArray ++ ByteArray.mk b.toArray) ++ ByteArray.mk c.toArray) ++ ByteArray.mk d.toArray) ++ ByteArray.mk e.toArray) ++ ByteArray.mk f.toArray = ByteArray.mk (a ++ b ++ c ++ d ++ e ++ f).toArray := by
  simp [ByteArray.mk_append_mk]
def tyBB (b : Bool) : List UInt8 := if b then [98,111,111,108] else [105,110,116]
def libG (nf tf : Nat → List UInt8) (vs : Nat → Nat) (bs : Nat → Bool) : Nat → List UInt8
  | 0 => []
  | j + 1 => libG nf tf vs bs j ++ [112,117,98,32,102,110,32] ++ nf j ++ [40,120,58,32] ++ tyBB (bs j) ++ [41,58,32,105,110,116,32,61,32] ++ tf (vs j) ++ [59,10]
theorem libG_len {nf tf : Nat → List UInt8} {vs : Nat → Nat} {bs : Nat → Bool} (hn : ∀ i,i < 4 → (nf i).length ≤ 1000) (ht : ∀ i,i < 4 → (tf (vs i)).length ≤ 1000) : ∀ j,j ≤ 4 → (libG nf tf vs bs j).length ≤ 3000 * j
  | 0,_ => by simp [libG]
  | j + 1,h => by
    have a := libG_len hn ht (bs := bs) j (by omega)
    have b := hn j (by omega)
    have c := ht j (by omega)
    have d : (tyBB (bs j)).length ≤ 4 := by cases bs j <;> decide
    unfold libG
    simp only [List.length_append,List.length_cons,List.length_nil]
    omega
theorem library_gen {nf tf : Nat → List UInt8} {vs : Nat → Nat} (hn : ∀ i,i < 4 → (nf i).length ≤ 1000) (ht : ∀ i,i < 4 → (tf (vs i)).length ≤ 1000)
    (hname : ∀ k w,k < 4 → Calls Tryz.prog 27 #[.int .i64 (k : Nat)] w fun e w' => e = .returned (.string ⟨(nf k).toArray⟩) ∧ Below w.heap.size w w')
    (htext : ∀ k w,k < 4 → Calls Tryz.prog 29 #[.int .i64 (vs k : Nat)] w fun e w' => e = .returned (.string ⟨(tf (vs k)).toArray⟩) ∧ Below w.heap.size w w')
    (bs : Nat → Bool) (w : World) :
    Calls Tryz.prog 23 #[.agg (vals4 vs),.agg (bools4 bs)] w fun e w' => e = .returned (.string ⟨(libG nf tf vs bs 4).toArray⟩) ∧ Below w.heap.size w w' := by
  have HLen := hide (libG_len (bs := bs) hn ht)
  have HN := hide hn
  have HT := hide ht
  have HName := hide hname
  have HText := hide htext
  obtain ⟨W,hW⟩ : ∃ W,W = (w.alloc (.cells (vals4 vs) 50)).alloc (.cells (bools4 bs) 51) := ⟨_,rfl⟩
  have HB := hide (show Below w.heap.size w W by rw [hW]; exact ((Below.refl _ _).alloc (Nat.le_refl _) _).alloc (by simp) _)
  have HBk := hide (show W.heap[w.heap.size]? = some (.cells (vals4 vs) 50 (0,0)) by rw [hW]; exact block_alloc (block_new _ _) _)
  have HCk := hide (show W.heap[w.heap.size + 1]? = some (.cells (bools4 bs) 51 (0,0)) by rw [hW]; have := block_new (w.alloc (.cells (vals4 vs) 50)) (.cells (bools4 bs) 51); simpa using this)
  have HW := hide hW
  clear hn ht hname htext
  go_enter Tryz.func23,Tryz.ntmps23
  go_wp2
  rw [← HW.out]
  clear hW HW
  go_loopw [5,6] (fun t i wr => ∃ j : Nat,j ≤ 4 ∧ t = .string ⟨(libG nf tf vs bs j).toArray⟩ ∧ i = .int .i64 j ∧ Hid (Below W.heap.size W wr)) (fun _ i _ => 4 - (intOf i).toNat)
  case atStart => exact ⟨0,by omega,rfl,rfl,hide (Below.refl _ _)⟩
  case round =>
    obtain ⟨j,hj,rfl,rfl,HE⟩ := hrel
    by_cases hlt : j < 4
    · have hj4 : (j : Int) < 4 := by omega
      have hj0 : (0 : Int) ≤ (j : Int) := by omega
      have HBr := hide ((HE.out.block _ (lt_of_some HBk.out)).trans HBk.out)
      have HCr := hide ((HE.out.block _ (lt_of_some HCk.out)).trans HCk.out)
      have hc := vals_at HBr.out hlt
      have hl := lt_of_some HBr.out
      have hc2 := bools_at HCr.out hlt
      have hl2 := lt_of_some HCr.out
      have z1 := HLen.out j (by omega)
      have z2 := HN.out j hlt
      have z3 := HT.out j hlt
      have HG := hide (show libG nf tf vs bs (j + 1) = libG nf tf vs bs j ++ [112,117,98,32,102,110,32] ++ nf j ++ [40,120,58,32] ++ tyBB (bs j) ++ [41,58,32,105,110,116,32,61,32] ++ tf (vs j) ++ [59,10] from rfl)
      have HNm := hide (fun w => HName.out j w hlt)
      have HTx := hide (fun w => HText.out j w hlt)
      generalize libG nf tf vs bs j = lo at *
      generalize nf j = nj at *
      generalize tf (vs j) = tj at *
      generalize vs j = vj at *
      have f0 : ¬ 9223372036854775807 < lo.length + 7 := by omega
      have f1 : ¬ 9223372036854775807 < lo.length + 7 + nj.length := by omega
      have f2 : ¬ 9223372036854775807 < lo.length + 7 + nj.length + 4 := by omega
      rcases hb : bs j with _ | _
      · rw [hb] at hc2 HG
        have f3 : ¬ 9223372036854775807 < lo.length + 7 + nj.length + 4 + 3 := by omega
        have f4 : ¬ 9223372036854775807 < lo.length + 7 + nj.length + 4 + 3 + 9 := by omega
        have f5 : ¬ 9223372036854775807 < lo.length + 7 + nj.length + 4 + 3 + 9 + tj.length := by omega
        have f6 : ¬ 9223372036854775807 < lo.length + 7 + nj.length + 4 + 3 + 9 + tj.length + 2 := by omega
        go_wp2
        go_region_held3 (fun w' => w'.cell? ⟨w.heap.size,j,none⟩ = some (.int .i64 vj)) (go_keep)
          (first
            | (go_at_call 27; refine (HNm.out wr.drew).mono ?_; rintro e w5 ⟨rfl,hb5⟩; have HB5 := hide (undrewB hb5); have k5 := (below_cell HB5.out hl j).trans hc; clear hb5)
            | (go_at_call 27; refine (HNm.out w6).mono ?_; rintro e w7 ⟨rfl,hb7⟩; have HB7 := hide (HB6.out.trans (hb7.mono HB6.out.size)); have k7 := (below_cell HB7.out hl j).trans hc; clear hb7)
            | (go_at_call 29; refine (HTx.out wr.drew).mono ?_; rintro e w6 ⟨rfl,hb6⟩; have HB6 := hide (undrewB hb6); have k6 := (below_cell HB6.out hl j).trans hc; clear hb6)
            | (go_at_call 29; refine (HTx.out w5).mono ?_; rintro e w7 ⟨rfl,hb7⟩; have HB7 := hide (HB5.out.trans (hb7.mono HB5.out.size)); have k7 := (below_cell HB7.out hl j).trans hc; clear hb7))
        all_goals
          go_wp2
          go_roundw
          case rel => exact ⟨j + 1,by omega,by rw [HG.out]; exact congrArg Value.string (cat8 lo [112,117,98,32,102,110,32] nj [40,120,58,32] [105,110,116] [41,58,32,105,110,116,32,61,32] tj [59,10]),by go_num,hide (HE.out.trans (HB7.out.mono HE.out.size))⟩
          case measure => simp [intOf]; omega
      · rw [hb] at hc2 HG
        have f3 : ¬ 9223372036854775807 < lo.length + 7 + nj.length + 4 + 4 := by omega
        have f4 : ¬ 9223372036854775807 < lo.length + 7 + nj.length + 4 + 4 + 9 := by omega
        have f5 : ¬ 9223372036854775807 < lo.length + 7 + nj.length + 4 + 4 + 9 + tj.length := by omega
        have f6 : ¬ 9223372036854775807 < lo.length + 7 + nj.length + 4 + 4 + 9 + tj.length + 2 := by omega
        go_wp2
        go_region_held3 (fun w' => w'.cell? ⟨w.heap.size,j,none⟩ = some (.int .i64 vj)) (go_keep)
          (first
            | (go_at_call 27; refine (HNm.out wr.drew).mono ?_; rintro e w5 ⟨rfl,hb5⟩; have HB5 := hide (undrewB hb5); have k5 := (below_cell HB5.out hl j).trans hc; clear hb5)
            | (go_at_call 27; refine (HNm.out w6).mono ?_; rintro e w7 ⟨rfl,hb7⟩; have HB7 := hide (HB6.out.trans (hb7.mono HB6.out.size)); have k7 := (below_cell HB7.out hl j).trans hc; clear hb7)
            | (go_at_call 29; refine (HTx.out wr.drew).mono ?_; rintro e w6 ⟨rfl,hb6⟩; have HB6 := hide (undrewB hb6); have k6 := (below_cell HB6.out hl j).trans hc; clear hb6)
            | (go_at_call 29; refine (HTx.out w5).mono ?_; rintro e w7 ⟨rfl,hb7⟩; have HB7 := hide (HB5.out.trans (hb7.mono HB5.out.size)); have k7 := (below_cell HB7.out hl j).trans hc; clear hb7))
        all_goals
          go_wp2
          go_roundw
          case rel => exact ⟨j + 1,by omega,by rw [HG.out]; exact congrArg Value.string (cat8 lo [112,117,98,32,102,110,32] nj [40,120,58,32] [98,111,111,108] [41,58,32,105,110,116,32,61,32] tj [59,10]),by go_num,hide (HE.out.trans (HB7.out.mono HE.out.size))⟩
          case measure => simp [intOf]; omega
    · have hj4 : j = 4 := by omega
      subst hj4
      go_wp2
      go_ret
      exact ⟨rfl,HB.out.trans (HE.out.mono HB.out.size)⟩
def cliG (nf : Nat → List UInt8) (u : Nat) (bs : Nat → Bool) : Nat → List UInt8
  | 0 => [117,115,101,32,110,111,116,104,105,110,103,59,32,117,115,101,32,108,105,98,59,32,112,117,98,32,102,110,32,109,97,105,110,40,41,58,32,105,110,116,32,61,32,48]
  | j + 1 => if (u / 2 ^ j) % 2 = 1 then cliG nf u bs j ++ [32,43,32] ++ nf j ++ [40] ++ (if bs j then [116,114,117,101] else [55]) ++ [41] else cliG nf u bs j
theorem cliG_len {nf : Nat → List UInt8} {u : Nat} {bs : Nat → Bool} (hn : ∀ i,i < 4 → (nf i).length ≤ 1000) : ∀ j,j ≤ 4 → (cliG nf u bs j).length ≤ 100 + 3000 * j
  | 0,_ => by simp [cliG]
  | j + 1,h => by
    have a := cliG_len hn (u := u) (bs := bs) j (by omega)
    have b := hn j (by omega)
    have d : (if bs j then [116,114,117,101] else [55] : List UInt8).length ≤ 4 := by cases bs j <;> decide
    unfold cliG
    split
    · simp only [List.length_append,List.length_cons,List.length_nil]
      omega
    · omega
theorem client_gen {nf : Nat → List UInt8} (hn : ∀ i,i < 4 → (nf i).length ≤ 1000)
    (hname : ∀ k w,k < 4 → Calls Tryz.prog 27 #[.int .i64 (k : Nat)] w fun e w' => e = .returned (.string ⟨(nf k).toArray⟩) ∧ Below w.heap.size w w')
    (u : Nat) (hu : u < 16) (bs : Nat → Bool) (w : World) :
    Calls Tryz.prog 24 #[.int .i64 u,.agg (bools4 bs)] w fun e w' => e = .returned (.string ⟨(cliG nf u bs 4 ++ [59]).toArray⟩) ∧ Below w.heap.size w w' := by
  have HLen := hide (cliG_len (u := u) (bs := bs) hn)
  have HN := hide hn
  have HName := hide hname
  obtain ⟨W,hW⟩ : ∃ W,W = w.alloc (.cells (bools4 bs) 51) := ⟨_,rfl⟩
  have HB := hide (show Below w.heap.size w W by rw [hW]; exact (Below.refl _ _).alloc (Nat.le_refl _) _)
  have HCk := hide (show W.heap[w.heap.size]? = some (.cells (bools4 bs) 51 (0,0)) by rw [hW]; exact block_new _ _)
  have HW := hide hW
  clear hn hname
  go_enter Tryz.func24,Tryz.ntmps24
  go_wp2
  rw [← HW.out]
  clear hW HW
  go_loopw [5,6] (fun t i wr => ∃ j : Nat,j ≤ 4 ∧ t = .string ⟨(cliG nf u bs j).toArray⟩ ∧ i = .int .i64 j ∧ Hid (Below W.heap.size W wr)) (fun _ i _ => 4 - (intOf i).toNat)
  case atStart => exact ⟨0,by omega,rfl,rfl,hide (Below.refl _ _)⟩
  case round =>
    obtain ⟨j,hj,rfl,rfl,HE⟩ := hrel
    by_cases hlt : j < 4
    · have hj4 : (j : Int) < 4 := by omega
      have hj0 : (0 : Int) ≤ (j : Int) := by omega
      have HCr := hide ((HE.out.block _ (lt_of_some HCk.out)).trans HCk.out)
      have hc := bools_at HCr.out hlt
      have hl := lt_of_some HCr.out
      by_cases hb : (u / 2 ^ j) % 2 = 1
      · have hbt : (bits BinOp.and IntKind.i64 ((u : Int) / 2 ^ j) 1 == 1) = true := by rw [bit_is hu hlt]; simpa using hb
        have z1 := HLen.out j (by omega)
        have z2 := HN.out j hlt
        have HG := hide (show cliG nf u bs (j + 1) = cliG nf u bs j ++ [32,43,32] ++ nf j ++ [40] ++ (if bs j then [116,114,117,101] else [55]) ++ [41] by simp [cliG,hb])
        have HNm := hide (fun w => HName.out j w hlt)
        have HAr := hide (fun w => argument_any (bs j) w)
        generalize cliG nf u bs j = lo at *
        generalize nf j = nj at *
        generalize bs j = bj at *
        have f0 : ¬ 9223372036854775807 < lo.length + 3 := by omega
        have f1 : ¬ 9223372036854775807 < lo.length + 3 + nj.length := by omega
        have f2 : ¬ 9223372036854775807 < lo.length + 3 + nj.length + 1 := by omega
        have ha : (if bj then [116,114,117,101] else [55] : List UInt8).length ≤ 4 := by cases bj <;> decide
        generalize (if bj then [116,114,117,101] else [55] : List UInt8) = aj at *
        have f3 : ¬ 9223372036854775807 < lo.length + 3 + nj.length + 1 + aj.length := by omega
        have f4 : ¬ 9223372036854775807 < lo.length + 3 + nj.length + 1 + aj.length + 1 := by omega
        go_wp2
        go_region_held3 (fun w' => w'.cell? ⟨w.heap.size,j,none⟩ = some (.bool bj)) (go_keep)
          (first
            | (go_at_call 27; refine (HNm.out wr.drew).mono ?_; rintro e w5 ⟨rfl,hb5⟩; have HB5 := hide (undrewB hb5); have k5 := (below_cell HB5.out hl j).trans hc; clear hb5)
            | (go_at_call 48; refine (HAr.out _).mono ?_; rintro e w6 ⟨rfl,rfl⟩))
        all_goals
          go_wp2
          go_roundw
          case rel => exact ⟨j + 1,by omega,by rw [HG.out]; exact congrArg Value.string (cat6 lo [32,43,32] nj [40] aj [41]),by go_num,hide (HE.out.trans (HB5.out.mono HE.out.size))⟩
          case measure => simp [intOf]; omega
      · have hbt : (bits BinOp.and IntKind.i64 ((u : Int) / 2 ^ j) 1 == 1) = false := by rw [bit_is hu hlt]; simpa using hb
        have HG := hide (show cliG nf u bs (j + 1) = cliG nf u bs j by simp [cliG,hb])
        go_wp2
        go_roundw
        case rel => exact ⟨j + 1,by omega,by rw [HG.out],by go_num,HE⟩
        case measure => simp [intOf]; omega
    · have hj4 : j = 4 := by omega
      subst hj4
      have z1 := HLen.out 4 (by omega)
      go_wp2
      go_ret
      refine ⟨?_,HB.out.trans (HE.out.mono HB.out.size)⟩
      exact congrArg (fun x => Ending.returned (Value.string x)) (show ByteArray.mk (cliG nf u bs 4).toArray ++ ByteArray.mk [59].toArray = ByteArray.mk (cliG nf u bs 4 ++ [59]).toArray by rw [ByteArray.mk_append_mk]; try simp)
end Go.Proofs.YtpmmjkiclngpmaaGreatDoor
namespace Go.Proofs.YtpmmjkiclngpmaaGreatDoor
open Go.RowKit
def Txs (w : World) (v : Value) (ns : List (List UInt8)) : Prop := ∃ ao cap,v = .slice ao ns.length cap ∧ (ns = [] ∨ ∃ b,ao = some ⟨b,0,none⟩ ∧ b < w.heap.size ∧ ns.length ≤ cap ∧ ∀ j,(h : j < ns.length) → w.cell? ⟨b,j,none⟩ = some (.string ⟨(ns[j]).toArray⟩))
theorem Txs.below {w w' : World} {v : Value} {ns : List (List UInt8)} (h : Txs w v ns) (hb : Below w.heap.size w w') : Txs w' v ns := by
  obtain ⟨ao,cap,rfl,h⟩ := h
  refine ⟨ao,cap,rfl,?_⟩
  rcases h with h | ⟨b,h1,h2,h3,h4⟩
  · exact Or.inl h
  · exact Or.inr ⟨b,h1,Nat.lt_of_lt_of_le h2 hb.size,h3,fun j hj => (below_cell hb h2 j).trans (h4 j hj)⟩
theorem Txs.at' {w : World} {v : Value} {ns : List (List UInt8)} (h : Txs w v ns) {j : Nat} (hj : j < ns.length) : ∃ b cap,v = .slice (some ⟨b,0,none⟩) ns.length cap ∧ b < w.heap.size ∧ ns.length ≤ cap ∧ w.cell? ⟨b,j,none⟩ = some (.string ⟨(ns[j]).toArray⟩) := by
  obtain ⟨ao,cap,rfl,h⟩ := h
  rcases h with h | ⟨b,rfl,h2,h3,h4⟩
  · subst h; simp at hj
  · exact ⟨b,cap,rfl,h2,h3,h4 j hj⟩
theorem compiled_gen {w : World} {sp : Value} {ns : List (List UInt8)} (hns : ns.length ≤ 1000) {v : Value} (hv : Txs w v ns)
    (hC : Calls Tryz.prog 49 #[sp] w fun e w' => ∃ v',e = .returned v' ∧ Txs w' v' ns ∧ Below w.heap.size w w') :
    Calls Tryz.prog 25 #[sp,v] w fun e w' => e = .returned (.bool true) ∧ Below w.heap.size w w' := by
  have HC := hide hC
  have HV := hide hv
  obtain ⟨ao,cap,hve,hx⟩ := hv
  clear hx
  clear hC
  subst hve
  go_enter Tryz.func25,Tryz.ntmps25
  go_wp2_with fail
  refine HC.out.mono ?_
  rintro e w1 ⟨v',rfl,hv',hb⟩
  have HB := hide hb
  have HV1 := hide (HV.out.below hb)
  have HV2 := hide hv'
  obtain ⟨ao',cap',hve,hx⟩ := hv'
  clear hx
  subst hve
  clear hb HC HV
  go_wp2
  go_loopw [6] (fun i wr => ∃ j : Nat,j ≤ ns.length ∧ i = .int .i64 j ∧ Hid (Below w1.heap.size w1 wr)) (fun i _ => ns.length - (intOf i).toNat)
  case atStart => exact ⟨0,by omega,rfl,hide (Below.refl _ _)⟩
  case round =>
    obtain ⟨j,hj,rfl,HE⟩ := hrel
    by_cases hlt : j < ns.length
    · have hji : (j : Int) < (ns.length : Int) := by omega
      have hj0 : (0 : Int) ≤ (j : Int) := by omega
      obtain ⟨b,cb,hb1,hb2,hb3,hb4⟩ := (HV1.out.below HE.out).at' hlt
      obtain ⟨b',cb',hc1,hc2,hc3,hc4⟩ := (HV2.out.below HE.out).at' hlt
      simp only [Value.slice.injEq] at hb1 hc1
      obtain ⟨rfl,_,rfl⟩ := hb1
      obtain ⟨rfl,_,rfl⟩ := hc1
      generalize ns[j] = nj at *
      go_wp2
      go_region
      all_goals
        go_wp2
        go_roundw
        case rel => exact ⟨j + 1,by omega,by go_num,hide HE.out.drew⟩
        case measure => simp [intOf]; omega
    · have hje : j = ns.length := by omega
      subst hje
      go_wp2
      go_ret
      exact ⟨rfl,HB.out.trans (HE.out.mono HB.out.size)⟩
end Go.Proofs.YtpmmjkiclngpmaaGreatDoor
