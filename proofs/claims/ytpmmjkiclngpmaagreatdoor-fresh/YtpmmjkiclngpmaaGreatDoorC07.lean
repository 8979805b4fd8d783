/- Fresh: for every list of numbers the call returns true, and the list reads as before: the statement's card. No condition. -/
import Derived.Test.YtpmmjkiclngpmaaGreatDoorCards
import Derived.Test.YtpmmjkiclngpmaaGreatDoorTie
import Derived.Test.YtpmmjkiclngpmaaGreatDoorC05
import Derived.Test.YtpmmjkiclngpmaaGreatDoorC06
import Derived.ChangeSlices
import Derived.SizedLaws
import Derived.WalkKit
import Derived.ProofKit
import Derived.OpenShut
import Derived.Deep.DeepHandedRow
import Derived.Deep.DeepWitnessRowRef
import Derived.Lib.LaidTab
set_option maxRecDepth 100000
set_option linter.unusedSimpArgs false
set_option linter.unusedVariables false
namespace Go.Proofs.YtpmmjkiclngpmaaGreatDoor
open Go.ChangeShapes Go.WideShapes Go.ChangeAt Go.RowKit

theorem tabTy : (Tryz.prog.globals[0]?).map (·.type) = some 368 := by kernel_rfl
theorem cellsInt : Tryz.prog.cellsOf 3 = 1 := by kernel_rfl
theorem bytesInt : Tryz.prog.bytesOf 3 = 8 := by kernel_rfl
theorem cellsU64 : Tryz.prog.cellsOf 294 = 1 := by kernel_rfl
theorem cellsTab : Tryz.prog.cellsOf 368 = 20 := by kernel_rfl
/-- What the row's list gives: the table of powers of ten. -/
theorem fresh_tab {W : World} (h : laidMetH Tryz.prog Rows.freshRow.laid W) : Tab W := by
  obtain ⟨ps, hv, _, _⟩ : laidMet Tryz.prog Rows.freshRow.laid W := h
  obtain ⟨g1, t1, cs1, f1, p1, q1, _, _, _, _, hv2, _⟩ := hv
  obtain ⟨g2, t2, cs2, f2, p2, q2, _, _, _, _, hv3, _⟩ := hv2
  obtain ⟨g3, t3, cs3, f3, p3, q3, hg, hty, hvar, hd, _, _⟩ := hv3
  obtain rfl := Option.some.inj (gTab.symm.trans hg)
  obtain rfl := Option.some.inj (tabTy.symm.trans hty)
  have hd' : DataW.trod (fun _ => ()) Tryz.prog W 0 (fun _ => true) false f3 368 cs3.toList = some (Lib.tabData .u64 Lib.pow10Tab, p3) := hd
  unfold Tab Lib.TabIs
  rw [hvar, ← Lib.cells_of_tab Tryz.underlying368 Tryz.underlying294 cellsU64 cellsTab hd']
theorem nil_ints {H : Type} {enc : TypeId × Value → H} (W : World) (sp : Nat → Bool) : DataW.Trod enc Tryz.prog W 0 sp true 25 (.slice none 0 0) .nil [] :=
  ⟨1, by simp [Value.cells, DataW.trod_step, DataW.trodStep, Tryz.underlying25]⟩
theorem fresh_contract (H : Type) (enc : TypeId × Value → H) (W : World) (base : Nat) (args : Array Value) (ds gs : List (DataW H)) (before : List MemPlace)
    (hval : ∀ (j : Nat) t v, Tryz.f11.params[j]? = some t → args[j]? = some v → Value.okWide Tryz.prog W .any base t v)
    (hW : DataW.Whole enc Tryz.prog Tryz.f11.params.toList Rows.freshSpec.vars false W args.toList ds gs before) (hL : laidMetH Tryz.prog Rows.freshRow.laid W)
    (hsz : (DataW.weightsEach Tryz.prog (Tryz.f11.params.toList ++ (OpenSpec.ofChange Rows.freshSpec).bare.plain.varTypes Tryz.prog) (ds ++ gs)).all (· ≤ reachBytes) = true) :
    Calls Tryz.prog 11 args W fun e W' => ∃ v, e = .returned v ∧ Rows.freshSpec.post enc Tryz.prog Tryz.f11 false true false false W args v W' := by
  have hT := fresh_tab hL
  have hW' := hW
  obtain ⟨p, q, hA0, hV, rfl, hfz, hnd⟩ := hW
  have hA : DataW.TrodAll enc Tryz.prog W 0 (fun _ => true) true Tryz.f11.params.toList args.toList ds p := hA0
  rw [Tryz.params11] at hA hval
  obtain ⟨v0, vs0, d0, ds0, p0, q0, hargs, rfl, rfl, h0, r0⟩ := trodAll_cons hA
  obtain ⟨rfl, rfl, rfl⟩ := trodAll_nil r0
  obtain rfl : args = #[v0] := by cases args; simp_all
  obtain ⟨rfl, rfl⟩ := trodVars_none hV
  obtain ⟨a0, len, cap, rfl⟩ := okWide_slice Tryz.underlying25 (hval 0 25 v0 rfl rfl)
  obtain ⟨fuel, hf⟩ := h0
  clear hA0
  rcases open_ints Tryz.underlying25 Tryz.underlying3 cellsInt hf with ⟨hcs, hx⟩ | ⟨a, len', cap', zs, hcs, _, hl, hm, hz, hx, hcell, hwz⟩
  · simp [Value.cells] at hcs
    obtain ⟨rfl, rfl, rfl⟩ := hcs
    simp only [Prod.mk.injEq] at hx
    obtain ⟨rfl, rfl⟩ := hx
    simp only [List.append_nil] at hW'
    refine (fresh_any W none 0 0 0 [] (fun j h => absurd h (by simp)) (Or.inr rfl) hT.lt (fun z hz => by cases hz) (by simp) hT).mono fun e W' ⟨he, hg⟩ => ?_
    subst he
    refine ⟨_, rfl, post_below (pa := []) (pv := []) hW' hg rfl (fun _ _ _ => trodAll_cons_mk (shut_bool Tryz.underlying4 _) trodAll_mk0) (fun sp _ => ?_) (fun _ _ => rfl) (ok_one (by kernel_rfl) rfl (okWide_bool_mk Tryz.underlying4 _))⟩
    exact trodAll_cons_mk (nil_ints W' sp) trodAll_mk0
  · simp [Value.cells] at hcs
    obtain ⟨rfl, rfl, rfl⟩ := hcs
    simp only [Prod.mk.injEq] at hx
    obtain ⟨rfl, rfl⟩ := hx
    simp only [if_true] at hz
    simp only [List.append_nil] at hW'
    have hlt : (zs.take len).length = len := by rw [List.length_take]; omega
    have hmx : zs.length ≤ 140737488355328 := by
      have := sized_slice hsz (j := 0) (t := 25) (e := 3) (elems := lits .i64 (zs.take len)) (spare := lits .i64 (zs.drop len)) rfl rfl Tryz.underlying25
      rw [bytesInt] at this
      simp only [lits, List.length_map, List.length_take, List.length_drop] at this
      unfold reachBytes at this
      omega
    have key : Calls Tryz.prog 11 #[.slice (some a) len cap] W fun e w' => e = .returned (.bool true) ∧ Below W.heap.size W w' := by
      have hwf : ∀ z ∈ zs.take len, -9223372036854775808 ≤ z ∧ z ≤ 9223372036854775807 := fun z hz' => i64_in (hwz z (List.mem_of_mem_take hz'))
      rcases Nat.eq_zero_or_pos len with h0 | h0
      · subst h0
        exact fresh_any W (some a) 0 0 cap [] (fun j h => absurd h (by simp)) (Or.inr rfl) hT.lt (fun z hz => by cases hz) (by simp) hT
      · obtain ⟨b, off, spot⟩ := a
        have hspot : spot = none := by simpa [Addr.add] using World.cell?_spot (hcell 0 (by omega))
        subst hspot
        have hcell' : ∀ j, j < zs.length → W.cell? ⟨b, off + j, none⟩ = some (.int .i64 (zs.getD j 0)) := fun j hj => by rw [← add_plain]; exact hcell j hj
        have hbl : b < W.heap.size := World.block_lt_of_cell? _ _ (hcell' 0 (by omega))
        have := fresh_any W (some ⟨b, off, none⟩) b off cap (zs.take len) (fun j h => by rw [hcell' j (by omega)]; simp [List.getD, List.getElem_take, show j < zs.length by omega]) (Or.inl rfl) hbl hwf (by omega) hT
        rw [hlt] at this
        exact this
    refine key.mono fun e W' ⟨he, hg⟩ => ?_
    subst he
    refine ⟨_, rfl, post_below (pa := MemPlace.row a zs.length) (pv := []) hW' hg (by simp) (fun _ _ _ => trodAll_cons_mk (shut_bool Tryz.underlying4 _) trodAll_mk0) (fun sp hsp => ?_) (fun _ _ => rfl) (ok_one (by kernel_rfl) rfl (okWide_bool_mk Tryz.underlying4 _))⟩
    have hlt' : ∀ i, i < zs.length → a.block < W.heap.size := fun i hi => by have := World.block_lt_of_cell? _ _ (hcell i hi); rwa [block_add] at this
    have t0 := shut_ints (enc := enc) (w := W') (base := 0) (spare := sp) (held := true) (len := len) (cap := cap) (zs := zs) 0 Tryz.underlying25 Tryz.underlying3 cellsInt (Nat.zero_le _) hl hm (by
        rcases Nat.eq_zero_or_pos cap with h0 | h0
        · subst h0; rw [hz]; split <;> omega
        · have hsb : sp a.block = true := by
            obtain ⟨b, off, spot⟩ := a
            exact hsp (.cell b off) (MemPlace.mem_row.2 ⟨0, by omega, by simp⟩)
          rw [hsb, if_pos rfl]; exact hz) (fun i hi => by
        have := hcell i hi
        rw [← this]
        exact World.cell?_of_block (a := a.add i) (hg.block _ (by rw [block_add]; exact hlt' i hi))) hwz
    have t1 := trodAll_cons_mk (⟨2, by simpa [Value.cells] using t0⟩ : DataW.Trod enc Tryz.prog W' 0 sp true 25 (.slice (some a) len cap) _ _) trodAll_mk0
    simp only [List.append_nil] at t1
    exact t1
theorem fresh_laid (os : Os) : laidMet Tryz.prog Rows.freshRow.laid (({ World.holding Tryz.prog os ⟨#[.cells #[.string ⟨#[118, 97, 108, 117, 101, 32, 111, 117, 116, 32, 111, 102, 32, 114, 97, 110, 103, 101]⟩] 413, .cells #[.string ⟨#[105, 110, 118, 97, 108, 105, 100, 32, 115, 121, 110, 116, 97, 120]⟩] 413], #[], []⟩ with heap := (((((World.holding Tryz.prog os ⟨#[.cells #[.string ⟨#[118, 97, 108, 117, 101, 32, 111, 117, 116, 32, 111, 102, 32, 114, 97, 110, 103, 101]⟩] 413, .cells #[.string ⟨#[105, 110, 118, 97, 108, 105, 100, 32, 115, 121, 110, 116, 97, 120]⟩] 413], #[], []⟩).heap.modify 0 (tabPut tabP)).modify 1 (tabPut tab32)).modify 2 (tabPut tab64)).modify 4 (tabPut #[.iface 411 (.pointer (some ⟨12, 0, none⟩))])).modify 5 (tabPut #[.iface 411 (.pointer (some ⟨11, 0, none⟩))]) } : World).forCall (fun _ _ => 0) ⟨#[], #[.slice none 0 0], []⟩).memory :=
  laidMet_of_run' 8 (by kernel_rfl) (by kernel_rfl)
theorem fresh_reads (os : Os) {H : Type} (enc : TypeId × Value → H) : ∃ places, DataW.whole enc Tryz.prog (({ World.holding Tryz.prog os ⟨#[.cells #[.string ⟨#[118, 97, 108, 117, 101, 32, 111, 117, 116, 32, 111, 102, 32, 114, 97, 110, 103, 101]⟩] 413, .cells #[.string ⟨#[105, 110, 118, 97, 108, 105, 100, 32, 115, 121, 110, 116, 97, 120]⟩] 413], #[], []⟩ with heap := (((((World.holding Tryz.prog os ⟨#[.cells #[.string ⟨#[118, 97, 108, 117, 101, 32, 111, 117, 116, 32, 111, 102, 32, 114, 97, 110, 103, 101]⟩] 413, .cells #[.string ⟨#[105, 110, 118, 97, 108, 105, 100, 32, 115, 121, 110, 116, 97, 120]⟩] 413], #[], []⟩).heap.modify 0 (tabPut tabP)).modify 1 (tabPut tab32)).modify 2 (tabPut tab64)).modify 4 (tabPut #[.iface 411 (.pointer (some ⟨12, 0, none⟩))])).modify 5 (tabPut #[.iface 411 (.pointer (some ⟨11, 0, none⟩))]) } : World).forCall (fun _ _ => 0) ⟨#[], #[.slice none 0 0], []⟩).memory Tryz.f11.params.toList Rows.freshSpec.vars false #[Value.slice none 0 0].toList 8 = some ([.nil], [], places) :=
  ⟨[], by kernel_rfl⟩
theorem fresh_lifted (os : Os) (started : os.Started) (H : Type) (enc : TypeId × Value → H) (F : Stop.Interp) :
    ReturnsInHanded {} Tryz.checked os 11 .any ((OpenSpec.ofChange Rows.freshSpec).preRow enc Tryz.prog Tryz.f11 Rows.freshRow.domain false Rows.freshRow.laid) (((OpenSpec.ofChange Rows.freshSpec).at F).post enc Tryz.prog Tryz.f11 false true false false) := by
  obtain ⟨places, hx⟩ := fresh_reads os enc
  refine returnsInHanded_of_row (C := Tryz.checked) (s := OpenSpec.ofChange Rows.freshSpec) ownK started (by kernel_rfl) Tryz.func11
    (witness_row_at (enc := enc) (C := Tryz.checked) false ({ World.holding Tryz.prog os ⟨#[.cells #[.string ⟨#[118, 97, 108, 117, 101, 32, 111, 117, 116, 32, 111, 102, 32, 114, 97, 110, 103, 101]⟩] 413, .cells #[.string ⟨#[105, 110, 118, 97, 108, 105, 100, 32, 115, 121, 110, 116, 97, 120]⟩] 413], #[], []⟩ with heap := (((((World.holding Tryz.prog os ⟨#[.cells #[.string ⟨#[118, 97, 108, 117, 101, 32, 111, 117, 116, 32, 111, 102, 32, 114, 97, 110, 103, 101]⟩] 413, .cells #[.string ⟨#[105, 110, 118, 97, 108, 105, 100, 32, 115, 121, 110, 116, 97, 120]⟩] 413], #[], []⟩).heap.modify 0 (tabPut tabP)).modify 1 (tabPut tab32)).modify 2 (tabPut tab64)).modify 4 (tabPut #[.iface 411 (.pointer (some ⟨12, 0, none⟩))])).modify 5 (tabPut #[.iface 411 (.pointer (some ⟨11, 0, none⟩))]) } : World) #[.slice none 0 0] rfl (by kernel_rfl) (by kernel_rfl) (by kernel_rfl)
      (OpenSpec.preRow_of_cond 8 hx (by kernel_rfl) (fun k hk => by cases hk) (by kernel_rfl) (fresh_laid os))) ?_
  intro W base args ds gs before hval hW _ _ hsz hL _ _
  exact fresh_contract H enc W base args ds gs before hval hW hL hsz
theorem fresh_said : Rows.FreshSaid :=
  OpenClaim.holds_of_cond 11 Tryz.f11 rfl rfl rfl rfl rfl rfl rfl ⟨rfl, rfl, rfl, rfl, rfl⟩ rfl rfl rfl rfl rfl (by kernel_rfl) Tryz.func11 fresh_closed
    (of_decide_eq_true (by kernel_rfl)) (by unfold Func.isWrapper; first | (rw [if_pos (by decide +kernel)]; kernel_rfl) | (rw [if_neg (by decide +kernel)]; exact ⟨rfl, rfl⟩))
    (fun os started H enc _ F => by rw [OpenClaim.pre_eq_preRow]; exact fresh_lifted os started H enc F)
theorem fresh_plain (f : FuncId) (fn : Func) (hf : Tryz.pinned.checked.prog.funcNamed "symcut/symcutkeep.Fresh" = some f) (hfn : Tryz.pinned.checked.prog.funcs[f]? = some fn) :
    true = Tryz.pinned.checked.prog.looks [] ∧ ∀ (j : Nat) t, fn.params[j]? = some t → Tryz.pinned.checked.prog.wantsStandIn t = false := by
  obtain rfl : f = 11 := Option.some.inj ((show Tryz.prog.funcNamed "symcut/symcutkeep.Fresh" = some 11 by kernel_rfl).symm.trans hf) |>.symm
  obtain rfl : fn = Tryz.f11 := (Option.some.inj (Tryz.func11.symm.trans hfn)).symm
  refine ⟨by kernel_rfl, fun j t ht => ?_⟩
  rw [Tryz.params11] at ht
  obtain rfl : t = 25 := by simpa using Array.mem_of_getElem? ht
  exact (show Tryz.prog.wantsStandIn 25 = false by kernel_rfl)
/-- THE CARD. -/
theorem fresh_card : Rows.FreshCardSaid :=
  Claim7.holds_tied_plain_at .later [] _ _ _ _ fresh_said (fun _ h => by cases h) (by kernel_rfl) (fun _ h => by cases h) fresh_row_tie rfl ⟨rfl, rfl⟩ (by kernel_rfl) rfl fresh_plain (by kernel_rfl)
end Go.Proofs.YtpmmjkiclngpmaaGreatDoor
