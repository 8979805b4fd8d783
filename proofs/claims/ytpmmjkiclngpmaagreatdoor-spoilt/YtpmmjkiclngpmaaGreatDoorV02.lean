/- YtpmmjkiclngpmaaGreatDoorV02 -/
import Derived.Shelf.LaysM
import Derived.Shelf.Strconv.Itoa3
import Derived.Shelf.Strings.BuilderK
import Derived.Test.YtpmmjkiclngpmaaGreatDoorB26
import Derived.Test.YtpmmjkiclngpmaaGreatDoorB05
import Derived.Lib.ItoaLen
import Derived.Lib.AppendIntMem
import Derived.Test.YtpmmjkiclngpmaaGreatDoorB17
import Derived.Deep.RegionHeld3
import Derived.Test.YtpmmjkiclngpmaaGreatDoorB44
import Derived.Test.YtpmmjkiclngpmaaGreatDoorV01
set_option maxRecDepth 100000
set_option linter.unusedSimpArgs false
set_option linter.unusedVariables false
set_option maxHeartbeats 12800000
namespace Go.Proofs
open Go.Shelf
end Go.Proofs
namespace Go.Proofs.YtpmmjkiclngpmaaGreatDoor
open Go.RowKit
def Tab (w : World) : Prop := Lib.TabIs Tryz.prog w "internal/strconv.uint64pow10" .u64 Lib.pow10Tab
theorem gTab : Tryz.prog.globalNamed "internal/strconv.uint64pow10" = some 0 := by kernel_rfl
theorem Tab.lt {w : World} (h : Tab w) : 0 < w.heap.size := by
  rcases Nat.eq_zero_or_pos w.heap.size with h0 | h0
  · unfold Tab Lib.TabIs World.var? at h
    rw [gTab] at h
    simp [Array.getElem?_eq_none (show w.heap.size ≤ 0 by omega)] at h
  · exact h0
structure Oth (lo b : Nat) (w w' : World) : Prop where
  bel : Below lo w w'
  oth : Lib.OthersKept 5 (some b) w w'
theorem Oth.block {lo b : Nat} {w w' : World} (h : Oth lo b w w') {k : Nat} {c : Array Value} {t : TypeId} {fz : Nat × Nat} (hk : w.heap[k]? = some (.cells c t fz)) (hb : k ≠ b) (ht : t ≠ 5) : w'.heap[k]? = some (.cells c t fz) :=
  h.oth k _ hk (fun e => hb (Option.some.inj e)) fun c' fz' e => ht (by cases e; rfl)
theorem Oth.trans {lo b : Nat} {w w' w'' : World} (h : Oth lo b w w') (k : Oth lo b w' w'') : Oth lo b w w'' := ⟨h.bel.trans k.bel,h.oth.trans k.oth⟩
end Go.Proofs.YtpmmjkiclngpmaaGreatDoor
namespace Go.Proofs.YtpmmjkiclngpmaaGreatDoor
open Go.RowKit
end Go.Proofs.YtpmmjkiclngpmaaGreatDoor
namespace Go.Proofs.YtpmmjkiclngpmaaGreatDoor
open Go.RowKit
end Go.Proofs.YtpmmjkiclngpmaaGreatDoor
namespace Go.Proofs.YtpmmjkiclngpmaaGreatDoor
open Go.RowKit
end Go.Proofs.YtpmmjkiclngpmaaGreatDoor
