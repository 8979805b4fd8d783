/- YtpmmjkiclngpmaaGreatDoorB14 -/
import Derived.Shelf.SlSortCmp.WholeK
import Derived.Shelf.SlSortCmp.NoneTotal
import Derived.Test.YtpmmjkiclngpmaaGreatDoorProg
import Derived.Test.YtpmmjkiclngpmaaGreatDoorB12
import Derived.Test.YtpmmjkiclngpmaaGreatDoorB09
import Derived.Test.YtpmmjkiclngpmaaGreatDoorB05
import Derived.Deep.RegionWith
import Derived.Deep.LoopGhost
import Derived.Deep.DeepCutAuto
import Derived.BigQuiet
import Derived.Laws.StructEq
import Derived.Shelf.SlicesE.Kit
set_option maxRecDepth 100000
set_option linter.unusedSimpArgs false
set_option linter.unusedVariables false
set_option maxHeartbeats 12800000
namespace Go.Proofs
open Go.Shelf
def Tryz.sortU_ren : Go.Shelf.Ren := ⟨fun | 6 => 119 | 15 => 109 | 14 => 181 | 28 => 170 | 29 => 171 | 20 => 225 | 21 => 226 | 22 => 227 | 23 => 228 | 24 => 229 | 25 => 230 | 26 => 231 | 27 => 232 | 46 => 262 | 47 => 210 | 48 => 211 | 49 => 263 | 50 => 264 | 57 => 281 | n => n,fun | 22 => 152 | 24 => 185 | 25 => 239 | 3 => 3 | 39 => 208 | 0 => 0 | 53 => 292 | 55 => 294 | 4 => 4 | 46 => 284 | 45 => 283 | 50 => 289 | 5 => 5 | 9 => 9 | 66 => 344 | 70 => 348 | 76 => 372 | 77 => 330 | n => n,fun | n => n⟩
theorem Tryz.sortU : Go.Proofs.SlLaysF0.n6 Tryz.prog Tryz.sortU_ren := {
  mixed := by kernel_rfl
  f6 := ⟨Tryz.f119.name,by decide,Tryz.func119.trans (congrArg some (by kernel_rfl))⟩
  f14 := ⟨Tryz.f181.name,by decide,Tryz.func181.trans (congrArg some (by kernel_rfl))⟩
  f15 := Tryz.func109.trans (congrArg some (by kernel_rfl))
  f20 := ⟨Tryz.f225.name,by decide,Tryz.func225.trans (congrArg some (by kernel_rfl))⟩
  f21 := ⟨Tryz.f226.name,by decide,Tryz.func226.trans (congrArg some (by kernel_rfl))⟩
  f22 := ⟨Tryz.f227.name,by decide,Tryz.func227.trans (congrArg some (by kernel_rfl))⟩
  f23 := ⟨Tryz.f228.name,by decide,Tryz.func228.trans (congrArg some (by kernel_rfl))⟩
  f24 := ⟨Tryz.f229.name,by decide,Tryz.func229.trans (congrArg some (by kernel_rfl))⟩
  f25 := ⟨Tryz.f230.name,by decide,Tryz.func230.trans (congrArg some (by kernel_rfl))⟩
  f26 := ⟨Tryz.f231.name,by decide,Tryz.func231.trans (congrArg some (by kernel_rfl))⟩
  f27 := ⟨Tryz.f232.name,by decide,Tryz.func232.trans (congrArg some (by kernel_rfl))⟩
  f28 := Tryz.func170.trans (congrArg some (by kernel_rfl))
  f29 := Tryz.func171.trans (congrArg some (by kernel_rfl))
  f46 := ⟨Tryz.f262.name,by decide,Tryz.func262.trans (congrArg some (by kernel_rfl))⟩
  f47 := Tryz.func210.trans (congrArg some (by kernel_rfl))
  f48 := Tryz.func211.trans (congrArg some (by kernel_rfl))
  f49 := ⟨Tryz.f263.name,by decide,Tryz.func263.trans (congrArg some (by kernel_rfl))⟩
  f50 := ⟨Tryz.f264.name,by decide,Tryz.func264.trans (congrArg some (by kernel_rfl))⟩
  f57 := ⟨Tryz.f281.name,by decide,Tryz.func281.trans (congrArg some (by kernel_rfl))⟩
  t0 := Tryz.underlying0
  a0 := Tryz.isAgg0
  z0 := Tryz.sizeOf0
  v0 := Tryz.zeroValue0
  t3 := Tryz.underlying3
  a3 := Tryz.isAgg3
  z3 := Tryz.sizeOf3
  v3 := Tryz.zeroValue3
  t4 := Tryz.underlying4
  a4 := Tryz.isAgg4
  z4 := Tryz.sizeOf4
  v4 := Tryz.zeroValue4
  t5 := Tryz.underlying5
  a5 := Tryz.isAgg5
  z5 := Tryz.sizeOf5
  v5 := Tryz.zeroValue5
  t9 := Tryz.underlying9
  a9 := Tryz.isAgg9
  z9 := Tryz.sizeOf9
  v9 := Tryz.zeroValue9
  t22 := Tryz.underlying152
  a22 := Tryz.isAgg152
  z22 := Tryz.sizeOf152
  v22 := Tryz.zeroValue152
  t25 := Tryz.underlying239
  a25 := Tryz.isAgg239
  z25 := Tryz.sizeOf239
  v25 := Tryz.zeroValue239
  t39 := Tryz.underlying208
  a39 := Tryz.isAgg208
  z39 := Tryz.sizeOf208
  v39 := Tryz.zeroValue208
  t45 := Tryz.underlying283
  a45 := Tryz.isAgg283
  z45 := Tryz.sizeOf283
  v45 := Tryz.zeroValue283
  t46 := Tryz.underlying284
  a46 := Tryz.isAgg284
  z46 := Tryz.sizeOf284
  v46 := Tryz.zeroValue284
  t50 := Tryz.underlying289
  a50 := Tryz.isAgg289
  z50 := Tryz.sizeOf289
  v50 := Tryz.zeroValue289
  t53 := Tryz.underlying292
  a53 := Tryz.isAgg292
  z53 := Tryz.sizeOf292
  v53 := Tryz.zeroValue292
  t55 := Tryz.underlying294
  a55 := Tryz.isAgg294
  z55 := Tryz.sizeOf294
  v55 := Tryz.zeroValue294
  t66 := Tryz.underlying344
  a66 := Tryz.isAgg344
  z66 := Tryz.sizeOf344
  v66 := Tryz.zeroValue344
  t70 := Tryz.underlying348
  a70 := Tryz.isAgg348
  z70 := Tryz.sizeOf348
  v70 := Tryz.zeroValue348
  t76 := Tryz.underlying372
  a76 := Tryz.isAgg372
  z76 := Tryz.sizeOf372
  v76 := Tryz.zeroValue372
  t77 := Tryz.underlying330
  a77 := Tryz.isAgg330
  z77 := Tryz.sizeOf330
  v77 := Tryz.zeroValue330 }
end Go.Proofs
namespace Go.Proofs.YtpmmjkiclngpmaaGreatDoor
open Go.RowKit
theorem isNaN_any (s : ByteArray) (w : World) : Calls Tryz.prog 182 #[.string s] w fun e w' => e = .returned (.bool false) ∧ w' = w := by
  go_enter Tryz.func182,Tryz.ntmps182
  go_wp2
  go_ret
  exact ⟨rfl,rfl⟩
theorem bytesLess_before : ∀ a b : List UInt8,Op.bytesLess a b = bytesBefore a b
  | [],[] => rfl
  | [],_ :: _ => rfl
  | _ :: _,[] => rfl
  | x :: r,y :: s => by
    unfold Op.bytesLess bytesBefore
    rw [bytesLess_before r s]
def cmpB (a b : List UInt8) : Int := if bytesBefore a b then -1 else if bytesBefore b a then 1 else 0
theorem cmpStr_any (a b : ByteArray) (w : World) : Calls Tryz.prog 122 #[.string a,.string b] w fun e w' => e = .returned (.int .i64 (cmpB a.data.toList b.data.toList)) ∧ w' = w := by
  have HB := hide (bytesLess_before a.toList b.toList)
  have HT := hide (show a.toList = a.data.toList ∧ b.toList = b.data.toList from ⟨ByteArray.toList_eq a,ByteArray.toList_eq b⟩)
  rcases h1 : Op.bytesLess a.toList b.toList with _ | _
  · rcases h2 : (a.toList == b.toList) with _ | _
    · have HV := hide (show cmpB a.data.toList b.data.toList = 1 by
        rw [← HT.out.1,← HT.out.2]
        unfold cmpB
        rw [← HB.out,h1,if_neg (by simp)]
        rcases WideAt.bytes_total a.toList b.toList (by simpa using h2) with h | h
        · rw [← HB.out,h1] at h; cases h
        · rw [if_pos h])
      go_enter Tryz.func122,Tryz.ntmps122
      go_wp2_with (go_at_call 182; refine (isNaN_any _ _).mono ?_; rintro e w' ⟨rfl,rfl⟩)
      go_ret
      exact ⟨ret_int (by rw [HV.out]),rfl⟩
    · have HV := hide (show cmpB a.data.toList b.data.toList = 0 by
        rw [← HT.out.1,← HT.out.2]
        have : a.toList = b.toList := by simpa using h2
        unfold cmpB
        rw [this,WideAt.bytes_irrefl]
        rfl)
      go_enter Tryz.func122,Tryz.ntmps122
      go_wp2_with (go_at_call 182; refine (isNaN_any _ _).mono ?_; rintro e w' ⟨rfl,rfl⟩)
      go_ret
      exact ⟨ret_int (by rw [HV.out]),rfl⟩
  · have HV := hide (show cmpB a.data.toList b.data.toList = -1 by
      rw [← HT.out.1,← HT.out.2]
      unfold cmpB
      rw [← HB.out,h1]
      rfl)
    go_enter Tryz.func122,Tryz.ntmps122
    go_wp2_with (go_at_call 182; refine (isNaN_any _ _).mono ?_; rintro e w' ⟨rfl,rfl⟩)
    go_ret
    exact ⟨ret_int (by rw [HV.out]),rfl⟩
def orV (x y : Int) : Int := if x = 0 then y else x
theorem new3_at (W : World) (a b : Obj) (u v : Value) (t : TypeId) : W.heap.size + 1 + 1 < (((W.alloc a).alloc b).alloc (.cells #[u,v] t)).drew.heap.size ∧ (((W.alloc a).alloc b).alloc (.cells #[u,v] t)).drew.cell? ⟨W.heap.size + 1 + 1,0,none⟩ = some u ∧ (((W.alloc a).alloc b).alloc (.cells #[u,v] t)).drew.cell? ⟨W.heap.size + 1 + 1,1,none⟩ = some v := by
  have e : ((W.alloc a).alloc b).heap.size = W.heap.size + 1 + 1 := by simp
  have h := block_new ((W.alloc a).alloc b) (.cells #[u,v] t)
  rw [e] at h
  have h' : (((W.alloc a).alloc b).alloc (.cells #[u,v] t)).drew.heap[W.heap.size + 1 + 1]? = some (.cells #[u,v] t (0,0)) := h
  exact ⟨lt_of_some h',cell_block h' 0,cell_block h' 1⟩
theorem grown_at (W : World) (a b c : Obj) : (((W.alloc a).alloc b).alloc c).drew = Go.Sort.grow (W.drewN 1) #[a,b,c] := by
  rw [Go.Sort.alloc_eq_grow,Go.Sort.alloc_eq_grow,Go.Sort.alloc_eq_grow,Go.Sort.grow_grow,Go.Sort.grow_grow,Go.Sort.drew_grow]
  rfl
theorem or_any (b : Nat) (x y : Int) (w : World) (hb : b < w.heap.size) (h0 : w.cell? ⟨b,0,none⟩ = some (.int .i64 x)) (h1 : w.cell? ⟨b,1,none⟩ = some (.int .i64 y)) :
    Calls Tryz.prog 121 #[.slice (some ⟨b,0,none⟩) 2 2] w fun e w' => e = .returned (.int .i64 (orV x y)) ∧ w' = w := by
  go_enter Tryz.func121,Tryz.ntmps121
  go_wp2
  go_loop [8] (fun i => ∃ j : Nat,j ≤ 2 ∧ i = .int .i64 j ∧ Hid ((1 ≤ j → x = 0) ∧ (2 ≤ j → y = 0))) (fun i => 2 - (intOf i).toNat)
  case atStart => exact ⟨0,Nat.zero_le _,rfl,fun h => by omega,fun h => by omega⟩
  case round =>
    obtain ⟨j,hj,rfl,HR⟩ := hrel
    rcases (show j = 0 ∨ j = 1 ∨ j = 2 by omega) with rfl | rfl | rfl
    · by_cases hx : x = 0
      · subst hx
        go_wp2
        go_round
        case rel => exact ⟨1,by omega,rfl,by show (_ → _) ∧ _; exact ⟨by simp,by simp⟩⟩
        case measure => simp [intOf]
      · go_wp2
        go_ret
        exact ⟨ret_int (by unfold orV; rw [if_neg hx]),rfl⟩
    · have HX := hide (HR.out.1 (by omega))
      by_cases hy : y = 0
      · subst hy
        go_wp2
        go_round
        case rel => exact ⟨2,by omega,rfl,by show (_ → _) ∧ _; exact ⟨fun _ => HX.out,by simp⟩⟩
        case measure => simp [intOf]
      · go_wp2
        go_ret
        exact ⟨ret_int (by unfold orV; rw [if_pos HX.out]),rfl⟩
    · have HX := hide (HR.out.1 (by omega))
      have HY := hide (HR.out.2 (by omega))
      go_wp2
      go_ret
      exact ⟨ret_int (by unfold orV; rw [if_pos HX.out,HY.out]),rfl⟩
def cmpU (x y : Nm × Nm) : Int := orV (cmpB x.1 y.1) (cmpB x.2 y.2)
def encU (sf : Nm × Nm → List UInt8) (x : Nm × Nm) : List Value := [.string ⟨x.1.toArray⟩,.string ⟨x.2.toArray⟩,.string ⟨(sf x).toArray⟩]
theorem order_any (sf : Nm × Nm → List UInt8) (x y : Nm × Nm) (W : World) :
    Calls Tryz.prog 120 #[.agg (encU sf x).toArray,.agg (encU sf y).toArray] W fun e w' => e = .returned (.int .i64 (cmpU x y)) ∧ ∃ q os,w' = Go.Sort.grow (W.drewN q) os := by
  show Calls Tryz.prog 120 #[.agg #[.string ⟨x.1.toArray⟩,.string ⟨x.2.toArray⟩,.string ⟨(sf x).toArray⟩],.agg #[.string ⟨y.1.toArray⟩,.string ⟨y.2.toArray⟩,.string ⟨(sf y).toArray⟩]] W _
  go_enter Tryz.func120,Tryz.ntmps120
  go_wp2_with fail
  go_region_law (first
    | (refine step_call rfl 122 #[.tmp 6,.tmp 8] #[9,9] rfl Tryz.call122 #[.string ⟨x.1.toArray⟩,.string ⟨y.1.toArray⟩] ?_ (cmpStr_any _ _ _) ?_; (simp [Act.eval,Act.put]); rintro e w3 ⟨rfl,rfl⟩; refine ⟨_,rfl,?_⟩)
    | (refine step_call rfl 122 #[.tmp 11,.tmp 13] #[9,9] rfl Tryz.call122 #[.string ⟨x.2.toArray⟩,.string ⟨y.2.toArray⟩] ?_ (cmpStr_any _ _ _) ?_; (simp [Act.eval,Act.put]); rintro e w3 ⟨rfl,rfl⟩; refine ⟨_,rfl,?_⟩)
    | (refine step_call rfl 121 #[.tmp 15] #[25] rfl Tryz.call121 #[.slice (some ⟨W.heap.size + 1 + 1,0,none⟩) 2 2] ?_ (or_any (W.heap.size + 1 + 1) (cmpB x.1 y.1) (cmpB x.2 y.2) _ ?_ ?_ ?_) ?_; (simp [Act.eval,Act.put]); (exact (new3_at W _ _ _ _ _).1); (exact (new3_at W _ _ _ _ _).2.1); (exact (new3_at W _ _ _ _ _).2.2); rintro e w3 ⟨rfl,rfl⟩; refine ⟨_,rfl,?_⟩))
  all_goals
    (try go_wp2_with fail)
    go_ret
    exact ⟨rfl,1,_,grown_at W _ _ _⟩
end Go.Proofs.YtpmmjkiclngpmaaGreatDoor
namespace Go.Proofs.YtpmmjkiclngpmaaGreatDoor
open Go.RowKit
theorem und_use : Tryz.prog.underlying 185 = some (.struct (Tryz.prog.fieldsOf 185)) := by kernel_rfl
theorem held_use : Tryz.prog.stoodInHeld 185 = false := by kernel_rfl
abbrev valU (sf : Nm × Nm → List UInt8) (x : Nm × Nm) : Value := .agg #[.string ⟨x.1.toArray⟩,.string ⟨x.2.toArray⟩,.string ⟨(sf x).toArray⟩]
theorem equal_use (sf : Nm × Nm → List UInt8) (x y : Nm × Nm) (w : World) : (Op.equalIn 10000 185 (valU sf x) (valU sf y)).run Tryz.prog w = .ok (decide (x = y)) w := by
  rw [show (10000 : Nat) = 9999 + 1 from rfl,run_equalIn_agg w 9999 185 _ _ und_use held_use]
  simp only [Program.fieldsOf,Tryz.underlying185]
  have u9 := Tryz.underlying9
  have a9 := Tryz.isAgg9
  have z9 := Tryz.sizeOf9
  go_simp
  by_cases h : x = y
  · subst h; simp
  · rw [decide_eq_false h]
    split
    · next h1 =>
      split
      · next h2 => exact absurd (Prod.ext h1 h2) h
      · rfl
    · rfl
theorem guard_use (sf : Nm × Nm → List UInt8) (op : BinOp) (a b : Operand) (x y : Nm × Nm) (w : World) : (eqGuard op 185 a b (valU sf x) (valU sf y)).run Tryz.prog w = .ok () w := run_eqGuard_agg w op 185 a b _ _ (by kernel_rfl)
def cstep (P : List (Nm × Nm)) (y : Nm × Nm) : List (Nm × Nm) := if P.getLast? = some y then P else P ++ [y]
def compactL (l : List (Nm × Nm)) : List (Nm × Nm) := l.foldl cstep []
theorem compactL_snoc (l : List (Nm × Nm)) (y : Nm × Nm) : compactL (l ++ [y]) = cstep (compactL l) y := by simp [compactL,List.foldl_append]
theorem cstep_last (P : List (Nm × Nm)) (y : Nm × Nm) : (cstep P y).getLast? = some y := by
  unfold cstep
  split
  · next h => exact h
  · simp
theorem compactL_last (l : List (Nm × Nm)) (i : Nat) (hi : i < l.length) : (compactL (l.take (i + 1))).getLast? = some l[i] := by
  rw [List.take_succ_eq_append_getElem hi,compactL_snoc,cstep_last]
theorem cstep_len (P : List (Nm × Nm)) (y : Nm × Nm) : (cstep P y).length ≤ P.length + 1 ∧ P.length ≤ (cstep P y).length := by
  unfold cstep
  split
  · omega
  · simp
theorem compactL_len (l : List (Nm × Nm)) (i : Nat) (hi : i ≤ l.length) : (compactL (l.take i)).length ≤ i := by
  induction i with
  | zero => simp [compactL]
  | succ i ih =>
    rw [List.take_succ_eq_append_getElem (by omega),compactL_snoc]
    have := (cstep_len (compactL (l.take i)) l[i]).1
    have := ih (by omega)
    omega
def flatU (sf : Nm × Nm → List UInt8) (l : List (Nm × Nm)) : List Value := l.flatMap (encU sf)
theorem flatU_len (sf : Nm × Nm → List UInt8) (l : List (Nm × Nm)) : (flatU sf l).length = l.length * 3 := by
  induction l with
  | nil => rfl
  | cons x r ih =>
    rw [show flatU sf (x :: r) = encU sf x ++ flatU sf r from rfl,List.length_append,ih]
    simp [encU]; omega
theorem flatU_append (sf : Nm × Nm → List UInt8) (l r : List (Nm × Nm)) : flatU sf (l ++ r) = flatU sf l ++ flatU sf r := by simp [flatU]
theorem flatU_at (sf : Nm × Nm → List UInt8) (l : List (Nm × Nm)) (j : Nat) (hj : j < l.length) : (flatU sf l)[j * 3]? = some (.string ⟨l[j].1.toArray⟩) ∧ (flatU sf l)[j * 3 + 1]? = some (.string ⟨l[j].2.toArray⟩) ∧ (flatU sf l)[j * 3 + 2]? = some (.string ⟨(sf l[j]).toArray⟩) := by
  induction l generalizing j with
  | nil => simp at hj
  | cons x r ih =>
    rw [show flatU sf (x :: r) = encU sf x ++ flatU sf r from rfl]
    cases j with
    | zero => simp [encU]
    | succ j =>
      have := ih j (by simpa using hj)
      rw [show (j + 1) * 3 = j * 3 + 3 by omega]
      simp only [encU,List.cons_append,List.nil_append,List.getElem?_cons_succ,List.getElem_cons_succ]
      exact this
structure RowU (sf : Nm × Nm → List UInt8) (g cap : Nat) (l : List (Nm × Nm)) (w : World) : Prop where
  blk : ∃ cur,w.heap[g]? = some (.cells cur 185 (0,0)) ∧ cur.size = cap * 3 ∧ cur.toList.take (l.length * 3) = flatU sf l
theorem RowU.lt {sf : Nm × Nm → List UInt8} {g cap : Nat} {l : List (Nm × Nm)} {w : World} (h : RowU sf g cap l w) : g < w.heap.size := by obtain ⟨cur,a,_⟩ := h.blk; exact lt_of_some a
theorem RowU.free {sf : Nm × Nm → List UInt8} {g cap : Nat} {l : List (Nm × Nm)} {w : World} (h : RowU sf g cap l w) : ∀ o,w.frozen? ⟨g,o,none⟩ = false := by obtain ⟨cur,a,_⟩ := h.blk; exact free_block a
theorem RowU.at {sf : Nm × Nm → List UInt8} {g cap : Nat} {l : List (Nm × Nm)} {w : World} (h : RowU sf g cap l w) (j : Nat) (hj : j < l.length) :
    w.cell? ⟨g,j * 3,none⟩ = some (.string ⟨l[j].1.toArray⟩) ∧ w.cell? ⟨g,j * 3 + 1,none⟩ = some (.string ⟨l[j].2.toArray⟩) ∧ w.cell? ⟨g,j * 3 + 2,none⟩ = some (.string ⟨(sf l[j]).toArray⟩) := by
  obtain ⟨cur,a,b,c⟩ := h.blk
  have hc : ∀ i,i < l.length * 3 → w.cell? ⟨g,i,none⟩ = (flatU sf l)[i]? := fun i hi => by
    rw [cell_block a,← c,List.getElem?_take,if_pos hi]; simp
  have := flatU_at sf l j hj
  rw [hc _ (by omega),hc _ (by omega),hc _ (by omega)]
  exact this
theorem RowU.below {sf : Nm × Nm → List UInt8} {g cap : Nat} {l : List (Nm × Nm)} {w w' : World} (h : RowU sf g cap l w) (hb : Below w.heap.size w w') : RowU sf g cap l w' := by
  obtain ⟨cur,a,b⟩ := h.blk
  exact ⟨cur,(hb.block _ (lt_of_some a)).trans a,b⟩
theorem RowU.set {sf : Nm × Nm → List UInt8} {g cap : Nat} {l : List (Nm × Nm)} {w : World} (h : RowU sf g cap l w) (hc : l.length ≤ cap) (j : Nat) (hj : j < l.length) (y : Nm × Nm) :
    RowU sf g cap (l.set j y) (((w.setCell ⟨g,j * 3,none⟩ (.string ⟨y.1.toArray⟩)).setCell ⟨g,j * 3 + 1,none⟩ (.string ⟨y.2.toArray⟩)).setCell ⟨g,j * 3 + 2,none⟩ (.string ⟨(sf y).toArray⟩)) := by
  obtain ⟨cur,a,b,c⟩ := h.blk
  refine ⟨_,block_setCell (block_setCell (block_setCell a _ _) _ _) _ _,by simpa using b,?_⟩
  rw [List.length_set]
  apply List.ext_getElem?
  intro i
  rw [List.getElem?_take]
  have hl := flatU_len sf (l.set j y)
  rw [List.length_set] at hl
  split
  · next hi =>
    have q : i / 3 < l.length := by omega
    have hat := flatU_at sf (l.set j y) (i / 3) (by simpa using q)
    have hat0 := flatU_at sf l (i / 3) q
    have hcur : cur[i]? = (flatU sf l)[i]? := by rw [← c,List.getElem?_take,if_pos hi]; simp
    have hsz : i < cur.size := by rw [b]; have : l.length * 3 ≤ cap * 3 := Nat.mul_le_mul_right 3 hc; omega
    simp only [Array.toList_setIfInBounds,List.getElem?_set,List.length_set,Array.length_toList,Array.getElem?_toList]
    rcases (show i = (i / 3) * 3 ∨ i = (i / 3) * 3 + 1 ∨ i = (i / 3) * 3 + 2 by omega) with e | e | e
    · by_cases hij : i / 3 = j
      · subst hij
        rw [if_neg (by omega),if_neg (by omega),if_pos (by omega),if_pos (by omega)]
        have := hat.1
        rw [← e] at this
        rw [this,List.getElem_set_self]
      · rw [if_neg (by omega),if_neg (by omega),if_neg (by omega),hcur]
        have h1 := hat.1
        have h2 := hat0.1
        rw [← e] at h1 h2
        rw [h1,h2,List.getElem_set_ne (fun e => hij e.symm)]
    · by_cases hij : i / 3 = j
      · subst hij
        rw [if_neg (by omega),if_pos (by omega),if_pos (by omega)]
        have := hat.2.1
        rw [← e] at this
        rw [this,List.getElem_set_self]
      · rw [if_neg (by omega),if_neg (by omega),if_neg (by omega),hcur]
        have h1 := hat.2.1
        have h2 := hat0.2.1
        rw [← e] at h1 h2
        rw [h1,h2,List.getElem_set_ne (fun e => hij e.symm)]
    · by_cases hij : i / 3 = j
      · subst hij
        rw [if_pos (by omega),if_pos (by omega)]
        have := hat.2.2
        rw [← e] at this
        rw [this,List.getElem_set_self]
      · rw [if_neg (by omega),if_neg (by omega),if_neg (by omega),hcur]
        have h1 := hat.2.2
        have h2 := hat0.2.2
        rw [← e] at h1 h2
        rw [h1,h2,List.getElem_set_ne (fun e => hij e.symm)]
  · next hi => exact (List.getElem?_eq_none (by omega)).symm
theorem block_setCells {w : World} {b : Nat} {t : TypeId} {f : Nat × Nat} : ∀ (vs : List Value) (o : Nat) (cur : Array Value) (w : World),w.heap[b]? = some (.cells cur t f) → ∃ cur',(w.setCells b o vs).heap[b]? = some (.cells cur' t f) ∧ cur'.size = cur.size ∧ ∀ i,i < o → cur'[i]? = cur[i]? := by
  intro vs
  induction vs with
  | nil => intro o cur w h; exact ⟨cur,h,rfl,fun _ _ => rfl⟩
  | cons v r ih =>
    intro o cur w h
    obtain ⟨cur',a,b',c⟩ := ih (o + 1) _ _ (block_setCell h o v)
    refine ⟨cur',a,by simpa using b',fun i hi => ?_⟩
    rw [c i (by omega),Array.getElem?_setIfInBounds_ne (by omega)]
theorem setCells_other {b k : Nat} (hk : k ≠ b) : ∀ (vs : List Value) (o : Nat) (w : World),(w.setCells b o vs).heap[k]? = w.heap[k]? ∧ (w.setCells b o vs).heap.size = w.heap.size ∧ (w.setCells b o vs).os = w.os ∧ (w.setCells b o vs).tape = w.tape ∧ (w.setCells b o vs).output = w.output := by
  intro vs
  induction vs with
  | nil => intro o w; exact ⟨rfl,rfl,rfl,rfl,rfl⟩
  | cons v r ih =>
    intro o w
    obtain ⟨a,b',c,d,e⟩ := ih (o + 1) (w.setCell ⟨b,o,none⟩ v)
    exact ⟨a.trans (Below.heap_setCell w ⟨b,o,none⟩ v k hk),b'.trans (by simp [World.setCell]),c,d,e⟩
end Go.Proofs.YtpmmjkiclngpmaaGreatDoor
