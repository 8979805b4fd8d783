/- YtpmmjkiclngpmaaGreatDoorV03 -/
import Derived.Test.YtpmmjkiclngpmaaGreatDoorB01
import Derived.Deep.RegionWith
import Derived.Test.YtpmmjkiclngpmaaGreatDoorB02
set_option maxRecDepth 100000
set_option linter.unusedSimpArgs false
set_option linter.unusedVariables false
set_option maxHeartbeats 12800000
namespace Go.Proofs.YtpmmjkiclngpmaaGreatDoor
open Go.RowKit
def pickB (c n : Int) : Int := (if c < 0 then -(c + 1) else c) % n
theorem pickB_bd (c n : Int) (h : 0 < n) : 0 ≤ pickB c n ∧ pickB c n < n := ⟨Int.emod_nonneg _ (by omega),Int.emod_lt_of_pos _ h⟩
theorem pick_any (c n : Int) (w : World) (h1 : -9223372036854775808 ≤ c) (h2 : c ≤ 9223372036854775807) (hn : 0 < n) (hn2 : n ≤ 1000000) :
    Calls Tryz.prog 17 #[.int .i64 c,.int .i64 n] w fun e w' => e = .returned (.int .i64 (pickB c n)) ∧ w' = w := by
  by_cases hc : c < 0
  · have HP := hide (show -((c + 1).tmod n) = pickB c n by
      rw [← Int.neg_tmod,Int.tmod_eq_emod_of_nonneg (by omega)]; simp [pickB,hc])
    go_enter Tryz.func17,Tryz.ntmps17
    go_wp2
    go_ret
    exact ⟨ret_int HP.out,rfl⟩
  · have HP := hide (show c % n = pickB c n by simp [pickB,hc])
    go_enter Tryz.func17,Tryz.ntmps17
    go_wp2
    go_ret
    exact ⟨ret_int HP.out,rfl⟩
def digitB (n : Nat) : UInt8 := UInt8.ofNat (48 + n % 10)
def textN : Nat → Nat → List UInt8
  | 0,_ => []
  | f + 1,n => if n < 10 then [digitB n] else textN f (n / 10) ++ [digitB n]
def textB (n : Nat) : List UInt8 := textN (n + 1) n
theorem textN_enough (f g n : Nat) (hf : n < f) (hg : n < g) : textN f n = textN g n := by
  induction f generalizing g n with
  | zero => omega
  | succ f ih =>
    cases g with
    | zero => omega
    | succ g =>
      simp only [textN]
      split
      · rfl
      · rw [ih g (n / 10) (by omega) (by omega)]
theorem textB_small (n : Nat) (h : n < 10) : textB n = [digitB n] := by simp [textB,textN,h]
theorem textB_big (n : Nat) (h : ¬ n < 10) : textB n = textB (n / 10) ++ [digitB n] := by
  rw [textB,textN,if_neg h,textB,textN_enough n (n / 10 + 1) (n / 10) (by omega) (by omega)]
theorem textB_len (n : Nat) : (textB n).length ≤ n + 1 := by
  have : ∀ f n,(textN f n).length ≤ f := by
    intro f
    induction f with
    | zero => intro n; simp [textN]
    | succ f ih =>
      intro n
      simp only [textN]
      split
      · simp
      · have := ih (n / 10); simp; omega
  exact this (n + 1) n
theorem one_digit (n : Nat) (w : World) : (convert 115 9 (.slice (some ⟨w.heap.size,0,none⟩) 1 1)).run Tryz.prog (w.alloc (.cells #[.int .u8 (48 + (n : Int) % 10)] 5)) =
    .ok (.string ⟨[digitB n].toArray⟩) (w.alloc (.cells #[.int .u8 (48 + (n : Int) % 10)] 5)) := by
  refine run_convert_bytes_back (P := Tryz.prog) _ 115 9 5 ⟨w.heap.size,0,none⟩ 1 [digitB n] Tryz.underlying115 Tryz.underlying5 Tryz.underlying9 ?_
  intro j hj
  have : j = 0 := by simp at hj; omega
  subst this
  have e : ((digitB n).toNat : Int) = 48 + (n : Int) % 10 := by
    have : (digitB n).toNat = 48 + n % 10 := by simp [digitB]; omega
    omega
  simp only [List.getElem_cons_zero,e]
  exact cell_block (block_new w _) 0
theorem app_lists (x y : List UInt8) : (ByteArray.mk x.toArray) ++ (ByteArray.mk y.toArray) = ByteArray.mk (x ++ y).toArray := by
  rw [ByteArray.mk_append_mk]
theorem ret_strK {a b : ByteArray} (h : a = b) : Ending.returned (.string a) = .returned (.string b) := by rw [h]
theorem text_any (n : Nat) (w : World) (hn : n ≤ 1000000) :
    Calls Tryz.prog 29 #[.int .i64 n] w fun e w' => e = .returned (.string ⟨(textB n).toArray⟩) ∧ Below w.heap.size w w' := by
  induction n using Nat.strongRecOn generalizing w with
  | _ n ih =>
    have IH := hide ih
    clear ih
    have hcv := one_digit n w
    by_cases h10 : n < 10
    · have HT := hide (textB_small n h10)
      go_enter Tryz.func29,Tryz.ntmps29
      go_wp2
      go_ret
      exact ⟨by rw [HT.out]; rfl,(Below.refl _ _).alloc (Nat.le_refl _) _⟩
    · have HT := hide (textB_big n h10)
      have hlen := textB_len (n / 10)
      go_enter Tryz.func29,Tryz.ntmps29
      go_wp2_with fail
      rw [show (n : Int) / 10 = ((n / 10 : Nat) : Int) by omega]
      refine (IH.out (n / 10) (by omega) _ (by omega)).mono ?_
      rintro e w1 ⟨rfl,hb⟩
      have HB := hide hb
      clear hb hcv
      generalize textB (n / 10) = t at *
      go_wp2
      go_ret
      exact ⟨by rw [HT.out]; exact ret_strK (app_lists t [digitB n]),((Below.refl _ _).alloc (Nat.le_refl _) _).trans (HB.out.mono (by simp))⟩
structure Dp where
  xb : Nat
  ao : Option Addr
  b : Nat
  off : Nat
  cap : Nat
  zs : List Int
structure Dc (D : Dp) (i : Nat) (w : World) : Prop where
  blk : w.heap[D.xb]? = some (.cells #[.slice D.ao D.zs.length D.cap,.int .i64 i] 30 (0,0))
  cells : ∀ j,(h : j < D.zs.length) → w.cell? ⟨D.b,D.off + j,none⟩ = some (.int .i64 D.zs[j])
  addr : D.ao = some ⟨D.b,D.off,none⟩ ∨ D.zs = []
  ne : D.b ≠ D.xb
  old : D.b < D.xb
  wf : ∀ z ∈ D.zs,-9223372036854775808 ≤ z ∧ z ≤ 9223372036854775807
  le : i ≤ D.zs.length
  len : D.zs.length ≤ 140737488355328
def nextB (zs : List Int) (i : Nat) (n : Int) : Int × Nat := match zs[i]? with | none => (0,i) | some z => (pickB z n,i + 1)
theorem Dc.but {D : Dp} {i i' : Nat} {w w' : World} (h : Dc D i w) (hb : But D.xb w w') (hk : w'.heap[D.xb]? = some (.cells #[.slice D.ao D.zs.length D.cap,.int .i64 i'] 30 (0,0))) (hi : i' ≤ D.zs.length) : Dc D i' w' :=
  ⟨hk,fun j hj => (hb.cell (by have := lt_of_some h.blk; have := h.old; omega) h.ne _).trans (h.cells j hj),h.addr,h.ne,h.old,h.wf,hi,h.len⟩
theorem Dc.below {D : Dp} {i : Nat} {w w' : World} (h : Dc D i w) (hb : Below w.heap.size w w') : Dc D i w' :=
  h.but (But.of_below hb) ((hb.block _ (lt_of_some h.blk)).trans h.blk) h.le
theorem next_end {D : Dp} {i : Nat} {w : World} (h : Dc D i w) (hi : i < D.zs.length) :
    But D.xb w (w.setCell ⟨D.xb,1,none⟩ (.int .i64 ((i : Int) + 1))).drew.drew ∧ Dc D (i + 1) (w.setCell ⟨D.xb,1,none⟩ (.int .i64 ((i : Int) + 1))).drew.drew := by
  have hb : But D.xb w (w.setCell ⟨D.xb,1,none⟩ (.int .i64 ((i : Int) + 1))).drew.drew := ((But.refl _ _).setCell (p := ⟨D.xb,1,none⟩) (Or.inl rfl) _).drew.drew
  refine ⟨hb,h.but hb ?_ hi⟩
  exact (block_setCell h.blk 1 _)
theorem next_any (D : Dp) (i : Nat) (w : World) (hD : Dc D i w) (n : Int) (hn : 0 < n) (hn2 : n ≤ 1000000) :
    Calls Tryz.prog 22 #[.pointer (some ⟨D.xb,0,none⟩),.int .i64 n] w fun e w' => e = .returned (.int .i64 (nextB D.zs i n).1) ∧ But D.xb w w' ∧ Dc D (nextB D.zs i n).2 w' := by
  have h1 := lt_of_some hD.blk
  have hlen := hD.len
  have hle := hD.le
  have f0 := cell_block hD.blk 0
  have f1 := cell_block hD.blk 1
  have ff := free_block hD.blk
  simp at f0 f1
  by_cases hlt : i < D.zs.length
  · have hc := hD.cells i hlt
    have hw := hD.wf _ (List.getElem_mem hlt)
    have HB := hide (show nextB D.zs i n = (pickB D.zs[i] n,i + 1) by simp [nextB,List.getElem?_eq_getElem hlt])
    have ha : D.ao = some ⟨D.b,D.off,none⟩ := by
      rcases hD.addr with h | h
      · exact h
      · rw [h] at hlt; simp at hlt
    have HDc := hide hD
    rw [ha] at f0
    have HA := hide ha
    clear hD ha
    generalize D.zs[i] = z at *
    go_enter Tryz.func22,Tryz.ntmps22
    go_wp2
    go_region
    all_goals go_wp2
    go_region_with (go_at_call 17; refine (pick_any _ _ _ hw.1 hw.2 hn hn2).mono ?_; rintro e w' ⟨rfl,rfl⟩)
    all_goals
      go_wp2
      go_ret
      rw [HB.out]
      exact ⟨rfl,next_end HDc.out hlt⟩
  · have HB := hide (show nextB D.zs i n = (0,i) by simp [nextB,List.getElem?_eq_none (Nat.le_of_not_lt hlt)])
    have HDc := hide hD
    clear hD
    go_enter Tryz.func22,Tryz.ntmps22
    go_wp2
    go_region
    all_goals
      go_wp2
      go_ret
      rw [HB.out]
      exact ⟨rfl,(But.refl _ _).drew,HDc.out.below ((Below.refl _ _).drew)⟩
end Go.Proofs.YtpmmjkiclngpmaaGreatDoor
namespace Go.Proofs.YtpmmjkiclngpmaaGreatDoor
open Go.RowKit
structure Kn where
  name : List UInt8
  v : Int
structure Mk where
  s : List UInt8
  v : Int
def knCells (k : Kn) : List Value := [.string ⟨k.name.toArray⟩,.int .i64 k.v]
def mkVal (m : Mk) : Value := .agg #[.string ⟨m.s.toArray⟩,.int .i64 m.v]
def lastOf (k : Kn) : List Kn → Kn
  | [] => k
  | x :: r => lastOf (if x.name == k.name then x else k) r
def leafK (zs : List Int) (c : Int) (vs : List Kn) (i : Nat) : Mk × Nat :=
  if decide (0 < vs.length) && (c % 2 == 0) then
    (⟨(lastOf (vs.getD (nextB zs i vs.length).1.toNat ⟨[],0⟩) vs).name,(lastOf (vs.getD (nextB zs i vs.length).1.toNat ⟨[],0⟩) vs).v⟩,(nextB zs i vs.length).2)
  else (⟨textB (nextB zs i 1000).1.toNat,(nextB zs i 1000).1⟩,(nextB zs i 1000).2)
def leafT (zs : List Int) (i : Nat) : (List UInt8 × Bool) × Nat :=
  if (nextB zs i 2).1 == 0 then (([116,114,117,101],true),(nextB zs i 2).2) else (([102,97,108,115,101],false),(nextB zs i 2).2)
def stepNum (zs : List Int) (num : List Kn → Nat → Mk × Nat) (tru : List Kn → Nat → (List UInt8 × Bool) × Nat) (vs : List Kn) (i : Nat) : Mk × Nat :=
  let c := (nextB zs i 9).1
  let i1 := (nextB zs i 9).2
  if c < 2 then leafK zs c vs i1
  else if c == 2 then let a := num vs i1; let b := num vs a.2; (⟨[40] ++ a.1.s ++ [41,32,43,32,40] ++ b.1.s ++ [41],wrap64 (a.1.v + b.1.v)⟩,b.2)
  else if c == 3 then let a := num vs i1; let b := num vs a.2; (⟨[40] ++ a.1.s ++ [41,32,45,32,40] ++ b.1.s ++ [41],wrap64 (a.1.v - b.1.v)⟩,b.2)
  else if c == 4 then let a := num vs i1; let b := num vs a.2; (⟨[40] ++ a.1.s ++ [41,42,40] ++ b.1.s ++ [41],wrap64 (a.1.v * b.1.v)⟩,b.2)
  else if c == 5 then let a := num vs i1; (⟨[40] ++ a.1.s ++ [41,32,47,32] ++ textB (1 + (nextB zs a.2 9).1).toNat,wrap64 (a.1.v.tdiv (1 + (nextB zs a.2 9).1))⟩,(nextB zs a.2 9).2)
  else if c == 6 then let a := num vs i1; (⟨[45,40] ++ a.1.s ++ [41],wrap64 (-a.1.v)⟩,a.2)
  else if c == 7 then
    let nm := [[107],[110],[120,49]].getD (nextB zs i1 3).1.toNat []
    let a := num vs (nextB zs i1 3).2
    let b := num (vs ++ [⟨nm,a.1.v⟩]) a.2
    (⟨[108,101,116,32] ++ nm ++ [32,61,32] ++ a.1.s ++ [32,105,110,32] ++ b.1.s,b.1.v⟩,b.2)
  else
    let t := tru vs i1
    let a := num vs t.2
    let b := num vs a.2
    (⟨[105,102,32] ++ t.1.1 ++ [32,116,104,101,110,32] ++ a.1.s ++ [32,101,108,115,101,32] ++ b.1.s,if t.1.2 then a.1.v else b.1.v⟩,b.2)
def stepTru (zs : List Int) (num : List Kn → Nat → Mk × Nat) (tru : List Kn → Nat → (List UInt8 × Bool) × Nat) (vs : List Kn) (i : Nat) : (List UInt8 × Bool) × Nat :=
  let c := (nextB zs i 5).1
  let i1 := (nextB zs i 5).2
  if c == 0 then leafT zs i1
  else if c == 1 then let t := tru vs i1; (([33,40] ++ t.1.1 ++ [41],!t.1.2),t.2)
  else
    let a := num vs i1
    let b := num vs a.2
    if c == 2 then (([40] ++ a.1.s ++ [41,32,61,61,32,40] ++ b.1.s ++ [41],a.1.v == b.1.v),b.2)
    else (([40] ++ a.1.s ++ [41,60,40] ++ b.1.s ++ [41],decide (a.1.v < b.1.v)),b.2)
def makes (zs : List Int) : Nat → (List Kn → Nat → Mk × Nat) × (List Kn → Nat → (List UInt8 × Bool) × Nat)
  | 0 => (fun vs i => leafK zs (nextB zs i 9).1 vs (nextB zs i 9).2,fun vs i => leafT zs (nextB zs i 5).2)
  | d + 1 => (stepNum zs (makes zs d).1 (makes zs d).2,stepTru zs (makes zs d).1 (makes zs d).2)
def Vars (xb : Nat) (w : World) (v : Value) (vs : List Kn) : Prop :=
  ∃ g cap cur,v = .slice (some ⟨g,0,none⟩) vs.length cap ∧ g ≠ xb ∧ w.heap[g]? = some (.cells cur 35 (0,0)) ∧ vs.length ≤ cap ∧ cur.toList.take (vs.length * 2) = vs.flatMap knCells ∧ 0 < vs.length ∧ vs.length ≤ 100 ∧ ∀ k ∈ vs,k.name.length ≤ 2
theorem Vars.but {xb : Nat} {w w' : World} {v : Value} {vs : List Kn} (h : Vars xb w v vs) (hb : But xb w w') : Vars xb w' v vs := by
  obtain ⟨g,cap,cur,a,b,c,d⟩ := h
  exact ⟨g,cap,cur,a,b,(hb.block g (lt_of_some c) b).trans c,d⟩
def NumC (D : Dp) (d : Nat) (R : List Kn → Nat → Mk × Nat) : Prop :=
  ∀ vs v i w,Dc D i w → Vars D.xb w v vs → vs.length + d ≤ 100 → Calls Tryz.prog 14 #[.pointer (some ⟨D.xb,0,none⟩),.int .i64 d,v] w fun e w' =>
    e = .returned (mkVal (R vs i).1) ∧ But D.xb w w' ∧ Dc D (R vs i).2 w' ∧ (R vs i).1.s.length ≤ 2000 * 5 ^ d
def TruC (D : Dp) (d : Nat) (R : List Kn → Nat → (List UInt8 × Bool) × Nat) : Prop :=
  ∀ vs v i w,Dc D i w → Vars D.xb w v vs → vs.length + d ≤ 100 → Calls Tryz.prog 36 #[.pointer (some ⟨D.xb,0,none⟩),.int .i64 d,v] w fun e w' =>
    e = .returned (.tuple #[.string ⟨(R vs i).1.1.toArray⟩,.bool (R vs i).1.2]) ∧ But D.xb w w' ∧ Dc D (R vs i).2 w' ∧ (R vs i).1.1.length ≤ 2000 * 5 ^ d
theorem Dc.alloc {D : Dp} {i : Nat} {w : World} (h : Dc D i w) (o : Obj) : Dc D i (w.alloc o) := h.below ((Below.refl _ _).alloc (Nat.le_refl _) o)
theorem Dc.set {D : Dp} {i : Nat} {w : World} (h : Dc D i w) (b o : Nat) (u : Value) (h1 : D.xb < b) : Dc D i (w.setCell ⟨b,o,none⟩ u) :=
  ⟨(Below.heap_setCell _ _ _ _ (by show D.xb ≠ b; omega)).trans h.blk,fun j hj => by
    rw [show (w.setCell ⟨b,o,none⟩ u).cell? ⟨D.b,D.off + j,none⟩ = w.cell? ⟨D.b,D.off + j,none⟩ from by
      simp only [World.cell?,Below.heap_setCell w ⟨b,o,none⟩ u D.b (by have := h.old; show D.b ≠ b; omega)]]
    exact h.cells j hj,h.addr,h.ne,h.old,h.wf,h.le,h.len⟩
end Go.Proofs.YtpmmjkiclngpmaaGreatDoor
namespace Go.Proofs.YtpmmjkiclngpmaaGreatDoor
open Go.RowKit
theorem join5 (a b c d e : List UInt8) : ((((ByteArray.mk a.toArray ++ ByteArray.mk b.toArray) ++ ByteArray.mk c.toArray) ++ ByteArray.mk d.toArray) ++ ByteArray.mk e.toArray) = ByteArray.mk (a ++ b ++ c ++ d ++ e).toArray := by
  rw [app_lists,app_lists,app_lists,app_lists]
theorem number_add (D : Dp) (d : Nat) (hd : d ≤ 5) (N : List Kn → Nat → Mk × Nat) (hN : NumC D d N) (T : List Kn → Nat → (List UInt8 × Bool) × Nat) (hT : TruC D d T) (vs : List Kn) (v : Value) (i : Nat) (w : World) (hD : Dc D i w) (hV : Vars D.xb w v vs) (hvl : vs.length + (d + 1) ≤ 100) (hc : (nextB D.zs i 9).1 = 2) :
    Calls Tryz.prog 14 #[.pointer (some ⟨D.xb,0,none⟩),.int .i64 ((d : Int) + 1),v] w fun e w' =>
    e = .returned (mkVal (stepNum D.zs N T vs i).1) ∧ But D.xb w w' ∧ Dc D (stepNum D.zs N T vs i).2 w' ∧ (stepNum D.zs N T vs i).1.s.length ≤ 2000 * 5 ^ (d + 1) := by
  have h1 := lt_of_some hD.blk
  have h5 : 5 ^ d ≤ 5 ^ 5 := Nat.pow_le_pow_right (by omega) hd
  have hp5 : 1 ≤ 5 ^ d := Nat.pow_pos (by omega)
  have HN := hide hN
  have HT := hide hT
  have HD := hide hD
  have HV := hide hV
  have HC := hide hc
  have HE := hide (show stepNum D.zs N T vs i = (⟨[40] ++ (N vs (nextB D.zs i 9).2).1.s ++ [41,32,43,32,40] ++ (N vs (N vs (nextB D.zs i 9).2).2).1.s ++ [41],wrap64 ((N vs (nextB D.zs i 9).2).1.v + (N vs (N vs (nextB D.zs i 9).2).2).1.v)⟩,(N vs (N vs (nextB D.zs i 9).2).2).2) by simp [stepNum,hc])
  clear hN hT hD hV hc
  have e0 : ((d : Int) + 1 == 0) = false := by simp; omega
  go_enter Tryz.func14,Tryz.ntmps14
  go_wp2_with fail
  refine (next_any D i _ (by exact HD.out.alloc _) 9 (by omega) (by omega)).mono ?_
  rintro e w1 ⟨rfl,hb1,hd1⟩
  rw [HC.out]
  generalize hi1 : (nextB D.zs i 9).2 = i1 at *
  have HB1 := hide ((But.of_below ((Below.refl _ _).alloc (Nat.le_refl _) _)).trans hb1)
  have HZ1 := hide (res_block hb1 h1)
  have HD1 := hide hd1
  have HV1 := hide (HV.out.but HB1.out)
  have hs1 := hb1.size
  simp at hs1
  clear hb1 hd1 hi1
  go_wp2_with fail
  refine (HN.out vs v i1 _ (by exact HD1.out) (by exact HV1.out) (by omega)).mono ?_
  rintro e w2 ⟨rfl,hb,hd',hlenw2⟩
  generalize hr : N vs i1 = ra at *
  have hsw2 := hb.size
  have HB2 := hide (HB1.out.trans hb)
  have HZ2 := hide ((hb.block _ (lt_of_some HZ1.out) (by omega)).trans HZ1.out)
  have HD2 := hide hd'
  have HV2 := hide (HV1.out.but hb)
  clear hb hd' hr
  unfold mkVal
  go_wp2_with fail
  refine (HN.out vs v ra.2 _ (by exact HD2.out.alloc _) (by exact HV2.out.but (But.of_below ((Below.refl _ _).alloc (Nat.le_refl _) _))) (by omega)).mono ?_
  rintro e w3 ⟨rfl,hb,hd',hlenw3⟩
  generalize hr : N vs ra.2 = rb at *
  have hsw3 := hb.size
  have HB3 := hide ((HB2.out.alloc _).trans hb)
  have HZ3 := hide ((hb.block w.heap.size (by simp; omega) (by omega)).trans (block_alloc HZ2.out _))
  have HA3 := hide ((hb.block w2.heap.size (by simp) (by omega)).trans (block_new w2 _))
  have HD3 := hide hd'
  simp at hsw3
  clear hb hd' hr
  have l0 := cell_block HA3.out 0
  have l1 := cell_block HA3.out 1
  have ls := lt_of_some HA3.out
  have z0 := cell_block HZ3.out 0
  have z1 := cell_block HZ3.out 1
  have zf := free_block HZ3.out
  have zs := lt_of_some HZ3.out
  simp at l0 l1 z0 z1
  unfold mkVal
  go_wp2
  rw [HE.out]
  refine bodyPost_ret (v := .agg #[.string ((((⟨[40].toArray⟩ ++ ⟨ra.1.s.toArray⟩) ++ ⟨([41,32,43,32,40] : List UInt8).toArray⟩) ++ ⟨rb.1.s.toArray⟩) ++ ⟨[41].toArray⟩),.int .i64 (wrap64 (ra.1.v + rb.1.v))]) (by simp [results,Tryz.results14,go_sem,z0,z1,zs]) rfl
    ⟨by rw [join5]; rfl,((HB3.out.setCell (p := ⟨w.heap.size,0,none⟩) (Or.inr (Nat.le_refl _)) _).setCell (p := ⟨w.heap.size,1,none⟩) (Or.inr (Nat.le_refl _)) _).alloc _,((HD3.out.set w.heap.size 0 _ h1).set w.heap.size 1 _ h1).alloc _,?_⟩
  simp only [List.length_append,List.length_cons,List.length_nil,Nat.pow_succ]
  omega
theorem number_sub (D : Dp) (d : Nat) (hd : d ≤ 5) (N : List Kn → Nat → Mk × Nat) (hN : NumC D d N) (T : List Kn → Nat → (List UInt8 × Bool) × Nat) (hT : TruC D d T) (vs : List Kn) (v : Value) (i : Nat) (w : World) (hD : Dc D i w) (hV : Vars D.xb w v vs) (hvl : vs.length + (d + 1) ≤ 100) (hc : (nextB D.zs i 9).1 = 3) :
    Calls Tryz.prog 14 #[.pointer (some ⟨D.xb,0,none⟩),.int .i64 ((d : Int) + 1),v] w fun e w' =>
    e = .returned (mkVal (stepNum D.zs N T vs i).1) ∧ But D.xb w w' ∧ Dc D (stepNum D.zs N T vs i).2 w' ∧ (stepNum D.zs N T vs i).1.s.length ≤ 2000 * 5 ^ (d + 1) := by
  have h1 := lt_of_some hD.blk
  have h5 : 5 ^ d ≤ 5 ^ 5 := Nat.pow_le_pow_right (by omega) hd
  have hp5 : 1 ≤ 5 ^ d := Nat.pow_pos (by omega)
  have HN := hide hN
  have HT := hide hT
  have HD := hide hD
  have HV := hide hV
  have HC := hide hc
  have HE := hide (show stepNum D.zs N T vs i = (⟨[40] ++ (N vs (nextB D.zs i 9).2).1.s ++ [41,32,45,32,40] ++ (N vs (N vs (nextB D.zs i 9).2).2).1.s ++ [41],wrap64 ((N vs (nextB D.zs i 9).2).1.v - (N vs (N vs (nextB D.zs i 9).2).2).1.v)⟩,(N vs (N vs (nextB D.zs i 9).2).2).2) by simp [stepNum,hc])
  clear hN hT hD hV hc
  have e0 : ((d : Int) + 1 == 0) = false := by simp; omega
  go_enter Tryz.func14,Tryz.ntmps14
  go_wp2_with fail
  refine (next_any D i _ (by exact HD.out.alloc _) 9 (by omega) (by omega)).mono ?_
  rintro e w1 ⟨rfl,hb1,hd1⟩
  rw [HC.out]
  generalize hi1 : (nextB D.zs i 9).2 = i1 at *
  have HB1 := hide ((But.of_below ((Below.refl _ _).alloc (Nat.le_refl _) _)).trans hb1)
  have HZ1 := hide (res_block hb1 h1)
  have HD1 := hide hd1
  have HV1 := hide (HV.out.but HB1.out)
  have hs1 := hb1.size
  simp at hs1
  clear hb1 hd1 hi1
  go_wp2_with fail
  refine (HN.out vs v i1 _ (by exact HD1.out) (by exact HV1.out) (by omega)).mono ?_
  rintro e w2 ⟨rfl,hb,hd',hlenw2⟩
  generalize hr : N vs i1 = ra at *
  have hsw2 := hb.size
  have HB2 := hide (HB1.out.trans hb)
  have HZ2 := hide ((hb.block _ (lt_of_some HZ1.out) (by omega)).trans HZ1.out)
  have HD2 := hide hd'
  have HV2 := hide (HV1.out.but hb)
  clear hb hd' hr
  unfold mkVal
  go_wp2_with fail
  refine (HN.out vs v ra.2 _ (by exact HD2.out.alloc _) (by exact HV2.out.but (But.of_below ((Below.refl _ _).alloc (Nat.le_refl _) _))) (by omega)).mono ?_
  rintro e w3 ⟨rfl,hb,hd',hlenw3⟩
  generalize hr : N vs ra.2 = rb at *
  have hsw3 := hb.size
  have HB3 := hide ((HB2.out.alloc _).trans hb)
  have HZ3 := hide ((hb.block w.heap.size (by simp; omega) (by omega)).trans (block_alloc HZ2.out _))
  have HA3 := hide ((hb.block w2.heap.size (by simp) (by omega)).trans (block_new w2 _))
  have HD3 := hide hd'
  simp at hsw3
  clear hb hd' hr
  have l0 := cell_block HA3.out 0
  have l1 := cell_block HA3.out 1
  have ls := lt_of_some HA3.out
  have z0 := cell_block HZ3.out 0
  have z1 := cell_block HZ3.out 1
  have zf := free_block HZ3.out
  have zs := lt_of_some HZ3.out
  simp at l0 l1 z0 z1
  unfold mkVal
  go_wp2
  rw [HE.out]
  refine bodyPost_ret (v := .agg #[.string ((((⟨[40].toArray⟩ ++ ⟨ra.1.s.toArray⟩) ++ ⟨([41,32,45,32,40] : List UInt8).toArray⟩) ++ ⟨rb.1.s.toArray⟩) ++ ⟨[41].toArray⟩),.int .i64 (wrap64 (ra.1.v - rb.1.v))]) (by simp [results,Tryz.results14,go_sem,z0,z1,zs]) rfl
    ⟨by rw [join5]; rfl,((HB3.out.setCell (p := ⟨w.heap.size,0,none⟩) (Or.inr (Nat.le_refl _)) _).setCell (p := ⟨w.heap.size,1,none⟩) (Or.inr (Nat.le_refl _)) _).alloc _,((HD3.out.set w.heap.size 0 _ h1).set w.heap.size 1 _ h1).alloc _,?_⟩
  simp only [List.length_append,List.length_cons,List.length_nil,Nat.pow_succ]
  omega
theorem number_mul (D : Dp) (d : Nat) (hd : d ≤ 5) (N : List Kn → Nat → Mk × Nat) (hN : NumC D d N) (T : List Kn → Nat → (List UInt8 × Bool) × Nat) (hT : TruC D d T) (vs : List Kn) (v : Value) (i : Nat) (w : World) (hD : Dc D i w) (hV : Vars D.xb w v vs) (hvl : vs.length + (d + 1) ≤ 100) (hc : (nextB D.zs i 9).1 = 4) :
    Calls Tryz.prog 14 #[.pointer (some ⟨D.xb,0,none⟩),.int .i64 ((d : Int) + 1),v] w fun e w' =>
    e = .returned (mkVal (stepNum D.zs N T vs i).1) ∧ But D.xb w w' ∧ Dc D (stepNum D.zs N T vs i).2 w' ∧ (stepNum D.zs N T vs i).1.s.length ≤ 2000 * 5 ^ (d + 1) := by
  have h1 := lt_of_some hD.blk
  have h5 : 5 ^ d ≤ 5 ^ 5 := Nat.pow_le_pow_right (by omega) hd
  have hp5 : 1 ≤ 5 ^ d := Nat.pow_pos (by omega)
  have HN := hide hN
  have HT := hide hT
  have HD := hide hD
  have HV := hide hV
  have HC := hide hc
  have HE := hide (show stepNum D.zs N T vs i = (⟨[40] ++ (N vs (nextB D.zs i 9).2).1.s ++ [41,42,40] ++ (N vs (N vs (nextB D.zs i 9).2).2).1.s ++ [41],wrap64 ((N vs (nextB D.zs i 9).2).1.v * (N vs (N vs (nextB D.zs i 9).2).2).1.v)⟩,(N vs (N vs (nextB D.zs i 9).2).2).2) by simp [stepNum,hc])
  clear hN hT hD hV hc
  have e0 : ((d : Int) + 1 == 0) = false := by simp; omega
  go_enter Tryz.func14,Tryz.ntmps14
  go_wp2_with fail
  refine (next_any D i _ (by exact HD.out.alloc _) 9 (by omega) (by omega)).mono ?_
  rintro e w1 ⟨rfl,hb1,hd1⟩
  rw [HC.out]
  generalize hi1 : (nextB D.zs i 9).2 = i1 at *
  have HB1 := hide ((But.of_below ((Below.refl _ _).alloc (Nat.le_refl _) _)).trans hb1)
  have HZ1 := hide (res_block hb1 h1)
  have HD1 := hide hd1
  have HV1 := hide (HV.out.but HB1.out)
  have hs1 := hb1.size
  simp at hs1
  clear hb1 hd1 hi1
  go_wp2_with fail
  refine (HN.out vs v i1 _ (by exact HD1.out) (by exact HV1.out) (by omega)).mono ?_
  rintro e w2 ⟨rfl,hb,hd',hlenw2⟩
  generalize hr : N vs i1 = ra at *
  have hsw2 := hb.size
  have HB2 := hide (HB1.out.trans hb)
  have HZ2 := hide ((hb.block _ (lt_of_some HZ1.out) (by omega)).trans HZ1.out)
  have HD2 := hide hd'
  have HV2 := hide (HV1.out.but hb)
  clear hb hd' hr
  unfold mkVal
  go_wp2_with fail
  refine (HN.out vs v ra.2 _ (by exact HD2.out.alloc _) (by exact HV2.out.but (But.of_below ((Below.refl _ _).alloc (Nat.le_refl _) _))) (by omega)).mono ?_
  rintro e w3 ⟨rfl,hb,hd',hlenw3⟩
  generalize hr : N vs ra.2 = rb at *
  have hsw3 := hb.size
  have HB3 := hide ((HB2.out.alloc _).trans hb)
  have HZ3 := hide ((hb.block w.heap.size (by simp; omega) (by omega)).trans (block_alloc HZ2.out _))
  have HA3 := hide ((hb.block w2.heap.size (by simp) (by omega)).trans (block_new w2 _))
  have HD3 := hide hd'
  simp at hsw3
  clear hb hd' hr
  have l0 := cell_block HA3.out 0
  have l1 := cell_block HA3.out 1
  have ls := lt_of_some HA3.out
  have z0 := cell_block HZ3.out 0
  have z1 := cell_block HZ3.out 1
  have zf := free_block HZ3.out
  have zs := lt_of_some HZ3.out
  simp at l0 l1 z0 z1
  unfold mkVal
  go_wp2
  rw [HE.out]
  refine bodyPost_ret (v := .agg #[.string ((((⟨[40].toArray⟩ ++ ⟨ra.1.s.toArray⟩) ++ ⟨([41,42,40] : List UInt8).toArray⟩) ++ ⟨rb.1.s.toArray⟩) ++ ⟨[41].toArray⟩),.int .i64 (wrap64 (ra.1.v * rb.1.v))]) (by simp [results,Tryz.results14,go_sem,z0,z1,zs]) rfl
    ⟨by rw [join5]; rfl,((HB3.out.setCell (p := ⟨w.heap.size,0,none⟩) (Or.inr (Nat.le_refl _)) _).setCell (p := ⟨w.heap.size,1,none⟩) (Or.inr (Nat.le_refl _)) _).alloc _,((HD3.out.set w.heap.size 0 _ h1).set w.heap.size 1 _ h1).alloc _,?_⟩
  simp only [List.length_append,List.length_cons,List.length_nil,Nat.pow_succ]
  omega
end Go.Proofs.YtpmmjkiclngpmaaGreatDoor
namespace Go.Proofs.YtpmmjkiclngpmaaGreatDoor
open Go.RowKit
theorem join3 (a b c : List UInt8) : ((ByteArray.mk a.toArray ++ ByteArray.mk b.toArray) ++ ByteArray.mk c.toArray) = ByteArray.mk (a ++ b ++ c).toArray := by
  rw [app_lists,app_lists]
theorem join4 (a b c d : List UInt8) : (((ByteArray.mk a.toArray ++ ByteArray.mk b.toArray) ++ ByteArray.mk c.toArray) ++ ByteArray.mk d.toArray) = ByteArray.mk (a ++ b ++ c ++ d).toArray := by
  rw [app_lists,app_lists,app_lists]
theorem join6 (a b c d e f : List UInt8) : (((((ByteArray.mk a.toArray ++ ByteArray.mk b.toArray) ++ ByteArray.mk c.toArray) ++ ByteArray.mk d.toArray) ++ ByteArray.mk e.toArray) ++ ByteArray.mk f.toArray) = ByteArray.mk (a ++ b ++ c ++ d ++ e ++ f).toArray := by
  rw [app_lists,app_lists,app_lists,app_lists,app_lists]
theorem number_neg (D : Dp) (d : Nat) (hd : d ≤ 5) (N : List Kn → Nat → Mk × Nat) (hN : NumC D d N) (T : List Kn → Nat → (List UInt8 × Bool) × Nat) (hT : TruC D d T) (vs : List Kn) (v : Value) (i : Nat) (w : World) (hD : Dc D i w) (hV : Vars D.xb w v vs) (hvl : vs.length + (d + 1) ≤ 100) (hc : (nextB D.zs i 9).1 = 6) :
    Calls Tryz.prog 14 #[.pointer (some ⟨D.xb,0,none⟩),.int .i64 ((d : Int) + 1),v] w fun e w' =>
    e = .returned (mkVal (stepNum D.zs N T vs i).1) ∧ But D.xb w w' ∧ Dc D (stepNum D.zs N T vs i).2 w' ∧ (stepNum D.zs N T vs i).1.s.length ≤ 2000 * 5 ^ (d + 1) := by
  have h1 := lt_of_some hD.blk
  have h5 : 5 ^ d ≤ 5 ^ 5 := Nat.pow_le_pow_right (by omega) hd
  have hp5 : 1 ≤ 5 ^ d := Nat.pow_pos (by omega)
  have HN := hide hN
  have HT := hide hT
  have HD := hide hD
  have HV := hide hV
  have HC := hide hc
  have HE := hide (show stepNum D.zs N T vs i = (⟨[45,40] ++ (N vs (nextB D.zs i 9).2).1.s ++ [41],wrap64 (-(N vs (nextB D.zs i 9).2).1.v)⟩,(N vs (nextB D.zs i 9).2).2) by simp [stepNum,hc])
  clear hN hT hD hV hc
  have e0 : ((d : Int) + 1 == 0) = false := by simp; omega
  go_enter Tryz.func14,Tryz.ntmps14
  go_wp2_with fail
  refine (next_any D i _ (by exact HD.out.alloc _) 9 (by omega) (by omega)).mono ?_
  rintro e w1 ⟨rfl,hb1,hd1⟩
  rw [HC.out]
  generalize hi1 : (nextB D.zs i 9).2 = i1 at *
  have HB1 := hide ((But.of_below ((Below.refl _ _).alloc (Nat.le_refl _) _)).trans hb1)
  have HZ1 := hide (res_block hb1 h1)
  have HD1 := hide hd1
  have HV1 := hide (HV.out.but HB1.out)
  have hs1 := hb1.size
  simp at hs1
  clear hb1 hd1 hi1
  go_wp2_with fail
  refine (HN.out vs v i1 _ (by exact HD1.out) (by exact HV1.out) (by omega)).mono ?_
  rintro e w2 ⟨rfl,hb,hd',hlenw2⟩
  generalize hr : N vs i1 = ra at *
  have hsw2 := hb.size
  have HB2 := hide (HB1.out.trans hb)
  have HZ2 := hide ((hb.block _ (lt_of_some HZ1.out) (by omega)).trans HZ1.out)
  have HD2 := hide hd'
  clear hb hd' hr
  have z0 := cell_block HZ2.out 0
  have z1 := cell_block HZ2.out 1
  have zf := free_block HZ2.out
  have zs := lt_of_some HZ2.out
  simp at z0 z1
  unfold mkVal
  go_wp2
  rw [HE.out]
  refine bodyPost_ret (v := .agg #[.string ((⟨[45,40].toArray⟩ ++ ⟨ra.1.s.toArray⟩) ++ ⟨[41].toArray⟩),.int .i64 (wrap64 (-ra.1.v))]) (by simp [results,Tryz.results14,go_sem,z0,z1,zs]) rfl
    ⟨by rw [join3]; rfl,((HB2.out.setCell (p := ⟨w.heap.size,0,none⟩) (Or.inr (Nat.le_refl _)) _).setCell (p := ⟨w.heap.size,1,none⟩) (Or.inr (Nat.le_refl _)) _).alloc _,((HD2.out.set w.heap.size 0 _ h1).set w.heap.size 1 _ h1).alloc _,?_⟩
  simp only [List.length_append,List.length_cons,List.length_nil,Nat.pow_succ]
  omega
theorem number_if (D : Dp) (d : Nat) (hd : d ≤ 5) (N : List Kn → Nat → Mk × Nat) (hN : NumC D d N) (T : List Kn → Nat → (List UInt8 × Bool) × Nat) (hT : TruC D d T) (vs : List Kn) (v : Value) (i : Nat) (w : World) (hD : Dc D i w) (hV : Vars D.xb w v vs) (hvl : vs.length + (d + 1) ≤ 100) (hc : (nextB D.zs i 9).1 = 8) :
    Calls Tryz.prog 14 #[.pointer (some ⟨D.xb,0,none⟩),.int .i64 ((d : Int) + 1),v] w fun e w' =>
    e = .returned (mkVal (stepNum D.zs N T vs i).1) ∧ But D.xb w w' ∧ Dc D (stepNum D.zs N T vs i).2 w' ∧ (stepNum D.zs N T vs i).1.s.length ≤ 2000 * 5 ^ (d + 1) := by
  have h1 := lt_of_some hD.blk
  have h5 : 5 ^ d ≤ 5 ^ 5 := Nat.pow_le_pow_right (by omega) hd
  have hp5 : 1 ≤ 5 ^ d := Nat.pow_pos (by omega)
  have HN := hide hN
  have HT := hide hT
  have HD := hide hD
  have HV := hide hV
  have HC := hide hc
  have HE := hide (show stepNum D.zs N T vs i = (⟨[105,102,32] ++ (T vs (nextB D.zs i 9).2).1.1 ++ [32,116,104,101,110,32] ++ (N vs (T vs (nextB D.zs i 9).2).2).1.s ++ [32,101,108,115,101,32] ++ (N vs (N vs (T vs (nextB D.zs i 9).2).2).2).1.s,if (T vs (nextB D.zs i 9).2).1.2 then (N vs (T vs (nextB D.zs i 9).2).2).1.v else (N vs (N vs (T vs (nextB D.zs i 9).2).2).2).1.v⟩,(N vs (N vs (T vs (nextB D.zs i 9).2).2).2).2) by simp [stepNum,hc])
  clear hN hT hD hV hc
  have e0 : ((d : Int) + 1 == 0) = false := by simp; omega
  go_enter Tryz.func14,Tryz.ntmps14
  go_wp2_with fail
  refine (next_any D i _ (by exact HD.out.alloc _) 9 (by omega) (by omega)).mono ?_
  rintro e w1 ⟨rfl,hb1,hd1⟩
  rw [HC.out]
  generalize hi1 : (nextB D.zs i 9).2 = i1 at *
  have HB1 := hide ((But.of_below ((Below.refl _ _).alloc (Nat.le_refl _) _)).trans hb1)
  have HZ1 := hide (res_block hb1 h1)
  have HD1 := hide hd1
  have HV1 := hide (HV.out.but HB1.out)
  have hs1 := hb1.size
  simp at hs1
  clear hb1 hd1 hi1
  go_wp2_with fail
  refine (HT.out vs v i1 _ (by exact HD1.out) (by exact HV1.out) (by omega)).mono ?_
  rintro e w2 ⟨rfl,hb,hd',hlenw2⟩
  generalize hr : T vs i1 = rt at *
  have hsw2 := hb.size
  have HB2 := hide (HB1.out.trans hb)
  have HZ2 := hide ((hb.block _ (lt_of_some HZ1.out) (by omega)).trans HZ1.out)
  have HD2 := hide hd'
  have HV2 := hide (HV1.out.but hb)
  clear hb hd' hr
  go_wp2_with fail
  refine (HN.out vs v rt.2 _ (by exact HD2.out) (by exact HV2.out) (by omega)).mono ?_
  rintro e w3 ⟨rfl,hb,hd',hlenw3⟩
  generalize hr : N vs rt.2 = ra at *
  have hsw3 := hb.size
  have HB3 := hide (HB2.out.trans hb)
  have HZ3 := hide ((hb.block _ (lt_of_some HZ2.out) (by omega)).trans HZ2.out)
  have HD3 := hide hd'
  have HV3 := hide (HV2.out.but hb)
  clear hb hd' hr
  unfold mkVal
  go_wp2_with fail
  refine (HN.out vs v ra.2 _ (by exact HD3.out.alloc _) (by exact HV3.out.but (But.of_below ((Below.refl _ _).alloc (Nat.le_refl _) _))) (by omega)).mono ?_
  rintro e w4 ⟨rfl,hb,hd',hlenw4⟩
  generalize hr : N vs ra.2 = rb at *
  have hsw4 := hb.size
  have HB4 := hide ((HB3.out.alloc _).trans hb)
  have HZ4 := hide ((hb.block w.heap.size (by simp; omega) (by omega)).trans (block_alloc HZ3.out _))
  have HA4 := hide ((hb.block w3.heap.size (by simp) (by omega)).trans (block_new w3 _))
  have HD4 := hide hd'
  simp at hsw4
  clear hb hd' hr
  have l0 := cell_block HA4.out 0
  have l1 := cell_block HA4.out 1
  have ls := lt_of_some HA4.out
  have z0 := cell_block HZ4.out 0
  have z1 := cell_block HZ4.out 1
  have zf := free_block HZ4.out
  have zs := lt_of_some HZ4.out
  simp at l0 l1 z0 z1
  unfold mkVal
  rcases hrt : rt.1.2 with _ | _
  all_goals
    go_wp2
    rw [HE.out]
    refine bodyPost_ret (v := .agg #[.string (((((⟨[105,102,32].toArray⟩ ++ ⟨rt.1.1.toArray⟩) ++ ⟨[32,116,104,101,110,32].toArray⟩) ++ ⟨ra.1.s.toArray⟩) ++ ⟨[32,101,108,115,101,32].toArray⟩) ++ ⟨rb.1.s.toArray⟩),.int .i64 (if rt.1.2 then ra.1.v else rb.1.v)]) (by simp [results,Tryz.results14,go_sem,z0,z1,zs,hrt]) rfl
      ⟨by rw [join6]; rfl,((HB4.out.setCell (p := ⟨w.heap.size,0,none⟩) (Or.inr (Nat.le_refl _)) _).setCell (p := ⟨w.heap.size,1,none⟩) (Or.inr (Nat.le_refl _)) _).alloc _,((HD4.out.set w.heap.size 0 _ h1).set w.heap.size 1 _ h1).alloc _,?_⟩
    simp only [List.length_append,List.length_cons,List.length_nil,Nat.pow_succ]
    omega
end Go.Proofs.YtpmmjkiclngpmaaGreatDoor
