/- YtpmmjkiclngpmaaGreatDoorV03 -/
import Derived.Test.YtpmmjkiclngpmaaGreatDoorB01
import Derived.Deep.RegionWith
import Derived.Test.YtpmmjkiclngpmaaGreatDoorB02
import Derived.Test.YtpmmjkiclngpmaaGreatDoorB19
import Derived.Deep.RegionHeld3
import Derived.Test.YtpmmjkiclngpmaaGreatDoorB30
import Derived.Test.YtpmmjkiclngpmaaGreatDoorB08
import Derived.Test.YtpmmjkiclngpmaaGreatDoorB23
set_option maxRecDepth 100000
set_option linter.unusedSimpArgs false
set_option linter.unusedVariables false
set_option maxHeartbeats 12800000
namespace Go.Proofs.YtpmmjkiclngpmaaGreatDoor
open Go.RowKit
def pickB (c n : Int) : Int := (if c < 0 then -(c + 1) else c) % n
theorem pickB_bd (c n : Int) (h : 0 < n) : 0 ≤ pickB c n ∧ pickB c n < n := ⟨Int.emod_nonneg _ (by omega),Int.emod_lt_of_pos _ h⟩
theorem pick_any (c n : Int) (w : World) (h1 : -9223372036854775808 ≤ c) (h2 : c ≤ 9223372036854775807) (hn : 0 < n) (hn2 : n ≤ 1000000) :
    Calls Tryz.prog 17 #[.int .i64 c,.int .i64 n] w fun e w' => e = .returned (.int .i64 (pickB c n)) ∧ w' = w := by
  by_cases hc : c < 0
  · have HP := hide (show -((c + 1).tmod n) = pickB c n by
      rw [← Int.neg_tmod,Int.tmod_eq_emod_of_nonneg (by omega)]; simp [pickB,hc])
    go_enter Tryz.func17,Tryz.ntmps17
    go_wp2
    go_ret
    exact ⟨ret_int HP.out,rfl⟩
  · have HP := hide (show c % n = pickB c n by simp [pickB,hc])
    go_enter Tryz.func17,Tryz.ntmps17
    go_wp2
    go_ret
    exact ⟨ret_int HP.out,rfl⟩
def digitB (n : Nat) : UInt8 := UInt8.ofNat (48 + n % 10)
def textN : Nat → Nat → List UInt8
  | 0,_ => []
  | f + 1,n => if n < 10 then [digitB n] else textN f (n / 10) ++ [digitB n]
def textB (n : Nat) : List UInt8 := textN (n + 1) n
theorem textN_enough (f g n : Nat) (hf : n < f) (hg : n < g) : textN f n = textN g n := by
  induction f generalizing g n with
  | zero => omega
  | succ f ih =>
    cases g with
    | zero => omega
    | succ g =>
      simp only [textN]
      split
      · rfl
      · rw [ih g (n / 10) (by omega) (by omega)]
theorem textB_small (n : Nat) (h : n < 10) : textB n = [digitB n] := by simp [textB,textN,h]
theorem textB_big (n : Nat) (h : ¬ n < 10) : textB n = textB (n / 10) ++ [digitB n] := by
  rw [textB,textN,if_neg h,textB,textN_enough n (n / 10 + 1) (n / 10) (by omega) (by omega)]
theorem textB_len (n : Nat) : (textB n).length ≤ n + 1 := by
  have : ∀ f n,(textN f n).length ≤ f := by
    intro f
    induction f with
    | zero => intro n; simp [textN]
    | succ f ih =>
      intro n
      simp only [textN]
      split
      · simp
      · have := ih (n / 10); simp; omega
  exact this (n + 1) n
theorem one_digit (n : Nat) (w : World) : (convert 115 9 (.slice (some ⟨w.heap.size,0,none⟩) 1 1)).run Tryz.prog (w.alloc (.cells #[.int .u8 (48 + (n : Int) % 10)] 5)) =
    .ok (.string ⟨[digitB n].toArray⟩) (w.alloc (.cells #[.int .u8 (48 + (n : Int) % 10)] 5)) := by
  refine run_convert_bytes_back (P := Tryz.prog) _ 115 9 5 ⟨w.heap.size,0,none⟩ 1 [digitB n] Tryz.underlying115 Tryz.underlying5 Tryz.underlying9 ?_
  intro j hj
  have : j = 0 := by simp at hj; omega
  subst this
  have e : ((digitB n).toNat : Int) = 48 + (n : Int) % 10 := by
    have : (digitB n).toNat = 48 + n % 10 := by simp [digitB]; omega
    omega
  simp only [List.getElem_cons_zero,e]
  exact cell_block (block_new w _) 0
theorem app_lists (x y : List UInt8) : (ByteArray.mk x.toArray) ++ (ByteArray.mk y.toArray) = ByteArray.mk (x ++ y).toArray := by
  rw [ByteArray.mk_append_mk]
theorem ret_strK {a b : ByteArray} (h : a = b) : Ending.returned (.string a) = .returned (.string b) := by rw [h]
theorem text_any (n : Nat) (w : World) (hn : n ≤ 1000000) :
    Calls Tryz.prog 29 #[.int .i64 n] w fun e w' => e = .returned (.string ⟨(textB n).toArray⟩) ∧ Below w.heap.size w w' := by
  induction n using Nat.strongRecOn generalizing w with
  | _ n ih =>
    have IH := hide ih
    clear ih
    have hcv := one_digit n w
    by_cases h10 : n < 10
    · have HT := hide (textB_small n h10)
      go_enter Tryz.func29,Tryz.ntmps29
      go_wp2
      go_ret
      exact ⟨by rw [HT.out]; rfl,(Below.refl _ _).alloc (Nat.le_refl _) _⟩
    · have HT := hide (textB_big n h10)
      have hlen := textB_len (n / 10)
      go_enter Tryz.func29,Tryz.ntmps29
      go_wp2_with fail
      rw [show (n : Int) / 10 = ((n / 10 : Nat) : Int) by omega]
      refine (IH.out (n / 10) (by omega) _ (by omega)).mono ?_
      rintro e w1 ⟨rfl,hb⟩
      have HB := hide hb
      clear hb hcv
      generalize textB (n / 10) = t at *
      go_wp2
      go_ret
      exact ⟨by rw [HT.out]; exact ret_strK (app_lists t [digitB n]),((Below.refl _ _).alloc (Nat.le_refl _) _).trans (HB.out.mono (by simp))⟩
structure Dp where
  xb : Nat
  ao : Option Addr
  b : Nat
  off : Nat
  cap : Nat
  zs : List Int
structure Dc (D : Dp) (i : Nat) (w : World) : Prop where
  blk : w.heap[D.xb]? = some (.cells #[.slice D.ao D.zs.length D.cap,.int .i64 i] 30 (0,0))
  cells : ∀ j,(h : j < D.zs.length) → w.cell? ⟨D.b,D.off + j,none⟩ = some (.int .i64 D.zs[j])
  addr : D.ao = some ⟨D.b,D.off,none⟩ ∨ D.zs = []
  ne : D.b ≠ D.xb
  old : D.b < D.xb
  wf : ∀ z ∈ D.zs,-9223372036854775808 ≤ z ∧ z ≤ 9223372036854775807
  le : i ≤ D.zs.length
  len : D.zs.length ≤ 140737488355328
def nextB (zs : List Int) (i : Nat) (n : Int) : Int × Nat := match zs[i]? with | none => (0,i) | some z => (pickB z n,i + 1)
theorem Dc.but {D : Dp} {i i' : Nat} {w w' : World} (h : Dc D i w) (hb : But D.xb w w') (hk : w'.heap[D.xb]? = some (.cells #[.slice D.ao D.zs.length D.cap,.int .i64 i'] 30 (0,0))) (hi : i' ≤ D.zs.length) : Dc D i' w' :=
  ⟨hk,fun j hj => (hb.cell (by have := lt_of_some h.blk; have := h.old; omega) h.ne _).trans (h.cells j hj),h.addr,h.ne,h.old,h.wf,hi,h.len⟩
theorem Dc.below {D : Dp} {i : Nat} {w w' : World} (h : Dc D i w) (hb : Below w.heap.size w w') : Dc D i w' :=
  h.but (But.of_below hb) ((hb.block _ (lt_of_some h.blk)).trans h.blk) h.le
theorem next_end {D : Dp} {i : Nat} {w : World} (h : Dc D i w) (hi : i < D.zs.length) :
    But D.xb w (w.setCell ⟨D.xb,1,none⟩ (.int .i64 ((i : Int) + 1))).drew.drew ∧ Dc D (i + 1) (w.setCell ⟨D.xb,1,none⟩ (.int .i64 ((i : Int) + 1))).drew.drew := by
  have hb : But D.xb w (w.setCell ⟨D.xb,1,none⟩ (.int .i64 ((i : Int) + 1))).drew.drew := ((But.refl _ _).setCell (p := ⟨D.xb,1,none⟩) (Or.inl rfl) _).drew.drew
  refine ⟨hb,h.but hb ?_ hi⟩
  exact (block_setCell h.blk 1 _)
theorem next_any (D : Dp) (i : Nat) (w : World) (hD : Dc D i w) (n : Int) (hn : 0 < n) (hn2 : n ≤ 1000000) :
    Calls Tryz.prog 22 #[.pointer (some ⟨D.xb,0,none⟩),.int .i64 n] w fun e w' => e = .returned (.int .i64 (nextB D.zs i n).1) ∧ But D.xb w w' ∧ Dc D (nextB D.zs i n).2 w' := by
  have h1 := lt_of_some hD.blk
  have hlen := hD.len
  have hle := hD.le
  have f0 := cell_block hD.blk 0
  have f1 := cell_block hD.blk 1
  have ff := free_block hD.blk
  simp at f0 f1
  by_cases hlt : i < D.zs.length
  · have hc := hD.cells i hlt
    have hw := hD.wf _ (List.getElem_mem hlt)
    have HB := hide (show nextB D.zs i n = (pickB D.zs[i] n,i + 1) by simp [nextB,List.getElem?_eq_getElem hlt])
    have ha : D.ao = some ⟨D.b,D.off,none⟩ := by
      rcases hD.addr with h | h
      · exact h
      · rw [h] at hlt; simp at hlt
    have HDc := hide hD
    rw [ha] at f0
    have HA := hide ha
    clear hD ha
    generalize D.zs[i] = z at *
    go_enter Tryz.func22,Tryz.ntmps22
    go_wp2
    go_region
    all_goals go_wp2
    go_region_with (go_at_call 17; refine (pick_any _ _ _ hw.1 hw.2 hn hn2).mono ?_; rintro e w' ⟨rfl,rfl⟩)
    all_goals
      go_wp2
      go_ret
      rw [HB.out]
      exact ⟨rfl,next_end HDc.out hlt⟩
  · have HB := hide (show nextB D.zs i n = (0,i) by simp [nextB,List.getElem?_eq_none (Nat.le_of_not_lt hlt)])
    have HDc := hide hD
    clear hD
    go_enter Tryz.func22,Tryz.ntmps22
    go_wp2
    go_region
    all_goals
      go_wp2
      go_ret
      rw [HB.out]
      exact ⟨rfl,(But.refl _ _).drew,HDc.out.below ((Below.refl _ _).drew)⟩
end Go.Proofs.YtpmmjkiclngpmaaGreatDoor
namespace Go.Proofs.YtpmmjkiclngpmaaGreatDoor
open Go.RowKit
structure Kn where
  name : List UInt8
  v : Int
structure Mk where
  s : List UInt8
  v : Int
def lastOf (k : Kn) : List Kn → Kn
  | [] => k
  | x :: r => lastOf (if x.name == k.name then x else k) r
def leafK (zs : List Int) (c : Int) (vs : List Kn) (i : Nat) : Mk × Nat :=
  if decide (0 < vs.length) && (c % 2 == 0) then
    (⟨(lastOf (vs.getD (nextB zs i vs.length).1.toNat ⟨[],0⟩) vs).name,(lastOf (vs.getD (nextB zs i vs.length).1.toNat ⟨[],0⟩) vs).v⟩,(nextB zs i vs.length).2)
  else (⟨textB (nextB zs i 1000).1.toNat,(nextB zs i 1000).1⟩,(nextB zs i 1000).2)
def leafT (zs : List Int) (i : Nat) : (List UInt8 × Bool) × Nat :=
  if (nextB zs i 2).1 == 0 then (([116,114,117,101],true),(nextB zs i 2).2) else (([102,97,108,115,101],false),(nextB zs i 2).2)
def stepNum (zs : List Int) (num : List Kn → Nat → Mk × Nat) (tru : List Kn → Nat → (List UInt8 × Bool) × Nat) (vs : List Kn) (i : Nat) : Mk × Nat :=
  let c := (nextB zs i 9).1
  let i1 := (nextB zs i 9).2
  if c < 2 then leafK zs c vs i1
  else if c == 2 then let a := num vs i1; let b := num vs a.2; (⟨[40] ++ a.1.s ++ [41,32,43,32,40] ++ b.1.s ++ [41],wrap64 (a.1.v + b.1.v)⟩,b.2)
  else if c == 3 then let a := num vs i1; let b := num vs a.2; (⟨[40] ++ a.1.s ++ [41,32,45,32,40] ++ b.1.s ++ [41],wrap64 (a.1.v - b.1.v)⟩,b.2)
  else if c == 4 then let a := num vs i1; let b := num vs a.2; (⟨[40] ++ a.1.s ++ [41,42,40] ++ b.1.s ++ [41],wrap64 (a.1.v * b.1.v)⟩,b.2)
  else if c == 5 then let a := num vs i1; (⟨[40] ++ a.1.s ++ [41,32,47,32] ++ textB (1 + (nextB zs a.2 9).1).toNat,wrap64 (a.1.v.tdiv (1 + (nextB zs a.2 9).1))⟩,(nextB zs a.2 9).2)
  else if c == 6 then let a := num vs i1; (⟨[45,40] ++ a.1.s ++ [41],wrap64 (-a.1.v)⟩,a.2)
  else if c == 7 then
    let nm := [[107],[110],[120,49]].getD (nextB zs i1 3).1.toNat []
    let a := num vs (nextB zs i1 3).2
    let b := num (vs ++ [⟨nm,a.1.v⟩]) a.2
    (⟨[108,101,116,32] ++ nm ++ [32,61,32] ++ a.1.s ++ [32,105,110,32] ++ b.1.s,b.1.v⟩,b.2)
  else
    let t := tru vs i1
    let a := num vs t.2
    let b := num vs a.2
    (⟨[105,102,32] ++ t.1.1 ++ [32,116,104,101,110,32] ++ a.1.s ++ [32,101,108,115,101,32] ++ b.1.s,if t.1.2 then a.1.v else b.1.v⟩,b.2)
def stepTru (zs : List Int) (num : List Kn → Nat → Mk × Nat) (tru : List Kn → Nat → (List UInt8 × Bool) × Nat) (vs : List Kn) (i : Nat) : (List UInt8 × Bool) × Nat :=
  let c := (nextB zs i 5).1
  let i1 := (nextB zs i 5).2
  if c == 0 then leafT zs i1
  else if c == 1 then let t := tru vs i1; (([33,40] ++ t.1.1 ++ [41],!t.1.2),t.2)
  else
    let a := num vs i1
    let b := num vs a.2
    if c == 2 then (([40] ++ a.1.s ++ [41,32,61,61,32,40] ++ b.1.s ++ [41],a.1.v == b.1.v),b.2)
    else (([40] ++ a.1.s ++ [41,60,40] ++ b.1.s ++ [41],decide (a.1.v < b.1.v)),b.2)
def makes (zs : List Int) : Nat → (List Kn → Nat → Mk × Nat) × (List Kn → Nat → (List UInt8 × Bool) × Nat)
  | 0 => (fun vs i => leafK zs (nextB zs i 9).1 vs (nextB zs i 9).2,fun vs i => leafT zs (nextB zs i 5).2)
  | d + 1 => (stepNum zs (makes zs d).1 (makes zs d).2,stepTru zs (makes zs d).1 (makes zs d).2)
end Go.Proofs.YtpmmjkiclngpmaaGreatDoor
namespace Go.Proofs.YtpmmjkiclngpmaaGreatDoor
open Go.RowKit
end Go.Proofs.YtpmmjkiclngpmaaGreatDoor
namespace Go.Proofs.YtpmmjkiclngpmaaGreatDoor
open Go.RowKit
end Go.Proofs.YtpmmjkiclngpmaaGreatDoor
namespace Go.Proofs.YtpmmjkiclngpmaaGreatDoor
open Go.RowKit
end Go.Proofs.YtpmmjkiclngpmaaGreatDoor
namespace Go.Proofs.YtpmmjkiclngpmaaGreatDoor
open Go.RowKit
end Go.Proofs.YtpmmjkiclngpmaaGreatDoor
namespace Go.Proofs.YtpmmjkiclngpmaaGreatDoor
open Go.RowKit
end Go.Proofs.YtpmmjkiclngpmaaGreatDoor
namespace Go.Proofs.YtpmmjkiclngpmaaGreatDoor
open Go.RowKit
end Go.Proofs.YtpmmjkiclngpmaaGreatDoor
namespace Go.Proofs.YtpmmjkiclngpmaaGreatDoor
open Go.RowKit
end Go.Proofs.YtpmmjkiclngpmaaGreatDoor
namespace Go.Proofs.YtpmmjkiclngpmaaGreatDoor
open Go.RowKit
end Go.Proofs.YtpmmjkiclngpmaaGreatDoor
namespace Go.Proofs.YtpmmjkiclngpmaaGreatDoor
open Go.RowKit
def Brk (r : List UInt8) : Prop := ∀ c t,r = c :: t → isNameByteB (c.toNat : Int) = false
def Lx (s : List UInt8) (W : Nat → List Wd) : Prop := ∀ p r,Brk r → splitFrom (s ++ r) p = W p ++ splitFrom r (p + s.length)
def Lf (s : List UInt8) (W : Nat → List Wd) : Prop := ∀ p r,splitFrom (s ++ r) p = W p ++ splitFrom r (p + s.length)
theorem Brk.append {b r : List UInt8} (hb : Brk b) (h0 : b ≠ []) : Brk (b ++ r) := fun c t e => by
  cases b with
  | nil => exact absurd rfl h0
  | cons x l =>
    rw [List.cons_append,List.cons.injEq] at e
    exact hb c l (by rw [e.1])
theorem Lf.append {a b : List UInt8} {A B : Nat → List Wd} (ha : Lf a A) (hb : Lf b B) : Lf (a ++ b) (fun p => A p ++ B (p + a.length)) := fun p r => by
  rw [List.append_assoc,ha,hb,List.append_assoc,List.length_append,Nat.add_assoc]
theorem Lx.appendF {a b : List UInt8} {A B : Nat → List Wd} (ha : Lx a A) (hb : Lf b B) (h0 : b ≠ []) (hk : Brk b) : Lf (a ++ b) (fun p => A p ++ B (p + a.length)) := fun p r => by
  rw [List.append_assoc,ha _ _ (hk.append h0),hb,List.append_assoc,List.length_append,Nat.add_assoc]
theorem Lf.blank {c : UInt8} (h : isBlankB (c.toNat : Int) = true) : Lf [c] (fun _ => []) := fun p r => by
  rw [List.nil_append]
  have e : runLen isBlankB ([c] ++ r) = runLen isBlankB r + 1 := by show runLen isBlankB (c :: r) = _; simp [runLen,h]
  have d : ([c] ++ r).drop (runLen isBlankB ([c] ++ r)) = r.drop (runLen isBlankB r) := by rw [e]; rfl
  rcases hd : r.drop (runLen isBlankB r) with _ | ⟨x,t⟩
  · rw [splitFrom_end _ _ (d.trans hd),splitFrom_end _ _ hd,e]
    show [(⟨0,[],p + (runLen isBlankB r + 1)⟩ : Wd)] = [⟨0,[],p + 1 + runLen isBlankB r⟩]
    rw [show p + (runLen isBlankB r + 1) = p + 1 + runLen isBlankB r by omega]
  · rw [splitFrom_cons _ _ _ _ (d.trans hd),splitFrom_cons _ _ _ _ hd,e]
    show (⟨_,_,p + (runLen isBlankB r + 1)⟩ : Wd) :: splitFrom _ (p + (runLen isBlankB r + 1) + _) = ⟨_,_,p + 1 + runLen isBlankB r⟩ :: splitFrom _ (p + 1 + runLen isBlankB r + _)
    rw [show p + (runLen isBlankB r + 1) = p + 1 + runLen isBlankB r by omega]
theorem split_word {c : UInt8} {r : List UInt8} (h : isBlankB (c.toNat : Int) = false) (p : Nat) :
    splitFrom (c :: r) p = ⟨(firstWordB (c :: r)).1,(c :: r).take (firstWordB (c :: r)).2,p⟩ :: splitFrom ((c :: r).drop (firstWordB (c :: r)).2) (p + (firstWordB (c :: r)).2) := by
  have e : runLen isBlankB (c :: r) = 0 := by simp [runLen,h]
  have := splitFrom_cons (c :: r) p c r (by rw [e]; rfl)
  rw [e,Nat.add_zero] at this
  exact this
theorem Lf.sign {c : UInt8} (hs : isSignB (c.toNat : Int) = true) (h1 : isBlankB (c.toNat : Int) = false) (h2 : isLetterB (c.toNat : Int) = false) (h3 : isDigitB (c.toNat : Int) = false) (h4 : ((c.toNat : Int) == 61) = false) : Lf [c] (fun p => [⟨4,[c],p⟩]) := fun p r => by
  have e : firstWordB (c :: r) = (4,1) := by simp [firstWordB,h2,h3,signKindB,h4,hs]
  show splitFrom (c :: r) p = _
  rw [split_word h1 p,e]
  rfl
theorem Lf.equal1 : Lf [61,32] (fun p => [⟨4,[61],p⟩]) := fun p r => by
  have e : firstWordB (61 :: 32 :: r) = (4,1) := by simp [firstWordB,signKindB,isLetterB,isDigitB]
  show splitFrom (61 :: 32 :: r) p = _
  rw [split_word (by decide) p,e]
  show _ :: splitFrom ([32] ++ r) (p + 1) = _
  rw [Lf.blank (c := 32) (by decide)]
  rfl
theorem runLen_append {pb : Int → Bool} : ∀ {a r : List UInt8},(∀ c ∈ a,pb (c.toNat : Int) = true) → (∀ c t,r = c :: t → pb (c.toNat : Int) = false) → runLen pb (a ++ r) = a.length
  | [],[],_,_ => rfl
  | [],c :: t,_,h => by simp [runLen,h c t rfl]
  | x :: a,r,h,hr => by
    rw [List.cons_append]
    have ih := runLen_append (pb := pb) (a := a) (r := r) (fun c hc => h c (by simp [hc])) hr
    simp [runLen,h x (by simp),ih]
theorem Lx.name {c : UInt8} {n : List UInt8} (h1 : isBlankB (c.toNat : Int) = false) (h2 : isLetterB (c.toNat : Int) = true) (hn : ∀ x ∈ c :: n,isNameByteB (x.toNat : Int) = true) : Lx (c :: n) (fun p => [⟨nameKindB (c :: n),c :: n,p⟩]) := fun p r hr => by
  have e : runLen isNameByteB ((c :: n) ++ r) = (c :: n).length := runLen_append hn hr
  have f : firstWordB ((c :: n) ++ r) = (nameKindB (c :: n),(c :: n).length) := by
    show firstWordB (c :: (n ++ r)) = _
    unfold firstWordB
    simp only [h2,if_true]
    have e' : runLen isNameByteB (c :: (n ++ r)) = (c :: n).length := e
    rw [e']
    have : (c :: (n ++ r)).take (c :: n).length = c :: n := by rw [← List.cons_append,List.take_left]
    rw [this]
  show splitFrom (c :: (n ++ r)) p = _
  rw [split_word h1 p]
  have f' : firstWordB (c :: (n ++ r)) = (nameKindB (c :: n),(c :: n).length) := f
  rw [f']
  have t1 : (c :: (n ++ r)).take (c :: n).length = c :: n := by rw [← List.cons_append,List.take_left]
  have t2 : (c :: (n ++ r)).drop (c :: n).length = r := by rw [← List.cons_append,List.drop_left]
  simp only [t1,t2]
  rfl
theorem Lx.num {c : UInt8} {n : List UInt8} (h1 : isBlankB (c.toNat : Int) = false) (h2 : isLetterB (c.toNat : Int) = false) (hn : ∀ x ∈ c :: n,isDigitB (x.toNat : Int) = true) (hl : (c :: n).length ≤ 9) : Lx (c :: n) (fun p => [⟨3,c :: n,p⟩]) := fun p r hr => by
  have e : runLen isDigitB ((c :: n) ++ r) = (c :: n).length := runLen_append hn fun x t e => by
    have := hr x t e
    simp [isNameByteB] at this
    simp [this]
  have f' : firstWordB (c :: (n ++ r)) = (3,(c :: n).length) := by
    unfold firstWordB
    have e' : runLen isDigitB (c :: (n ++ r)) = (c :: n).length := e
    have hd := hn c (by simp)
    simp only [h2,hd,if_true,e']
    have hl' : ¬ 9 < (c :: n).length := by omega
    simp only [if_neg hl']
    rfl
  show splitFrom (c :: (n ++ r)) p = _
  rw [split_word h1 p,f']
  have t1 : (c :: (n ++ r)).take (c :: n).length = c :: n := by rw [← List.cons_append,List.take_left]
  have t2 : (c :: (n ++ r)).drop (c :: n).length = r := by rw [← List.cons_append,List.drop_left]
  simp only [t1,t2]
  rfl
end Go.Proofs.YtpmmjkiclngpmaaGreatDoor
namespace Go.Proofs.YtpmmjkiclngpmaaGreatDoor
open Go.RowKit
section
variable {ws : List Wd} {pl : Nat}
theorem cur_w {i : Nat} {f : Bool} {x : Wd} (h : ws[i]? = some x) : (⟨i,f,pl⟩ : PS).cur ws = x := by simp [PS.cur,List.getD,h]
theorem next_w {i : Nat} {f : Bool} (h : i + 1 < ws.length) : (⟨i,f,pl⟩ : PS).next ws = ⟨i + 1,f,pl⟩ := by
  unfold PS.next
  rw [show min (i + 1) (ws.length - 1) = i + 1 by omega]
def Stops (ws : List Wd) (i : Nat) : Prop := ∃ x,ws[i]? = some x ∧ (x.kind = 4 → [[42],[47],[43],[45],[60],[61,61],[40]].contains x.text = false)
theorem Stops.not {i : Nat} {f : Bool} (h : Stops ws i) {l : List (List UInt8)} (hl : ∀ t ∈ l,[[42],[47],[43],[45],[60],[61,61],[40]].contains t = true) : (⟨i,f,pl⟩ : PS).isAt ws l = false := by
  obtain ⟨x,h1,h2⟩ := h
  unfold PS.isAt
  rw [cur_w h1]
  by_cases hk : x.kind = 4
  · have h3 := h2 hk
    rw [Bool.and_eq_false_iff]
    right
    rw [Bool.eq_false_iff]
    intro hc
    have hm : x.text ∈ l := by simpa using hc
    rw [hl _ hm] at h3
    cases h3
  · simp [hk]
theorem isAt_w {i : Nat} {f : Bool} {x : Wd} (h : ws[i]? = some x) (l : List (List UInt8)) : (⟨i,f,pl⟩ : PS).isAt ws l = (x.kind == 4 && l.contains x.text) := by unfold PS.isAt; rw [cur_w h]
theorem expect_w {i : Nat} {t : List UInt8} {q : Nat} (h : ws[i]? = some ⟨4,t,q⟩) (hl : i + 1 < ws.length) : (⟨i,false,pl⟩ : PS).expect ws t = ⟨i + 1,false,pl⟩ := by
  unfold PS.expect
  rw [isAt_w h,next_w hl]
  simp
variable {ex fa : PS → Ex × PS}
theorem factor_num {i : Nat} {t : List UInt8} {q : Nat} (h : ws[i]? = some ⟨3,t,q⟩) (hl : i + 1 < ws.length) : factorR ws ex fa ⟨i,false,pl⟩ = (⟨0,q,[],digitsB t,[]⟩,⟨i + 1,false,pl⟩) := by
  unfold factorR numberR
  rw [cur_w h,next_w hl]
  simp
theorem chain_one {read : PS → Ex × PS} {signs : List (List UInt8)} {st : PS} {t : Ex} {j : Nat} (hr : read st = (t,⟨j,false,pl⟩)) (hs : (⟨j,false,pl⟩ : PS).isAt ws signs = false) : chainR ws read signs st = (t,⟨j,false,pl⟩) := by
  unfold chainR
  rw [hr]
  cases ws.length with
  | zero => rfl
  | succ n => simp [chainN,hs]
theorem term_one {st : PS} {t : Ex} {j : Nat} (hr : fa st = (t,⟨j,false,pl⟩)) (hs : (⟨j,false,pl⟩ : PS).isAt ws [[42],[47]] = false) : termR ws fa st = (t,⟨j,false,pl⟩) := chain_one hr hs
theorem sum_one {st : PS} {t : Ex} {j : Nat} (hr : termR ws fa st = (t,⟨j,false,pl⟩)) (hs : (⟨j,false,pl⟩ : PS).isAt ws [[43],[45]] = false) : sumR ws fa st = (t,⟨j,false,pl⟩) := chain_one hr hs
theorem compare_one {st : PS} {t : Ex} {j : Nat} (hr : sumR ws fa st = (t,⟨j,false,pl⟩)) (hs : (⟨j,false,pl⟩ : PS).isAt ws [[60],[61,61]] = false) : compareR ws fa st = (t,⟨j,false,pl⟩) := by
  unfold compareR; rw [hr]; simp [hs]
theorem expr_cmp {i : Nat} {x : Wd} (h : ws[i]? = some x) (hx : x.kind = 4 → x.text ≠ [105,102] ∧ x.text ≠ [108,101,116]) : exprR ws ex fa ⟨i,false,pl⟩ = compareR ws fa ⟨i,false,pl⟩ := by
  unfold exprR
  rw [isAt_w h,isAt_w h]
  by_cases hk : x.kind = 4
  · obtain ⟨a,b⟩ := hx hk
    simp [hk,a,b]
  · simp [hk]
theorem expr_factor {i j : Nat} {x : Wd} {t : Ex} (h : ws[i]? = some x) (hx : x.kind = 4 → x.text ≠ [105,102] ∧ x.text ≠ [108,101,116]) (hf : fa ⟨i,false,pl⟩ = (t,⟨j,false,pl⟩)) (hs : Stops ws j) : exprR ws ex fa ⟨i,false,pl⟩ = (t,⟨j,false,pl⟩) := by
  rw [expr_cmp h hx]
  exact compare_one (sum_one (term_one hf (hs.not (by simp))) (hs.not (by simp))) (hs.not (by simp))
end
end Go.Proofs.YtpmmjkiclngpmaaGreatDoor
namespace Go.Proofs.YtpmmjkiclngpmaaGreatDoor
open Go.RowKit
def Has (ws : List Wd) (i : Nat) (W : List Wd) : Prop := ∀ j x,W[j]? = some x → ws[i + j]? = some x
theorem Has.cons {ws : List Wd} {i : Nat} {x : Wd} {A : List Wd} (h : Has ws i (x :: A)) : ws[i]? = some x ∧ Has ws (i + 1) A := by
  refine ⟨h 0 x rfl,fun j y hj => ?_⟩
  have := h (j + 1) y (by simpa using hj)
  rwa [show i + (j + 1) = i + 1 + j by omega] at this
def XR (W : Nat → List Wd) (t : Nat → Ex) (D : Nat) : Prop :=
  ∀ (ws : List Wd) (i p pl m : Nat),Has ws i (W p) → i + (W p).length < ws.length → Stops ws (i + (W p).length) → D ≤ m → (rd ws m).1 ⟨i,false,pl⟩ = (t p,⟨i + (W p).length,false,pl⟩)
theorem XR.num (tx : List UInt8) : XR (fun p => [⟨3,tx,p⟩]) (fun p => ⟨0,p,[],digitsB tx,[]⟩) 1 := by
  intro ws i p pl m hw hl hs hm
  obtain ⟨m',rfl⟩ : ∃ m',m = m' + 1 := ⟨m - 1,by omega⟩
  obtain ⟨x0,_⟩ := hw.cons
  simp only [List.length_cons,List.length_nil,Nat.zero_add] at *
  exact expr_factor (x := ⟨3,tx,p⟩) x0 (fun h => by simp at h) (factor_num (ex := (rd ws m').1) (fa := (rd ws m').2) x0 hl) hs
end Go.Proofs.YtpmmjkiclngpmaaGreatDoor
namespace Go.Proofs.YtpmmjkiclngpmaaGreatDoor
open Go.RowKit
variable {ws : List Wd} {ex : PS → Ex × PS} {pl : Nat}
theorem skip_w {i : Nat} {t : List UInt8} {q : Nat} (h : ws[i]? = some ⟨4,t,q⟩) (hl : i + 1 < ws.length) : (⟨i,false,pl⟩ : PS).skipTo ws t = ⟨i + 1,false,pl⟩ := by
  unfold PS.skipTo; rw [isAt_w h,next_w hl]; simp
theorem name_w {i : Nat} {t : List UInt8} {q : Nat} (h : ws[i]? = some ⟨2,t,q⟩) (hl : i + 1 < ws.length) : (⟨i,false,pl⟩ : PS).nameTo ws = ⟨i + 1,false,pl⟩ ∧ (⟨i,false,pl⟩ : PS).nameWd ws = ⟨2,t,q⟩ := by
  unfold PS.nameTo PS.nameWd; rw [cur_w h,next_w hl]; simp
theorem int_w {i : Nat} {q : Nat} (h : ws[i]? = some ⟨4,[105,110,116],q⟩) (hl : i + 1 < ws.length) : (⟨i,false,pl⟩ : PS).typTo ws = ⟨i + 1,false,pl⟩ ∧ (⟨i,false,pl⟩ : PS).typ ws = 1 := by
  unfold PS.typTo PS.typ; rw [isAt_w h,next_w hl]; simp
theorem bool_w {i : Nat} {q : Nat} (h : ws[i]? = some ⟨4,[98,111,111,108],q⟩) (hl : i + 1 < ws.length) : (⟨i,false,pl⟩ : PS).typTo ws = ⟨i + 1,false,pl⟩ ∧ (⟨i,false,pl⟩ : PS).typ ws = 2 := by
  unfold PS.typTo PS.typ; rw [isAt_w h,expect_w h hl]; simp
theorem prms_none {i n : Nat} {x : Wd} (h : ws[i]? = some x) (hx : (x.kind == 4 && [[44]].contains x.text) = false) : prmsN ws n ⟨i,false,pl⟩ = ([],⟨i,false,pl⟩) := by
  cases n with
  | zero => rfl
  | succ n => unfold prmsN; rw [isAt_w h,hx]; simp
theorem imps_none {i n : Nat} {x : Wd} (h : ws[i]? = some x) (hx : (x.kind == 4 && [[117,115,101]].contains x.text) = false) : impsN ws n ⟨i,false,pl⟩ = ([],⟨i,false,pl⟩) := by
  cases n with
  | zero => rfl
  | succ n => unfold impsN; rw [isAt_w h,hx]; simp
theorem funs_none {i n : Nat} {x : Wd} (h : ws[i]? = some x) (hx : (x.kind == 4 && [[112,117,98],[102,110]].contains x.text) = false) : funsN ws ex n ⟨i,false,pl⟩ = ([],⟨i,false,pl⟩) := by
  cases n with
  | zero => rfl
  | succ n => unfold funsN; rw [isAt_w h,hx]; simp
end Go.Proofs.YtpmmjkiclngpmaaGreatDoor
namespace Go.Proofs.YtpmmjkiclngpmaaGreatDoor
open Go.RowKit
def Kp (a b : PS) : Prop := a.failed = true → b.failed = true ∧ b.place = a.place
theorem Kp.trans {a b c : PS} (h : Kp a b) (k : Kp b c) : Kp a c := fun x => ⟨(k (h x).1).1,(k (h x).1).2.trans (h x).2⟩
section
variable (ws : List Wd)
end
section
variable {ws : List Wd} {ex fa read : PS → Ex × PS}
end
section
variable {ws : List Wd} {j pl : Nat} {x : Wd}
end
end Go.Proofs.YtpmmjkiclngpmaaGreatDoor
namespace Go.Proofs.YtpmmjkiclngpmaaGreatDoor
open Go.RowKit
section
variable {ws : List Wd} {ex fa read : PS → Ex × PS} {j pl : Nat} {x : Wd}
end
end Go.Proofs.YtpmmjkiclngpmaaGreatDoor
namespace Go.Proofs.YtpmmjkiclngpmaaGreatDoor
open Go.RowKit
end Go.Proofs.YtpmmjkiclngpmaaGreatDoor
namespace Go.Proofs.YtpmmjkiclngpmaaGreatDoor
open Go.RowKit
theorem Lf.cast {s s' : List UInt8} {W W' : Nat → List Wd} (h : Lf s W) (e : s = s') (f : ∀ p,W p = W' p) : Lf s' W' := by
  subst e
  intro p r; rw [h p r,f p]
theorem Lx.cast {s s' : List UInt8} {W W' : Nat → List Wd} (h : Lx s W) (e : s = s') (f : ∀ p,W p = W' p) : Lx s' W' := by
  subst e
  intro p r hr; rw [h p r hr,f p]
theorem lf_bl : Lf [32] (fun _ => []) := Lf.blank (by decide)
theorem lf_40 : Lf [40] (fun p => [⟨4,[40],p⟩]) := Lf.sign (by decide) (by decide) (by decide) (by decide) (by decide)
theorem lf_41 : Lf [41] (fun p => [⟨4,[41],p⟩]) := Lf.sign (by decide) (by decide) (by decide) (by decide) (by decide)
def numOk (n : Nat) : Bool := !(textB n).isEmpty && (textB n).all (fun c => isDigitB (c.toNat : Int)) && decide ((textB n).length ≤ 9) && digitsB (textB n) == n
theorem nums_ok : ∀ n,n < 1000 → numOk n = true := by decide +kernel
theorem lx_num {n : Nat} (h : n < 1000) : Lx (textB n) (fun p => [⟨3,textB n,p⟩]) ∧ digitsB (textB n) = n ∧ textB n ≠ [] := by
  have hk := nums_ok n h
  unfold numOk at hk
  simp only [Bool.and_eq_true,Bool.not_eq_true',List.all_eq_true,decide_eq_true_eq,beq_iff_eq] at hk
  obtain ⟨⟨⟨h1,h2⟩,h3⟩,h4⟩ := hk
  rcases ht : textB n with _ | ⟨c,r⟩
  · rw [ht] at h1; simp at h1
  · rw [ht] at h2 h3 h4
    have hd := h2 c (by simp)
    refine ⟨Lx.num ?_ ?_ h2 h3,h4,by simp⟩
    · unfold isDigitB at hd
      unfold isBlankB
      simp only [Bool.and_eq_true,decide_eq_true_eq] at hd
      simp only [Bool.or_eq_false_iff,beq_eq_false_iff_ne,ne_eq]
      omega
    · unfold isDigitB at hd
      unfold isLetterB
      simp only [Bool.and_eq_true,decide_eq_true_eq] at hd
      rw [Bool.and_eq_false_iff,decide_eq_false_iff_not,decide_eq_false_iff_not]
      omega
end Go.Proofs.YtpmmjkiclngpmaaGreatDoor
namespace Go.Proofs.YtpmmjkiclngpmaaGreatDoor
open Go.RowKit
end Go.Proofs.YtpmmjkiclngpmaaGreatDoor
namespace Go.Proofs.YtpmmjkiclngpmaaGreatDoor
open Go.RowKit
end Go.Proofs.YtpmmjkiclngpmaaGreatDoor
namespace Go.Proofs.YtpmmjkiclngpmaaGreatDoor
open Go.RowKit
theorem lf_58 : Lf [58] (fun p => [⟨4,[58],p⟩]) := Lf.sign (by decide) (by decide) (by decide) (by decide) (by decide)
theorem lf_59 : Lf [59] (fun p => [⟨4,[59],p⟩]) := Lf.sign (by decide) (by decide) (by decide) (by decide) (by decide)
theorem lf_10 : Lf [10] (fun _ => []) := Lf.blank (by decide)
theorem brkc {c : UInt8} (h : isNameByteB (c.toNat : Int) = false) (r : List UInt8) : Brk (c :: r) := fun d t e => by rw [List.cons.injEq] at e; rw [← e.1]; exact h
theorem lx_w {c : UInt8} {n : List UInt8} {k : Nat} (h1 : isBlankB (c.toNat : Int) = false) (h2 : isLetterB (c.toNat : Int) = true) (hn : ∀ x ∈ c :: n,isNameByteB (x.toNat : Int) = true) (hk : nameKindB (c :: n) = k) : Lx (c :: n) (fun p => [⟨k,c :: n,p⟩]) := (Lx.name h1 h2 hn).cast rfl fun p => by rw [hk]
theorem lx_pub : Lx [112,117,98] (fun p => [⟨4,[112,117,98],p⟩]) := lx_w (by decide) (by decide) (by decide) rfl
theorem lx_fn : Lx [102,110] (fun p => [⟨4,[102,110],p⟩]) := lx_w (by decide) (by decide) (by decide) rfl
theorem lx_int : Lx [105,110,116] (fun p => [⟨4,[105,110,116],p⟩]) := lx_w (by decide) (by decide) (by decide) rfl
theorem lx_bool : Lx [98,111,111,108] (fun p => [⟨4,[98,111,111,108],p⟩]) := lx_w (by decide) (by decide) (by decide) rfl
theorem Lx.then {a b : List UInt8} {A B : Nat → List Wd} (ha : Lx a A) (hb : Lf b B) (hk : ∃ c r,b = c :: r ∧ isNameByteB (c.toNat : Int) = false) : Lf (a ++ b) (fun p => A p ++ B (p + a.length)) := by
  obtain ⟨c,r,rfl,hc⟩ := hk
  exact ha.appendF hb (by simp) (brkc hc r)
theorem split_nil (p : Nat) : splitFrom [] p = [⟨0,[],p⟩] := rfl
section
variable {s : List UInt8} {W : Nat → List Wd}
theorem has_mid (A B C : List Wd) : Has (A ++ (B ++ C)) A.length B := fun j x hj => by
  have hl := (List.getElem?_eq_some_iff.1 hj).1
  rw [List.getElem?_append_right (by omega),show A.length + j - A.length = j by omega,List.getElem?_append_left hl]; exact hj
variable {t : Nat → Ex} {D : Nat}
end
end Go.Proofs.YtpmmjkiclngpmaaGreatDoor
