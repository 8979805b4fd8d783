/- C04: of the texts Keep1, Fre1, Fre2. -/
import Derived.Test.YtpmmjkiclngpmaaGreatDoorB01
import Derived.Deep.RegionWith
import Derived.Test.YtpmmjkiclngpmaaGreatDoorB45
import Derived.Test.YtpmmjkiclngpmaaGreatDoorC01
set_option maxRecDepth 100000
set_option linter.unusedSimpArgs false
set_option linter.unusedVariables false
/- The contracts of pick, text and (*dice).next, of the statements' own package symcutkeep. -/
namespace Go.Proofs.YtpmmjkiclngpmaaGreatDoor
open Go.RowKit

/-- Which of n things the raw number c speaks of. -/
def pickB (c n : Int) : Int := (if c < 0 then -(c + 1) else c) % n
theorem pickB_bd (c n : Int) (h : 0 < n) : 0 ≤ pickB c n ∧ pickB c n < n := ⟨Int.emod_nonneg _ (by omega), Int.emod_lt_of_pos _ h⟩
set_option maxHeartbeats 400000 in
theorem pick_any (c n : Int) (w : World) (h1 : -9223372036854775808 ≤ c) (h2 : c ≤ 9223372036854775807) (hn : 0 < n) (hn2 : n ≤ 1000000) :
    Calls Tryz.prog 17 #[.int .i64 c, .int .i64 n] w fun e w' => e = .returned (.int .i64 (pickB c n)) ∧ w' = w := by
  by_cases hc : c < 0
  · have HP := hide (show -((c + 1).tmod n) = pickB c n by
      rw [← Int.neg_tmod, Int.tmod_eq_emod_of_nonneg (by omega)]; simp [pickB, hc])
    go_enter Tryz.func17, Tryz.ntmps17
    go_wp2
    go_ret
    exact ⟨ret_int HP.out, rfl⟩
  · have HP := hide (show c % n = pickB c n by simp [pickB, hc])
    go_enter Tryz.func17, Tryz.ntmps17
    go_wp2
    go_ret
    exact ⟨ret_int HP.out, rfl⟩

/-- The last digit of a number, as a byte. -/
def digitB (n : Nat) : UInt8 := UInt8.ofNat (48 + n % 10)
/-- A number from 0 on in decimals (to so many digits). -/
def textN : Nat → Nat → List UInt8
  | 0, _ => []
  | f + 1, n => if n < 10 then [digitB n] else textN f (n / 10) ++ [digitB n]
def textB (n : Nat) : List UInt8 := textN (n + 1) n
theorem textN_enough (f g n : Nat) (hf : n < f) (hg : n < g) : textN f n = textN g n := by
  induction f generalizing g n with
  | zero => omega
  | succ f ih =>
    cases g with
    | zero => omega
    | succ g =>
      simp only [textN]
      split
      · rfl
      · rw [ih g (n / 10) (by omega) (by omega)]
theorem textB_small (n : Nat) (h : n < 10) : textB n = [digitB n] := by simp [textB, textN, h]
theorem textB_big (n : Nat) (h : ¬ n < 10) : textB n = textB (n / 10) ++ [digitB n] := by
  rw [textB, textN, if_neg h, textB, textN_enough n (n / 10 + 1) (n / 10) (by omega) (by omega)]
theorem textB_len (n : Nat) : (textB n).length ≤ n + 1 := by
  have : ∀ f n, (textN f n).length ≤ f := by
    intro f
    induction f with
    | zero => intro n; simp [textN]
    | succ f ih =>
      intro n
      simp only [textN]
      split
      · simp
      · have := ih (n / 10); simp; omega
  exact this (n + 1) n

theorem one_digit (n : Nat) (w : World) : (convert 115 9 (.slice (some ⟨w.heap.size, 0, none⟩) 1 1)).run Tryz.prog (w.alloc (.cells #[.int .u8 (48 + (n : Int) % 10)] 5)) =
    .ok (.string ⟨[digitB n].toArray⟩) (w.alloc (.cells #[.int .u8 (48 + (n : Int) % 10)] 5)) := by
  refine run_convert_bytes_back (P := Tryz.prog) _ 115 9 5 ⟨w.heap.size, 0, none⟩ 1 [digitB n] Tryz.underlying115 Tryz.underlying5 Tryz.underlying9 ?_
  intro j hj
  have : j = 0 := by simp at hj; omega
  subst this
  have e : ((digitB n).toNat : Int) = 48 + (n : Int) % 10 := by
    have : (digitB n).toNat = 48 + n % 10 := by simp [digitB]; omega
    omega
  simp only [List.getElem_cons_zero, e]
  exact cell_block (block_new w _) 0
theorem app_lists (x y : List UInt8) : (ByteArray.mk x.toArray) ++ (ByteArray.mk y.toArray) = ByteArray.mk (x ++ y).toArray := by
  rw [ByteArray.mk_append_mk]
theorem ret_strK {a b : ByteArray} (h : a = b) : Ending.returned (.string a) = .returned (.string b) := by rw [h]
set_option maxHeartbeats 400000 in
theorem text_any (n : Nat) (w : World) (hn : n ≤ 1000000) :
    Calls Tryz.prog 29 #[.int .i64 n] w fun e w' => e = .returned (.string ⟨(textB n).toArray⟩) ∧ Below w.heap.size w w' := by
  induction n using Nat.strongRecOn generalizing w with
  | _ n ih =>
    have IH := hide ih
    clear ih
    have hcv := one_digit n w
    by_cases h10 : n < 10
    · have HT := hide (textB_small n h10)
      go_enter Tryz.func29, Tryz.ntmps29
      go_wp2
      go_ret
      exact ⟨by rw [HT.out]; rfl, (Below.refl _ _).alloc (Nat.le_refl _) _⟩
    · have HT := hide (textB_big n h10)
      have hlen := textB_len (n / 10)
      go_enter Tryz.func29, Tryz.ntmps29
      go_wp2_with fail
      rw [show (n : Int) / 10 = ((n / 10 : Nat) : Int) by omega]
      refine (IH.out (n / 10) (by omega) _ (by omega)).mono ?_
      rintro e w1 ⟨rfl, hb⟩
      have HB := hide hb
      clear hb hcv
      generalize textB (n / 10) = t at *
      go_wp2
      go_ret
      exact ⟨by rw [HT.out]; exact ret_strK (app_lists t [digitB n]), ((Below.refl _ _).alloc (Nat.le_refl _) _).trans (HB.out.mono (by simp))⟩

/-- Where the dice lie: their block, the numbers' row. -/
structure Dp where
  xb : Nat
  ao : Option Addr
  b : Nat
  off : Nat
  cap : Nat
  zs : List Int
/-- In w the dice have taken so many numbers. -/
structure Dc (D : Dp) (i : Nat) (w : World) : Prop where
  blk : w.heap[D.xb]? = some (.cells #[.slice D.ao D.zs.length D.cap, .int .i64 i] 30 (0, 0))
  cells : ∀ j, (h : j < D.zs.length) → w.cell? ⟨D.b, D.off + j, none⟩ = some (.int .i64 D.zs[j])
  addr : D.ao = some ⟨D.b, D.off, none⟩ ∨ D.zs = []
  ne : D.b ≠ D.xb
  old : D.b < D.xb
  wf : ∀ z ∈ D.zs, -9223372036854775808 ≤ z ∧ z ≤ 9223372036854775807
  le : i ≤ D.zs.length
  len : D.zs.length ≤ 140737488355328
def nextB (zs : List Int) (i : Nat) (n : Int) : Int × Nat := match zs[i]? with | none => (0, i) | some z => (pickB z n, i + 1)
theorem Dc.but {D : Dp} {i i' : Nat} {w w' : World} (h : Dc D i w) (hb : But D.xb w w') (hk : w'.heap[D.xb]? = some (.cells #[.slice D.ao D.zs.length D.cap, .int .i64 i'] 30 (0, 0))) (hi : i' ≤ D.zs.length) : Dc D i' w' :=
  ⟨hk, fun j hj => (hb.cell (by have := lt_of_some h.blk; have := h.old; omega) h.ne _).trans (h.cells j hj), h.addr, h.ne, h.old, h.wf, hi, h.len⟩
theorem Dc.below {D : Dp} {i : Nat} {w w' : World} (h : Dc D i w) (hb : Below w.heap.size w w') : Dc D i w' :=
  h.but (But.of_below hb) ((hb.block _ (lt_of_some h.blk)).trans h.blk) h.le

theorem next_end {D : Dp} {i : Nat} {w : World} (h : Dc D i w) (hi : i < D.zs.length) :
    But D.xb w (w.setCell ⟨D.xb, 1, none⟩ (.int .i64 ((i : Int) + 1))).drew.drew ∧ Dc D (i + 1) (w.setCell ⟨D.xb, 1, none⟩ (.int .i64 ((i : Int) + 1))).drew.drew := by
  have hb : But D.xb w (w.setCell ⟨D.xb, 1, none⟩ (.int .i64 ((i : Int) + 1))).drew.drew := ((But.refl _ _).setCell (p := ⟨D.xb, 1, none⟩) (Or.inl rfl) _).drew.drew
  refine ⟨hb, h.but hb ?_ hi⟩
  exact (block_setCell h.blk 1 _)
set_option maxHeartbeats 800000 in
theorem next_any (D : Dp) (i : Nat) (w : World) (hD : Dc D i w) (n : Int) (hn : 0 < n) (hn2 : n ≤ 1000000) :
    Calls Tryz.prog 22 #[.pointer (some ⟨D.xb, 0, none⟩), .int .i64 n] w fun e w' => e = .returned (.int .i64 (nextB D.zs i n).1) ∧ But D.xb w w' ∧ Dc D (nextB D.zs i n).2 w' := by
  have h1 := lt_of_some hD.blk
  have hlen := hD.len
  have hle := hD.le
  have f0 := cell_block hD.blk 0
  have f1 := cell_block hD.blk 1
  have ff := free_block hD.blk
  simp at f0 f1
  by_cases hlt : i < D.zs.length
  · have hc := hD.cells i hlt
    have hw := hD.wf _ (List.getElem_mem hlt)
    have HB := hide (show nextB D.zs i n = (pickB D.zs[i] n, i + 1) by simp [nextB, List.getElem?_eq_getElem hlt])
    have ha : D.ao = some ⟨D.b, D.off, none⟩ := by
      rcases hD.addr with h | h
      · exact h
      · rw [h] at hlt; simp at hlt
    have HDc := hide hD
    rw [ha] at f0
    have HA := hide ha
    clear hD ha
    generalize D.zs[i] = z at *
    go_enter Tryz.func22, Tryz.ntmps22
    go_wp2
    go_region
    all_goals go_wp2
    go_region_with (go_at_call 17; refine (pick_any _ _ _ hw.1 hw.2 hn hn2).mono ?_; rintro e w' ⟨rfl, rfl⟩)
    all_goals
      go_wp2
      go_ret
      rw [HB.out]
      exact ⟨rfl, next_end HDc.out hlt⟩
  · have HB := hide (show nextB D.zs i n = (0, i) by simp [nextB, List.getElem?_eq_none (Nat.le_of_not_lt hlt)])
    have HDc := hide hD
    clear hD
    go_enter Tryz.func22, Tryz.ntmps22
    go_wp2
    go_region
    all_goals
      go_wp2
      go_ret
      rw [HB.out]
      exact ⟨rfl, (But.refl _ _).drew, HDc.out.below ((Below.refl _ _).drew)⟩
end Go.Proofs.YtpmmjkiclngpmaaGreatDoor

/- Two stores in one memory: what is done to one leaves the other as it was: rows of objects are never the blocks of a store. -/
namespace Go.Proofs.YtpmmjkiclngpmaaGreatDoor
open Go.RowKit

/-- The kinds of rows that a store's objects and its image are made of. -/
def RowT (t : TypeId) : Prop := t = 92 ∨ t = 132 ∨ t = 196 ∨ t = 87 ∨ t = 185 ∨ t = 95
/-- The block is no such row. -/
def NoRow (w : World) (k : Nat) : Prop := ∀ c t fz, w.heap[k]? = some (.cells c t fz) → ¬ RowT t
theorem NoRow.cells {w : World} {k : Nat} {c : Array Value} {t : TypeId} {fz : Nat × Nat} (h : w.heap[k]? = some (.cells c t fz)) (ht : ¬ RowT t) : NoRow w k := fun c' t' fz' h' => by
  rw [h] at h'
  simp only [Option.some.injEq, Obj.cells.injEq] at h'
  rw [← h'.2.1]; exact ht
theorem StAt.kinds {w : World} {p : SP} {s : Sto} (h : StAt w p s) {k : Nat} (hk : p.own k) : NoRow w k := by
  obtain ⟨ip, hb, _⟩ := h.blk
  obtain ⟨ov, ho, _⟩ := h.objs
  rcases hk with rfl | rfl | rfl | rfl
  · exact NoRow.cells hb (by unfold RowT; decide)
  · obtain ⟨a, b, c⟩ := h.mods.isMap; exact fun c' t' fz' h' => by rw [c] at h'; cases h'
  · obtain ⟨a, b, c⟩ := ho.isMap; exact fun c' t' fz' h' => by rw [c] at h'; cases h'
  · obtain ⟨a, b, c⟩ := h.comp.isMap; exact fun c' t' fz' h' => by rw [c] at h'; cases h'
theorem CRow.sep {S S' : Nat → Prop} {w : World} {t : TypeId} {size : Nat} {v : Value} {n : Nat} {xs : List Value} (h : CRow S w t size v n xs) (ht : RowT t) (hk : ∀ k, S k → ¬ NoRow w k → S' k) : CRow S' w t size v n xs := by
  refine ⟨h.1, fun k e => hk k (h.2 k e) fun hs => ?_⟩
  rcases h.1.2 with ⟨hv, _⟩ | ⟨g, cap, cur, hv, hb0, hblk, rest⟩
  · rw [hv] at e; simp [Value.ownBlock] at e
  · rw [hv] at e; simp [Value.ownBlock] at e; subst e; exact hs _ _ _ hblk ht
theorem FnRow.sep {S S' : Nat → Prop} {w : World} {v : Value} {fs : List CF} (h : FnRow S w v fs) (hk : ∀ k, S k → ¬ NoRow w k → S' k) : FnRow S' w v fs := by
  obtain ⟨xs, a, b⟩ := h
  exact ⟨xs, a.sep (by unfold RowT; decide) hk, b.1, fun j hj => by obtain ⟨pv, kv, lv, q, r⟩ := b.2 j hj; exact ⟨pv, kv, lv, q, r.pr.sep (by unfold RowT; decide) hk, r.co.sep (by unfold RowT; decide) hk, r.ca.sep (by unfold RowT; decide) hk⟩⟩
theorem StAt.sep {w : World} {p : SP} {s : Sto} (h : StAt w p s) (ex : Nat → Prop) (hx : ∀ k, ex k → NoRow w k) : StAt w { p with ex := ex } s := by
  have hk : ∀ k, ¬ p.out k → ¬ NoRow w k → ¬ SP.out { p with ex := ex } k := fun k h1 h2 ho => ho.elim (fun q => h1 (Or.inl q)) (fun q => h2 (hx k q))
  refine ⟨?_, h.mods, ?_, h.comp, h.n1, h.n2, h.n3, h.few, h.small⟩
  · obtain ⟨ip, a, b⟩ := h.blk
    refine ⟨ip, a, ?_⟩
    rcases hi : s.img with _ | fs
    · rw [hi] at b; exact b
    · rw [hi] at b
      obtain ⟨ib, fv, q1, q2, q3, q4⟩ := b
      exact ⟨ib, fv, q1, hk ib q2 fun hs => hs _ _ _ q3 (by unfold RowT; decide), q3, q4.sep hk⟩
  · obtain ⟨ov, a, b⟩ := h.objs
    refine ⟨ov, a, fun m hm o ho => ?_⟩
    obtain ⟨fv, uv, q1, q2, q3⟩ := b m hm o ho
    exact ⟨fv, uv, q1, q2.sep hk, q3.sep (by unfold RowT; decide) hk⟩
/-- Fewer blocks are set apart. -/
theorem StAt.less {w : World} {p : SP} {s : Sto} {ex : Nat → Prop} (h : StAt w { p with ex := ex } s) (hx : ∀ k, p.ex k → ex k) : StAt w p s := by
  have hk : ∀ k, ¬ SP.out { p with ex := ex } k → k < w.heap.size → (¬ p.out k) ∧ w.heap[k]? = w.heap[k]? := fun k h1 _ => ⟨fun ho => h1 (ho.elim Or.inl fun q => Or.inr (hx k q)), rfl⟩
  refine ⟨?_, h.mods, ?_, h.comp, h.n1, h.n2, h.n3, h.few, h.small⟩
  · obtain ⟨ip, a, b⟩ := h.blk; exact ⟨ip, a, b.keep hk⟩
  · obtain ⟨ov, a, b⟩ := h.objs; exact ⟨ov, a, fun m hm o ho => (b m hm o ho).keep hk⟩
/-- What is done to blocks that are no rows, and not the store's own, leaves it as it was. -/
theorem StAt.skip {w w' : World} {p : SP} {s : Sto} {X : Nat → Prop} (h : StAt w p s) (hx : ∀ k, X k → NoRow w k) (hd : ∀ k, p.own k → ¬ X k) (hno : ∀ k, ¬ p.ex k) (hb : ButS X w w') : StAt w' p s := by
  have h1 : StAt w { p with ex := X } s := h.sep X hx
  have h2 : StAt w' { p with ex := X } s := h1.keepE (fun k hk => hd k hk) fun k hk hn => hb.block k hk hn
  exact h2.less fun k hk => absurd hk (hno k)
/-- What is done to the blocks of one store leaves another store as it was. -/
theorem StAt.other {w w' : World} {p q : SP} {s t : Sto} (h : StAt w p s) (hq : StAt w q t) (hd : ∀ k, p.own k → ¬ q.own k) (hno : ∀ k, ¬ p.ex k) (hb : ButS q.own w w') : StAt w' p s := by
  exact h.skip (fun k hk => hq.kinds hk) hd hno hb
/-- A function's name, by its number. -/
def nameF (k : Nat) : Nm := [102] ++ textB k
set_option maxHeartbeats 400000 in
theorem name_fany (k : Nat) (w : World) (hk : k ≤ 1000) : Calls Tryz.prog 27 #[.int .i64 k] w fun e w' => e = .returned (.string ⟨(nameF k).toArray⟩) ∧ Below w.heap.size w w' := by
  have HT := hide (text_any k w (by omega))
  have hl := textB_len k
  have HE := hide (show nameF k = [102] ++ textB k from rfl)
  generalize textB k = t at *
  go_enter Tryz.func27, Tryz.ntmps27
  go_wp2_with fail
  refine HT.out.mono ?_
  rintro e w1 ⟨rfl, hb⟩
  have HB := hide hb
  clear hb
  go_wp2
  go_ret
  exact ⟨by rw [HE.out]; exact ret_strK (app_lists [102] t), HB.out⟩
end Go.Proofs.YtpmmjkiclngpmaaGreatDoor

/- Fresh, in plain words: the four modules' texts; what a store holds of them; a store from which the empty ones are taken away holds what a new one does. -/
namespace Go.Proofs.YtpmmjkiclngpmaaGreatDoor
open Go.RowKit

/-- The four names. -/
def nm4 : Nat → Nm
  | 0 => [97]
  | 1 => [98]
  | 2 => [99]
  | _ => [100]
theorem four {i : Nat} (h : i < 4) : i = 0 ∨ i = 1 ∨ i = 2 ∨ i = 3 := by omega
theorem nm4_inj {i j : Nat} (hi : i < 4) (hj : j < 4) (h : nm4 i = nm4 j) : i = j := by
  rcases four hi with rfl | rfl | rfl | rfl <;> rcases four hj with rfl | rfl | rfl | rfl <;> simp [nm4] at h ⊢
theorem nm4_before {i j : Nat} (hi : i < 4) (hj : j < 4) (h : bytesBefore (nm4 i) (nm4 j) = true) : i < j := by
  rcases four hi with rfl | rfl | rfl | rfl <;> rcases four hj with rfl | rfl | rfl | rfl <;> first | omega | (exfalso; revert h; decide)
theorem nm4_name {i : Nat} (hi : i < 4) : isNameT (nm4 i) = true := by rcases four hi with rfl | rfl | rfl | rfl <;> decide
theorem nm4_len (i : Nat) : (nm4 i).length = 1 := by
  match i with
  | 0 => rfl
  | 1 => rfl
  | 2 => rfl
  | n + 3 => rfl
/-- All modules are of the four, and their texts these; one that is not there has the empty one. -/
structure InS (T : Nat → List UInt8) (L : List Md) : Prop where
  nam : ∀ m ∈ L, ∃ i, i < 4 ∧ m.name = nm4 i
  now : ∀ i, i < 4 → nowOf L (nm4 i) = T i
theorem few4 : ∀ (l : List Nm) (lo : Nat), Rising l → (∀ n ∈ l, ∃ i, lo ≤ i ∧ i < 4 ∧ n = nm4 i) → lo ≤ 4 → l.length ≤ 4 - lo
  | [], lo, _, _, _ => Nat.zero_le _
  | n :: r, lo, hr, h, hlo => by
    obtain ⟨i, h1, h2, e⟩ := h n (by simp)
    subst e
    have := few4 r (i + 1) (List.Pairwise.of_cons hr) (fun m hm => by
      obtain ⟨j, a, b, rfl⟩ := h m (by simp [hm])
      exact ⟨j, nm4_before h2 b (List.rel_of_pairwise_cons hr hm), b, rfl⟩) (by omega)
    rw [List.length_cons]
    omega
theorem InS.few {T : Nat → List UInt8} {L : List Md} (h : InS T L) (hr : Rising (names L)) : L.length ≤ 4 := by
  have := few4 (names L) 0 hr (fun n hn => by
    obtain ⟨m, hm, rfl⟩ := List.mem_map.1 hn
    obtain ⟨i, a, b⟩ := h.nam m hm
    exact ⟨i, Nat.zero_le _, a, b⟩) (by omega)
  unfold names at this
  rw [List.length_map] at this
  omega
theorem nowOf_none {L : List Md} {n : Nm} (h : n ∉ names L) : nowOf L n = [] := by unfold nowOf; rw [getM_none.2 h]; rfl
theorem nowOf_del {L : List Md} (hr : Rising (names L)) (n x : Nm) : nowOf (delM n L) x = if x = n then [] else nowOf L x := by
  by_cases e : x = n
  · rw [if_pos e]
    refine nowOf_none fun hx => ?_
    obtain ⟨m, hm, hn⟩ := List.mem_map.1 hx
    exact (delM_mem hm).2 (hn.trans e)
  · rw [if_neg e]
    by_cases hx : x ∈ names (delM n L)
    · exact delM_now hr hx
    · rw [nowOf_none hx, nowOf_none]
      intro hx'
      apply hx
      rw [names_delM]
      exact List.mem_filter.2 ⟨hx', by simpa using e⟩
theorem nowOf_set {L : List Md} (hr : Rising (names L)) (n : Nm) (t : List UInt8) (x : Nm) : nowOf (setM n t L) x = if x = n then t else nowOf L x := by
  by_cases hx : x ∈ names (setM n t L)
  · exact setM_now hr hx
  · have hp : x ∉ putB n (names L) := by rw [← names_setM hr]; exact hx
    rw [mem_putB] at hp
    rw [if_neg (fun e => hp (Or.inl e)), nowOf_none hx, nowOf_none fun h => hp (Or.inr h)]
/-- One that is empty is taken away. -/
theorem InS.rem {T : Nat → List UInt8} {s : Sto} (h : InS T s.L) (hr : Rising (names s.L)) {j : Nat} (hj : j < 4) (hT : T j = []) : InS T (remS s (nm4 j)).2.L ∧ nm4 j ∉ names (remS s (nm4 j)).2.L ∧ ∀ x, x ∉ names s.L → x ∉ names (remS s (nm4 j)).2.L := by
  unfold remS
  split
  · refine ⟨⟨fun m hm => h.nam m (delM_mem hm).1, fun i hi => ?_⟩, fun hn => ?_, fun x hx hn => ?_⟩
    · show nowOf (delM (nm4 j) s.L) (nm4 i) = T i
      rw [nowOf_del hr]
      split
      · next e => rw [nm4_inj hi hj e, hT]
      · exact h.now i hi
    · obtain ⟨m, hm, e⟩ := List.mem_map.1 hn
      exact (delM_mem hm).2 e
    · obtain ⟨m, hm, e⟩ := List.mem_map.1 hn
      exact hx (List.mem_map.2 ⟨m, (delM_mem hm).1, e⟩)
  · next hn => exact ⟨h, hn, fun x hx => hx⟩
def remN (T : Nat → List UInt8) (s : Sto) : Nat → Sto
  | 0 => s
  | j + 1 => if T j = [] then (remS (remN T s j) (nm4 j)).2 else remN T s j
theorem remS_rising {s : Sto} (h : Rising (names s.L)) (n : Nm) : Rising (names (remS s n).2.L) := by
  unfold remS
  split
  · show Rising (names (delM n s.L))
    rw [names_delM]; exact List.Pairwise.sublist List.filter_sublist h
  · exact h
theorem remN_rising (T : Nat → List UInt8) {s : Sto} (h : Rising (names s.L)) : ∀ j, Rising (names (remN T s j).L)
  | 0 => h
  | j + 1 => by
    unfold remN
    split
    · exact remS_rising (remN_rising T h j) _
    · exact remN_rising T h j
theorem remN_in {T : Nat → List UInt8} {s : Sto} (h : InS T s.L) (hr : Rising (names s.L)) : ∀ j, j ≤ 4 → InS T (remN T s j).L ∧ ∀ i, i < j → T i = [] → nm4 i ∉ names (remN T s j).L
  | 0, _ => ⟨h, fun i hi => by omega⟩
  | j + 1, hj => by
    obtain ⟨a, b⟩ := remN_in h hr j (by omega)
    unfold remN
    split
    · next e =>
      obtain ⟨c, d, f⟩ := a.rem (remN_rising T hr j) (by omega) e
      refine ⟨c, fun i hi hT => ?_⟩
      by_cases hij : i = j
      · rw [hij]; exact d
      · exact f _ (b i (by omega) hT)
    · next e =>
      refine ⟨a, fun i hi hT => ?_⟩
      by_cases hij : i = j
      · rw [hij] at hT; exact absurd hT e
      · exact b i (by omega) hT
theorem remN_made {T : Nat → List UInt8} {s : Sto} (h : StM s) : ∀ j, StM (remN T s j)
  | 0 => h
  | j + 1 => by
    unfold remN
    split
    · exact (remN_made h j).rem _
    · exact remN_made h j
/-- All the texts that are not empty, and no other. -/
structure Full (T : Nat → List UInt8) (L : List Md) : Prop where
  ins : InS T L
  has : ∀ i, i < 4 → (nm4 i ∈ names L ↔ T i ≠ [])
theorem remN_full {T : Nat → List UInt8} {s : Sto} (h : InS T s.L) (hr : Rising (names s.L)) : Full T (remN T s 4).L := by
  obtain ⟨a, b⟩ := remN_in h hr 4 (Nat.le_refl _)
  refine ⟨a, fun i hi => ⟨fun hn hT => b i hi hT hn, fun hT => ?_⟩⟩
  by_cases hn : nm4 i ∈ names (remN T s 4).L
  · exact hn
  · have := a.now i hi
    rw [nowOf_none hn] at this
    exact absurd this.symm hT
theorem Full.same {T : Nat → List UInt8} {L L' : List Md} (h : Full T L) (h' : Full T L') (hr : Rising (names L)) (hr' : Rising (names L')) : SameT L L' := by
  have key : ∀ {A B : List Md}, Full T A → Full T B → ∀ x, x ∈ names A → x ∈ names B := fun {A B} ha hb x hx => by
    obtain ⟨m, hm, rfl⟩ := List.mem_map.1 hx
    obtain ⟨i, hi, e⟩ := ha.ins.nam m hm
    rw [e] at hx ⊢
    exact (hb.has i hi).2 ((ha.has i hi).1 hx)
  have hn : names L = names L' := Rising.ext hr hr' fun x => ⟨key h h' x, key h' h x⟩
  have form : ∀ {A : List Md}, Rising (names A) → (A.map fun m => (m.name, m.now)) = (names A).map fun n => (n, nowOf A n) := fun {A} ha => by
    unfold names
    rw [List.map_map]
    refine List.map_congr_left fun m hm => ?_
    show (m.name, m.now) = (m.name, nowOf A m.name)
    rw [nowOf_of ha hm]
  unfold SameT
  rw [form hr, form hr', hn]
  refine List.map_congr_left fun n hn' => ?_
  obtain ⟨m, hm, rfl⟩ := List.mem_map.1 hn'
  obtain ⟨i, hi, e⟩ := h'.ins.nam m hm
  rw [e, h.ins.now i hi, h'.ins.now i hi]
/-- A Set of one of the four, of a text that is not too long. -/
theorem InS.set {T : Nat → List UInt8} {s : Sto} (h : InS T s.L) (hr : Rising (names s.L)) {j : Nat} (hj : j < 4) {t : List UInt8} (ht : t.length ≤ 600) :
    (setS s (nm4 j) t).1 = 0 ∧ (setS s (nm4 j) t).2.L = setM (nm4 j) t s.L ∧ InS (fun i => if i = j then t else T i) (setS s (nm4 j) t).2.L ∧ Rising (names (setS s (nm4 j) t).2.L) := by
  have hf := h.few hr
  have e : setS s (nm4 j) t = (0, { s with L := setM (nm4 j) t s.L }) := by
    unfold setS
    rw [if_neg (by rw [nm4_name hj]; simp), if_neg (by omega)]
  rw [e]
  refine ⟨rfl, rfl, ⟨fun m hm => ?_, fun i hi => ?_⟩, ?_⟩
  · rcases setM_mem hm with ⟨a, _⟩ | ⟨_, b⟩
    · exact ⟨j, hj, a⟩
    · exact h.nam m b
  · show nowOf (setM (nm4 j) t s.L) (nm4 i) = _
    rw [nowOf_set hr]
    by_cases hij : i = j
    · rw [if_pos (by rw [hij]), if_pos hij]
    · rw [if_neg (fun e => hij (nm4_inj hi hj e)), if_neg hij]; exact h.now i hi
  · show Rising (names (setM (nm4 j) t s.L))
    rw [names_setM hr]; exact hr.putB
/-- What a build leaves holds the same texts. -/
theorem InS.build {T : Nat → List UInt8} {s : Sto} (h : InS T s.L) : InS T (buildS s).2.L := by
  refine ⟨fun m hm => ?_, fun i hi => ?_⟩
  · obtain ⟨m0, h0, rfl⟩ := List.mem_map.1 hm
    rw [(buildM_name _ m0).1]
    exact h.nam m0 h0
  · rw [← h.now i hi]
    unfold nowOf
    rw [show getM (buildS s).2.L = getM (s.L.map (buildM (formE s.L))) from rfl, getM_map (buildM_name _)]
end Go.Proofs.YtpmmjkiclngpmaaGreatDoor
