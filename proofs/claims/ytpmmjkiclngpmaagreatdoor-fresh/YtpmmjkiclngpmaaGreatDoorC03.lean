/- C03: of the texts ImgC, ImgD. -/
import Derived.Test.YtpmmjkiclngpmaaGreatDoorC02
import Derived.Test.YtpmmjkiclngpmaaGreatDoorB44
import Derived.Test.YtpmmjkiclngpmaaGreatDoorC01
set_option maxRecDepth 100000
set_option linter.unusedSimpArgs false
set_option linter.unusedVariables false
/- The contracts of (*Image).Text and (*Store).Image. -/
namespace Go.Proofs.YtpmmjkiclngpmaaGreatDoor
open Go.RowKit

def headT (n : Nat) : List UInt8 := [102, 117, 110, 99, 116, 105, 111, 110, 115, 32] ++ Lib.itoa n ++ [10]
/-- An image's text. -/
def imText (fs : List CF) : List UInt8 := headT fs.length ++ fs.flatMap fnText
theorem imText_ne (fs : List CF) : imText fs ≠ [] := by unfold imText headT; simp
theorem head_bytes (n : Nat) : ((({ data := #[102, 117, 110, 99, 116, 105, 111, 110, 115, 32] } : ByteArray) ++ ⟨(Lib.itoa (n : Int)).toArray⟩) ++ ⟨#[10]⟩).data.toList = headT n := by simp [headT]
theorem imText_len (fs : List CF) (k : Nat) : (headT fs.length ++ (fs.take k).flatMap fnText).length ≤ (imText fs).length := by
  unfold imText
  conv => rhs; rw [← List.take_append_drop k fs]
  rw [List.flatMap_append]
  simp only [List.length_append, List.take_append_drop]
  omega
/-- What the image's text asks of a function. -/
structure FT (f : CF) : Prop where
  slots : f.slots ≤ 100000
  len : f.code.length ≤ 100000
  ops : ∀ x ∈ f.code, x.1 < 15 ∧ -9223372036854775808 ≤ x.2 ∧ x.2 ≤ 9223372036854775807
theorem wfn_any (lo bb : Nat) (l : List UInt8) (g o : Nat) (f : CF) (kv : Value) (w : World) (hB : Bdr lo bb l w) (ht : Tab w) (hlo : 0 < lo) (hf : FnIn lo w g o f kv) (hr : CRow (fun k => k < lo) w 196 2 kv f.code.length (insCells f.code)) (hF : FT f)
    (hL : l.length + (fnText f).length ≤ 100000000000000) :
    Calls Tryz.prog 68 #[.pointer (some ⟨bb, 0, none⟩), .pointer (some ⟨g, o, none⟩)] w fun e w' => e = .returned (.tuple #[]) ∧ Bdr lo bb (l ++ fnText f) w' ∧ Below lo w w' := by
  rcases hp : f.pub with _ | _
  · exact wfn_f lo bb l g o f kv w hB ht hlo hf hr hF.slots hF.len hF.ops hp hL
  · exact wfn_t lo bb l g o f kv w hB ht hlo hf hr hF.slots hF.len hF.ops hp hL
set_option maxHeartbeats 3200000 in
theorem imText_any {S : Nat → Prop} {w : World} {ib : Nat} {fv : Value} {fs : List CF} (hb : w.heap[ib]? = some (.cells #[fv] 95 (0, 0))) (hf : FnRow S w fv fs) (hn : fs.length ≤ 100000) (hF : ∀ f ∈ fs, FT f) (ht : Tab w) (hL : (imText fs).length ≤ 100000000000000) :
    Calls Tryz.prog 41 #[.pointer (some ⟨ib, 0, none⟩)] w fun e w' => e = .returned (.string ⟨(imText fs).toArray⟩) ∧ Below w.heap.size w w' := by
  obtain ⟨xs, hxr, hxf⟩ := hf
  obtain ⟨fo, fc, rfl⟩ := owns_shape' hxr.1
  have c0 := cell_block hb 0
  have cl := lt_of_some hb
  simp at c0
  have HX := hide hxr
  have HXf := hide hxf
  have HFt := hide hF
  have HT := hide ht
  have h0 := ht.lt
  have s1 : -9223372036854775808 ≤ (fs.length : Int) := by omega
  have s2 : (fs.length : Int) ≤ 9223372036854775807 := by omega
  have hit := Lib.itoa_length_le (fs.length : Int) s1 s2
  have n1 : ¬ 9223372036854775807 < 10 + (Lib.itoa (fs.length : Int)).length := by omega
  have n2 : ¬ 9223372036854775807 < 10 + (Lib.itoa (fs.length : Int)).length + 1 := by omega
  have HHb := hide (head_bytes fs.length)
  have HLn := hide (imText_len fs)
  have HLt := hide hL
  have HHl := hide (show (headT fs.length).length ≤ 100000 by unfold headT; simp; omega)
  have hgW := (show ((w.alloc (.cells #[.pointer none, .slice none 0 0] 141)).heap.size = w.heap.size + 1) by simp)
  have HB0 := hide (Bdr.new w)
  have HL0 := hide (show Below w.heap.size w (w.alloc (.cells #[.pointer none, .slice none 0 0] 141)) from (Below.refl _ _).alloc (Nat.le_refl _) _)
  clear hxr hxf hF ht hL hit hgW
  go_enter Tryz.func41, Tryz.ntmps41
  go_wp2_with fail
  refine (itoa_any _ s1 s2 _ (HT.out.below HL0.out h0)).mono ?_
  rintro e w1 ⟨rfl, hb1⟩
  have HB1 := hide (HB0.out.below hb1)
  have HL1 := hide (HL0.out.trans (hb1.mono (by simp)))
  clear hb1
  go_wp2_with fail
  refine (wstr_ba w.heap.size w.heap.size [] _ _ HB1.out (by rw [HHb.out]; have := HHl.out; simp; omega)).mono ?_
  rintro e w2 ⟨⟨n9, rfl⟩, hb2, ho2⟩
  have HB2 := hide (show Bdr w.heap.size w.heap.size (headT fs.length ++ (fs.take 0).flatMap fnText) w2 by have := hb2; rw [HHb.out] at this; simpa using this)
  have HL2 := hide (HL1.out.trans ho2.bel)
  have d0 := cellB HL2.out cl c0
  have hs2 := HL2.out.size
  have cl2 : ib < w2.heap.size := by omega
  clear hb2 ho2
  go_wp2
  go_loopw [19] (fun i wr => ∃ j : Nat, j ≤ fs.length ∧ i = .int .i64 j ∧ Hid (Bdr w.heap.size w.heap.size (headT fs.length ++ (fs.take j).flatMap fnText) wr) ∧ Hid (Below w.heap.size w wr)) (fun i _ => fs.length - (intOf i).toNat)
  case atStart => exact ⟨0, Nat.zero_le _, rfl, HB2, HL2⟩
  case round =>
    obtain ⟨j, hj, rfl, HBr, HLr⟩ := hrel
    have hbr := HBr.out.low
    by_cases hlt : j < fs.length
    · obtain ⟨fb, cap, cur, hk1, hk2, hk3, hk4, hk5⟩ := owr_shape HX.out.1 (by omega)
      simp only [Value.slice.injEq] at hk1
      obtain ⟨rfl, _, rfl⟩ := hk1
      have hfl := lt_of_some hk3
      obtain ⟨pv, kv, lv, hrw, hce⟩ := HXf.out.at j hlt
      have hq : ∀ c, c < 8 → w.cell? ⟨fb, j * 8 + c, none⟩ = (fnCells fs[j] pv kv lv)[c]? := fun c hc => (owns_cell HX.out.1 (j * 8 + c) (by omega)).trans (hce c hc)
      have HFi := hide (show FnIn w.heap.size wr fb (j * 8) fs[j] kv from FnIn.below ⟨hfl, hq 0 (by omega), hq 1 (by omega), hq 2 (by omega), hq 4 (by omega), hq 5 (by omega), hq 6 (by omega)⟩ HLr.out)
      have HRw := hide (show CRow (fun k => k < w.heap.size) wr 196 2 kv fs[j].code.length (insCells fs[j].code) from CRow.keep (S := fun k => k < w.heap.size) ⟨hrw.co.1, fun k e => (owns_block hrw.co.1 k e).2⟩ fun k h1 h2 => ⟨h1, HLr.out.block k h1⟩)
      have HFj := hide (HFt.out fs[j] (List.getElem_mem hlt))
      have HTk := hide (show (fs.take (j + 1)).flatMap fnText = (fs.take j).flatMap fnText ++ fnText fs[j] by rw [List.take_succ_eq_append_getElem hlt, List.flatMap_append]; simp)
      have HLj := hide (show (headT fs.length ++ (fs.take j).flatMap fnText).length + (fnText fs[j]).length ≤ 100000000000000 by
        have := HLn.out (j + 1)
        rw [HTk.out] at this
        have h2 := HLt.out
        simp only [List.length_append] at this ⊢
        omega)
      have r0 := cellB HLr.out cl c0
      have hir : ib < wr.heap.size := by omega
      have hfr : fb < wr.heap.size := by omega
      have hjc : j < fc := by omega
      have HTr := hide (HT.out.below HLr.out h0)
      clear hrw hce hq hk3 hk4 hk5 hbr
      go_wp2_with fail
      refine (wfn_any w.heap.size w.heap.size _ fb (j * 8) fs[j] kv _ HBr.out HTr.out h0 HFi.out HRw.out HFj.out HLj.out).mono ?_
      rintro e w3 ⟨rfl, hb3, hw3⟩
      have HB3 := hide hb3
      have HL3 := hide (HLr.out.trans hw3)
      clear hb3 hw3
      go_wp2
      go_roundw
      case rel => exact ⟨j + 1, by omega, by go_num, by show Bdr _ _ _ _; rw [HTk.out, ← List.append_assoc]; exact HB3.out, HL3⟩
      case measure => simp [intOf]; omega
    · have hje : j = fs.length := by omega
      subst hje
      have HBe := hide (show Bdr w.heap.size w.heap.size (imText fs) wr by have := HBr.out; rw [List.take_length] at this; exact this)
      have hne := imText_ne fs
      go_wp2_with fail
      refine (bstr_any w.heap.size w.heap.size (imText fs) _ HBe.out hne).mono ?_
      rintro e w3 ⟨rfl, hw3⟩
      have HL3 := hide (HLr.out.trans hw3)
      clear hw3
      go_wp2
      go_ret
      exact ⟨rfl, HL3.out⟩
/-- What Image answers. -/
def imgT (s : Sto) : List UInt8 := match s.img with | none => [] | some fs => imText fs
set_option maxHeartbeats 1600000 in
theorem image_any {w : World} {p : SP} {s : Sto} (h : StAt w p s) (hok : ∀ fs, s.img = some fs → fs.length ≤ 100000 ∧ (∀ f ∈ fs, FT f) ∧ (imText fs).length ≤ 100000000000000) (ht : Tab w) :
    Calls Tryz.prog 20 #[.pointer (some ⟨p.sb, 0, none⟩)] w fun e w' => e = .returned (.string ⟨(imgT s).toArray⟩) ∧ Below w.heap.size w w' := by
  obtain ⟨ip, hb, him⟩ := h.blk
  have c3 := cell_block hb 3
  have cl := lt_of_some hb
  simp at c3
  rcases hi : s.img with _ | fs
  · rw [hi] at him
    have e : ip = none := him
    subst e
    have HE := hide (show imgT s = [] by unfold imgT; rw [hi])
    clear h hok hb him ht
    go_enter Tryz.func20, Tryz.ntmps20
    go_wp2
    go_ret
    exact ⟨ret_str (by rw [HE.out]), Below.refl _ _⟩
  · rw [hi] at him
    obtain ⟨ib, fv, rfl, hSib, hib, hfr⟩ := him
    obtain ⟨h1, h2, h3⟩ := hok fs hi
    have HE := hide (show imgT s = imText fs by unfold imgT; rw [hi])
    have HC := hide (imText_any hib hfr h1 h2 ht h3)
    have ibl := lt_of_some hib
    clear h hok hb ht hib hfr h1 h2 h3
    go_enter Tryz.func20, Tryz.ntmps20
    go_wp2_with fail
    refine HC.out.mono ?_
    rintro e w1 ⟨rfl, hb1⟩
    have HB1 := hide hb1
    clear hb1
    go_wp2
    go_ret
    exact ⟨ret_str (by rw [HE.out]), HB1.out⟩
end Go.Proofs.YtpmmjkiclngpmaaGreatDoor

/- The image of what is built without complaint can be written down: its instructions have names, its numbers are within bounds, its text is not too long. -/
namespace Go.Proofs.YtpmmjkiclngpmaaGreatDoor
open Go.RowKit

theorem cgs_mem {g : Nat → Ex → List (Nat × Int)} {x : Nat × Int} : ∀ (l : List Ex) (p : Nat), x ∈ cgs g p l → ∃ e ∈ l, ∃ p', p' + (g p' e).length ≤ p + (cgs g p l).length ∧ x ∈ g p' e
  | [], p, h => by cases h
  | e :: r, p, h => by
    unfold cgs at h ⊢
    rw [List.length_append]
    rcases List.mem_append.1 h with h | h
    · exact ⟨e, by simp, p, by omega, h⟩
    · obtain ⟨e', h1, p', h2, h3⟩ := cgs_mem r _ h
      exact ⟨e', by simp [h1], p', by omega, h3⟩
theorem slotI_bd (sc : List Nm) (n : Nm) : -1 ≤ slotI sc n ∧ slotI sc n ≤ sc.length := by
  unfold slotI
  by_cases e : sc = []
  · subst e; simp [slotR]
  · have := slotR_in n sc.reverse (by simpa using e)
    rw [List.length_reverse] at this
    omega
set_option maxHeartbeats 1600000 in
theorem cg_ops {cal : Nm → Nat} {C : Nat} (hC : ∀ n, cal n ≤ C) : ∀ (m : Nat) (sc : List Nm) (p : Nat) (e : Ex), Armed m e → ∀ x ∈ cg cal m sc p e, x.1 < 15 ∧ -1 ≤ x.2 ∧ x.2 ≤ 100000000000 + ((C + sc.length + m + p + (cg cal m sc p e).length : Nat) : Int) := by
  intro m
  induction m with
  | zero => intro sc p e _ x hx; cases hx
  | succ m ih =>
    intro sc p e har x hx
    obtain ⟨a2, a1, av, ap⟩ := har
    have parts : ∀ l : List Ex, (∀ e' ∈ l, e' ∈ e.parts) → ∀ p, ∀ x ∈ cgs (cg cal m sc) p l, x.1 < 15 ∧ -1 ≤ x.2 ∧ x.2 ≤ 100000000000 + ((C + sc.length + m + p + (cgs (cg cal m sc) p l).length : Nat) : Int) := fun l hl p x hx => by
      obtain ⟨e', h1, p', h2, h3⟩ := cgs_mem l p hx
      obtain ⟨b1, b2, b3⟩ := ih sc p' e' (ap e' (hl e' h1)) x h3
      exact ⟨b1, b2, by omega⟩
    unfold cg at hx ⊢
    split at hx
    · next hk =>
      rw [if_pos hk]
      simp only [List.mem_singleton] at hx
      subst hx
      exact ⟨by simp, by simp; omega, by simp; omega⟩
    next hk =>
    rw [if_neg hk]
    split at hx
    · next hk2 =>
      rw [if_pos hk2]
      simp only [List.mem_singleton] at hx
      subst hx
      have := slotI_bd sc e.name
      exact ⟨by simp, this.1, by simp; omega⟩
    next hk2 =>
    rw [if_neg hk2]
    split at hx
    · next hk4 =>
      rw [if_pos hk4]
      obtain ⟨b1, b2, b3⟩ := parts _ (fun e' he => List.mem_of_mem_take he) p x hx
      exact ⟨b1, b2, by omega⟩
    next hk4 =>
    rw [if_neg hk4]
    split at hx
    · next hk5 =>
      rw [if_pos hk5]
      match hpp : e.parts with
      | [a, b, c] =>
        rw [hpp] at hx
        simp only at hx ⊢
        have ia := ih sc p a (ap a (by rw [hpp]; simp))
        have ib := ih sc (p + (cg cal m sc p a).length + 1) b (ap b (by rw [hpp]; simp))
        have ic := ih sc (p + (cg cal m sc p a).length + 1 + (cg cal m sc (p + (cg cal m sc p a).length + 1) b).length + 1) c (ap c (by rw [hpp]; simp))
        generalize cg cal m sc p a = X at *
        generalize cg cal m sc (p + X.length + 1) b = Y at *
        generalize cg cal m sc (p + X.length + 1 + Y.length + 1) c = Z at *
        have hlen : (X ++ [(4, ((p + X.length + 1 + Y.length + 1 : Nat) : Int))] ++ Y ++ [(3, ((p + X.length + 1 + Y.length + 1 + Z.length : Nat) : Int))] ++ Z).length = X.length + 1 + Y.length + 1 + Z.length := by simp; omega
        rw [hlen]
        simp only [List.mem_append, List.mem_singleton] at hx
        rcases hx with (((hx | hx) | hx) | hx) | hx
        · obtain ⟨b1, b2, b3⟩ := ia x hx; exact ⟨b1, b2, by omega⟩
        · subst hx; exact ⟨by simp, by simp; omega, by simp; omega⟩
        · obtain ⟨b1, b2, b3⟩ := ib x hx; exact ⟨b1, b2, by omega⟩
        · subst hx; exact ⟨by simp, by simp; omega, by simp; omega⟩
        · obtain ⟨b1, b2, b3⟩ := ic x hx; exact ⟨b1, b2, by omega⟩
      | [] => rw [hpp] at hx; cases hx
      | [a] => rw [hpp] at hx; cases hx
      | [a, b] => rw [hpp] at hx; cases hx
      | a :: b :: c :: d :: r => rw [hpp] at hx; cases hx
    next hk5 =>
    rw [if_neg hk5]
    split at hx
    · next hk6 =>
      rw [if_pos hk6]
      match hpp : e.parts with
      | [a, b] =>
        rw [hpp] at hx
        simp only at hx ⊢
        have ia := ih sc p a (ap a (by rw [hpp]; simp))
        have ib := ih (sc ++ [e.name]) (p + (cg cal m sc p a).length + 1) b (ap b (by rw [hpp]; simp))
        generalize cg cal m sc p a = X at *
        generalize cg cal m (sc ++ [e.name]) (p + X.length + 1) b = Y at *
        have hlen : (X ++ [(2, (sc.length : Int))] ++ Y).length = X.length + 1 + Y.length := by simp; omega
        rw [hlen]
        simp only [List.length_append, List.length_cons, List.length_nil] at ib
        simp only [List.mem_append, List.mem_singleton] at hx
        rcases hx with (hx | hx) | hx
        · obtain ⟨b1, b2, b3⟩ := ia x hx; exact ⟨b1, b2, by omega⟩
        · subst hx
          refine ⟨by simp, ?_, ?_⟩
          · show -1 ≤ (sc.length : Int); omega
          · show (sc.length : Int) ≤ _; omega
        · obtain ⟨b1, b2, b3⟩ := ib x hx; exact ⟨b1, b2, by omega⟩
      | [] => rw [hpp] at hx; cases hx
      | [a] => rw [hpp] at hx; cases hx
      | a :: b :: c :: r => rw [hpp] at hx; cases hx
    next hk6 =>
    rw [if_neg hk6]
    have hps := parts e.parts (fun _ h => h) p
    generalize cgs (cg cal m sc) p e.parts = X at *
    split at hx
    · next hk3 =>
      rw [if_pos hk3]
      rcases List.mem_append.1 hx with hx | hx
      · obtain ⟨b1, b2, b3⟩ := hps x hx; exact ⟨b1, b2, by rw [List.length_append]; omega⟩
      · simp only [List.mem_singleton] at hx
        subst hx
        have := hC e.name
        refine ⟨by simp, ?_, ?_⟩
        · show -1 ≤ ((cal e.name : Nat) : Int); omega
        · show ((cal e.name : Nat) : Int) ≤ _; rw [List.length_append]; omega
    · next hk3 =>
      rw [if_neg hk3]
      rcases List.mem_append.1 hx with hx | hx
      · obtain ⟨b1, b2, b3⟩ := hps x hx; exact ⟨b1, b2, by rw [List.length_append]; omega⟩
      · simp only [List.mem_singleton] at hx
        subst hx
        refine ⟨?_, by simp, by rw [List.length_append]; simp; omega⟩
        unfold opOf; split <;> omega
theorem plc_lt (y : Sym) : ∀ (n : Nat) (fs : List CF), fs.length = n → ∀ k, plc fs y = some k → k < fs.length := by
  intro n
  induction n with
  | zero => intro fs hl k h; rw [List.eq_nil_of_length_eq_zero hl] at h; cases h
  | succ n ih =>
    intro fs hl k h
    obtain ⟨a, z, rfl⟩ : ∃ a z, fs = a ++ [z] := ⟨fs.dropLast, fs.getLast (by intro e; rw [e] at hl; simp at hl), (List.dropLast_concat_getLast _).symm⟩
    rw [plc_snoc] at h
    simp only at h
    rw [List.length_append]
    split at h
    · simp only [Option.some.injEq] at h; subst h; simp
    · have := ih a (by simpa using hl) k h; simp; omega
theorem plN_le (fs : List CF) (y : Sym) : plN (plc fs) y ≤ fs.length := by
  unfold plN
  rcases h : plc fs y with _ | k
  · simp
  · have := plc_lt y _ fs rfl k h
    show k ≤ _
    omega
theorem fl_len {α : Type} {g : α → List UInt8} {K : Nat} : ∀ (l : List α), (∀ x ∈ l, (g x).length ≤ K) → (l.flatMap g).length ≤ K * l.length
  | [], _ => by simp
  | x :: r, h => by
    have h1 := h x (by simp)
    have h2 := fl_len r fun y hy => h y (by simp [hy])
    rw [List.flatMap_cons, List.length_append, List.length_cons, Nat.mul_succ]
    omega
/-- What is built can be written down. -/
theorem built_text {s : Sto} (hs : ∀ m ∈ s.L, m.name.length ≤ 8 ∧ m.now.length ≤ 600) (hn : s.L.length ≤ 100) (hM : StM s) : ∀ fs, (buildS s).2.img = some fs → fs.length ≤ 100000 ∧ (∀ f ∈ fs, FT f) ∧ (imText fs).length ≤ 100000000000000 := by
  intro fs hfs
  have hIm := built_imOk hs hn hM fs hfs
  have hi : (buildS s).2.img = if diagsL (formE s.L) s.L = [] then some (linkP ((buildS s).2.L.map funsOf)) else none := rfl
  rw [hi] at hfs
  split at hfs
  · next hd =>
    simp only [Option.some.injEq] at hfs
    subst hfs
    have hg := built_good hs hM hd
    have hz := built_sizes hs
    generalize (buildS s).2.L = L at *
    have ha := good_from (P := plN (plc (L.map funsOf).flatten)) (L0 := L) (E := formE L) L fun x hx => ⟨hx, hg x hx⟩
    have hlk := link_linked (E := formE L) (L := L) fun m hm => ⟨hg m hm, (hz m hm).2⟩
    have key : ∀ f ∈ linkP (L.map funsOf), FT f ∧ (fnText f).length ≤ 20000000 := fun f hf => by
      have hI := hIm.fn f hf
      unfold linkP at hf
      obtain ⟨c, hc, rfl⟩ := List.mem_map.1 hf
      obtain ⟨k, hk, hkc⟩ := List.getElem_of_mem hc
      have hk2 : k < (L.map (pfsM (plN (plc (L.map funsOf).flatten)) (formE L))).flatten.length := by rw [← ha.len]; exact hk
      obtain ⟨c', hc', m, hm, md, g, lk, hform, h0, hgm, e1, e2⟩ := ha.at (List.getElem?_eq_getElem hk2)
      rw [List.getElem?_eq_getElem hk, Option.some.injEq, hkc] at hc'
      subst hc'
      obtain ⟨fn, q0, q1, q2, q3⟩ := hlk k _ (List.getElem?_eq_getElem hk2)
      have hfn : fn = fnOf (bndF (plc (L.map funsOf).flatten) c) := by
        unfold linkP at q0
        rw [List.map_map, List.getElem?_map, List.getElem?_eq_getElem hk, hkc] at q0
        simpa using q0.symm
      subst hfn
      have hok := formOf_ok (hz m hm).2 hform
      have hfo := hok.fs g hgm
      rw [e2] at q2
      have hcode : (bndF (plc (L.map funsOf).flatten) c).code = cg (fun n => plN (plc (L.map funsOf).flatten) (symV m.name md (imsE (formE L) md) n)) 701 (g.params.map fun x => x.name) 0 g.body ++ [(6, 0)] := q2
      obtain ⟨cal, hcal, hcb⟩ : ∃ cal : Nm → Nat, (fun n => plN (plc (L.map funsOf).flatten) (symV m.name md (imsE (formE L) md) n)) = cal ∧ ∀ n, cal n ≤ (L.map funsOf).flatten.length := ⟨_, rfl, fun n => plN_le _ _⟩
      rw [hcal] at hcode
      have hops := cg_ops hcb 701 (g.params.map fun x => x.name) 0 g.body (hfo.body.arm _)
      have hll : (L.map funsOf).flatten.length ≤ 100000 := by have := hIm.len; unfold linkP at this; rwa [List.length_map] at this
      have hcl : (cg cal 701 (g.params.map fun x => x.name) 0 g.body).length ≤ 100000 := by
        have := hI.2.1; rw [hcode, List.length_append] at this; omega
      have hpl : (g.params.map fun x => x.name).length ≤ 601 := by rw [List.length_map]; exact hfo.pl
      have hF : FT (bndF (plc (L.map funsOf).flatten) c) := by
        refine ⟨hI.2.2.1, hI.2.1, fun x hx => ?_⟩
        rw [hcode] at hx
        rcases List.mem_append.1 hx with hx | hx
        · obtain ⟨b1, b2, b3⟩ := hops x hx
          exact ⟨b1, by omega, by omega⟩
        · simp only [List.mem_singleton] at hx
          subst hx
          exact ⟨by decide, by decide, by decide⟩
      refine ⟨hF, ?_⟩
      have t1 : (bndF (plc (L.map funsOf).flatten) c).mod.length ≤ 8 := by rw [e1]; exact (hz m hm).1
      have t2 : (bndF (plc (L.map funsOf).flatten) c).name.length ≤ 100000 := by rw [e1]; exact hfo.name
      have t3 : (bndF (plc (L.map funsOf).flatten) c).sig.length ≤ 5000 := by
        rw [e1]
        show (sigText (g.params.map fun x => x.typ) g.result).length ≤ _
        have := sigText_len (g.params.map fun x => x.typ) g.result
        have h6 := hfo.pl
        rw [List.length_map] at this
        omega
      have t4 := hI.2.2.1
      have t5 := Lib.itoa_length_le ((bndF (plc (L.map funsOf).flatten) c).slots : Int) (by omega) (by omega)
      have t6 := fl_len (g := insText) (K := 100) (bndF (plc (L.map funsOf).flatten) c).code fun x hx => by
        obtain ⟨h1, h2, h3⟩ := hF.ops x hx
        have hit := Lib.itoa_length_le x.2 h2 h3
        have hon := opName_len x.1
        unfold insText
        split <;> simp <;> omega
      have t7 := hI.2.1
      generalize bndF (plc (L.map funsOf).flatten) c = f at *
      have t8 : (fnText f).length = (pubT f.pub).length + (fnLine f).length + (f.code.flatMap insText).length := by unfold fnText; simp only [List.length_append]
      have t9 : (pubT f.pub).length ≤ 4 := by unfold pubT; split <;> simp
      have t10 : (fnLine f).length = 3 + f.mod.length + 1 + f.name.length + 1 + f.sig.length + 7 + (Lib.itoa (f.slots : Int)).length + 1 := by simp [fnLine]; omega
      omega
    refine ⟨hIm.len, fun f hf => (key f hf).1, ?_⟩
    have h1 := fl_len (g := fnText) (K := 20000000) (linkP (L.map funsOf)) fun f hf => (key f hf).2
    have h2 := Lib.itoa_length_le ((linkP (L.map funsOf)).length : Int) (by omega) (by have := hIm.len; omega)
    have h3 := hIm.len
    unfold imText headT
    simp only [List.length_append, List.length_cons, List.length_nil]
    omega
  · cases hfs
end Go.Proofs.YtpmmjkiclngpmaaGreatDoor
