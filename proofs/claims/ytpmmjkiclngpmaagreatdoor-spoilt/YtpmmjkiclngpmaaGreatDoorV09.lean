/- YtpmmjkiclngpmaaGreatDoorV09 -/
import Derived.Test.YtpmmjkiclngpmaaGreatDoorV08
set_option maxRecDepth 100000
set_option linter.unusedSimpArgs false
set_option linter.unusedVariables false
set_option maxHeartbeats 12800000
namespace Go.Proofs.YtpmmjkiclngpmaaGreatDoor
open Go.RowKit
def CutAt (T : List UInt8) (k : Nat) : Prop := k = 0 ∨ ∃ c,T[k - 1]? = some c ∧ (c = 32 ∨ c = 40)
theorem CutAt.ends {T : List UInt8} {k : Nat} (h : CutAt T k) (hk : k < T.length) : Ends (T.take k) := fun hne => by
  rcases h with rfl | ⟨c,hc,h⟩
  · simp at hne
  · have h0 : 0 < k := Nat.pos_of_ne_zero (fun e => by subst e; simp at hne)
    have : (T.take k).getLast hne = c := by
      rw [List.getLast_eq_getElem]
      have h2 := (List.getElem?_eq_some_iff.1 hc).2
      simp only [List.length_take,List.getElem_take]
      have e : min k T.length - 1 = k - 1 := by omega
      simp only [e]
      exact h2
    rw [this]; exact h
theorem Vq.wrong {w : World} {p : SP} {mb : Nat} {ms : List UInt8} {mv : Int} {s s' : Sto} {wx : World} (h : Vq w p mb ms mv s wx) (code place : Nat) (h1 : (buildS s).1 = [⟨[109],code,place⟩]) (h2 : (buildS s).2 = s') (hm : StM s') :
    Calls Tryz.prog 18 #[.pointer (some ⟨p.sb,0,none⟩),.string ⟨#[109]⟩,.int .i64 (code : Int),.int .i64 (place : Int)] wx fun e w' => e = .returned (.bool true) ∧ Vq w p mb ms mv s' w' := by
  refine (lwrong_any h.bg.st h.bg.ex h.bg.made ⟨[109],code,place⟩).mono ?_
  rw [h1,h2]
  rintro e w' ⟨rfl,a,b⟩
  refine ⟨?_,h.step a b hm⟩
  unfold onlyD sameD
  simp
theorem b32 {c : UInt8} (h : ((c.toNat : Nat) : Int) = 32) : c = 32 := UInt8.toNat_inj.1 (by show c.toNat = 32; omega)
theorem b40 {c : UInt8} (h : ((c.toNat : Nat) : Int) = 40) : c = 40 := UInt8.toNat_inj.1 (by show c.toNat = 40; omega)
theorem cut_len {T rest : List UInt8} {k : Nat} (hT : T.length ≤ 325) (h : rest.length ≤ 100) : (T.take k ++ 63 :: rest).length ≤ 600 := by
  rw [List.length_append,List.length_take,List.length_cons]; omega
theorem take_str (T : List UInt8) (k : Nat) : (⟨T.toArray⟩ : ByteArray).extract 0 k = ⟨(T.take k).toArray⟩ := by
  rw [str_extract]; simp
theorem Vq.setX {w : World} {p : SP} {mb : Nat} {ms : List UInt8} {mv : Int} {s s' : Sto} {wx : World} (h : Vq w p mb ms mv s wx) {T : List UInt8} {k : Nat} {rest : List UInt8} (hl : (T.take k ++ 63 :: rest).length ≤ 600) (hs : setS s [109] (T.take k ++ 63 :: rest) = (0,s')) (hm : StM s') :
    Calls Tryz.prog 15 #[.pointer (some ⟨p.sb,0,none⟩),.string ⟨#[109]⟩,.string (((⟨T.toArray⟩ : ByteArray).extract 0 k ++ ⟨#[63]⟩) ++ ⟨rest.toArray⟩)] wx fun e w' => e = .returned (.bool true) ∧ Vq w p mb ms mv s' w' := by
  have := h.set (T.take k ++ 63 :: rest) hl hs hm
  rw [take_str,show ((⟨(T.take k).toArray⟩ : ByteArray) ++ ⟨#[63]⟩) ++ ⟨rest.toArray⟩ = ⟨(T.take k ++ 63 :: rest).toArray⟩ from (cat3 (T.take k) [63] rest).trans (by simp)]
  exact this
theorem Vq.setX2 {w : World} {p : SP} {mb : Nat} {ms : List UInt8} {mv : Int} {s s' : Sto} {wx : World} (h : Vq w p mb ms mv s wx) {T : List UInt8} {k : Nat} {rest : List UInt8} (hl : (T.take k ++ 63 :: rest.take 100).length ≤ 600) (hs : setS s [109] (T.take k ++ 63 :: rest.take 100) = (0,s')) (hm : StM s') :
    Calls Tryz.prog 15 #[.pointer (some ⟨p.sb,0,none⟩),.string ⟨#[109]⟩,.string (((⟨T.toArray⟩ : ByteArray).extract 0 k ++ ⟨#[63]⟩) ++ (⟨rest.toArray⟩ : ByteArray).extract 0 100)] wx fun e w' => e = .returned (.bool true) ∧ Vq w p mb ms mv s' w' := by
  rw [take_str rest]
  exact h.setX hl hs hm
theorem Vq.setT {w : World} {p : SP} {mb : Nat} {ms : List UInt8} {mv : Int} {s s' : Sto} {wx : World} (h : Vq w p mb ms mv s wx) {T s0 : List UInt8} (hT : txtA s0 = T) {n : Nat} (hn : n = T.length - 1) (hl : (txtC s0).length ≤ 600) (hs : setS s [109] (txtC s0) = (0,s')) (hm : StM s') :
    Calls Tryz.prog 15 #[.pointer (some ⟨p.sb,0,none⟩),.string ⟨#[109]⟩,.string ((⟨T.toArray⟩ : ByteArray).extract 0 n)] wx fun e w' => e = .returned (.bool true) ∧ Vq w p mb ms mv s' w' := by
  have e : T.take n = txtC s0 := by
    subst hn; rw [← hT]; unfold txtA txtC
    rw [List.take_append_of_le_length (by simp),List.take_of_length_le (by simp)]
  rw [take_str,e]
  exact h.set (txtC s0) hl hs hm
theorem Vq.setG {w : World} {p : SP} {mb : Nat} {ms : List UInt8} {mv : Int} {s s' : Sto} {wx : World} (h : Vq w p mb ms mv s wx) {s0 : List UInt8} (hl : (txtG s0).length ≤ 600) (hs : setS s [109] (txtG s0) = (0,s')) (hm : StM s') :
    Calls Tryz.prog 15 #[.pointer (some ⟨p.sb,0,none⟩),.string ⟨#[109]⟩,.string ((⟨#[102,110,32,103,40,107,58,32,105,110,116,41,58,32,98,111,111,108,32,61,32]⟩ ++ ⟨s0.toArray⟩) ++ ⟨#[59]⟩)] wx fun e w' => e = .returned (.bool true) ∧ Vq w p mb ms mv s' w' := by
  have := h.set (txtG s0) hl hs hm
  rw [show (⟨(txtG s0).toArray⟩ : ByteArray) = (⟨#[102,110,32,103,40,107,58,32,105,110,116,41,58,32,98,111,111,108,32,61,32]⟩ ++ ⟨s0.toArray⟩) ++ ⟨#[59]⟩ from (cat3 frontG s0 [59]).symm] at this
  exact this
set_option maxHeartbeats 25600000 in
theorem spoilt_any (w : World) (ao : Option Addr) (b off cap : Nat) (zs : List Int) (hc : ∀ j,(h : j < zs.length) → w.cell? ⟨b,off + j,none⟩ = some (.int .i64 zs[j])) (ha : ao = some ⟨b,off,none⟩ ∨ zs = []) (hbw : b < w.heap.size)
    (hwf : ∀ z ∈ zs,-9223372036854775808 ≤ z ∧ z ≤ 9223372036854775807) (hlen : zs.length ≤ 140737488355328) (at' : Int) (hat : I64 at') (rest : List UInt8) (hrest : rest.length ≤ 140737488355328) :
    Calls Tryz.prog 7 #[.slice ao zs.length cap,.int .i64 at',.string ⟨rest.toArray⟩] w fun e w' => e = .returned (.bool true) ∧ Below w.heap.size w w' := by
  have HBg := hide (began_any w)
  have HC := hide hc
  have HA := hide ha
  have HWf := hide hwf
  have HAt := hide hat
  clear hc ha hwf hat
  go_enter Tryz.func7,Tryz.ntmps7
  go_wp2_with fail
  refine HBg.out.mono ?_
  rintro e w1 ⟨p,rfl,hg⟩
  have HG := hide hg
  have hs1 := hg.bel.size
  clear hg
  have HD := hide (show Dc ⟨w1.heap.size,ao,b,off,cap,zs⟩ 0 (w1.alloc (.cells #[.slice ao zs.length cap,.int .i64 0] 30)) from
    ⟨block_new _ _,fun j hj => (below_cell (HG.out.bel.trans (((Below.refl _ w1).alloc (Nat.le_refl _) _).mono hs1)) hbw (off + j)).trans (HC.out j hj),HA.out,by show b ≠ w1.heap.size; omega,by show b < w1.heap.size; omega,HWf.out,Nat.zero_le _,hlen⟩)
  obtain ⟨R,hM,hRv,hN⟩ := number_got ⟨w1.heap.size,ao,b,off,cap,zs⟩ 3 (by omega) (show I64 0 by unfold I64; omega) _ (HD.out.alloc (.cells #[.string ⟨#[107]⟩,.int .i64 0] 35)) _ (vars_two w1 (.cells #[.slice ao zs.length cap,.int .i64 0] 30) 0)
  have HM := hide hM
  have HNum := hide hN
  clear hM hRv hN HD
  go_wp2_with fail
  refine HNum.out.mono ?_
  rintro e w2 ⟨rfl,hb2,hl2⟩
  have hb : Below w1.heap.size w1 w2 := by
    have a : Below w1.heap.size w1 ((w1.alloc (.cells #[.slice ao zs.length cap,.int .i64 0] 30)).alloc (.cells #[.string ⟨#[107]⟩,.int .i64 0] 35)) := ((Below.refl _ w1).alloc (Nat.le_refl _) _).alloc (by simp) _
    exact ⟨hb2.os.trans a.os,hb2.tape.trans a.tape,hb2.output.trans a.output,Nat.le_trans a.size hb2.size,fun i hi => (hb2.block i (by have := a.size; omega) (by show i ≠ w1.heap.size; omega)).trans (a.block i hi)⟩
  have HG2 := hide (HG.out.below hb)
  have hs2 := hb.size
  have HOut := hide (show ∀ x,p.own x → x < w1.heap.size from fun x hx => HG.out.st.lt hx)
  clear hb hb2
  clear HNum HG HC HA HWf HBg
  unfold mkVal
  rcases hbig : decide (300 < R.s.length) with _ | _
  · have hle : ¬ 300 < R.s.length := by simpa using hbig
    have HL := hide (show R.s.length ≤ 300 by omega)
    obtain ⟨s1,s2,_,_,_,_,_,hS⟩ := sp_states (HM.out.mono (show 2 * 3 + 1 ≤ 9 by omega)) HL.out 0 (by unfold txtA; simp; try omega) (fun h => absurd rfl h) [] (by simp)
    have HS := hide hS
    have HV0 := hide (show Vq w p w2.heap.size R.s R.v begS5 (w2.alloc (.cells #[.string ⟨R.s.toArray⟩,.int .i64 R.v] 32)) from
      ⟨HG2.out.allocV _,block_new _ _,fun h => by have := HOut.out _ h; omega⟩)
    clear hS HG2 HOut
    have HCat := hide (cat3 frontA (R.s) [59])
    have HTl := hide (show (txtA (R.s)).length = (R.s).length + 25 by unfold txtA frontA; simp)
    have hT6 : (txtA (R.s)).length ≤ 325 := by have := HTl.out; have := HL.out; omega
    have hT0 : 0 < (txtA (R.s)).length := by have := HTl.out; omega
    have HSp := hide (fun k hk he rest hr => sp_states (HM.out.mono (show 2 * 3 + 1 ≤ 9 by omega)) HL.out k hk he rest hr)
    go_wp2_with fail
    have e : ((({ data := #[112,117,98,32,102,110,32,102,40,107,58,32,105,110,116,41,58,32,105,110,116,32,61,32] } : ByteArray) ++ { data := R.s.toArray }) ++ { data := #[59] }) = ⟨(txtA (R.s)).toArray⟩ := HCat.out
    rw [e]
    clear e HCat
    refine (HV0.out.set (txtA (R.s)) (Nat.le_trans hT6 (by omega)) HS.out.set1 HS.out.m1).mono ?_
    rintro e wA ⟨rfl,hv⟩
    have HVA := hide hv
    clear hv
    go_wp2_with fail
    refine (HVA.out.clean HS.out.b1 HS.out.b2 HS.out.m2).mono ?_
    rintro e wB ⟨rfl,hv⟩
    have HVB := hide hv
    clear hv
    generalize hT : txtA (R.s) = T at *
    have HT := hide hT
    clear hT
    go_wp2_with fail
    refine (pick_any at' T.length _ HAt.out.1 HAt.out.2 (by omega) (by omega)).mono ?_
    rintro e wx ⟨rfl,rfl⟩
    have hpb := pickB_bd at' T.length (by omega)
    obtain ⟨k0,hk0⟩ : ∃ k0 : Nat,pickB at' T.length = (k0 : Int) := ⟨(pickB at' T.length).toNat,by omega⟩
    rw [hk0] at hpb ⊢
    clear hk0
    have hk0T : k0 < T.length := by omega
    clear hpb
    go_wp2
    go_loopw [15] (fun i wr => ∃ k : Nat,k < T.length ∧ i = .int .i64 k ∧ Hid (Vq w p w2.heap.size R.s R.v s2 wr)) (fun i _ => (intOf i).toNat)
    case atStart => exact ⟨k0,hk0T,rfl,HVB⟩
    case round =>
      obtain ⟨k,hk,rfl,HV⟩ := hrel
      rcases Nat.eq_zero_or_pos k with hk0 | hk0
      · have HE := hide ((show CutAt T k from Or.inl hk0).ends hk)
        have hk1 : ¬ (0 : Int) < (k : Int) := by omega
        clear hk0
        by_cases hr1 : (rest.length : Int) ≤ 100
        · have hr2 : ¬ 100 < (rest.length : Int) := by omega
          go_wp2_with fail
          obtain ⟨a1,a2,s3,s4,s5,s6,s7,hP⟩ := HSp.out (k) hk HE.out (rest) (by omega)
          obtain rfl : a1 = s1 := by have := hP.set1.symm.trans HS.out.set1; simpa using this
          obtain rfl : a2 = s2 := hP.b2.symm.trans HS.out.b2
          have HP := hide hP
          clear hP
          refine (HV.out.setX (T := T) (k := k) (rest := rest) (cut_len (k := k) (rest := rest) hT6 (by omega)) (by rw [← HT.out]; exact HP.out.set3) HP.out.m3).mono ?_
          rintro e wC ⟨rfl,hv⟩
          have HVC := hide hv
          clear hv
          go_wp2_with fail
          refine (HVC.out.wrong 4 (k) HP.out.b3 HP.out.b4 HP.out.m4).mono ?_
          rintro e wD ⟨rfl,hv⟩
          have HVD := hide hv
          clear hv
          go_wp2_with fail
          refine (HVD.out.setT HT.out rfl (by have := HTl.out; unfold txtC frontA; simp; try omega) HP.out.set5 HP.out.m5).mono ?_
          rintro e wE ⟨rfl,hv⟩
          have HVE := hide hv
          clear hv
          have HW5 := hide (HVE.out.wrong 4 (24 + (R.s).length) HP.out.b5 HP.out.b6 HP.out.m6)
          rw [show ((24 + (R.s).length : Nat) : Int) = (T.length : Int) - 1 by have := HTl.out; omega] at HW5
          go_wp2_with fail
          refine HW5.out.mono ?_
          rintro e wF ⟨rfl,hv⟩
          have HVF := hide hv
          clear hv HW5
          go_wp2_with fail
          refine (HVF.out.setG (by have := HTl.out; unfold txtG frontG; simp; try omega) HP.out.set7 HP.out.m7).mono ?_
          rintro e wG ⟨rfl,hv⟩
          have HVG := hide hv
          clear hv
          go_wp2_with fail
          refine (HVG.out.wrong 8 21 HP.out.b7 rfl HP.out.m8).mono ?_
          rintro e wH ⟨rfl,hv⟩
          have HVH := hide hv
          clear hv
          go_wp2
          go_ret
          exact ⟨rfl,HVH.out.bg.bel⟩
        · have hr2 : 100 < (rest.length : Int) := by omega
          go_wp2_with fail
          obtain ⟨a1,a2,s3,s4,s5,s6,s7,hP⟩ := HSp.out (k) hk HE.out (rest.take 100) (by rw [List.length_take]; omega)
          obtain rfl : a1 = s1 := by have := hP.set1.symm.trans HS.out.set1; simpa using this
          obtain rfl : a2 = s2 := hP.b2.symm.trans HS.out.b2
          have HP := hide hP
          clear hP
          refine (HV.out.setX2 (T := T) (k := k) (rest := rest) (cut_len (k := k) (rest := rest.take 100) hT6 (by rw [List.length_take]; omega)) (by rw [← HT.out]; exact HP.out.set3) HP.out.m3).mono ?_
          rintro e wC ⟨rfl,hv⟩
          have HVC := hide hv
          clear hv
          go_wp2_with fail
          refine (HVC.out.wrong 4 (k) HP.out.b3 HP.out.b4 HP.out.m4).mono ?_
          rintro e wD ⟨rfl,hv⟩
          have HVD := hide hv
          clear hv
          go_wp2_with fail
          refine (HVD.out.setT HT.out rfl (by have := HTl.out; unfold txtC frontA; simp; try omega) HP.out.set5 HP.out.m5).mono ?_
          rintro e wE ⟨rfl,hv⟩
          have HVE := hide hv
          clear hv
          have HW5 := hide (HVE.out.wrong 4 (24 + (R.s).length) HP.out.b5 HP.out.b6 HP.out.m6)
          rw [show ((24 + (R.s).length : Nat) : Int) = (T.length : Int) - 1 by have := HTl.out; omega] at HW5
          go_wp2_with fail
          refine HW5.out.mono ?_
          rintro e wF ⟨rfl,hv⟩
          have HVF := hide hv
          clear hv HW5
          go_wp2_with fail
          refine (HVF.out.setG (by have := HTl.out; unfold txtG frontG; simp; try omega) HP.out.set7 HP.out.m7).mono ?_
          rintro e wG ⟨rfl,hv⟩
          have HVG := hide hv
          clear hv
          go_wp2_with fail
          refine (HVG.out.wrong 8 21 HP.out.b7 rfl HP.out.m8).mono ?_
          rintro e wH ⟨rfl,hv⟩
          have HVH := hide hv
          clear hv
          go_wp2
          go_ret
          exact ⟨rfl,HVH.out.bg.bel⟩
      · obtain ⟨j,rfl⟩ : ∃ j,k = j + 1 := ⟨k - 1,by omega⟩
        have hj : j < T.length := by omega
        have hij : (((j + 1 : Nat) : Int) - 1) = (j : Int) := by omega
        have hwj : IntKind.i64.wrap (((j + 1 : Nat) : Int) - 1) = (j : Int) := by rw [wrap_id _ (by omega) (by omega)]; omega
        have hsz : j < (⟨T.toArray⟩ : ByteArray).size := hj
        have hby : (⟨T.toArray⟩ : ByteArray)[j]'hsz = T[j] := rfl
        by_cases h32 : ((((⟨T.toArray⟩ : ByteArray)[j]'hsz).toNat : Nat) : Int) = 32
        · have hcut : CutAt T (j + 1) := Or.inr ⟨T[j],by simp [hj],Or.inl (b32 h32)⟩
          have HE := hide (hcut.ends hk)
          clear hcut
          by_cases hr1 : (rest.length : Int) ≤ 100
          · have hr2 : ¬ 100 < (rest.length : Int) := by omega
            go_wp2_with fail
            obtain ⟨a1,a2,s3,s4,s5,s6,s7,hP⟩ := HSp.out (j + 1) hk HE.out (rest) (by omega)
            obtain rfl : a1 = s1 := by have := hP.set1.symm.trans HS.out.set1; simpa using this
            obtain rfl : a2 = s2 := hP.b2.symm.trans HS.out.b2
            have HP := hide hP
            clear hP
            refine (HV.out.setX (T := T) (k := j + 1) (rest := rest) (cut_len (k := j + 1) (rest := rest) hT6 (by omega)) (by rw [← HT.out]; exact HP.out.set3) HP.out.m3).mono ?_
            rintro e wC ⟨rfl,hv⟩
            have HVC := hide hv
            clear hv
            go_wp2_with fail
            refine (HVC.out.wrong 4 (j + 1) HP.out.b3 HP.out.b4 HP.out.m4).mono ?_
            rintro e wD ⟨rfl,hv⟩
            have HVD := hide hv
            clear hv
            go_wp2_with fail
            refine (HVD.out.setT HT.out rfl (by have := HTl.out; unfold txtC frontA; simp; try omega) HP.out.set5 HP.out.m5).mono ?_
            rintro e wE ⟨rfl,hv⟩
            have HVE := hide hv
            clear hv
            have HW5 := hide (HVE.out.wrong 4 (24 + (R.s).length) HP.out.b5 HP.out.b6 HP.out.m6)
            rw [show ((24 + (R.s).length : Nat) : Int) = (T.length : Int) - 1 by have := HTl.out; omega] at HW5
            go_wp2_with fail
            refine HW5.out.mono ?_
            rintro e wF ⟨rfl,hv⟩
            have HVF := hide hv
            clear hv HW5
            go_wp2_with fail
            refine (HVF.out.setG (by have := HTl.out; unfold txtG frontG; simp; try omega) HP.out.set7 HP.out.m7).mono ?_
            rintro e wG ⟨rfl,hv⟩
            have HVG := hide hv
            clear hv
            go_wp2_with fail
            refine (HVG.out.wrong 8 21 HP.out.b7 rfl HP.out.m8).mono ?_
            rintro e wH ⟨rfl,hv⟩
            have HVH := hide hv
            clear hv
            go_wp2
            go_ret
            exact ⟨rfl,HVH.out.bg.bel⟩
          · have hr2 : 100 < (rest.length : Int) := by omega
            go_wp2_with fail
            obtain ⟨a1,a2,s3,s4,s5,s6,s7,hP⟩ := HSp.out (j + 1) hk HE.out (rest.take 100) (by rw [List.length_take]; omega)
            obtain rfl : a1 = s1 := by have := hP.set1.symm.trans HS.out.set1; simpa using this
            obtain rfl : a2 = s2 := hP.b2.symm.trans HS.out.b2
            have HP := hide hP
            clear hP
            refine (HV.out.setX2 (T := T) (k := j + 1) (rest := rest) (cut_len (k := j + 1) (rest := rest.take 100) hT6 (by rw [List.length_take]; omega)) (by rw [← HT.out]; exact HP.out.set3) HP.out.m3).mono ?_
            rintro e wC ⟨rfl,hv⟩
            have HVC := hide hv
            clear hv
            go_wp2_with fail
            refine (HVC.out.wrong 4 (j + 1) HP.out.b3 HP.out.b4 HP.out.m4).mono ?_
            rintro e wD ⟨rfl,hv⟩
            have HVD := hide hv
            clear hv
            go_wp2_with fail
            refine (HVD.out.setT HT.out rfl (by have := HTl.out; unfold txtC frontA; simp; try omega) HP.out.set5 HP.out.m5).mono ?_
            rintro e wE ⟨rfl,hv⟩
            have HVE := hide hv
            clear hv
            have HW5 := hide (HVE.out.wrong 4 (24 + (R.s).length) HP.out.b5 HP.out.b6 HP.out.m6)
            rw [show ((24 + (R.s).length : Nat) : Int) = (T.length : Int) - 1 by have := HTl.out; omega] at HW5
            go_wp2_with fail
            refine HW5.out.mono ?_
            rintro e wF ⟨rfl,hv⟩
            have HVF := hide hv
            clear hv HW5
            go_wp2_with fail
            refine (HVF.out.setG (by have := HTl.out; unfold txtG frontG; simp; try omega) HP.out.set7 HP.out.m7).mono ?_
            rintro e wG ⟨rfl,hv⟩
            have HVG := hide hv
            clear hv
            go_wp2_with fail
            refine (HVG.out.wrong 8 21 HP.out.b7 rfl HP.out.m8).mono ?_
            rintro e wH ⟨rfl,hv⟩
            have HVH := hide hv
            clear hv
            go_wp2
            go_ret
            exact ⟨rfl,HVH.out.bg.bel⟩
        · by_cases h40 : ((((⟨T.toArray⟩ : ByteArray)[j]'hsz).toNat : Nat) : Int) = 40
          · have hcut : CutAt T (j + 1) := Or.inr ⟨T[j],by simp [hj],Or.inr (b40 h40)⟩
            have HE := hide (hcut.ends hk)
            clear hcut
            have h32' : (((T[j].toNat : Nat) : Int) != 32) = true := by simpa using (show ¬ ((T[j].toNat : Nat) : Int) = 32 from h32)
            have h40' : (((T[j].toNat : Nat) : Int) != 40) = false := by simpa using (show ((T[j].toNat : Nat) : Int) = 40 from h40)
            by_cases hr1 : (rest.length : Int) ≤ 100
            · have hr2 : ¬ 100 < (rest.length : Int) := by omega
              go_wp2_with fail
              obtain ⟨a1,a2,s3,s4,s5,s6,s7,hP⟩ := HSp.out (j + 1) hk HE.out (rest) (by omega)
              obtain rfl : a1 = s1 := by have := hP.set1.symm.trans HS.out.set1; simpa using this
              obtain rfl : a2 = s2 := hP.b2.symm.trans HS.out.b2
              have HP := hide hP
              clear hP
              refine (HV.out.setX (T := T) (k := j + 1) (rest := rest) (cut_len (k := j + 1) (rest := rest) hT6 (by omega)) (by rw [← HT.out]; exact HP.out.set3) HP.out.m3).mono ?_
              rintro e wC ⟨rfl,hv⟩
              have HVC := hide hv
              clear hv
              go_wp2_with fail
              refine (HVC.out.wrong 4 (j + 1) HP.out.b3 HP.out.b4 HP.out.m4).mono ?_
              rintro e wD ⟨rfl,hv⟩
              have HVD := hide hv
              clear hv
              go_wp2_with fail
              refine (HVD.out.setT HT.out rfl (by have := HTl.out; unfold txtC frontA; simp; try omega) HP.out.set5 HP.out.m5).mono ?_
              rintro e wE ⟨rfl,hv⟩
              have HVE := hide hv
              clear hv
              have HW5 := hide (HVE.out.wrong 4 (24 + (R.s).length) HP.out.b5 HP.out.b6 HP.out.m6)
              rw [show ((24 + (R.s).length : Nat) : Int) = (T.length : Int) - 1 by have := HTl.out; omega] at HW5
              go_wp2_with fail
              refine HW5.out.mono ?_
              rintro e wF ⟨rfl,hv⟩
              have HVF := hide hv
              clear hv HW5
              go_wp2_with fail
              refine (HVF.out.setG (by have := HTl.out; unfold txtG frontG; simp; try omega) HP.out.set7 HP.out.m7).mono ?_
              rintro e wG ⟨rfl,hv⟩
              have HVG := hide hv
              clear hv
              go_wp2_with fail
              refine (HVG.out.wrong 8 21 HP.out.b7 rfl HP.out.m8).mono ?_
              rintro e wH ⟨rfl,hv⟩
              have HVH := hide hv
              clear hv
              go_wp2
              go_ret
              exact ⟨rfl,HVH.out.bg.bel⟩
            · have hr2 : 100 < (rest.length : Int) := by omega
              go_wp2_with fail
              obtain ⟨a1,a2,s3,s4,s5,s6,s7,hP⟩ := HSp.out (j + 1) hk HE.out (rest.take 100) (by rw [List.length_take]; omega)
              obtain rfl : a1 = s1 := by have := hP.set1.symm.trans HS.out.set1; simpa using this
              obtain rfl : a2 = s2 := hP.b2.symm.trans HS.out.b2
              have HP := hide hP
              clear hP
              refine (HV.out.setX2 (T := T) (k := j + 1) (rest := rest) (cut_len (k := j + 1) (rest := rest.take 100) hT6 (by rw [List.length_take]; omega)) (by rw [← HT.out]; exact HP.out.set3) HP.out.m3).mono ?_
              rintro e wC ⟨rfl,hv⟩
              have HVC := hide hv
              clear hv
              go_wp2_with fail
              refine (HVC.out.wrong 4 (j + 1) HP.out.b3 HP.out.b4 HP.out.m4).mono ?_
              rintro e wD ⟨rfl,hv⟩
              have HVD := hide hv
              clear hv
              go_wp2_with fail
              refine (HVD.out.setT HT.out rfl (by have := HTl.out; unfold txtC frontA; simp; try omega) HP.out.set5 HP.out.m5).mono ?_
              rintro e wE ⟨rfl,hv⟩
              have HVE := hide hv
              clear hv
              have HW5 := hide (HVE.out.wrong 4 (24 + (R.s).length) HP.out.b5 HP.out.b6 HP.out.m6)
              rw [show ((24 + (R.s).length : Nat) : Int) = (T.length : Int) - 1 by have := HTl.out; omega] at HW5
              go_wp2_with fail
              refine HW5.out.mono ?_
              rintro e wF ⟨rfl,hv⟩
              have HVF := hide hv
              clear hv HW5
              go_wp2_with fail
              refine (HVF.out.setG (by have := HTl.out; unfold txtG frontG; simp; try omega) HP.out.set7 HP.out.m7).mono ?_
              rintro e wG ⟨rfl,hv⟩
              have HVG := hide hv
              clear hv
              go_wp2_with fail
              refine (HVG.out.wrong 8 21 HP.out.b7 rfl HP.out.m8).mono ?_
              rintro e wH ⟨rfl,hv⟩
              have HVH := hide hv
              clear hv
              go_wp2
              go_ret
              exact ⟨rfl,HVH.out.bg.bel⟩
          · have h32' : (((T[j].toNat : Nat) : Int) != 32) = true := by simpa using (show ¬ ((T[j].toNat : Nat) : Int) = 32 from h32)
            have h40' : (((T[j].toNat : Nat) : Int) != 40) = true := by simpa using (show ¬ ((T[j].toNat : Nat) : Int) = 40 from h40)
            go_wp2
            go_roundw
            case rel => exact ⟨j,by omega,rfl,HV⟩
            case measure => simp [intOf]
  · have hgt : 300 < R.s.length := by simpa using hbig
    have HL := hide (show ([107] : List UInt8).length ≤ 300 by decide)
    obtain ⟨s1,s2,_,_,_,_,_,hS⟩ := sp_states (made_k 0) HL.out 0 (by unfold txtA; simp; try omega) (fun h => absurd rfl h) [] (by simp)
    have HS := hide hS
    have HV0 := hide (show Vq w p w2.heap.size R.s R.v begS5 (w2.alloc (.cells #[.string ⟨R.s.toArray⟩,.int .i64 R.v] 32)) from
      ⟨HG2.out.allocV _,block_new _ _,fun h => by have := HOut.out _ h; omega⟩)
    clear hS HG2 HOut
    have HCat := hide (cat3 frontA ([107] : List UInt8) [59])
    have HTl := hide (show (txtA ([107] : List UInt8)).length = ([107] : List UInt8).length + 25 by unfold txtA frontA; simp)
    have hT6 : (txtA ([107] : List UInt8)).length ≤ 325 := by have := HTl.out; have := HL.out; omega
    have hT0 : 0 < (txtA ([107] : List UInt8)).length := by have := HTl.out; omega
    have HSp := hide (fun k hk he rest hr => sp_states (made_k 0) HL.out k hk he rest hr)
    go_wp2_with fail
    have e : ((({ data := #[112,117,98,32,102,110,32,102,40,107,58,32,105,110,116,41,58,32,105,110,116,32,61,32] } : ByteArray) ++ { data := #[107] }) ++ { data := #[59] }) = ⟨(txtA ([107] : List UInt8)).toArray⟩ := HCat.out
    rw [e]
    clear e HCat
    refine (HV0.out.set (txtA ([107] : List UInt8)) (Nat.le_trans hT6 (by omega)) HS.out.set1 HS.out.m1).mono ?_
    rintro e wA ⟨rfl,hv⟩
    have HVA := hide hv
    clear hv
    go_wp2_with fail
    refine (HVA.out.clean HS.out.b1 HS.out.b2 HS.out.m2).mono ?_
    rintro e wB ⟨rfl,hv⟩
    have HVB := hide hv
    clear hv
    generalize hT : txtA ([107] : List UInt8) = T at *
    have HT := hide hT
    clear hT
    go_wp2_with fail
    refine (pick_any at' T.length _ HAt.out.1 HAt.out.2 (by omega) (by omega)).mono ?_
    rintro e wx ⟨rfl,rfl⟩
    have hpb := pickB_bd at' T.length (by omega)
    obtain ⟨k0,hk0⟩ : ∃ k0 : Nat,pickB at' T.length = (k0 : Int) := ⟨(pickB at' T.length).toNat,by omega⟩
    rw [hk0] at hpb ⊢
    clear hk0
    have hk0T : k0 < T.length := by omega
    clear hpb
    go_wp2
    go_loopw [15] (fun i wr => ∃ k : Nat,k < T.length ∧ i = .int .i64 k ∧ Hid (Vq w p w2.heap.size R.s R.v s2 wr)) (fun i _ => (intOf i).toNat)
    case atStart => exact ⟨k0,hk0T,rfl,HVB⟩
    case round =>
      obtain ⟨k,hk,rfl,HV⟩ := hrel
      rcases Nat.eq_zero_or_pos k with hk0 | hk0
      · have HE := hide ((show CutAt T k from Or.inl hk0).ends hk)
        have hk1 : ¬ (0 : Int) < (k : Int) := by omega
        clear hk0
        by_cases hr1 : (rest.length : Int) ≤ 100
        · have hr2 : ¬ 100 < (rest.length : Int) := by omega
          go_wp2_with fail
          obtain ⟨a1,a2,s3,s4,s5,s6,s7,hP⟩ := HSp.out (k) hk HE.out (rest) (by omega)
          obtain rfl : a1 = s1 := by have := hP.set1.symm.trans HS.out.set1; simpa using this
          obtain rfl : a2 = s2 := hP.b2.symm.trans HS.out.b2
          have HP := hide hP
          clear hP
          refine (HV.out.setX (T := T) (k := k) (rest := rest) (cut_len (k := k) (rest := rest) hT6 (by omega)) (by rw [← HT.out]; exact HP.out.set3) HP.out.m3).mono ?_
          rintro e wC ⟨rfl,hv⟩
          have HVC := hide hv
          clear hv
          go_wp2_with fail
          refine (HVC.out.wrong 4 (k) HP.out.b3 HP.out.b4 HP.out.m4).mono ?_
          rintro e wD ⟨rfl,hv⟩
          have HVD := hide hv
          clear hv
          go_wp2_with fail
          refine (HVD.out.setT HT.out rfl (by have := HTl.out; unfold txtC frontA; simp; try omega) HP.out.set5 HP.out.m5).mono ?_
          rintro e wE ⟨rfl,hv⟩
          have HVE := hide hv
          clear hv
          have HW5 := hide (HVE.out.wrong 4 (24 + ([107] : List UInt8).length) HP.out.b5 HP.out.b6 HP.out.m6)
          rw [show ((24 + ([107] : List UInt8).length : Nat) : Int) = (T.length : Int) - 1 by have := HTl.out; omega] at HW5
          go_wp2_with fail
          refine HW5.out.mono ?_
          rintro e wF ⟨rfl,hv⟩
          have HVF := hide hv
          clear hv HW5
          go_wp2_with fail
          refine (HVF.out.setG (by have := HTl.out; unfold txtG frontG; simp; try omega) HP.out.set7 HP.out.m7).mono ?_
          rintro e wG ⟨rfl,hv⟩
          have HVG := hide hv
          clear hv
          go_wp2_with fail
          refine (HVG.out.wrong 8 21 HP.out.b7 rfl HP.out.m8).mono ?_
          rintro e wH ⟨rfl,hv⟩
          have HVH := hide hv
          clear hv
          go_wp2
          go_ret
          exact ⟨rfl,HVH.out.bg.bel⟩
        · have hr2 : 100 < (rest.length : Int) := by omega
          go_wp2_with fail
          obtain ⟨a1,a2,s3,s4,s5,s6,s7,hP⟩ := HSp.out (k) hk HE.out (rest.take 100) (by rw [List.length_take]; omega)
          obtain rfl : a1 = s1 := by have := hP.set1.symm.trans HS.out.set1; simpa using this
          obtain rfl : a2 = s2 := hP.b2.symm.trans HS.out.b2
          have HP := hide hP
          clear hP
          refine (HV.out.setX2 (T := T) (k := k) (rest := rest) (cut_len (k := k) (rest := rest.take 100) hT6 (by rw [List.length_take]; omega)) (by rw [← HT.out]; exact HP.out.set3) HP.out.m3).mono ?_
          rintro e wC ⟨rfl,hv⟩
          have HVC := hide hv
          clear hv
          go_wp2_with fail
          refine (HVC.out.wrong 4 (k) HP.out.b3 HP.out.b4 HP.out.m4).mono ?_
          rintro e wD ⟨rfl,hv⟩
          have HVD := hide hv
          clear hv
          go_wp2_with fail
          refine (HVD.out.setT HT.out rfl (by have := HTl.out; unfold txtC frontA; simp; try omega) HP.out.set5 HP.out.m5).mono ?_
          rintro e wE ⟨rfl,hv⟩
          have HVE := hide hv
          clear hv
          have HW5 := hide (HVE.out.wrong 4 (24 + ([107] : List UInt8).length) HP.out.b5 HP.out.b6 HP.out.m6)
          rw [show ((24 + ([107] : List UInt8).length : Nat) : Int) = (T.length : Int) - 1 by have := HTl.out; omega] at HW5
          go_wp2_with fail
          refine HW5.out.mono ?_
          rintro e wF ⟨rfl,hv⟩
          have HVF := hide hv
          clear hv HW5
          go_wp2_with fail
          refine (HVF.out.setG (by have := HTl.out; unfold txtG frontG; simp; try omega) HP.out.set7 HP.out.m7).mono ?_
          rintro e wG ⟨rfl,hv⟩
          have HVG := hide hv
          clear hv
          go_wp2_with fail
          refine (HVG.out.wrong 8 21 HP.out.b7 rfl HP.out.m8).mono ?_
          rintro e wH ⟨rfl,hv⟩
          have HVH := hide hv
          clear hv
          go_wp2
          go_ret
          exact ⟨rfl,HVH.out.bg.bel⟩
      · obtain ⟨j,rfl⟩ : ∃ j,k = j + 1 := ⟨k - 1,by omega⟩
        have hj : j < T.length := by omega
        have hij : (((j + 1 : Nat) : Int) - 1) = (j : Int) := by omega
        have hwj : IntKind.i64.wrap (((j + 1 : Nat) : Int) - 1) = (j : Int) := by rw [wrap_id _ (by omega) (by omega)]; omega
        have hsz : j < (⟨T.toArray⟩ : ByteArray).size := hj
        have hby : (⟨T.toArray⟩ : ByteArray)[j]'hsz = T[j] := rfl
        by_cases h32 : ((((⟨T.toArray⟩ : ByteArray)[j]'hsz).toNat : Nat) : Int) = 32
        · have hcut : CutAt T (j + 1) := Or.inr ⟨T[j],by simp [hj],Or.inl (b32 h32)⟩
          have HE := hide (hcut.ends hk)
          clear hcut
          by_cases hr1 : (rest.length : Int) ≤ 100
          · have hr2 : ¬ 100 < (rest.length : Int) := by omega
            go_wp2_with fail
            obtain ⟨a1,a2,s3,s4,s5,s6,s7,hP⟩ := HSp.out (j + 1) hk HE.out (rest) (by omega)
            obtain rfl : a1 = s1 := by have := hP.set1.symm.trans HS.out.set1; simpa using this
            obtain rfl : a2 = s2 := hP.b2.symm.trans HS.out.b2
            have HP := hide hP
            clear hP
            refine (HV.out.setX (T := T) (k := j + 1) (rest := rest) (cut_len (k := j + 1) (rest := rest) hT6 (by omega)) (by rw [← HT.out]; exact HP.out.set3) HP.out.m3).mono ?_
            rintro e wC ⟨rfl,hv⟩
            have HVC := hide hv
            clear hv
            go_wp2_with fail
            refine (HVC.out.wrong 4 (j + 1) HP.out.b3 HP.out.b4 HP.out.m4).mono ?_
            rintro e wD ⟨rfl,hv⟩
            have HVD := hide hv
            clear hv
            go_wp2_with fail
            refine (HVD.out.setT HT.out rfl (by have := HTl.out; unfold txtC frontA; simp; try omega) HP.out.set5 HP.out.m5).mono ?_
            rintro e wE ⟨rfl,hv⟩
            have HVE := hide hv
            clear hv
            have HW5 := hide (HVE.out.wrong 4 (24 + ([107] : List UInt8).length) HP.out.b5 HP.out.b6 HP.out.m6)
            rw [show ((24 + ([107] : List UInt8).length : Nat) : Int) = (T.length : Int) - 1 by have := HTl.out; omega] at HW5
            go_wp2_with fail
            refine HW5.out.mono ?_
            rintro e wF ⟨rfl,hv⟩
            have HVF := hide hv
            clear hv HW5
            go_wp2_with fail
            refine (HVF.out.setG (by have := HTl.out; unfold txtG frontG; simp; try omega) HP.out.set7 HP.out.m7).mono ?_
            rintro e wG ⟨rfl,hv⟩
            have HVG := hide hv
            clear hv
            go_wp2_with fail
            refine (HVG.out.wrong 8 21 HP.out.b7 rfl HP.out.m8).mono ?_
            rintro e wH ⟨rfl,hv⟩
            have HVH := hide hv
            clear hv
            go_wp2
            go_ret
            exact ⟨rfl,HVH.out.bg.bel⟩
          · have hr2 : 100 < (rest.length : Int) := by omega
            go_wp2_with fail
            obtain ⟨a1,a2,s3,s4,s5,s6,s7,hP⟩ := HSp.out (j + 1) hk HE.out (rest.take 100) (by rw [List.length_take]; omega)
            obtain rfl : a1 = s1 := by have := hP.set1.symm.trans HS.out.set1; simpa using this
            obtain rfl : a2 = s2 := hP.b2.symm.trans HS.out.b2
            have HP := hide hP
            clear hP
            refine (HV.out.setX2 (T := T) (k := j + 1) (rest := rest) (cut_len (k := j + 1) (rest := rest.take 100) hT6 (by rw [List.length_take]; omega)) (by rw [← HT.out]; exact HP.out.set3) HP.out.m3).mono ?_
            rintro e wC ⟨rfl,hv⟩
            have HVC := hide hv
            clear hv
            go_wp2_with fail
            refine (HVC.out.wrong 4 (j + 1) HP.out.b3 HP.out.b4 HP.out.m4).mono ?_
            rintro e wD ⟨rfl,hv⟩
            have HVD := hide hv
            clear hv
            go_wp2_with fail
            refine (HVD.out.setT HT.out rfl (by have := HTl.out; unfold txtC frontA; simp; try omega) HP.out.set5 HP.out.m5).mono ?_
            rintro e wE ⟨rfl,hv⟩
            have HVE := hide hv
            clear hv
            have HW5 := hide (HVE.out.wrong 4 (24 + ([107] : List UInt8).length) HP.out.b5 HP.out.b6 HP.out.m6)
            rw [show ((24 + ([107] : List UInt8).length : Nat) : Int) = (T.length : Int) - 1 by have := HTl.out; omega] at HW5
            go_wp2_with fail
            refine HW5.out.mono ?_
            rintro e wF ⟨rfl,hv⟩
            have HVF := hide hv
            clear hv HW5
            go_wp2_with fail
            refine (HVF.out.setG (by have := HTl.out; unfold txtG frontG; simp; try omega) HP.out.set7 HP.out.m7).mono ?_
            rintro e wG ⟨rfl,hv⟩
            have HVG := hide hv
            clear hv
            go_wp2_with fail
            refine (HVG.out.wrong 8 21 HP.out.b7 rfl HP.out.m8).mono ?_
            rintro e wH ⟨rfl,hv⟩
            have HVH := hide hv
            clear hv
            go_wp2
            go_ret
            exact ⟨rfl,HVH.out.bg.bel⟩
        · by_cases h40 : ((((⟨T.toArray⟩ : ByteArray)[j]'hsz).toNat : Nat) : Int) = 40
          · have hcut : CutAt T (j + 1) := Or.inr ⟨T[j],by simp [hj],Or.inr (b40 h40)⟩
            have HE := hide (hcut.ends hk)
            clear hcut
            have h32' : (((T[j].toNat : Nat) : Int) != 32) = true := by simpa using (show ¬ ((T[j].toNat : Nat) : Int) = 32 from h32)
            have h40' : (((T[j].toNat : Nat) : Int) != 40) = false := by simpa using (show ((T[j].toNat : Nat) : Int) = 40 from h40)
            by_cases hr1 : (rest.length : Int) ≤ 100
            · have hr2 : ¬ 100 < (rest.length : Int) := by omega
              go_wp2_with fail
              obtain ⟨a1,a2,s3,s4,s5,s6,s7,hP⟩ := HSp.out (j + 1) hk HE.out (rest) (by omega)
              obtain rfl : a1 = s1 := by have := hP.set1.symm.trans HS.out.set1; simpa using this
              obtain rfl : a2 = s2 := hP.b2.symm.trans HS.out.b2
              have HP := hide hP
              clear hP
              refine (HV.out.setX (T := T) (k := j + 1) (rest := rest) (cut_len (k := j + 1) (rest := rest) hT6 (by omega)) (by rw [← HT.out]; exact HP.out.set3) HP.out.m3).mono ?_
              rintro e wC ⟨rfl,hv⟩
              have HVC := hide hv
              clear hv
              go_wp2_with fail
              refine (HVC.out.wrong 4 (j + 1) HP.out.b3 HP.out.b4 HP.out.m4).mono ?_
              rintro e wD ⟨rfl,hv⟩
              have HVD := hide hv
              clear hv
              go_wp2_with fail
              refine (HVD.out.setT HT.out rfl (by have := HTl.out; unfold txtC frontA; simp; try omega) HP.out.set5 HP.out.m5).mono ?_
              rintro e wE ⟨rfl,hv⟩
              have HVE := hide hv
              clear hv
              have HW5 := hide (HVE.out.wrong 4 (24 + ([107] : List UInt8).length) HP.out.b5 HP.out.b6 HP.out.m6)
              rw [show ((24 + ([107] : List UInt8).length : Nat) : Int) = (T.length : Int) - 1 by have := HTl.out; omega] at HW5
              go_wp2_with fail
              refine HW5.out.mono ?_
              rintro e wF ⟨rfl,hv⟩
              have HVF := hide hv
              clear hv HW5
              go_wp2_with fail
              refine (HVF.out.setG (by have := HTl.out; unfold txtG frontG; simp; try omega) HP.out.set7 HP.out.m7).mono ?_
              rintro e wG ⟨rfl,hv⟩
              have HVG := hide hv
              clear hv
              go_wp2_with fail
              refine (HVG.out.wrong 8 21 HP.out.b7 rfl HP.out.m8).mono ?_
              rintro e wH ⟨rfl,hv⟩
              have HVH := hide hv
              clear hv
              go_wp2
              go_ret
              exact ⟨rfl,HVH.out.bg.bel⟩
            · have hr2 : 100 < (rest.length : Int) := by omega
              go_wp2_with fail
              obtain ⟨a1,a2,s3,s4,s5,s6,s7,hP⟩ := HSp.out (j + 1) hk HE.out (rest.take 100) (by rw [List.length_take]; omega)
              obtain rfl : a1 = s1 := by have := hP.set1.symm.trans HS.out.set1; simpa using this
              obtain rfl : a2 = s2 := hP.b2.symm.trans HS.out.b2
              have HP := hide hP
              clear hP
              refine (HV.out.setX2 (T := T) (k := j + 1) (rest := rest) (cut_len (k := j + 1) (rest := rest.take 100) hT6 (by rw [List.length_take]; omega)) (by rw [← HT.out]; exact HP.out.set3) HP.out.m3).mono ?_
              rintro e wC ⟨rfl,hv⟩
              have HVC := hide hv
              clear hv
              go_wp2_with fail
              refine (HVC.out.wrong 4 (j + 1) HP.out.b3 HP.out.b4 HP.out.m4).mono ?_
              rintro e wD ⟨rfl,hv⟩
              have HVD := hide hv
              clear hv
              go_wp2_with fail
              refine (HVD.out.setT HT.out rfl (by have := HTl.out; unfold txtC frontA; simp; try omega) HP.out.set5 HP.out.m5).mono ?_
              rintro e wE ⟨rfl,hv⟩
              have HVE := hide hv
              clear hv
              have HW5 := hide (HVE.out.wrong 4 (24 + ([107] : List UInt8).length) HP.out.b5 HP.out.b6 HP.out.m6)
              rw [show ((24 + ([107] : List UInt8).length : Nat) : Int) = (T.length : Int) - 1 by have := HTl.out; omega] at HW5
              go_wp2_with fail
              refine HW5.out.mono ?_
              rintro e wF ⟨rfl,hv⟩
              have HVF := hide hv
              clear hv HW5
              go_wp2_with fail
              refine (HVF.out.setG (by have := HTl.out; unfold txtG frontG; simp; try omega) HP.out.set7 HP.out.m7).mono ?_
              rintro e wG ⟨rfl,hv⟩
              have HVG := hide hv
              clear hv
              go_wp2_with fail
              refine (HVG.out.wrong 8 21 HP.out.b7 rfl HP.out.m8).mono ?_
              rintro e wH ⟨rfl,hv⟩
              have HVH := hide hv
              clear hv
              go_wp2
              go_ret
              exact ⟨rfl,HVH.out.bg.bel⟩
          · have h32' : (((T[j].toNat : Nat) : Int) != 32) = true := by simpa using (show ¬ ((T[j].toNat : Nat) : Int) = 32 from h32)
            have h40' : (((T[j].toNat : Nat) : Int) != 40) = true := by simpa using (show ¬ ((T[j].toNat : Nat) : Int) = 40 from h40)
            go_wp2
            go_roundw
            case rel => exact ⟨j,by omega,rfl,HV⟩
            case measure => simp [intOf]
end Go.Proofs.YtpmmjkiclngpmaaGreatDoor
