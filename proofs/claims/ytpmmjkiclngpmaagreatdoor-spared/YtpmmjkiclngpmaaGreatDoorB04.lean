/- YtpmmjkiclngpmaaGreatDoorB04 -/
import Derived.Test.YtpmmjkiclngpmaaGreatDoorB02
import Derived.Test.YtpmmjkiclngpmaaGreatDoorB03
import Derived.Deep.RegionWith
set_option maxRecDepth 100000
set_option linter.unusedSimpArgs false
set_option linter.unusedVariables false
set_option maxHeartbeats 12800000
namespace Go.Proofs.YtpmmjkiclngpmaaGreatDoor
open Go.RowKit
theorem digits_snoc (l : List UInt8) (c : UInt8) : digitsB (l ++ [c]) = 10 * digitsB l + (c.toNat - 48) := by simp [digitsB]
theorem digits_take (s : ByteArray) (k : Nat) (h : k < s.size) : digitsB (s.data.toList.take (k + 1)) = 10 * digitsB (s.data.toList.take k) + (s[k].toNat - 48) := by
  rw [List.take_succ_eq_append_getElem (by simpa using h),digits_snoc]; rfl
theorem digits_bd (s : ByteArray) (hd : ∀ j,(h : j < s.size) → isDigitB (s[j].toNat : Int) = true) (k : Nat) (h : k ≤ s.size) : digitsB (s.data.toList.take k) < 10 ^ k := by
  induction k with
  | zero => simp [digitsB]
  | succ k ih =>
    have h1 := ih (by omega)
    have h2 := hd k (by omega)
    simp [isDigitB] at h2
    rw [digits_take s k (by omega),Nat.pow_succ]
    omega
theorem bytes_of (w : World) (s : ByteArray) : ∃ C W,(convert 9 115 (.string s)).run Tryz.prog w = .ok (.slice (some ⟨w.heap.size,0,none⟩) s.size C) W ∧ Below w.heap.size w W ∧ w.heap.size < W.heap.size ∧
    ∀ j,(h : j < s.size) → W.cell? ⟨w.heap.size,j,none⟩ = some (.int .u8 (s[j].toNat : Int)) := by
  refine ⟨_,_,run_bytes_of_string (P := Tryz.prog) w 9 115 5 s Tryz.underlying9 Tryz.underlying115 Tryz.underlying5,((Below.refl _ _).drew).alloc (Nat.le_refl _) _,by simp,?_⟩
  intro j h
  exact (cell_block (b := w.heap.size) (block_new w.drew _) j).trans (bytesRow_at s _ j h)
theorem atoi_in (s : ByteArray) (w : World) (h0 : 0 < s.size) (h9 : s.size ≤ 9) (hd : ∀ j,(h : j < s.size) → isDigitB (s[j].toNat : Int) = true) :
    Calls Tryz.prog 296 #[.string s] w fun e w' => e = .returned (.tuple #[.int .i64 (digitsB s.data.toList),.nilIface]) ∧ Below w.heap.size w w' := by
  have HD := hide hd
  have hc := hd 0 h0
  simp [isDigitB] at hc
  clear hd
  have e1 : ((s[0].toNat : Int) == 45) = false := by simp; omega
  have e2 : ((s[0].toNat : Int) == 43) = false := by simp; omega
  obtain ⟨C,W,hcv,hbel,hsz,hcell⟩ := bytes_of w s
  have HB := hide hbel
  have HC := hide hcell
  clear hbel hcell
  go_enter Tryz.func296,Tryz.ntmps296
  go_wp2
  go_loop [6,8,49] (fun n _ i => ∃ k : Nat,k ≤ s.size ∧ i = .int .i64 k ∧ n = .int .i64 (digitsB (s.data.toList.take k))) (fun _ _ i => s.size - (intOf i).toNat)
  case atStart => exact ⟨0,Nat.zero_le _,rfl,rfl⟩
  case round =>
    obtain ⟨k,hk,rfl,rfl⟩ := hrel
    have hbd := digits_bd s HD.out k hk
    have hp : 10 ^ k ≤ 10 ^ 9 := Nat.pow_le_pow_right (by omega) (by omega)
    have hb2 : digitsB (s.data.toList.take k) ≤ 1000000000 := by omega
    clear hbd hp
    by_cases hlt : k < s.size
    · have hx := HC.out k hlt
      have hdk := HD.out k hlt
      simp [isDigitB] at hdk
      have HS := hide (digits_take s k hlt)
      go_wp2
      go_round
      case rel => exact ⟨k + 1,by omega,by go_num,by rw [HS.out]; congr 1; omega⟩
      case measure => simp [intOf]; omega
    · have HT := hide (show s.data.toList.take k = s.data.toList by apply List.take_of_length_le; simp; omega)
      go_wp2
      go_ret2
      rw [HT.out]
      exact ⟨rfl,HB.out⟩
theorem atoi_any (s : ByteArray) (w : World) (h0 : 0 < s.size) (h9 : s.size ≤ 9) (hd : ∀ j,(h : j < s.size) → isDigitB (s[j].toNat : Int) = true) :
    Calls Tryz.prog 294 #[.string s] w fun e w' => e = .returned (.tuple #[.int .i64 (digitsB s.data.toList),.nilIface]) ∧ Below w.heap.size w w' := by
  have HD := hide hd
  clear hd
  go_enter Tryz.func294,Tryz.ntmps294
  go_wp2_with fail
  refine (atoi_in s w h0 h9 HD.out).mono ?_
  rintro e w1 ⟨rfl,hb⟩
  have HB := hide hb
  clear hb
  go_wp2
  go_ret2
  exact ⟨rfl,HB.out⟩
theorem digits_of {t : List UInt8} (h : ∀ c ∈ t,isDigitB (c.toNat : Int) = true) : ∀ j,(hj : j < (ByteArray.mk t.toArray).size) → isDigitB (((ByteArray.mk t.toArray)[j]'hj).toNat : Int) = true := by
  intro j hj
  have hj' : j < t.length := by simpa using (show j < t.toArray.size from hj)
  exact h _ (List.getElem_mem hj')
theorem number_any (P : Pl) (ws : List Wd) (st : PS) (w : World) (hp : Prs P ws st w) (h0 : 0 < (st.cur ws).text.length) (h9 : (st.cur ws).text.length ≤ 9) (hd : ∀ c ∈ (st.cur ws).text,isDigitB (c.toNat : Int) = true) :
    Calls Tryz.prog 289 #[.pointer (some ⟨P.pb,0,none⟩)] w (Gave P ws w st (numberR ws st)) := by
  have h1 := lt_of_some hp.blk
  have HL := hide hp.lt
  have HQ := hide (Ok.refl hp)
  have HD := hide hd
  clear hp hd
  go_enter Tryz.func289,Tryz.ntmps289
  go_wp2_with fail
  refine (advance_any P ws st _ (by exact (HQ.out.alloc _).prs)).mono ?_
  rintro e w1 ⟨rfl,hb⟩
  have HO1 := hide ((HQ.out.alloc _).go hb)
  have HZ1 := hide (res_block hb.1 h1)
  have hs1 := hb.1.size
  simp at hs1
  clear hb
  unfold wdVal
  go_wp2_with fail
  refine (atoi_any ⟨(st.cur ws).text.toArray⟩ _ (by show 0 < (st.cur ws).text.toArray.size; simpa using h0) (by show (st.cur ws).text.toArray.size ≤ 9; simpa using h9) (digits_of HD.out)).mono ?_
  rintro e w2 ⟨rfl,hb2⟩
  have HO2 := hide ((HO1.out.alloc _).below hb2)
  have HZ2 := hide ((hb2.block _ (by have := lt_of_some HZ1.out; simp; omega)).trans (block_alloc HZ1.out _))
  have HA2 := hide ((hb2.block w1.heap.size (by simp)).trans (block_new w1 _))
  clear hb2
  have z0 := cell_block HZ2.out 0
  have z1 := cell_block HZ2.out 1
  have z2 := cell_block HZ2.out 2
  have z3 := cell_block HZ2.out 3
  have z4 := cell_block HZ2.out 4
  have zf := free_block HZ2.out
  have zs := lt_of_some HZ2.out
  simp at z0 z1 z2 z3 z4
  have l2 := cell_block HA2.out 2
  have ls := lt_of_some HA2.out
  simp at l2
  go_wp2
  exact bodyPost_ret (v := exVal (numberR ws st).1 (.slice none 0 0)) (by simp [results,Tryz.results289,go_sem,z0,z1,z2,z3,z4,zs,exVal,numberR]) rfl ⟨_,rfl,HO2.out.set5 _ (Nat.le_refl _) _ _ _ _ _,Parts.nil _ _,PS.next_ge HL.out⟩
end Go.Proofs.YtpmmjkiclngpmaaGreatDoor
namespace Go.Proofs.YtpmmjkiclngpmaaGreatDoor
open Go.RowKit
theorem named_any (P : Pl) (ws : List Wd) (m : Nat) (R : PS → Ex × PS) (hR : Reads 208 ws P m R) (hlast : ∀ s : PS,s.i + 1 = ws.length → (s.cur ws).kind = 0) (st : PS) (w : World) (hp : Prs P ws st w) (hm : (st.next ws).rem ws < m) :
    Calls Tryz.prog 290 #[.pointer (some ⟨P.pb,0,none⟩)] w (Gave P ws w st (namedR ws R st)) := by
  have h1 := lt_of_some hp.blk
  have hn := PS.next_ge (ws := ws) hp.lt
  have hnl := PS.next_lt (ws := ws) hp.lt
  have HQ := hide (Ok.refl hp)
  have HR := hide hR
  have HLa := hide hlast
  clear hp hR hlast
  rcases hat : (st.next ws).isAt ws [[40]] with _ | _
  all_goals
    go_enter Tryz.func290,Tryz.ntmps290
    go_wp2_with fail
    refine (advance_any P ws st _ (by exact (HQ.out.alloc _).prs)).mono ?_
    rintro e w1 ⟨rfl,hb⟩
    have HO1 := hide ((HQ.out.alloc _).go hb)
    have HZ1 := hide (res_block hb.1 h1)
    have hs1 := hb.1.size
    simp at hs1
    clear hb
    unfold wdVal
    go_wp2_with fail
    refine (at_one P ws (st.next ws) _ (by exact ((HO1.out.alloc _).alloc _).prs) (w1.heap.size + 1) [40] (by simp) (by simp)).mono ?_
    rintro e w2 ⟨rfl,hb⟩
    rw [hat]
    have HO2 := hide (((HO1.out.alloc _).alloc _).below hb)
    have HA2 := hide ((hb.block w1.heap.size (by simp; omega)).trans (block_alloc (block_new w1 _) _))
    have HZ2 := hide ((hb.block w.heap.size (by simp; omega)).trans (block_alloc (block_alloc HZ1.out _) _))
    have hs2 := hb.size
    simp at hs2
    clear hb
    have l1 := cell_block HA2.out 1
    have l2 := cell_block HA2.out 2
    have ls := lt_of_some HA2.out
    simp at l1 l2
    have z0 := cell_block HZ2.out 0
    have z1 := cell_block HZ2.out 1
    have z2 := cell_block HZ2.out 2
    have z3 := cell_block HZ2.out 3
    have z4 := cell_block HZ2.out 4
    have zf := free_block HZ2.out
    have zs := lt_of_some HZ2.out
    simp at z0 z1 z2 z3 z4
  · have HF := hide (show namedR ws R st = (⟨2,(st.cur ws).place,(st.cur ws).text,0,[]⟩,st.next ws) by simp [namedR,hat])
    go_wp2
    rw [HF.out]
    exact bodyPost_ret (v := exVal ⟨2,(st.cur ws).place,(st.cur ws).text,0,[]⟩ (.slice none 0 0)) (by simp [results,Tryz.results290,go_sem,z0,z1,z2,z3,z4,zs,exVal]) rfl ⟨_,rfl,HO2.out.set5 _ (Nat.le_refl _) _ _ _ _ _,Parts.nil _ _,hn⟩
  · have HF := hide (show namedR ws R st = (⟨3,(st.cur ws).place,(st.cur ws).text,0,(argsR ws R (st.next ws)).1⟩,(argsR ws R (st.next ws)).2) by simp [namedR,hat])
    have hx : (st.next ws).expect ws [40] = (st.next ws).next ws := by simp [PS.expect,hat]
    have hm2 : ((st.next ws).expect ws [40]).rem ws < m := by
      rw [hx]; have := PS.rem_le (ws := ws) (PS.next_ge (ws := ws) hnl); omega
    clear hx
    go_wp2_with fail
    go_region_with (go_at_call 295; refine (args_any P ws m R HR.out HLa.out (st.next ws) _ (by first | exact HO2.out.drew.prs | exact HO2.out.prs) hm2).mono ?_; rintro e w3 ⟨qo,qn,qc,rfl,hok,hpa,hge⟩; have HA3 := hide ((hok.but.block w1.heap.size ls (by omega)).trans HA2.out); have HZ3 := hide ((hok.but.block w.heap.size zs (by omega)).trans HZ2.out); have m1 := cell_block HA3.out 1; have m2 := cell_block HA3.out 2; have ms := lt_of_some HA3.out; have y0 := cell_block HZ3.out 0; have y1 := cell_block HZ3.out 1; have y2 := cell_block HZ3.out 2; have y3 := cell_block HZ3.out 3; have y4 := cell_block HZ3.out 4; have yf := free_block HZ3.out; have ys := lt_of_some HZ3.out; simp at m1 m2 y0 y1 y2 y3 y4; have HOK := hide hok; have HPA := hide hpa; have HGE := hide hge; clear hok hpa hge)
    all_goals
      go_wp2
      rw [HF.out]
      exact bodyPost_ret (v := exVal ⟨3,(st.cur ws).place,(st.cur ws).text,0,(argsR ws R (st.next ws)).1⟩ (.slice qo qn qc)) (by simp [results,Tryz.results290,go_sem,y0,y1,y2,y3,y4,ys,exVal]) rfl ⟨_,rfl,(HO2.out.drew.trans HOK.out).set5 _ (Nat.le_refl _) _ _ _ _ _,(HPA.out.set5 _ _ _ _ _ _ (by show ¬ (w2.heap.size ≤ w.heap.size); omega)).mono (fun k h _ => Nat.le_trans (by show w.heap.size ≤ w2.heap.size; omega) h),Nat.le_trans hn HGE.out⟩
end Go.Proofs.YtpmmjkiclngpmaaGreatDoor
namespace Go.Proofs.YtpmmjkiclngpmaaGreatDoor
open Go.RowKit
theorem factor_any (P : Pl) (ws : List Wd) (m : Nat) (Re Rf : PS → Ex × PS) (hE : Reads 208 ws P m Re) (hFa : Reads 288 ws P m Rf) (hlast : ∀ s : PS,s.i + 1 = ws.length → (s.cur ws).kind = 0)
    (hnum : ∀ s : PS,(s.cur ws).kind = 3 → 0 < (s.cur ws).text.length ∧ (s.cur ws).text.length ≤ 9 ∧ ∀ c ∈ (s.cur ws).text,isDigitB (c.toNat : Int) = true) :
    Reads 288 ws P (m + 1) (factorR ws Re Rf) := by
  intro st w hp hm
  have h1 := lt_of_some hp.blk
  have hlt := hp.lt
  have HQ := hide (Ok.refl hp)
  have HE := hide hE
  have HFa := hide hFa
  have HLa := hide hlast
  have HNu := hide hnum
  clear hp hE hFa hlast hnum
  have fw0 := fieldw0
  rcases k3 : (((st.cur ws).kind : Int) == 3) with _ | _
  rotate_left
  · have hk : (st.cur ws).kind = 3 := by simp at k3; omega
    have HF := hide (show factorR ws Re Rf st = numberR ws st by simp [factorR,hk])
    have HN := hide (HNu.out st hk)
    go_enter Tryz.func288,Tryz.ntmps288
    go_wp2_with fail
    refine (current_any P ws st _ (by exact (HQ.out.alloc _).prs)).mono ?_
    rintro e w1 ⟨rfl,hb⟩
    have HO1 := hide ((HQ.out.alloc _).below hb)
    have HZ1 := hide ((hb.block w.heap.size (by simp)).trans (block_new w _))
    have hs1 := hb.size
    simp at hs1
    clear hb
    unfold wdVal
    go_wp2_with fail
    refine (number_any P ws st _ (by exact HO1.out.prs) HN.out.1 HN.out.2.1 HN.out.2.2).mono ?_
    rintro e wz ⟨qv,rfl,hok,hpa,hge⟩
    obtain ⟨qo,qn,qc,rfl⟩ := hpa.shape
    have HOz := hide (HO1.out.trans hok)
    have HZz := hide ((hok.but.block _ (lt_of_some HZ1.out) (by omega)).trans HZ1.out)
    have HPz := hide hpa
    have HGz := hide hge
    clear hok hpa hge
    have z0 := cell_block HZz.out 0
    have z1 := cell_block HZz.out 1
    have z2 := cell_block HZz.out 2
    have z3 := cell_block HZz.out 3
    have z4 := cell_block HZz.out 4
    have zf := free_block HZz.out
    have zs := lt_of_some HZz.out
    simp at z0 z1 z2 z3 z4
    unfold exVal
    generalize hr : numberR ws st = r at *
    have HXz := hide hr
    clear hr
    go_wp2
    rw [HF.out]
    exact bodyPost_ret (v := exVal r.1 (.slice qo qn qc)) (by simp [results,Tryz.results288,go_sem,z0,z1,z2,z3,z4,zs,exVal]) rfl (Gave.fin h1 HOz.out HPz.out (by omega) HGz.out)
  have hk3 : (st.cur ws).kind ≠ 3 := by simp at k3; omega
  rcases k2 : (((st.cur ws).kind : Int) == 2) with _ | _
  rotate_left
  · have hk : (st.cur ws).kind = 2 := by simp at k2; omega
    have HF := hide (show factorR ws Re Rf st = namedR ws Re st by simp [factorR,hk])
    have hi := PS.kind_lt HLa.out (by omega) hlt
    have hrn := PS.rem_next hi
    go_enter Tryz.func288,Tryz.ntmps288
    go_wp2_with fail
    refine (current_any P ws st _ (by exact (HQ.out.alloc _).prs)).mono ?_
    rintro e w1 ⟨rfl,hb⟩
    have HO1 := hide ((HQ.out.alloc _).below hb)
    have HZ1 := hide ((hb.block w.heap.size (by simp)).trans (block_new w _))
    have hs1 := hb.size
    simp at hs1
    clear hb
    unfold wdVal
    go_wp2_with fail
    refine (named_any P ws m Re HE.out HLa.out st _ (by exact HO1.out.prs) (by omega)).mono ?_
    rintro e wz ⟨qv,rfl,hok,hpa,hge⟩
    obtain ⟨qo,qn,qc,rfl⟩ := hpa.shape
    have HOz := hide (HO1.out.trans hok)
    have HZz := hide ((hok.but.block _ (lt_of_some HZ1.out) (by omega)).trans HZ1.out)
    have HPz := hide hpa
    have HGz := hide hge
    clear hok hpa hge
    have z0 := cell_block HZz.out 0
    have z1 := cell_block HZz.out 1
    have z2 := cell_block HZz.out 2
    have z3 := cell_block HZz.out 3
    have z4 := cell_block HZz.out 4
    have zf := free_block HZz.out
    have zs := lt_of_some HZz.out
    simp at z0 z1 z2 z3 z4
    unfold exVal
    generalize hr : namedR ws Re st = r at *
    have HXz := hide hr
    clear hr
    go_wp2
    rw [HF.out]
    exact bodyPost_ret (v := exVal r.1 (.slice qo qn qc)) (by simp [results,Tryz.results288,go_sem,z0,z1,z2,z3,z4,zs,exVal]) rfl (Gave.fin h1 HOz.out HPz.out (by omega) HGz.out)
  have hk2 : (st.cur ws).kind ≠ 2 := by simp at k2; omega
  rcases at1 : st.isAt ws [[116,114,117,101],[102,97,108,115,101]] with _ | _
  rotate_left
  · have HF := hide (show factorR ws Re Rf st = truthR ws st by simp [factorR,hk2,hk3,at1])
    go_enter Tryz.func288,Tryz.ntmps288
    go_wp2_with fail
    refine (current_any P ws st _ (by exact (HQ.out.alloc _).prs)).mono ?_
    rintro e w1 ⟨rfl,hb⟩
    have HO1 := hide ((HQ.out.alloc _).below hb)
    have HZ1 := hide ((hb.block w.heap.size (by simp)).trans (block_new w _))
    have hs1 := hb.size
    simp at hs1
    clear hb
    unfold wdVal
    go_wp2_with fail
    refine (at_two P ws st _ (by exact (HO1.out.alloc _).prs) w1.heap.size [116,114,117,101] [102,97,108,115,101] (by simp) (by simp) (by simp)).mono ?_
    rintro e w2 ⟨rfl,hb⟩
    have HO2 := hide ((HO1.out.alloc _).below hb)
    have HZ2 := hide ((hb.block w.heap.size (by simp; omega)).trans (block_alloc HZ1.out _))
    have hs2 := hb.size
    simp at hs2
    clear hb
    rw [at1]
    go_wp2_with fail
    refine (truth_any P ws st _ (by exact HO2.out.prs)).mono ?_
    rintro e wz ⟨qv,rfl,hok,hpa,hge⟩
    obtain ⟨qo,qn,qc,rfl⟩ := hpa.shape
    have HOz := hide (HO2.out.trans hok)
    have HZz := hide ((hok.but.block _ (lt_of_some HZ2.out) (by omega)).trans HZ2.out)
    have HPz := hide hpa
    have HGz := hide hge
    clear hok hpa hge
    have z0 := cell_block HZz.out 0
    have z1 := cell_block HZz.out 1
    have z2 := cell_block HZz.out 2
    have z3 := cell_block HZz.out 3
    have z4 := cell_block HZz.out 4
    have zf := free_block HZz.out
    have zs := lt_of_some HZz.out
    simp at z0 z1 z2 z3 z4
    unfold exVal
    generalize hr : truthR ws st = r at *
    have HXz := hide hr
    clear hr
    go_wp2
    rw [HF.out]
    exact bodyPost_ret (v := exVal r.1 (.slice qo qn qc)) (by simp [results,Tryz.results288,go_sem,z0,z1,z2,z3,z4,zs,exVal]) rfl (Gave.fin h1 HOz.out HPz.out (by omega) HGz.out)
  rcases at2 : st.isAt ws [[40]] with _ | _
  rotate_left
  · have HF := hide (show factorR ws Re Rf st = bracketR ws Re st by simp [factorR,hk2,hk3,at1,at2])
    have hi := PS.isAt_lt HLa.out at2 hlt
    have hrn := PS.rem_next hi
    go_enter Tryz.func288,Tryz.ntmps288
    go_wp2_with fail
    refine (current_any P ws st _ (by exact (HQ.out.alloc _).prs)).mono ?_
    rintro e w1 ⟨rfl,hb⟩
    have HO1 := hide ((HQ.out.alloc _).below hb)
    have HZ1 := hide ((hb.block w.heap.size (by simp)).trans (block_new w _))
    have hs1 := hb.size
    simp at hs1
    clear hb
    unfold wdVal
    go_wp2_with fail
    refine (at_two P ws st _ (by exact (HO1.out.alloc _).prs) w1.heap.size [116,114,117,101] [102,97,108,115,101] (by simp) (by simp) (by simp)).mono ?_
    rintro e w2 ⟨rfl,hb⟩
    have HOw2 := hide ((HO1.out.alloc _).below hb)
    have HZw2 := hide ((hb.block w.heap.size (by simp; omega)).trans (block_alloc HZ1.out _))
    have hsw2 := hb.size
    simp at hsw2
    clear hb
    rw [at1]
    go_wp2_with fail
    refine (at_one P ws st _ (by exact (HOw2.out.alloc _).prs) w2.heap.size [40] (by simp) (by simp)).mono ?_
    rintro e w3 ⟨rfl,hb⟩
    have HOw3 := hide ((HOw2.out.alloc _).below hb)
    have HZw3 := hide ((hb.block w.heap.size (by have := lt_of_some HZw2.out; simp; omega)).trans (block_alloc HZw2.out _))
    have hsw3 := hb.size
    simp at hsw3
    clear hb
    rw [at2]
    go_wp2_with fail
    refine (bracket_any P ws m Re HE.out st _ (by exact HOw3.out.prs) (by omega)).mono ?_
    rintro e wz ⟨qv,rfl,hok,hpa,hge⟩
    obtain ⟨qo,qn,qc,rfl⟩ := hpa.shape
    have HOz := hide (HOw3.out.trans hok)
    have HZz := hide ((hok.but.block _ (lt_of_some HZw3.out) (by omega)).trans HZw3.out)
    have HPz := hide hpa
    have HGz := hide hge
    clear hok hpa hge
    have z0 := cell_block HZz.out 0
    have z1 := cell_block HZz.out 1
    have z2 := cell_block HZz.out 2
    have z3 := cell_block HZz.out 3
    have z4 := cell_block HZz.out 4
    have zf := free_block HZz.out
    have zs := lt_of_some HZz.out
    simp at z0 z1 z2 z3 z4
    unfold exVal
    generalize hr : bracketR ws Re st = r at *
    have HXz := hide hr
    clear hr
    go_wp2
    rw [HF.out]
    exact bodyPost_ret (v := exVal r.1 (.slice qo qn qc)) (by simp [results,Tryz.results288,go_sem,z0,z1,z2,z3,z4,zs,exVal]) rfl (Gave.fin h1 HOz.out HPz.out (by omega) HGz.out)
  rcases at3 : st.isAt ws [[45]] with _ | _
  rotate_left
  · have HF := hide (show factorR ws Re Rf st = signR ws Rf 13 st by simp [factorR,hk2,hk3,at1,at2,at3])
    have hi := PS.isAt_lt HLa.out at3 hlt
    have hrn := PS.rem_next hi
    go_enter Tryz.func288,Tryz.ntmps288
    go_wp2_with fail
    refine (current_any P ws st _ (by exact (HQ.out.alloc _).prs)).mono ?_
    rintro e w1 ⟨rfl,hb⟩
    have HO1 := hide ((HQ.out.alloc _).below hb)
    have HZ1 := hide ((hb.block w.heap.size (by simp)).trans (block_new w _))
    have hs1 := hb.size
    simp at hs1
    clear hb
    unfold wdVal
    go_wp2_with fail
    refine (at_two P ws st _ (by exact (HO1.out.alloc _).prs) w1.heap.size [116,114,117,101] [102,97,108,115,101] (by simp) (by simp) (by simp)).mono ?_
    rintro e w2 ⟨rfl,hb⟩
    have HOw2 := hide ((HO1.out.alloc _).below hb)
    have HZw2 := hide ((hb.block w.heap.size (by simp; omega)).trans (block_alloc HZ1.out _))
    have hsw2 := hb.size
    simp at hsw2
    clear hb
    rw [at1]
    go_wp2_with fail
    refine (at_one P ws st _ (by exact (HOw2.out.alloc _).prs) w2.heap.size [40] (by simp) (by simp)).mono ?_
    rintro e w3 ⟨rfl,hb⟩
    have HOw3 := hide ((HOw2.out.alloc _).below hb)
    have HZw3 := hide ((hb.block w.heap.size (by have := lt_of_some HZw2.out; simp; omega)).trans (block_alloc HZw2.out _))
    have hsw3 := hb.size
    simp at hsw3
    clear hb
    rw [at2]
    go_wp2_with fail
    refine (at_one P ws st _ (by exact (HOw3.out.alloc _).prs) w3.heap.size [45] (by simp) (by simp)).mono ?_
    rintro e w4 ⟨rfl,hb⟩
    have HOw4 := hide ((HOw3.out.alloc _).below hb)
    have HZw4 := hide ((hb.block w.heap.size (by have := lt_of_some HZw3.out; simp; omega)).trans (block_alloc HZw3.out _))
    have hsw4 := hb.size
    simp at hsw4
    clear hb
    rw [at3]
    go_wp2_with fail
    refine (sign_any P ws m Rf HFa.out st _ (by exact HOw4.out.prs) (by omega) 13).mono ?_
    rintro e wz ⟨qv,rfl,hok,hpa,hge⟩
    obtain ⟨qo,qn,qc,rfl⟩ := hpa.shape
    have HOz := hide (HOw4.out.trans hok)
    have HZz := hide ((hok.but.block _ (lt_of_some HZw4.out) (by omega)).trans HZw4.out)
    have HPz := hide hpa
    have HGz := hide hge
    clear hok hpa hge
    have z0 := cell_block HZz.out 0
    have z1 := cell_block HZz.out 1
    have z2 := cell_block HZz.out 2
    have z3 := cell_block HZz.out 3
    have z4 := cell_block HZz.out 4
    have zf := free_block HZz.out
    have zs := lt_of_some HZz.out
    simp at z0 z1 z2 z3 z4
    unfold exVal
    generalize hr : signR ws Rf 13 st = r at *
    have HXz := hide hr
    clear hr
    go_wp2
    rw [HF.out]
    exact bodyPost_ret (v := exVal r.1 (.slice qo qn qc)) (by simp [results,Tryz.results288,go_sem,z0,z1,z2,z3,z4,zs,exVal]) rfl (Gave.fin h1 HOz.out HPz.out (by omega) HGz.out)
  rcases at4 : st.isAt ws [[33]] with _ | _
  rotate_left
  · have HF := hide (show factorR ws Re Rf st = signR ws Rf 14 st by simp [factorR,hk2,hk3,at1,at2,at3,at4])
    have hi := PS.isAt_lt HLa.out at4 hlt
    have hrn := PS.rem_next hi
    go_enter Tryz.func288,Tryz.ntmps288
    go_wp2_with fail
    refine (current_any P ws st _ (by exact (HQ.out.alloc _).prs)).mono ?_
    rintro e w1 ⟨rfl,hb⟩
    have HO1 := hide ((HQ.out.alloc _).below hb)
    have HZ1 := hide ((hb.block w.heap.size (by simp)).trans (block_new w _))
    have hs1 := hb.size
    simp at hs1
    clear hb
    unfold wdVal
    go_wp2_with fail
    refine (at_two P ws st _ (by exact (HO1.out.alloc _).prs) w1.heap.size [116,114,117,101] [102,97,108,115,101] (by simp) (by simp) (by simp)).mono ?_
    rintro e w2 ⟨rfl,hb⟩
    have HOw2 := hide ((HO1.out.alloc _).below hb)
    have HZw2 := hide ((hb.block w.heap.size (by simp; omega)).trans (block_alloc HZ1.out _))
    have hsw2 := hb.size
    simp at hsw2
    clear hb
    rw [at1]
    go_wp2_with fail
    refine (at_one P ws st _ (by exact (HOw2.out.alloc _).prs) w2.heap.size [40] (by simp) (by simp)).mono ?_
    rintro e w3 ⟨rfl,hb⟩
    have HOw3 := hide ((HOw2.out.alloc _).below hb)
    have HZw3 := hide ((hb.block w.heap.size (by have := lt_of_some HZw2.out; simp; omega)).trans (block_alloc HZw2.out _))
    have hsw3 := hb.size
    simp at hsw3
    clear hb
    rw [at2]
    go_wp2_with fail
    refine (at_one P ws st _ (by exact (HOw3.out.alloc _).prs) w3.heap.size [45] (by simp) (by simp)).mono ?_
    rintro e w4 ⟨rfl,hb⟩
    have HOw4 := hide ((HOw3.out.alloc _).below hb)
    have HZw4 := hide ((hb.block w.heap.size (by have := lt_of_some HZw3.out; simp; omega)).trans (block_alloc HZw3.out _))
    have hsw4 := hb.size
    simp at hsw4
    clear hb
    rw [at3]
    go_wp2_with fail
    refine (at_one P ws st _ (by exact (HOw4.out.alloc _).prs) w4.heap.size [33] (by simp) (by simp)).mono ?_
    rintro e w5 ⟨rfl,hb⟩
    have HOw5 := hide ((HOw4.out.alloc _).below hb)
    have HZw5 := hide ((hb.block w.heap.size (by have := lt_of_some HZw4.out; simp; omega)).trans (block_alloc HZw4.out _))
    have hsw5 := hb.size
    simp at hsw5
    clear hb
    rw [at4]
    go_wp2_with fail
    refine (sign_any P ws m Rf HFa.out st _ (by exact HOw5.out.prs) (by omega) 14).mono ?_
    rintro e wz ⟨qv,rfl,hok,hpa,hge⟩
    obtain ⟨qo,qn,qc,rfl⟩ := hpa.shape
    have HOz := hide (HOw5.out.trans hok)
    have HZz := hide ((hok.but.block _ (lt_of_some HZw5.out) (by omega)).trans HZw5.out)
    have HPz := hide hpa
    have HGz := hide hge
    clear hok hpa hge
    have z0 := cell_block HZz.out 0
    have z1 := cell_block HZz.out 1
    have z2 := cell_block HZz.out 2
    have z3 := cell_block HZz.out 3
    have z4 := cell_block HZz.out 4
    have zf := free_block HZz.out
    have zs := lt_of_some HZz.out
    simp at z0 z1 z2 z3 z4
    unfold exVal
    generalize hr : signR ws Rf 14 st = r at *
    have HXz := hide hr
    clear hr
    go_wp2
    rw [HF.out]
    exact bodyPost_ret (v := exVal r.1 (.slice qo qn qc)) (by simp [results,Tryz.results288,go_sem,z0,z1,z2,z3,z4,zs,exVal]) rfl (Gave.fin h1 HOz.out HPz.out (by omega) HGz.out)
  · have HF := hide (show factorR ws Re Rf st = (zeroEx,st.fail ws) by simp [factorR,hk2,hk3,at1,at2,at3,at4])
    go_enter Tryz.func288,Tryz.ntmps288
    go_wp2_with fail
    refine (current_any P ws st _ (by exact (HQ.out.alloc _).prs)).mono ?_
    rintro e w1 ⟨rfl,hb⟩
    have HO1 := hide ((HQ.out.alloc _).below hb)
    have HZ1 := hide ((hb.block w.heap.size (by simp)).trans (block_new w _))
    have hs1 := hb.size
    simp at hs1
    clear hb
    unfold wdVal
    go_wp2_with fail
    refine (at_two P ws st _ (by exact (HO1.out.alloc _).prs) w1.heap.size [116,114,117,101] [102,97,108,115,101] (by simp) (by simp) (by simp)).mono ?_
    rintro e w2 ⟨rfl,hb⟩
    have HOw2 := hide ((HO1.out.alloc _).below hb)
    have HZw2 := hide ((hb.block w.heap.size (by simp; omega)).trans (block_alloc HZ1.out _))
    have hsw2 := hb.size
    simp at hsw2
    clear hb
    rw [at1]
    go_wp2_with fail
    refine (at_one P ws st _ (by exact (HOw2.out.alloc _).prs) w2.heap.size [40] (by simp) (by simp)).mono ?_
    rintro e w3 ⟨rfl,hb⟩
    have HOw3 := hide ((HOw2.out.alloc _).below hb)
    have HZw3 := hide ((hb.block w.heap.size (by have := lt_of_some HZw2.out; simp; omega)).trans (block_alloc HZw2.out _))
    have hsw3 := hb.size
    simp at hsw3
    clear hb
    rw [at2]
    go_wp2_with fail
    refine (at_one P ws st _ (by exact (HOw3.out.alloc _).prs) w3.heap.size [45] (by simp) (by simp)).mono ?_
    rintro e w4 ⟨rfl,hb⟩
    have HOw4 := hide ((HOw3.out.alloc _).below hb)
    have HZw4 := hide ((hb.block w.heap.size (by have := lt_of_some HZw3.out; simp; omega)).trans (block_alloc HZw3.out _))
    have hsw4 := hb.size
    simp at hsw4
    clear hb
    rw [at3]
    go_wp2_with fail
    refine (at_one P ws st _ (by exact (HOw4.out.alloc _).prs) w4.heap.size [33] (by simp) (by simp)).mono ?_
    rintro e w5 ⟨rfl,hb⟩
    have HOw5 := hide ((HOw4.out.alloc _).below hb)
    have HZw5 := hide ((hb.block w.heap.size (by have := lt_of_some HZw4.out; simp; omega)).trans (block_alloc HZw4.out _))
    have hsw5 := hb.size
    simp at hsw5
    clear hb
    rw [at4]
    go_wp2_with fail
    refine (fail_any P ws st _ (by exact HOw5.out.prs)).mono ?_
    rintro e w6 ⟨rfl,hb⟩
    have HOz := hide (HOw5.out.go hb)
    have HZz := hide ((hb.1.block _ (lt_of_some HZw5.out) (by omega)).trans HZw5.out)
    clear hb
    have z0 := cell_block HZz.out 0
    have z1 := cell_block HZz.out 1
    have z2 := cell_block HZz.out 2
    have z3 := cell_block HZz.out 3
    have z4 := cell_block HZz.out 4
    have zf := free_block HZz.out
    have zs := lt_of_some HZz.out
    simp at z0 z1 z2 z3 z4
    go_wp2
    rw [HF.out]
    exact bodyPost_ret (v := exVal zeroEx (.slice none 0 0)) (by simp [results,Tryz.results288,go_sem,z0,z1,z2,z3,z4,zs,exVal,zeroEx]) rfl ⟨_,rfl,HOz.out.set5 _ (Nat.le_refl _) _ _ _ _ _,Parts.nil _ _,PS.fail_ge hlt⟩
end Go.Proofs.YtpmmjkiclngpmaaGreatDoor
namespace Go.Proofs.YtpmmjkiclngpmaaGreatDoor
open Go.RowKit
theorem expr_any (P : Pl) (ws : List Wd) (m : Nat) (Re Rc : PS → Ex × PS) (hE : Reads 208 ws P m Re) (hC : Reads 252 ws P (m + 1) Rc) (hlast : ∀ s : PS,s.i + 1 = ws.length → (s.cur ws).kind = 0) :
    Reads 208 ws P (m + 1) (fun st => if st.isAt ws [[105,102]] then choiceR ws Re st else if st.isAt ws [[108,101,116]] then bindingR ws Re st else Rc st) := by
  intro st w hp hm
  have h1 := lt_of_some hp.blk
  have hlt := hp.lt
  have HQ := hide (Ok.refl hp)
  have HE := hide hE
  have HC := hide hC
  have HLa := hide hlast
  clear hp hE hC hlast
  rcases at1 : st.isAt ws [[105,102]] with _ | _
  rotate_left
  · have HF := hide (show (if st.isAt ws [[105,102]] then choiceR ws Re st else if st.isAt ws [[108,101,116]] then bindingR ws Re st else Rc st) = choiceR ws Re st by simp [at1])
    show Calls _ _ _ _ (Gave P ws w st (if st.isAt ws [[105,102]] then choiceR ws Re st else if st.isAt ws [[108,101,116]] then bindingR ws Re st else Rc st))
    rw [HF.out]
    clear HF
    have HF := hide (show choiceR ws Re st = choiceR ws Re st from rfl)
    have hi := PS.isAt_lt HLa.out at1 hlt
    have hrn := PS.rem_next hi
    go_enter Tryz.func208,Tryz.ntmps208
    go_wp2_with fail
    refine (at_one P ws st _ (by exact ((HQ.out.alloc _).alloc _).prs) (w.heap.size + 1) [105,102] (by simp) (by simp)).mono ?_
    rintro e w1 ⟨rfl,hb⟩
    have HOw1 := hide (((HQ.out.alloc _).alloc _).below hb)
    have HZw1 := hide ((hb.block w.heap.size (by simp; omega)).trans (block_alloc (block_new w _) _))
    have hsw1 := hb.size
    simp at hsw1
    clear hb
    rw [at1]
    go_wp2_with fail
    refine (choice_any P ws m Re HE.out st _ (by exact HOw1.out.prs) (by omega)).mono ?_
    rintro e wz ⟨qv,rfl,hok,hpa,hge⟩
    obtain ⟨qo,qn,qc,rfl⟩ := hpa.shape
    have HOz := hide (HOw1.out.trans hok)
    have HZz := hide ((hok.but.block _ (lt_of_some HZw1.out) (by omega)).trans HZw1.out)
    have HPz := hide hpa
    have HGz := hide hge
    clear hok hpa hge
    have z0 := cell_block HZz.out 0
    have z1 := cell_block HZz.out 1
    have z2 := cell_block HZz.out 2
    have z3 := cell_block HZz.out 3
    have z4 := cell_block HZz.out 4
    have zf := free_block HZz.out
    have zs := lt_of_some HZz.out
    simp at z0 z1 z2 z3 z4
    unfold exVal
    generalize hr : choiceR ws Re st = r at *
    have HXz := hide hr
    clear hr
    go_wp2
    exact bodyPost_ret (v := exVal r.1 (.slice qo qn qc)) (by simp [results,Tryz.results208,go_sem,z0,z1,z2,z3,z4,zs,exVal]) rfl (Gave.fin h1 HOz.out HPz.out (by omega) HGz.out)
  rcases at2 : st.isAt ws [[108,101,116]] with _ | _
  rotate_left
  · have HF := hide (show (if st.isAt ws [[105,102]] then choiceR ws Re st else if st.isAt ws [[108,101,116]] then bindingR ws Re st else Rc st) = bindingR ws Re st by simp [at1,at2])
    show Calls _ _ _ _ (Gave P ws w st (if st.isAt ws [[105,102]] then choiceR ws Re st else if st.isAt ws [[108,101,116]] then bindingR ws Re st else Rc st))
    rw [HF.out]
    have hi := PS.isAt_lt HLa.out at2 hlt
    have hrn := PS.rem_next hi
    go_enter Tryz.func208,Tryz.ntmps208
    go_wp2_with fail
    refine (at_one P ws st _ (by exact ((HQ.out.alloc _).alloc _).prs) (w.heap.size + 1) [105,102] (by simp) (by simp)).mono ?_
    rintro e w1 ⟨rfl,hb⟩
    have HOw1 := hide (((HQ.out.alloc _).alloc _).below hb)
    have HZw1 := hide ((hb.block w.heap.size (by simp; omega)).trans (block_alloc (block_new w _) _))
    have hsw1 := hb.size
    simp at hsw1
    clear hb
    rw [at1]
    go_wp2_with fail
    refine (at_one P ws st _ (by exact (HOw1.out.alloc _).prs) w1.heap.size [108,101,116] (by simp) (by simp)).mono ?_
    rintro e w2 ⟨rfl,hb⟩
    have HOw2 := hide ((HOw1.out.alloc _).below hb)
    have HZw2 := hide ((hb.block w.heap.size (by have := lt_of_some HZw1.out; simp; omega)).trans (block_alloc HZw1.out _))
    have hsw2 := hb.size
    simp at hsw2
    clear hb
    rw [at2]
    go_wp2_with fail
    refine (binding_any P ws m Re HE.out st _ (by exact HOw2.out.prs) (by omega)).mono ?_
    rintro e wz ⟨qv,rfl,hok,hpa,hge⟩
    obtain ⟨qo,qn,qc,rfl⟩ := hpa.shape
    have HOz := hide (HOw2.out.trans hok)
    have HZz := hide ((hok.but.block _ (lt_of_some HZw2.out) (by omega)).trans HZw2.out)
    have HPz := hide hpa
    have HGz := hide hge
    clear hok hpa hge
    have z0 := cell_block HZz.out 0
    have z1 := cell_block HZz.out 1
    have z2 := cell_block HZz.out 2
    have z3 := cell_block HZz.out 3
    have z4 := cell_block HZz.out 4
    have zf := free_block HZz.out
    have zs := lt_of_some HZz.out
    simp at z0 z1 z2 z3 z4
    unfold exVal
    generalize hr : bindingR ws Re st = r at *
    have HXz := hide hr
    clear hr
    go_wp2
    exact bodyPost_ret (v := exVal r.1 (.slice qo qn qc)) (by simp [results,Tryz.results208,go_sem,z0,z1,z2,z3,z4,zs,exVal]) rfl (Gave.fin h1 HOz.out HPz.out (by omega) HGz.out)
  · have HF := hide (show (if st.isAt ws [[105,102]] then choiceR ws Re st else if st.isAt ws [[108,101,116]] then bindingR ws Re st else Rc st) = Rc st by simp [at1,at2])
    show Calls _ _ _ _ (Gave P ws w st (if st.isAt ws [[105,102]] then choiceR ws Re st else if st.isAt ws [[108,101,116]] then bindingR ws Re st else Rc st))
    rw [HF.out]
    go_enter Tryz.func208,Tryz.ntmps208
    go_wp2_with fail
    refine (at_one P ws st _ (by exact ((HQ.out.alloc _).alloc _).prs) (w.heap.size + 1) [105,102] (by simp) (by simp)).mono ?_
    rintro e w1 ⟨rfl,hb⟩
    have HOw1 := hide (((HQ.out.alloc _).alloc _).below hb)
    have HZw1 := hide ((hb.block w.heap.size (by simp; omega)).trans (block_alloc (block_new w _) _))
    have hsw1 := hb.size
    simp at hsw1
    clear hb
    rw [at1]
    go_wp2_with fail
    refine (at_one P ws st _ (by exact (HOw1.out.alloc _).prs) w1.heap.size [108,101,116] (by simp) (by simp)).mono ?_
    rintro e w2 ⟨rfl,hb⟩
    have HOw2 := hide ((HOw1.out.alloc _).below hb)
    have HZw2 := hide ((hb.block w.heap.size (by have := lt_of_some HZw1.out; simp; omega)).trans (block_alloc HZw1.out _))
    have hsw2 := hb.size
    simp at hsw2
    clear hb
    rw [at2]
    go_wp2_with fail
    refine (HC.out st _ (by exact HOw2.out.prs) hm).mono ?_
    rintro e wz ⟨qv,rfl,hok,hpa,hge⟩
    obtain ⟨qo,qn,qc,rfl⟩ := hpa.shape
    have HOz := hide (HOw2.out.trans hok)
    have HZz := hide ((hok.but.block _ (lt_of_some HZw2.out) (by omega)).trans HZw2.out)
    have HPz := hide hpa
    have HGz := hide hge
    clear hok hpa hge
    have z0 := cell_block HZz.out 0
    have z1 := cell_block HZz.out 1
    have z2 := cell_block HZz.out 2
    have z3 := cell_block HZz.out 3
    have z4 := cell_block HZz.out 4
    have zf := free_block HZz.out
    have zs := lt_of_some HZz.out
    simp at z0 z1 z2 z3 z4
    unfold exVal
    generalize hr : Rc st = r at *
    have HXz := hide hr
    clear hr
    go_wp2
    exact bodyPost_ret (v := exVal r.1 (.slice qo qn qc)) (by simp [results,Tryz.results208,go_sem,z0,z1,z2,z3,z4,zs,exVal]) rfl (Gave.fin h1 HOz.out HPz.out (by omega) HGz.out)
theorem reads (P : Pl) (ws : List Wd) (hlast : ∀ s : PS,s.i + 1 = ws.length → (s.cur ws).kind = 0)
    (hnum : ∀ s : PS,(s.cur ws).kind = 3 → 0 < (s.cur ws).text.length ∧ (s.cur ws).text.length ≤ 9 ∧ ∀ c ∈ (s.cur ws).text,isDigitB (c.toNat : Int) = true) (m : Nat) :
    Reads 208 ws P m (rd ws m).1 ∧ Reads 288 ws P m (rd ws m).2 := by
  induction m with
  | zero => exact ⟨fun st w _ h => by omega,fun st w _ h => by omega⟩
  | succ m ih =>
    have hF := factor_any P ws m _ _ ih.1 ih.2 hlast hnum
    have hT := term_any P ws (m + 1) _ hF hlast
    have hS := sum_any P ws (m + 1) _ hT hlast
    have hC := compare_any P ws (m + 1) _ hS hlast
    exact ⟨expr_any P ws m _ _ ih.1 hC hlast,hF⟩
end Go.Proofs.YtpmmjkiclngpmaaGreatDoor
