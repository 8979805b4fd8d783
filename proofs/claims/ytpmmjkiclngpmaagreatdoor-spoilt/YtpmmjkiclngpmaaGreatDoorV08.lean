/- YtpmmjkiclngpmaaGreatDoorV08 -/
import Derived.Test.YtpmmjkiclngpmaaGreatDoorV05
import Derived.Test.YtpmmjkiclngpmaaGreatDoorV01
import Derived.Test.YtpmmjkiclngpmaaGreatDoorB45
import Derived.Test.YtpmmjkiclngpmaaGreatDoorV02
import Derived.Test.YtpmmjkiclngpmaaGreatDoorV04
set_option maxRecDepth 100000
set_option linter.unusedSimpArgs false
set_option linter.unusedVariables false
set_option maxHeartbeats 12800000
namespace Go.Proofs.YtpmmjkiclngpmaaGreatDoor
open Go.RowKit
def Ends (u : List UInt8) : Prop := ∀ h : u ≠ [],u.getLast h = 32 ∨ u.getLast h = 40
theorem Ends.drop {u : List UInt8} (h : Ends u) (n : Nat) : Ends (u.drop n) := fun hne => by
  have hu : u ≠ [] := fun e => hne (by rw [e]; simp)
  rw [List.getLast_drop]
  exact h hu
theorem runLen_stop {pb : Int → Bool} : ∀ {u : List UInt8} (r : List UInt8),(∃ c ∈ u,pb (c.toNat : Int) = false) → runLen pb (u ++ r) = runLen pb u
  | [],r,h => by obtain ⟨c,hc,_⟩ := h; cases hc
  | a :: u,r,h => by
    rw [List.cons_append]
    unfold runLen
    split
    · next ha =>
      obtain ⟨c,hc,hp⟩ := h
      rcases List.mem_cons.1 hc with rfl | hc
      · rw [ha] at hp; cases hp
      · rw [runLen_stop r ⟨c,hc,hp⟩]
    · rfl
theorem Ends.mem {u : List UInt8} (h : Ends u) (h0 : u ≠ []) {pb : Int → Bool} (h1 : pb 32 = false) (h2 : pb 40 = false) : ∃ c ∈ u,pb (c.toNat : Int) = false := by
  refine ⟨u.getLast h0,List.getLast_mem h0,?_⟩
  rcases h h0 with e | e <;> rw [e]
  · exact h1
  · exact h2
theorem first_stop {u : List UInt8} (h : Ends u) (h0 : u ≠ []) (r : List UInt8) : firstWordB (u ++ r) = firstWordB u := by
  have e1 := runLen_stop r (h.mem h0 (pb := isNameByteB) (by decide) (by decide))
  have e2 := runLen_stop r (h.mem h0 (pb := isDigitB) (by decide) (by decide))
  obtain ⟨c,t,rfl⟩ : ∃ c t,u = c :: t := by cases u with | nil => exact absurd rfl h0 | cons c t => exact ⟨c,t,rfl⟩
  have hn := runLen_le isNameByteB (c :: t)
  unfold firstWordB
  rw [List.cons_append] at *
  simp only
  rw [e1,e2]
  split
  · rw [show c :: (t ++ r) = (c :: t) ++ r from rfl,List.take_append_of_le_length hn]
  split
  · rfl
  · unfold signKindB
    simp only
    cases t with
    | nil =>
      have : c = 32 ∨ c = 40 := by simpa using h h0
      have hc : ((c.toNat : Int) == 61) = false := by rcases this with rfl | rfl <;> decide
      simp only [hc,if_false,Bool.false_eq_true]
    | cons d t => rfl
theorem cut_words : ∀ (n : Nat) (u : List UInt8),u.length ≤ n → Ends u → ∃ W,Lf u W := by
  intro n
  induction n with
  | zero =>
    intro u hu _
    obtain rfl : u = [] := List.eq_nil_of_length_eq_zero (by omega)
    exact ⟨fun _ => [],fun p r => by simp⟩
  | succ n ih =>
    intro u hu he
    cases u with
    | nil => exact ⟨fun _ => [],fun p r => by simp⟩
    | cons c t =>
      rcases hb : isBlankB (c.toNat : Int) with _ | _
      · have hf := firstWordB_bd c t
        obtain ⟨W,hW⟩ := ih ((c :: t).drop (firstWordB (c :: t)).2) (by rw [List.length_drop]; omega) (he.drop _)
        refine ⟨fun p => ⟨(firstWordB (c :: t)).1,(c :: t).take (firstWordB (c :: t)).2,p⟩ :: W (p + (firstWordB (c :: t)).2),fun p r => ?_⟩
        have hs := first_stop he (by simp) r
        have h0 : runLen isBlankB ((c :: t) ++ r) = 0 := by rw [List.cons_append]; unfold runLen; rw [hb]; rfl
        rw [splitFrom_cons ((c :: t) ++ r) p c (t ++ r) (by rw [h0]; rfl),h0,Nat.add_zero]
        rw [show c :: (t ++ r) = (c :: t) ++ r from rfl,hs,List.take_append_of_le_length hf.2,List.drop_append_of_le_length hf.2,hW]
        simp only [List.cons_append,List.length_drop]
        rw [show p + (firstWordB (c :: t)).2 + ((c :: t).length - (firstWordB (c :: t)).2) = p + (c :: t).length by omega]
      · obtain ⟨W,hW⟩ := ih t (by simp at hu; omega) (by have := he.drop 1; simpa using this)
        have := (Lf.blank (c := c) hb).append hW
        exact ⟨_,this⟩
theorem bad_word (r : List UInt8) (p : Nat) : ∃ y z,splitFrom (63 :: r) p = ⟨1,y,p⟩ :: z := by
  have h0 : runLen isBlankB (63 :: r) = 0 := by unfold runLen; rfl
  have h := splitFrom_cons (63 :: r) p 63 r (by rw [h0]; rfl)
  have h1 : (firstWordB (63 :: r)).1 = 1 := by unfold firstWordB signKindB; rfl
  rw [h0,Nat.add_zero,h1] at h
  exact ⟨_,_,h⟩
theorem two_words {l : List UInt8} (p : Nat) (h : ∃ c ∈ l,isBlankB (c.toNat : Int) = false) : 2 ≤ (splitFrom l p).length := by
  rcases hd : l.drop (runLen isBlankB l) with _ | ⟨c,r⟩
  · exfalso
    obtain ⟨c,hc,hb⟩ := h
    have : ∀ (l : List UInt8),l.drop (runLen isBlankB l) = [] → ∀ c ∈ l,isBlankB (c.toNat : Int) = true := by
      intro l
      induction l with
      | nil => intro _ c hc; cases hc
      | cons a t ih =>
        intro h c hc
        unfold runLen at h
        split at h
        · next ha =>
          rcases List.mem_cons.1 hc with rfl | hc
          · exact ha
          · exact ih (by simpa using h) c hc
        · simp at h
    rw [this l hd c hc] at hb; cases hb
  · rw [splitFrom_cons l p c r hd,List.length_cons]
    obtain ⟨a,b,e,_⟩ := splitFrom_last (List.drop (firstWordB (c :: r)).2 (c :: r)) (p + runLen isBlankB l + (firstWordB (c :: r)).2)
    rw [e]; simp
end Go.Proofs.YtpmmjkiclngpmaaGreatDoor
namespace Go.Proofs.YtpmmjkiclngpmaaGreatDoor
open Go.RowKit
def Fx (x : Wd) (s : PS) : Prop := s.failed = true ∧ s.place = x.place
theorem Fx.kp {x : Wd} {s t : PS} (h : Fx x s) (k : Kp s t) : Fx x t := ⟨(k h.1).1,(k h.1).2.trans h.2⟩
section
variable {ws : List Wd} {ex : PS → Ex × PS} {j pl : Nat} {x : Wd}
theorem Bw.fx (h : Bw ws j x) : Fx x ((⟨j,false,pl⟩ : PS).fail ws) := ⟨rfl,by unfold PS.fail; rw [cur_w h.at']; rfl⟩
theorem Bw.exp (h : Bw ws j x) (t : List UInt8) : Fx x ((⟨j,false,pl⟩ : PS).expect ws t) := by unfold PS.expect; rw [h.not]; exact h.fx
theorem Bw.nam (h : Bw ws j x) : Fx x ((⟨j,false,pl⟩ : PS).nameTo ws) := by unfold PS.nameTo; rw [cur_w h.at',h.bad,if_neg (by omega)]; exact h.fx
theorem Bw.typ (h : Bw ws j x) : Fx x ((⟨j,false,pl⟩ : PS).typTo ws) := by unfold PS.typTo; rw [h.not]; exact h.exp _
theorem funR_st (st : PS) : (funR ws ex st).2 = (ex ((((prmsR ws (((st.skipTo ws [112,117,98]).expect ws [102,110]).nameTo ws)).2.expect ws [58]).typTo ws).expect ws [61])).2.expect ws [59] := rfl
theorem prms_st {i : Nat} (h : ws[i]? = some ⟨4,[40],j⟩) (hl : i + 1 < ws.length) {y : Wd} (hy : ws[i + 1]? = some y) (hy' : (y.kind == 4 && [[41]].contains y.text) = false) :
    (prmsR ws ⟨i,false,pl⟩).2 = (prmsN ws ws.length (((((⟨i + 1,false,pl⟩ : PS).nameTo ws).expect ws [58]).typTo ws))).2.expect ws [41] := by
  unfold prmsR
  simp only [expect_w h hl]
  rw [isAt_w hy,hy',if_neg (by simp)]
  rfl
theorem fun_bad {W : Nat → List Wd} {t : Nat → Ex} {D : Nat} (hr : XR W t D) (ho : XO W D) (hD : D ≤ 11) (q : Nat → Nat) (p n : Nat) (hb : Beg ws 0 (hd11 q ++ W p) n) (h0 : 0 < n) (hn : n ≤ 11 + (W p).length) (hB : Bw ws n x) :
    Fx x (funR ws (rd ws ws.length).1 ⟨0,false,0⟩).2 := by
  have hl := hB.lt
  have kf := (kf_rd (ws := ws) ws.length).1
  have e0 : (hd11 q ++ W p)[0]? = some ⟨4,[112,117,98],q 0⟩ := rfl
  have e1 : (hd11 q ++ W p)[1]? = some ⟨4,[102,110],q 1⟩ := rfl
  have e2 : (hd11 q ++ W p)[2]? = some ⟨2,[102],q 2⟩ := rfl
  have e3 : (hd11 q ++ W p)[3]? = some ⟨4,[40],q 3⟩ := rfl
  have e4 : (hd11 q ++ W p)[4]? = some ⟨2,[107],q 4⟩ := rfl
  have e5 : (hd11 q ++ W p)[5]? = some ⟨4,[58],q 5⟩ := rfl
  have e6 : (hd11 q ++ W p)[6]? = some ⟨4,[105,110,116],q 6⟩ := rfl
  have e7 : (hd11 q ++ W p)[7]? = some ⟨4,[41],q 7⟩ := rfl
  have e8 : (hd11 q ++ W p)[8]? = some ⟨4,[58],q 8⟩ := rfl
  have e9 : (hd11 q ++ W p)[9]? = some ⟨4,[105,110,116],q 9⟩ := rfl
  have e10 : (hd11 q ++ W p)[10]? = some ⟨4,[61],q 10⟩ := rfl
  have g : ∀ k y,k < n → (hd11 q ++ W p)[k]? = some y → ws[k]? = some y := fun k y hk hy => by have := hb k y hk hy; rwa [Nat.zero_add] at this
  rw [funR_st,skip_w (g 0 _ h0 e0) (by omega)]
  have kEnd : ∀ s : PS,Kp s ((rd ws ws.length).1 (s.expect ws [61])).2 := fun s => (kp_expect ws s _).trans (kf _)
  have k5 : ∀ s : PS,Kp s (((rd ws ws.length).1 ((((s.expect ws [58]).typTo ws).expect ws [61]))).2.expect ws [59]) := fun s => (((kp_expect ws s _).trans (kp_typ ws _)).trans (kEnd _)).trans (kp_expect ws _ _)
  by_cases c1 : n = 1
  · subst c1; exact (hB.exp _).kp (((kp_name ws _).trans (kf_prms _)).trans (k5 _))
  rw [expect_w (g 1 _ (by omega) e1) (by omega)]
  by_cases c2 : n = 2
  · subst c2; exact (hB.nam).kp ((kf_prms _).trans (k5 _))
  rw [(name_w (g 2 _ (by omega) e2) (by omega)).1]
  by_cases c3 : n = 3
  · subst c3
    refine Fx.kp ?_ (k5 _)
    unfold prmsR
    simp only
    have f := hB.exp (pl := 0) [40]
    split
    · exact f.kp (kp_next ws _)
    · exact f.kp (((kf_param _).trans (kf_prmsN _ _)).trans (kp_expect ws _ _))
  have x4 : ∃ y,ws[4]? = some y ∧ (y.kind == 4 && [[41]].contains y.text) = false := by
    by_cases c4 : n = 4
    · subst c4; exact ⟨x,hB.at',by rw [hB.bad]; rfl⟩
    · exact ⟨_,g 4 _ (by omega) e4,by rfl⟩
  obtain ⟨y,hy,hy'⟩ := x4
  rw [prms_st (g 3 _ (by omega) e3) (by omega) hy hy']
  have k6 : ∀ s : PS,Kp s ((prmsN ws ws.length s).2.expect ws [41]) := fun s => (kf_prmsN _ s).trans (kp_expect ws _ _)
  by_cases c4 : n = 4
  · subst c4; exact (hB.nam).kp ((((kp_expect ws _ _).trans (kp_typ ws _)).trans (k6 _)).trans (k5 _))
  rw [(name_w (g 4 _ (by omega) e4) (by omega)).1]
  by_cases c5 : n = 5
  · subst c5; exact (hB.exp _).kp (((kp_typ ws _).trans (k6 _)).trans (k5 _))
  rw [expect_w (g 5 _ (by omega) e5) (by omega)]
  by_cases c6 : n = 6
  · subst c6; exact (hB.typ).kp ((k6 _).trans (k5 _))
  rw [(int_w (g 6 _ (by omega) e6) (by omega)).1]
  have x7 : ∃ y,ws[7]? = some y ∧ (y.kind == 4 && [[44]].contains y.text) = false := by
    by_cases c7 : n = 7
    · subst c7; exact ⟨x,hB.at',by rw [hB.bad]; rfl⟩
    · exact ⟨_,g 7 _ (by omega) e7,by rfl⟩
  obtain ⟨y7,hy7,hy7'⟩ := x7
  rw [prms_none (i := 6 + 1) hy7 hy7']
  simp only
  by_cases c7 : n = 7
  · subst c7; exact (hB.exp _).kp (k5 _)
  rw [expect_w (g 7 _ (by omega) e7) (by omega)]
  by_cases c8 : n = 8
  · subst c8; exact (hB.exp _).kp (((kp_typ ws _).trans (kEnd _)).trans (kp_expect ws _ _))
  rw [expect_w (g 8 _ (by omega) e8) (by omega)]
  by_cases c9 : n = 9
  · subst c9; exact (hB.typ).kp ((kEnd _).trans (kp_expect ws _ _))
  rw [(int_w (g 9 _ (by omega) e9) (by omega)).1]
  by_cases c10 : n = 10
  · subst c10; exact (hB.exp _).kp ((kf _).trans (kp_expect ws _ _))
  rw [expect_w (g 10 _ (by omega) e10) (by omega)]
  have hb' := beg_eq hb.right (b := 11) (by simp) (show _ = n - 11 by simp)
  have o := ho ws 11 p 0 ws.length (n - 11) x hb' (by omega) (bw_eq hB (by omega)) (by omega)
  exact hB.expect (out_eq o (show 11 + (n - 11) = n by omega)) [59]
theorem mod_bad {W : Nat → List Wd} {t : Nat → Ex} {D : Nat} (hr : XR W t D) (ho : XO W D) (hD : D ≤ 11) (q : Nat → Nat) (p n : Nat) (hb : Beg ws 0 (hd11 q ++ W p) n) (hn : n ≤ 11 + (W p).length) (hB : Bw ws n x) :
    Fx x (modR ws (rd ws ws.length).1 ⟨0,false,0⟩).2 := by
  have kf := (kf_rd (ws := ws) ws.length).1
  have hl := hB.lt
  rcases Nat.eq_zero_or_pos n with h0 | h0
  · subst h0
    have hi := imps_none (pl := 0) (n := ws.length) hB.at' (by rw [hB.bad]; rfl)
    have hf := funs_none (ex := (rd ws ws.length).1) (pl := 0) (n := ws.length) hB.at' (by rw [hB.bad]; rfl)
    unfold modR
    rw [hi]
    simp only [hf]
    rw [cur_w hB.at',hB.bad,if_neg (by omega)]
    exact hB.fx
  · have hz : ws[0]? = some ⟨4,[112,117,98],q 0⟩ := hb 0 _ h0 rfl
    have hi := imps_none (pl := 0) (n := ws.length) hz (by rfl)
    have hF := fun_bad hr ho hD q p n hb h0 hn hB
    have hn : Fx x (funsN ws (rd ws ws.length).1 ws.length ⟨0,false,0⟩).2 := by
      obtain ⟨k,e⟩ : ∃ k,ws.length = k + 1 := ⟨ws.length - 1,by omega⟩
      generalize (rd ws ws.length).1 = ex at *
      rw [e]
      unfold funsN
      rw [isAt_w hz,if_pos (by rfl)]
      exact hF.kp (kf_funsN kf k _)
    unfold modR
    rw [hi]
    simp only
    split
    · exact hn
    · exact hn.kp (kp_fail ws _)
end
theorem parsed_bad {s : List UInt8} {W : Nat → List Wd} {t : Nat → Ex} {D : Nat} (hx : Lx s W) (hr : XR W t D) (ho : XO W D) (hD : D ≤ 11) (k : Nat) (hk : k < (txtA s).length) (he : Ends ((txtA s).take k)) (rest : List UInt8) :
    (parsed ((txtA s).take k ++ 63 :: rest)).2.failed = true ∧ (parsed ((txtA s).take k ++ 63 :: rest)).2.place = k := by
  obtain ⟨U,hU⟩ := cut_words _ _ (Nat.le_refl _) he
  have hkl : ((txtA s).take k).length = k := by rw [List.length_take]; omega
  have w1 := hU 0 ((txtA s).drop k)
  rw [List.take_append_drop,hkl,Nat.zero_add,split_A hx] at w1
  have w2 := hU 0 (63 :: rest)
  rw [hkl,Nat.zero_add] at w2
  obtain ⟨y,z,hyz⟩ := bad_word rest k
  rw [hyz] at w2
  have h2 : 2 ≤ (splitFrom ((txtA s).drop k) k).length := by
    refine two_words k ⟨59,?_,by decide⟩
    have : (txtA s).drop k ≠ [] := by intro e; have := congrArg List.length e; rw [List.length_drop] at this; simp at this; omega
    have hg : ((txtA s).drop k).getLast this = 59 := by rw [List.getLast_drop]; unfold txtA; simp
    rw [← hg]; exact List.getLast_mem this
  have hlen := congrArg List.length w1
  simp only [List.length_append,List.length_cons,List.length_nil] at hlen
  unfold parsed
  rw [w2]
  refine (mod_bad (ws := U 0 ++ ⟨1,y,k⟩ :: z) (x := ⟨1,y,k⟩) hr ho hD (fun i => [0,4,7,8,9,10,12,15,16,18,22].getD i 0) 24 (U 0).length ?_ (by omega) ⟨by simp,rfl⟩)
  intro i u hi hu
  rw [Nat.zero_add,List.getElem?_append_left hi]
  have : (U 0 ++ splitFrom ((txtA s).drop k) k)[i]? = some u := by
    rw [← w1]
    have hil := (List.getElem?_eq_some_iff.1 hu).1
    rw [← List.append_assoc]
    exact (List.getElem?_append_left hil).trans hu
  rw [List.getElem?_append_left hi] at this
  exact this
end Go.Proofs.YtpmmjkiclngpmaaGreatDoor
namespace Go.Proofs.YtpmmjkiclngpmaaGreatDoor
open Go.RowKit
abbrev oneS (T : List UInt8) (o : Option Ob) (cl : List Nm) (im : Option (List CF)) : Sto := ⟨[⟨[109],T,o⟩],cl,im⟩
abbrev funV (q2 q4 : Nat) (e : Ex) : Fun := ⟨[102],q2,true,[⟨[107],q4,1⟩],1,e⟩
section
variable {T : List UInt8} {o : Option Ob} {cl : List Nm} {im : Option (List CF)} {q2 q4 : Nat} {e : Ex} {ps : PS} {k v : Int}
theorem one_form (hp : parsed T = (⟨[],[funV q2 q4 e]⟩,ps)) (hf : ps.failed = false) : formOf T = some ⟨[],[funV q2 q4 e]⟩ := by
  unfold formOf; rw [hp]; simp only; rw [hf]; rfl
theorem one_chk (E : Nm → Option Mod) (h : TrP [⟨[107],k⟩] 1 v 9 e) : (chkE E ⟨[],[funV q2 q4 e]⟩).code = 0 := by
  unfold chkE modK
  have ht := h.typ (lookE ⟨[],[funV q2 q4 e]⟩ (imsE E ⟨[],[funV q2 q4 e]⟩)) 701 ⟨[([107],1)],0,0,[]⟩ (by omega) rfl
  show (mustK (tyN _ 701) 1 e ⟨[([107],1)],0,0,[]⟩).code = 0
  unfold mustK
  rw [ht]
  rfl
theorem one_diag (E : Nm → Option Mod) (hc : curr E ⟨[109],T,o⟩ = false) (hp : parsed T = (⟨[],[funV q2 q4 e]⟩,ps)) (hf : ps.failed = false) (h : TrP [⟨[107],k⟩] 1 v 9 e) : diagM E ⟨[109],T,o⟩ = none := by
  unfold diagM
  rw [if_neg (by simp [hc])]
  have : (compM E ⟨[109],T,o⟩).1.1 = 0 := by
    unfold compM
    rw [one_form hp hf]
    exact one_chk E h
  rw [if_pos this]
theorem one_diags (hc : curr (formE [⟨[109],T,o⟩]) ⟨[109],T,o⟩ = false) (hp : parsed T = (⟨[],[funV q2 q4 e]⟩,ps)) (hf : ps.failed = false) (h : TrP [⟨[107],k⟩] 1 v 9 e) : (buildS (oneS T o cl im)).1 = [] := by
  show diagsL (formE [⟨[109],T,o⟩]) [⟨[109],T,o⟩] = []
  unfold diagsL
  rw [List.filterMap_cons,one_diag _ hc hp hf h]
  rfl
abbrev oneB (T : List UInt8) (o : Option Ob) : List Md := [buildM (formE [⟨[109],T,o⟩]) ⟨[109],T,o⟩]
end
end Go.Proofs.YtpmmjkiclngpmaaGreatDoor
namespace Go.Proofs.YtpmmjkiclngpmaaGreatDoor
open Go.RowKit
theorem Begun.allocV {w w1 : World} {p : SP} {s : Sto} (h : Begun w p s w1) (o : Obj) : Begun w p s (w1.alloc o) := h.below ((Below.refl _ _).alloc (Nat.le_refl _) _)
theorem set_one (T0 T : List UInt8) (o : Option Ob) (cl : List Nm) (im : Option (List CF)) (h : T.length ≤ 600) : setS (oneS T0 o cl im) [109] T = (0,oneS T o cl im) := by
  have : isNameT [109] = true := by kernel_rfl
  unfold setS
  rw [if_neg (by rw [this]; simp),if_neg (by simp [names]; omega)]
  rfl
theorem built_one {T : List UInt8} {o : Option Ob} {cl : List Nm} {im : Option (List CF)} : (buildS (oneS T o cl im)).2 = oneS T (buildM (formE [⟨[109],T,o⟩]) ⟨[109],T,o⟩).obj (compL (formE [⟨[109],T,o⟩]) [⟨[109],T,o⟩]) (buildS (oneS T o cl im)).2.img := by
  have hn := buildM_name (formE [⟨[109],T,o⟩]) ⟨[109],T,o⟩
  have : buildM (formE [⟨[109],T,o⟩]) ⟨[109],T,o⟩ = ⟨[109],T,(buildM (formE [⟨[109],T,o⟩]) ⟨[109],T,o⟩).obj⟩ := by
    generalize buildM (formE [⟨[109],T,o⟩]) ⟨[109],T,o⟩ = x at *
    obtain ⟨a,b,c⟩ := x
    simp only at hn
    rw [hn.1,hn.2]
  show (⟨[buildM (formE [⟨[109],T,o⟩]) ⟨[109],T,o⟩],_,_⟩ : Sto) = ⟨[⟨[109],T,_⟩],_,_⟩
  rw [← this]
  rfl
def Stale (o : Option Ob) (T : List UInt8) : Prop := ∀ ob,o = some ob → ob.text ≠ T
theorem Stale.curr {o : Option Ob} {T : List UInt8} (h : Stale o T) (E : Nm → Option Mod) : curr E ⟨[109],T,o⟩ = false := by
  unfold Go.Proofs.YtpmmjkiclngpmaaGreatDoor.curr
  cases o with
  | none => rfl
  | some ob =>
    have : (ob.text == T) = false := by simpa using h ob rfl
    simp [this]
theorem built_stale {T T' : List UInt8} {o : Option Ob} (h : Stale o T) (hne : T ≠ T') : Stale (buildM (formE [⟨[109],T,o⟩]) ⟨[109],T,o⟩).obj T' := by
  intro ob hob
  have hb : buildM (formE [⟨[109],T,o⟩]) ⟨[109],T,o⟩ = { (⟨[109],T,o⟩ : Md) with obj := (compM (formE [⟨[109],T,o⟩]) ⟨[109],T,o⟩).2 } := by unfold buildM; rw [if_neg (by simp [h.curr])]
  rw [hb] at hob
  simp only at hob
  unfold compM at hob
  split at hob
  · cases hob
  · simp only at hob
    split at hob
    · cases hob; exact hne
    · cases hob
theorem small_one {T : List UInt8} {o : Option Ob} {cl : List Nm} {im : Option (List CF)} (h : T.length ≤ 600) : ∀ m ∈ (oneS T o cl im).L,m.name.length ≤ 8 ∧ m.now.length ≤ 600 := by
  intro m hm
  have : m = ⟨[109],T,o⟩ := by simpa using hm
  subst this
  exact ⟨by simp,h⟩
theorem one_cut {T : List UInt8} {o : Option Ob} {cl : List Nm} {im : Option (List CF)} (hs : Stale o T) (hf : (parsed T).2.failed = true) : (buildS (oneS T o cl im)).1 = [⟨[109],4,(parsed T).2.place⟩] ∧ (buildS (oneS T o cl im)).2.img = none := by
  have h0 : formOf T = none := by unfold formOf; rw [if_pos hf]
  have hd : diagM (formE [⟨[109],T,o⟩]) ⟨[109],T,o⟩ = some ⟨[109],4,(parsed T).2.place⟩ := by
    unfold diagM
    have hc : compM (formE [⟨[109],T,o⟩]) ⟨[109],T,o⟩ = ((4,(parsed T).2.place),none) := by unfold compM; rw [h0]
    rw [if_neg (by simp [hs.curr]),hc]
    rfl
  have h1 : diagsL (formE [⟨[109],T,o⟩]) [⟨[109],T,o⟩] = [⟨[109],4,(parsed T).2.place⟩] := by unfold diagsL; rw [List.filterMap_cons,hd]; rfl
  refine ⟨h1,?_⟩
  show (if diagsL (formE [⟨[109],T,o⟩]) [⟨[109],T,o⟩] = [] then some (linkP ((oneB T o).map funsOf)) else none) = none
  rw [h1,if_neg (by simp)]
end Go.Proofs.YtpmmjkiclngpmaaGreatDoor
namespace Go.Proofs.YtpmmjkiclngpmaaGreatDoor
open Go.RowKit
theorem parsed_G {s : List UInt8} {W : Nat → List Wd} {t : Nat → Ex} {D : Nat} (h : Lx s W) (hx : XR W t D) (hD : D ≤ 10) : parsed (txtG s) = (⟨[],[⟨[103],3,false,[⟨[107],5,1⟩],2,t 21⟩]⟩,⟨11 + (W 21).length,false,0⟩) := by
  unfold parsed
  have e := split_G h
  generalize splitFrom (txtG s) 0 = ws at *
  have hl : ws.length = 10 + (W 21).length + 2 := by rw [e]; simp; omega
  have hw : ∀ i x,([⟨4,[102,110],0⟩,⟨2,[103],3⟩,⟨4,[40],4⟩,⟨2,[107],5⟩,⟨4,[58],6⟩,⟨4,[105,110,116],8⟩,⟨4,[41],11⟩,⟨4,[58],12⟩,⟨4,[98,111,111,108],14⟩,⟨4,[61],19⟩] : List Wd)[i]? = some x → ws[i]? = some x := fun i x h => by
    have := (List.getElem?_eq_some_iff.1 h).1
    rw [e,List.getElem?_append_left this]; exact h
  have hm := has_mid ([⟨4,[102,110],0⟩,⟨2,[103],3⟩,⟨4,[40],4⟩,⟨2,[107],5⟩,⟨4,[58],6⟩,⟨4,[105,110,116],8⟩,⟨4,[41],11⟩,⟨4,[58],12⟩,⟨4,[98,111,111,108],14⟩,⟨4,[61],19⟩] : List Wd) (W 21) [⟨4,[59],21 + s.length⟩,⟨0,[],22 + s.length⟩]
  have a0 := at_tail ([⟨4,[102,110],0⟩,⟨2,[103],3⟩,⟨4,[40],4⟩,⟨2,[107],5⟩,⟨4,[58],6⟩,⟨4,[105,110,116],8⟩,⟨4,[41],11⟩,⟨4,[58],12⟩,⟨4,[98,111,111,108],14⟩,⟨4,[61],19⟩] : List Wd) (W 21) [⟨4,[59],21 + s.length⟩,⟨0,[],22 + s.length⟩] 0
  have a1 := at_tail ([⟨4,[102,110],0⟩,⟨2,[103],3⟩,⟨4,[40],4⟩,⟨2,[107],5⟩,⟨4,[58],6⟩,⟨4,[105,110,116],8⟩,⟨4,[41],11⟩,⟨4,[58],12⟩,⟨4,[98,111,111,108],14⟩,⟨4,[61],19⟩] : List Wd) (W 21) [⟨4,[59],21 + s.length⟩,⟨0,[],22 + s.length⟩] 1
  rw [← e] at hm a0 a1
  have he : (rd ws ws.length).1 ⟨10,false,0⟩ = (t 21,⟨10 + (W 21).length,false,0⟩) := hx ws 10 21 0 ws.length hm (by omega) ⟨⟨4,[59],21 + s.length⟩,a0,fun _ => by rfl⟩ (by omega)
  have hs : ((⟨0,false,0⟩ : PS).skipTo ws [112,117,98]).expect ws [102,110] = ⟨1,false,0⟩ := by
    rw [noskip_w (hw 0 _ rfl) (by rfl),expect_w (hw 0 _ rfl) (by omega)]
  have hp : (⟨0,false,0⟩ : PS).isAt ws [[112,117,98]] = false := by rw [isAt_w (hw 0 _ rfl)]; rfl
  have hf := fun_read (ws := ws) (ex := (rd ws ws.length).1) (b := 1) (ty := 2) hs (hw 1 _ rfl) (hw 2 _ rfl) (hw 3 _ rfl) (hw 4 _ rfl) (hw 5 _ rfl) (hw 6 _ rfl) (hw 7 _ rfl) (hw 8 _ rfl) (hw 9 _ rfl) (Or.inr ⟨rfl,rfl⟩) (by omega) he
  rw [hp] at hf
  have := mod_read (ws := ws) (st := ⟨0,false,0⟩) (x := ⟨0,[],0⟩) (L := 10 + (W 21).length) (z := ⟨4,[102,110],0⟩) (hw 0 _ rfl) (by rfl) (by rfl) hf a0 a1
  rw [this,show 10 + (W 21).length + 1 = 11 + (W 21).length by omega]
theorem built_none {T T' : List UInt8} {o : Option Ob} (h : Stale o T) (hf : (parsed T).2.failed = true) : Stale (buildM (formE [⟨[109],T,o⟩]) ⟨[109],T,o⟩).obj T' := by
  have hb : buildM (formE [⟨[109],T,o⟩]) ⟨[109],T,o⟩ = { (⟨[109],T,o⟩ : Md) with obj := (compM (formE [⟨[109],T,o⟩]) ⟨[109],T,o⟩).2 } := by unfold buildM; rw [if_neg (by simp [h.curr])]
  have h0 : formOf T = none := by unfold formOf; rw [if_pos hf]
  have hc : compM (formE [⟨[109],T,o⟩]) ⟨[109],T,o⟩ = ((4,(parsed T).2.place),none) := by unfold compM; rw [h0]
  intro ob hob
  rw [hb,hc] at hob
  cases hob
theorem type_wrong {T : List UInt8} {o : Option Ob} {cl : List Nm} {im : Option (List CF)} {e : Ex} {ps : PS} {k v : Int} (hs : Stale o T) (hp : parsed T = (⟨[],[⟨[103],3,false,[⟨[107],5,1⟩],2,e⟩]⟩,ps)) (hf : ps.failed = false) (h : TrP [⟨[107],k⟩] 1 v 9 e) :
    (buildS (oneS T o cl im)).1 = [⟨[109],8,e.place⟩] := by
  have h0 : formOf T = some ⟨[],[⟨[103],3,false,[⟨[107],5,1⟩],2,e⟩]⟩ := by unfold formOf; rw [hp]; simp only; rw [hf]; rfl
  have hc : (chkE (formE [⟨[109],T,o⟩]) ⟨[],[⟨[103],3,false,[⟨[107],5,1⟩],2,e⟩]⟩).code = 8 ∧ (chkE (formE [⟨[109],T,o⟩]) ⟨[],[⟨[103],3,false,[⟨[107],5,1⟩],2,e⟩]⟩).place = e.place := by
    unfold chkE modK
    have ht := h.typ (lookE ⟨[],[⟨[103],3,false,[⟨[107],5,1⟩],2,e⟩]⟩ (imsE (formE [⟨[109],T,o⟩]) ⟨[],[⟨[103],3,false,[⟨[107],5,1⟩],2,e⟩]⟩)) 701 ⟨[([107],1)],0,0,[]⟩ (by omega) rfl
    show (mustK (tyN _ 701) 2 e ⟨[([107],1)],0,0,[]⟩).code = 8 ∧ (mustK (tyN _ 701) 2 e ⟨[([107],1)],0,0,[]⟩).place = e.place
    unfold mustK
    rw [ht]
    exact ⟨rfl,rfl⟩
  have hd : diagM (formE [⟨[109],T,o⟩]) ⟨[109],T,o⟩ = some ⟨[109],8,e.place⟩ := by
    unfold diagM
    rw [if_neg (by simp [hs.curr])]
    have h1 : (compM (formE [⟨[109],T,o⟩]) ⟨[109],T,o⟩).1 = (8,e.place) := by
      unfold compM
      rw [h0]
      simp only
      rw [hc.1,hc.2]
    rw [h1,if_neg (by simp)]
  show diagsL (formE [⟨[109],T,o⟩]) [⟨[109],T,o⟩] = _
  unfold diagsL
  rw [List.filterMap_cons,hd]
  rfl
structure SpS (s : List UInt8) (k : Nat) (rest : List UInt8) (s1 s2 s3 s4 s5 s6 s7 : Sto) : Prop where
  set1 : setS begS5 [109] (txtA s) = (0,s1)
  m1 : StM s1
  b1 : (buildS s1).1 = []
  b2 : (buildS s1).2 = s2
  m2 : StM s2
  set3 : setS s2 [109] ((txtA s).take k ++ 63 :: rest) = (0,s3)
  m3 : StM s3
  b3 : (buildS s3).1 = [⟨[109],4,k⟩]
  b4 : (buildS s3).2 = s4
  m4 : StM s4
  set5 : setS s4 [109] (txtC s) = (0,s5)
  m5 : StM s5
  b5 : (buildS s5).1 = [⟨[109],4,24 + s.length⟩]
  b6 : (buildS s5).2 = s6
  m6 : StM s6
  set7 : setS s6 [109] (txtG s) = (0,s7)
  m7 : StM s7
  b7 : (buildS s7).1 = [⟨[109],8,21⟩]
  m8 : StM (buildS s7).2
theorem sp_states {s : List UInt8} {v : Int} (h : Mades [⟨[107],0⟩] s 1 v 9) (hl : s.length ≤ 300) (k : Nat) (hk : k < (txtA s).length) (he : Ends ((txtA s).take k)) (rest : List UInt8) (hrs : rest.length ≤ 100) : ∃ s1 s2 s3 s4 s5 s6 s7,SpS s k rest s1 s2 s3 s4 s5 s6 s7 := by
  obtain ⟨W,t,hN⟩ := h
  have hA := parsed_A hN.lx hN.rd (by omega)
  have hX := parsed_bad hN.lx hN.rd hN.ct (by omega) k hk he rest
  have hC := parsed_C hN.lx hN.rd (by omega)
  have hG := parsed_G hN.lx hN.rd (by omega)
  have lA : (txtA s).length ≤ 325 := by unfold txtA frontA; simp; omega
  have lX : ((txtA s).take k ++ 63 :: rest).length ≤ 600 := by rw [List.length_append,List.length_take,List.length_cons]; omega
  have lC : (txtC s).length ≤ 600 := by unfold txtC frontA; simp; omega
  have lG : (txtG s).length ≤ 600 := by unfold txtG frontG; simp; omega
  generalize hT : (txtA s).take k ++ 63 :: rest = X at *
  have st0 : Stale (some ⟨[],[],[]⟩) (txtA s) := fun ob h => by cases h; unfold txtA frontA; simp
  have nAX : txtA s ≠ X := fun e => by rw [← e,hA] at hX; exact absurd hX.1 (by simp)
  have e1 : setS begS5 [109] (txtA s) = (0,oneS (txtA s) (some ⟨[],[],[]⟩) [[109]] (some [])) := set_one _ _ _ _ _ (by omega)
  have m1 : StM (oneS (txtA s) (some ⟨[],[],[]⟩) [[109]] (some [])) := by have := beg_m5.set [109] (txtA s); rw [e1] at this; exact this
  have b1 := one_diags (cl := [[109]]) (im := some []) (st0.curr _) hA rfl (hN.tr 24)
  have m2 := m1.build (small_one (by omega))
  have st1 := built_stale st0 nAX
  have e2 := built_one (T := txtA s) (o := some ⟨[],[],[]⟩) (cl := [[109]]) (im := some [])
  generalize hs2 : (buildS (oneS (txtA s) (some ⟨[],[],[]⟩) [[109]] (some []))).2 = s2 at *
  generalize (buildM (formE [⟨[109],txtA s,some ⟨[],[],[]⟩⟩]) ⟨[109],txtA s,some ⟨[],[],[]⟩⟩).obj = o3 at *
  generalize (compL (formE [⟨[109],txtA s,some ⟨[],[],[]⟩⟩]) [⟨[109],txtA s,some ⟨[],[],[]⟩⟩]) = c3 at *
  have e3 : setS s2 [109] X = (0,oneS X o3 c3 s2.img) := by
    conv => lhs; rw [e2]
    exact set_one _ _ _ _ _ lX
  have m3 := m2.set [109] X
  rw [e3] at m3
  have b3 := one_cut (cl := c3) (im := s2.img) st1 hX.1
  have m4 := m3.build (small_one lX)
  have st3 : ∀ T',Stale (buildM (formE [⟨[109],X,o3⟩]) ⟨[109],X,o3⟩).obj T' := fun T' => built_none st1 hX.1
  have e4 := built_one (T := X) (o := o3) (cl := c3) (im := s2.img)
  generalize hs4 : (buildS (oneS X o3 c3 s2.img)).2 = s4 at *
  generalize (buildM (formE [⟨[109],X,o3⟩]) ⟨[109],X,o3⟩).obj = o5 at *
  generalize (compL (formE [⟨[109],X,o3⟩]) [⟨[109],X,o3⟩]) = c5 at *
  have e5 : setS s4 [109] (txtC s) = (0,oneS (txtC s) o5 c5 s4.img) := by
    conv => lhs; rw [e4]
    exact set_one _ _ _ _ _ lC
  have m5 := m4.set [109] (txtC s)
  rw [e5] at m5
  have b5 := one_cut (cl := c5) (im := s4.img) (st3 _) hC.1
  have m6 := m5.build (small_one lC)
  have st5 : ∀ T',Stale (buildM (formE [⟨[109],txtC s,o5⟩]) ⟨[109],txtC s,o5⟩).obj T' := fun T' => built_none (st3 _) hC.1
  have e6 := built_one (T := txtC s) (o := o5) (cl := c5) (im := s4.img)
  generalize hs6 : (buildS (oneS (txtC s) o5 c5 s4.img)).2 = s6 at *
  generalize (buildM (formE [⟨[109],txtC s,o5⟩]) ⟨[109],txtC s,o5⟩).obj = o7 at *
  generalize (compL (formE [⟨[109],txtC s,o5⟩]) [⟨[109],txtC s,o5⟩]) = c7 at *
  have e7 : setS s6 [109] (txtG s) = (0,oneS (txtG s) o7 c7 s6.img) := by
    conv => lhs; rw [e6]
    exact set_one _ _ _ _ _ lG
  have m7 := m6.set [109] (txtG s)
  rw [e7] at m7
  have b7 := type_wrong (cl := c7) (im := s6.img) (st5 _) hG rfl (hN.tr 21)
  rw [hN.at'] at b7
  refine ⟨_,s2,_,s4,_,s6,_,e1,m1,b1,hs2,m2,by rw [hT]; exact e3,m3,by rw [b3.1,hX.2],hs4,m4,e5,m5,by rw [b5.1,hC.2],hs6,m6,e7,m7,b7,m7.build (small_one lG)⟩
end Go.Proofs.YtpmmjkiclngpmaaGreatDoor
namespace Go.Proofs.YtpmmjkiclngpmaaGreatDoor
open Go.RowKit
theorem leafK_len {zs : List Int} {vs : List Kn} (h0 : 0 < vs.length) (h : ∀ k ∈ vs,k.name.length ≤ 2) (c : Int) (i : Nat) : (leafK zs c vs i).1.s.length ≤ 1000 := by
  have hb := nextB_bdN zs i vs.length h0
  have hb2 := nextB_bdN zs i 1000 (by omega)
  unfold leafK
  split
  · obtain ⟨q,hq⟩ : ∃ q : Nat,(nextB zs i vs.length).1 = (q : Int) := ⟨(nextB zs i vs.length).1.toNat,by omega⟩
    have hql : q < vs.length := by omega
    simp only [hq,Int.toNat_natCast,lastOf_name]
    rw [show vs.getD q ⟨[],0⟩ = vs[q] by simp [List.getD,hql]]
    have := h _ (List.getElem_mem hql)
    omega
  · exact textB_le _ (by have : ((1000 : Nat) : Int) = 1000 := rfl; rw [this] at hb2; omega)
theorem leaf_any (D : Dp) (d : Nat) (hd : d ≤ 6) (vs : List Kn) (v : Value) (i : Nat) (w : World) (hD : Dc D i w) (hV : Vars D.xb w v vs) (h0 : d = 0 ∨ (nextB D.zs i 9).1 < 2) :
    Calls Tryz.prog 14 #[.pointer (some ⟨D.xb,0,none⟩),.int .i64 d,v] w fun e w' =>
    e = .returned (mkVal (leafK D.zs (nextB D.zs i 9).1 vs (nextB D.zs i 9).2).1) ∧ But D.xb w w' ∧ Dc D (leafK D.zs (nextB D.zs i 9).1 vs (nextB D.zs i 9).2).2 w' ∧ (leafK D.zs (nextB D.zs i 9).1 vs (nextB D.zs i 9).2).1.s.length ≤ 2000 * 5 ^ d := by
  have hp5 : 1 ≤ 5 ^ d := Nat.pow_pos (by omega)
  rcases hc : ((nextB D.zs i 9).1 % 2 == 0) with _ | _
  · refine (number_numeral D d hd vs v i w hD hV h0 hc).mono ?_
    rintro e w' ⟨a,b,c,l⟩
    exact ⟨a,b,c,by omega⟩
  · refine (number_variable D d hd vs v i w hD hV h0 hc).mono ?_
    rintro e w' ⟨a,b,c⟩
    obtain ⟨_,_,_,_,_,_,_,_,hv0,_,hvn⟩ := hV
    have := leafK_len (zs := D.zs) hv0 hvn (nextB D.zs i 9).1 (nextB D.zs i 9).2
    exact ⟨a,b,c,by omega⟩
theorem number_step (D : Dp) (d : Nat) (hd : d ≤ 5) (N : List Kn → Nat → Mk × Nat) (hN : NumC D d N) (T : List Kn → Nat → (List UInt8 × Bool) × Nat) (hT : TruC D d T) : NumC D (d + 1) (stepNum D.zs N T) := by
  intro vs v i w hD hV hvl
  have hb := nextB_bdN D.zs i 9 (by omega)
  have h9 : ((9 : Nat) : Int) = 9 := rfl
  rw [h9] at hb
  by_cases hc : (nextB D.zs i 9).1 < 2
  · have e : stepNum D.zs N T vs i = leafK D.zs (nextB D.zs i 9).1 vs (nextB D.zs i 9).2 := by simp [stepNum,hc]
    rw [e]
    exact leaf_any D (d + 1) (by omega) vs v i w hD hV (Or.inr hc)
  have hcs : (nextB D.zs i 9).1 = 2 ∨ (nextB D.zs i 9).1 = 3 ∨ (nextB D.zs i 9).1 = 4 ∨ (nextB D.zs i 9).1 = 5 ∨ (nextB D.zs i 9).1 = 6 ∨ (nextB D.zs i 9).1 = 7 ∨ (nextB D.zs i 9).1 = 8 := by omega
  rw [show ((d + 1 : Nat) : Int) = (d : Int) + 1 by omega]
  rcases hcs with h | h | h | h | h | h | h
  · exact number_add D d hd N hN T hT vs v i w hD hV hvl h
  · exact number_sub D d hd N hN T hT vs v i w hD hV hvl h
  · exact number_mul D d hd N hN T hT vs v i w hD hV hvl h
  · exact number_div D d hd N hN T hT vs v i w hD hV hvl h
  · exact number_neg D d hd N hN T hT vs v i w hD hV hvl h
  · exact number_let D d hd N hN T hT vs v i w hD hV hvl h
  · exact number_if D d hd N hN T hT vs v i w hD hV hvl h
theorem number_all (D : Dp) : ∀ d,d ≤ 6 → NumC D d (makes D.zs d).1 ∧ TruC D d (makes D.zs d).2 := by
  intro d
  induction d with
  | zero =>
    intro _
    refine ⟨fun vs v i w hD hV hvl => leaf_any D 0 (by omega) vs v i w hD hV (Or.inl rfl),fun vs v i w hD hV hvl => ?_⟩
    refine (truth_leaf D 0 vs v i w hD (Or.inl rfl) (by omega)).mono ?_
    rintro e w' ⟨a,b,c⟩
    refine ⟨a,b,c,?_⟩
    have := leafT_len D.zs (nextB D.zs i 5).2
    show (leafT D.zs (nextB D.zs i 5).2).1.1.length ≤ 2000 * 5 ^ 0
    omega
  | succ d ih =>
    intro hd
    obtain ⟨a,b⟩ := ih (by omega)
    exact ⟨number_step D d (by omega) _ a _ b,truth_step D d (by omega) _ a _ b⟩
end Go.Proofs.YtpmmjkiclngpmaaGreatDoor
namespace Go.Proofs.YtpmmjkiclngpmaaGreatDoor
open Go.RowKit
structure Vq (w : World) (p : SP) (mb : Nat) (ms : List UInt8) (mv : Int) (s : Sto) (wx : World) : Prop where
  bg : Begun w p s wx
  blk : wx.heap[mb]? = some (.cells #[.string ⟨ms.toArray⟩,.int .i64 mv] 32 (0,0))
  out : ¬ p.own mb
theorem Vq.step {w : World} {p : SP} {mb : Nat} {ms : List UInt8} {mv : Int} {s s' : Sto} {wx wy : World} (h : Vq w p mb ms mv s wx) (hb : ButS p.own wx wy) (hs : StAt wy p s') (hm : StM s') : Vq w p mb ms mv s' wy :=
  ⟨h.bg.step hb hs hm,(hb.block mb (lt_of_some h.blk) h.out).trans h.blk,h.out⟩
theorem Vq.set {w : World} {p : SP} {mb : Nat} {ms : List UInt8} {mv : Int} {s s' : Sto} {wx : World} (h : Vq w p mb ms mv s wx) (t : List UInt8) (ht : t.length ≤ 600) (hs : setS s [109] t = (0,s')) (hm : StM s') :
    Calls Tryz.prog 15 #[.pointer (some ⟨p.sb,0,none⟩),.string ⟨#[109]⟩,.string ⟨t.toArray⟩] wx fun e w' => e = .returned (.bool true) ∧ Vq w p mb ms mv s' w' := by
  refine (lset_any h.bg.st [109] (by simp) t (by omega)).mono ?_
  rw [hs]
  rintro e w' ⟨rfl,a,b⟩
  exact ⟨rfl,h.step a b hm⟩
theorem Vq.clean {w : World} {p : SP} {mb : Nat} {ms : List UInt8} {mv : Int} {s s' : Sto} {wx : World} (h : Vq w p mb ms mv s wx) (h1 : (buildS s).1 = []) (h2 : (buildS s).2 = s') (hm : StM s') :
    Calls Tryz.prog 16 #[.pointer (some ⟨p.sb,0,none⟩)] wx fun e w' => e = .returned (.bool true) ∧ Vq w p mb ms mv s' w' := by
  refine (lclean_any h.bg.st h.bg.ex h.bg.made).mono ?_
  rw [h1,h2]
  rintro e w' ⟨rfl,a,b⟩
  exact ⟨rfl,h.step a b hm⟩
theorem vars_one {xb : Nat} (w : World) (h : w.heap.size ≠ xb) (k : Int) : Vars xb (w.alloc (.cells #[.string ⟨#[107]⟩,.int .i64 k] 35)) (.slice (some ⟨w.heap.size,0,none⟩) 1 1) [⟨[107],k⟩] :=
  ⟨w.heap.size,1,#[.string ⟨#[107]⟩,.int .i64 k],rfl,h,block_new _ _,by simp,rfl,by simp,by simp,by simp⟩
theorem vars_two (w : World) (o : Obj) (k : Int) : Vars w.heap.size ((w.alloc o).alloc (.cells #[.string ⟨#[107]⟩,.int .i64 k] 35)) (.slice (some ⟨w.heap.size + 1,0,none⟩) 1 1) [⟨[107],k⟩] := by
  have := vars_one (xb := w.heap.size) (w.alloc o) (by simp) k
  rw [show (w.alloc o).heap.size = w.heap.size + 1 by simp] at this
  exact this
theorem cat3 (a b c : List UInt8) : ((ByteArray.mk a.toArray ++ ByteArray.mk b.toArray) ++ ByteArray.mk c.toArray) = ByteArray.mk (a ++ b ++ c).toArray := by rw [app_lists,app_lists]
theorem k_in : ([107] : List UInt8) ∈ vNames := by decide
theorem vsOk_one {k : Int} (h : I64 k) : VsOk [⟨[107],k⟩] := by
  refine ⟨fun x hx => ?_,fun x hx => ?_⟩
  · have : x = ⟨[107],k⟩ := by simpa using hx
    subst this
    exact k_in
  · have : x = ⟨[107],k⟩ := by simpa using hx
    subst this
    exact h
theorem made_k (k : Int) : Mades [⟨[107],k⟩] [107] 1 k 9 := by
  have := Mades.var [⟨[107],k⟩] ⟨[107],k⟩ (by simp) k_in
  exact Mades.mono this (by omega)
theorem number_got (D : Dp) (d : Nat) (hd : d ≤ 4) {k : Int} (hk : I64 k) (w : World) (hD : Dc D 0 w) (v : Value) (hV : Vars D.xb w v [⟨[107],k⟩]) : ∃ R : Mk,Mades [⟨[107],k⟩] R.s 1 R.v (2 * d + 1) ∧ I64 R.v ∧
    Calls Tryz.prog 14 #[.pointer (some ⟨D.xb,0,none⟩),.int .i64 (d : Int),v] w fun e w' => e = .returned (mkVal R) ∧ But D.xb w w' ∧ R.s.length ≤ 2000000 := by
  have h1 := makes_ok D.zs d [⟨[107],k⟩] 0 (vsOk_one hk)
  have h2 := (number_all D d (by omega)).1 [⟨[107],k⟩] v 0 w hD hV (by simp; omega)
  refine ⟨_,h1.1.1,h1.1.2,h2.mono ?_⟩
  rintro e w' ⟨a,b,_,l⟩
  refine ⟨a,b,?_⟩
  have : 5 ^ d ≤ 5 ^ 4 := Nat.pow_le_pow_right (by omega) hd
  omega
end Go.Proofs.YtpmmjkiclngpmaaGreatDoor
