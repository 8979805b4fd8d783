/- YtpmmjkiclngpmaaGreatDoorV06 -/
import Derived.Test.YtpmmjkiclngpmaaGreatDoorV05
import Derived.Test.YtpmmjkiclngpmaaGreatDoorV01
import Derived.Test.YtpmmjkiclngpmaaGreatDoorB45
import Derived.Test.YtpmmjkiclngpmaaGreatDoorV02
import Derived.Test.YtpmmjkiclngpmaaGreatDoorV04
set_option maxRecDepth 100000
set_option linter.unusedSimpArgs false
set_option linter.unusedVariables false
set_option maxHeartbeats 12800000
namespace Go.Proofs.YtpmmjkiclngpmaaGreatDoor
open Go.RowKit
theorem good_compV {E : Nm → Option Mod} {m : Md} (hc : curr E m = false) (hd : diagM E m = none) : GoodM E (buildM E m) := by
  have hn := buildM_name E m
  have hb : buildM E m = { m with obj := (compM E m).2 } := by unfold buildM; rw [if_neg (by simp [hc])]
  unfold diagM at hd
  rw [if_neg (by simp [hc])] at hd
  split at hd
  · next h0 =>
    unfold compM at h0
    split at h0
    · simp at h0
    · next md hf =>
      simp only at h0
      refine ⟨md,by rw [hn.2]; exact hf,h0,?_⟩
      rw [hn.1,hb]
      unfold funsOf compM
      rw [hf]
      simp only
      rw [if_pos h0]
      rfl
  · cases hd
theorem runV_ofV {Fs : List PF} {N i : Nat} {F : PF} (hF : Fs[i]? = some F) (l : List Int) (fuel : Nat) {x : Int} {f e : Nat} (h : fuel ≠ 0 → ev Fs N 99 F.cal F.params l (fuel - 1) F.body = (x,f,e)) : runV Fs N i l fuel = if fuel = 0 then (0,11) else ((if e = 0 then x else 0),e) := by
  unfold runV
  by_cases h0 : fuel = 0
  · rw [if_pos h0,if_pos h0]
  · rw [if_neg h0,if_neg h0,hF]
    simp only [h h0]
abbrev oneS (T : List UInt8) (o : Option Ob) (cl : List Nm) (im : Option (List CF)) : Sto := ⟨[⟨[109],T,o⟩],cl,im⟩
abbrev funV (q2 q4 : Nat) (e : Ex) : Fun := ⟨[102],q2,true,[⟨[107],q4,1⟩],1,e⟩
section
variable {T : List UInt8} {o : Option Ob} {cl : List Nm} {im : Option (List CF)} {q2 q4 : Nat} {e : Ex} {ps : PS} {k v : Int}
theorem one_form (hp : parsed T = (⟨[],[funV q2 q4 e]⟩,ps)) (hf : ps.failed = false) : formOf T = some ⟨[],[funV q2 q4 e]⟩ := by
  unfold formOf; rw [hp]; simp only; rw [hf]; rfl
theorem one_chk (E : Nm → Option Mod) (h : TrP [⟨[107],k⟩] 1 v 9 e) : (chkE E ⟨[],[funV q2 q4 e]⟩).code = 0 := by
  unfold chkE modK
  have ht := h.typ (lookE ⟨[],[funV q2 q4 e]⟩ (imsE E ⟨[],[funV q2 q4 e]⟩)) 701 ⟨[([107],1)],0,0,[]⟩ (by omega) rfl
  show (mustK (tyN _ 701) 1 e ⟨[([107],1)],0,0,[]⟩).code = 0
  unfold mustK
  rw [ht]
  rfl
theorem one_diag (E : Nm → Option Mod) (hc : curr E ⟨[109],T,o⟩ = false) (hp : parsed T = (⟨[],[funV q2 q4 e]⟩,ps)) (hf : ps.failed = false) (h : TrP [⟨[107],k⟩] 1 v 9 e) : diagM E ⟨[109],T,o⟩ = none := by
  unfold diagM
  rw [if_neg (by simp [hc])]
  have : (compM E ⟨[109],T,o⟩).1.1 = 0 := by
    unfold compM
    rw [one_form hp hf]
    exact one_chk E h
  rw [if_pos this]
theorem one_diags (hc : curr (formE [⟨[109],T,o⟩]) ⟨[109],T,o⟩ = false) (hp : parsed T = (⟨[],[funV q2 q4 e]⟩,ps)) (hf : ps.failed = false) (h : TrP [⟨[107],k⟩] 1 v 9 e) : (buildS (oneS T o cl im)).1 = [] := by
  show diagsL (formE [⟨[109],T,o⟩]) [⟨[109],T,o⟩] = []
  unfold diagsL
  rw [List.filterMap_cons,one_diag _ hc hp hf h]
  rfl
abbrev oneB (T : List UInt8) (o : Option Ob) : List Md := [buildM (formE [⟨[109],T,o⟩]) ⟨[109],T,o⟩]
theorem one_img (hc : curr (formE [⟨[109],T,o⟩]) ⟨[109],T,o⟩ = false) (hp : parsed T = (⟨[],[funV q2 q4 e]⟩,ps)) (hf : ps.failed = false) (h : TrP [⟨[107],k⟩] 1 v 9 e) : (buildS (oneS T o cl im)).2.img = some (linkP ((oneB T o).map funsOf)) := by
  have := one_diags (cl := cl) (im := im) hc hp hf h
  show (if diagsL (formE [⟨[109],T,o⟩]) [⟨[109],T,o⟩] = [] then some (linkP ((oneB T o).map funsOf)) else none) = _
  rw [if_pos (show diagsL (formE [⟨[109],T,o⟩]) [⟨[109],T,o⟩] = [] from this)]
theorem one_good (hc : curr (formE [⟨[109],T,o⟩]) ⟨[109],T,o⟩ = false) (hp : parsed T = (⟨[],[funV q2 q4 e]⟩,ps)) (hf : ps.failed = false) (h : TrP [⟨[107],k⟩] 1 v 9 e) (hl : T.length ≤ 600) : ∀ m ∈ oneB T o,GoodM (formE [⟨[109],T,o⟩]) m ∧ m.now.length ≤ 600 := by
  intro m hm
  have : m = buildM (formE [⟨[109],T,o⟩]) ⟨[109],T,o⟩ := by simpa using hm
  subst this
  exact ⟨good_compV hc (one_diag _ hc hp hf h),by rw [(buildM_name _ _).2]; exact hl⟩
theorem one_funs (hc : curr (formE [⟨[109],T,o⟩]) ⟨[109],T,o⟩ = false) (hp : parsed T = (⟨[],[funV q2 q4 e]⟩,ps)) (hf : ps.failed = false) (h : TrP [⟨[107],k⟩] 1 v 9 e) : ∃ c : CF,(oneB T o).map funsOf = [[c]] ∧ c.mod = [109] ∧ c.name = [102] ∧ c.pub = true ∧ c.params = [1] := by
  have hb : buildM (formE [⟨[109],T,o⟩]) ⟨[109],T,o⟩ = { (⟨[109],T,o⟩ : Md) with obj := (compM (formE [⟨[109],T,o⟩]) ⟨[109],T,o⟩).2 } := by unfold buildM; rw [if_neg (by simp [hc])]
  have hk : (compM (formE [⟨[109],T,o⟩]) ⟨[109],T,o⟩).2 = some ⟨T,(objE [109] (formE [⟨[109],T,o⟩]) ⟨[],[funV q2 q4 e]⟩).1,usesE [109] (formE [⟨[109],T,o⟩]) ⟨[],[funV q2 q4 e]⟩⟩ := by
    unfold compM
    rw [one_form hp hf]
    simp only
    rw [if_pos (one_chk _ h)]
  refine ⟨cfOf [109] (fndE [109] ⟨[],[funV q2 q4 e]⟩ (imsE (formE [⟨[109],T,o⟩]) ⟨[],[funV q2 q4 e]⟩)) 700 (funV q2 q4 e) (chkE (formE [⟨[109],T,o⟩]) ⟨[],[funV q2 q4 e]⟩).lk,?_,rfl,rfl,rfl,rfl⟩
  show [funsOf (buildM (formE [⟨[109],T,o⟩]) ⟨[109],T,o⟩)] = _
  rw [hb,hk]
  rfl
theorem one_exI {c : CF} (h1 : c.mod = [109]) (h2 : c.name = [102]) (h3 : c.pub = true) : exI [109] [102] (linkP [[c]]) 0 = some 0 ∧ exI [109] [103] (linkP [[c]]) 0 = none := by
  obtain ⟨m,n,p,pr,sg,sl,cd,cs⟩ := c
  simp only at h1 h2 h3
  subst h1 h2 h3
  exact ⟨rfl,rfl⟩
theorem one_run (hc : curr (formE [⟨[109],T,o⟩]) ⟨[109],T,o⟩ = false) (hp : parsed T = (⟨[],[funV q2 q4 e]⟩,ps)) (hf : ps.failed = false) (h : TrP [⟨[107],k⟩] 1 v 9 e) (hl : T.length ≤ 600) :
    RunIs (buildS (oneS T o cl im)).2 [109] [102] [k] 1 (v,0) ∧ RunIs (buildS (oneS T o cl im)).2 [109] [102] [k] 0 (0,11) ∧ RunIs (buildS (oneS T o cl im)).2 [109] [102] [] 1 (0,7) ∧ RunIs (buildS (oneS T o cl im)).2 [109] [103] [k] 1 (0,3) := by
  obtain ⟨c,e1,c1,c2,c3,c4⟩ := one_funs hc hp hf h
  have hx := one_exI c1 c2 c3
  have hg := one_good hc hp hf h hl
  have hi := one_img (cl := cl) (im := im) hc hp hf h
  have hpf : ((oneB T o).map (pfsM (plN (plc ((oneB T o).map funsOf).flatten)) (formE [⟨[109],T,o⟩]))).flatten[0]? = some ⟨[[107]],e,fun n => (plN (plc ((oneB T o).map funsOf).flatten)) (symV [109] ⟨[],[funV q2 q4 e]⟩ (imsE (formE [⟨[109],T,o⟩]) ⟨[],[funV q2 q4 e]⟩) n)⟩ := by
    have hnm := buildM_name (formE [⟨[109],T,o⟩]) ⟨[109],T,o⟩
    have : pfsM (plN (plc ((oneB T o).map funsOf).flatten)) (formE [⟨[109],T,o⟩]) (buildM (formE [⟨[109],T,o⟩]) ⟨[109],T,o⟩) = [⟨[[107]],e,fun n => (plN (plc ((oneB T o).map funsOf).flatten)) (symV [109] ⟨[],[funV q2 q4 e]⟩ (imsE (formE [⟨[109],T,o⟩]) ⟨[],[funV q2 q4 e]⟩) n)⟩] := by
      unfold pfsM
      rw [hnm.2,one_form hp hf,hnm.1]
      rfl
    show ([pfsM _ _ (buildM _ _)]).flatten[0]? = _
    rw [this]
    rfl
  have hruns : ∀ fuel : Nat,fuel ≤ 1 → Runs ((linkP ((oneB T o).map funsOf)).map fnOf) 0 [k] fuel (if fuel = 0 then (0,11) else (v,0)) := fun fuel hfu => by
    refine runs_of hg hpf [k] rfl 9 fuel _ ?_ (by split <;> simp)
    rw [runV_ofV hpf [k] fuel (x := v) (f := fuel - 1) (e := 0) (fun _ => h.val _ 9 99 _ (fuel - 1) (by omega))]
    simp
  have hl0 : (linkP ((oneB T o).map funsOf))[0]? = some (bndF (plc [c]) c) := by rw [e1]; rfl
  have hp0 : (bndF (plc [c]) c).params = [1] := c4
  unfold RunIs
  rw [hi]
  simp only
  rw [show exI [109] [102] (linkP ((oneB T o).map funsOf)) 0 = some 0 by rw [e1]; exact hx.1,show exI [109] [103] (linkP ((oneB T o).map funsOf)) 0 = none by rw [e1]; exact hx.2]
  simp only
  refine ⟨⟨_,hl0,?_⟩,⟨_,hl0,?_⟩,⟨_,hl0,?_⟩,trivial⟩
  · rw [hp0,if_neg (by simp),if_neg (by unfold withinB fitB; simp)]
    exact hruns 1 (by omega)
  · rw [hp0,if_neg (by simp),if_neg (by unfold withinB fitB; simp)]
    exact hruns 0 (by omega)
  · simp [hp0]
end
end Go.Proofs.YtpmmjkiclngpmaaGreatDoor
namespace Go.Proofs.YtpmmjkiclngpmaaGreatDoor
open Go.RowKit
theorem ints1V (w : World) (a : Int) : (w.alloc (.cells #[.int .i64 a] 3)).ownsRow 0 3 1 (.slice (some ⟨w.heap.size,0,none⟩) 1 1) [a].length (intCs [a]) :=
  ⟨rfl,Or.inr ⟨w.heap.size,1,#[.int .i64 a],rfl,Nat.zero_le _,block_new _ _,Nat.le_refl 1,by decide,rfl,rfl⟩⟩
theorem Begun.allocV {w w1 : World} {p : SP} {s : Sto} (h : Begun w p s w1) (o : Obj) : Begun w p s (w1.alloc o) := h.below ((Below.refl _ _).alloc (Nat.le_refl _) _)
theorem set_one (T0 T : List UInt8) (o : Option Ob) (cl : List Nm) (im : Option (List CF)) (h : T.length ≤ 600) : setS (oneS T0 o cl im) [109] T = (0,oneS T o cl im) := by
  have : isNameT [109] = true := by kernel_rfl
  unfold setS
  rw [if_neg (by rw [this]; simp),if_neg (by simp [names]; omega)]
  rfl
theorem built_one {T : List UInt8} {o : Option Ob} {cl : List Nm} {im : Option (List CF)} : (buildS (oneS T o cl im)).2 = oneS T (buildM (formE [⟨[109],T,o⟩]) ⟨[109],T,o⟩).obj (compL (formE [⟨[109],T,o⟩]) [⟨[109],T,o⟩]) (buildS (oneS T o cl im)).2.img := by
  have hn := buildM_name (formE [⟨[109],T,o⟩]) ⟨[109],T,o⟩
  have : buildM (formE [⟨[109],T,o⟩]) ⟨[109],T,o⟩ = ⟨[109],T,(buildM (formE [⟨[109],T,o⟩]) ⟨[109],T,o⟩).obj⟩ := by
    generalize buildM (formE [⟨[109],T,o⟩]) ⟨[109],T,o⟩ = x at *
    obtain ⟨a,b,c⟩ := x
    simp only at hn
    rw [hn.1,hn.2]
  show (⟨[buildM (formE [⟨[109],T,o⟩]) ⟨[109],T,o⟩],_,_⟩ : Sto) = ⟨[⟨[109],T,_⟩],_,_⟩
  rw [← this]
  rfl
def Stale (o : Option Ob) (T : List UInt8) : Prop := ∀ ob,o = some ob → ob.text ≠ T
theorem Stale.curr {o : Option Ob} {T : List UInt8} (h : Stale o T) (E : Nm → Option Mod) : curr E ⟨[109],T,o⟩ = false := by
  unfold Go.Proofs.YtpmmjkiclngpmaaGreatDoor.curr
  cases o with
  | none => rfl
  | some ob =>
    have : (ob.text == T) = false := by simpa using h ob rfl
    simp [this]
theorem built_stale {T T' : List UInt8} {o : Option Ob} (h : Stale o T) (hne : T ≠ T') : Stale (buildM (formE [⟨[109],T,o⟩]) ⟨[109],T,o⟩).obj T' := by
  intro ob hob
  have hb : buildM (formE [⟨[109],T,o⟩]) ⟨[109],T,o⟩ = { (⟨[109],T,o⟩ : Md) with obj := (compM (formE [⟨[109],T,o⟩]) ⟨[109],T,o⟩).2 } := by unfold buildM; rw [if_neg (by simp [h.curr])]
  rw [hb] at hob
  simp only at hob
  unfold compM at hob
  split at hob
  · cases hob
  · simp only at hob
    split at hob
    · cases hob; exact hne
    · cases hob
theorem small_one {T : List UInt8} {o : Option Ob} {cl : List Nm} {im : Option (List CF)} (h : T.length ≤ 600) : ∀ m ∈ (oneS T o cl im).L,m.name.length ≤ 8 ∧ m.now.length ≤ 600 := by
  intro m hm
  have : m = ⟨[109],T,o⟩ := by simpa using hm
  subst this
  exact ⟨by simp,h⟩
abbrev ImgOk (s : Sto) : Prop := ∀ fs,s.img = some fs → fs.length ≤ 100000 ∧ (∀ f ∈ fs,FT f) ∧ (imText fs).length ≤ 100000000000000
abbrev RunOk (s : Sto) : Prop := ∀ fs,s.img = some fs → ImOk fs
structure ValS (s : List UInt8) (k v : Int) (s1 s2 s3 s4 s5 s6 : Sto) : Prop where
  set1 : setS begS5 [109] (txtA s) = (0,s1)
  m1 : StM s1
  b1 : (buildS s1).1 = []
  b2 : (buildS s1).2 = s2
  m2 : StM s2
  ok2 : RunOk s2
  r1 : RunIs s2 [109] [102] [k] 1 (v,0)
  r2 : RunIs s2 [109] [102] [k] 0 (0,11)
  r3 : RunIs s2 [109] [102] [] 1 (0,7)
  r4 : RunIs s2 [109] [103] [k] 1 (0,3)
  im2 : ImgOk s2
  t2 : imgT s2 ≠ []
  set3 : setS s2 [109] (txtB s) = (0,s3)
  m3 : StM s3
  b3 : (buildS s3).1 = []
  b4 : (buildS s3).2 = s4
  m4 : StM s4
  im4 : ImgOk s4
  t4 : imgT s4 ≠ []
  set5 : setS s4 [109] (txtC s) = (0,s5)
  m5 : StM s5
  b5 : (buildS s5).1.length = 1
  b6 : (buildS s5).2 = s6
  m6 : StM s6
  ok6 : RunOk s6
  im6 : ImgOk s6
  t6 : imgT s6 = []
  r6 : RunIs s6 [109] [102] [k] 1 (0,9)
theorem one_cut {T : List UInt8} {o : Option Ob} {cl : List Nm} {im : Option (List CF)} (hs : Stale o T) (hf : (parsed T).2.failed = true) : (buildS (oneS T o cl im)).1 = [⟨[109],4,(parsed T).2.place⟩] ∧ (buildS (oneS T o cl im)).2.img = none := by
  have h0 : formOf T = none := by unfold formOf; rw [if_pos hf]
  have hd : diagM (formE [⟨[109],T,o⟩]) ⟨[109],T,o⟩ = some ⟨[109],4,(parsed T).2.place⟩ := by
    unfold diagM
    have hc : compM (formE [⟨[109],T,o⟩]) ⟨[109],T,o⟩ = ((4,(parsed T).2.place),none) := by unfold compM; rw [h0]
    rw [if_neg (by simp [hs.curr]),hc]
    rfl
  have h1 : diagsL (formE [⟨[109],T,o⟩]) [⟨[109],T,o⟩] = [⟨[109],4,(parsed T).2.place⟩] := by unfold diagsL; rw [List.filterMap_cons,hd]; rfl
  refine ⟨h1,?_⟩
  show (if diagsL (formE [⟨[109],T,o⟩]) [⟨[109],T,o⟩] = [] then some (linkP ((oneB T o).map funsOf)) else none) = none
  rw [h1,if_neg (by simp)]
theorem val_states {s : List UInt8} {k v : Int} (h : Mades [⟨[107],k⟩] s 1 v 9) (hl : s.length ≤ 500) : ∃ s1 s2 s3 s4 s5 s6,ValS s k v s1 s2 s3 s4 s5 s6 := by
  obtain ⟨W,t,hx,hr,ht⟩ := h
  have hA := parsed_A hx hr (by omega)
  have hB := parsed_B hx hr (by omega)
  have hC := parsed_C hx hr (by omega)
  have lA : (txtA s).length ≤ 600 := by unfold txtA frontA; simp; omega
  have lB : (txtB s).length ≤ 600 := by unfold txtB frontB; simp; omega
  have lC : (txtC s).length ≤ 600 := by unfold txtC frontA; simp; omega
  have st0 : Stale (some ⟨[],[],[]⟩) (txtA s) := fun ob h => by cases h; unfold txtA frontA; simp
  have nAB : txtA s ≠ txtB s := by unfold txtA txtB frontA frontB; simp
  have nBC : txtB s ≠ txtC s := by unfold txtB txtC frontA frontB; simp
  have e1 : setS begS5 [109] (txtA s) = (0,oneS (txtA s) (some ⟨[],[],[]⟩) [[109]] (some [])) := set_one _ _ _ _ _ lA
  have m1 : StM (oneS (txtA s) (some ⟨[],[],[]⟩) [[109]] (some [])) := by have := beg_m5.set [109] (txtA s); rw [e1] at this; exact this
  have b1 := one_diags (cl := [[109]]) (im := some []) (st0.curr _) hA rfl (ht 24)
  have i1 := one_img (cl := [[109]]) (im := some []) (st0.curr _) hA rfl (ht 24)
  have r1 := one_run (cl := [[109]]) (im := some []) (st0.curr _) hA rfl (ht 24) lA
  have m2 := m1.build (small_one lA)
  have st1 := built_stale st0 nAB
  have ok2 := built_imOk (small_one lA) (by simp) m1
  have im2 := built_text (small_one lA) (by simp) m1
  have e2 := built_one (T := txtA s) (o := some ⟨[],[],[]⟩) (cl := [[109]]) (im := some [])
  have t2 : imgT (buildS (oneS (txtA s) (some ⟨[],[],[]⟩) [[109]] (some []))).2 ≠ [] := by unfold imgT; rw [i1]; exact imText_ne _
  generalize hs2 : (buildS (oneS (txtA s) (some ⟨[],[],[]⟩) [[109]] (some []))).2 = s2 at *
  have e3 : setS s2 [109] (txtB s) = (0,oneS (txtB s) (buildM (formE [⟨[109],txtA s,some ⟨[],[],[]⟩⟩]) ⟨[109],txtA s,some ⟨[],[],[]⟩⟩).obj (compL (formE [⟨[109],txtA s,some ⟨[],[],[]⟩⟩]) [⟨[109],txtA s,some ⟨[],[],[]⟩⟩]) s2.img) := by
    conv => lhs; rw [e2]
    exact set_one _ _ _ _ _ lB
  have m3 := m2.set [109] (txtB s)
  rw [e3] at m3
  generalize (buildM (formE [⟨[109],txtA s,some ⟨[],[],[]⟩⟩]) ⟨[109],txtA s,some ⟨[],[],[]⟩⟩).obj = o3 at *
  generalize (compL (formE [⟨[109],txtA s,some ⟨[],[],[]⟩⟩]) [⟨[109],txtA s,some ⟨[],[],[]⟩⟩]) = c3 at *
  have b3 := one_diags (cl := c3) (im := s2.img) (st1.curr _) hB rfl (ht 33)
  have i3 := one_img (cl := c3) (im := s2.img) (st1.curr _) hB rfl (ht 33)
  have m4 := m3.build (small_one lB)
  have st3 := built_stale st1 nBC
  have im4 := built_text (small_one lB) (by simp) m3
  have e4 := built_one (T := txtB s) (o := o3) (cl := c3) (im := s2.img)
  have t4 : imgT (buildS (oneS (txtB s) o3 c3 s2.img)).2 ≠ [] := by unfold imgT; rw [i3]; exact imText_ne _
  generalize hs4 : (buildS (oneS (txtB s) o3 c3 s2.img)).2 = s4 at *
  have e5 : setS s4 [109] (txtC s) = (0,oneS (txtC s) (buildM (formE [⟨[109],txtB s,o3⟩]) ⟨[109],txtB s,o3⟩).obj (compL (formE [⟨[109],txtB s,o3⟩]) [⟨[109],txtB s,o3⟩]) s4.img) := by
    conv => lhs; rw [e4]
    exact set_one _ _ _ _ _ lC
  have m5 := m4.set [109] (txtC s)
  rw [e5] at m5
  generalize (buildM (formE [⟨[109],txtB s,o3⟩]) ⟨[109],txtB s,o3⟩).obj = o5 at *
  generalize (compL (formE [⟨[109],txtB s,o3⟩]) [⟨[109],txtB s,o3⟩]) = c5 at *
  have hcut := one_cut (cl := c5) (im := s4.img) st3 hC.1
  have m6 := m5.build (small_one lC)
  refine ⟨_,s2,_,s4,_,(buildS (oneS (txtC s) o5 c5 s4.img)).2,e1,m1,b1,hs2,m2,ok2,r1.1,r1.2.1,r1.2.2.1,r1.2.2.2,im2,t2,e3,m3,b3,hs4,m4,im4,t4,e5,m5,?_,rfl,m6,?_,?_,?_,?_⟩
  · rw [hcut.1]; rfl
  · intro fs hfs; rw [hcut.2] at hfs; cases hfs
  · intro fs hfs; rw [hcut.2] at hfs; cases hfs
  · unfold imgT; rw [hcut.2]
  · unfold RunIs; rw [hcut.2]
end Go.Proofs.YtpmmjkiclngpmaaGreatDoor
namespace Go.Proofs.YtpmmjkiclngpmaaGreatDoor
open Go.RowKit
theorem leafK_len {zs : List Int} {vs : List Kn} (h0 : 0 < vs.length) (h : ∀ k ∈ vs,k.name.length ≤ 2) (c : Int) (i : Nat) : (leafK zs c vs i).1.s.length ≤ 1000 := by
  have hb := nextB_bdN zs i vs.length h0
  have hb2 := nextB_bdN zs i 1000 (by omega)
  unfold leafK
  split
  · obtain ⟨q,hq⟩ : ∃ q : Nat,(nextB zs i vs.length).1 = (q : Int) := ⟨(nextB zs i vs.length).1.toNat,by omega⟩
    have hql : q < vs.length := by omega
    simp only [hq,Int.toNat_natCast,lastOf_name]
    rw [show vs.getD q ⟨[],0⟩ = vs[q] by simp [List.getD,hql]]
    have := h _ (List.getElem_mem hql)
    omega
  · exact textB_le _ (by have : ((1000 : Nat) : Int) = 1000 := rfl; rw [this] at hb2; omega)
theorem leaf_any (D : Dp) (d : Nat) (hd : d ≤ 6) (vs : List Kn) (v : Value) (i : Nat) (w : World) (hD : Dc D i w) (hV : Vars D.xb w v vs) (h0 : d = 0 ∨ (nextB D.zs i 9).1 < 2) :
    Calls Tryz.prog 14 #[.pointer (some ⟨D.xb,0,none⟩),.int .i64 d,v] w fun e w' =>
    e = .returned (mkVal (leafK D.zs (nextB D.zs i 9).1 vs (nextB D.zs i 9).2).1) ∧ But D.xb w w' ∧ Dc D (leafK D.zs (nextB D.zs i 9).1 vs (nextB D.zs i 9).2).2 w' ∧ (leafK D.zs (nextB D.zs i 9).1 vs (nextB D.zs i 9).2).1.s.length ≤ 2000 * 5 ^ d := by
  have hp5 : 1 ≤ 5 ^ d := Nat.pow_pos (by omega)
  rcases hc : ((nextB D.zs i 9).1 % 2 == 0) with _ | _
  · refine (number_numeral D d hd vs v i w hD hV h0 hc).mono ?_
    rintro e w' ⟨a,b,c,l⟩
    exact ⟨a,b,c,by omega⟩
  · refine (number_variable D d hd vs v i w hD hV h0 hc).mono ?_
    rintro e w' ⟨a,b,c⟩
    obtain ⟨_,_,_,_,_,_,_,_,hv0,_,hvn⟩ := hV
    have := leafK_len (zs := D.zs) hv0 hvn (nextB D.zs i 9).1 (nextB D.zs i 9).2
    exact ⟨a,b,c,by omega⟩
theorem number_step (D : Dp) (d : Nat) (hd : d ≤ 5) (N : List Kn → Nat → Mk × Nat) (hN : NumC D d N) (T : List Kn → Nat → (List UInt8 × Bool) × Nat) (hT : TruC D d T) : NumC D (d + 1) (stepNum D.zs N T) := by
  intro vs v i w hD hV hvl
  have hb := nextB_bdN D.zs i 9 (by omega)
  have h9 : ((9 : Nat) : Int) = 9 := rfl
  rw [h9] at hb
  by_cases hc : (nextB D.zs i 9).1 < 2
  · have e : stepNum D.zs N T vs i = leafK D.zs (nextB D.zs i 9).1 vs (nextB D.zs i 9).2 := by simp [stepNum,hc]
    rw [e]
    exact leaf_any D (d + 1) (by omega) vs v i w hD hV (Or.inr hc)
  have hcs : (nextB D.zs i 9).1 = 2 ∨ (nextB D.zs i 9).1 = 3 ∨ (nextB D.zs i 9).1 = 4 ∨ (nextB D.zs i 9).1 = 5 ∨ (nextB D.zs i 9).1 = 6 ∨ (nextB D.zs i 9).1 = 7 ∨ (nextB D.zs i 9).1 = 8 := by omega
  rw [show ((d + 1 : Nat) : Int) = (d : Int) + 1 by omega]
  rcases hcs with h | h | h | h | h | h | h
  · exact number_add D d hd N hN T hT vs v i w hD hV hvl h
  · exact number_sub D d hd N hN T hT vs v i w hD hV hvl h
  · exact number_mul D d hd N hN T hT vs v i w hD hV hvl h
  · exact number_div D d hd N hN T hT vs v i w hD hV hvl h
  · exact number_neg D d hd N hN T hT vs v i w hD hV hvl h
  · exact number_let D d hd N hN T hT vs v i w hD hV hvl h
  · exact number_if D d hd N hN T hT vs v i w hD hV hvl h
theorem number_all (D : Dp) : ∀ d,d ≤ 6 → NumC D d (makes D.zs d).1 ∧ TruC D d (makes D.zs d).2 := by
  intro d
  induction d with
  | zero =>
    intro _
    refine ⟨fun vs v i w hD hV hvl => leaf_any D 0 (by omega) vs v i w hD hV (Or.inl rfl),fun vs v i w hD hV hvl => ?_⟩
    refine (truth_leaf D 0 vs v i w hD (Or.inl rfl) (by omega)).mono ?_
    rintro e w' ⟨a,b,c⟩
    refine ⟨a,b,c,?_⟩
    have := leafT_len D.zs (nextB D.zs i 5).2
    show (leafT D.zs (nextB D.zs i 5).2).1.1.length ≤ 2000 * 5 ^ 0
    omega
  | succ d ih =>
    intro hd
    obtain ⟨a,b⟩ := ih (by omega)
    exact ⟨number_step D d (by omega) _ a _ b,truth_step D d (by omega) _ a _ b⟩
end Go.Proofs.YtpmmjkiclngpmaaGreatDoor
namespace Go.Proofs.YtpmmjkiclngpmaaGreatDoor
open Go.RowKit
structure Vq (w : World) (p : SP) (mb : Nat) (ms : List UInt8) (mv : Int) (s : Sto) (wx : World) : Prop where
  bg : Begun w p s wx
  blk : wx.heap[mb]? = some (.cells #[.string ⟨ms.toArray⟩,.int .i64 mv] 32 (0,0))
  out : ¬ p.own mb
theorem Vq.step {w : World} {p : SP} {mb : Nat} {ms : List UInt8} {mv : Int} {s s' : Sto} {wx wy : World} (h : Vq w p mb ms mv s wx) (hb : ButS p.own wx wy) (hs : StAt wy p s') (hm : StM s') : Vq w p mb ms mv s' wy :=
  ⟨h.bg.step hb hs hm,(hb.block mb (lt_of_some h.blk) h.out).trans h.blk,h.out⟩
theorem Vq.below {w : World} {p : SP} {mb : Nat} {ms : List UInt8} {mv : Int} {s : Sto} {wx wy : World} (h : Vq w p mb ms mv s wx) (hb : Below wx.heap.size wx wy) : Vq w p mb ms mv s wy :=
  ⟨h.bg.below hb,(hb.block mb (lt_of_some h.blk)).trans h.blk,h.out⟩
theorem Vq.alloc {w : World} {p : SP} {mb : Nat} {ms : List UInt8} {mv : Int} {s : Sto} {wx : World} (h : Vq w p mb ms mv s wx) (o : Obj) : Vq w p mb ms mv s (wx.alloc o) := h.below ((Below.refl _ _).alloc (Nat.le_refl _) o)
theorem Vq.cells {w : World} {p : SP} {mb : Nat} {ms : List UInt8} {mv : Int} {s : Sto} {wx : World} (h : Vq w p mb ms mv s wx) : wx.cell? ⟨mb,0,none⟩ = some (.string ⟨ms.toArray⟩) ∧ wx.cell? ⟨mb,1,none⟩ = some (.int .i64 mv) ∧ mb < wx.heap.size := by
  have a := cell_block h.blk 0
  have b := cell_block h.blk 1
  exact ⟨a,b,lt_of_some h.blk⟩
theorem Vq.run {w : World} {p : SP} {mb : Nat} {ms : List UInt8} {mv : Int} {s : Sto} {wx : World} (h : Vq w p mb ms mv s wx) (hok : RunOk s) (m n : Nm) (av : Value) (l : List Int) (ha : wx.ownsRow 0 3 1 av l.length (intCs l)) (hll : l.length ≤ 100000) (fuel : Int) {R : Int × Nat} (hR : RunIs s m n l fuel R) :
    Calls Tryz.prog 19 #[.pointer (some ⟨p.sb,0,none⟩),.string ⟨m.toArray⟩,.string ⟨n.toArray⟩,av,.int .i64 fuel] wx fun e w' => e = .returned (.tuple #[.int .i64 R.1,.int .i64 (R.2 : Int)]) ∧ Vq w p mb ms mv s w' :=
  (run_any h.bg.st hok m n av l ha hll fuel R hR).mono fun e w' ⟨h1,h2⟩ => ⟨h1,h.below h2⟩
theorem Vq.image {w : World} {p : SP} {mb : Nat} {ms : List UInt8} {mv : Int} {s : Sto} {wx : World} (h : Vq w p mb ms mv s wx) (hok : ImgOk s) (ht : Tab w) (hw : 0 < w.heap.size) :
    Calls Tryz.prog 20 #[.pointer (some ⟨p.sb,0,none⟩)] wx fun e w' => e = .returned (.string ⟨(imgT s).toArray⟩) ∧ Vq w p mb ms mv s w' :=
  (image_any h.bg.st hok (ht.below h.bg.bel hw)).mono fun e w' ⟨h1,h2⟩ => ⟨h1,h.below h2⟩
theorem Vq.set {w : World} {p : SP} {mb : Nat} {ms : List UInt8} {mv : Int} {s s' : Sto} {wx : World} (h : Vq w p mb ms mv s wx) (t : List UInt8) (ht : t.length ≤ 600) (hs : setS s [109] t = (0,s')) (hm : StM s') :
    Calls Tryz.prog 15 #[.pointer (some ⟨p.sb,0,none⟩),.string ⟨#[109]⟩,.string ⟨t.toArray⟩] wx fun e w' => e = .returned (.bool true) ∧ Vq w p mb ms mv s' w' := by
  refine (lset_any h.bg.st [109] (by simp) t (by omega)).mono ?_
  rw [hs]
  rintro e w' ⟨rfl,a,b⟩
  exact ⟨rfl,h.step a b hm⟩
theorem Vq.clean {w : World} {p : SP} {mb : Nat} {ms : List UInt8} {mv : Int} {s s' : Sto} {wx : World} (h : Vq w p mb ms mv s wx) (h1 : (buildS s).1 = []) (h2 : (buildS s).2 = s') (hm : StM s') :
    Calls Tryz.prog 16 #[.pointer (some ⟨p.sb,0,none⟩)] wx fun e w' => e = .returned (.bool true) ∧ Vq w p mb ms mv s' w' := by
  refine (lclean_any h.bg.st h.bg.ex h.bg.made).mono ?_
  rw [h1,h2]
  rintro e w' ⟨rfl,a,b⟩
  exact ⟨rfl,h.step a b hm⟩
theorem Vq.build {w : World} {p : SP} {mb : Nat} {ms : List UInt8} {mv : Int} {s s' : Sto} {wx : World} (h : Vq w p mb ms mv s wx) (h1 : (buildS s).1.length = 1) (h2 : (buildS s).2 = s') (hm : StM s') :
    Calls Tryz.prog 21 #[.pointer (some ⟨p.sb,0,none⟩)] wx fun e w' => (∃ a c,e = .returned (.slice a 1 c)) ∧ Vq w p mb ms mv s' w' := by
  refine (build_any h.bg.st h.bg.ex h.bg.made).mono ?_
  rintro e w' ⟨dv,rfl,a,b,c⟩
  rw [h2] at b
  obtain ⟨o,cp,e⟩ := owns_shape' c
  rw [h1] at e
  exact ⟨⟨o,cp,by rw [e]⟩,h.step a b hm⟩
theorem vars_one {xb : Nat} (w : World) (h : w.heap.size ≠ xb) (k : Int) : Vars xb (w.alloc (.cells #[.string ⟨#[107]⟩,.int .i64 k] 35)) (.slice (some ⟨w.heap.size,0,none⟩) 1 1) [⟨[107],k⟩] :=
  ⟨w.heap.size,1,#[.string ⟨#[107]⟩,.int .i64 k],rfl,h,block_new _ _,by simp,rfl,by simp,by simp,by simp⟩
theorem vars_two (w : World) (o : Obj) (k : Int) : Vars w.heap.size ((w.alloc o).alloc (.cells #[.string ⟨#[107]⟩,.int .i64 k] 35)) (.slice (some ⟨w.heap.size + 1,0,none⟩) 1 1) [⟨[107],k⟩] := by
  have := vars_one (xb := w.heap.size) (w.alloc o) (by simp) k
  rw [show (w.alloc o).heap.size = w.heap.size + 1 by simp] at this
  exact this
theorem cat2 (a b : List UInt8) : (ByteArray.mk a.toArray ++ ByteArray.mk b.toArray) = ByteArray.mk (a ++ b).toArray := app_lists a b
theorem cat3 (a b c : List UInt8) : ((ByteArray.mk a.toArray ++ ByteArray.mk b.toArray) ++ ByteArray.mk c.toArray) = ByteArray.mk (a ++ b ++ c).toArray := by rw [app_lists,app_lists]
theorem Vq.setA {w : World} {p : SP} {mb : Nat} {ms : List UInt8} {mv : Int} {s s' : Sto} {wx : World} (h : Vq w p mb ms mv s wx) (hl : ms.length ≤ 500) (hs : setS s [109] (txtA ms) = (0,s')) (hm : StM s') :
    Calls Tryz.prog 15 #[.pointer (some ⟨p.sb,0,none⟩),.string ⟨#[109]⟩,.string ((⟨#[112,117,98,32,102,110,32,102,40,107,58,32,105,110,116,41,58,32,105,110,116,32,61,32]⟩ ++ ⟨ms.toArray⟩) ++ ⟨#[59]⟩)] wx fun e w' => e = .returned (.bool true) ∧ Vq w p mb ms mv s' w' := by
  have := h.set (txtA ms) (by unfold txtA frontA; simp; omega) hs hm
  rw [show (⟨(txtA ms).toArray⟩ : ByteArray) = (⟨#[112,117,98,32,102,110,32,102,40,107,58,32,105,110,116,41,58,32,105,110,116,32,61,32]⟩ ++ ⟨ms.toArray⟩) ++ ⟨#[59]⟩ from (cat3 frontA ms [59]).symm] at this
  exact this
theorem Vq.setB {w : World} {p : SP} {mb : Nat} {ms : List UInt8} {mv : Int} {s s' : Sto} {wx : World} (h : Vq w p mb ms mv s wx) (hl : ms.length ≤ 500) (hs : setS s [109] (txtB ms) = (0,s')) (hm : StM s') :
    Calls Tryz.prog 15 #[.pointer (some ⟨p.sb,0,none⟩),.string ⟨#[109]⟩,.string ((⟨#[10,10,32,112,117,98,32,32,32,102,110,32,102,32,40,32,107,10,58,32,105,110,116,32,41,32,58,32,105,110,116,61,32]⟩ ++ ⟨ms.toArray⟩) ++ ⟨#[32,59,10]⟩)] wx fun e w' => e = .returned (.bool true) ∧ Vq w p mb ms mv s' w' := by
  have := h.set (txtB ms) (by unfold txtB frontB; simp; omega) hs hm
  rw [show (⟨(txtB ms).toArray⟩ : ByteArray) = (⟨#[10,10,32,112,117,98,32,32,32,102,110,32,102,32,40,32,107,10,58,32,105,110,116,32,41,32,58,32,105,110,116,61,32]⟩ ++ ⟨ms.toArray⟩) ++ ⟨#[32,59,10]⟩ from (cat3 frontB ms [32,59,10]).symm] at this
  exact this
theorem Vq.setC {w : World} {p : SP} {mb : Nat} {ms : List UInt8} {mv : Int} {s s' : Sto} {wx : World} (h : Vq w p mb ms mv s wx) (hl : ms.length ≤ 500) (hs : setS s [109] (txtC ms) = (0,s')) (hm : StM s') :
    Calls Tryz.prog 15 #[.pointer (some ⟨p.sb,0,none⟩),.string ⟨#[109]⟩,.string (⟨#[112,117,98,32,102,110,32,102,40,107,58,32,105,110,116,41,58,32,105,110,116,32,61,32]⟩ ++ ⟨ms.toArray⟩)] wx fun e w' => e = .returned (.bool true) ∧ Vq w p mb ms mv s' w' := by
  have := h.set (txtC ms) (by unfold txtC frontA; simp; omega) hs hm
  rw [show (⟨(txtC ms).toArray⟩ : ByteArray) = ⟨#[112,117,98,32,102,110,32,102,40,107,58,32,105,110,116,41,58,32,105,110,116,32,61,32]⟩ ++ ⟨ms.toArray⟩ from (cat2 frontA ms).symm] at this
  exact this
theorem ints0 (w : World) : w.ownsRow 0 3 1 (.slice none 0 0) ([] : List Int).length (intCs []) := World.ownsRow_nil _ _ _ _
theorem k_in : ([107] : List UInt8) ∈ vNames := by decide
theorem vsOk_one {k : Int} (h : I64 k) : VsOk [⟨[107],k⟩] := by
  refine ⟨fun x hx => ?_,fun x hx => ?_⟩
  · have : x = ⟨[107],k⟩ := by simpa using hx
    subst this
    exact k_in
  · have : x = ⟨[107],k⟩ := by simpa using hx
    subst this
    exact h
theorem made_k (k : Int) : Mades [⟨[107],k⟩] [107] 1 k 9 := by
  have := Mades.var [⟨[107],k⟩] ⟨[107],k⟩ (by simp) k_in
  exact Mades.mono this (by omega)
theorem number_got (D : Dp) (d : Nat) (hd : d ≤ 4) {k : Int} (hk : I64 k) (w : World) (hD : Dc D 0 w) (v : Value) (hV : Vars D.xb w v [⟨[107],k⟩]) : ∃ R : Mk,Mades [⟨[107],k⟩] R.s 1 R.v (2 * d + 1) ∧ I64 R.v ∧
    Calls Tryz.prog 14 #[.pointer (some ⟨D.xb,0,none⟩),.int .i64 (d : Int),v] w fun e w' => e = .returned (mkVal R) ∧ But D.xb w w' ∧ R.s.length ≤ 2000000 := by
  have h1 := makes_ok D.zs d [⟨[107],k⟩] 0 (vsOk_one hk)
  have h2 := (number_all D d (by omega)).1 [⟨[107],k⟩] v 0 w hD hV (by simp; omega)
  refine ⟨_,h1.1.1,h1.1.2,h2.mono ?_⟩
  rintro e w' ⟨a,b,_,l⟩
  refine ⟨a,b,?_⟩
  have : 5 ^ d ≤ 5 ^ 4 := Nat.pow_le_pow_right (by omega) hd
  omega
end Go.Proofs.YtpmmjkiclngpmaaGreatDoor
namespace Go.Proofs.YtpmmjkiclngpmaaGreatDoor
open Go.RowKit
theorem valued_any (w : World) (ao : Option Addr) (b off cap : Nat) (zs : List Int) (hc : ∀ j,(h : j < zs.length) → w.cell? ⟨b,off + j,none⟩ = some (.int .i64 zs[j])) (ha : ao = some ⟨b,off,none⟩ ∨ zs = []) (hbw : b < w.heap.size)
    (hwf : ∀ z ∈ zs,-9223372036854775808 ≤ z ∧ z ≤ 9223372036854775807) (hlen : zs.length ≤ 140737488355328) (k : Int) (hk : I64 k) (hT : Tab w) (hw0 : 0 < w.heap.size) :
    Calls Tryz.prog 8 #[.slice ao zs.length cap,.int .i64 k] w fun e w' => e = .returned (.bool true) ∧ Below w.heap.size w w' := by
  have HBg := hide (began_any w)
  have HC := hide hc
  have HA := hide ha
  have HWf := hide hwf
  have HTb := hide hT
  have HK := hide hk
  clear hc ha hwf hT hk
  go_enter Tryz.func8,Tryz.ntmps8
  go_wp2_with fail
  refine HBg.out.mono ?_
  rintro e w1 ⟨p,rfl,hg⟩
  have HG := hide hg
  have hs1 := hg.bel.size
  clear hg
  have HD := hide (show Dc ⟨w1.heap.size,ao,b,off,cap,zs⟩ 0 (w1.alloc (.cells #[.slice ao zs.length cap,.int .i64 0] 30)) from
    ⟨block_new _ _,fun j hj => (below_cell (HG.out.bel.trans (((Below.refl _ w1).alloc (Nat.le_refl _) _).mono hs1)) hbw (off + j)).trans (HC.out j hj),HA.out,by show b ≠ w1.heap.size; omega,by show b < w1.heap.size; omega,HWf.out,Nat.zero_le _,hlen⟩)
  obtain ⟨R,hM,hRv,hN⟩ := number_got ⟨w1.heap.size,ao,b,off,cap,zs⟩ 4 (by omega) HK.out _ (HD.out.alloc (.cells #[.string ⟨#[107]⟩,.int .i64 k] 35)) _ (vars_two w1 (.cells #[.slice ao zs.length cap,.int .i64 0] 30) k)
  have HM := hide hM
  have HRv := hide hRv
  have HNum := hide hN
  clear hM hRv hN HD
  go_wp2_with fail
  refine HNum.out.mono ?_
  rintro e w2 ⟨rfl,hb2,hl2⟩
  have hb : Below w1.heap.size w1 w2 := by
    have a : Below w1.heap.size w1 ((w1.alloc (.cells #[.slice ao zs.length cap,.int .i64 0] 30)).alloc (.cells #[.string ⟨#[107]⟩,.int .i64 k] 35)) := ((Below.refl _ w1).alloc (Nat.le_refl _) _).alloc (by simp) _
    exact ⟨hb2.os.trans a.os,hb2.tape.trans a.tape,hb2.output.trans a.output,Nat.le_trans a.size hb2.size,fun i hi => (hb2.block i (by have := a.size; omega) (by show i ≠ w1.heap.size; omega)).trans (a.block i hi)⟩
  have HG2 := hide (HG.out.below hb)
  have hs2 := hb.size
  have HOut := hide (show ∀ x,p.own x → x < w1.heap.size from fun x hx => HG.out.st.lt hx)
  clear hb hb2
  clear HNum HG HC HA HWf HBg
  unfold mkVal
  rcases hbig : decide (500 < R.s.length) with _ | _
  · have hle : ¬ 500 < R.s.length := by simpa using hbig
    have HL := hide (show R.s.length ≤ 500 by omega)
    obtain ⟨s1,s2,s3,s4,s5,s6,hS⟩ := val_states HM.out HL.out
    have HS := hide hS
    have HV0 := hide (show Vq w p w2.heap.size R.s R.v begS5 (w2.alloc (.cells #[.string ⟨R.s.toArray⟩,.int .i64 R.v] 32)) from
      ⟨HG2.out.allocV _,block_new _ _,fun h => by have := HOut.out _ h; omega⟩)
    clear hS HG2 HOut HM
    go_wp2_with fail
    refine (HV0.out.setA HL.out HS.out.set1 HS.out.m1).mono ?_
    rintro e wA ⟨rfl,hv⟩
    have HVA := hide hv
    clear hv
    go_wp2_with fail
    refine (HVA.out.clean HS.out.b1 HS.out.b2 HS.out.m2).mono ?_
    rintro e wB ⟨rfl,hv⟩
    have HVB := hide hv
    clear hv
    go_wp2_with fail
    refine ((HVB.out.alloc _).run HS.out.ok2 [109] [102] _ [k] (ints1V _ _) (by simp) 1 HS.out.r1).mono ?_
    rintro e wC ⟨rfl,hv⟩
    have HVC := hide hv
    clear hv
    go_wp2_with fail
    refine ((HVC.out.alloc _).run HS.out.ok2 [109] [102] _ [k] (ints1V _ _) (by simp) 0 HS.out.r2).mono ?_
    rintro e wD ⟨rfl,hv⟩
    have HVD := hide hv
    clear hv
    go_wp2_with fail
    refine (HVD.out.run HS.out.ok2 [109] [102] (.slice none 0 0) [] (ints0 _) (by simp) 1 HS.out.r3).mono ?_
    rintro e wE ⟨rfl,hv⟩
    have HVE := hide hv
    clear hv
    go_wp2_with fail
    refine ((HVE.out.alloc _).run HS.out.ok2 [109] [103] _ [k] (ints1V _ _) (by simp) 1 HS.out.r4).mono ?_
    rintro e wF ⟨rfl,hv⟩
    have HVF := hide hv
    clear hv
    go_wp2_with fail
    refine (HVF.out.image HS.out.im2 HTb.out hw0).mono ?_
    rintro e wG ⟨rfl,hv⟩
    have HVG := hide hv
    clear hv
    have t2 := HS.out.t2
    generalize imgT s2 = tA at *
    have ⟨m0,m1,ml⟩ := HVG.out.cells
    go_wp2_with fail
    refine (HVG.out.setB HL.out HS.out.set3 HS.out.m3).mono ?_
    rintro e wH ⟨rfl,hv⟩
    have HVH := hide hv
    clear hv
    clear m0 m1 ml
    go_wp2_with fail
    refine (HVH.out.clean HS.out.b3 HS.out.b4 HS.out.m4).mono ?_
    rintro e wI ⟨rfl,hv⟩
    have HVI := hide hv
    clear hv
    go_wp2_with fail
    refine (HVI.out.image HS.out.im4 HTb.out hw0).mono ?_
    rintro e wJ ⟨rfl,hv⟩
    have HVJ := hide hv
    clear hv
    have t4 := HS.out.t4
    generalize imgT s4 = tB at *
    have ⟨m0,m1,ml⟩ := HVJ.out.cells
    go_wp2_with fail
    refine (HVJ.out.setC HL.out HS.out.set5 HS.out.m5).mono ?_
    rintro e wK ⟨rfl,hv⟩
    have HVK := hide hv
    clear hv
    clear m0 m1 ml
    go_wp2_with fail
    refine (HVK.out.build HS.out.b5 HS.out.b6 HS.out.m6).mono ?_
    rintro e wL ⟨⟨da,dc,rfl⟩,hv⟩
    have HVL := hide hv
    clear hv
    go_wp2_with fail
    refine (HVL.out.image HS.out.im6 HTb.out hw0).mono ?_
    rintro e wM ⟨rfl,hv⟩
    have HVM := hide hv
    clear hv
    rw [HS.out.t6]
    go_wp2_with fail
    refine ((HVM.out.alloc _).run HS.out.ok6 [109] [102] _ [k] (ints1V _ _) (by simp) 1 HS.out.r6).mono ?_
    rintro e wN ⟨rfl,hv⟩
    have HVN := hide hv
    clear hv
    have ⟨m0,m1,ml⟩ := HVN.out.cells
    go_wp2
    go_ret
    exact ⟨ret_bool (show (!tA.isEmpty && !tB.isEmpty) = true by simp [t2,t4]),HVN.out.bg.bel⟩
  · have hgt : 500 < R.s.length := by simpa using hbig
    have HL := hide (show ([107] : List UInt8).length ≤ 500 by decide)
    obtain ⟨s1,s2,s3,s4,s5,s6,hS⟩ := val_states (made_k k) HL.out
    have HS := hide hS
    have HV0 := hide (show Vq w p w2.heap.size [107] k begS5 (w2.alloc (.cells #[.string ⟨#[107]⟩,.int .i64 k] 32)) from
      ⟨HG2.out.allocV _,block_new _ _,fun h => by have := HOut.out _ h; omega⟩)
    clear hS HG2 HOut HM
    go_wp2_with fail
    refine (HV0.out.setA HL.out HS.out.set1 HS.out.m1).mono ?_
    rintro e wA ⟨rfl,hv⟩
    have HVA := hide hv
    clear hv
    go_wp2_with fail
    refine (HVA.out.clean HS.out.b1 HS.out.b2 HS.out.m2).mono ?_
    rintro e wB ⟨rfl,hv⟩
    have HVB := hide hv
    clear hv
    go_wp2_with fail
    refine ((HVB.out.alloc _).run HS.out.ok2 [109] [102] _ [k] (ints1V _ _) (by simp) 1 HS.out.r1).mono ?_
    rintro e wC ⟨rfl,hv⟩
    have HVC := hide hv
    clear hv
    go_wp2_with fail
    refine ((HVC.out.alloc _).run HS.out.ok2 [109] [102] _ [k] (ints1V _ _) (by simp) 0 HS.out.r2).mono ?_
    rintro e wD ⟨rfl,hv⟩
    have HVD := hide hv
    clear hv
    go_wp2_with fail
    refine (HVD.out.run HS.out.ok2 [109] [102] (.slice none 0 0) [] (ints0 _) (by simp) 1 HS.out.r3).mono ?_
    rintro e wE ⟨rfl,hv⟩
    have HVE := hide hv
    clear hv
    go_wp2_with fail
    refine ((HVE.out.alloc _).run HS.out.ok2 [109] [103] _ [k] (ints1V _ _) (by simp) 1 HS.out.r4).mono ?_
    rintro e wF ⟨rfl,hv⟩
    have HVF := hide hv
    clear hv
    go_wp2_with fail
    refine (HVF.out.image HS.out.im2 HTb.out hw0).mono ?_
    rintro e wG ⟨rfl,hv⟩
    have HVG := hide hv
    clear hv
    have t2 := HS.out.t2
    generalize imgT s2 = tA at *
    have ⟨m0,m1,ml⟩ := HVG.out.cells
    go_wp2_with fail
    refine (HVG.out.setB HL.out HS.out.set3 HS.out.m3).mono ?_
    rintro e wH ⟨rfl,hv⟩
    have HVH := hide hv
    clear hv
    clear m0 m1 ml
    go_wp2_with fail
    refine (HVH.out.clean HS.out.b3 HS.out.b4 HS.out.m4).mono ?_
    rintro e wI ⟨rfl,hv⟩
    have HVI := hide hv
    clear hv
    go_wp2_with fail
    refine (HVI.out.image HS.out.im4 HTb.out hw0).mono ?_
    rintro e wJ ⟨rfl,hv⟩
    have HVJ := hide hv
    clear hv
    have t4 := HS.out.t4
    generalize imgT s4 = tB at *
    have ⟨m0,m1,ml⟩ := HVJ.out.cells
    go_wp2_with fail
    refine (HVJ.out.setC HL.out HS.out.set5 HS.out.m5).mono ?_
    rintro e wK ⟨rfl,hv⟩
    have HVK := hide hv
    clear hv
    clear m0 m1 ml
    go_wp2_with fail
    refine (HVK.out.build HS.out.b5 HS.out.b6 HS.out.m6).mono ?_
    rintro e wL ⟨⟨da,dc,rfl⟩,hv⟩
    have HVL := hide hv
    clear hv
    go_wp2_with fail
    refine (HVL.out.image HS.out.im6 HTb.out hw0).mono ?_
    rintro e wM ⟨rfl,hv⟩
    have HVM := hide hv
    clear hv
    rw [HS.out.t6]
    go_wp2_with fail
    refine ((HVM.out.alloc _).run HS.out.ok6 [109] [102] _ [k] (ints1V _ _) (by simp) 1 HS.out.r6).mono ?_
    rintro e wN ⟨rfl,hv⟩
    have HVN := hide hv
    clear hv
    have ⟨m0,m1,ml⟩ := HVN.out.cells
    go_wp2
    go_ret
    exact ⟨ret_bool (show (!tA.isEmpty && !tB.isEmpty) = true by simp [t2,t4]),HVN.out.bg.bel⟩
end Go.Proofs.YtpmmjkiclngpmaaGreatDoor
