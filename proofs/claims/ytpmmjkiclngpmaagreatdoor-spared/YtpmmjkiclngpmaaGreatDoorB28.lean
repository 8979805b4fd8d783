/- YtpmmjkiclngpmaaGreatDoorB28 -/
import Derived.Test.YtpmmjkiclngpmaaGreatDoorB27
import Derived.Test.YtpmmjkiclngpmaaGreatDoorB26
import Derived.Test.YtpmmjkiclngpmaaGreatDoorB05
import Derived.Deep.DeepCutAuto
set_option maxRecDepth 100000
set_option linter.unusedSimpArgs false
set_option linter.unusedVariables false
set_option maxHeartbeats 12800000
namespace Go.Proofs.YtpmmjkiclngpmaaGreatDoor
open Go.RowKit
theorem PrmsAt.mono {w : World} {B B' : Nat} {pv : Value} {ps : List Prm} (h : PrmsAt w B pv ps) (hB : B ≤ B') : PrmsAt w B' pv ps := by
  obtain ⟨po,pc,h1,h2⟩ := h
  exact ⟨po,pc,h1,fun hp => by obtain ⟨gb,a,b,c,d⟩ := h2 hp; exact ⟨gb,a,by omega,c,d⟩⟩
theorem FunAt.mono {m : Nat} {S : Nat → Prop} {B B' : Nat} {w : World} {g o : Nat} {f : Fun} (h : FunAt m S B w g o f) (hB : B ≤ B') : FunAt m S B' w g o f := by
  obtain ⟨pv,bv,b0,b1,b2,b3,b4,b5,b6,b7,b8,b9,hp,hb⟩ := h
  exact ⟨pv,bv,b0,b1,b2,b3,b4,b5,b6,b7,b8,b9,hp.mono hB,hb⟩
theorem ModAt.mono {m : Nat} {S : Nat → Prop} {B B' : Nat} {w : World} {mb : Nat} {md : Mod} (h : ModAt m S B w mb md) (hB : B ≤ B') : ModAt m S B' w mb md := by
  obtain ⟨h1,⟨io,ic,h2,h3⟩,fo,fc,h4,h5⟩ := h
  refine ⟨by omega,⟨io,ic,h2,fun hp => ?_⟩,fo,fc,h4,fun hp => ?_⟩
  · obtain ⟨ib,a,b,c⟩ := h3 hp; exact ⟨ib,a,by omega,c⟩
  · obtain ⟨g,a,b,c,d⟩ := h5 hp; exact ⟨g,a,by omega,c,fun j hj => (d j hj).mono hB⟩
theorem PrmsAt.below {w w' : World} {B : Nat} {pv : Value} {ps : List Prm} (h : PrmsAt w B pv ps) (hw : Below B w w') : PrmsAt w' B pv ps := by
  obtain ⟨po,pc,h1,h2⟩ := h
  exact ⟨po,pc,h1,fun hp => by obtain ⟨gb,a,b,c,d⟩ := h2 hp; exact ⟨gb,a,b,c,fun j hj => by obtain ⟨x,y,z⟩ := d j hj; exact ⟨(below_cell hw b _).trans x,(below_cell hw b _).trans y,(below_cell hw b _).trans z⟩⟩⟩
theorem FunAt.below {m : Nat} {S : Nat → Prop} {B : Nat} {w w' : World} {g o : Nat} {f : Fun} (h : FunAt m S B w g o f) (hS : ∀ k,S k → k < B) (hg : g < B) (hw : Below B w w') : FunAt m S B w' g o f := by
  obtain ⟨pv,bv,b0,b1,b2,b3,b4,b5,b6,b7,b8,b9,hp,hb⟩ := h
  exact ⟨pv,bv,(below_cell hw hg _).trans b0,(below_cell hw hg _).trans b1,(below_cell hw hg _).trans b2,(below_cell hw hg _).trans b3,(below_cell hw hg _).trans b4,(below_cell hw hg _).trans b5,(below_cell hw hg _).trans b6,(below_cell hw hg _).trans b7,(below_cell hw hg _).trans b8,(below_cell hw hg _).trans b9,hp.below hw,hb.keep (fun k h1 _ => ⟨h1,hw.block k (hS k h1)⟩)⟩
theorem ModAt.below {m : Nat} {S : Nat → Prop} {B : Nat} {w w' : World} {mb : Nat} {md : Mod} (h : ModAt m S B w mb md) (hS : ∀ k,S k → k < B) (hw : Below B w w') : ModAt m S B w' mb md := by
  obtain ⟨h1,⟨io,ic,h2,h3⟩,fo,fc,h4,h5⟩ := h
  refine ⟨h1,⟨io,ic,(below_cell hw h1 _).trans h2,fun hp => ?_⟩,fo,fc,(below_cell hw h1 _).trans h4,fun hp => ?_⟩
  · obtain ⟨ib,a,b,c,d⟩ := h3 hp
    exact ⟨ib,a,b,c,fun j hj => ⟨(below_cell hw b _).trans (d j hj).1,(below_cell hw b _).trans (d j hj).2⟩⟩
  · obtain ⟨g,a,b,c,d⟩ := h5 hp
    exact ⟨g,a,b,c,fun j hj => (d j hj).below hS b hw⟩
def mptr (x : Option (Nat × Mod)) : Option Addr := x.map fun y => ⟨y.1,0,none⟩
def MayAt (m : Nat) (S : Nat → Prop) (lo : Nat) (w : World) (x : Option (Nat × Mod)) : Prop := ∀ y,x = some y → ModAt m S lo w y.1 y.2 ∧ y.2.funs.length ≤ 100000 ∧ ∀ f ∈ y.2.funs,f.params.length ≤ 100000
def expG (x : Option Mod) (name : List UInt8) : Option Fun := x.bind fun y => firstG true name y.funs
def expP (w : World) (x : Option (Nat × Mod)) (name : List UInt8) : Option Addr := x.bind fun y => ptrF (rowOf w y.1) (firstF true name 0 (namesOf y.2))
theorem exportedF_any {m : Nat} {S : Nat → Prop} (w : World) (x : Option (Nat × Mod)) (h : MayAt m S w.heap.size w x) (name : List UInt8) :
    Calls Tryz.prog 173 #[.pointer (mptr x),.string ⟨name.toArray⟩] w fun e w' => e = .returned (.pointer (expP w x name)) ∧ w' = w := by
  rcases x with _ | y
  · unfold mptr expP
    simp only [Option.map_none,Option.bind_none]
    go_enter Tryz.func173,Tryz.ntmps173
    go_wp2
    go_ret
    exact ⟨rfl,rfl⟩
  · obtain ⟨h1,h2,h3⟩ := h y rfl
    have HN := hide (h1.names h2)
    unfold mptr expP
    simp only [Option.map_some,Option.bind_some]
    clear h h1 h2 h3
    go_enter Tryz.func173,Tryz.ntmps173
    go_wp2_with fail
    refine (exported_any w y.1 _ _ HN.out name).mono ?_
    rintro e w ⟨rfl,rfl⟩
    go_wp2
    go_ret
    exact ⟨rfl,rfl⟩
theorem exp_at {m : Nat} {S : Nat → Prop} {w : World} {x : Option (Nat × Mod)} (h : MayAt m S w.heap.size w x) (name : List UInt8) :
    (expP w x name = none ∧ expG (x.map Prod.snd) name = none) ∨ ∃ f g o,expP w x name = some ⟨g,o,none⟩ ∧ expG (x.map Prod.snd) name = some f ∧ g < w.heap.size ∧ FunAt m S w.heap.size w g o f ∧ f.params.length ≤ 100000 := by
  rcases x with _ | y
  · exact Or.inl ⟨rfl,rfl⟩
  · obtain ⟨h1,h2,h3⟩ := h y rfl
    rcases firstF_map true name y.2.funs 0 with ⟨a,b⟩ | ⟨j,f,a,b,c⟩
    · exact Or.inl ⟨by simp [expP,namesOf,a,ptrF],by simpa [expG] using b⟩
    · obtain ⟨hj,rfl⟩ := List.getElem?_eq_some_iff.1 c
      obtain ⟨fo,fc,hc,hr⟩ := h1.funs
      obtain ⟨g,rfl,g2,g3,g4⟩ := hr (by omega)
      have e : rowOf w y.1 = g := by simp [rowOf,hc]
      refine Or.inr ⟨_,g,j * 10,by simp [expP,namesOf,a,ptrF,e],by simpa [expG] using b,g2,g4 j hj,h3 _ (List.getElem_mem hj)⟩
def seenT (x : Option Mod) (name : List UInt8) : List UInt8 :=
  if x.isSome = true ∧ name = [] then [105,110,116,101,114,102,97,99,101] else match expG x name with
    | some f => sigText (f.params.map fun p => p.typ) f.result
    | none => []
theorem seen_any {m : Nat} {S : Nat → Prop} (w : World) (x : Option (Nat × Mod)) (h : MayAt m S w.heap.size w x) (name : List UInt8) :
    Calls Tryz.prog 112 #[.pointer (mptr x),.string ⟨name.toArray⟩] w fun e w' => e = .returned (.string ⟨(seenT (x.map Prod.snd) name).toArray⟩) ∧ Below w.heap.size w w' := by
  have HM := hide h
  have hE := exp_at h name
  clear h
  rcases x with _ | y
  · have HV := hide (show seenT (Option.map Prod.snd (none : Option (Nat × Mod))) name = [] by simp [seenT,expG])
    have HP := hide (show expP w none name = none from rfl)
    have HMp := hide (show mptr none = none from rfl)
    rw [HMp.out]
    go_enter Tryz.func112,Tryz.ntmps112
    go_wp2_with fail
    refine (exportedF_any w none HM.out name).mono ?_
    rintro e w ⟨rfl,rfl⟩
    rw [HP.out]
    go_wp2
    go_ret
    exact ⟨ret_str (by rw [HV.out]),Below.refl _ _⟩
  · have HMp := hide (show mptr (some y) = some ⟨y.1,0,none⟩ from rfl)
    rw [HMp.out]
    rcases hn : (name == []) with _ | _
    · have hne : ¬ name = [] := by simpa using hn
      rcases hE with ⟨h1,h2⟩ | ⟨f,g,o,h1,h2,h3,h4,h5⟩
      · have HV := hide (show seenT (Option.map Prod.snd (some y)) name = [] by unfold seenT; rw [if_neg (fun h => hne h.2),h2])
        have HP := hide h1
        clear h1 h2
        go_enter Tryz.func112,Tryz.ntmps112
        go_wp2_with fail
        refine (exportedF_any w (some y) HM.out name).mono ?_
        rintro e w ⟨rfl,rfl⟩
        rw [HP.out]
        go_wp2
        go_ret
        exact ⟨ret_str (by rw [HV.out]),Below.refl _ _⟩
      · have HV := hide (show seenT (Option.map Prod.snd (some y)) name = sigText (f.params.map fun p => p.typ) f.result by unfold seenT; rw [if_neg (fun h => hne h.2),h2])
        have HP := hide h1
        have HF := hide h4
        clear h1 h2 h4
        go_enter Tryz.func112,Tryz.ntmps112
        go_wp2_with fail
        refine (exportedF_any w (some y) HM.out name).mono ?_
        rintro e w ⟨rfl,rfl⟩
        rw [HP.out]
        go_wp2_with fail
        refine (signature_any w g o f HF.out h3 h5).mono ?_
        rintro e w2 ⟨rfl,hb⟩
        have HB := hide hb
        clear hb
        go_wp2
        go_ret
        exact ⟨ret_str (by rw [HV.out]),HB.out⟩
    · have heq : name = [] := by simpa using hn
      have HV := hide (show seenT (Option.map Prod.snd (some y)) name = [105,110,116,101,114,102,97,99,101] by simp [seenT,heq])
      clear hE hn
      subst heq
      go_enter Tryz.func112,Tryz.ntmps112
      go_wp2
      go_ret
      exact ⟨ret_str (by rw [HV.out]),Below.refl _ _⟩
end Go.Proofs.YtpmmjkiclngpmaaGreatDoor
namespace Go.Proofs.YtpmmjkiclngpmaaGreatDoor
open Go.RowKit
structure Trees (m : Nat) (S : Nat → Prop) (lo : Nat) (w : World) (V : VK) (md : Mod) (ims : List (Option (Nat × Mod))) : Prop where
  pts : V.pts = ims.map mptr
  len : ims.length = md.imports.length
  few : ims.length ≤ 1000
  me : ModAt m S lo w V.mb md
  my : md.funs.length ≤ 100000 ∧ ∀ f ∈ md.funs,f.params.length ≤ 100000
  them : ∀ x ∈ ims,MayAt m S lo w x
  hS : ∀ k,S k → k < lo
theorem MayAt.below {m : Nat} {S : Nat → Prop} {B : Nat} {w w' : World} {x : Option (Nat × Mod)} (h : MayAt m S B w x) (hS : ∀ k,S k → k < B) (hw : Below B w w') : MayAt m S B w' x :=
  fun y hy => ⟨(h y hy).1.below hS hw,(h y hy).2⟩
theorem MayAt.mono {m : Nat} {S : Nat → Prop} {B B' : Nat} {w : World} {x : Option (Nat × Mod)} (h : MayAt m S B w x) (hB : B ≤ B') : MayAt m S B' w x :=
  fun y hy => ⟨(h y hy).1.mono hB,(h y hy).2⟩
theorem Trees.below {m : Nat} {S : Nat → Prop} {lo : Nat} {w w' : World} {V : VK} {md : Mod} {ims : List (Option (Nat × Mod))} (h : Trees m S lo w V md ims) (hw : Below lo w w') : Trees m S lo w' V md ims :=
  ⟨h.pts,h.len,h.few,h.me.below h.hS hw,h.my,fun x hx => (h.them x hx).below h.hS hw,h.hS⟩
def useI (name : List UInt8) : List (Imp × Option Mod) → List Us
  | [] => []
  | x :: r => ⟨x.1.name,name,seenT x.2 name⟩ :: (match expG x.2 name with | some _ => [] | none => useI name r)
theorem useI_len (name : List UInt8) (l : List (Imp × Option Mod)) : (useI name l).length ≤ l.length := by
  induction l with
  | nil => exact Nat.le_refl _
  | cons x r ih =>
    unfold useI
    split
    · simp
    · simp; exact ih
def findIP (w : World) (name : List UInt8) : List (Imp × Option (Nat × Mod)) → List UInt8 × Option Addr
  | [] => ([],none)
  | x :: r => match expP w x.2 name with
    | some a => (x.1.name,some a)
    | none => findIP w name r
def sndI (l : List (Imp × Option (Nat × Mod))) : List (Imp × Option Mod) := l.map fun x => (x.1,x.2.map Prod.snd)
theorem use_any {m : Nat} {S : Nat → Prop} {lo : Nat} (w : World) (V : VK) (lk : List Us) (uv : Value) (hv : Vw lo V lk uv w) (hlo : lo ≤ w.heap.size) (md : Mod) (ims : List (Option (Nat × Mod))) (hT : Trees m S lo w V md ims) (i : Nat) (hi : i < ims.length) (hil : i < md.imports.length) (name : List UInt8) :
    Calls Tryz.prog 118 #[.pointer (some ⟨V.b,0,none⟩),.int .i64 i,.string ⟨name.toArray⟩] w fun e w' =>
      e = .returned (.agg #[.string ⟨md.imports[i].name.toArray⟩,.string ⟨name.toArray⟩,.string ⟨(seenT (ims[i].map Prod.snd) name).toArray⟩]) ∧ Below w.heap.size w w' := by
  obtain ⟨jo,jc,n0,hjo⟩ := hT.me.imps
  obtain ⟨jb,rfl,hjb,hjc,hname⟩ := hjo (by omega)
  have d1 := (hname i hil).1
  obtain ⟨io,ic,hiv,hic⟩ := hv.pts
  have hpl : V.pts.length = ims.length := by rw [hT.pts]; simp
  obtain ⟨ib,rfl,hib,hicl,hcell⟩ := hic (by omega)
  have d2 := hcell i (by omega)
  rw [show V.pts[i]'(by omega) = mptr ims[i] by simp [hT.pts]] at d2
  obtain ⟨c0,c1,c2,c3⟩ := hv.field
  rw [hiv,hpl] at c2
  have hvl := hv.lt
  have hml := hT.me.lt
  have hfew := hT.few
  have HM := hide ((hT.them ims[i] (List.getElem_mem hi)).mono hlo)
  have hjl : jb < w.heap.size := by omega
  have hmw : V.mb < w.heap.size := by omega
  have hll := hT.len
  have HMa := hide (show MayAt m S (w.alloc (.cells #[.string ⟨#[]⟩,.string ⟨#[]⟩,.string ⟨#[]⟩] 185)).heap.size (w.alloc (.cells #[.string ⟨#[]⟩,.string ⟨#[]⟩,.string ⟨#[]⟩] 185)) ims[i] from ((HM.out.below (fun k hk => by have := hT.hS k hk; omega) ((Below.refl _ _).alloc (Nat.le_refl _) _)).mono (by simp)))
  have HMd := hide (show MayAt m S (w.alloc (.cells #[.string ⟨#[]⟩,.string ⟨#[]⟩,.string ⟨#[]⟩] 185)).drew.heap.size (w.alloc (.cells #[.string ⟨#[]⟩,.string ⟨#[]⟩,.string ⟨#[]⟩] 185)).drew ims[i] from ((HM.out.below (fun k hk => by have := hT.hS k hk; omega) (((Below.refl _ _).alloc (Nat.le_refl _) _).drew)).mono (by simp)))
  clear hT hv hjo hname hic hcell hiv c0 c3
  generalize hx : ims[i] = x at *
  generalize hn : md.imports[i] = nm at *
  clear hx hn
  go_enter Tryz.func118,Tryz.ntmps118
  go_wp2_with fail
  go_region_with (go_at_call 112; go_must (refine (seen_any (m := m) (S := S) _ x ?_ name).mono ?_; exact HMd.out; rintro e w3 ⟨rfl,hb3⟩; have hq : Below w.heap.size w w3 := (((Below.refl _ _).alloc (Nat.le_refl _) _).drew).trans (hb3.mono (by simp)); have hrb : w3.heap[w.heap.size]? = some (.cells #[.string ⟨#[]⟩,.string ⟨#[]⟩,.string ⟨#[]⟩] 185 (0,0)) := (hb3.block _ (by simp)).trans (block_drew (block_new w _)); have k0 := cell_block hrb 0; have k1 := cell_block hrb 1; have k2 := cell_block hrb 2; have kf := free_block hrb; have kl := lt_of_some hrb; simp at k0 k1 k2; have m1 := (below_cell hq hvl 1).trans c1; have m2 := (below_cell hq hmw 0).trans n0; have m3 := (below_cell hq hjl (i * 2)).trans d1; have m4 : V.b < w3.heap.size := (by omega); have m5 : V.mb < w3.heap.size := (by omega); have m6 : jb < w3.heap.size := (by omega); have HQ := hide hq; clear hb3 hq hrb))
  all_goals
    (try go_wp2_with fail)
    refine bodyPost_ret (v := .agg #[.string ⟨nm.name.toArray⟩,.string ⟨name.toArray⟩,.string ⟨(seenT (x.map Prod.snd) name).toArray⟩]) (by simp [results,Tryz.results118,go_sem,k0,k1,k2,kl]) rfl ⟨rfl,?_⟩
    exact ((HQ.out.setCell (p := ⟨w.heap.size,0,none⟩) (Nat.le_refl _) _).setCell (p := ⟨w.heap.size,1,none⟩) (Nat.le_refl _) _).setCell (p := ⟨w.heap.size,2,none⟩) (Nat.le_refl _) _
end Go.Proofs.YtpmmjkiclngpmaaGreatDoor
namespace Go.Proofs.YtpmmjkiclngpmaaGreatDoor
open Go.RowKit
theorem ret_sp {a b : List UInt8} {x y : Option Addr} (h : a = b) (k : x = y) : Ending.returned (.tuple #[.string ⟨a.toArray⟩,.pointer x]) = Ending.returned (.tuple #[.string ⟨b.toArray⟩,.pointer y]) := by rw [h,k]
theorem info_use : (Tryz.prog.info? 185).map (fun i => (i.zero,i.size,i.bytes)) = some (some (.agg #[.string ⟨#[]⟩,.string ⟨#[]⟩,.string ⟨#[]⟩]),3,48) := by kernel_rfl
theorem new3_cells (w : World) (a b c : Value) (t : TypeId) : ∀ j u,[a,b,c][j]? = some u → (w.alloc (.cells #[a,b,c] t)).cell? ((⟨w.heap.size,0,none⟩ : Addr).add j) = some u := by
  intro j u hj
  match j,hj with
  | 0,hj => simp at hj; subst hj; simp [Addr.add]
  | 1,hj => simp at hj; subst hj; simp [Addr.add]
  | 2,hj => simp at hj; subst hj; simp [Addr.add]
theorem expP_below {m : Nat} {S : Nat → Prop} {lo : Nat} {w w' : World} {x : Option (Nat × Mod)} (h : MayAt m S lo w x) (hb : Below lo w w') (name : List UInt8) : expP w' x name = expP w x name := by
  rcases x with _ | y
  · rfl
  · have := (h y rfl).1.lt
    show ptrF (rowOf w' y.1) _ = ptrF (rowOf w y.1) _
    have e : rowOf w' y.1 = rowOf w y.1 := by unfold rowOf; rw [below_cell hb this 1]
    rw [e]
def findP (w : World) (V : VK) (md : Mod) (ims : List (Option (Nat × Mod))) (name : List UInt8) : List UInt8 × Option Addr :=
  match ptrF (rowOf w V.mb) (firstF false name 0 (namesOf md)) with
  | some a => (V.nm,some a)
  | none => findIP w name (md.imports.zip ims)
def useP (md : Mod) (ims : List (Option (Nat × Mod))) (name : List UInt8) : List Us :=
  match firstF false name 0 (namesOf md) with
  | some _ => []
  | none => useI name (sndI (md.imports.zip ims))
theorem find_any {m : Nat} {S : Nat → Prop} {lo : Nat} (w : World) (V : VK) (lk : List Us) (uv : Value) (hv : Vw lo V lk uv w) (md : Mod) (ims : List (Option (Nat × Mod))) (hT : Trees m S lo w V md ims) (name : List UInt8) (hlk : lk.length ≤ 8000000000) :
    Calls Tryz.prog 261 #[.pointer (some ⟨V.b,0,none⟩),.string ⟨name.toArray⟩] w fun e w' =>
      e = .returned (.tuple #[.string ⟨(findP w V md ims name).1.toArray⟩,.pointer (findP w V md ims name).2]) ∧ ∃ uv',Moved V uv uv' w w' ∧ Vw lo V (lk ++ useP md ims name) uv' w' := by
  have hlo : lo ≤ w.heap.size := by have := hv.low; have := hv.lt; omega
  have HV := hide hv
  have HT := hide hT
  have HO := hide ((hT.me.mono hlo).names hT.my.1)
  obtain ⟨c0,c1,c2,c3⟩ := hv.field
  have hvl := hv.lt
  have hml := hT.me.lt
  have hmw : V.mb < w.heap.size := by omega
  rcases hf : firstF false name 0 (namesOf md) with _ | j
  · have HFn := hide (show findP w V md ims name = findIP w name (md.imports.zip ims) by simp [findP,hf,ptrF])
    have HUs := hide (show useP md ims name = useI name (sndI (md.imports.zip ims)) by simp [useP,hf])
    have HP := hide (show ptrF (rowOf w V.mb) (firstF false name 0 (namesOf md)) = none by rw [hf]; rfl)
    obtain ⟨io,ic,hiv,_⟩ := hv.pts
    have hpl : V.pts.length = ims.length := by rw [hT.pts]; simp
    rw [hiv,hpl] at c2
    have hfew := hT.few
    have hil := hT.len
    obtain ⟨L,hL⟩ : ∃ L,md.imports.zip ims = L := ⟨_,rfl⟩
    have HL := hide hL
    have hLl : L.length = ims.length := by rw [← hL]; simp; omega
    rw [hL] at HFn HUs
    obtain ⟨i0,hi,hz0,hz1,hz2⟩ := info_parts info_use
    clear hf hv hT hiv c3 hL
    go_enter Tryz.func261,Tryz.ntmps261
    go_wp2_with fail
    refine (own_any w V.mb _ _ HO.out name).mono ?_
    rintro e w ⟨rfl,rfl⟩
    rw [HP.out]
    go_wp2
    go_loopg [27] ims.length (fun n i wr => ∃ (j : Nat) (lk' : List Us) (uv' : Value),n + j = ims.length ∧ i = .int .i64 j ∧ Hid (findIP w name L = findIP w name (L.drop j)) ∧ Hid (lk ++ useI name (sndI L) = lk' ++ useI name (sndI (L.drop j))) ∧ Hid (Vw lo V lk' uv' wr) ∧ Hid (Moved V uv uv' w wr) ∧ Hid (lk'.length = lk.length + j))
    case atStart => exact ⟨0,lk,uv,by omega,rfl,rfl,rfl,HV.out,Moved.refl,by show lk.length = lk.length + 0; omega⟩
    case round =>
      obtain ⟨j,lk',uv',hj,rfl,HFj,HUj,HVr,HMr,HLl⟩ := hrel
      have hll : lk'.length ≤ 8000100000 := by have := HLl.out; omega
      have hbl := HMr.out.bel HV.out
      have HBl := hide hbl
      have hlr : lo ≤ wr.heap.size := by have := hbl.size; omega
      obtain ⟨d0,d1,d2,d3⟩ := HVr.out.field
      have hvr := HVr.out.lt
      have hmr : V.mb < wr.heap.size := by omega
      by_cases hlt : j < ims.length
      · have hjm : j < md.imports.length := by omega
        have HTr := hide (HT.out.below hbl)
        have HDr := hide (show L.drop j = (md.imports[j],ims[j]) :: L.drop (j + 1) by rw [List.drop_eq_getElem_cons (by omega)]; congr 1; have := HL.out; subst this; simp)
        have HMay := hide (HT.out.them ims[j] (List.getElem_mem hlt))
        obtain ⟨jo,jc,n0,hjo⟩ := HTr.out.me.imps
        obtain ⟨jb,rfl,hjb,hjc,hname⟩ := hjo (by omega)
        have e1 := (hname j hjm).1
        obtain ⟨io2,ic2,hiv2,hic⟩ := HVr.out.pts
        obtain ⟨ib,rfl,hib,hicl,hcell⟩ := hic (by omega)
        have e2 := hcell j (by omega)
        rw [show V.pts[j]'(by omega) = mptr ims[j] by simp [HT.out.pts]] at e2
        rw [hiv2,hpl] at d2
        obtain ⟨so,sc,hus⟩ := owns_shape' HVr.out.lks
        subst hus
        have hone : ∀ u ∈ [Value.string ⟨md.imports[j].name.toArray⟩,Value.string ⟨name.toArray⟩,Value.string ⟨(seenT (ims[j].map Prod.snd) name).toArray⟩],u.oneCell' = true := by
          intro u hu
          rcases List.mem_cons.1 hu with rfl | hu
          · rfl
          · rcases List.mem_cons.1 hu with rfl | hu
            · rfl
            · rcases List.mem_cons.1 hu with rfl | hu
              · rfl
              · cases hu
        have HOne := hide hone
        have b1 : lk'.length + 1 ≤ maxLen := by unfold maxLen; omega
        have b2 : (lk'.length + 1) * 48 ≤ 140737488355328 := by omega
        have hjb' : jb < wr.heap.size := by omega
        have HUse := hide (fun (wq : World) (hq : Below wr.heap.size wr wq) => use_any (m := m) (S := S) wq V lk' (.slice so lk'.length sc) (HVr.out.below hq) (by have := hq.size; omega) md ims (HTr.out.below (hq.mono hlr)) j hlt hjm name)
        have HN0 := hide n0
        have HE1 := hide e1
        have HE2 := hide e2
        clear hjo hname hic hcell hiv2 hbl hone c0 c1 c2
        generalize hx : ims[j] = x at *
        generalize hn : md.imports[j] = nm at *
        have HX := hide hx
        clear hx hn
        go_wp2_with fail
        go_cut [7] from 28 to 66 (fun s7 wx => s7 = .int .i64 j ∧ ∃ uv2,Hid (Vw lo V (lk' ++ [⟨nm.name,name,seenT (x.map Prod.snd) name⟩]) uv2 wx) ∧ Hid (Moved V (.slice so lk'.length sc) uv2 wr wx))
        case first =>
          go_region_law (first
            | (refine step_call rfl 118 #[.tmp 35,.tmp 36,.tmp 37] #[158,3,9] rfl Tryz.call118 #[.pointer (some ⟨V.b,0,none⟩),.int .i64 j,.string ⟨name.toArray⟩] ?_ (HUse.out wr.drew ((Below.refl _ _).drew)) ?_; (simp [Act.eval,Act.put]); rintro e w3 ⟨rfl,hb3⟩; refine ⟨_,rfl,?_⟩; have HB3 := hide (below_drew0 hb3); have hv3 := HVr.out.below HB3.out; have HV3 := hide hv3; have f3 := hv3.field.2.2.2; have hl3 := hv3.lt; have hs3 : lo ≤ w3.heap.size := (by have := HB3.out.size; omega); have g3 := free_block hv3.blk; clear hb3 hv3)
            | (refine step_app_where rfl (.tmp 34) (.tmp 39) 152 rfl lo 185 i0 (.agg #[.string ⟨#[]⟩,.string ⟨#[]⟩,.string ⟨#[]⟩]) 3 48 Tryz.underlying152 hi hz0 hz1 hz2 rfl (by decide) (.slice so lk'.length sc) lk'.length (useCells lk') ?_ ?_ ⟨w3.heap.size,0,none⟩ 1 1 [.string ⟨nm.name.toArray⟩,.string ⟨name.toArray⟩,.string ⟨(seenT (x.map Prod.snd) name).toArray⟩] ?_ rfl ?_ HOne.out b1 b2 ?_ ?_; (simp [Act.eval,Act.put]); (exact (HV3.out.alloc _).lks); (simp [Act.eval,Act.put]); (exact (new3_cells w3 _ _ _ _)); (simp; omega); intro v' w4 hown hgrow hwhere; obtain ⟨vo,vc,rfl⟩ := owns_shape' hown; have HG := hide (grown_alloc hgrow); have HO4 := hide hown; have HWh := hide hwhere; have hmk := (HG.out.block V.b hl3 (fun e => HV3.out.n2 e.symm)).trans HV3.out.blk; have k9 := cell_block hmk 3; have kf := free_block hmk; have kl := lt_of_some hmk; simp at k9; clear hown hgrow hwhere hmk))
          all_goals
            (try go_wp2_with fail)
            have HPut := hide (HV3.out.put HG.out (.slice vo (lk'.length + 1) vc) (lk' ++ [⟨nm.name,name,seenT (x.map Prod.snd) name⟩]) (by rw [useCells_snoc,List.length_append]; exact HO4.out) (fun k e => (HWh.out k e).imp id (fun h => by simp at h; omega)))
            go_meet
            exact ⟨rfl,_,HPut.out.2,(Moved.of_below HB3.out).trans HPut.out.1⟩
        case rest =>
          obtain ⟨rfl,uv2,HV2,HM2⟩ := hcut
          have hb2 : Below lo wr wc := HM2.out.bel HVr.out
          have hlx : lo ≤ wc.heap.size := by have := hb2.size; omega
          have HTx := hide (HTr.out.below hb2)
          have HMx := hide ((HMay.out.below HT.out.hS (HBl.out.trans hb2)).mono hlx)
          obtain ⟨_,x1,x2,_⟩ := HV2.out.field
          have hxl := HV2.out.lt
          obtain ⟨io3,ic3,hiv3,hic3⟩ := HV2.out.pts
          obtain ⟨ib3,rfl,hib3,hicl3,hcell3⟩ := hic3 (by omega)
          have e3 := hcell3 j (by omega)
          rw [show V.pts[j]'(by omega) = mptr x by rw [← HX.out]; simp [HT.out.pts]] at e3
          rw [hiv3,hpl] at x2
          have n3 := (below_cell hb2 hml 0).trans n0
          have m3 := (below_cell hb2 hjb (j * 2)).trans e1
          have hmx : V.mb < wc.heap.size := by omega
          have hjx : jb < wc.heap.size := by omega
          have HEx := hide (expP_below HMay.out (HBl.out.trans hb2) name)
          have HMw := hide (HMr.out.trans HM2.out)
          have HLl2 := hide (show (lk' ++ [⟨nm.name,name,seenT (x.map Prod.snd) name⟩] : List Us).length = lk.length + (j + 1) by have := HLl.out; simp; omega)
          clear hcell3 hic3 hiv3 hb2 d0 d1 d2 d3 e1 e2 n0
          go_wp2_with fail
          refine (exportedF_any wc x HMx.out name).mono ?_
          rintro e wc ⟨rfl,rfl⟩
          rw [HEx.out]
          rcases hep : expP w x name with _ | ap
          · have HF2 := hide (show findIP w name L = findIP w name (L.drop (j + 1)) by rw [HFj.out,HDr.out]; simp only [findIP,hep])
            have heg : expG (x.map Prod.snd) name = none := by
              rcases exp_at (HMay.out.mono hlo) name with ⟨_,h2⟩ | ⟨f,g,o,h1,_⟩
              · exact h2
              · rw [hep] at h1; cases h1
            have HU2 := hide (show lk ++ useI name (sndI L) = (lk' ++ [⟨nm.name,name,seenT (x.map Prod.snd) name⟩]) ++ useI name (sndI (L.drop (j + 1))) by
              rw [HUj.out,HDr.out]
              simp only [sndI,List.map_cons,useI,heg,List.append_assoc,List.cons_append,List.nil_append])
            clear heg
            go_wp2
            go_roundg (gk - 1)
            case measure => omega
            case rel => exact ⟨j + 1,_,uv2,by omega,by first | rfl | go_num,HF2.out,HU2.out,HV2.out,HMw.out,HLl2.out⟩
          · have HF2 := hide (show findIP w name L = (nm.name,some ap) by rw [HFj.out,HDr.out]; simp only [findIP,hep])
            have heg : ∃ f,expG (x.map Prod.snd) name = some f := by
              rcases exp_at (HMay.out.mono hlo) name with ⟨h1,_⟩ | ⟨f,g,o,_,h2,_⟩
              · rw [hep] at h1; cases h1
              · exact ⟨f,h2⟩
            obtain ⟨f0,heg⟩ := heg
            have HU2 := hide (show lk ++ useI name (sndI L) = lk' ++ [⟨nm.name,name,seenT (x.map Prod.snd) name⟩] by
              rw [HUj.out,HDr.out]
              simp only [sndI,List.map_cons,useI,heg])
            clear heg
            go_wp2
            go_ret2
            exact ⟨ret_sp (by rw [HFn.out,HF2.out]) (by rw [HFn.out,HF2.out]),uv2,HMw.out,by rw [HUs.out,HU2.out]; exact HV2.out⟩
      · have hje : j = ims.length := by omega
        have HF2 := hide (show findIP w name L = ([],none) by rw [HFj.out,List.drop_of_length_le (by omega)]; rfl)
        have HU2 := hide (show lk ++ useI name (sndI L) = lk' by rw [HUj.out,List.drop_of_length_le (by omega)]; simp [sndI,useI])
        subst hje
        go_wp2
        go_ret2
        exact ⟨ret_sp (by rw [HFn.out,HF2.out]) (by rw [HFn.out,HF2.out]),uv',HMr.out,by rw [HUs.out,HU2.out]; exact HVr.out⟩
  · have HFn := hide (show findP w V md ims name = (V.nm,some ⟨rowOf w V.mb,j * 10,none⟩) by simp [findP,hf,ptrF])
    have HUs := hide (show useP md ims name = [] by simp [useP,hf])
    have HP := hide (show ptrF (rowOf w V.mb) (firstF false name 0 (namesOf md)) = some ⟨rowOf w V.mb,j * 10,none⟩ by rw [hf]; rfl)
    clear hf hv hT c2 c3
    go_enter Tryz.func261,Tryz.ntmps261
    go_wp2_with fail
    refine (own_any w V.mb _ _ HO.out name).mono ?_
    rintro e w ⟨rfl,rfl⟩
    rw [HP.out]
    go_wp2
    go_ret2
    exact ⟨ret_sp (by rw [HFn.out]) (by rw [HFn.out]),uv,Moved.refl,by rw [HUs.out,List.append_nil]; exact HV.out⟩
end Go.Proofs.YtpmmjkiclngpmaaGreatDoor
