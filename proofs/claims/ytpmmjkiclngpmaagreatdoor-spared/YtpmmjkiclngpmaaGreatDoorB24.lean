/- YtpmmjkiclngpmaaGreatDoorB24 -/
import Derived.Test.YtpmmjkiclngpmaaGreatDoorB15
import Derived.Maps.Own
import Derived.Maps.OwnSet
import Derived.Maps.Views
import Derived.Test.YtpmmjkiclngpmaaGreatDoorB21
import Derived.Test.YtpmmjkiclngpmaaGreatDoorB23
set_option maxRecDepth 100000
set_option linter.unusedSimpArgs false
set_option linter.unusedVariables false
set_option maxHeartbeats 12800000
namespace Go.Proofs.YtpmmjkiclngpmaaGreatDoor
open Go.RowKit Go.Maps Go.WideMaps
def Cnt (w : World) (b : Nat) (L : List (List UInt8)) : Prop :=
  ∃ (n : Nat) (D : DataW Unit),w.ownsMap Tryz.prog 9 (plainElem Tryz.prog 3) b n D ∧ n ≤ L.length ∧ ∀ name,D.atKey (.string name) (.lit (.int .i64 0)) = .lit (.int .i64 (L.count name))
theorem Cnt.new (w : World) : Cnt (w.alloc (.map #[] 0)) w.heap.size [] :=
  ⟨0,.map [],World.ownsMap_made _ _ _ _,Nat.le_refl _,fun name => rfl⟩
theorem Cnt.keep {w w' : World} {b : Nat} {L : List (List UInt8)} (h : Cnt w b L) (hk : w'.heap[b]? = w.heap[b]?) : Cnt w' b L := by
  obtain ⟨n,D,⟨es,cl,hb,F,hs,hD⟩,hn,hat⟩ := h
  exact ⟨n,D,⟨es,cl,hk.trans hb,F,hs,hD⟩,hn,hat⟩
theorem Cnt.lt {w : World} {b : Nat} {L : List (List UInt8)} (h : Cnt w b L) : b < w.heap.size := by
  obtain ⟨n,D,hm,_⟩ := h; exact hm.lt
theorem Cnt.isMap {w : World} {b : Nat} {L : List (List UInt8)} (h : Cnt w b L) : ∃ es cl,w.heap[b]? = some (.map es cl) := by
  obtain ⟨n,D,⟨es,cl,hb,_⟩,_⟩ := h; exact ⟨_,_,hb⟩
theorem zero_int (w : World) : (zeroValue 3).run Tryz.prog w = .ok (.int .i64 0) w := Tryz.zeroValue3 w
theorem Cnt.look {w : World} {b : Nat} {L : List (List UInt8)} (h : Cnt w b L) (name : List UInt8) (hs : name.length ≤ 100000) :
    (Instr.lookup 297 (.map (some b)) (.string ⟨name.toArray⟩) false).run Tryz.prog w = .ok (.int .i64 (L.count name)) w := by
  obtain ⟨n,D,hm,hn,hat⟩ := h
  obtain ⟨c,hrun,hc,hwc⟩ := hm.lookup_int (string_keyed Tryz.underlying9) Tryz.underlying297 Tryz.underlying3 (zero_int w) (keyOf_string_mk Tryz.underlying9 (s := ⟨name.toArray⟩) (by show name.toArray.size ≤ maxLen; simp [maxLen]; omega))
  rw [hrun]
  have h2 := hat name
  have : DataW.atKey D (.string name) (.lit (.int .i64 0)) = .lit (.int .i64 c) := hc
  rw [h2] at this
  simp only [DataW.lit.injEq,Lit.int.injEq,true_and] at this
  rw [this]
theorem Cnt.put {w w' : World} {b n : Nat} {L : List (List UInt8)} {D : DataW Unit} {name : List UInt8} (hm : w.ownsMap Tryz.prog 9 (plainElem Tryz.prog 3) b n D) (hat : ∀ name,D.atKey (.string name) (.lit (.int .i64 0)) = .lit (.int .i64 (L.count name))) (hn : n ≤ L.length)
    (v : Int) (hv : v = (L.count name : Int) + 1) (hown : w'.ownsMap Tryz.prog 9 (plainElem Tryz.prog 3) b (n + 1) (D.put (.string name) (.lit (.int .i64 v)))) : Cnt w' b (name :: L) := by
  subst hv
  refine ⟨n + 1,_,hown,by simp; omega,fun q => ?_⟩
  by_cases e : q = name
  · subst e
    rw [atKey_put_same hm.isMap (by trivial),List.count_cons_self]
    simp
  · rw [atKey_put_other (by intro h; exact e (by injection h)),hat,List.count_cons_of_ne (fun h => e h.symm)]
theorem Kk.grown {B kb mb : Nat} {vb : VK} {s : KS} {sv : Value} {w w' : World} (h : Kk B kb vb s sv w) (hg : w.grownBy w' (some mb)) (hne : mb ≠ kb) (hns : sv.ownBlock ≠ some mb) (hc : ∃ es cl,w.heap[mb]? = some (.map es cl)) : Kk B kb vb s sv w' :=
  ⟨h.low,(hg.block _ h.lt (fun e => hne (Option.some.inj e).symm)).trans h.blk,owr_keep h.sco (fun k e l => hg.block k l (fun e' => hns (by rw [e,e']))),h.n1,by
    obtain ⟨uv,hv,hd⟩ := h.vw
    obtain ⟨es,cl,hc⟩ := hc
    exact ⟨uv,hv.keep (fun k hk => hg.block k (hv.has hk).2 (fun e => by obtain ⟨a,b,c,q⟩ := hv.isCells hk; rw [Option.some.inj e,hc] at q; cases q)),hd⟩⟩
theorem grown_below {B kb mb : Nat} {w w' : World} (hg : w.grownBy w' (some mb)) (h1 : kb < w.heap.size) (h2 : B ≤ kb) (h3 : B ≤ mb) : Below B w w' :=
  ⟨hg.os,hg.tape,hg.output,hg.size,fun k hk => hg.block k (by omega) (fun e => by have := Option.some.inj e; omega)⟩
theorem but_below {B kb : Nat} {w w' : World} (h : But kb w w') (h1 : kb < w.heap.size) (h2 : B ≤ kb) : Below B w w' :=
  ⟨h.os,h.tape,h.output,h.size,fun k hk => h.block k (by omega) (by omega)⟩
def onceK (L : List (List UInt8)) (name : List UInt8) (place : Nat) (s : KS) : KS := if 0 < L.count name then s.tell 5 place else s
theorem once_any (B kb : Nat) (vb : VK) (mb : Nat) (L : List (List UInt8)) (s : KS) (sv : Value) (w : World) (h : Kk B kb vb s sv w) (hc : Cnt w mb L) (hne : mb ≠ kb) (hmB : B ≤ mb) (hns : sv.ownBlock ≠ some mb) (name : List UInt8) (hs : name.length ≤ 100000) (hL : L.length ≤ 100000) (p : Nat) :
    Calls Tryz.prog 175 #[.pointer (some ⟨kb,0,none⟩),.map (some mb),.string ⟨name.toArray⟩,.int .i64 p] w fun e w' =>
      e = .returned (.tuple #[]) ∧ Kk B kb vb (onceK L name p s) sv w' ∧ Cnt w' mb (name :: L) ∧ Below B w w' ∧ ∀ k,k < w.heap.size → k ≠ kb → k ≠ mb → w'.heap[k]? = w.heap[k]? := by
  have hlk := hc.look name hs
  have hcl := List.count_le_length (a := name) (l := L)
  have HK := hide h
  have HC := hide hc
  clear h hc
  rcases Nat.eq_zero_or_pos (L.count name) with h0 | hpos
  · have HX := hide (show onceK L name p s = s by simp [onceK,h0])
    have hlk0 : (Instr.lookup 297 (.map (some mb)) (.string ⟨name.toArray⟩) false).run Tryz.prog w = .ok (.int .i64 0) w := by rw [hlk,h0]; rfl
    have HV := hide (show (1 : Int) = (L.count name : Int) + 1 by rw [h0]; rfl)
    clear hlk h0 hcl
    go_enter Tryz.func175,Tryz.ntmps175
    obtain ⟨n,D,hm,hn,hat⟩ := HC.out
    have HAt := hide hat
    have HMp := hide hm
    have hmk := hm.lt
    have hkey : ∀ s : List UInt8,s.length ≤ 100000 → keyOf Tryz.prog 9 (.string ⟨s.toArray⟩) = some (.string s) := fun s h => keyOf_string_mk Tryz.underlying9 (s := ⟨s.toArray⟩) (by show s.toArray.size ≤ maxLen; simp [maxLen]; omega)
    have HKy := hide (hkey name hs)
    have HEl := hide (plainElem_int (H := Unit) (P := Tryz.prog) (e := 3) Tryz.underlying3 (a := (1 : Int)) (by first | decide | (simp [Lit.wf,IntKind.min,IntKind.max,IntKind.signed,IntKind.bits]; omega)))
    clear hat hm hkey
    go_wp2_with (at_mapUpdate; refine wpList_mapUpdate_own _ rfl _ _ _ 297 rfl 9 3 (string_keyed Tryz.underlying9) Tryz.underlying297 (plainElem Tryz.prog 3) mb n D rfl HMp.out ?c1 (.string ⟨name.toArray⟩) (.int .i64 (1)) (.string name) rfl rfl HKy.out (.lit (.int .i64 (1))) [] HEl.out ?_)
    case c1 => unfold maxLen; omega
    intro w3 hown hgrow
    have HC3 := hide (Cnt.put HMp.out HAt.out hn (1) (by first | exact HV.out | rfl) hown)
    have HG3 := hide hgrow
    clear hown hgrow
    go_wp2
    go_end0
    exact ⟨rfl,by rw [HX.out]; exact Kk.grown HK.out HG3.out hne hns HC.out.isMap,HC3.out,grown_below HG3.out HK.out.lt HK.out.low hmB,fun k hk _ hkm => HG3.out.block k hk (fun e => hkm (Option.some.inj e))⟩
  · have HX := hide (show onceK L name p s = s.tell 5 p by simp [onceK,hpos])
    have hp1 : (0 : Int) < (L.count name : Int) := by omega
    go_enter Tryz.func175,Tryz.ntmps175
    go_wp2_with fail
    refine (tell_any B kb vb s sv _ HK.out 5 p).mono ?_
    rintro e w2 ⟨rfl,hb2,hk2⟩
    have HB2 := hide hb2
    have HK2 := hide hk2
    have hc2 := HC.out.keep (hb2.block mb HC.out.lt hne)
    have hlk2 := hc2.look name hs
    have HC2 := hide hc2
    clear hb2 hk2 hc2 hlk
    have HV := hide (show (L.count name : Int) + 1 = (L.count name : Int) + 1 from rfl)
    obtain ⟨n,D,hm,hn,hat⟩ := HC2.out
    have HAt := hide hat
    have HMp := hide hm
    have hmk := hm.lt
    have hkey : ∀ s : List UInt8,s.length ≤ 100000 → keyOf Tryz.prog 9 (.string ⟨s.toArray⟩) = some (.string s) := fun s h => keyOf_string_mk Tryz.underlying9 (s := ⟨s.toArray⟩) (by show s.toArray.size ≤ maxLen; simp [maxLen]; omega)
    have HKy := hide (hkey name hs)
    have HEl := hide (plainElem_int (H := Unit) (P := Tryz.prog) (e := 3) Tryz.underlying3 (a := ((L.count name : Int) + 1 : Int)) (by first | decide | (simp [Lit.wf,IntKind.min,IntKind.max,IntKind.signed,IntKind.bits]; omega)))
    clear hat hm hkey
    go_wp2_with (at_mapUpdate; refine wpList_mapUpdate_own _ rfl _ _ _ 297 rfl 9 3 (string_keyed Tryz.underlying9) Tryz.underlying297 (plainElem Tryz.prog 3) mb n D rfl HMp.out ?c1 (.string ⟨name.toArray⟩) (.int .i64 ((L.count name : Int) + 1)) (.string name) rfl rfl HKy.out (.lit (.int .i64 ((L.count name : Int) + 1))) [] HEl.out ?_)
    case c1 => unfold maxLen; omega
    intro w3 hown hgrow
    have HC3 := hide (Cnt.put HMp.out HAt.out hn ((L.count name : Int) + 1) (by first | exact HV.out | rfl) hown)
    have HG3 := hide hgrow
    clear hown hgrow
    go_wp2
    go_end0
    exact ⟨rfl,by rw [HX.out]; exact Kk.grown HK2.out HG3.out hne hns HC2.out.isMap,HC3.out,(but_below HB2.out HK.out.lt HK.out.low).trans (grown_below HG3.out HK2.out.lt HK2.out.low hmB),fun k hk hkk hkm => (HG3.out.block k (Nat.lt_of_lt_of_le hk HB2.out.size) (fun e => hkm (Option.some.inj e))).trans (HB2.out.block k hk hkk)⟩
end Go.Proofs.YtpmmjkiclngpmaaGreatDoor
namespace Go.Proofs.YtpmmjkiclngpmaaGreatDoor
open Go.RowKit
def PrmsAt (w : World) (B : Nat) (pv : Value) (ps : List Prm) : Prop :=
  ∃ po pc,pv = .slice po ps.length pc ∧ (0 < ps.length → ∃ gb,po = some ⟨gb,0,none⟩ ∧ gb < B ∧ ps.length ≤ pc ∧ ∀ j,(hj : j < ps.length) → w.cell? ⟨gb,j * 3,none⟩ = some (.string ⟨(ps[j].name).toArray⟩) ∧ w.cell? ⟨gb,j * 3 + 1,none⟩ = some (.int .i64 ps[j].place) ∧ w.cell? ⟨gb,j * 3 + 2,none⟩ = some (.int .i64 ps[j].typ))
def FunAt (m : Nat) (S : Nat → Prop) (B : Nat) (w : World) (g o : Nat) (f : Fun) : Prop :=
  ∃ pv bv,w.cell? ⟨g,o,none⟩ = some (.string ⟨f.name.toArray⟩) ∧ w.cell? ⟨g,o + 1,none⟩ = some (.int .i64 f.place) ∧ w.cell? ⟨g,o + 2,none⟩ = some (.bool f.pub) ∧ w.cell? ⟨g,o + 3,none⟩ = some pv ∧ w.cell? ⟨g,o + 4,none⟩ = some (.int .i64 f.result) ∧
    w.cell? ⟨g,o + 5,none⟩ = some (.int .i64 f.body.kind) ∧ w.cell? ⟨g,o + 6,none⟩ = some (.int .i64 f.body.place) ∧ w.cell? ⟨g,o + 7,none⟩ = some (.string ⟨f.body.name.toArray⟩) ∧ w.cell? ⟨g,o + 8,none⟩ = some (.int .i64 f.body.value) ∧ w.cell? ⟨g,o + 9,none⟩ = some bv ∧
    PrmsAt w B pv f.params ∧ PartsN m S w bv f.body.parts
structure ModAt (m : Nat) (S : Nat → Prop) (B : Nat) (w : World) (mb : Nat) (md : Mod) : Prop where
  lt : mb < B
  imps : ∃ io ic,w.cell? ⟨mb,0,none⟩ = some (.slice io md.imports.length ic) ∧ (0 < md.imports.length → ∃ ib,io = some ⟨ib,0,none⟩ ∧ ib < B ∧ md.imports.length ≤ ic ∧ ∀ j,(hj : j < md.imports.length) → w.cell? ⟨ib,j * 2,none⟩ = some (.string ⟨(md.imports[j].name).toArray⟩) ∧ w.cell? ⟨ib,j * 2 + 1,none⟩ = some (.int .i64 md.imports[j].place))
  funs : ∃ fo fc,w.cell? ⟨mb,1,none⟩ = some (.slice fo md.funs.length fc) ∧ (0 < md.funs.length → ∃ g,fo = some ⟨g,0,none⟩ ∧ g < B ∧ md.funs.length ≤ fc ∧ ∀ j,(hj : j < md.funs.length) → FunAt m S B w g (j * 10) md.funs[j])
def oncesK : List (List UInt8 × Nat) → List (List UInt8) → KS → KS
  | [],_,s => s
  | x :: r,L,s => oncesK r (x.1 :: L) (onceK L x.1 x.2 s)
theorem oncesK_drop (l : List (List UInt8 × Nat)) (j : Nat) (hj : j < l.length) (L : List (List UInt8)) (s : KS) : oncesK (l.drop j) L s = oncesK (l.drop (j + 1)) (l[j].1 :: L) (onceK L l[j].1 l[j].2 s) := by
  rw [List.drop_eq_getElem_cons hj]; rfl
theorem onceK_scope (L : List (List UInt8)) (n : List UInt8) (p : Nat) (s : KS) : (onceK L n p s).scope = s.scope := by
  unfold onceK; split
  · exact tell_scope _ _ _
  · rfl
theorem PrmsAt.shape {w : World} {B : Nat} {pv : Value} {ps : List Prm} (h : PrmsAt w B pv ps) : ∃ a n c,pv = .slice a n c := by
  obtain ⟨po,pc,h,_⟩ := h; exact ⟨_,_,_,h⟩
theorem partsN_shape {m : Nat} {S : Nat → Prop} {w : World} {pv : Value} {es : List Ex} (h : PartsN m S w pv es) : ∃ a n c,pv = .slice a n c := by
  obtain ⟨po,pc,h⟩ := h.none; exact ⟨_,_,_,h⟩
theorem make_map (w : World) : (Instr.makeMap 297 none).run Tryz.prog w = .ok (.map (some w.heap.size)) (w.alloc (.map #[] 0)) := by
  simp [Instr.makeMap,go_sem]
theorem checkNames_any (m : Nat) (S : Nat → Prop) (B : Nat) (w0 : World) (kb : Nat) (vb : VK) (md : Mod) (hM : ModAt m S B w0 vb.mb md) (hB : B ≤ w0.heap.size)
    (s : KS) (w1 w : World) (h : Knows B kb vb w1 s w) (hw : Below B w0 w1) (hn : ∀ f ∈ md.funs,f.name.length ≤ 100000) (hl : md.funs.length ≤ 100000) :
    Calls Tryz.prog 114 #[.pointer (some ⟨kb,0,none⟩)] w fun e' w' => e' = .returned (.tuple #[]) ∧ Knows B kb vb w1 (oncesK (md.funs.map fun f => (f.name,f.place)) [] s) w' := by
  obtain ⟨fo,fc,a1,hfun⟩ := hM.funs
  have hmb := hM.lt
  have c2 := (h.cell hw hmb 1).trans a1
  have z := h.size
  have y2 : vb.mb < w.heap.size := by omega
  obtain ⟨hbl,sv,hk⟩ := h
  obtain ⟨f0,f1,f2,f3⟩ := hk.field
  obtain ⟨c1,_,y1⟩ := hk.view
  have h1 := hk.lt
  have h2 := hk.low
  have HK := hide hk
  have HB := hide hbl
  have HW := hide hw
  have HF := hide hfun
  have HN := hide hn
  have HKB := hide (owns_block hk.sco)
  have HLen := hide (show (md.funs.map fun f => (f.name,f.place)).length = md.funs.length by simp)
  clear hk hbl hw hfun hM a1 hn
  have hmk := make_map
  go_enter Tryz.func114,Tryz.ntmps114
  go_wp2
  have hnk : w.heap.size ≠ kb := by omega
  have hns : sv.ownBlock ≠ some w.heap.size := fun e => by have := (HKB.out _ e).2; omega
  go_loopg [17] md.funs.length (fun n i wr => ∃ (j : Nat) (t : KS) (L : List (List UInt8)),n + j = md.funs.length ∧ i = .int .i64 j ∧ Hid (oncesK (md.funs.map fun f => (f.name,f.place)) [] s = oncesK ((md.funs.map fun f => (f.name,f.place)).drop j) L t) ∧ L.length = j ∧ Hid (Kk B kb vb t sv wr) ∧ Hid (Cnt wr w.heap.size L) ∧ Hid (Below B w wr) ∧ w.heap.size < wr.heap.size)
  case atStart => exact ⟨0,s,[],by omega,rfl,rfl,rfl,HK.out.alloc _,Cnt.new w,(Below.refl _ _).alloc z _,by simp⟩
  case round =>
    obtain ⟨j,t,L,hj,rfl,HR,hLl,HKr,HC,HBr,hsr⟩ := hrel
    by_cases hlt : j < md.funs.length
    · obtain ⟨g,rfl,hgB,hfc,hat⟩ := HF.out (by omega)
      obtain ⟨pv,bv,b0,b1,b2,b3,b4,b5,b6,b7,b8,b9,hpr,hpa⟩ := hat j hlt
      obtain ⟨pa,pn,pc,rfl⟩ := hpr.shape
      obtain ⟨qa,qn,qc,rfl⟩ := partsN_shape hpa
      have hbw := (HW.out.trans HB.out).trans HBr.out
      have d0 := (below_cell hbw hgB _).trans b0
      have d1 := (below_cell hbw hgB _).trans b1
      have d2 := (below_cell hbw hgB _).trans b2
      have d3 := (below_cell hbw hgB _).trans b3
      have d4 := (below_cell hbw hgB _).trans b4
      have d5 := (below_cell hbw hgB _).trans b5
      have d6 := (below_cell hbw hgB _).trans b6
      have d7 := (below_cell hbw hgB _).trans b7
      have d8 := (below_cell hbw hgB _).trans b8
      have d9 := (below_cell hbw hgB _).trans b9
      have hg7 : g < wr.heap.size := by omega
      have HD := hide (oncesK_drop (md.funs.map fun f => (f.name,f.place)) j (by rw [HLen.out]; exact hlt) L t)
      have hnl := HN.out md.funs[j] (List.getElem_mem hlt)
      generalize hf : md.funs[j] = f at *
      have HFj := hide hf
      clear hf hat hpr hpa b0 b1 b2 b3 b4 b5 b6 b7 b8 b9 hbw c1 c2 f0 f1 f2 f3
      go_wp2_with fail
      refine (once_any B kb vb w.heap.size L t sv _ (by exact HKr.out.alloc _) (by exact HC.out.keep (Below.heap_alloc _ _ _ hsr)) hnk z hns f.name hnl (by omega) f.place).mono ?_
      rintro e' w3 ⟨rfl,hk3,hc3,hbl3,hb3⟩
      have hs3 := hbl3.size
      have HBl3 := hide (((Below.refl B wr).alloc (by omega) _).trans hbl3)
      have HK3 := hide hk3
      have HC3 := hide hc3
      have hs3' : wr.heap.size < w3.heap.size := by simp at hs3; omega
      have HB3 := hide hb3
      clear hk3 hc3 hb3 hs3 hbl3 d0 d1 d2 d3 d4 d5 d6 d7 d8 d9
      go_wp2
      go_roundg (gk - 1)
      case measure => omega
      case rel =>
        refine ⟨j + 1,onceK L f.name f.place t,f.name :: L,by omega,by first | rfl | go_num,?_,by simp [hLl],HK3.out,HC3.out,?_,by omega⟩
        · show oncesK _ _ _ = _
          rw [HR.out,HD.out]
          simp [HFj.out]
        · exact HBr.out.trans HBl3.out
    · have hje : j = md.funs.length := by omega
      have HX := hide (show oncesK (md.funs.map fun f => (f.name,f.place)) [] s = t by rw [HR.out,hje,List.drop_of_length_le (by rw [HLen.out]; exact Nat.le_refl _)]; rfl)
      have hji : ¬ (j : Int) < (md.funs.length : Int) := by omega
      go_wp2
      go_end0
      exact ⟨rfl,by rw [HX.out]; exact ⟨HB.out.trans HBr.out,sv,HKr.out⟩⟩
end Go.Proofs.YtpmmjkiclngpmaaGreatDoor
