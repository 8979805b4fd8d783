/- YtpmmjkiclngpmaaGreatDoorB26 -/
import Derived.Shelf.Strings.Builder1
import Derived.Shelf.Strings.Builder2
import Derived.Shelf.Strings.OnBuilder
import Derived.Test.YtpmmjkiclngpmaaGreatDoorProg
import Derived.Test.YtpmmjkiclngpmaaGreatDoorB24
set_option maxRecDepth 100000
set_option linter.unusedSimpArgs false
set_option linter.unusedVariables false
set_option maxHeartbeats 12800000
namespace Go.Proofs
open Go.Shelf
def Tryz.lays156_ren : Go.Shelf.Ren := ⟨fun | 156 => 216 | 165 => 254 | 166 => 66 | 169 => 69 | 240 => 101 | 241 => 279 | 276 => 151 | 277 => 286 | n => n,fun | 31 => 58 | 9 => 9 | 3 => 3 | 4 => 4 | 0 => 0 | 20 => 20 | 72 => 141 | 76 => 144 | 70 => 139 | 37 => 115 | 75 => 143 | 127 => 198 | 164 => 268 | 5 => 5 | 80 => 45 | n => n,fun | n => n⟩
theorem Tryz.lays156 : Go.Proofs.Lays.n156 Tryz.prog Tryz.lays156_ren := {
  mixed := by kernel_rfl
  f156 := Tryz.func216.trans (congrArg some (by kernel_rfl))
  f165 := Tryz.func254.trans (congrArg some (by kernel_rfl))
  f166 := Tryz.func66.trans (congrArg some (by kernel_rfl))
  f169 := Tryz.func69.trans (congrArg some (by kernel_rfl))
  f240 := Tryz.func101.trans (congrArg some (by kernel_rfl))
  f241 := Tryz.func279.trans (congrArg some (by kernel_rfl))
  f276 := Tryz.func151.trans (congrArg some (by kernel_rfl))
  f277 := Tryz.func286.trans (congrArg some (by kernel_rfl))
  t0 := Tryz.underlying0
  a0 := Tryz.isAgg0
  z0 := Tryz.sizeOf0
  v0 := Tryz.zeroValue0
  t3 := Tryz.underlying3
  a3 := Tryz.isAgg3
  z3 := Tryz.sizeOf3
  v3 := Tryz.zeroValue3
  t4 := Tryz.underlying4
  a4 := Tryz.isAgg4
  z4 := Tryz.sizeOf4
  v4 := Tryz.zeroValue4
  t9 := Tryz.underlying9
  a9 := Tryz.isAgg9
  z9 := Tryz.sizeOf9
  v9 := Tryz.zeroValue9
  t20 := Tryz.underlying20
  a20 := Tryz.isAgg20
  z20 := Tryz.sizeOf20
  v20 := Tryz.zeroValue20
  t31 := Tryz.underlying58
  a31 := Tryz.isAgg58
  z31 := Tryz.sizeOf58
  v31 := Tryz.zeroValue58
  t37 := Tryz.underlying115
  a37 := Tryz.isAgg115
  z37 := Tryz.sizeOf115
  v37 := Tryz.zeroValue115
  t70 := Tryz.underlying139
  a70 := Tryz.isAgg139
  z70 := Tryz.sizeOf139
  v70 := Tryz.zeroValue139
  t72 := Tryz.underlying141
  a72 := Tryz.isAgg141
  z72 := Tryz.sizeOf141
  v72 := Tryz.zeroValue141
  t75 := Tryz.underlying143
  a75 := Tryz.isAgg143
  z75 := Tryz.sizeOf143
  v75 := Tryz.zeroValue143
  t76 := Tryz.underlying144
  a76 := Tryz.isAgg144
  z76 := Tryz.sizeOf144
  v76 := Tryz.zeroValue144
  t127 := Tryz.underlying198
  a127 := Tryz.isAgg198
  z127 := Tryz.sizeOf198
  v127 := Tryz.zeroValue198
  t164 := Tryz.underlying268
  a164 := Tryz.isAgg268
  z164 := Tryz.sizeOf268
  v164 := Tryz.zeroValue268 }
theorem Tryz.Builder_Extra_156 : Builder.Extra Tryz.prog Tryz.lays156_ren := {
  sizeBuilder := by kernel_rfl
  liesBuilder := by kernel_rfl
  t5 := Tryz.underlying5
  a5 := Tryz.isAgg5
  z5 := Tryz.sizeOf5
  v5 := Tryz.zeroValue5
  infoByte := by kernel_rfl
  cellsByte := by kernel_rfl
  sizeByte := by kernel_rfl
  neB5 := by decide }
open Go.RowKit in
theorem Tryz.strings_Join_none (a : Option Addr) (c : Nat) (sep : ByteArray) (w : World) :
    Calls Tryz.prog 216 #[.slice a 0 c,.string sep] w fun e w' => e = .returned (.string ⟨#[]⟩) ∧ w' = w := Any.strings_Join_none Tryz.lays156 Tryz.Builder_Extra_156 a c sep w
open Go.RowKit in
theorem Tryz.strings_Join (bk o c : Nat) (xs : List ByteArray) (sep : ByteArray) (w : World) (hcells : ∀ (j : Nat) x,xs[j]? = some x → w.cell? ⟨bk,o + j,none⟩ = some (.string x)) (hbk : bk < w.heap.size) (hN : xs.length ≤ 140737488355328) (hcap : xs.length ≤ c) (hlen : (Lib.join (xs.map (·.data.toList)) sep.data.toList).length ≤ 140737488355328) :
    Calls Tryz.prog 216 #[.slice (some ⟨bk,o,none⟩) xs.length c,.string sep] w fun e w' => e = .returned (.string ⟨(Lib.join (xs.map (·.data.toList)) sep.data.toList).toArray⟩) ∧ Below w.heap.size w w' := Any.strings_Join Tryz.lays156 Tryz.Builder_Extra_156 bk o c xs sep w hcells hbk hN hcap hlen
end Go.Proofs
namespace Go.Proofs.YtpmmjkiclngpmaaGreatDoor
open Go.RowKit
def tyText (t : Nat) : List UInt8 := if t = 1 then [105,110,116] else if t = 2 then [98,111,111,108] else [97,110,121]
theorem ret_str {a b : List UInt8} (h : a = b) : Ending.returned (.string ⟨a.toArray⟩) = Ending.returned (.string ⟨b.toArray⟩) := by rw [h]
theorem tstr_any (t : Nat) (w : World) : Calls Tryz.prog 215 #[.int .i64 t] w fun e w' => e = .returned (.string ⟨(tyText t).toArray⟩) ∧ w' = w := by
  have hx : t = 1 ∨ t = 2 ∨ (¬ t = 1 ∧ ¬ t = 2) := by omega
  rcases hx with rfl | rfl | ⟨h1,h2⟩
  case inr.inr =>
    have HO := hide (show tyText t = [97,110,121] by simp [tyText,h1,h2])
    have e1 : ((t : Int) == 1) = false := by simp; omega
    have e2 : ((t : Int) == 2) = false := by simp; omega
    go_enter Tryz.func215,Tryz.ntmps215
    go_wp2
    go_ret
    exact ⟨ret_str (by rw [HO.out]),rfl⟩
  all_goals
    go_enter Tryz.func215,Tryz.ntmps215
    go_wp2
    go_ret
    exact ⟨rfl,rfl⟩
def sigText (ps : List Nat) (r : Nat) : List UInt8 := Lib.join (ps.map tyText) [44] ++ [58] ++ tyText r
theorem tyText_len (t : Nat) : (tyText t).length ≤ 4 := by unfold tyText; split; decide; split <;> decide
theorem lens_le (ps : List Nat) : Lib.lens (ps.map tyText) ≤ 4 * ps.length := by
  induction ps with
  | nil => decide
  | cons x r ih =>
    have := tyText_len x
    simp only [Lib.lens,List.map_cons,List.sum_cons,List.length_cons] at *
    omega
theorem join_le (ps : List Nat) : (Lib.join (ps.map tyText) [44]).length ≤ 5 * ps.length := by
  cases ps with
  | nil => decide
  | cons x r =>
    have := lens_le (x :: r)
    rw [List.map_cons,Lib.join_length]
    simp only [List.map_cons,List.length_cons,List.length_map,List.length_nil] at *
    omega
theorem sigText_len (ps : List Nat) (r : Nat) : (sigText ps r).length ≤ 5 * ps.length + 5 := by
  have := join_le ps
  have := tyText_len r
  simp only [sigText,List.length_append,List.length_cons,List.length_nil]
  omega
def strsOf (l : List (List UInt8)) : List ByteArray := l.map fun t => ⟨t.toArray⟩
theorem strsOf_data (l : List (List UInt8)) : (strsOf l).map (·.data.toList) = l := by
  unfold strsOf
  rw [List.map_map]
  exact List.map_id l
theorem signature_any {m : Nat} {S : Nat → Prop} (w : World) (g o : Nat) (f : Fun) (hF : FunAt m S w.heap.size w g o f) (hg : g < w.heap.size) (hl : f.params.length ≤ 100000) :
    Calls Tryz.prog 174 #[.pointer (some ⟨g,o,none⟩)] w fun e w' => e = .returned (.string ⟨(sigText (f.params.map fun p => p.typ) f.result).toArray⟩) ∧ Below w.heap.size w w' := by
  obtain ⟨pv,bv,b0,b1,b2,b3,b4,b5,b6,b7,b8,b9,⟨po,pc,hpv,hpr⟩,hpa⟩ := hF
  subst hpv
  have HPr := hide hpr
  have HRes := hide b4
  obtain ⟨ts,hts⟩ : ∃ ts : List (List UInt8),(f.params.map fun p => p.typ).map tyText = ts := ⟨_,rfl⟩
  have HTs := hide hts
  have htl : ts.length = f.params.length := by rw [← hts]; simp
  have HTj := hide (fun (j : Nat) (hj : j < f.params.length) => (by rw [List.take_succ_eq_append_getElem (by omega)]; subst hts; simp [strCells] : strCells (ts.take (j + 1)) = strCells (ts.take j) ++ [.string ⟨(tyText f.params[j].typ).toArray⟩]))
  clear hts
  obtain ⟨i0,hi,hz0,hz1,hz2⟩ := info_parts info_str
  clear hpr hpa b0 b1 b2 b4 b5 b6 b7 b8 b9
  go_enter Tryz.func174,Tryz.ntmps174
  go_wp2
  go_loopg [11,3] f.params.length (fun n i tv wr => ∃ (j : Nat),n + j = f.params.length ∧ i = .int .i64 j ∧ Hid (wr.ownsRow w.heap.size 9 1 tv j (strCells (ts.take j))) ∧ Hid (Below w.heap.size w wr))
  case atStart => exact ⟨0,by omega,rfl,World.ownsRow_nil _ _ _ _,Below.refl _ _⟩
  case round =>
    obtain ⟨j,hj,rfl,HT,HB⟩ := hrel
    have hsr := HB.out.size
    by_cases hlt : j < f.params.length
    · obtain ⟨gb,rfl,hgb,hpc,hat⟩ := HPr.out (by omega)
      obtain ⟨q0,q1,q2⟩ := hat j hlt
      have d0 := (below_cell HB.out hgb _).trans q0
      have d1 := (below_cell HB.out hgb _).trans q1
      have d2 := (below_cell HB.out hgb _).trans q2
      have hg7 : gb < wr.heap.size := by omega
      have HTk := hide (HTj.out j hlt)
      obtain ⟨tq,tc,rfl⟩ := owns_shape' HT.out
      generalize hx : f.params[j] = x at *
      clear hx hat q0 q1 q2
      go_wp2_with fail
      refine (tstr_any x.typ _).mono ?_
      rintro e w2 ⟨rfl,rfl⟩
      generalize hwp : wr.alloc (.cells #[.string ⟨x.name.toArray⟩,.int .i64 x.place,.int .i64 x.typ] 301) = wp at *
      have HBp := hide (show Below wr.heap.size wr wp by rw [← hwp]; exact (Below.refl _ _).alloc (Nat.le_refl _) _)
      have hsp := HBp.out.size
      have HTp := hide (owr_keep HT.out (fun k _ l => HBp.out.block k l) : wp.ownsRow w.heap.size 9 1 (.slice tq j tc) j (strCells (ts.take j)))
      clear hwp
      go_wp2_with (at_builtin; refine app_where _ rfl _ _ 58 rfl w.heap.size 9 i0 (.string ⟨#[]⟩) 1 16 Tryz.underlying58 hi hz0 hz1 hz2 rfl (by decide) _ _ _ rfl (HTp.out.alloc _) ⟨wp.heap.size,0,none⟩ 1 1 [.string ⟨(tyText x.typ).toArray⟩] rfl rfl (new1_cells wp _ _) ?c2 (by decide) ?c3 ?c4 ?c5 ?_)
      case c2 => intro u hu; simp at hu; subst hu; rfl
      case c3 => unfold maxLen; omega
      case c4 => omega
      case c5 => simp; omega
      intro g' cap' w3 hown hgrow hwhere
      have HO := hide hown
      have HG := hide hgrow
      clear hown hgrow hwhere
      go_wp2
      go_roundg (gk - 1)
      case measure => omega
      case rel =>
        refine ⟨j + 1,by omega,by first | rfl | go_num,?_,?_⟩
        · show World.ownsRow _ _ _ _ _ _ _
          rw [HTk.out]; exact HO.out
        · show Below _ _ _
          exact (HB.out.trans (HBp.out.mono hsr)).trans (((Below.refl _ _).alloc (Nat.le_refl _) _ |>.mono (by omega)).grown HG.out (by simp; omega) (fun k e => (owns_block HTp.out k e).1))
    · have hje : j = f.params.length := by omega
      subst hje
      have r4 := (below_cell HB.out hg (o + 4)).trans HRes.out
      have hgr : g < wr.heap.size := by omega
      have HTe := hide (show ts.take f.params.length = ts by rw [List.take_of_length_le (by omega)])
      have HJ := hide (join_le (f.params.map fun p => p.typ))
      obtain ⟨tq,tc,rfl⟩ := owns_shape' HT.out
      obtain ⟨jt,hjt⟩ : ∃ jt,Lib.join ts [44] = jt := ⟨_,rfl⟩
      have hjl : jt.length ≤ 500000 := by rw [← hjt,← HTs.out]; have := HJ.out; rw [List.length_map] at this; omega
      have HJt := hide hjt
      have HSg := hide (show sigText (f.params.map fun p => p.typ) f.result = jt ++ [58] ++ tyText f.result by unfold sigText; rw [HTs.out,hjt])
      have hJoin : ∀ wq,Below wr.heap.size wr wq → Calls Tryz.prog 216 #[.slice tq f.params.length tc,.string ⟨#[44]⟩] wq fun e w' => e = .returned (.string ⟨jt.toArray⟩) ∧ Below wq.heap.size wq w' := by
        intro wq hq
        rcases Nat.eq_zero_or_pos f.params.length with h0 | hpos
        · have he : f.params = [] := List.eq_nil_of_length_eq_zero (by omega)
          rw [h0]
          refine (Tryz.strings_Join_none tq tc ⟨#[44]⟩ wq).mono ?_
          rintro e w' ⟨rfl,rfl⟩
          refine ⟨?_,Below.refl _ _⟩
          have : ts = [] := List.eq_nil_of_length_eq_zero (by omega)
          rw [← HJt.out,this]; rfl
        · obtain ⟨g',cap',cur,hv,hg1,hg2,hg3,hg4,hg5,hg6⟩ := owr_shape HT.out hpos
          simp only [Value.slice.injEq] at hv
          obtain ⟨rfl,_,rfl⟩ := hv
          have hlen : (strsOf ts).length = f.params.length := by simp [strsOf]; omega
          have := Tryz.strings_Join g' 0 tc (strsOf ts) ⟨#[44]⟩ wq (by
            intro i x hx
            have hi : i < f.params.length := by rw [← hlen]; exact (List.getElem?_eq_some_iff.1 hx).1
            rw [Nat.zero_add,below_cell hq (lt_of_some hg2),owns_cell HT.out i (by omega),HTe.out]
            rw [strsOf,List.getElem?_map] at hx
            rw [strCells,List.getElem?_map]
            obtain ⟨q,hq',rfl⟩ := Option.map_eq_some_iff.1 hx
            rw [hq']; rfl) (Nat.lt_of_lt_of_le (lt_of_some hg2) hq.size) (by rw [hlen]; omega) (by rw [hlen]; omega) (by rw [strsOf_data]; show (Lib.join _ [44]).length ≤ _; rw [HJt.out]; omega)
          rw [hlen,strsOf_data] at this
          have e2 : Lib.join ts (ByteArray.mk #[44]).data.toList = jt := HJt.out
          rw [e2] at this
          exact this
      have HJn := hide hJoin
      have htr := tyText_len f.result
      clear hJoin hjt
      go_wp2_with fail
      go_region_with (first
        | (go_at_call 216; go_must (refine (HJn.out _ ?_).mono ?_; (first | exact (Below.refl _ _).drew | exact Below.refl _ _); rintro e w5 ⟨rfl,hb5⟩; have HB5 := hide hb5; have r5 := (below_cell (below_drew0 hb5) hgr (o + 4)).trans r4; have hs5 : g < w5.heap.size := (by have := hb5.size; simp at this; omega); clear hb5))
        | (go_at_call 215; go_must (refine (tstr_any f.result _).mono ?_; rintro e w6 ⟨rfl,rfl⟩)))
      all_goals
        (try go_wp2_with fail)
        go_wp2
        go_ret
        refine ⟨ret_str ?_,HB.out.trans ((below_drew0 HB5.out).mono hsr)⟩
        rw [HSg.out]
        simp
end Go.Proofs.YtpmmjkiclngpmaaGreatDoor
