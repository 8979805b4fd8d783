/- YtpmmjkiclngpmaaGreatDoorV02 -/
import Derived.Shelf.LaysM
import Derived.Shelf.Strconv.Itoa3
import Derived.Shelf.Strings.BuilderK
import Derived.Test.YtpmmjkiclngpmaaGreatDoorB26
import Derived.Test.YtpmmjkiclngpmaaGreatDoorB05
import Derived.Lib.ItoaLen
import Derived.Lib.AppendIntMem
import Derived.Test.YtpmmjkiclngpmaaGreatDoorB17
import Derived.Deep.RegionHeld3
import Derived.Test.YtpmmjkiclngpmaaGreatDoorB44
import Derived.Test.YtpmmjkiclngpmaaGreatDoorV01
set_option maxRecDepth 100000
set_option linter.unusedSimpArgs false
set_option linter.unusedVariables false
set_option maxHeartbeats 12800000
namespace Go.Proofs
open Go.Shelf
def Tryz.laysM171_ren : Go.Shelf.Ren := ⟨fun | 171 => 67 | 243 => 102 | 246 => 152 | 283 => 195 | 284 => 196 | 285 => 197 | 286 => 198 | 129 => 171 | 317 => 244 | 318 => 245 | 319 => 246 | 320 => 247 | 337 => 274 | 338 => 275 | n => n,fun | 3 => 3 | 9 => 9 | 2 => 2 | 4 => 4 | 171 => 333 | 0 => 0 | 53 => 294 | 37 => 115 | 5 => 5 | 173 => 335 | 212 => 368 | 51 => 292 | 20 => 20 | 213 => 369 | 46 => 208 | 232 => 389 | 233 => 390 | n => n,fun | 17 => 0 | 18 => 1 | 19 => 2 | n => n⟩
theorem Tryz.laysM171 : Go.Proofs.LaysM.n171 Tryz.prog Tryz.laysM171_ren := {
  mixed := by kernel_rfl
  f129 := Tryz.func171.trans (congrArg some (by kernel_rfl))
  f171 := Tryz.func67.trans (congrArg some (by kernel_rfl))
  f243 := Tryz.func102.trans (congrArg some (by kernel_rfl))
  f246 := Tryz.func152.trans (congrArg some (by kernel_rfl))
  f283 := Tryz.func195.trans (congrArg some (by kernel_rfl))
  f284 := Tryz.func196.trans (congrArg some (by kernel_rfl))
  f285 := Tryz.func197.trans (congrArg some (by kernel_rfl))
  f286 := Tryz.func198.trans (congrArg some (by kernel_rfl))
  f317 := Tryz.func244.trans (congrArg some (by kernel_rfl))
  f318 := Tryz.func245.trans (congrArg some (by kernel_rfl))
  f319 := Tryz.func246.trans (congrArg some (by kernel_rfl))
  f320 := Tryz.func247.trans (congrArg some (by kernel_rfl))
  f337 := Tryz.func274.trans (congrArg some (by kernel_rfl))
  f338 := Tryz.func275.trans (congrArg some (by kernel_rfl))
  t0 := Tryz.underlying0
  a0 := Tryz.isAgg0
  z0 := Tryz.sizeOf0
  v0 := Tryz.zeroValue0
  t2 := Tryz.underlying2
  a2 := Tryz.isAgg2
  z2 := Tryz.sizeOf2
  v2 := Tryz.zeroValue2
  t3 := Tryz.underlying3
  a3 := Tryz.isAgg3
  z3 := Tryz.sizeOf3
  v3 := Tryz.zeroValue3
  t4 := Tryz.underlying4
  a4 := Tryz.isAgg4
  z4 := Tryz.sizeOf4
  v4 := Tryz.zeroValue4
  t5 := Tryz.underlying5
  a5 := Tryz.isAgg5
  z5 := Tryz.sizeOf5
  v5 := Tryz.zeroValue5
  t9 := Tryz.underlying9
  a9 := Tryz.isAgg9
  z9 := Tryz.sizeOf9
  v9 := Tryz.zeroValue9
  t20 := Tryz.underlying20
  a20 := Tryz.isAgg20
  z20 := Tryz.sizeOf20
  v20 := Tryz.zeroValue20
  t37 := Tryz.underlying115
  a37 := Tryz.isAgg115
  z37 := Tryz.sizeOf115
  v37 := Tryz.zeroValue115
  t46 := Tryz.underlying208
  a46 := Tryz.isAgg208
  z46 := Tryz.sizeOf208
  v46 := Tryz.zeroValue208
  t51 := Tryz.underlying292
  a51 := Tryz.isAgg292
  z51 := Tryz.sizeOf292
  v51 := Tryz.zeroValue292
  t53 := Tryz.underlying294
  a53 := Tryz.isAgg294
  z53 := Tryz.sizeOf294
  v53 := Tryz.zeroValue294
  t171 := Tryz.underlying333
  a171 := Tryz.isAgg333
  z171 := Tryz.sizeOf333
  v171 := Tryz.zeroValue333
  t173 := Tryz.underlying335
  a173 := Tryz.isAgg335
  z173 := Tryz.sizeOf335
  v173 := Tryz.zeroValue335
  t212 := Tryz.underlying368
  a212 := Tryz.isAgg368
  z212 := Tryz.sizeOf368
  v212 := Tryz.zeroValue368
  t213 := Tryz.underlying369
  a213 := Tryz.isAgg369
  z213 := Tryz.sizeOf369
  t232 := Tryz.underlying389
  a232 := Tryz.isAgg389
  z232 := Tryz.sizeOf389
  v232 := Tryz.zeroValue389
  t233 := Tryz.underlying390
  a233 := Tryz.isAgg390
  z233 := Tryz.sizeOf390
  v233 := Tryz.zeroValue390
  g17 := by kernel_rfl
  g18 := by kernel_rfl
  g19 := by kernel_rfl
  i0 := by kernel_rfl
  i2 := by kernel_rfl
  i3 := by kernel_rfl
  i4 := by kernel_rfl
  i5 := by kernel_rfl
  i9 := by kernel_rfl
  i20 := by kernel_rfl
  i37 := by kernel_rfl
  i46 := by kernel_rfl
  i51 := by kernel_rfl
  i53 := by kernel_rfl
  i171 := by kernel_rfl
  i173 := by kernel_rfl
  i212 := by kernel_rfl
  i232 := by kernel_rfl
  i233 := by kernel_rfl
  m17 := by kernel_rfl
  m18 := by kernel_rfl
  m19 := by kernel_rfl }
theorem Tryz.lays166 : Go.Proofs.Lays.n166 Tryz.prog Tryz.lays156_ren := { Tryz.lays156 with }
theorem Tryz.lays169 : Go.Proofs.Lays.n169 Tryz.prog Tryz.lays156_ren := { Tryz.lays156 with }
end Go.Proofs
namespace Go.Proofs.YtpmmjkiclngpmaaGreatDoor
open Go.RowKit
def Tab (w : World) : Prop := Lib.TabIs Tryz.prog w "internal/strconv.uint64pow10" .u64 Lib.pow10Tab
theorem gTab : Tryz.prog.globalNamed "internal/strconv.uint64pow10" = some 0 := by kernel_rfl
theorem Tab.keep {w w' : World} (h : Tab w) (hk : w'.heap[0]? = w.heap[0]?) : Tab w' := by
  unfold Tab Lib.TabIs World.var? at *
  rw [gTab] at *
  simp only [Option.bind_some] at *
  rw [hk]; exact h
theorem Tab.lt {w : World} (h : Tab w) : 0 < w.heap.size := by
  rcases Nat.eq_zero_or_pos w.heap.size with h0 | h0
  · unfold Tab Lib.TabIs World.var? at h
    rw [gTab] at h
    simp [Array.getElem?_eq_none (show w.heap.size ≤ 0 by omega)] at h
  exact h0
theorem Tab.below {B : Nat} {w w' : World} (h : Tab w) (hb : Below B w w') (hB : 0 < B) : Tab w' := h.keep (hb.block 0 hB)
theorem itoa_any (n : Int) (h0 : -9223372036854775808 ≤ n) (h1 : n ≤ 9223372036854775807) (w : World) (ht : Tab w) :
    Calls Tryz.prog 67 #[.int .i64 n] w fun e w' => e = .returned (.string ⟨(Lib.itoa n).toArray⟩) ∧ Below w.heap.size w w' :=
  (Any.strconv_Itoa Tryz.laysM171 n h0 h1 w ht).mono (by rintro e w' ⟨rfl,k,os,rfl⟩; exact ⟨rfl,Lib.below_grow _ w (Nat.le_refl _) k os⟩)
def Bdr (lo b : Nat) (l : List UInt8) (w : World) : Prop := Lib.IsBuilderF 141 5 lo b (Lib.byteCells l) w
theorem Bdr.keep {lo b : Nat} {l : List UInt8} {w w' : World} (h : Bdr lo b l w) (hk : ∀ k,k < w.heap.size → w'.heap[k]? = w.heap[k]?) : Bdr lo b l w' := by
  have one : ∀ {p : Value},Lib.BuilderAtF 141 5 lo b p (Lib.byteCells l) w → Lib.BuilderAtF 141 5 lo b p (Lib.byteCells l) w' := fun {p} h => by
    obtain ⟨a,v,c,d,e⟩ := h
    refine ⟨a,v,(hk b (lt_of_some c)).trans c,⟨d.1,?_⟩,e⟩
    rcases d.2 with q | ⟨g,cap,cur,fz,q1,q2,q3,q4⟩
    · exact Or.inl q
    · exact Or.inr ⟨g,cap,cur,fz,q1,q2,(hk g (lt_of_some q3)).trans q3,q4⟩
  exact h.imp one one
theorem Bdr.below {lo b : Nat} {l : List UInt8} {w w' : World} (h : Bdr lo b l w) (hb : Below w.heap.size w w') : Bdr lo b l w' := h.keep hb.block
theorem Bdr.low {lo b : Nat} {l : List UInt8} {w : World} (h : Bdr lo b l w) : lo ≤ b ∧ b < w.heap.size := by
  rcases h with ⟨a,v,c,_⟩ | ⟨a,v,c,_⟩ <;> exact ⟨a,lt_of_some c⟩
theorem Bdr.new (w : World) : Bdr w.heap.size w.heap.size [] (w.alloc (.cells #[.pointer none,.slice none 0 0] 141)) :=
  Or.inl ⟨Nat.le_refl _,.slice none 0 0,block_new _ _,⟨rfl,Or.inl ⟨rfl,rfl⟩⟩,by simp [Value.ownBlock]⟩
structure Oth (lo b : Nat) (w w' : World) : Prop where
  bel : Below lo w w'
  oth : Lib.OthersKept 5 (some b) w w'
theorem Oth.block {lo b : Nat} {w w' : World} (h : Oth lo b w w') {k : Nat} {c : Array Value} {t : TypeId} {fz : Nat × Nat} (hk : w.heap[k]? = some (.cells c t fz)) (hb : k ≠ b) (ht : t ≠ 5) : w'.heap[k]? = some (.cells c t fz) :=
  h.oth k _ hk (fun e => hb (Option.some.inj e)) fun c' fz' e => ht (by cases e; rfl)
theorem Oth.trans {lo b : Nat} {w w' w'' : World} (h : Oth lo b w w') (k : Oth lo b w' w'') : Oth lo b w w'' := ⟨h.bel.trans k.bel,h.oth.trans k.oth⟩
theorem wstr_any (lo b : Nat) (l s : List UInt8) (w : World) (h : Bdr lo b l w) (hl : l.length + s.length ≤ 100000000000000) :
    Calls Tryz.prog 66 #[.pointer (some ⟨b,0,none⟩),.string ⟨s.toArray⟩] w fun e w' => e = .returned (.tuple #[.int .i64 (s.length : Nat),.nilIface]) ∧ Bdr lo b (l ++ s) w' ∧ Oth lo b w w' := by
  have hlo := h.low
  refine (Any.Builder_WriteString_k Tryz.lays166 Tryz.Builder_Extra_156 lo b (Lib.byteCells l) ⟨s.toArray⟩ w h ?_ (by omega)).mono ?_
  · rw [Lib.byteCells_length]
    show l.length + s.toArray.size ≤ _
    rw [List.size_toArray]; omega
  rintro e w' ⟨rfl,h1,h2,h3⟩
  refine ⟨rfl,Or.inr ?_,h2,h3⟩
  rw [Lib.byteCells_append]
  exact h1
theorem bstr_any (lo b : Nat) (l : List UInt8) (w : World) (h : Bdr lo b l w) (h0 : l ≠ []) :
    Calls Tryz.prog 69 #[.pointer (some ⟨b,0,none⟩)] w fun e w' => e = .returned (.string ⟨l.toArray⟩) ∧ Below lo w w' :=
  (Any.Builder_String_k Tryz.lays169 Tryz.Builder_Extra_156 lo b l w h h0).mono (by rintro e w' ⟨rfl,_,h2,_⟩; exact ⟨rfl,h2⟩)
def opName (k : Nat) : List UInt8 := [[112,117,115,104],[108,111,97,100],[115,116,111,114,101],[106,117,109,112],[117,110,108,101,115,115],[99,97,108,108],[114,101,116,117,114,110],[108,101,115,115],[101,113,117,97,108],[97,100,100],[115,117,98,116,114,97,99,116],[109,117,108,116,105,112,108,121],[100,105,118,105,100,101],[110,101,103,97,116,101],[110,111,116]].getD k []
theorem opIdx (k : Nat) (hk : k < 15) (w : World) : (Instr.index 271 (.agg #[.string ⟨#[112,117,115,104]⟩,.string ⟨#[108,111,97,100]⟩,.string ⟨#[115,116,111,114,101]⟩,.string ⟨#[106,117,109,112]⟩,.string ⟨#[117,110,108,101,115,115]⟩,.string ⟨#[99,97,108,108]⟩,.string ⟨#[114,101,116,117,114,110]⟩,.string ⟨#[108,101,115,115]⟩,.string ⟨#[101,113,117,97,108]⟩,.string ⟨#[97,100,100]⟩,.string ⟨#[115,117,98,116,114,97,99,116]⟩,.string ⟨#[109,117,108,116,105,112,108,121]⟩,.string ⟨#[100,105,118,105,100,101]⟩,.string ⟨#[110,101,103,97,116,101]⟩,.string ⟨#[110,111,116]⟩]) (.int .i64 k)).run Tryz.prog w = .ok (.string ⟨(opName k).toArray⟩) w :=
  match k,hk with
  | 0,_ => by kernel_rfl
  | 1,_ => by kernel_rfl
  | 2,_ => by kernel_rfl
  | 3,_ => by kernel_rfl
  | 4,_ => by kernel_rfl
  | 5,_ => by kernel_rfl
  | 6,_ => by kernel_rfl
  | 7,_ => by kernel_rfl
  | 8,_ => by kernel_rfl
  | 9,_ => by kernel_rfl
  | 10,_ => by kernel_rfl
  | 11,_ => by kernel_rfl
  | 12,_ => by kernel_rfl
  | 13,_ => by kernel_rfl
  | 14,_ => by kernel_rfl
  | n + 15,h => absurd h (by omega)
theorem opStr_any (k : Nat) (hk : k < 15) (w : World) : Calls Tryz.prog 103 #[.int .i64 k] w fun e w' => e = .returned (.string ⟨(opName k).toArray⟩) ∧ w' = w := by
  have hx := opIdx k hk
  go_enter Tryz.func103,Tryz.ntmps103
  go_wp2
  go_ret
  exact ⟨rfl,rfl⟩
theorem hasV_any (k : Nat) (w : World) : Calls Tryz.prog 104 #[.int .i64 k] w fun e w' => e = .returned (.bool (decide (k ≤ 5))) ∧ w' = w := by
  by_cases h : k ≤ 5
  · have h1 : (k : Int) ≤ 5 := by omega
    rw [show decide (k ≤ 5) = true from decide_eq_true h]
    clear h
    go_enter Tryz.func104,Tryz.ntmps104
    go_wp2
    go_ret
    exact ⟨by simp [h1],rfl⟩
  have h1 : ¬ (k : Int) ≤ 5 := by omega
  rw [show decide (k ≤ 5) = false from decide_eq_false h]
  clear h
  go_enter Tryz.func104,Tryz.ntmps104
  go_wp2
  go_ret
  exact ⟨by simp [h1],rfl⟩
end Go.Proofs.YtpmmjkiclngpmaaGreatDoor
namespace Go.Proofs.YtpmmjkiclngpmaaGreatDoor
open Go.RowKit
def insText (x : Nat × Int) : List UInt8 := [9] ++ opName x.1 ++ (if x.1 ≤ 5 then [32] ++ Lib.itoa x.2 else []) ++ [10]
def pubT (b : Bool) : List UInt8 := if b then [112,117,98,32] else []
def fnLine (f : CF) : List UInt8 := [102,110,32] ++ f.mod ++ [46] ++ f.name ++ [32] ++ f.sig ++ [32,115,108,111,116,115,32] ++ Lib.itoa f.slots ++ [10]
def fnText (f : CF) : List UInt8 := pubT f.pub ++ fnLine f ++ f.code.flatMap insText
theorem cellB {B : Nat} {w w' : World} (hb : Below B w w') {g o : Nat} (hg : g < B) {v : Value} (h : w.cell? ⟨g,o,none⟩ = some v) : w'.cell? ⟨g,o,none⟩ = some v := by
  rw [World.cell?_of_block (a := ⟨g,o,none⟩) (hb.block g hg)]; exact h
theorem wstr_ba (lo b : Nat) (l : List UInt8) (x : ByteArray) (w : World) (h : Bdr lo b l w) (hl : l.length + x.data.toList.length ≤ 100000000000000) :
    Calls Tryz.prog 66 #[.pointer (some ⟨b,0,none⟩),.string x] w fun e w' => (∃ n : Nat,e = .returned (.tuple #[.int .i64 n,.nilIface])) ∧ Bdr lo b (l ++ x.data.toList) w' ∧ Oth lo b w w' := by
  have := wstr_any lo b l x.data.toList w h hl
  exact this.mono (by rintro e w' ⟨rfl,h1,h2⟩; exact ⟨⟨_,rfl⟩,h1,h2⟩)
theorem line_bytes (f : CF) : ((((((((({ data := #[102,110,32] } : ByteArray) ++ ⟨f.mod.toArray⟩) ++ ⟨#[46]⟩) ++ ⟨f.name.toArray⟩) ++ ⟨#[32]⟩) ++ ⟨f.sig.toArray⟩) ++ ⟨#[32,115,108,111,116,115,32]⟩) ++ ⟨(Lib.itoa f.slots).toArray⟩) ++ ⟨#[10]⟩).data.toList = fnLine f := by
  simp [fnLine]
theorem below_undrew {B : Nat} {w w' : World} (h : Below B w.drew w') : Below B w w' := ⟨h.os,h.tape,h.output,h.size,h.block⟩
theorem fnText_len (f : CF) (k : Nat) : (pubT f.pub ++ fnLine f ++ (f.code.take k).flatMap insText).length ≤ (fnText f).length := by
  unfold fnText
  conv => rhs; rw [← List.take_append_drop k f.code]
  rw [List.flatMap_append]
  simp only [List.length_append]
  omega
structure FnIn (lo : Nat) (w : World) (g o : Nat) (f : CF) (kv : Value) : Prop where
  gl : g < lo
  c0 : w.cell? ⟨g,o,none⟩ = some (.string ⟨f.mod.toArray⟩)
  c1 : w.cell? ⟨g,o + 1,none⟩ = some (.string ⟨f.name.toArray⟩)
  c2 : w.cell? ⟨g,o + 2,none⟩ = some (.bool f.pub)
  c4 : w.cell? ⟨g,o + 4,none⟩ = some (.string ⟨f.sig.toArray⟩)
  c5 : w.cell? ⟨g,o + 5,none⟩ = some (.int .i64 f.slots)
  c6 : w.cell? ⟨g,o + 6,none⟩ = some kv
theorem FnIn.below {lo : Nat} {w w' : World} {g o : Nat} {f : CF} {kv : Value} (h : FnIn lo w g o f kv) (hb : Below lo w w') : FnIn lo w' g o f kv :=
  ⟨h.gl,cellB hb h.gl h.c0,cellB hb h.gl h.c1,cellB hb h.gl h.c2,cellB hb h.gl h.c4,cellB hb h.gl h.c5,cellB hb h.gl h.c6⟩
theorem ins_at : ∀ (l : List (Nat × Int)) (j : Nat) (hj : j < l.length),(insCells l)[j * 2]? = some (.int .i64 (l[j].1 : Nat)) ∧ (insCells l)[j * 2 + 1]? = some (.int .i64 l[j].2)
  | x :: r,0,_ => ⟨rfl,rfl⟩
  | x :: r,j + 1,hj => by
    have := ins_at r j (by simpa using hj)
    have e : insCells (x :: r) = [.int .i64 x.1,.int .i64 x.2] ++ insCells r := rfl
    rw [e,show (j + 1) * 2 = j * 2 + 2 by omega,List.getElem?_append_right (by simp),List.getElem?_append_right (by simp)]
    simpa using this
theorem opName_len (k : Nat) : (opName k).length ≤ 8 := by
  by_cases h : k < 15
  · have h : k = 0 ∨ k = 1 ∨ k = 2 ∨ k = 3 ∨ k = 4 ∨ k = 5 ∨ k = 6 ∨ k = 7 ∨ k = 8 ∨ k = 9 ∨ k = 10 ∨ k = 11 ∨ k = 12 ∨ k = 13 ∨ k = 14 := by omega
    rcases h with rfl | rfl | rfl | rfl | rfl | rfl | rfl | rfl | rfl | rfl | rfl | rfl | rfl | rfl | rfl <;> decide
  have e : opName k = [] := by
    unfold opName List.getD
    rw [List.getElem?_eq_none (by simp only [List.length_cons,List.length_nil]; omega)]
    rfl
  rw [e]; decide
theorem insText_yes {k : Nat} (h : k ≤ 5) (v : Int) : insText (k,v) = 9 :: (opName k ++ 32 :: (Lib.itoa v ++ [10])) := by simp [insText,h]
theorem insText_no {k : Nat} (h : ¬ k ≤ 5) (v : Int) : insText (k,v) = 9 :: (opName k ++ [10]) := by simp [insText,h]
theorem wfn_f (lo bb : Nat) (l : List UInt8) (g o : Nat) (f : CF) (kv : Value) (w : World) (hB : Bdr lo bb l w) (ht : Tab w) (hlo : 0 < lo) (hf : FnIn lo w g o f kv) (hr : CRow (fun k => k < lo) w 196 2 kv f.code.length (insCells f.code)) (hsl : f.slots ≤ 100000) (hcl : f.code.length ≤ 100000) (hop : ∀ x ∈ f.code,x.1 < 15 ∧ -9223372036854775808 ≤ x.2 ∧ x.2 ≤ 9223372036854775807) (hp : f.pub = false)
    (hL : l.length + (fnText f).length ≤ 100000000000000) :
    Calls Tryz.prog 68 #[.pointer (some ⟨bb,0,none⟩),.pointer (some ⟨g,o,none⟩)] w fun e w' => e = .returned (.tuple #[]) ∧ Bdr lo bb (l ++ fnText f) w' ∧ Below lo w w' := by
  obtain ⟨ko,kc,rfl⟩ := owns_shape' hr.1
  have hlw := hB.low
  have hglo := hf.gl
  have HR := hide hr
  have HOp := hide hop
  have HTx := hide (fnText_len f)
  have HLt := hide hL
  have HPt := hide (show pubT f.pub = [] by rw [hp]; rfl)
  have s1 : -9223372036854775808 ≤ (f.slots : Int) := by omega
  have s2 : (f.slots : Int) ≤ 9223372036854775807 := by omega
  have HLi := hide (line_bytes f)
  have hit := Lib.itoa_length_le (f.slots : Int) s1 s2
  have hln : (fnLine f).length = 3 + f.mod.length + 1 + f.name.length + 1 + f.sig.length + 7 + (Lib.itoa (f.slots : Int)).length + 1 := by simp [fnLine]; omega
  have hlb := fnText_len f 0
  simp only [List.length_append] at hlb
  have n1 : ¬ 9223372036854775807 < 3 + f.mod.length := by omega
  have n2 : ¬ 9223372036854775807 < 3 + f.mod.length + 1 := by omega
  have n3 : ¬ 9223372036854775807 < 3 + f.mod.length + 1 + f.name.length := by omega
  have n4 : ¬ 9223372036854775807 < 3 + f.mod.length + 1 + f.name.length + 1 := by omega
  have n5 : ¬ 9223372036854775807 < 3 + f.mod.length + 1 + f.name.length + 1 + f.sig.length := by omega
  have n6 : ¬ 9223372036854775807 < 3 + f.mod.length + 1 + f.name.length + 1 + f.sig.length + 7 := by omega
  have n7 : ¬ 9223372036854775807 < 3 + f.mod.length + 1 + f.name.length + 1 + f.sig.length + 7 + (Lib.itoa (f.slots : Int)).length := by omega
  have n8 : ¬ 9223372036854775807 < 3 + f.mod.length + 1 + f.name.length + 1 + f.sig.length + 7 + (Lib.itoa (f.slots : Int)).length + 1 := by omega
  have HLb := hide (show (l ++ pubT f.pub).length + (fnLine f).length ≤ 100000000000000 by rw [List.length_append]; omega)
  have hgl : g < w.heap.size := by omega
  have c0 := hf.c0
  have c1 := hf.c1
  have c2 := hf.c2
  have c4 := hf.c4
  have c5 := hf.c5
  have c6 := hf.c6
  rw [hp] at c2
  have HBd := hide (show Bdr lo bb (l ++ pubT f.pub) w by rw [HPt.out,List.append_nil]; exact hB)
  have HLw := hide (Below.refl lo w)
  have HT := hide ht
  have HT1 := hide ht
  have HF := hide hf
  clear hB ht hf hr hop hit hln hlb hL
  go_enter Tryz.func68,Tryz.ntmps68
  go_wp2
  go_region_held3 (fun w' => w'.cell? ⟨g,o,none⟩ = some (.string ⟨f.mod.toArray⟩) ∧ w'.cell? ⟨g,o + 1,none⟩ = some (.string ⟨f.name.toArray⟩) ∧ w'.cell? ⟨g,o + 4,none⟩ = some (.string ⟨f.sig.toArray⟩) ∧ w'.cell? ⟨g,o + 5,none⟩ = some (.int .i64 f.slots)) (go_keep)
    (first
      | (go_at_call 67; refine (itoa_any _ s1 s2 w.drew HT.out).mono ?_; rintro e w2 ⟨rfl,hb2⟩; have HB2 := hide hb2; have k0 := cellB (w := w.drew) hb2 hgl c0; have k1 := cellB (w := w.drew) hb2 hgl c1; have k4 := cellB (w := w.drew) hb2 hgl c4; have k5 := cellB (w := w.drew) hb2 hgl c5; clear hb2)
      | (go_at_call 66; refine (wstr_ba lo bb _ _ w2 (Bdr.below (w := w.drew) HBd.out HB2.out) (by rw [HLi.out]; exact HLb.out)).mono ?_; rintro e w3 ⟨⟨n9,rfl⟩,hb3,hw3⟩; have HB3 := hide hb3; have HW3 := hide hw3; have m0 := cellB hw3.bel hglo k0; have m1 := cellB hw3.bel hglo k1; have m4 := cellB hw3.bel hglo k4; have m5 := cellB hw3.bel hglo k5; clear hb3 hw3))
  have HL3 := hide (show Below lo w w3 from HLw.out.trans ((show Below lo w w2 from (below_undrew HB2.out).mono (by show lo ≤ (w).heap.size; omega)).trans HW3.out.bel))
  have HB4 := hide (show Bdr lo bb (l ++ pubT f.pub ++ fnLine f) w3 by have := HB3.out; rw [HLi.out] at this; exact this)
  clear HB3 HW3 HB2 HBd HT HLw HLi
  have HT9 := hide (show Tab w from HT1.out)
  have e6 := (HF.out.below HL3.out).c6
  have hs3 := HL3.out.size
  have hg3 : g < w3.heap.size := by have := HB4.out.low; omega
  clear c0 c1 c4 c5 c6 m0 m1 m4 m5 k0 k1 k4 k5 n1 n2 n3 n4 n5 n6 n7 n8 c2
  go_wp2
  go_loopw [46] (fun i wr => ∃ j : Nat,j ≤ f.code.length ∧ i = .int .i64 j ∧ Hid (Bdr lo bb (l ++ (pubT f.pub ++ fnLine f ++ (f.code.take j).flatMap insText)) wr) ∧ Hid (Below lo w wr)) (fun i _ => f.code.length - (intOf i).toNat)
  case atStart => exact ⟨0,Nat.zero_le _,rfl,by show Bdr _ _ _ _; simpa [List.append_assoc] using HB4.out,HL3⟩
  obtain ⟨j,hj,rfl,HBr,HLr⟩ := hrel
  by_cases hlt : j < f.code.length
  · obtain ⟨kb,cap,cur,hk1,hk2,hk3,hk4,hk5⟩ := owr_shape HR.out.1 (by omega)
    simp only [Value.slice.injEq] at hk1
    obtain ⟨rfl,_,rfl⟩ := hk1
    have hkl : kb < lo := HR.out.2 kb rfl
    have hx := HOp.out f.code[j] (List.getElem_mem hlt)
    have hins : (insCells f.code)[j * 2]? = some (.int .i64 (f.code[j].1 : Nat)) ∧ (insCells f.code)[j * 2 + 1]? = some (.int .i64 f.code[j].2) := ins_at f.code j hlt
    have q0 := cellB HLr.out hkl ((owns_cell HR.out.1 (j * 2) (by omega)).trans hins.1)
    have q1 := cellB HLr.out hkl ((owns_cell HR.out.1 (j * 2 + 1) (by omega)).trans hins.2)
    have hbr := HBr.out.low
    have hkr : kb < wr.heap.size := by omega
    have hjc : j < kc := by omega
    have HTk := hide (show (f.code.take (j + 1)).flatMap insText = (f.code.take j).flatMap insText ++ insText f.code[j] by rw [List.take_succ_eq_append_getElem hlt,List.flatMap_append]; simp)
    have hb1 := HTx.out (j + 1)
    rw [HTk.out] at hb1
    have hLt := HLt.out
    generalize f.code[j] = x at *
    obtain ⟨k,v⟩ := x
    simp only at hx q0 q1
    obtain ⟨hk15,hv1,hv2⟩ := hx
    have hit := Lib.itoa_length_le v hv1 hv2
    have hon := opName_len k
    have hilen : (insText (k,v)).length ≤ 100 ∧ 2 + (opName k).length ≤ (insText (k,v)).length := by unfold insText; constructor <;> (split <;> simp <;> omega)
    have hfin : (l ++ (pubT f.pub ++ fnLine f ++ (f.code.take j).flatMap insText)).length + 100 ≤ 100000000000100 := by
      simp only [List.length_append] at hb1 ⊢; omega
    have nn : ¬ 9223372036854775807 < 1 + (opName k).length := by omega
    have HIn := hide (show ∀ t,t = insText (k,v) → l ++ (pubT f.pub ++ fnLine f ++ (f.code.take (j + 1)).flatMap insText) = (l ++ (pubT f.pub ++ fnLine f ++ (f.code.take j).flatMap insText)) ++ t from fun t e => by rw [HTk.out,e]; simp [List.append_assoc])
    have hTw := HT9.out
    by_cases h5 : k ≤ 5
    · have HV := hide (show ∀ W,Calls Tryz.prog 104 #[.int .i64 k] W fun e w' => e = .returned (.bool true) ∧ w' = W from fun W => by have := hasV_any k W; rw [decide_eq_true h5] at this; exact this)
      have nv : ¬ 9223372036854775807 < 1 + (Lib.itoa v).length := by omega
      have hil : (insText (k,v)).length = 3 + (opName k).length + (Lib.itoa v).length := by rw [insText_yes h5]; simp; omega
      go_wp2_with fail
      refine (opStr_any k hk15 _).mono ?_
      rintro e w5 ⟨rfl,rfl⟩
      go_wp2_with fail
      refine (wstr_ba lo bb (l ++ (pubT f.pub ++ fnLine f ++ (f.code.take j).flatMap insText)) _ _ (HBr.out.below ((Below.refl _ _).alloc (Nat.le_refl _) _)) (by simp only [ByteArray.data_append,Array.toList_append,List.length_append,List.length_cons,List.length_nil] at *; omega)).mono ?_
      rintro e w6 ⟨⟨n6,rfl⟩,hb6,ho6⟩
      have hA6 := ho6.block (block_new wr _) (by omega) (by decide)
      have HB6 := hide hb6
      have HL6 := hide (show Below lo w w6 from (HLr.out.alloc (by omega) _).trans ho6.bel)
      have hs6 := hb6.low
      have a0 := cell_block hA6 0
      have a1 := cell_block hA6 1
      have as6 := lt_of_some hA6
      simp at a0 a1
      clear hb6 ho6
      go_wp2_with fail
      refine (HV.out _).mono ?_
      rintro e w7 ⟨rfl,rfl⟩
      go_wp2_with fail
      refine (itoa_any v hv1 hv2 _ (hTw.below HL6.out hlo)).mono ?_
      rintro e w7 ⟨rfl,hb7⟩
      have HB7 := hide (HB6.out.below hb7)
      have HL7 := hide (HL6.out.trans (hb7.mono (by omega)))
      clear hb7
      go_wp2_with fail
      refine (wstr_ba lo bb _ _ _ HB7.out (by simp only [ByteArray.data_append,Array.toList_append,List.length_append,List.length_cons,List.length_nil] at *; omega)).mono ?_
      rintro e w8 ⟨⟨n8,rfl⟩,hb8,ho8⟩
      have HB8 := hide hb8
      have HL8 := hide (HL7.out.trans ho8.bel)
      clear hb8 ho8
      go_wp2_with fail
      refine (wstr_ba lo bb _ _ _ HB8.out (by simp only [ByteArray.data_append,Array.toList_append,List.length_append,List.length_cons,List.length_nil] at *; omega)).mono ?_
      rintro e w9 ⟨⟨n9,rfl⟩,hb9,ho9⟩
      have HB9 := hide hb9
      have HL9 := hide (HL8.out.trans ho9.bel)
      clear hb9 ho9
      go_wp2
      go_roundw
      case rel => exact ⟨j + 1,by omega,by go_num,by show Bdr _ _ _ _; rw [HIn.out _ rfl,insText_yes h5]; have := HB9.out; simpa [List.append_assoc] using this,HL9⟩
      case measure => simp [intOf]; omega
    · have HV := hide (show ∀ W,Calls Tryz.prog 104 #[.int .i64 k] W fun e w' => e = .returned (.bool false) ∧ w' = W from fun W => by have := hasV_any k W; rw [decide_eq_false h5] at this; exact this)
      have hil : (insText (k,v)).length = 2 + (opName k).length := by rw [insText_no h5]; simp; omega
      go_wp2_with fail
      refine (opStr_any k hk15 _).mono ?_
      rintro e w5 ⟨rfl,rfl⟩
      go_wp2_with fail
      refine (wstr_ba lo bb (l ++ (pubT f.pub ++ fnLine f ++ (f.code.take j).flatMap insText)) _ _ (HBr.out.below ((Below.refl _ _).alloc (Nat.le_refl _) _)) (by simp only [ByteArray.data_append,Array.toList_append,List.length_append,List.length_cons,List.length_nil] at *; omega)).mono ?_
      rintro e w6 ⟨⟨n6,rfl⟩,hb6,ho6⟩
      have hA6 := ho6.block (block_new wr _) (by omega) (by decide)
      have HB6 := hide hb6
      have HL6 := hide (show Below lo w w6 from (HLr.out.alloc (by omega) _).trans ho6.bel)
      have hs6 := hb6.low
      have a0 := cell_block hA6 0
      have a1 := cell_block hA6 1
      have as6 := lt_of_some hA6
      simp at a0 a1
      clear hb6 ho6
      go_wp2_with fail
      refine (HV.out _).mono ?_
      rintro e w7 ⟨rfl,rfl⟩
      go_wp2_with fail
      refine (wstr_ba lo bb _ _ _ HB6.out (by simp only [ByteArray.data_append,Array.toList_append,List.length_append,List.length_cons,List.length_nil] at *; omega)).mono ?_
      rintro e w9 ⟨⟨n9,rfl⟩,hb9,ho9⟩
      have HB9 := hide hb9
      have HL9 := hide (HL6.out.trans ho9.bel)
      clear hb9 ho9
      go_wp2
      go_roundw
      case rel => exact ⟨j + 1,by omega,by go_num,by show Bdr _ _ _ _; rw [HIn.out _ rfl,insText_no h5]; have := HB9.out; simpa [List.append_assoc] using this,HL9⟩
      case measure => simp [intOf]; omega
  have hje : j = f.code.length := by omega
  subst hje
  have HF2 := hide (show f.code.take f.code.length = f.code from List.take_length)
  go_wp2
  go_end0
  exact ⟨rfl,by have := HBr.out; rw [HF2.out] at this; exact this,HLr.out⟩
theorem wfn_t (lo bb : Nat) (l : List UInt8) (g o : Nat) (f : CF) (kv : Value) (w : World) (hB : Bdr lo bb l w) (ht : Tab w) (hlo : 0 < lo) (hf : FnIn lo w g o f kv) (hr : CRow (fun k => k < lo) w 196 2 kv f.code.length (insCells f.code)) (hsl : f.slots ≤ 100000) (hcl : f.code.length ≤ 100000) (hop : ∀ x ∈ f.code,x.1 < 15 ∧ -9223372036854775808 ≤ x.2 ∧ x.2 ≤ 9223372036854775807) (hp : f.pub = true)
    (hL : l.length + (fnText f).length ≤ 100000000000000) :
    Calls Tryz.prog 68 #[.pointer (some ⟨bb,0,none⟩),.pointer (some ⟨g,o,none⟩)] w fun e w' => e = .returned (.tuple #[]) ∧ Bdr lo bb (l ++ fnText f) w' ∧ Below lo w w' := by
  obtain ⟨ko,kc,rfl⟩ := owns_shape' hr.1
  have hlw := hB.low
  have hglo := hf.gl
  have HR := hide hr
  have HOp := hide hop
  have HTx := hide (fnText_len f)
  have HLt := hide hL
  have HPt := hide (show pubT f.pub = [112,117,98,32] by rw [hp]; rfl)
  have s1 : -9223372036854775808 ≤ (f.slots : Int) := by omega
  have s2 : (f.slots : Int) ≤ 9223372036854775807 := by omega
  have HLi := hide (line_bytes f)
  have hit := Lib.itoa_length_le (f.slots : Int) s1 s2
  have hln : (fnLine f).length = 3 + f.mod.length + 1 + f.name.length + 1 + f.sig.length + 7 + (Lib.itoa (f.slots : Int)).length + 1 := by simp [fnLine]; omega
  have hlb := fnText_len f 0
  simp only [List.length_append] at hlb
  have n1 : ¬ 9223372036854775807 < 3 + f.mod.length := by omega
  have n2 : ¬ 9223372036854775807 < 3 + f.mod.length + 1 := by omega
  have n3 : ¬ 9223372036854775807 < 3 + f.mod.length + 1 + f.name.length := by omega
  have n4 : ¬ 9223372036854775807 < 3 + f.mod.length + 1 + f.name.length + 1 := by omega
  have n5 : ¬ 9223372036854775807 < 3 + f.mod.length + 1 + f.name.length + 1 + f.sig.length := by omega
  have n6 : ¬ 9223372036854775807 < 3 + f.mod.length + 1 + f.name.length + 1 + f.sig.length + 7 := by omega
  have n7 : ¬ 9223372036854775807 < 3 + f.mod.length + 1 + f.name.length + 1 + f.sig.length + 7 + (Lib.itoa (f.slots : Int)).length := by omega
  have n8 : ¬ 9223372036854775807 < 3 + f.mod.length + 1 + f.name.length + 1 + f.sig.length + 7 + (Lib.itoa (f.slots : Int)).length + 1 := by omega
  have HLb := hide (show (l ++ pubT f.pub).length + (fnLine f).length ≤ 100000000000000 by rw [List.length_append]; omega)
  have HL0 := hide (show l.length + ([112,117,98,32] : List UInt8).length ≤ 100000000000000 by rw [← HPt.out]; omega)
  have d2 := hf.c2
  rw [hp] at d2
  have hgw : g < w.heap.size := by omega
  have HB0 := hide hB
  have HT1 := hide ht
  have HF := hide hf
  clear hB ht hf hr hop hit hln hlb hL
  go_enter Tryz.func68,Tryz.ntmps68
  go_wp2_with fail
  refine (wstr_any lo bb l [112,117,98,32] _ HB0.out HL0.out).mono ?_
  rintro e w1 ⟨rfl,hb1,hw1⟩
  have HBd := hide (show Bdr lo bb (l ++ pubT f.pub) w1 by rw [HPt.out]; exact hb1)
  have HLw := hide hw1.bel
  have HT := hide (HT1.out.below hw1.bel hlo)
  have hf1 := HF.out.below hw1.bel
  have hl1 := hb1.low
  have hgl : g < w1.heap.size := by omega
  have c0 := hf1.c0
  have c1 := hf1.c1
  have c4 := hf1.c4
  have c5 := hf1.c5
  have c6 := hf1.c6
  clear hb1 hw1 hf1 HB0
  go_wp2
  go_region_held3 (fun w' => w'.cell? ⟨g,o,none⟩ = some (.string ⟨f.mod.toArray⟩) ∧ w'.cell? ⟨g,o + 1,none⟩ = some (.string ⟨f.name.toArray⟩) ∧ w'.cell? ⟨g,o + 4,none⟩ = some (.string ⟨f.sig.toArray⟩) ∧ w'.cell? ⟨g,o + 5,none⟩ = some (.int .i64 f.slots)) (go_keep)
    (first
      | (go_at_call 67; refine (itoa_any _ s1 s2 w1.drew HT.out).mono ?_; rintro e w2 ⟨rfl,hb2⟩; have HB2 := hide hb2; have k0 := cellB (w := w1.drew) hb2 hgl c0; have k1 := cellB (w := w1.drew) hb2 hgl c1; have k4 := cellB (w := w1.drew) hb2 hgl c4; have k5 := cellB (w := w1.drew) hb2 hgl c5; clear hb2)
      | (go_at_call 66; refine (wstr_ba lo bb _ _ w2 (Bdr.below (w := w1.drew) HBd.out HB2.out) (by rw [HLi.out]; exact HLb.out)).mono ?_; rintro e w3 ⟨⟨n9,rfl⟩,hb3,hw3⟩; have HB3 := hide hb3; have HW3 := hide hw3; have m0 := cellB hw3.bel hglo k0; have m1 := cellB hw3.bel hglo k1; have m4 := cellB hw3.bel hglo k4; have m5 := cellB hw3.bel hglo k5; clear hb3 hw3))
  have HL3 := hide (show Below lo w w3 from HLw.out.trans ((show Below lo w1 w2 from (below_undrew HB2.out).mono (by show lo ≤ (w1).heap.size; omega)).trans HW3.out.bel))
  have HB4 := hide (show Bdr lo bb (l ++ pubT f.pub ++ fnLine f) w3 by have := HB3.out; rw [HLi.out] at this; exact this)
  clear HB3 HW3 HB2 HBd HT HLw HLi
  have HT9 := hide (show Tab w from HT1.out)
  have e6 := (HF.out.below HL3.out).c6
  have hs3 := HL3.out.size
  have hg3 : g < w3.heap.size := by have := HB4.out.low; omega
  clear c0 c1 c4 c5 c6 m0 m1 m4 m5 k0 k1 k4 k5 n1 n2 n3 n4 n5 n6 n7 n8 d2
  go_wp2
  go_loopw [46] (fun i wr => ∃ j : Nat,j ≤ f.code.length ∧ i = .int .i64 j ∧ Hid (Bdr lo bb (l ++ (pubT f.pub ++ fnLine f ++ (f.code.take j).flatMap insText)) wr) ∧ Hid (Below lo w wr)) (fun i _ => f.code.length - (intOf i).toNat)
  case atStart => exact ⟨0,Nat.zero_le _,rfl,by show Bdr _ _ _ _; simpa [List.append_assoc] using HB4.out,HL3⟩
  obtain ⟨j,hj,rfl,HBr,HLr⟩ := hrel
  by_cases hlt : j < f.code.length
  · obtain ⟨kb,cap,cur,hk1,hk2,hk3,hk4,hk5⟩ := owr_shape HR.out.1 (by omega)
    simp only [Value.slice.injEq] at hk1
    obtain ⟨rfl,_,rfl⟩ := hk1
    have hkl : kb < lo := HR.out.2 kb rfl
    have hx := HOp.out f.code[j] (List.getElem_mem hlt)
    have hins : (insCells f.code)[j * 2]? = some (.int .i64 (f.code[j].1 : Nat)) ∧ (insCells f.code)[j * 2 + 1]? = some (.int .i64 f.code[j].2) := ins_at f.code j hlt
    have q0 := cellB HLr.out hkl ((owns_cell HR.out.1 (j * 2) (by omega)).trans hins.1)
    have q1 := cellB HLr.out hkl ((owns_cell HR.out.1 (j * 2 + 1) (by omega)).trans hins.2)
    have hbr := HBr.out.low
    have hkr : kb < wr.heap.size := by omega
    have hjc : j < kc := by omega
    have HTk := hide (show (f.code.take (j + 1)).flatMap insText = (f.code.take j).flatMap insText ++ insText f.code[j] by rw [List.take_succ_eq_append_getElem hlt,List.flatMap_append]; simp)
    have hb1 := HTx.out (j + 1)
    rw [HTk.out] at hb1
    have hLt := HLt.out
    generalize f.code[j] = x at *
    obtain ⟨k,v⟩ := x
    simp only at hx q0 q1
    obtain ⟨hk15,hv1,hv2⟩ := hx
    have hit := Lib.itoa_length_le v hv1 hv2
    have hon := opName_len k
    have hilen : (insText (k,v)).length ≤ 100 ∧ 2 + (opName k).length ≤ (insText (k,v)).length := by unfold insText; constructor <;> (split <;> simp <;> omega)
    have hfin : (l ++ (pubT f.pub ++ fnLine f ++ (f.code.take j).flatMap insText)).length + 100 ≤ 100000000000100 := by
      simp only [List.length_append] at hb1 ⊢; omega
    have nn : ¬ 9223372036854775807 < 1 + (opName k).length := by omega
    have HIn := hide (show ∀ t,t = insText (k,v) → l ++ (pubT f.pub ++ fnLine f ++ (f.code.take (j + 1)).flatMap insText) = (l ++ (pubT f.pub ++ fnLine f ++ (f.code.take j).flatMap insText)) ++ t from fun t e => by rw [HTk.out,e]; simp [List.append_assoc])
    have hTw := HT9.out
    by_cases h5 : k ≤ 5
    · have HV := hide (show ∀ W,Calls Tryz.prog 104 #[.int .i64 k] W fun e w' => e = .returned (.bool true) ∧ w' = W from fun W => by have := hasV_any k W; rw [decide_eq_true h5] at this; exact this)
      have nv : ¬ 9223372036854775807 < 1 + (Lib.itoa v).length := by omega
      have hil : (insText (k,v)).length = 3 + (opName k).length + (Lib.itoa v).length := by rw [insText_yes h5]; simp; omega
      go_wp2_with fail
      refine (opStr_any k hk15 _).mono ?_
      rintro e w5 ⟨rfl,rfl⟩
      go_wp2_with fail
      refine (wstr_ba lo bb (l ++ (pubT f.pub ++ fnLine f ++ (f.code.take j).flatMap insText)) _ _ (HBr.out.below ((Below.refl _ _).alloc (Nat.le_refl _) _)) (by simp only [ByteArray.data_append,Array.toList_append,List.length_append,List.length_cons,List.length_nil] at *; omega)).mono ?_
      rintro e w6 ⟨⟨n6,rfl⟩,hb6,ho6⟩
      have hA6 := ho6.block (block_new wr _) (by omega) (by decide)
      have HB6 := hide hb6
      have HL6 := hide (show Below lo w w6 from (HLr.out.alloc (by omega) _).trans ho6.bel)
      have hs6 := hb6.low
      have a0 := cell_block hA6 0
      have a1 := cell_block hA6 1
      have as6 := lt_of_some hA6
      simp at a0 a1
      clear hb6 ho6
      go_wp2_with fail
      refine (HV.out _).mono ?_
      rintro e w7 ⟨rfl,rfl⟩
      go_wp2_with fail
      refine (itoa_any v hv1 hv2 _ (hTw.below HL6.out hlo)).mono ?_
      rintro e w7 ⟨rfl,hb7⟩
      have HB7 := hide (HB6.out.below hb7)
      have HL7 := hide (HL6.out.trans (hb7.mono (by omega)))
      clear hb7
      go_wp2_with fail
      refine (wstr_ba lo bb _ _ _ HB7.out (by simp only [ByteArray.data_append,Array.toList_append,List.length_append,List.length_cons,List.length_nil] at *; omega)).mono ?_
      rintro e w8 ⟨⟨n8,rfl⟩,hb8,ho8⟩
      have HB8 := hide hb8
      have HL8 := hide (HL7.out.trans ho8.bel)
      clear hb8 ho8
      go_wp2_with fail
      refine (wstr_ba lo bb _ _ _ HB8.out (by simp only [ByteArray.data_append,Array.toList_append,List.length_append,List.length_cons,List.length_nil] at *; omega)).mono ?_
      rintro e w9 ⟨⟨n9,rfl⟩,hb9,ho9⟩
      have HB9 := hide hb9
      have HL9 := hide (HL8.out.trans ho9.bel)
      clear hb9 ho9
      go_wp2
      go_roundw
      case rel => exact ⟨j + 1,by omega,by go_num,by show Bdr _ _ _ _; rw [HIn.out _ rfl,insText_yes h5]; have := HB9.out; simpa [List.append_assoc] using this,HL9⟩
      case measure => simp [intOf]; omega
    · have HV := hide (show ∀ W,Calls Tryz.prog 104 #[.int .i64 k] W fun e w' => e = .returned (.bool false) ∧ w' = W from fun W => by have := hasV_any k W; rw [decide_eq_false h5] at this; exact this)
      have hil : (insText (k,v)).length = 2 + (opName k).length := by rw [insText_no h5]; simp; omega
      go_wp2_with fail
      refine (opStr_any k hk15 _).mono ?_
      rintro e w5 ⟨rfl,rfl⟩
      go_wp2_with fail
      refine (wstr_ba lo bb (l ++ (pubT f.pub ++ fnLine f ++ (f.code.take j).flatMap insText)) _ _ (HBr.out.below ((Below.refl _ _).alloc (Nat.le_refl _) _)) (by simp only [ByteArray.data_append,Array.toList_append,List.length_append,List.length_cons,List.length_nil] at *; omega)).mono ?_
      rintro e w6 ⟨⟨n6,rfl⟩,hb6,ho6⟩
      have hA6 := ho6.block (block_new wr _) (by omega) (by decide)
      have HB6 := hide hb6
      have HL6 := hide (show Below lo w w6 from (HLr.out.alloc (by omega) _).trans ho6.bel)
      have hs6 := hb6.low
      have a0 := cell_block hA6 0
      have a1 := cell_block hA6 1
      have as6 := lt_of_some hA6
      simp at a0 a1
      clear hb6 ho6
      go_wp2_with fail
      refine (HV.out _).mono ?_
      rintro e w7 ⟨rfl,rfl⟩
      go_wp2_with fail
      refine (wstr_ba lo bb _ _ _ HB6.out (by simp only [ByteArray.data_append,Array.toList_append,List.length_append,List.length_cons,List.length_nil] at *; omega)).mono ?_
      rintro e w9 ⟨⟨n9,rfl⟩,hb9,ho9⟩
      have HB9 := hide hb9
      have HL9 := hide (HL6.out.trans ho9.bel)
      clear hb9 ho9
      go_wp2
      go_roundw
      case rel => exact ⟨j + 1,by omega,by go_num,by show Bdr _ _ _ _; rw [HIn.out _ rfl,insText_no h5]; have := HB9.out; simpa [List.append_assoc] using this,HL9⟩
      case measure => simp [intOf]; omega
  have hje : j = f.code.length := by omega
  subst hje
  have HF2 := hide (show f.code.take f.code.length = f.code from List.take_length)
  go_wp2
  go_end0
  exact ⟨rfl,by have := HBr.out; rw [HF2.out] at this; exact this,HLr.out⟩
end Go.Proofs.YtpmmjkiclngpmaaGreatDoor
namespace Go.Proofs.YtpmmjkiclngpmaaGreatDoor
open Go.RowKit
def headT (n : Nat) : List UInt8 := [102,117,110,99,116,105,111,110,115,32] ++ Lib.itoa n ++ [10]
def imText (fs : List CF) : List UInt8 := headT fs.length ++ fs.flatMap fnText
theorem imText_ne (fs : List CF) : imText fs ≠ [] := by unfold imText headT; simp
theorem head_bytes (n : Nat) : ((({ data := #[102,117,110,99,116,105,111,110,115,32] } : ByteArray) ++ ⟨(Lib.itoa (n : Int)).toArray⟩) ++ ⟨#[10]⟩).data.toList = headT n := by simp [headT]
theorem imText_len (fs : List CF) (k : Nat) : (headT fs.length ++ (fs.take k).flatMap fnText).length ≤ (imText fs).length := by
  unfold imText
  conv => rhs; rw [← List.take_append_drop k fs]
  rw [List.flatMap_append]
  simp only [List.length_append,List.take_append_drop]
  omega
structure FT (f : CF) : Prop where
  slots : f.slots ≤ 100000
  len : f.code.length ≤ 100000
  ops : ∀ x ∈ f.code,x.1 < 15 ∧ -9223372036854775808 ≤ x.2 ∧ x.2 ≤ 9223372036854775807
theorem wfn_any (lo bb : Nat) (l : List UInt8) (g o : Nat) (f : CF) (kv : Value) (w : World) (hB : Bdr lo bb l w) (ht : Tab w) (hlo : 0 < lo) (hf : FnIn lo w g o f kv) (hr : CRow (fun k => k < lo) w 196 2 kv f.code.length (insCells f.code)) (hF : FT f)
    (hL : l.length + (fnText f).length ≤ 100000000000000) :
    Calls Tryz.prog 68 #[.pointer (some ⟨bb,0,none⟩),.pointer (some ⟨g,o,none⟩)] w fun e w' => e = .returned (.tuple #[]) ∧ Bdr lo bb (l ++ fnText f) w' ∧ Below lo w w' := by
  rcases hp : f.pub with _ | _
  · exact wfn_f lo bb l g o f kv w hB ht hlo hf hr hF.slots hF.len hF.ops hp hL
  exact wfn_t lo bb l g o f kv w hB ht hlo hf hr hF.slots hF.len hF.ops hp hL
theorem imText_any {S : Nat → Prop} {w : World} {ib : Nat} {fv : Value} {fs : List CF} (hb : w.heap[ib]? = some (.cells #[fv] 95 (0,0))) (hf : FnRow S w fv fs) (hn : fs.length ≤ 100000) (hF : ∀ f ∈ fs,FT f) (ht : Tab w) (hL : (imText fs).length ≤ 100000000000000) :
    Calls Tryz.prog 41 #[.pointer (some ⟨ib,0,none⟩)] w fun e w' => e = .returned (.string ⟨(imText fs).toArray⟩) ∧ Below w.heap.size w w' := by
  obtain ⟨xs,hxr,hxf⟩ := hf
  obtain ⟨fo,fc,rfl⟩ := owns_shape' hxr.1
  have c0 := cell_block hb 0
  have cl := lt_of_some hb
  simp at c0
  have HX := hide hxr
  have HXf := hide hxf
  have HFt := hide hF
  have HT := hide ht
  have h0 := ht.lt
  have s1 : -9223372036854775808 ≤ (fs.length : Int) := by omega
  have s2 : (fs.length : Int) ≤ 9223372036854775807 := by omega
  have hit := Lib.itoa_length_le (fs.length : Int) s1 s2
  have n1 : ¬ 9223372036854775807 < 10 + (Lib.itoa (fs.length : Int)).length := by omega
  have n2 : ¬ 9223372036854775807 < 10 + (Lib.itoa (fs.length : Int)).length + 1 := by omega
  have HHb := hide (head_bytes fs.length)
  have HLn := hide (imText_len fs)
  have HLt := hide hL
  have HHl := hide (show (headT fs.length).length ≤ 100000 by unfold headT; simp; omega)
  have hgW := (show ((w.alloc (.cells #[.pointer none,.slice none 0 0] 141)).heap.size = w.heap.size + 1) by simp)
  have HB0 := hide (Bdr.new w)
  have HL0 := hide (show Below w.heap.size w (w.alloc (.cells #[.pointer none,.slice none 0 0] 141)) from (Below.refl _ _).alloc (Nat.le_refl _) _)
  clear hxr hxf hF ht hL hit hgW
  go_enter Tryz.func41,Tryz.ntmps41
  go_wp2_with fail
  refine (itoa_any _ s1 s2 _ (HT.out.below HL0.out h0)).mono ?_
  rintro e w1 ⟨rfl,hb1⟩
  have HB1 := hide (HB0.out.below hb1)
  have HL1 := hide (HL0.out.trans (hb1.mono (by simp)))
  clear hb1
  go_wp2_with fail
  refine (wstr_ba w.heap.size w.heap.size [] _ _ HB1.out (by rw [HHb.out]; have := HHl.out; simp; omega)).mono ?_
  rintro e w2 ⟨⟨n9,rfl⟩,hb2,ho2⟩
  have HB2 := hide (show Bdr w.heap.size w.heap.size (headT fs.length ++ (fs.take 0).flatMap fnText) w2 by have := hb2; rw [HHb.out] at this; simpa using this)
  have HL2 := hide (HL1.out.trans ho2.bel)
  have d0 := cellB HL2.out cl c0
  have hs2 := HL2.out.size
  have cl2 : ib < w2.heap.size := by omega
  clear hb2 ho2
  go_wp2
  go_loopw [19] (fun i wr => ∃ j : Nat,j ≤ fs.length ∧ i = .int .i64 j ∧ Hid (Bdr w.heap.size w.heap.size (headT fs.length ++ (fs.take j).flatMap fnText) wr) ∧ Hid (Below w.heap.size w wr)) (fun i _ => fs.length - (intOf i).toNat)
  case atStart => exact ⟨0,Nat.zero_le _,rfl,HB2,HL2⟩
  obtain ⟨j,hj,rfl,HBr,HLr⟩ := hrel
  have hbr := HBr.out.low
  by_cases hlt : j < fs.length
  · obtain ⟨fb,cap,cur,hk1,hk2,hk3,hk4,hk5⟩ := owr_shape HX.out.1 (by omega)
    simp only [Value.slice.injEq] at hk1
    obtain ⟨rfl,_,rfl⟩ := hk1
    have hfl := lt_of_some hk3
    obtain ⟨pv,kv,lv,hrw,hce⟩ := HXf.out.at j hlt
    have hq : ∀ c,c < 8 → w.cell? ⟨fb,j * 8 + c,none⟩ = (fnCells fs[j] pv kv lv)[c]? := fun c hc => (owns_cell HX.out.1 (j * 8 + c) (by omega)).trans (hce c hc)
    have HFi := hide (show FnIn w.heap.size wr fb (j * 8) fs[j] kv from FnIn.below ⟨hfl,hq 0 (by omega),hq 1 (by omega),hq 2 (by omega),hq 4 (by omega),hq 5 (by omega),hq 6 (by omega)⟩ HLr.out)
    have HRw := hide (show CRow (fun k => k < w.heap.size) wr 196 2 kv fs[j].code.length (insCells fs[j].code) from CRow.keep (S := fun k => k < w.heap.size) ⟨hrw.co.1,fun k e => (owns_block hrw.co.1 k e).2⟩ fun k h1 h2 => ⟨h1,HLr.out.block k h1⟩)
    have HFj := hide (HFt.out fs[j] (List.getElem_mem hlt))
    have HTk := hide (show (fs.take (j + 1)).flatMap fnText = (fs.take j).flatMap fnText ++ fnText fs[j] by rw [List.take_succ_eq_append_getElem hlt,List.flatMap_append]; simp)
    have HLj := hide (show (headT fs.length ++ (fs.take j).flatMap fnText).length + (fnText fs[j]).length ≤ 100000000000000 by
      have := HLn.out (j + 1)
      rw [HTk.out] at this
      have h2 := HLt.out
      simp only [List.length_append] at this ⊢
      omega)
    have r0 := cellB HLr.out cl c0
    have hir : ib < wr.heap.size := by omega
    have hfr : fb < wr.heap.size := by omega
    have hjc : j < fc := by omega
    have HTr := hide (HT.out.below HLr.out h0)
    clear hrw hce hq hk3 hk4 hk5 hbr
    go_wp2_with fail
    refine (wfn_any w.heap.size w.heap.size _ fb (j * 8) fs[j] kv _ HBr.out HTr.out h0 HFi.out HRw.out HFj.out HLj.out).mono ?_
    rintro e w3 ⟨rfl,hb3,hw3⟩
    have HB3 := hide hb3
    have HL3 := hide (HLr.out.trans hw3)
    clear hb3 hw3
    go_wp2
    go_roundw
    case rel => exact ⟨j + 1,by omega,by go_num,by show Bdr _ _ _ _; rw [HTk.out,← List.append_assoc]; exact HB3.out,HL3⟩
    case measure => simp [intOf]; omega
  have hje : j = fs.length := by omega
  subst hje
  have HBe := hide (show Bdr w.heap.size w.heap.size (imText fs) wr by have := HBr.out; rw [List.take_length] at this; exact this)
  have hne := imText_ne fs
  go_wp2_with fail
  refine (bstr_any w.heap.size w.heap.size (imText fs) _ HBe.out hne).mono ?_
  rintro e w3 ⟨rfl,hw3⟩
  have HL3 := hide (HLr.out.trans hw3)
  clear hw3
  go_wp2
  go_ret
  exact ⟨rfl,HL3.out⟩
def imgT (s : Sto) : List UInt8 := match s.img with | none => [] | some fs => imText fs
theorem image_any {w : World} {p : SP} {s : Sto} (h : StAt w p s) (hok : ∀ fs,s.img = some fs → fs.length ≤ 100000 ∧ (∀ f ∈ fs,FT f) ∧ (imText fs).length ≤ 100000000000000) (ht : Tab w) :
    Calls Tryz.prog 20 #[.pointer (some ⟨p.sb,0,none⟩)] w fun e w' => e = .returned (.string ⟨(imgT s).toArray⟩) ∧ Below w.heap.size w w' := by
  obtain ⟨ip,hb,him⟩ := h.blk
  have c3 := cell_block hb 3
  have cl := lt_of_some hb
  simp at c3
  rcases hi : s.img with _ | fs
  · rw [hi] at him
    have e : ip = none := him
    subst e
    have HE := hide (show imgT s = [] by unfold imgT; rw [hi])
    clear h hok hb him ht
    go_enter Tryz.func20,Tryz.ntmps20
    go_wp2
    go_ret
    exact ⟨ret_str (by rw [HE.out]),Below.refl _ _⟩
  rw [hi] at him
  obtain ⟨ib,fv,rfl,hSib,hib,hfr⟩ := him
  obtain ⟨h1,h2,h3⟩ := hok fs hi
  have HE := hide (show imgT s = imText fs by unfold imgT; rw [hi])
  have HC := hide (imText_any hib hfr h1 h2 ht h3)
  have ibl := lt_of_some hib
  clear h hok hb ht hib hfr h1 h2 h3
  go_enter Tryz.func20,Tryz.ntmps20
  go_wp2_with fail
  refine HC.out.mono ?_
  rintro e w1 ⟨rfl,hb1⟩
  have HB1 := hide hb1
  clear hb1
  go_wp2
  go_ret
  exact ⟨ret_str (by rw [HE.out]),HB1.out⟩
end Go.Proofs.YtpmmjkiclngpmaaGreatDoor
namespace Go.Proofs.YtpmmjkiclngpmaaGreatDoor
open Go.RowKit
theorem cgs_mem {g : Nat → Ex → List (Nat × Int)} {x : Nat × Int} : ∀ (l : List Ex) (p : Nat),x ∈ cgs g p l → ∃ e ∈ l,∃ p',p' + (g p' e).length ≤ p + (cgs g p l).length ∧ x ∈ g p' e
  | [],p,h => by cases h
  | e :: r,p,h => by
    unfold cgs at h ⊢
    rw [List.length_append]
    rcases List.mem_append.1 h with h | h
    · exact ⟨e,by simp,p,by omega,h⟩
    · obtain ⟨e',h1,p',h2,h3⟩ := cgs_mem r _ h
      exact ⟨e',by simp [h1],p',by omega,h3⟩
theorem slotI_bd (sc : List Nm) (n : Nm) : -1 ≤ slotI sc n ∧ slotI sc n ≤ sc.length := by
  unfold slotI
  by_cases e : sc = []
  · subst e; simp [slotR]
  have := slotR_in n sc.reverse (by simpa using e)
  rw [List.length_reverse] at this
  omega
theorem cg_ops {cal : Nm → Nat} {C : Nat} (hC : ∀ n,cal n ≤ C) : ∀ (m : Nat) (sc : List Nm) (p : Nat) (e : Ex),Armed m e → ∀ x ∈ cg cal m sc p e,x.1 < 15 ∧ -1 ≤ x.2 ∧ x.2 ≤ 100000000000 + ((C + sc.length + m + p + (cg cal m sc p e).length : Nat) : Int) := by
  intro m
  induction m with
  | zero => intro sc p e _ x hx; cases hx
  | succ m ih =>
    intro sc p e har x hx
    obtain ⟨a2,a1,av,ap⟩ := har
    have parts : ∀ l : List Ex,(∀ e' ∈ l,e' ∈ e.parts) → ∀ p,∀ x ∈ cgs (cg cal m sc) p l,x.1 < 15 ∧ -1 ≤ x.2 ∧ x.2 ≤ 100000000000 + ((C + sc.length + m + p + (cgs (cg cal m sc) p l).length : Nat) : Int) := fun l hl p x hx => by
      obtain ⟨e',h1,p',h2,h3⟩ := cgs_mem l p hx
      obtain ⟨b1,b2,b3⟩ := ih sc p' e' (ap e' (hl e' h1)) x h3
      exact ⟨b1,b2,by omega⟩
    unfold cg at hx ⊢
    split at hx
    · next hk =>
      rw [if_pos hk]
      simp only [List.mem_singleton] at hx
      subst hx
      exact ⟨by simp,by simp; omega,by simp; omega⟩
    next hk =>
    rw [if_neg hk]
    split at hx
    · next hk2 =>
      rw [if_pos hk2]
      simp only [List.mem_singleton] at hx
      subst hx
      have := slotI_bd sc e.name
      exact ⟨by simp,this.1,by simp; omega⟩
    next hk2 =>
    rw [if_neg hk2]
    split at hx
    · next hk4 =>
      rw [if_pos hk4]
      obtain ⟨b1,b2,b3⟩ := parts _ (fun e' he => List.mem_of_mem_take he) p x hx
      exact ⟨b1,b2,by omega⟩
    next hk4 =>
    rw [if_neg hk4]
    split at hx
    · next hk5 =>
      rw [if_pos hk5]
      match hpp : e.parts with
      | [a,b,c] =>
        rw [hpp] at hx
        simp only at hx ⊢
        have ia := ih sc p a (ap a (by rw [hpp]; simp))
        have ib := ih sc (p + (cg cal m sc p a).length + 1) b (ap b (by rw [hpp]; simp))
        have ic := ih sc (p + (cg cal m sc p a).length + 1 + (cg cal m sc (p + (cg cal m sc p a).length + 1) b).length + 1) c (ap c (by rw [hpp]; simp))
        generalize cg cal m sc p a = X at *
        generalize cg cal m sc (p + X.length + 1) b = Y at *
        generalize cg cal m sc (p + X.length + 1 + Y.length + 1) c = Z at *
        have hlen : (X ++ [(4,((p + X.length + 1 + Y.length + 1 : Nat) : Int))] ++ Y ++ [(3,((p + X.length + 1 + Y.length + 1 + Z.length : Nat) : Int))] ++ Z).length = X.length + 1 + Y.length + 1 + Z.length := by simp; omega
        rw [hlen]
        simp only [List.mem_append,List.mem_singleton] at hx
        rcases hx with (((hx | hx) | hx) | hx) | hx
        · obtain ⟨b1,b2,b3⟩ := ia x hx; exact ⟨b1,b2,by omega⟩
        · subst hx; exact ⟨by simp,by simp; omega,by simp; omega⟩
        · obtain ⟨b1,b2,b3⟩ := ib x hx; exact ⟨b1,b2,by omega⟩
        · subst hx; exact ⟨by simp,by simp; omega,by simp; omega⟩
        · obtain ⟨b1,b2,b3⟩ := ic x hx; exact ⟨b1,b2,by omega⟩
      | [] => rw [hpp] at hx; cases hx
      | [a] => rw [hpp] at hx; cases hx
      | [a,b] => rw [hpp] at hx; cases hx
      | a :: b :: c :: d :: r => rw [hpp] at hx; cases hx
    next hk5 =>
    rw [if_neg hk5]
    split at hx
    · next hk6 =>
      rw [if_pos hk6]
      match hpp : e.parts with
      | [a,b] =>
        rw [hpp] at hx
        simp only at hx ⊢
        have ia := ih sc p a (ap a (by rw [hpp]; simp))
        have ib := ih (sc ++ [e.name]) (p + (cg cal m sc p a).length + 1) b (ap b (by rw [hpp]; simp))
        generalize cg cal m sc p a = X at *
        generalize cg cal m (sc ++ [e.name]) (p + X.length + 1) b = Y at *
        have hlen : (X ++ [(2,(sc.length : Int))] ++ Y).length = X.length + 1 + Y.length := by simp; omega
        rw [hlen]
        simp only [List.length_append,List.length_cons,List.length_nil] at ib
        simp only [List.mem_append,List.mem_singleton] at hx
        rcases hx with (hx | hx) | hx
        · obtain ⟨b1,b2,b3⟩ := ia x hx; exact ⟨b1,b2,by omega⟩
        · subst hx
          refine ⟨by simp,?_,?_⟩
          · show -1 ≤ (sc.length : Int); omega
          · show (sc.length : Int) ≤ _; omega
        · obtain ⟨b1,b2,b3⟩ := ib x hx; exact ⟨b1,b2,by omega⟩
      | [] => rw [hpp] at hx; cases hx
      | [a] => rw [hpp] at hx; cases hx
      | a :: b :: c :: r => rw [hpp] at hx; cases hx
    next hk6 =>
    rw [if_neg hk6]
    have hps := parts e.parts (fun _ h => h) p
    generalize cgs (cg cal m sc) p e.parts = X at *
    split at hx
    · next hk3 =>
      rw [if_pos hk3]
      rcases List.mem_append.1 hx with hx | hx
      · obtain ⟨b1,b2,b3⟩ := hps x hx; exact ⟨b1,b2,by rw [List.length_append]; omega⟩
      · simp only [List.mem_singleton] at hx
        subst hx
        have := hC e.name
        refine ⟨by simp,?_,?_⟩
        · show -1 ≤ ((cal e.name : Nat) : Int); omega
        · show ((cal e.name : Nat) : Int) ≤ _; rw [List.length_append]; omega
    · next hk3 =>
      rw [if_neg hk3]
      rcases List.mem_append.1 hx with hx | hx
      · obtain ⟨b1,b2,b3⟩ := hps x hx; exact ⟨b1,b2,by rw [List.length_append]; omega⟩
      · simp only [List.mem_singleton] at hx
        subst hx
        refine ⟨?_,by simp,by rw [List.length_append]; simp; omega⟩
        unfold opOf; split <;> omega
theorem plc_lt (y : Sym) : ∀ (n : Nat) (fs : List CF),fs.length = n → ∀ k,plc fs y = some k → k < fs.length := by
  intro n
  induction n with
  | zero => intro fs hl k h; rw [List.eq_nil_of_length_eq_zero hl] at h; cases h
  | succ n ih =>
    intro fs hl k h
    obtain ⟨a,z,rfl⟩ : ∃ a z,fs = a ++ [z] := ⟨fs.dropLast,fs.getLast (by intro e; rw [e] at hl; simp at hl),(List.dropLast_concat_getLast _).symm⟩
    rw [plc_snoc] at h
    simp only at h
    rw [List.length_append]
    split at h
    · simp only [Option.some.injEq] at h; subst h; simp
    · have := ih a (by simpa using hl) k h; simp; omega
theorem plN_le (fs : List CF) (y : Sym) : plN (plc fs) y ≤ fs.length := by
  unfold plN
  rcases h : plc fs y with _ | k
  · simp
  have := plc_lt y _ fs rfl k h
  show k ≤ _
  omega
theorem fl_len {α : Type} {g : α → List UInt8} {K : Nat} : ∀ (l : List α),(∀ x ∈ l,(g x).length ≤ K) → (l.flatMap g).length ≤ K * l.length
  | [],_ => by simp
  | x :: r,h => by
    have h1 := h x (by simp)
    have h2 := fl_len r fun y hy => h y (by simp [hy])
    rw [List.flatMap_cons,List.length_append,List.length_cons,Nat.mul_succ]
    omega
theorem built_text {s : Sto} (hs : ∀ m ∈ s.L,m.name.length ≤ 8 ∧ m.now.length ≤ 600) (hn : s.L.length ≤ 100) (hM : StM s) : ∀ fs,(buildS s).2.img = some fs → fs.length ≤ 100000 ∧ (∀ f ∈ fs,FT f) ∧ (imText fs).length ≤ 100000000000000 := by
  intro fs hfs
  have hIm := built_imOk hs hn hM fs hfs
  have hi : (buildS s).2.img = if diagsL (formE s.L) s.L = [] then some (linkP ((buildS s).2.L.map funsOf)) else none := rfl
  rw [hi] at hfs
  split at hfs
  · next hd =>
    simp only [Option.some.injEq] at hfs
    subst hfs
    have hg := built_good hs hM hd
    have hz := built_sizes hs
    generalize (buildS s).2.L = L at *
    have ha := good_from (P := plN (plc (L.map funsOf).flatten)) (L0 := L) (E := formE L) L fun x hx => ⟨hx,hg x hx⟩
    have hlk := link_linked (E := formE L) (L := L) fun m hm => ⟨hg m hm,(hz m hm).2⟩
    have key : ∀ f ∈ linkP (L.map funsOf),FT f ∧ (fnText f).length ≤ 20000000 := fun f hf => by
      have hI := hIm.fn f hf
      unfold linkP at hf
      obtain ⟨c,hc,rfl⟩ := List.mem_map.1 hf
      obtain ⟨k,hk,hkc⟩ := List.getElem_of_mem hc
      have hk2 : k < (L.map (pfsM (plN (plc (L.map funsOf).flatten)) (formE L))).flatten.length := by rw [← ha.len]; exact hk
      obtain ⟨c',hc',m,hm,md,g,lk,hform,h0,hgm,e1,e2⟩ := ha.at (List.getElem?_eq_getElem hk2)
      rw [List.getElem?_eq_getElem hk,Option.some.injEq,hkc] at hc'
      subst hc'
      obtain ⟨fn,q0,q1,q2,q3⟩ := hlk k _ (List.getElem?_eq_getElem hk2)
      have hfn : fn = fnOf (bndF (plc (L.map funsOf).flatten) c) := by
        unfold linkP at q0
        rw [List.map_map,List.getElem?_map,List.getElem?_eq_getElem hk,hkc] at q0
        simpa using q0.symm
      subst hfn
      have hok := formOf_ok (hz m hm).2 hform
      have hfo := hok.fs g hgm
      rw [e2] at q2
      have hcode : (bndF (plc (L.map funsOf).flatten) c).code = cg (fun n => plN (plc (L.map funsOf).flatten) (symV m.name md (imsE (formE L) md) n)) 701 (g.params.map fun x => x.name) 0 g.body ++ [(6,0)] := q2
      obtain ⟨cal,hcal,hcb⟩ : ∃ cal : Nm → Nat,(fun n => plN (plc (L.map funsOf).flatten) (symV m.name md (imsE (formE L) md) n)) = cal ∧ ∀ n,cal n ≤ (L.map funsOf).flatten.length := ⟨_,rfl,fun n => plN_le _ _⟩
      rw [hcal] at hcode
      have hops := cg_ops hcb 701 (g.params.map fun x => x.name) 0 g.body (hfo.body.arm _)
      have hll : (L.map funsOf).flatten.length ≤ 100000 := by have := hIm.len; unfold linkP at this; rwa [List.length_map] at this
      have hcl : (cg cal 701 (g.params.map fun x => x.name) 0 g.body).length ≤ 100000 := by
        have := hI.2.1; rw [hcode,List.length_append] at this; omega
      have hpl : (g.params.map fun x => x.name).length ≤ 601 := by rw [List.length_map]; exact hfo.pl
      have hF : FT (bndF (plc (L.map funsOf).flatten) c) := by
        refine ⟨hI.2.2.1,hI.2.1,fun x hx => ?_⟩
        rw [hcode] at hx
        rcases List.mem_append.1 hx with hx | hx
        · obtain ⟨b1,b2,b3⟩ := hops x hx
          exact ⟨b1,by omega,by omega⟩
        · simp only [List.mem_singleton] at hx
          subst hx
          exact ⟨by decide,by decide,by decide⟩
      refine ⟨hF,?_⟩
      have t1 : (bndF (plc (L.map funsOf).flatten) c).mod.length ≤ 8 := by rw [e1]; exact (hz m hm).1
      have t2 : (bndF (plc (L.map funsOf).flatten) c).name.length ≤ 100000 := by rw [e1]; exact hfo.name
      have t3 : (bndF (plc (L.map funsOf).flatten) c).sig.length ≤ 5000 := by
        rw [e1]
        show (sigText (g.params.map fun x => x.typ) g.result).length ≤ _
        have := sigText_len (g.params.map fun x => x.typ) g.result
        have h6 := hfo.pl
        rw [List.length_map] at this
        omega
      have t4 := hI.2.2.1
      have t5 := Lib.itoa_length_le ((bndF (plc (L.map funsOf).flatten) c).slots : Int) (by omega) (by omega)
      have t6 := fl_len (g := insText) (K := 100) (bndF (plc (L.map funsOf).flatten) c).code fun x hx => by
        obtain ⟨h1,h2,h3⟩ := hF.ops x hx
        have hit := Lib.itoa_length_le x.2 h2 h3
        have hon := opName_len x.1
        unfold insText
        split <;> simp <;> omega
      have t7 := hI.2.1
      generalize bndF (plc (L.map funsOf).flatten) c = f at *
      have t8 : (fnText f).length = (pubT f.pub).length + (fnLine f).length + (f.code.flatMap insText).length := by unfold fnText; simp only [List.length_append]
      have t9 : (pubT f.pub).length ≤ 4 := by unfold pubT; split <;> simp
      have t10 : (fnLine f).length = 3 + f.mod.length + 1 + f.name.length + 1 + f.sig.length + 7 + (Lib.itoa (f.slots : Int)).length + 1 := by simp [fnLine]; omega
      omega
    refine ⟨hIm.len,fun f hf => (key f hf).1,?_⟩
    have h1 := fl_len (g := fnText) (K := 20000000) (linkP (L.map funsOf)) fun f hf => (key f hf).2
    have h2 := Lib.itoa_length_le ((linkP (L.map funsOf)).length : Int) (by omega) (by have := hIm.len; omega)
    have h3 := hIm.len
    unfold imText headT
    simp only [List.length_append,List.length_cons,List.length_nil]
    omega
  cases hfs
end Go.Proofs.YtpmmjkiclngpmaaGreatDoor
