/- Spared: for every list of numbers the call returns true, and the list reads as before: the statement's card. No condition. -/
import Derived.Test.YtpmmjkiclngpmaaGreatDoorProg
import Derived.ChangeSame
import Derived.ProofKit
import Derived.WalkKit
import Derived.OpenShut
import Derived.Below
import Derived.Deep.DeepHandedRow
import Derived.Lib.LaidTab
import Derived.Test.YtpmmjkiclngpmaaGreatDoorRows
import Derived.JoinedOf
import Derived.Test.YtpmmjkiclngpmaaGreatDoorCards
import Derived.Test.YtpmmjkiclngpmaaGreatDoorTie
import Derived.Test.YtpmmjkiclngpmaaGreatDoorV14
import Derived.ChangeSlices
import Derived.SizedLaws
import Derived.Deep.DeepWitnessRowRef
set_option maxRecDepth 100000
set_option linter.unusedSimpArgs false
set_option linter.unusedVariables false
set_option maxHeartbeats 12800000
namespace Go.Proofs.YtpmmjkiclngpmaaGreatDoor
open Go.ChangeShapes Go.WideShapes Go.ChangeAt Go.RowKit
theorem both {a b : Bool} (h : a = true) (k : b = true) : (a && b) = true := by rw [h,k]; rfl
theorem below_frozen {W W' : World} (h : Below W.heap.size W W') {b : Nat} (hb : b < W.heap.size) (off : Nat) : W'.frozen? ⟨b,off,none⟩ = W.frozen? ⟨b,off,none⟩ := by
  unfold World.frozen?
  rw [h.block b hb]
theorem post_below {H : Type} {enc : TypeId × Value → H} {P : Program} {f : Func} {s : ChangeSpec} {apart fresh handsOn again : Bool} {W W' : World} {args : Array Value} {v : Value} {ds gs : List (DataW H)} {before pa pv : List MemPlace}
    (hW : DataW.Whole enc P f.params.toList s.vars apart W args.toList ds gs before) (hb : Below W.heap.size W W') (hps : before = pa ++ pv)
    (hres : ∀ (b : Nat) (sp : Nat → Bool) (hd : Bool),DataW.TrodAll enc P W' b sp hd f.resultTypes.toList (v.resultList f.resultTypes.size) (s.fn H (ds ++ gs)).results [])
    (hargs : ∀ sp : Nat → Bool,(∀ p ∈ before,sp p.block = true) → DataW.TrodAll enc P W' 0 sp true f.params.toList args.toList (s.fn H (ds ++ gs)).args pa)
    (hvars : ∀ sp : Nat → Bool,(∀ p ∈ before,sp p.block = true) → DataW.TrodVars enc P W' sp s.vars (s.fn H (ds ++ gs)).vars pv)
    (hok : ∀ (j : Nat) (t : TypeId) (r : Value),f.resultTypes[j]? = some t → (v.resultList f.resultTypes.size)[j]? = some r → Value.okWide P W' .any 0 t r) :
    s.post enc P f apart fresh handsOn again W args v W' := by
  have hin : ∀ p ∈ before,p.block < W.heap.size := hW.lt
  have hWh := hW
  subst hps
  refine ⟨ds,gs,pa ++ pv,[],pa,pv,hW,hres _ _ _,hargs _ (fun p hp => by simpa using hin p hp),hvars _ (fun p hp => by simpa using hin p hp),World.keptBut_mono (fun p hp => ⟨hp,Or.inr (List.mem_append.1 hp)⟩) (hb.frame (· ∈ pa ++ pv)),fun _ => ?_⟩
  obtain ⟨_,_,_,_,_,hz,hn⟩ := hWh
  refine ⟨hok,_,_,([] ++ pa) ++ pv,⟨[] ++ pa,pv,trodAll_append (hargs _ (fun _ _ => rfl)) (hres _ _ _),hvars _ (fun _ _ => rfl),rfl,fun b off hp => ?_,fun ha => ?_⟩,fun p hp _ => ?_⟩
  · have hp' : MemPlace.cell b off ∈ pa ++ pv := by simpa using hp
    rw [below_frozen hb (show b < W.heap.size from hin _ hp') off]
    exact hz b off hp'
  · simpa using hn ha
  · simpa using hp
theorem ownK : ownKnob Tryz.prog.godebug = none := by kernel_rfl
abbrev tabP : Array Value := #[.int .u64 1,.int .u64 10,.int .u64 100,.int .u64 1000,.int .u64 10000,.int .u64 100000,.int .u64 1000000,.int .u64 10000000,.int .u64 100000000,.int .u64 1000000000,.int .u64 10000000000,.int .u64 100000000000,.int .u64 1000000000000,.int .u64 10000000000000,.int .u64 100000000000000,.int .u64 1000000000000000,.int .u64 10000000000000000,.int .u64 100000000000000000,.int .u64 1000000000000000000,.int .u64 10000000000000000000]
abbrev tab32 : Array Value := #[.int .u8 0,.int .u8 1,.int .u8 28,.int .u8 2,.int .u8 29,.int .u8 14,.int .u8 24,.int .u8 3,.int .u8 30,.int .u8 22,.int .u8 20,.int .u8 15,.int .u8 25,.int .u8 17,.int .u8 4,.int .u8 8,.int .u8 31,.int .u8 27,.int .u8 13,.int .u8 23,.int .u8 21,.int .u8 19,.int .u8 16,.int .u8 7,.int .u8 26,.int .u8 12,.int .u8 18,.int .u8 6,.int .u8 11,.int .u8 5,.int .u8 10,.int .u8 9]
abbrev tab64 : Array Value := #[.int .u8 0,.int .u8 1,.int .u8 56,.int .u8 2,.int .u8 57,.int .u8 49,.int .u8 28,.int .u8 3,.int .u8 61,.int .u8 58,.int .u8 42,.int .u8 50,.int .u8 38,.int .u8 29,.int .u8 17,.int .u8 4,.int .u8 62,.int .u8 47,.int .u8 59,.int .u8 36,.int .u8 45,.int .u8 43,.int .u8 51,.int .u8 22,.int .u8 53,.int .u8 39,.int .u8 33,.int .u8 30,.int .u8 24,.int .u8 18,.int .u8 12,.int .u8 5,.int .u8 63,.int .u8 55,.int .u8 48,.int .u8 27,.int .u8 60,.int .u8 41,.int .u8 37,.int .u8 16,.int .u8 46,.int .u8 35,.int .u8 44,.int .u8 21,.int .u8 52,.int .u8 32,.int .u8 23,.int .u8 11,.int .u8 54,.int .u8 26,.int .u8 40,.int .u8 15,.int .u8 34,.int .u8 20,.int .u8 31,.int .u8 10,.int .u8 25,.int .u8 14,.int .u8 19,.int .u8 9,.int .u8 13,.int .u8 8,.int .u8 7,.int .u8 6]
def tabPut (v : Array Value) : Obj → Obj
  | .cells _ t frozen => .cells v t frozen
  | o => o
theorem i64_in {n : Int} (h : (Lit.int .i64 n).wf = true) : -9223372036854775808 ≤ n ∧ n ≤ 9223372036854775807 := by
  have h' : (decide (IntKind.i64.min ≤ n) && decide (n ≤ IntKind.i64.max)) = true := h
  simp only [Bool.and_eq_true,decide_eq_true_eq] at h'
  exact h'
end Go.Proofs.YtpmmjkiclngpmaaGreatDoor
namespace Go.Proofs.YtpmmjkiclngpmaaGreatDoor
set_option maxHeartbeats 40000000 in
theorem spared_closed : joinedFacts Tryz.prog 10 Tryz.f10 (OpenSpec.ofChange Rows.sparedSpec).bare Rows.sparedRow = true := by
  unfold joinedFacts
  refine both (both (both (both (both (both (both (both (both (both (both (both (both (both (both (both (both (both (both (both (both (both (both (both (both (both (both (both (both (both (both ?_ ?_) ?_) ?_) ?_) ?_) ?_) ?_) ?_) ?_) ?_) ?_) ?_) ?_) ?_) ?_) ?_) ?_) ?_) ?_) ?_) ?_) ?_) ?_) ?_) ?_) ?_) ?_) ?_) ?_) ?_) ?_
  all_goals decide +kernel
end Go.Proofs.YtpmmjkiclngpmaaGreatDoor
namespace Go.Proofs.YtpmmjkiclngpmaaGreatDoor
open Go.ChangeShapes Go.WideShapes Go.ChangeAt Go.RowKit
theorem tabTy : (Tryz.prog.globals[0]?).map (·.type) = some 368 := by kernel_rfl
theorem cellsInt : Tryz.prog.cellsOf 3 = 1 := by kernel_rfl
theorem bytesInt : Tryz.prog.bytesOf 3 = 8 := by kernel_rfl
theorem cellsU64 : Tryz.prog.cellsOf 294 = 1 := by kernel_rfl
theorem cellsTab : Tryz.prog.cellsOf 368 = 20 := by kernel_rfl
theorem spared_tab {W : World} (h : laidMetH Tryz.prog Rows.sparedRow.laid W) : Tab W := by
  obtain ⟨ps,hv,_,_⟩ : laidMet Tryz.prog Rows.sparedRow.laid W := h
  obtain ⟨g1,t1,cs1,f1,p1,q1,_,_,_,_,hv2,_⟩ := hv
  obtain ⟨g2,t2,cs2,f2,p2,q2,_,_,_,_,hv3,_⟩ := hv2
  obtain ⟨g3,t3,cs3,f3,p3,q3,hg,hty,hvar,hd,_,_⟩ := hv3
  obtain rfl := Option.some.inj (gTab.symm.trans hg)
  obtain rfl := Option.some.inj (tabTy.symm.trans hty)
  have hd' : DataW.trod (fun _ => ()) Tryz.prog W 0 (fun _ => true) false f3 368 cs3.toList = some (Lib.tabData .u64 Lib.pow10Tab,p3) := hd
  unfold Tab Lib.TabIs
  rw [hvar,← Lib.cells_of_tab Tryz.underlying368 Tryz.underlying294 cellsU64 cellsTab hd']
theorem nil_ints {H : Type} {enc : TypeId × Value → H} (W : World) (sp : Nat → Bool) : DataW.Trod enc Tryz.prog W 0 sp true 25 (.slice none 0 0) .nil [] :=
  ⟨1,by simp [Value.cells,DataW.trod_step,DataW.trodStep,Tryz.underlying25]⟩
theorem spared_contract (H : Type) (enc : TypeId × Value → H) (W : World) (base : Nat) (args : Array Value) (ds gs : List (DataW H)) (before : List MemPlace)
    (hval : ∀ (j : Nat) t v,Tryz.f10.params[j]? = some t → args[j]? = some v → Value.okWide Tryz.prog W .any base t v)
    (hW : DataW.Whole enc Tryz.prog Tryz.f10.params.toList Rows.sparedSpec.vars false W args.toList ds gs before) (hL : laidMetH Tryz.prog Rows.sparedRow.laid W)
    (hsz : (DataW.weightsEach Tryz.prog (Tryz.f10.params.toList ++ (OpenSpec.ofChange Rows.sparedSpec).bare.plain.varTypes Tryz.prog) (ds ++ gs)).all (· ≤ reachBytes) = true) :
    Calls Tryz.prog 10 args W fun e W' => ∃ v,e = .returned v ∧ Rows.sparedSpec.post enc Tryz.prog Tryz.f10 false true false false W args v W' := by
  have hT := spared_tab hL
  have hW' := hW
  obtain ⟨p,q,hA0,hV,rfl,hfz,hnd⟩ := hW
  have hA : DataW.TrodAll enc Tryz.prog W 0 (fun _ => true) true Tryz.f10.params.toList args.toList ds p := hA0
  rw [Tryz.params10] at hA hval
  obtain ⟨v0,vs0,d0,ds0,p0,q0,hargs,rfl,rfl,h0,r0⟩ := trodAll_cons hA
  obtain ⟨rfl,rfl,rfl⟩ := trodAll_nil r0
  obtain rfl : args = #[v0] := by cases args; simp_all
  obtain ⟨rfl,rfl⟩ := trodVars_none hV
  obtain ⟨a0,len,cap,rfl⟩ := okWide_slice Tryz.underlying25 (hval 0 25 v0 rfl rfl)
  obtain ⟨fuel,hf⟩ := h0
  clear hA0
  rcases open_ints Tryz.underlying25 Tryz.underlying3 cellsInt hf with ⟨hcs,hx⟩ | ⟨a,len',cap',zs,hcs,_,hl,hm,hz,hx,hcell,hwz⟩
  · simp [Value.cells] at hcs
    obtain ⟨rfl,rfl,rfl⟩ := hcs
    simp only [Prod.mk.injEq] at hx
    obtain ⟨rfl,rfl⟩ := hx
    simp only [List.append_nil] at hW'
    refine (spared_any W none 0 0 0 [] (fun j h => absurd h (by simp)) (Or.inr rfl) hT.lt (fun z hz => by cases hz) (by simp) hT).mono fun e W' ⟨he,hg⟩ => ?_
    subst he
    refine ⟨_,rfl,post_below (pa := []) (pv := []) hW' hg rfl (fun _ _ _ => trodAll_cons_mk (shut_bool Tryz.underlying4 _) trodAll_mk0) (fun sp _ => ?_) (fun _ _ => rfl) (ok_one (by kernel_rfl) rfl (okWide_bool_mk Tryz.underlying4 _))⟩
    exact trodAll_cons_mk (nil_ints W' sp) trodAll_mk0
  · simp [Value.cells] at hcs
    obtain ⟨rfl,rfl,rfl⟩ := hcs
    simp only [Prod.mk.injEq] at hx
    obtain ⟨rfl,rfl⟩ := hx
    simp only [if_true] at hz
    simp only [List.append_nil] at hW'
    have hlt : (zs.take len).length = len := by rw [List.length_take]; omega
    have hmx : zs.length ≤ 140737488355328 := by
      have := sized_slice hsz (j := 0) (t := 25) (e := 3) (elems := lits .i64 (zs.take len)) (spare := lits .i64 (zs.drop len)) rfl rfl Tryz.underlying25
      rw [bytesInt] at this
      simp only [lits,List.length_map,List.length_take,List.length_drop] at this
      unfold reachBytes at this
      omega
    have key : Calls Tryz.prog 10 #[.slice (some a) len cap] W fun e w' => e = .returned (.bool true) ∧ Below W.heap.size W w' := by
      have hwf : ∀ z ∈ zs.take len,-9223372036854775808 ≤ z ∧ z ≤ 9223372036854775807 := fun z hz' => i64_in (hwz z (List.mem_of_mem_take hz'))
      rcases Nat.eq_zero_or_pos len with h0 | h0
      · subst h0
        exact spared_any W (some a) 0 0 cap [] (fun j h => absurd h (by simp)) (Or.inr rfl) hT.lt (fun z hz => by cases hz) (by simp) hT
      · obtain ⟨b,off,spot⟩ := a
        have hspot : spot = none := by simpa [Addr.add] using World.cell?_spot (hcell 0 (by omega))
        subst hspot
        have hcell' : ∀ j,j < zs.length → W.cell? ⟨b,off + j,none⟩ = some (.int .i64 (zs.getD j 0)) := fun j hj => by rw [← add_plain]; exact hcell j hj
        have hbl : b < W.heap.size := World.block_lt_of_cell? _ _ (hcell' 0 (by omega))
        have := spared_any W (some ⟨b,off,none⟩) b off cap (zs.take len) (fun j h => by rw [hcell' j (by omega)]; simp [List.getD,List.getElem_take,show j < zs.length by omega]) (Or.inl rfl) hbl hwf (by omega) hT
        rw [hlt] at this
        exact this
    refine key.mono fun e W' ⟨he,hg⟩ => ?_
    subst he
    refine ⟨_,rfl,post_below (pa := MemPlace.row a zs.length) (pv := []) hW' hg (by simp) (fun _ _ _ => trodAll_cons_mk (shut_bool Tryz.underlying4 _) trodAll_mk0) (fun sp hsp => ?_) (fun _ _ => rfl) (ok_one (by kernel_rfl) rfl (okWide_bool_mk Tryz.underlying4 _))⟩
    have hlt' : ∀ i,i < zs.length → a.block < W.heap.size := fun i hi => by have := World.block_lt_of_cell? _ _ (hcell i hi); rwa [block_add] at this
    have t0 := shut_ints (enc := enc) (w := W') (base := 0) (spare := sp) (held := true) (len := len) (cap := cap) (zs := zs) 0 Tryz.underlying25 Tryz.underlying3 cellsInt (Nat.zero_le _) hl hm (by
        rcases Nat.eq_zero_or_pos cap with h0 | h0
        · subst h0; rw [hz]; split <;> omega
        · have hsb : sp a.block = true := by
            obtain ⟨b,off,spot⟩ := a
            exact hsp (.cell b off) (MemPlace.mem_row.2 ⟨0,by omega,by simp⟩)
          rw [hsb,if_pos rfl]; exact hz) (fun i hi => by
        have := hcell i hi
        rw [← this]
        exact World.cell?_of_block (a := a.add i) (hg.block _ (by rw [block_add]; exact hlt' i hi))) hwz
    have t1 := trodAll_cons_mk (⟨2,by simpa [Value.cells] using t0⟩ : DataW.Trod enc Tryz.prog W' 0 sp true 25 (.slice (some a) len cap) _ _) trodAll_mk0
    simp only [List.append_nil] at t1
    exact t1
theorem spared_laid (os : Os) : laidMet Tryz.prog Rows.sparedRow.laid (({ World.holding Tryz.prog os ⟨#[.cells #[.string ⟨#[118,97,108,117,101,32,111,117,116,32,111,102,32,114,97,110,103,101]⟩] 413,.cells #[.string ⟨#[105,110,118,97,108,105,100,32,115,121,110,116,97,120]⟩] 413],#[],[]⟩ with heap := (((((World.holding Tryz.prog os ⟨#[.cells #[.string ⟨#[118,97,108,117,101,32,111,117,116,32,111,102,32,114,97,110,103,101]⟩] 413,.cells #[.string ⟨#[105,110,118,97,108,105,100,32,115,121,110,116,97,120]⟩] 413],#[],[]⟩).heap.modify 0 (tabPut tabP)).modify 1 (tabPut tab32)).modify 2 (tabPut tab64)).modify 4 (tabPut #[.iface 411 (.pointer (some ⟨12,0,none⟩))])).modify 5 (tabPut #[.iface 411 (.pointer (some ⟨11,0,none⟩))]) } : World).forCall (fun _ _ => 0) ⟨#[],#[.slice none 0 0],[]⟩).memory :=
  laidMet_of_run' 8 (by kernel_rfl) (by kernel_rfl)
theorem spared_reads (os : Os) {H : Type} (enc : TypeId × Value → H) : ∃ places,DataW.whole enc Tryz.prog (({ World.holding Tryz.prog os ⟨#[.cells #[.string ⟨#[118,97,108,117,101,32,111,117,116,32,111,102,32,114,97,110,103,101]⟩] 413,.cells #[.string ⟨#[105,110,118,97,108,105,100,32,115,121,110,116,97,120]⟩] 413],#[],[]⟩ with heap := (((((World.holding Tryz.prog os ⟨#[.cells #[.string ⟨#[118,97,108,117,101,32,111,117,116,32,111,102,32,114,97,110,103,101]⟩] 413,.cells #[.string ⟨#[105,110,118,97,108,105,100,32,115,121,110,116,97,120]⟩] 413],#[],[]⟩).heap.modify 0 (tabPut tabP)).modify 1 (tabPut tab32)).modify 2 (tabPut tab64)).modify 4 (tabPut #[.iface 411 (.pointer (some ⟨12,0,none⟩))])).modify 5 (tabPut #[.iface 411 (.pointer (some ⟨11,0,none⟩))]) } : World).forCall (fun _ _ => 0) ⟨#[],#[.slice none 0 0],[]⟩).memory Tryz.f10.params.toList Rows.sparedSpec.vars false #[Value.slice none 0 0].toList 8 = some ([.nil],[],places) :=
  ⟨[],by kernel_rfl⟩
theorem spared_lifted (os : Os) (started : os.Started) (H : Type) (enc : TypeId × Value → H) (F : Stop.Interp) :
    ReturnsInHanded {} Tryz.checked os 10 .any ((OpenSpec.ofChange Rows.sparedSpec).preRow enc Tryz.prog Tryz.f10 Rows.sparedRow.domain false Rows.sparedRow.laid) (((OpenSpec.ofChange Rows.sparedSpec).at F).post enc Tryz.prog Tryz.f10 false true false false) := by
  obtain ⟨places,hx⟩ := spared_reads os enc
  refine returnsInHanded_of_row (C := Tryz.checked) (s := OpenSpec.ofChange Rows.sparedSpec) ownK started (by kernel_rfl) Tryz.func10
    (witness_row_at (enc := enc) (C := Tryz.checked) false ({ World.holding Tryz.prog os ⟨#[.cells #[.string ⟨#[118,97,108,117,101,32,111,117,116,32,111,102,32,114,97,110,103,101]⟩] 413,.cells #[.string ⟨#[105,110,118,97,108,105,100,32,115,121,110,116,97,120]⟩] 413],#[],[]⟩ with heap := (((((World.holding Tryz.prog os ⟨#[.cells #[.string ⟨#[118,97,108,117,101,32,111,117,116,32,111,102,32,114,97,110,103,101]⟩] 413,.cells #[.string ⟨#[105,110,118,97,108,105,100,32,115,121,110,116,97,120]⟩] 413],#[],[]⟩).heap.modify 0 (tabPut tabP)).modify 1 (tabPut tab32)).modify 2 (tabPut tab64)).modify 4 (tabPut #[.iface 411 (.pointer (some ⟨12,0,none⟩))])).modify 5 (tabPut #[.iface 411 (.pointer (some ⟨11,0,none⟩))]) } : World) #[.slice none 0 0] rfl (by kernel_rfl) (by kernel_rfl) (by kernel_rfl)
      (OpenSpec.preRow_of_cond 8 hx (by kernel_rfl) (fun k hk => by cases hk) (by kernel_rfl) (spared_laid os))) ?_
  intro W base args ds gs before hval hW _ _ hsz hL _ _
  exact spared_contract H enc W base args ds gs before hval hW hL hsz
theorem spared_said : Rows.SparedSaid :=
  OpenClaim.holds_of_cond 10 Tryz.f10 rfl rfl rfl rfl rfl rfl rfl ⟨rfl,rfl,rfl,rfl,rfl⟩ rfl rfl rfl rfl rfl (by kernel_rfl) Tryz.func10 spared_closed
    (of_decide_eq_true (by kernel_rfl)) (by unfold Func.isWrapper; first | (rw [if_pos (by decide +kernel)]; kernel_rfl) | (rw [if_neg (by decide +kernel)]; exact ⟨rfl,rfl⟩))
    (fun os started H enc _ F => by rw [OpenClaim.pre_eq_preRow]; exact spared_lifted os started H enc F)
theorem spared_plain (f : FuncId) (fn : Func) (hf : Tryz.pinned.checked.prog.funcNamed "symcut/symcutkeep.Spared" = some f) (hfn : Tryz.pinned.checked.prog.funcs[f]? = some fn) :
    true = Tryz.pinned.checked.prog.looks [] ∧ ∀ (j : Nat) t,fn.params[j]? = some t → Tryz.pinned.checked.prog.wantsStandIn t = false := by
  obtain rfl : f = 10 := Option.some.inj ((show Tryz.prog.funcNamed "symcut/symcutkeep.Spared" = some 10 by kernel_rfl).symm.trans hf) |>.symm
  obtain rfl : fn = Tryz.f10 := (Option.some.inj (Tryz.func10.symm.trans hfn)).symm
  refine ⟨by kernel_rfl,fun j t ht => ?_⟩
  rw [Tryz.params10] at ht
  obtain rfl : t = 25 := by simpa using Array.mem_of_getElem? ht
  exact (show Tryz.prog.wantsStandIn 25 = false by kernel_rfl)
theorem spared_card : Rows.SparedCardSaid :=
  Claim7.holds_tied_plain_at .later [] _ _ _ _ spared_said (fun _ h => by cases h) (by kernel_rfl) (fun _ h => by cases h) spared_row_tie rfl ⟨rfl,rfl⟩ (by kernel_rfl) rfl spared_plain (by kernel_rfl)
end Go.Proofs.YtpmmjkiclngpmaaGreatDoor
