/- YtpmmjkiclngpmaaGreatDoorB44 -/
import Derived.Test.YtpmmjkiclngpmaaGreatDoorB41
import Derived.Laws.StructEq
import Derived.Test.YtpmmjkiclngpmaaGreatDoorB43
set_option maxRecDepth 100000
set_option linter.unusedSimpArgs false
set_option linter.unusedVariables false
set_option maxHeartbeats 12800000
namespace Go.Proofs.YtpmmjkiclngpmaaGreatDoor
open Go.RowKit Go.Lib
def withinB (n a b : Int) : Bool := decide (a ≤ n ∧ n ≤ b)
theorem within_any (n a b : Int) (hab : a ≤ b) (w : World) : Calls Tryz.prog 39 #[.int .i64 n,.int .i64 a,.int .i64 b] w fun e w' => e = .returned (.bool (withinB n a b)) ∧ w' = w := by
  go_enter Tryz.func39,Tryz.ntmps39
  go_wp2
  go_ret
  exact ⟨ret_bool (by rw [Bool.eq_iff_iff]; simp [withinB]; omega),rfl⟩
def fitB (l : List Int) (ps : List Nat) : Bool := (l.zip ps).all fun x => !(x.2 == 2) || withinB x.1 0 1
theorem fitB_drop (l : List Int) (ps : List Nat) (j : Nat) (h1 : j < l.length) (h2 : j < ps.length) : fitB (l.drop j) (ps.drop j) = ((!(ps[j] == 2) || withinB l[j] 0 1) && fitB (l.drop (j + 1)) (ps.drop (j + 1))) := by
  unfold fitB
  rw [List.drop_eq_getElem_cons h1,List.drop_eq_getElem_cons h2]
  rfl
theorem typCells_at (l : List Nat) (j : Nat) (hj : j < l.length) : (typCells l)[j]? = some (.int .i64 (l[j] : Int)) := by
  simp [typCells,hj]
abbrev intCs (l : List Int) : List Value := l.map (Value.int .i64)
theorem fit_any {S : Nat → Prop} (w : World) (av : Value) (l : List Int) (ha : w.ownsRow 0 3 1 av l.length (intCs l)) (pv : Value) (ps : List Nat) (hp : CRow S w 132 1 pv ps.length (typCells ps)) (hl : l.length = ps.length) (hn : ps.length ≤ 1000000) :
    Calls Tryz.prog 38 #[av,pv] w fun e w' => e = .returned (.bool (fitB l ps)) ∧ w' = w := by
  obtain ⟨po,pc,rfl⟩ := owns_shape' hp.1
  obtain ⟨ao,ac,rfl⟩ := owns_shape' ha
  have HP := hide hp.1
  have HA := hide ha
  have HLl := hide hl
  clear hp ha hl
  go_enter Tryz.func38,Tryz.ntmps38
  go_wp2
  go_loopg [9] ps.length (fun gk i wr => ∃ j : Nat,gk + j = ps.length ∧ i = .int .i64 j ∧ Hid (fitB l ps = fitB (l.drop j) (ps.drop j)) ∧ wr = w)
  case atStart => exact ⟨0,by omega,rfl,by show _ = _; simp,rfl⟩
  obtain ⟨j,hj,rfl,HF,rfl⟩ := hrel
  by_cases hlt : j < ps.length
  · have hlt' : (j : Int) < (ps.length : Int) := by omega
    have hjl : j < l.length := by rw [HLl.out]; exact hlt
    have hjl' : (j : Int) < (l.length : Int) := by omega
    have HD := hide (fitB_drop l ps j hjl hlt)
    obtain ⟨pb,cap,cur,hpo,_,hpb,hpcc,_⟩ := owr_shape HP.out (by omega)
    simp only [Value.slice.injEq,true_and] at hpo
    obtain ⟨rfl,rfl⟩ := hpo
    have hpbl := lt_of_some hpb
    have q0 := (owns_cell HP.out j (by omega)).trans (typCells_at ps j hlt)
    obtain ⟨ab,acap,acur,hao,_,hab,hacc,_⟩ := owr_shape HA.out (by omega)
    simp only [Value.slice.injEq,true_and] at hao
    obtain ⟨rfl,rfl⟩ := hao
    have habl := lt_of_some hab
    have a0 := (owns_cell HA.out j (by omega)).trans (show (intCs l)[j]? = some (.int .i64 l[j]) by simp [intCs,hjl])
    have HWi := hide (fun w => within_any l[j] 0 1 (by omega) w)
    have hjc : j < pc := by omega
    have hja : j < ac := by omega
    clear hpb hab
    by_cases h2 : ps[j] = 2
    · rw [h2] at q0
      rcases hwi : withinB l[j] 0 1 with _ | _
      · have HV := hide (show fitB l ps = false by rw [HF.out,HD.out,h2,hwi]; rfl)
        rw [hwi] at HWi
        generalize l[j] = x at *
        go_wp2_with fail
        refine (HWi.out _).mono ?_
        rintro e w1 ⟨rfl,rfl⟩
        go_wp2
        go_ret
        exact ⟨ret_bool HV.out.symm,rfl⟩
      · have HV := hide (show fitB l ps = fitB (l.drop (j + 1)) (ps.drop (j + 1)) by rw [HF.out,HD.out,h2,hwi]; rfl)
        rw [hwi] at HWi
        generalize l[j] = x at *
        go_wp2_with fail
        refine (HWi.out _).mono ?_
        rintro e w1 ⟨rfl,rfl⟩
        go_wp2
        go_roundg (gk - 1)
        case measure => omega
        case rel => exact ⟨j + 1,by omega,by first | rfl | go_num,HV.out,rfl⟩
    · have HV := hide (show fitB l ps = fitB (l.drop (j + 1)) (ps.drop (j + 1)) by rw [HF.out,HD.out]; simp [h2])
      have h2' : ¬ (ps[j] : Int) = 2 := by omega
      generalize ps[j] = x at *
      go_wp2
      go_roundg (gk - 1)
      case measure => omega
      case rel => exact ⟨j + 1,by omega,by first | rfl | go_num,HV.out,rfl⟩
  have hlt' : ¬ (j : Int) < (ps.length : Int) := by omega
  have HV := hide (show fitB l ps = true by rw [HF.out,List.drop_of_length_le (by rw [HLl.out]; omega),List.drop_of_length_le (by omega)]; rfl)
  go_wp2
  go_ret
  exact ⟨ret_bool HV.out.symm,rfl⟩
structure FV where
  f : CF
  po : Option Addr
  pc : Nat
  ko : Option Addr
  kc : Nat
  zo : Option Addr
  zc : Nat
abbrev FV.some1 : Inhabited FV := ⟨⟨⟨[],[],false,[],[],0,[],[]⟩,none,0,none,0,none,0⟩⟩
def encF (x : FV) : List Value := fnCells x.f (.slice x.po x.f.params.length x.pc) (.slice x.ko x.f.code.length x.kc) (.slice x.zo x.f.calls.length x.zc)
theorem und_sym : Tryz.prog.underlying 87 = some (.struct (Tryz.prog.fieldsOf 87)) := by kernel_rfl
theorem held_sym : Tryz.prog.stoodInHeld 87 = false := by kernel_rfl
theorem equal_sym (x y : Sym) (w : World) : (Op.equalIn 10000 87 (.agg #[.string ⟨x.1.toArray⟩,.string ⟨x.2.toArray⟩]) (.agg #[.string ⟨y.1.toArray⟩,.string ⟨y.2.toArray⟩])).run Tryz.prog w = .ok (decide (x = y)) w := by
  rw [show (10000 : Nat) = 9999 + 1 from rfl,run_equalIn_agg w 9999 87 _ _ und_sym held_sym]
  simp only [Program.fieldsOf,Tryz.underlying87]
  have u9 := Tryz.underlying9
  have a9 := Tryz.isAgg9
  have z9 := Tryz.sizeOf9
  go_simp
  by_cases h : x = y
  · subst h; simp
  rw [decide_eq_false h]
  split
  · next h1 =>
    split
    · next h2 => exact absurd (Prod.ext h1 h2) h
    · rfl
  rfl
theorem guard_sym (op : BinOp) (a b : Operand) (x y : Sym) (w : World) : (eqGuard op 87 a b (.agg #[.string ⟨x.1.toArray⟩,.string ⟨x.2.toArray⟩]) (.agg #[.string ⟨y.1.toArray⟩,.string ⟨y.2.toArray⟩])).run Tryz.prog w = .ok () w := run_eqGuard_agg w op 87 a b _ _ (by kernel_rfl)
def isF (m n : Nm) (f : CF) : Bool := f.pub && decide (symF f = (m,n))
theorem exported1_any {w W : World} (B1 B2 : Nat) (h1 : B1 < w.heap.size) (h2 : B2 < w.heap.size) (m n : Nm) (c1 : w.cell? ⟨B1,0,none⟩ = some (.string ⟨m.toArray⟩)) (c2 : w.cell? ⟨B2,0,none⟩ = some (.string ⟨n.toArray⟩)) (x : FV) (hW : Below w.heap.size w W) :
    Calls Tryz.prog 62 #[.agg (encF x).toArray,.pointer (some ⟨B1,0,none⟩),.pointer (some ⟨B2,0,none⟩)] W fun e w' => e = .returned (.bool (isF m n x.f)) ∧ Below w.heap.size w w' := by
  have d1 := (below_cell hW h1 0).trans c1
  have d2 := (below_cell hW h2 0).trans c2
  have l1 : B1 < W.heap.size := by have := hW.size; omega
  have l2 : B2 < W.heap.size := by have := hW.size; omega
  have n1 : B1 ≠ W.heap.size := by omega
  have n2 : B2 ≠ W.heap.size := by omega
  have heq := fun w => equal_sym (x.f.mod,x.f.name) (m,n) w
  have hgu := fun op a b w => guard_sym op a b (x.f.mod,x.f.name) (m,n) w
  have HW := hide hW
  unfold encF fnCells
  clear hW c1 c2
  rcases hp : x.f.pub with _ | _
  · have HV := hide (show isF m n x.f = false by simp [isF,hp])
    go_enter Tryz.func62,Tryz.ntmps62
    go_wp2
    go_ret
    exact ⟨ret_bool HV.out.symm,HW.out.alloc HW.out.size _⟩
  have HV := hide (show isF m n x.f = decide ((x.f.mod,x.f.name) = (m,n)) by simp [isF,hp,symF])
  generalize decide ((x.f.mod,x.f.name) = (m,n)) = R at *
  go_enter Tryz.func62,Tryz.ntmps62
  go_wp2
  go_ret
  exact ⟨ret_bool HV.out.symm,HW.out.alloc HW.out.size _⟩
theorem choose_list {α : Type} {P : Nat → α → Prop} : ∀ n,(∀ j,j < n → ∃ y,P j y) → ∃ zs : List α,zs.length = n ∧ ∀ j (h : j < zs.length),P j zs[j]
  | 0,_ => ⟨[],rfl,fun j h => absurd h (by simp)⟩
  | n + 1,h => by
    obtain ⟨zs,h1,h2⟩ := choose_list n (fun j hj => h j (by omega))
    obtain ⟨y,hy⟩ := h n (by omega)
    refine ⟨zs ++ [y],by simp [h1],fun j hj => ?_⟩
    rcases Nat.lt_or_ge j zs.length with q | q
    · rw [List.getElem_append_left q]; exact h2 j q
    · have : j = n := by rw [List.length_append,List.length_singleton] at hj; omega
      subst this
      rw [List.getElem_append_right q]
      simpa using hy
def exI (m n : Nm) : List CF → Nat → Option Nat
  | [],_ => none
  | f :: r,k => if isF m n f then some k else exI m n r (k + 1)
def exV (o : Option Nat) : Int := match o with | some k => (k : Int) | none => -1
theorem idx_exI (m n : Nm) (d : FV) : ∀ (zs : List FV) (i : Nat),Lib.idxByFrom (fun _ y => isF m n y.f) d zs i = exV (exI m n (zs.map fun y => y.f) i)
  | [],i => rfl
  | z :: r,i => by
    rw [List.map_cons]
    unfold Lib.idxByFrom exI
    split
    · rfl
    · exact idx_exI m n d r (i + 1)
theorem FnsAt.vals {S : Nat → Prop} {w : World} {xs : List Value} {fs : List CF} (h : FnsAt S w xs fs) : ∃ zs : List FV,zs.length = fs.length ∧ (zs.map fun y => y.f) = fs ∧ ∀ j (hj : j < zs.length) c,c < 8 → xs[j * 8 + c]? = (encF zs[j])[c]? := by
  obtain ⟨zs,h1,h2⟩ := choose_list (P := fun j (y : FV) => ∃ hj : j < fs.length,y.f = fs[j] ∧ ∀ c,c < 8 → xs[j * 8 + c]? = (encF y)[c]?) fs.length (fun j hj => by
    obtain ⟨pv,kv,lv,r,hc⟩ := h.at j hj
    obtain ⟨po,pc,rfl⟩ := owns_shape' r.pr.1
    obtain ⟨ko,kc,rfl⟩ := owns_shape' r.co.1
    obtain ⟨zo,zc,rfl⟩ := owns_shape' r.ca.1
    exact ⟨⟨fs[j],po,pc,ko,kc,zo,zc⟩,hj,rfl,hc⟩)
  refine ⟨zs,h1,?_,fun j hj c hc => (h2 j hj).choose_spec.2 c hc⟩
  apply List.ext_getElem
  · simpa using h1
  intro j a b
  rw [List.getElem_map]
  exact (h2 j (by simpa using a)).choose_spec.1
theorem indexF_nil (fv : Value) (w : World) : Calls Tryz.prog 61 #[.slice none 0 0,fv] w fun e w' => e = .returned (.int .i64 (-1)) ∧ w' = w := by
  go_enter Tryz.func61,Tryz.ntmps61
  go_wp2
  go_loop [8] (fun i => i = .int .i64 0) (fun i => 0)
  case atStart => rfl
  subst hrel
  go_wp2
  go_ret
  exact ⟨rfl,rfl⟩
theorem imExported_any {S : Nat → Prop} {w : World} {ib : Nat} {fv : Value} {fs : List CF} (hb : w.heap[ib]? = some (.cells #[fv] 95 (0,0))) (hf : FnRow S w fv fs) (hn : fs.length ≤ 100000) (m n : Nm) :
    Calls Tryz.prog 37 #[.pointer (some ⟨ib,0,none⟩),.string ⟨m.toArray⟩,.string ⟨n.toArray⟩] w fun e w' => e = .returned (.int .i64 (exV (exI m n fs 0))) ∧ Below w.heap.size w w' := by
  obtain ⟨xs,hxr,hxf⟩ := hf
  have c0 := cell_block hb 0
  have cl := lt_of_some hb
  simp at c0
  have HBl := hide (show Below w.heap.size w ((w.alloc (.cells #[.string ⟨m.toArray⟩] 9)).alloc (.cells #[.string ⟨n.toArray⟩] 9)) from ((Below.refl _ _).alloc (Nat.le_refl _) _).alloc (by simp) _)
  rcases hxr.1.2 with ⟨rfl,h0⟩ | ⟨g,cap,cur,rfl,hg0,hblk,hnc,hcm,hcs,htk⟩
  · have hx : fs = [] := List.eq_nil_of_length_eq_zero h0
    subst hx
    have HC := hide (fun fv => indexF_nil fv ((w.alloc (.cells #[.string ⟨m.toArray⟩] 9)).alloc (.cells #[.string ⟨n.toArray⟩] 9)))
    clear hxr hxf h0 hb
    go_enter Tryz.func37,Tryz.ntmps37
    go_wp2_with fail
    refine (HC.out _).mono ?_
    rintro e w1 ⟨rfl,rfl⟩
    go_wp2
    go_ret
    exact ⟨rfl,HBl.out⟩
  have eg : ∀ args w,(callFunc 62 args).run Tryz.prog w = .ok (.enter 62 args) w := enters_of Tryz.func62 (by kernel_rfl) rfl
  have hgl := lt_of_some hblk
  obtain ⟨zs,hz1,hz2,hz3⟩ := hxf.vals
  have hp : PredBelow Tryz.prog 62 #[.pointer (some ⟨w.heap.size,0,none⟩),.pointer (some ⟨w.heap.size + 1,0,none⟩)] (fun x => .agg (encF x).toArray) (fun x => isF m n x.f) ((w.alloc (.cells #[.string ⟨m.toArray⟩] 9)).alloc (.cells #[.string ⟨n.toArray⟩] 9)) :=
    fun W x hb => exported1_any w.heap.size (w.heap.size + 1) (by simp; omega) (by simp) m n (by
      rw [World.cell?_of_block (a := ⟨w.heap.size,0,none⟩) (Below.heap_alloc (w.alloc (.cells #[.string ⟨m.toArray⟩] 9)) _ _ (by simp))]; simp) (by simp) x hb
  have hinh := FV.some1
  have hcon := AnyQ.slices_IndexFunc Tryz.indexF 8 Tryz.isAgg92 Tryz.sizeOf92 encF (fun _ => rfl) (fun x => isF m n x.f) 62 #[.pointer (some ⟨w.heap.size,0,none⟩),.pointer (some ⟨w.heap.size + 1,0,none⟩)] eg g 0 fs.length cap zs ((w.alloc (.cells #[.string ⟨m.toArray⟩] 9)).alloc (.cells #[.string ⟨n.toArray⟩] 9)) hp (by omega) (by omega) (by simp; omega) (fun j hj i v hi => by
    have hi8 : i < 8 := (List.getElem?_eq_some_iff.1 hi).1
    rw [getElem!_pos zs j hj,← hz3 j hj i hi8] at hi
    rw [Nat.zero_add,World.cell?_of_block (a := ⟨g,j * 8 + i,none⟩) (HBl.out.block g hgl),owns_cell hxr.1 (j * 8 + i) (by omega)]
    exact hi)
  rw [List.take_of_length_le (by omega)] at hcon
  have hidx : Lib.idxBy (fun _ (y : FV) => isF m n y.f) zs default = exV (exI m n fs 0) := by
    unfold Lib.idxBy; rw [idx_exI,hz2]
  rw [hidx] at hcon
  have HC := hide (show Calls Tryz.prog 61 #[.slice (some ⟨g,0,none⟩) fs.length cap,.func (.func 62) #[] #[.pointer (some ⟨w.heap.size,0,none⟩),.pointer (some ⟨w.heap.size + 1,0,none⟩)]] ((w.alloc (.cells #[.string ⟨m.toArray⟩] 9)).alloc (.cells #[.string ⟨n.toArray⟩] 9)) _ from hcon)
  clear hcon hp hidx hz3 hxr hblk htk hxf hb
  go_enter Tryz.func37,Tryz.ntmps37
  go_wp2_with fail
  refine HC.out.mono ?_
  rintro e w1 ⟨rfl,hb1⟩
  have HB1 := hide (HBl.out.trans (hb1.mono HBl.out.size))
  clear hb1
  go_wp2
  go_ret
  exact ⟨rfl,HB1.out⟩
end Go.Proofs.YtpmmjkiclngpmaaGreatDoor
namespace Go.Proofs.YtpmmjkiclngpmaaGreatDoor
open Go.RowKit
def fnOf (f : CF) : Fn := ⟨f.params.length,f.slots,f.code⟩
def Runs (fs : List Fn) (k : Nat) (l : List Int) (fuel : Nat) (R : Int × Nat) : Prop :=
  ∃ s1 t n,MS.call fs k ⟨l.reverse,[],fuel,0⟩ = some s1 ∧ StepsN fs n s1 t ∧ (t.wrong ≠ 0 ∨ t.frames = []) ∧ (t.wrong = 0 → ∃ y q,t.stack = y :: q ∧ q.length ≤ 1000000) ∧ outOf t = R
structure ImOk (fs : List CF) : Prop where
  len : fs.length ≤ 100000
  fn : ∀ f ∈ fs,f.code ≠ [] ∧ f.code.length ≤ 100000 ∧ f.slots ≤ 100000 ∧ f.params.length ≤ f.slots
def RunIs (s : Sto) (m n : Nm) (l : List Int) (fuel : Int) (R : Int × Nat) : Prop :=
  match s.img with
  | none => R = (0,9)
  | some fs => match exI m n fs 0 with
    | none => R = (0,3)
    | some k => ∃ f,fs[k]? = some f ∧ (if l.length ≠ f.params.length then R = (0,7) else if fitB l f.params = false ∨ withinB fuel 0 10000 = false then R = (0,10) else Runs (fs.map fnOf) k l fuel.toNat R)
theorem Ig.of {S : Nat → Prop} {w : World} {ib : Nat} {fv : Value} {fs : List CF} (hb : w.heap[ib]? = some (.cells #[fv] 95 (0,0))) (hf : FnRow S w fv fs) (hok : ImOk fs) (h0 : 0 < fs.length) : ∃ fb cap,fv = .slice (some ⟨fb,0,none⟩) fs.length cap ∧ fb < w.heap.size ∧ fs.length ≤ cap ∧ Ig w.heap.size ib fb (fs.map fnOf) w := by
  obtain ⟨xs,hxr,hxf⟩ := hf
  obtain ⟨fb,cap,cur,rfl,_,hfb,hfc,_⟩ := owr_shape hxr.1 h0
  have hfl := lt_of_some hfb
  refine ⟨fb,cap,rfl,hfl,hfc,lt_of_some hb,hfl,⟨cap,?_⟩,fun j hj => ?_,?_⟩
  · rw [cell_block hb,List.length_map]; rfl
  · have hj' : j < fs.length := by simpa using hj
    obtain ⟨pv,kv,lv,hr,hc⟩ := hxf.at j hj'
    have hce : ∀ c,c < 8 → w.cell? ⟨fb,j * 8 + c,none⟩ = (fnCells fs[j] pv kv lv)[c]? := fun c hc' => (owns_cell hxr.1 (j * 8 + c) (by omega)).trans (hc c hc')
    obtain ⟨po,pc,rfl⟩ := owns_shape' hr.pr.1
    have hfn := hok.fn fs[j] (List.getElem_mem hj')
    have hcp : 0 < fs[j].code.length := List.length_pos_iff.2 hfn.1
    obtain ⟨cb,cc,ccur,rfl,_,hcb,hccl,_⟩ := owr_shape hr.co.1 hcp
    rw [List.getElem_map]
    refine ⟨⟨po,pc,(hce 3 (by omega)).trans rfl⟩,(hce 5 (by omega)).trans rfl,cb,cc,lt_of_some hcb,(hce 6 (by omega)).trans rfl,fun i hi => ?_⟩
    have hi' : i < fs[j].code.length := hi
    exact ⟨(owns_cell hr.co.1 (i * 2) (by omega)).trans (insCells_at fs[j].code i hi').1,(owns_cell hr.co.1 (i * 2 + 1) (by omega)).trans (insCells_at fs[j].code i hi').2⟩
  refine ⟨by rw [List.length_map]; exact hok.len,fun f hf => ?_⟩
  obtain ⟨g,hg,rfl⟩ := List.mem_map.1 hf
  have := hok.fn g hg
  exact ⟨this.2.1,this.2.2.1,this.2.2.2⟩
theorem exI_lt {m n : Nm} : ∀ {fs : List CF} {i k : Nat},exI m n fs i = some k → i ≤ k ∧ k < i + fs.length
  | [],_,_,h => by cases h
  | f :: r,i,k,h => by
    unfold exI at h
    split at h
    · simp only [Option.some.injEq] at h; subst h; simp
    · have := exI_lt h; simp only [List.length_cons]; omega
theorem ret_run {a : Int} {b : Nat} {R : Int × Nat} (h : R = (a,b)) : Ending.returned (.tuple #[.int .i64 a,.int .i64 (b : Int)]) = Ending.returned (.tuple #[.int .i64 R.1,.int .i64 (R.2 : Int)]) := by rw [h]
theorem args_of {w : World} {ao : Option Addr} {c : Nat} {l : List Int} (h : w.ownsRow 0 3 1 (.slice ao l.length c) l.length (intCs l)) : (ao = none → c = 0) ∧ Args w ao l := by
  rcases h.2 with ⟨e,h0⟩ | ⟨g,cap,cur,e,_,hg,hnc,hcm,hcs,htk⟩
  · simp only [Value.slice.injEq] at e
    refine ⟨fun _ => e.2.2,fun _ => List.eq_nil_of_length_eq_zero h0,fun ad h => by rw [e.1] at h; cases h⟩
  simp only [Value.slice.injEq] at e
  obtain ⟨rfl,_,rfl⟩ := e
  refine ⟨fun h => (by cases h),fun h => (by cases h),fun ad had j u hu => ?_⟩
  simp only [Option.some.injEq] at had
  subst had
  have hj : j < l.length := by have := (List.getElem?_eq_some_iff.1 hu).1; simpa using this
  have e1 : (Addr.add ⟨g,0,none⟩ j) = ⟨g,j,none⟩ := by unfold Addr.add; split <;> simp_all
  rw [e1]
  exact ⟨(owns_cell h j (by omega)).trans hu,lt_of_some hg⟩
theorem run_any {w : World} {p : SP} {s : Sto} (h : StAt w p s) (hok : ∀ fs,s.img = some fs → ImOk fs) (m n : Nm) (av : Value) (l : List Int) (ha : w.ownsRow 0 3 1 av l.length (intCs l)) (hll : l.length ≤ 100000) (fuel : Int) (R : Int × Nat) (hR : RunIs s m n l fuel R) :
    Calls Tryz.prog 19 #[.pointer (some ⟨p.sb,0,none⟩),.string ⟨m.toArray⟩,.string ⟨n.toArray⟩,av,.int .i64 fuel] w fun e w' => e = .returned (.tuple #[.int .i64 R.1,.int .i64 (R.2 : Int)]) ∧ Below w.heap.size w w' := by
  obtain ⟨ip,hb,him⟩ := h.blk
  have c3 := cell_block hb 3
  have cl := lt_of_some hb
  simp at c3
  obtain ⟨ao,ac,rfl⟩ := owns_shape' ha
  unfold RunIs at hR
  rcases hi : s.img with _ | fs
  · rw [hi] at hR him
    have e : ip = none := him
    subst e
    have HR := hide hR
    clear h hok ha hb him hR
    go_enter Tryz.func19,Tryz.ntmps19
    go_wp2
    go_ret2
    exact ⟨ret_run HR.out,Below.refl _ _⟩
  rw [hi] at hR him
  obtain ⟨ib,fv,rfl,hSib,hib,hfr⟩ := him
  have hI := hok fs hi
  have HEx := hide (imExported_any hib hfr hI.len m n)
  have ibl := lt_of_some hib
  simp only at hR
  rcases hx : exI m n fs 0 with _ | k
  · rw [hx] at hR HEx
    simp only at hR
    have HR := hide hR
    clear h hok ha hb hR hfr
    go_enter Tryz.func19,Tryz.ntmps19
    go_wp2_with fail
    refine HEx.out.mono ?_
    rintro e w1 ⟨rfl,hb1⟩
    have HB1 := hide hb1
    clear hb1
    go_wp2
    go_ret2
    exact ⟨ret_run HR.out,HB1.out⟩
  rw [hx] at hR HEx
  simp only at hR
  obtain ⟨f,hf,hR⟩ := hR
  have hk := exI_lt hx
  have hkl : k < fs.length := by omega
  have hfe : fs[k] = f := (List.getElem?_eq_some_iff.1 hf).2
  obtain ⟨fb,cap,hfv,hfbl,hfcap,hIg⟩ := Ig.of hib hfr hI (by omega)
  obtain ⟨xs,hxr,hxf⟩ := hfr
  obtain ⟨pv,kv,lv,hrw,hce⟩ := hxf.at k hkl
  subst hfv
  rw [hfe] at hrw
  obtain ⟨po,pc,rfl⟩ := owns_shape' hrw.pr.1
  have q3 : w.cell? ⟨fb,k * 8 + 3,none⟩ = some (.slice po f.params.length pc) := (owns_cell hxr.1 (k * 8 + 3) (by omega)).trans ((hce 3 (by omega)).trans (by rw [hfe]; rfl))
  have i0 := cell_block hib 0
  simp at i0
  have HIg := hide hIg
  have HPr := hide hrw.pr
  have HA := hide ha
  have hkc : k < cap := by omega
  have hfsl := hI.len
  have hpl := (hI.fn f (by rw [← hfe]; exact List.getElem_mem hkl)).2.2
  clear h hok hb hxr hxf hrw hce hib hIg hI ha hf hfe hx
  have HEx2 := hide (show Calls Tryz.prog 37 #[.pointer (some ⟨ib,0,none⟩),.string ⟨m.toArray⟩,.string ⟨n.toArray⟩] w fun e w' => e = .returned (.int .i64 (k : Int)) ∧ Below w.heap.size w w' from HEx.out)
  clear HEx
  by_cases hlen : l.length = f.params.length
  · rw [if_neg (by simpa using hlen)] at hR
    have HLn := hide hlen
    have hlen' : (l.length : Int) = (f.params.length : Int) := by omega
    have HFt := hide (fun (w1 : World) (hb1 : Below w.heap.size w w1) => fit_any w1 (.slice ao l.length ac) l (owr_keep HA.out fun q _ lt => hb1.block q lt) (.slice po f.params.length pc) f.params (HPr.out.keep (S' := fun k => ¬ p.out k) fun q h1 lt => ⟨h1,hb1.block q lt⟩) hlen (by omega))
    rcases hfit : fitB l f.params with _ | _
    · rw [hfit] at hR HFt
      rw [if_pos (Or.inl rfl)] at hR
      have HR := hide hR
      clear hR hlen
      go_enter Tryz.func19,Tryz.ntmps19
      go_wp2_with fail
      refine HEx2.out.mono ?_
      rintro e w1 ⟨rfl,hb1⟩
      have d3 := (below_cell hb1 cl 3).trans c3
      have j0 := (below_cell hb1 ibl 0).trans i0
      have r3 := (below_cell hb1 hfbl (k * 8 + 3)).trans q3
      have z1 := hb1.size
      have cl1 : p.sb < w1.heap.size := by omega
      have ibl1 : ib < w1.heap.size := by omega
      have fbl1 : fb < w1.heap.size := by omega
      have HB1 := hide hb1
      have HF1 := hide (HFt.out w1 hb1)
      clear hb1
      go_wp2_with fail
      refine HF1.out.mono ?_
      rintro e w1 ⟨rfl,rfl⟩
      go_wp2
      go_ret2
      exact ⟨ret_run HR.out,HB1.out⟩
    · rw [hfit] at hR HFt
      have HWi := hide (fun w => within_any fuel 0 10000 (by omega) w)
      rcases hwi : withinB fuel 0 10000 with _ | _
      · rw [hwi] at hR HWi
        rw [if_pos (Or.inr rfl)] at hR
        have HR := hide hR
        clear hR hlen
        go_enter Tryz.func19,Tryz.ntmps19
        go_wp2_with fail
        refine HEx2.out.mono ?_
        rintro e w1 ⟨rfl,hb1⟩
        have d3 := (below_cell hb1 cl 3).trans c3
        have j0 := (below_cell hb1 ibl 0).trans i0
        have r3 := (below_cell hb1 hfbl (k * 8 + 3)).trans q3
        have z1 := hb1.size
        have cl1 : p.sb < w1.heap.size := by omega
        have ibl1 : ib < w1.heap.size := by omega
        have fbl1 : fb < w1.heap.size := by omega
        have HB1 := hide hb1
        have HF1 := hide (HFt.out w1 hb1)
        clear hb1
        go_wp2_with fail
        refine HF1.out.mono ?_
        rintro e w1 ⟨rfl,rfl⟩
        go_wp2_with fail
        refine (HWi.out _).mono ?_
        rintro e w1 ⟨rfl,rfl⟩
        go_wp2
        go_ret2
        exact ⟨ret_run HR.out,HB1.out⟩
      · rw [hwi] at hR HWi
        rw [if_neg (by simp)] at hR
        have hfu : 0 ≤ fuel ∧ fuel ≤ 10000 := by unfold withinB at hwi; simpa using hwi
        obtain ⟨fu,rfl⟩ : ∃ fu : Nat,fuel = (fu : Int) := ⟨fuel.toNat,by omega⟩
        rw [Int.toNat_natCast] at hR
        obtain ⟨s1,t,nn,e1,e2,e3,e4,e5⟩ := hR
        have hAr := args_of HA.out
        have HMr := hide (fun (w1 : World) (hb1 : Below w.heap.size w w1) => mrun_any ib fb (fs.map fnOf) w1 (by
          have hx := HIg.out.below hb1
          have hz := hb1.size
          exact ⟨by have := hx.i1; omega,by have := hx.i2; omega,hx.row,fun j hj => by
            obtain ⟨a,b,cb,cc,c1,c2,c3⟩ := hx.funs j hj
            exact ⟨a,b,cb,cc,by omega,c2,c3⟩,hx.small⟩) k ao ac l hll hAr.1 (by
          refine ⟨hAr.2.1,fun ad had j u hu => ?_⟩
          obtain ⟨a1,a2⟩ := hAr.2.2 ad had j u hu
          refine ⟨?_,by have := hb1.size; omega⟩
          rw [← a1]
          exact World.cell?_of_block (hb1.block _ (by rw [add_block]; exact a2))) fu (by omega) s1 t e1 nn e2 e3 e4)
        rw [e5] at HMr
        clear hlen e1 e2 e3 e4 e5 hAr
        go_enter Tryz.func19,Tryz.ntmps19
        go_wp2_with fail
        refine HEx2.out.mono ?_
        rintro e w1 ⟨rfl,hb1⟩
        have d3 := (below_cell hb1 cl 3).trans c3
        have j0 := (below_cell hb1 ibl 0).trans i0
        have r3 := (below_cell hb1 hfbl (k * 8 + 3)).trans q3
        have z1 := hb1.size
        have cl1 : p.sb < w1.heap.size := by omega
        have ibl1 : ib < w1.heap.size := by omega
        have fbl1 : fb < w1.heap.size := by omega
        have HB1 := hide hb1
        have HF1 := hide (HFt.out w1 hb1)
        have HM1 := hide (HMr.out w1 hb1)
        clear hb1
        go_wp2_with fail
        refine HF1.out.mono ?_
        rintro e w1 ⟨rfl,rfl⟩
        go_wp2_with fail
        refine (HWi.out _).mono ?_
        rintro e w1 ⟨rfl,rfl⟩
        go_wp2_with fail
        refine HM1.out.mono ?_
        rintro e w2 ⟨rfl,hb2⟩
        have HB2 := hide (HB1.out.trans (hb2.mono z1))
        clear hb2
        go_wp2
        go_ret2
        exact ⟨rfl,HB2.out⟩
  rw [if_pos hlen] at hR
  have HR := hide hR
  have hlen' : ¬ (l.length : Int) = (f.params.length : Int) := by omega
  clear hR hlen
  go_enter Tryz.func19,Tryz.ntmps19
  go_wp2_with fail
  refine HEx2.out.mono ?_
  rintro e w1 ⟨rfl,hb1⟩
  have d3 := (below_cell hb1 cl 3).trans c3
  have j0 := (below_cell hb1 ibl 0).trans i0
  have r3 := (below_cell hb1 hfbl (k * 8 + 3)).trans q3
  have z1 := hb1.size
  have cl1 : p.sb < w1.heap.size := by omega
  have ibl1 : ib < w1.heap.size := by omega
  have fbl1 : fb < w1.heap.size := by omega
  have HB1 := hide hb1
  clear hb1
  go_wp2
  go_ret2
  exact ⟨ret_run HR.out,HB1.out⟩
end Go.Proofs.YtpmmjkiclngpmaaGreatDoor
