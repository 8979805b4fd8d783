/- YtpmmjkiclngpmaaGreatDoorB33 -/
import Derived.Test.YtpmmjkiclngpmaaGreatDoorB29
import Derived.Test.YtpmmjkiclngpmaaGreatDoorB17
import Derived.Deep.LoopGhost
set_option maxRecDepth 100000
set_option linter.unusedSimpArgs false
set_option linter.unusedVariables false
set_option maxHeartbeats 12800000
namespace Go.Proofs.YtpmmjkiclngpmaaGreatDoor
open Go.RowKit
def cfOf (vn : Nm) (fnd : Fnd) (m : Nat) (f : Fun) (lk : List Us) : CF :=
  ⟨vn,f.name,f.pub,f.params.map (fun x => x.typ),sigText (f.params.map fun x => x.typ) f.result,(codeOf fnd m f lk).slots,(codeOf fnd m f lk).code,(codeOf fnd m f lk).calls⟩
def compK (vn : Nm) (fnd : Fnd) (m : Nat) : List Fun → List Us → List CF × List Us
  | [],lk => ([],lk)
  | f :: r,lk => (cfOf vn fnd m f lk :: (compK vn fnd m r (codeOf fnd m f lk).lk).1,(compK vn fnd m r (codeOf fnd m f lk).lk).2)
theorem compK_drop (vn : Nm) (fnd : Fnd) (m : Nat) (l : List Fun) (j : Nat) (hj : j < l.length) (lk : List Us) :
    compK vn fnd m (l.drop j) lk = (cfOf vn fnd m l[j] lk :: (compK vn fnd m (l.drop (j + 1)) (codeOf fnd m l[j] lk).lk).1,(compK vn fnd m (l.drop (j + 1)) (codeOf fnd m l[j] lk).lk).2) := by
  rw [List.drop_eq_getElem_cons hj]; rfl
theorem codeOf_lk (fnd : Fnd) (m : Nat) (f : Fun) (lk : List Us) : (codeOf fnd m f lk).lk.length ≤ lk.length + 1000 * sz (m + 1) f.body := by
  have h1 := (gen_grew fnd (m + 1) f.body (enters f.params (begun lk))).lk
  rw [(enters_len f.params (begun lk) (by simp [begun])).2.2.2.2] at h1
  exact h1
theorem info_cfun : (Tryz.prog.info? 92).map (fun i => (i.zero,i.size,i.bytes)) = some (some (.agg #[.string ⟨#[]⟩,.string ⟨#[]⟩,.bool false,.slice none 0 0,.string ⟨#[]⟩,.int .i64 0,.slice none 0 0,.slice none 0 0]),8,136) := by kernel_rfl
theorem new8_cells (w : World) (a0 a1 a2 a3 a4 a5 a6 a7 : Value) (t : TypeId) : ∀ j u,[a0,a1,a2,a3,a4,a5,a6,a7][j]? = some u → (w.alloc (.cells #[a0,a1,a2,a3,a4,a5,a6,a7] t)).cell? ((⟨w.heap.size,0,none⟩ : Addr).add j) = some u := by
  intro j u hj
  match j,hj with
  | 0,hj => simp at hj; subst hj; simp [Addr.add]
  | 1,hj => simp at hj; subst hj; simp [Addr.add]
  | 2,hj => simp at hj; subst hj; simp [Addr.add]
  | 3,hj => simp at hj; subst hj; simp [Addr.add]
  | 4,hj => simp at hj; subst hj; simp [Addr.add]
  | 5,hj => simp at hj; subst hj; simp [Addr.add]
  | 6,hj => simp at hj; subst hj; simp [Addr.add]
  | 7,hj => simp at hj; subst hj; simp [Addr.add]
theorem FnsAt.snoc {S : Nat → Prop} {w : World} {xs : List Value} {fs : List CF} (h : FnsAt S w xs fs) {f : CF} {pv kv lv : Value} (hr : FnRows S w f pv kv lv) : FnsAt S w (xs ++ fnCells f pv kv lv) (fs ++ [f]) := by
  refine ⟨by rw [List.length_append,h.1,List.length_append,List.length_singleton]; simp [fnCells]; omega,fun j hj => ?_⟩
  rw [List.length_append,List.length_singleton] at hj
  rcases Nat.lt_or_ge j fs.length with h1 | h1
  · obtain ⟨a,b,c,e,g⟩ := h.2 j h1
    refine ⟨a,b,c,?_,?_⟩
    · rw [List.getElem_append_left h1,← e,List.drop_append_of_le_length (by rw [h.1]; omega),List.take_append_of_le_length (by rw [List.length_drop,h.1]; omega)]
    · rw [List.getElem_append_left h1]; exact g
  · have e : j = fs.length := by omega
    subst e
    refine ⟨pv,kv,lv,?_,?_⟩
    · rw [List.getElem_append_right (by omega),← h.1,List.drop_left]
      simp [fnCells]
    · rw [List.getElem_append_right (by omega)]
      simpa using hr
def Apart (lo : Nat) (V : VK) (uv fv : Value) (b1 b2 : Nat) (k : Nat) : Prop := lo ≤ k ∧ k ≠ V.b ∧ uv.ownBlock ≠ some k ∧ V.iv.ownBlock ≠ some k ∧ k ≠ b1 ∧ k ≠ b2 ∧ fv.ownBlock ≠ some k
structure Cps (lo : Nat) (V : VK) (uv fv : Value) (b1 b2 : Nat) (fs : List CF) (lk : List Us) (w0 w : World) : Prop where
  bel : Below lo w0 w
  vw : Vw lo V lk uv w
  c1 : w.heap[b1]? = some (.cells #[.slice none 0 0] 151 (0,0))
  c2 : w.heap[b2]? = some (.cells #[fv] 151 (0,0))
  l1 : lo ≤ b1
  l2 : lo ≤ b2
  n12 : b1 ≠ b2
  row : ∃ xs,w.ownsRow lo 92 8 fv fs.length xs ∧ FnsAt (Apart lo V uv fv b1 b2) w xs fs
  d1 : ∀ k,VHas V uv k → k ≠ b1 ∧ k ≠ b2 ∧ fv.ownBlock ≠ some k
  d2 : fv.ownBlock ≠ some b1 ∧ fv.ownBlock ≠ some b2
theorem vals8 (a0 a1 a2 a3 a4 a5 a6 a7 : Value) (h0 : a0.oneCell' = true) (h1 : a1.oneCell' = true) (h2 : a2.oneCell' = true) (h3 : a3.oneCell' = true) (h4 : a4.oneCell' = true) (h5 : a5.oneCell' = true) (h6 : a6.oneCell' = true) (h7 : a7.oneCell' = true) :
    ∀ u ∈ [a0,a1,a2,a3,a4,a5,a6,a7],u.oneCell' = true := by
  intro u hu
  simp only [List.mem_cons,List.not_mem_nil,or_false] at hu
  rcases hu with rfl | rfl | rfl | rfl | rfl | rfl | rfl | rfl <;> assumption
theorem Cps.put {lo : Nat} {V : VK} {uv fv : Value} {b1 b2 : Nat} {fs : List CF} {lk lk3 : List Us} {w0 w w3 w4 : World} (h : Cps lo V uv fv b1 b2 fs lk w0 w) {uv3 : Value}
    (hc : Cel ⟨lo,fun k => k < w.heap.size ∧ k ≠ V.b ∧ uv.ownBlock ≠ some k⟩ w w3) (hv : Vw lo V lk3 uv3 w3) {f : CF} {pv kv lv : Value}
    (hp : w3.ownsRow lo 132 1 pv f.params.length (typCells f.params)) (hk : w3.ownsRow lo 196 2 kv f.code.length (insCells f.code)) (hl : w3.ownsRow lo 87 2 lv f.calls.length (symCells f.calls))
    (hr : ∀ k,pv.ownBlock = some k ∨ kv.ownBlock = some k ∨ lv.ownBlock = some k → ¬ (k < w.heap.size ∧ k ≠ V.b ∧ uv.ownBlock ≠ some k) ∧ ¬ VHas V uv3 k)
    (hu : ∀ k,k = V.b ∨ uv3.ownBlock = some k → ¬ (k < w.heap.size ∧ k ≠ V.b ∧ uv.ownBlock ≠ some k))
    (xs : List Value) (hxs : w.ownsRow lo 92 8 fv fs.length xs) (hfs : FnsAt (Apart lo V uv fv b1 b2) w xs fs)
    {v' : Value} (ho : w4.ownsRow lo 92 8 v' (fs.length + 1) (xs ++ fnCells f pv kv lv)) (hg : w3.grownBy w4 fv.ownBlock) (hw : ∀ k,v'.ownBlock = some k → fv.ownBlock = some k ∨ w3.heap.size ≤ k) :
    Cps lo V uv3 v' b1 b2 (fs ++ [f]) lk3 w0 (w4.setCell ⟨b2,0,none⟩ v') := by
  have hlow := h.vw.low
  have hvlt := h.vw.lt
  have e1 := lt_of_some h.c1
  have e2 := lt_of_some h.c2
  have hlw : lo ≤ w.heap.size := by omega
  have hs3 := hc.bel.size
  have hd1 := h.d1
  have T : ∀ k,k < w.heap.size → k ≠ V.b → uv.ownBlock ≠ some k → w3.heap[k]? = w.heap[k]? := fun k a b c => hc.tab k ⟨a,b,c⟩
  have nb1 : b1 ≠ V.b ∧ uv.ownBlock ≠ some b1 := ⟨fun e => (hd1 V.b (Or.inl rfl)).1 e.symm,fun e => (hd1 b1 (Or.inr (Or.inr e))).1 rfl⟩
  have nb2 : b2 ≠ V.b ∧ uv.ownBlock ≠ some b2 := ⟨fun e => (hd1 V.b (Or.inl rfl)).2.1 e.symm,fun e => (hd1 b2 (Or.inr (Or.inr e))).2.1 rfl⟩
  have nf : ∀ k,fv.ownBlock = some k → k ≠ V.b ∧ uv.ownBlock ≠ some k := fun k e => ⟨fun e' => (hd1 V.b (Or.inl rfl)).2.2 (by rw [← e']; exact e),fun e' => (hd1 k (Or.inr (Or.inr e'))).2.2 e⟩
  have fvlt := fun k e => (owns_block hxs k e).2
  have ni : ∀ k,V.iv.ownBlock = some k → k < w.heap.size ∧ k ≠ V.b ∧ uv.ownBlock ≠ some k := fun k e => ⟨(owns_block h.vw.imp k e).2,fun e' => h.vw.n1 (by rw [← e']; exact e),h.vw.n3 k e⟩
  have g4 : ∀ k,k < w3.heap.size → fv.ownBlock ≠ some k → w4.heap[k]? = w3.heap[k]? := fun k a b => hg.block k a (fun e => b e.symm)
  have hv'b : ∀ k,k < w3.heap.size → fv.ownBlock ≠ some k → v'.ownBlock ≠ some k := fun k a b e => (hw k e).elim b (fun e' => by omega)
  have hs4 := hg.size
  have uvb : ∀ k,uv3.ownBlock = some k → k ≠ b1 ∧ k ≠ b2 ∧ fv.ownBlock ≠ some k ∧ k < w3.heap.size := fun k e =>
    ⟨fun e' => hu k (Or.inr e) ⟨by omega,by rw [e']; exact nb1.1,by rw [e']; exact nb1.2⟩,fun e' => hu k (Or.inr e) ⟨by omega,by rw [e']; exact nb2.1,by rw [e']; exact nb2.2⟩,
     fun e' => hu k (Or.inr e) ⟨fvlt k e',(nf k e').1,(nf k e').2⟩,(owns_block hv.lks k e).2⟩
  have vh3 : ∀ k,VHas V uv3 k → k ≠ b1 ∧ k ≠ b2 ∧ fv.ownBlock ≠ some k ∧ k < w3.heap.size := fun k hk => by
    rcases hk with rfl | e | e
    · exact ⟨fun e => nb1.1 e.symm,fun e => nb2.1 e.symm,(hd1 V.b (Or.inl rfl)).2.2,by omega⟩
    · have := ni k e
      exact ⟨(hd1 k (Or.inr (Or.inl e))).1,(hd1 k (Or.inr (Or.inl e))).2.1,(hd1 k (Or.inr (Or.inl e))).2.2,by omega⟩
    · exact uvb k e
  have hb2v : v'.ownBlock ≠ some b2 := hv'b b2 (by omega) h.d2.2
  have hb1v : v'.ownBlock ≠ some b1 := hv'b b1 (by omega) h.d2.1
  have keep4 : ∀ k,k < w3.heap.size → fv.ownBlock ≠ some k → k ≠ b2 → (w4.setCell ⟨b2,0,none⟩ v').heap[k]? = w3.heap[k]? := fun k a b c => (Below.heap_setCell _ _ _ _ c).trans (g4 k a b)
  have apold : ∀ k,Apart lo V uv fv b1 b2 k → k < w.heap.size → Apart lo V uv3 v' b1 b2 k ∧ (w4.setCell ⟨b2,0,none⟩ v').heap[k]? = w.heap[k]? := fun k ha hk => by
    obtain ⟨a1,a2,a3,a4,a5,a6,a7⟩ := ha
    refine ⟨⟨a1,a2,fun e => hu k (Or.inr e) ⟨hk,a2,a3⟩,a4,a5,a6,hv'b k (by omega) a7⟩,(keep4 k (by omega) a7 a6).trans (T k hk a2 a3)⟩
  have apnew : ∀ (v : Value) (t : TypeId) (sz n : Nat) (ys : List Value),w3.ownsRow lo t sz v n ys → (∀ k,v.ownBlock = some k → pv.ownBlock = some k ∨ kv.ownBlock = some k ∨ lv.ownBlock = some k) → CRow (Apart lo V uv3 v' b1 b2) (w4.setCell ⟨b2,0,none⟩ v') t sz v n ys := fun v t sz n ys hv1 hv2 => by
    have q : ∀ k,v.ownBlock = some k → Apart lo V uv3 v' b1 b2 k ∧ fv.ownBlock ≠ some k ∧ k ≠ b2 ∧ k < w3.heap.size := fun k e => by
      obtain ⟨r1,r2⟩ := hr k (hv2 k e)
      obtain ⟨o1,o2⟩ := owns_block hv1 k e
      have s1 : k ≠ V.b := fun e' => r2 (Or.inl e')
      have s2 : uv3.ownBlock ≠ some k := fun e' => r2 (Or.inr (Or.inr e'))
      have s3 : V.iv.ownBlock ≠ some k := fun e' => r2 (Or.inr (Or.inl e'))
      have s4 : k ≠ b1 := fun e' => r1 ⟨by omega,by rw [e']; exact nb1.1,by rw [e']; exact nb1.2⟩
      have s5 : k ≠ b2 := fun e' => r1 ⟨by omega,by rw [e']; exact nb2.1,by rw [e']; exact nb2.2⟩
      have s6 : fv.ownBlock ≠ some k := fun e' => r1 ⟨fvlt k e',(nf k e').1,(nf k e').2⟩
      exact ⟨⟨o1,s1,s2,s3,s4,s5,hv'b k o2 s6⟩,s6,s5,o2⟩
    exact ⟨own_base (owr_keep hv1 fun k e l => keep4 k l (q k e).2.1 (q k e).2.2.1) (Nat.zero_le _),fun k e => (q k e).1⟩
  refine ⟨?_,?_,?_,?_,h.l1,h.l2,h.n12,⟨xs ++ fnCells f pv kv lv,?_,?_⟩,fun k hk => ?_,⟨hb1v,hb2v⟩⟩
  · have hB : Below lo w w4 := ⟨hg.os.trans hc.bel.os,hg.tape.trans hc.bel.tape,hg.output.trans hc.bel.output,by omega,fun k hk => (g4 k (by omega) (fun e => by have := (owns_block hxs k e).1; omega)).trans (hc.bel.block k hk)⟩
    exact (h.bel.trans hB).setCell (p := ⟨b2,0,none⟩) h.l2 _
  · refine hv.keep fun k hk => ?_
    obtain ⟨q1,q2,q3,q4⟩ := vh3 k hk
    exact keep4 k q4 q3 q2
  · exact (keep4 b1 (by omega) h.d2.1 h.n12).trans ((T b1 e1 nb1.1 nb1.2).trans h.c1)
  · rw [block_setCell ((g4 b2 (by omega) h.d2.2).trans ((T b2 e2 nb2.1 nb2.2).trans h.c2))]; rfl
  · rw [List.length_append,List.length_singleton]
    exact owns_set_other ho hb2v _ _
  · exact (hfs.keep apold).snoc ⟨apnew _ _ _ _ _ hp (fun k e => Or.inl e),apnew _ _ _ _ _ hk (fun k e => Or.inr (Or.inl e)),apnew _ _ _ _ _ hl (fun k e => Or.inr (Or.inr e))⟩
  · obtain ⟨q1,q2,q3,q4⟩ := vh3 k hk
    exact ⟨q1,q2,hv'b k q4 q3⟩
end Go.Proofs.YtpmmjkiclngpmaaGreatDoor
namespace Go.Proofs.YtpmmjkiclngpmaaGreatDoor
open Go.RowKit
theorem compile_any (m : Nat) (S : Nat → Prop) (lo : Nat) (w : World) (V : VK) (lk0 : List Us) (uv0 : Value) (hvw : Vw lo V lk0 uv0 w) (hS : ∀ k,S k → k < lo)
    (md : Mod) (hM : ModAt m S lo w V.mb md) (fnd : Fnd) (known : List UInt8 → Prop) (hfnd : ∀ C tb w1,C.c0 = .pointer (some ⟨V.b,0,none⟩) → C.V = V → Below lo w w1 → FindC ⟨lo,tb⟩ w1 C fnd known)
    (hfl : md.funs.length ≤ 100000) (hsh : ∀ f ∈ md.funs,Shp known (m + 1) f.body) (hpl : ∀ f ∈ md.funs,f.params.length + 2 * sz (m + 1) f.body + 2 ≤ 1000000) (hpp : ∀ f ∈ md.funs,f.params.length ≤ 100000) (hlk : lk0.length + 1000 * szF m md.funs ≤ 8000000000) :
    Calls Tryz.prog 77 #[.pointer (some ⟨V.b,0,none⟩)] w fun e w' => ∃ fv uv xs,e = .returned (.agg #[fv]) ∧ Below lo w w' ∧ Vw lo V (compK V.nm fnd m md.funs lk0).2 uv w' ∧
      w'.ownsRow lo 92 8 fv (compK V.nm fnd m md.funs lk0).1.length xs ∧ FnsAt (fun k => lo ≤ k ∧ ¬ VHas V uv k) w' xs (compK V.nm fnd m md.funs lk0).1 ∧ ∀ k,fv.ownBlock = some k → ¬ VHas V uv k := by
  have hlow := hvw.low
  have hvlt := hvw.lt
  have hlw : lo ≤ w.heap.size := by omega
  obtain ⟨c0,c1,c2,c3⟩ := hvw.field
  obtain ⟨fo,fc,a1,hfun⟩ := hM.funs
  have hmb := hM.lt
  have HM := hide hM
  have HFun := hide hfun
  have HFnd := hide hfnd
  have HSh := hide hsh
  have HPl := hide hpl
  have HPp := hide hpp
  have HA1 := hide a1
  have hmw : V.mb < w.heap.size := by omega
  obtain ⟨i0,hi,hz0,hz1,hz2⟩ := info_parts info_cfun
  have HCp := hide (show Cps lo V uv0 (.slice none 0 0) w.heap.size (w.heap.size + 1) [] lk0 w ((w.alloc (.cells #[.slice none 0 0] 151)).alloc (.cells #[.slice none 0 0] 151)) from by
    have e1 : (w.alloc (.cells #[.slice none 0 0] 151)).heap.size = w.heap.size + 1 := by simp
    refine ⟨((Below.refl _ _).alloc hlw _).alloc (by rw [e1]; omega) _,(hvw.alloc _).alloc _,block_alloc (block_new w _) _,block_new2 w _ _,hlw,by omega,by omega,⟨[],World.ownsRow_nil _ _ _ _,⟨rfl,fun j hj => absurd hj (by simp)⟩⟩,fun k hk => ?_,⟨by simp [Value.ownBlock],by simp [Value.ownBlock]⟩⟩
    have := (hvw.has hk).2
    exact ⟨by omega,by omega,by simp [Value.ownBlock]⟩)
  clear hvw hM hfun hfnd hsh hpl hpp c0 c2 c3
  go_enter Tryz.func77,Tryz.ntmps77
  go_wp2
  go_loopg [13] md.funs.length (fun n i wr => ∃ (j : Nat) (fs : List CF) (lk : List Us) (uv fv : Value),n + j = md.funs.length ∧ i = .int .i64 j ∧ Hid (compK V.nm fnd m md.funs lk0 = (fs ++ (compK V.nm fnd m (md.funs.drop j) lk).1,(compK V.nm fnd m (md.funs.drop j) lk).2)) ∧ fs.length = j ∧ lk.length + 1000 * szF m (md.funs.drop j) ≤ 8000000000 ∧ Hid (Cps lo V uv fv w.heap.size (w.heap.size + 1) fs lk w wr))
  case atStart => exact ⟨0,[],lk0,uv0,.slice none 0 0,by omega,rfl,by show _ = _; simp,rfl,by simpa using hlk,HCp.out⟩
  case round =>
    obtain ⟨j,fs,lk,uv,fv,hj,rfl,HR,hfsl,hlkj,HC⟩ := hrel
    have hbel := HC.out.bel
    obtain ⟨d0,d1,d2,d3⟩ := HC.out.vw.field
    have hv1 := HC.out.vw.lt
    have q2 := cell_block HC.out.c2 0
    have q1 := cell_block HC.out.c1 0
    have q2f := free_block HC.out.c2
    have q1f := free_block HC.out.c1
    have q2l := lt_of_some HC.out.c2
    have q1l := lt_of_some HC.out.c1
    simp at q1 q2
    have x1 := (below_cell hbel hmb 1).trans HA1.out
    have hmr : V.mb < wr.heap.size := by omega
    have HBl := hide hbel
    clear hbel
    by_cases hlt : j < md.funs.length
    · obtain ⟨g,rfl,hgB,hfc,hat⟩ := HFun.out (by omega)
      have HAt := hide ((hat j hlt).below hS hgB HBl.out)
      have hg7 : g < wr.heap.size := by omega
      have hmem := List.getElem_mem hlt
      have HD := hide (compK_drop V.nm fnd m md.funs j hlt lk)
      have hsd := szF_drop m md.funs j hlt
      have HNx := hide (show (codeOf fnd m md.funs[j] lk).lk.length + 1000 * szF m (md.funs.drop (j + 1)) ≤ 8000000000 by have := codeOf_lk fnd m md.funs[j] lk; omega)
      have HS1 := hide (HSh.out _ hmem)
      have HP1 := hide (HPl.out _ hmem)
      have HP2 := hide (HPp.out _ hmem)
      have hk1 : lk.length + 1000 * sz (m + 1) md.funs[j].body ≤ 8000000000 := by omega
      obtain ⟨xs,hxs,hfs⟩ := HC.out.row
      have HXs0 := hide hxs
      rw [hfsl] at hxs
      have HXs := hide hxs
      have HFs := hide hfs
      obtain ⟨so,sc,hfv⟩ := owns_shape' hxs
      have HCall := hide (fun (wq : World) (hq : Below wr.heap.size wr wq) => compileFunction_any m S lo (fun k => k < wr.heap.size ∧ k ≠ V.b ∧ uv.ownBlock ≠ some k) hS wq V lk uv (HC.out.vw.below hq)
        (fun k hk => by have := hq.size; omega) (fun k hk hk2 => hk.elim hk2.2.1 hk2.2.2) (fun k e => ⟨(owns_block HC.out.vw.imp k e).2,fun e' => HC.out.vw.n1 (by rw [← e']; exact e),HC.out.vw.n3 k e⟩)
        g (j * 10) md.funs[j] (HAt.out.below hS hgB (hq.mono (by omega))) hgB fnd known (fun C tb w1 e1 e2 hb => HFnd.out C tb w1 e1 e2 ((HBl.out.trans (hq.mono (by omega))).trans hb))
        (sigText (md.funs[j].params.map fun x => x.typ) md.funs[j].result) (fun w' hb' => signature_any w' g (j * 10) md.funs[j] (((HAt.out.below hS hgB (hq.mono (by omega))).below hS hgB hb').mono (by have := hb'.size; have := hq.size; omega)) (by have := hb'.size; have := hq.size; omega) HP2.out) HS1.out HP1.out hk1)
      have HLen := hide hfsl
      have b1 : j + 1 ≤ maxLen := by unfold maxLen; omega
      have b2 : (j + 1) * 136 ≤ 140737488355328 := by omega
      clear hat hmem hsd hxs hfs hlkj hfsl
      subst hfv
      generalize hff : md.funs[j] = f at *
      clear hff
      go_wp2_with fail
      go_region_law (first
          | (refine step_call rfl 116 #[.tmp 18,.tmp 27] #[158,226] rfl Tryz.call116 #[.pointer (some ⟨V.b,0,none⟩),.pointer (some ⟨g,j * 10,none⟩)] ?_ (HCall.out wr.drew ((Below.refl _ _).drew)) ?_; (simp [Act.eval,Act.put]); rintro e w3 ⟨pv,kv,lv,uv3,rfl,hcel,hv3,hp3,hk3,hl3,hr3,hu3⟩; obtain ⟨po,pc,rfl⟩ := owns_shape' hp3; obtain ⟨ko,kc,rfl⟩ := owns_shape' hk3; obtain ⟨zo,zc,rfl⟩ := owns_shape' hl3; refine ⟨_,rfl,?_⟩; unfold fnVal; have HCel := hide hcel; have HV3 := hide hv3; have HP3 := hide hp3; have HK3 := hide hk3; have HL3 := hide hl3; have HR3 := hide hr3; have HU3 := hide hu3; have HT2 := hide ((hcel.tab (w.heap.size + 1) ⟨q2l,fun e => (HC.out.d1 V.b (Or.inl rfl)).2.1 e.symm,fun e => (HC.out.d1 _ (Or.inr (Or.inr e))).2.1 rfl⟩).trans HC.out.c2); have r2 := cell_block HT2.out 0; have r2f := free_block HT2.out; have r2l := lt_of_some HT2.out; simp at r2; clear hcel hv3 hp3 hk3 hl3 hr3 hu3)
          | (refine step_app_where rfl (.tmp 17) (.tmp 29) 93 rfl lo 92 i0 (.agg #[.string ⟨#[]⟩,.string ⟨#[]⟩,.bool false,.slice none 0 0,.string ⟨#[]⟩,.int .i64 0,.slice none 0 0,.slice none 0 0]) 8 136 Tryz.underlying93 hi hz0 hz1 hz2 rfl (by decide) (.slice so j sc) j xs ?_ ?_ ⟨w3.heap.size,0,none⟩ 1 1 (fnCells (cfOf V.nm fnd m f lk) (.slice po f.params.length pc) (.slice ko (codeOf fnd m f lk).code.length kc) (.slice zo (codeOf fnd m f lk).calls.length zc)) ?_ rfl ?_ ?_ b1 b2 ?_ ?_; (simp [Act.eval,Act.put]); (exact (owr_keep HXs.out (fun k e l => HCel.out.tab k ⟨l,fun e' => (HC.out.d1 V.b (Or.inl rfl)).2.2 (by rw [← e']; exact e),fun e' => (HC.out.d1 k (Or.inr (Or.inr e'))).2.2 e⟩)).alloc _); (simp [Act.eval,Act.put]); (exact (new8_cells w3 _ _ _ _ _ _ _ _ _)); (exact vals8 _ _ _ _ _ _ _ _ rfl rfl rfl rfl rfl rfl rfl rfl); (simp; omega); intro v' w4 hown hgrow hwhere; obtain ⟨vo,vc,rfl⟩ := owns_shape' hown; have HG := hide (grown_alloc hgrow); have HO4 := hide hown; have HWh := hide hwhere; have hmk := (HG.out.block (w.heap.size + 1) r2l (fun e => HC.out.d2.2 e.symm)).trans HT2.out; have k9 := cell_block hmk 0; have kf := free_block hmk; have kl := lt_of_some hmk; simp at k9; clear hown hgrow hwhere hmk))
      all_goals
        (try go_wp2_with fail)
        have HPut := hide (HC.out.put (f := cfOf V.nm fnd m f lk) (w3 := w3) ⟨⟨HCel.out.bel.os,HCel.out.bel.tape,HCel.out.bel.output,HCel.out.bel.size,HCel.out.bel.block⟩,HCel.out.tab⟩ HV3.out (by show World.ownsRow _ _ _ _ _ _ _; simpa [cfOf] using HP3.out) HK3.out HL3.out HR3.out HU3.out xs HXs0.out HFs.out (by rw [HLen.out]; exact HO4.out) HG.out (fun k e => (HWh.out k e).imp id (fun h => by simp at h; omega)))
        go_wp2
        go_roundg (gk - 1)
        case measure => omega
        case rel =>
          refine ⟨j + 1,fs ++ [cfOf V.nm fnd m f lk],(codeOf fnd m f lk).lk,uv3,_,by omega,by first | rfl | go_num,?_,by have := HLen.out; simp; omega,HNx.out,HPut.out⟩
          show _ = _
          rw [HR.out,HD.out]
          simp
    · have hje : j = md.funs.length := by omega
      have HX := hide (show compK V.nm fnd m md.funs lk0 = (fs,lk) by rw [HR.out,hje,List.drop_length]; simp [compK])
      obtain ⟨xs,hxs,hfs⟩ := HC.out.row
      obtain ⟨so,sc,hfv⟩ := owns_shape' hxs
      rw [show fs.length = md.funs.length by omega] at hfv
      have HXs := hide hxs
      have HFs := hide hfs
      clear hxs hfs
      subst hfv
      have hji : ¬ (j : Int) < (md.funs.length : Int) := by omega
      go_wp2
      have hb1 : (wr.setCell ⟨w.heap.size,0,none⟩ (.slice so md.funs.length sc)).heap[w.heap.size]? = some (.cells #[.slice so md.funs.length sc] 151 (0,0)) := by rw [block_setCell HC.out.c1]; rfl
      have r0 := cell_block hb1 0
      have rl := lt_of_some hb1
      simp at r0
      have hne : ∀ k,VHas V uv k → k ≠ w.heap.size := fun k hk => (HC.out.d1 k hk).1
      refine bodyPost_ret (v := .agg #[.slice so md.funs.length sc]) (by simp [results,Tryz.results77,go_sem,r0,rl]) rfl ⟨.slice so md.funs.length sc,rfl,?_⟩
      rw [HX.out]
      refine ⟨HBl.out.setCell (p := ⟨w.heap.size,0,none⟩) hlw _,uv,HC.out.vw.set hne _ _,xs,owns_set_other HXs.out HC.out.d2.1 _ _,HFs.out.keep fun k hk hl => ?_,fun k e hk => (HC.out.d1 k hk).2.2 e⟩
      obtain ⟨a1',a2',a3',a4',a5',a6',a7'⟩ := hk
      exact ⟨⟨a1',fun hv => by rcases hv with e | e | e; exact a2' e; exact a4' e; exact a3' e⟩,Below.heap_setCell _ _ _ _ a5'⟩
end Go.Proofs.YtpmmjkiclngpmaaGreatDoor
