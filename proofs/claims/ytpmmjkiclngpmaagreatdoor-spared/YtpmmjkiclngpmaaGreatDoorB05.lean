/- YtpmmjkiclngpmaaGreatDoorB05 -/
import Derived.Test.YtpmmjkiclngpmaaGreatDoorB01
import Derived.BigQuiet
import Derived.Deep.RegionLaw
set_option maxRecDepth 100000
set_option linter.unusedSimpArgs false
set_option linter.unusedVariables false
set_option maxHeartbeats 12800000
namespace Go.Proofs.YtpmmjkiclngpmaaGreatDoor
open Go.RowKit
theorem own_base {w : World} {base base' : Nat} {e : TypeId} {size : Nat} {v : Value} {n : Nat} {xs : List Value} (h : w.ownsRow base e size v n xs) (hb : base' ≤ base) : w.ownsRow base' e size v n xs := by
  refine ⟨h.1,?_⟩
  rcases h.2 with h | ⟨g,cap,cur,a,b,c⟩
  · exact Or.inl h
  · exact Or.inr ⟨g,cap,cur,a,Nat.le_trans hb b,c⟩
theorem grown_wk {w w' : World} (h : w.grownBy w' none) (r : Option Nat) : w.grownBy w' r := ⟨h.os,h.tape,h.output,h.size,fun k hk hne => h.block k hk (by simp)⟩
theorem app_told {P : Program} (w : World) {ops : Array Oper} {rest : List Oper} {o : Oper} {a : Act} {Q : Exit → Act → World → Prop}
    (hg : o.guard = none) (s x : Operand) (t : TypeId) (hop : o.op = Op.call { callee := Callee.builtin Builtin.append,args := #[s,x],argTypes := #[t,t] })
    (base : Nat) (e : TypeId) (i : TypeInfo) (z : Value) (size bytes : Nat) (h1 : P.underlying t = some (.slice e)) (h2 : P.info? e = some i) (h3 : i.zero = some z) (h4 : i.size = size) (h5 : i.bytes = bytes) (h6 : z.cells.size = size) (h7 : 0 < size)
    (g n cap : Nat) (xs : List Value) (hs : a.eval s = .slice (some ⟨g,0,none⟩) n cap) (hown : w.ownsRow base e size (.slice (some ⟨g,0,none⟩) n cap) n xs)
    (ad : Addr) (m c : Nat) (news : List Value) (hx : a.eval x = .slice (some ad) m c) (hn : news.length = m * size) (hc : ∀ j u,news[j]? = some u → w.cell? (ad.add j) = some u) (h1c : ∀ u ∈ news,u.oneCell' = true)
    (b1 : n + m ≤ maxLen) (b2 : (n + m) * bytes ≤ 140737488355328) (hbase : base ≤ w.heap.size)
    (hK : ∀ g' cap' w',w'.ownsRow base e size (.slice (some ⟨g',0,none⟩) (n + m) cap') (n + m) (xs ++ news) → w.grownBy w' (some g) → (g' = g ∨ w.heap.size ≤ g') → wpList P ops Q rest (a.put o.dst (.slice (some ⟨g',0,none⟩) (n + m) cap')) w') :
    wpList P ops Q (o :: rest) a w := by
  by_cases hroom : n + m ≤ cap
  · exact wpList_append_fits w hg s x t hop base e i size h1 h2 h4 g n cap xs hs hown ad m c news hx hn hc h1c hroom fun w' r1 r2 => hK g cap w' r1 r2 (Or.inl rfl)
  · rcases hown.2 with ⟨h,_⟩ | ⟨g0,cap0,cur,hv,hb0,hblk,hnc,hcm,hcs,htk⟩
    · simp at h
    · simp only [Value.slice.injEq,Option.some.injEq,Addr.mk.injEq] at hv
      obtain ⟨⟨rfl,_⟩,_,rfl⟩ := hv
      refine wpList_append_grows w hg s x t hop e i z size bytes h1 h2 h3 h4 h5 h6 h7 (some ⟨g,0,none⟩) n cap xs hs (fun h => by cases h) hown.1 ?_ ad m c news hx hn hc h1c (by omega) b1 b2 ?_
      · intro b hb j u hj
        simp only [Option.some.injEq] at hb
        subst hb
        have hj' : j < n * size := by rw [← hown.1]; exact (List.getElem?_eq_some_iff.1 hj).1
        have e1 : (Addr.add ⟨g,0,none⟩ j) = ⟨g,j,none⟩ := by unfold Addr.add; split <;> simp_all
        rw [e1,cell_block hblk,← hj,← htk,List.getElem?_take,if_pos hj']
        simp
      · intro v' w' r1 r2
        rcases r1.2 with ⟨hv',h0⟩ | ⟨g',cap',cur',hv',hb',rest'⟩
        · have : (xs ++ news).length = 0 := by rw [r1.1,h0]; simp
          have hlen : 0 < n + m := by omega
          omega
        · subst hv'
          exact hK g' cap' w' (own_base r1 hbase) (grown_wk r2 _) (Or.inr hb')
theorem app_where {P : Program} (w : World) {ops : Array Oper} {rest : List Oper} {o : Oper} {a : Act} {Q : Exit → Act → World → Prop}
    (hg : o.guard = none) (s x : Operand) (t : TypeId) (hop : o.op = Op.call { callee := Callee.builtin Builtin.append,args := #[s,x],argTypes := #[t,t] })
    (base : Nat) (e : TypeId) (i : TypeInfo) (z : Value) (size bytes : Nat) (h1 : P.underlying t = some (.slice e)) (h2 : P.info? e = some i) (h3 : i.zero = some z) (h4 : i.size = size) (h5 : i.bytes = bytes) (h6 : z.cells.size = size) (h7 : 0 < size)
    (v : Value) (n : Nat) (xs : List Value) (hs : a.eval s = v) (hown : w.ownsRow base e size v n xs)
    (ad : Addr) (m c : Nat) (news : List Value) (hx : a.eval x = .slice (some ad) m c) (hn : news.length = m * size) (hc : ∀ j u,news[j]? = some u → w.cell? (ad.add j) = some u) (h1c : ∀ u ∈ news,u.oneCell' = true)
    (hm : 0 < m) (b1 : n + m ≤ maxLen) (b2 : (n + m) * bytes ≤ 140737488355328) (hbase : base ≤ w.heap.size)
    (hK : ∀ g' cap' w',w'.ownsRow base e size (.slice (some ⟨g',0,none⟩) (n + m) cap') (n + m) (xs ++ news) → w.grownBy w' v.ownBlock → (v.ownBlock = some g' ∨ w.heap.size ≤ g') → wpList P ops Q rest (a.put o.dst (.slice (some ⟨g',0,none⟩) (n + m) cap')) w') :
    wpList P ops Q (o :: rest) a w := by
  rcases hown.2 with ⟨rfl,rfl⟩ | ⟨g0,cap0,cur,rfl,hb0,hblk,hnc,hcm,hcs,htk⟩
  · have hx0 : xs = [] := List.eq_nil_of_length_eq_zero (by have := hown.1; simpa using this)
    subst hx0
    refine wpList_append_grows w hg s x t hop e i z size bytes h1 h2 h3 h4 h5 h6 h7 none 0 0 [] hs (fun _ => ⟨rfl,rfl⟩) (by simp) (fun b hb => by cases hb) ad m c news hx hn hc h1c (by omega) b1 b2 ?_
    intro v' w' r1 r2
    rcases r1.2 with ⟨hv',h0⟩ | ⟨g',cap',cur',hv',hb',rest'⟩
    · omega
    · subst hv'
      exact hK g' cap' w' (own_base r1 hbase) (grown_wk r2 _) (Or.inr hb')
  · exact app_told w hg s x t hop base e i z size bytes h1 h2 h3 h4 h5 h6 h7 g0 n cap0 xs hs hown ad m c news hx hn hc h1c b1 b2 hbase
      (fun g' cap' w' r1 r2 r3 => hK g' cap' w' r1 r2 (r3.elim (fun e => Or.inl (by rw [e]; rfl)) Or.inr))
end Go.Proofs.YtpmmjkiclngpmaaGreatDoor
namespace Go.Proofs.YtpmmjkiclngpmaaGreatDoor
open Go.RowKit
theorem wrap_id (v : Int) (h0 : -9223372036854775808 ≤ v) (h1 : v ≤ 9223372036854775807) : IntKind.i64.wrap v = v := by
  have hb : (2 : Int) ^ IntKind.i64.bits = 18446744073709551616 := by decide
  have hb1 : (2 : Int) ^ (IntKind.i64.bits - 1) = 9223372036854775808 := by decide
  have hsg : IntKind.i64.signed = true := by decide
  simp only [IntKind.wrap,hb,hb1,hsg,Bool.true_and,decide_eq_true_eq,ge_iff_le]
  split <;> omega
theorem run_app_where {P : Program} (w : World) (base : Nat) (t ty e : TypeId) (i : TypeInfo) (z : Value) (size bytes : Nat) (ht : P.underlying t = some (.slice e)) (hi : P.info? e = some i) (hz : i.zero = some z)
    (hsize : i.size = size) (hby : i.bytes = bytes) (hzs : z.cells.size = size) (hsz : 0 < size)
    (v : Value) (n : Nat) (xs : List Value) (hown : w.ownsRow base e size v n xs)
    (a : Addr) (m c : Nat) (news : List Value) (hl : news.length = m * size) (hnews : ∀ j u,news[j]? = some u → w.cell? (a.add j) = some u) (h1 : ∀ u ∈ news,u.oneCell' = true)
    (h63 : n + m ≤ maxLen) (hbytes : (n + m) * bytes ≤ 140737488355328) (hbase : base ≤ w.heap.size) :
    ∃ v' w',(Builtin.append_ #[t,t] ty #[v,.slice (some a) m c]).run P w = .ok v' w' ∧ w'.ownsRow base e size v' (n + m) (xs ++ news) ∧ w.grownBy w' v.ownBlock ∧
      (∀ k,v'.ownBlock = some k → v.ownBlock = some k ∨ w.heap.size ≤ k) := by
  rcases hown.2 with ⟨rfl,rfl⟩ | ⟨g,cap,cur,rfl,hbg,hg,hnc,hcm,hcs,htake⟩
  · have hx : xs = [] := List.eq_nil_of_length_eq_zero (by simpa using hown.1)
    subst hx
    obtain ⟨v',w',r,r1,r2,r3⟩ := run_append_own (P := P) w w.heap.size t ty e i z size bytes ht hi hz hsize hby hzs hsz (.slice none 0 0) 0 [] (World.ownsRow_nil w _ e size) a m c news hl hnews h1 h63 hbytes (Nat.le_refl _)
    exact ⟨v',w',r,own_base r1 hbase,r2,fun k hk => Or.inr ((r1.lt k hk).1)⟩
  · by_cases hroom : n + m ≤ cap
    · obtain ⟨w',hrun,r1,r2⟩ := run_append_fits (P := P) w base t ty e i size ht hi hsize g n cap xs hown a m c news hl hnews h1 hroom
      exact ⟨_,w',hrun,r1,r2,fun k hk => Or.inl hk⟩
    · have holds : ∀ j u,xs[j]? = some u → w.cell? ((⟨g,0,none⟩ : Addr).add j) = some u := hown.cells (g := g) rfl
      obtain ⟨v',w',hrun,r1,r2⟩ := run_append_arg_grows (P := P) w t ty e i z size bytes ht hi hz hsize hby hzs hsz ⟨g,0,none⟩ n cap xs hown.1 holds a m c news hl hnews (by omega) h63 hbytes
      exact ⟨v',w',hrun,own_base r1 hbase,grown_wk r2 _,fun k hk => Or.inr ((r1.lt k hk).1)⟩
theorem step_app_where {P : Program} {ops : Array Oper} {o : Oper} {a : Act} {w : World} {K : Act → World → Prop} {Q : Exit → Act → World → Prop} {E : Prop}
    (hg : o.guard = none) (s x : Operand) (t : TypeId) (hop : o.op = Op.call { callee := Callee.builtin Builtin.append,args := #[s,x],argTypes := #[t,t] })
    (base : Nat) (e : TypeId) (i : TypeInfo) (z : Value) (size bytes : Nat) (h1 : P.underlying t = some (.slice e)) (h2 : P.info? e = some i) (h3 : i.zero = some z) (h4 : i.size = size) (h5 : i.bytes = bytes) (h6 : z.cells.size = size) (h7 : 0 < size)
    (v : Value) (n : Nat) (xs : List Value) (hs : a.eval s = v) (hown : w.ownsRow base e size v n xs)
    (ad : Addr) (m c : Nat) (news : List Value) (hx : a.eval x = .slice (some ad) m c) (hn : news.length = m * size) (hc : ∀ j u,news[j]? = some u → w.cell? (ad.add j) = some u) (h1c : ∀ u ∈ news,u.oneCell' = true)
    (b1 : n + m ≤ maxLen) (b2 : (n + m) * bytes ≤ 140737488355328) (hbase : base ≤ w.heap.size)
    (hK : ∀ v' w',w'.ownsRow base e size v' (n + m) (xs ++ news) → w.grownBy w' v.ownBlock → (∀ k,v'.ownBlock = some k → v.ownBlock = some k ∨ w.heap.size ≤ k) → K (a.put o.dst v') w') :
    if Region.wanted o (yielded ops a.tmps) = true then Oper.wp P o a w K Q else E := by
  have hw : Region.wanted o (yielded ops a.tmps) = true := by simp [Region.wanted,hg]
  rw [if_pos hw]
  obtain ⟨v',w',hrun,r1,r2,r3⟩ := run_app_where (P := P) w base t o.type e i z size bytes h1 h2 h3 h4 h5 h6 h7 v n xs hown ad m c news hn hc h1c b1 b2 hbase
  unfold Oper.wp
  simp [execOp,hop,resolve,invoke,builtin,hs,hx,hrun,Result.andThen]
  exact hK v' w' r1 r2 r3
theorem zeros_int (m : Nat) : (Builtin.zeroCells #[Value.int .i64 0] m).toList = List.replicate m (.int .i64 0) := by
  apply List.ext_getElem
  · simp [Builtin.zeroCells]
  · intro j h1 h2
    simp [Builtin.zeroCells,Nat.mod_one]
theorem run_app_zeros {P : Program} (w : World) (base : Nat) (t tn ty e : TypeId) (i : TypeInfo) (ht : P.underlying t = some (.slice e)) (hn : P.underlying tn = some (.int .i64)) (hi : P.info? e = some i) (hz : i.zero = some (.int .i64 0))
    (hsize : i.size = 1) (hby : i.bytes = 8) (v : Value) (n : Nat) (xs : List Value) (hown : w.ownsRow base e 1 v n xs) (m : Nat)
    (h63 : n + m ≤ maxLen) (hbytes : (n + m) * 8 ≤ 140737488355328) (hbase : base ≤ w.heap.size) :
    ∃ v' w',(Builtin.append_ #[t,tn] ty #[v,.int .i64 (m : Int)]).run P w = .ok v' w' ∧ w'.ownsRow base e 1 v' (n + m) (xs ++ List.replicate m (.int .i64 0)) ∧ w.grownBy w' v.ownBlock ∧
      (∀ k,v'.ownBlock = some k → v.ownBlock = some k ∨ w.heap.size ≤ k) := by
  have h64 : m ≤ 9223372036854775807 := by unfold maxLen at h63; omega
  have hwr : IntKind.i64.wrap (m : Int) = m := by
    have hb : (2 : Int) ^ IntKind.i64.bits = 18446744073709551616 := by decide
    have hb1 : (2 : Int) ^ (IntKind.i64.bits - 1) = 9223372036854775808 := by decide
    have hsg : IntKind.i64.signed = true := by decide
    simp only [IntKind.wrap,hb,hb1,hsg]
    rw [Int.emod_eq_of_lt (by omega) (by omega),if_neg]
    simp
    omega
  have hneg : ¬ ((m : Int) < 0) := by omega
  have hbig : ¬ (281474976710656 < (m : Int) * 8) := by omega
  have hlen : (xs ++ List.replicate m (Value.int .i64 0)).length = (n + m) * 1 := by rw [List.length_append,hown.1]; simp
  have h63' : ¬ (9223372036854775807 < ((n : Int) + (m : Int))) := by unfold maxLen at h63; omega
  have hzr : ∀ (q : Nat),(if q = 0 then (#[] : Array Value) else Builtin.zeroCells #[Value.int .i64 0] q) = Builtin.zeroCells #[Value.int .i64 0] q := by
    intro q; by_cases hq : q = 0
    · subst hq; simp [Builtin.zeroCells]
    · simp [hq]
  rcases hown.2 with ⟨rfl,rfl⟩ | ⟨g,cap,cur,rfl,hbg,hg,hnc,hcm,hcs,htake⟩
  · have hx : xs = [] := List.eq_nil_of_length_eq_zero (by simpa using hown.1)
    subst hx
    by_cases hm : m = 0
    · subst hm
      refine ⟨.slice none 0 0,w,?_,World.ownsRow_nil w base e 1,⟨rfl,rfl,rfl,Nat.le_refl _,fun _ _ _ => rfl⟩,by simp [Value.ownBlock]⟩
      simp [Builtin.append_,run_underlying ht,run_underlying hn,sizeOf,typeInfo,hi,Builtin.lenOf,asInt,asIntOf,hby,show IntKind.i64.wrap 0 = 0 by decide]
    · have hfit : Builtin.nextslicecap m 0 * 8 ≤ 281474976710656 := growslice_fits (by omega) (by omega)
      have hgc := grownCap_ge w m 0 e
      have hcm : grownCap w m 0 e ≤ maxLen := grownCap_le_maxLen w m 0 e (by omega)
      refine ⟨.slice (some ⟨w.heap.size,0,none⟩) m (grownCap w m 0 e),w.drew.alloc (.cells (Builtin.zeroCells #[Value.int .i64 0] m ++ Builtin.zeroCells #[Value.int .i64 0] (grownCap w m 0 e - m)) e),?_,?_,?_,?_⟩
      · have hnl : ¬ (281474976710656 < Builtin.nextslicecap m 0 * 8) := by omega
        have h9 : ¬ (9223372036854775807 < (m : Int)) := by omega
        simp [Builtin.append_,run_underlying ht,run_underlying hn,sizeOf,typeInfo,zeroValue,hi,hz,hsize,hby,Builtin.lenOf,asInt,asIntOf,hwr,hneg,hbig,hm,hnl,h9,Question.forced,run_firstCells_none,newRow,grownCap,Value.cells]
      · refine ⟨hlen,Or.inr ⟨w.heap.size,grownCap w m 0 e,_,by simp,hbase,block_new w.drew _,by simpa using hgc,hcm,?_,?_⟩⟩
        · simp only [Array.size_append,size_zeroCells]
          simp
          omega
        · simp only [Array.toList_append,List.nil_append,zeros_int]
          rw [List.take_left' (by simp)]
      · exact ⟨rfl,rfl,rfl,by simp,fun k hk _ => Below.heap_alloc w.drew _ k hk⟩
      · intro k hk
        simp [Value.ownBlock] at hk
        omega
  · by_cases hroom : n + m ≤ cap
    · have hst := run_storeCells_at P g n e (List.replicate m (Value.int .i64 0)) 0 cur w hg (by simp; omega) (by intro u hu; rw [List.eq_of_mem_replicate hu]; rfl)
      simp only [Nat.add_zero] at hst
      refine ⟨.slice (some ⟨g,0,none⟩) (n + m) cap,_,?_,⟨hlen,Or.inr ⟨g,cap,_,rfl,hbg,setRow_heap w g cur (cur.toList.take n ++ List.replicate m (Value.int .i64 0) ++ cur.toList.drop (n + m)).toArray e _ hg,hroom,hcm,?_,?_⟩⟩,⟨rfl,rfl,rfl,by simp,fun k _ hk => setRow_other w g k _ (fun e => hk (by simp [Value.ownBlock,e]))⟩,fun k hk => Or.inl hk⟩
      · by_cases hm : m = 0
        · subst hm
          simp at hst
          simp [Builtin.append_,run_underlying ht,run_underlying hn,sizeOf,typeInfo,hi,hsize,hby,Builtin.lenOf,asInt,asIntOf,show IntKind.i64.wrap 0 = 0 by decide,Addr.add_lit,hst,hnc]
        · simp [Builtin.append_,run_underlying ht,run_underlying hn,sizeOf,typeInfo,zeroValue,hi,hz,hsize,hby,Builtin.lenOf,asInt,asIntOf,hwr,hneg,hbig,hm,hroom,Addr.add_lit,Value.cells,zeros_int,hst]
      · simp only [List.size_toArray,List.length_append,List.length_take,List.length_drop,Array.length_toList,List.length_replicate]
        omega
      · have e1 : cur.toList.take n = xs := by simpa using htake
        have : n = xs.length := by have := hown.1; simpa using this.symm
        rw [e1,← hlen]
        exact List.take_left
    · have holds : ∀ j u,xs[j]? = some u → w.cell? ((⟨g,0,none⟩ : Addr).add j) = some u := hown.cells (g := g) rfl
      have hfit : Builtin.nextslicecap (n + m) cap * 8 ≤ 281474976710656 := growslice_fits (by omega) (by omega)
      have hgc := grownCap_ge w (n + m) cap e
      have hcm2 : grownCap w (n + m) cap e ≤ maxLen := grownCap_le_maxLen w (n + m) cap e (by omega)
      have hfo := run_firstCells_some (P := P) w.drew 1 n ⟨g,0,none⟩ n cap xs hown.1 (by simpa using holds)
      have hxl : xs.length = n := by have := hown.1; simpa using this
      refine ⟨.slice (some ⟨w.heap.size,0,none⟩) (n + m) (grownCap w (n + m) cap e),w.drew.alloc (.cells (xs.toArray ++ Builtin.zeroCells #[Value.int .i64 0] m ++ Builtin.zeroCells #[Value.int .i64 0] (grownCap w (n + m) cap e - (n + m))) e),?_,?_,?_,?_⟩
      · have hnl : ¬ (281474976710656 < Builtin.nextslicecap (n + m) cap * 8) := by omega
        have hm : ¬ m = 0 := by omega
        simp [Builtin.append_,run_underlying ht,run_underlying hn,sizeOf,typeInfo,zeroValue,hi,hz,hsize,hby,Builtin.lenOf,asInt,asIntOf,hwr,hneg,hbig,hm,hroom,hnl,h63',Question.forced,hfo,newRow,grownCap,Value.cells]
      · refine ⟨hlen,Or.inr ⟨w.heap.size,grownCap w (n + m) cap e,_,rfl,hbase,block_new w.drew _,hgc,hcm2,?_,?_⟩⟩
        · simp only [Array.size_append,size_zeroCells,List.size_toArray,hxl]
          simp
          omega
        · simp only [Array.toList_append,zeros_int]
          rw [List.take_left' (by simpa using hlen)]
      · exact ⟨rfl,rfl,rfl,by simp,fun k hk _ => Below.heap_alloc w.drew _ k hk⟩
      · intro k hk
        simp [Value.ownBlock] at hk
        omega
theorem step_app_zeros {P : Program} {ops : Array Oper} {o : Oper} {a : Act} {w : World} {K : Act → World → Prop} {Q : Exit → Act → World → Prop} {E : Prop}
    (hg : o.guard = none) (s x : Operand) (t tn : TypeId) (hop : o.op = Op.call { callee := Callee.builtin Builtin.append,args := #[s,x],argTypes := #[t,tn] })
    (base : Nat) (e : TypeId) (i : TypeInfo) (h1 : P.underlying t = some (.slice e)) (hn : P.underlying tn = some (.int .i64)) (h2 : P.info? e = some i) (h3 : i.zero = some (.int .i64 0)) (h4 : i.size = 1) (h5 : i.bytes = 8)
    (v : Value) (n : Nat) (xs : List Value) (hs : a.eval s = v) (hown : w.ownsRow base e 1 v n xs) (m : Nat) (M : Int) (hx : a.eval x = .int .i64 M) (hM : M = m)
    (b1 : n + m ≤ maxLen) (b2 : (n + m) * 8 ≤ 140737488355328) (hbase : base ≤ w.heap.size)
    (hK : ∀ v' w',w'.ownsRow base e 1 v' (n + m) (xs ++ List.replicate m (.int .i64 0)) → w.grownBy w' v.ownBlock → (∀ k,v'.ownBlock = some k → v.ownBlock = some k ∨ w.heap.size ≤ k) → K (a.put o.dst v') w') :
    if Region.wanted o (yielded ops a.tmps) = true then Oper.wp P o a w K Q else E := by
  have hw : Region.wanted o (yielded ops a.tmps) = true := by simp [Region.wanted,hg]
  rw [if_pos hw]
  subst hM
  obtain ⟨v',w',hrun,r1,r2,r3⟩ := run_app_zeros (P := P) w base t tn o.type e i h1 hn h2 h3 h4 h5 v n xs hown m b1 b2 hbase
  unfold Oper.wp
  simp [execOp,hop,resolve,invoke,builtin,hs,hx,hrun,Result.andThen]
  exact hK v' w' r1 r2 r3
end Go.Proofs.YtpmmjkiclngpmaaGreatDoor
namespace Go.Proofs.YtpmmjkiclngpmaaGreatDoor
open Go.RowKit
theorem step_call {P : Program} {ops : Array Oper} {o : Oper} {a : Act} {w : World} {K : Act → World → Prop} {Q : Exit → Act → World → Prop} {E : Prop}
    (hg : o.guard = none) (f : Nat) (args : Array Operand) (ts : Array TypeId) (hop : o.op = Op.call { callee := Callee.value (Operand.func f),args := args,argTypes := ts })
    (he : ∀ xs w,(callFunc f xs).run P w = .ok (.enter f xs) w) (vs : Array Value) (hvs : args.map a.eval = vs) {R : Ending → World → Prop} (hc : Calls P f vs w R)
    (hK : ∀ e w',R e w' → ∃ v,e = .returned v ∧ K (a.put o.dst v) w') :
    if Region.wanted o (yielded ops a.tmps) = true then Oper.wp P o a w K Q else E := by
  have hw : Region.wanted o (yielded ops a.tmps) = true := by simp [Region.wanted,hg]
  rw [if_pos hw]
  subst hvs
  unfold Oper.wp
  have h1 : (execOp a.eval o).run P w = .ok (.enter f (args.map a.eval)) w := by
    simp [execOp,hop,resolve,invoke,Act.eval,he,Result.andThen,Deferred.ofValue]
  rw [h1,Oper.upon_enter]
  refine hc.mono ?_
  intro e w' hr
  obtain ⟨v,rfl,hk⟩ := hK e w' hr
  exact hk
end Go.Proofs.YtpmmjkiclngpmaaGreatDoor
