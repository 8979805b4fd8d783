/- YtpmmjkiclngpmaaGreatDoorB21 -/
import Derived.Test.YtpmmjkiclngpmaaGreatDoorB20
import Derived.Test.YtpmmjkiclngpmaaGreatDoorB19
import Derived.Test.YtpmmjkiclngpmaaGreatDoorB04
import Derived.Test.YtpmmjkiclngpmaaGreatDoorB01
import Derived.BigQuiet
set_option maxRecDepth 100000
set_option linter.unusedSimpArgs false
set_option linter.unusedVariables false
set_option maxHeartbeats 12800000
namespace Go.Proofs.YtpmmjkiclngpmaaGreatDoor
open Go.RowKit
structure Fun where
  name : List UInt8
  place : Nat
  pub : Bool
  params : List Prm
  result : Nat
  body : Ex
def funCells (f : Fun) (pv bv : Value) : List Value := [.string ⟨f.name.toArray⟩,.int .i64 f.place,.bool f.pub,pv,.int .i64 f.result,.int .i64 f.body.kind,.int .i64 f.body.place,.string ⟨f.body.name.toArray⟩,.int .i64 f.body.value,bv]
def funVal (f : Fun) (pv bv : Value) : Value := .agg #[.string ⟨f.name.toArray⟩,.int .i64 f.place,.bool f.pub,pv,.int .i64 f.result,.int .i64 f.body.kind,.int .i64 f.body.place,.string ⟨f.body.name.toArray⟩,.int .i64 f.body.value,bv]
def funR (ws : List Wd) (ex : PS → Ex × PS) (st : PS) : Fun × PS :=
  let s2 := (st.skipTo ws [112,117,98]).expect ws [102,110]
  let s3 := s2.nameTo ws
  let ps := prmsR ws s3
  let s5 := ps.2.expect ws [58]
  let s6 := (s5.typTo ws).expect ws [61]
  let b := ex s6
  (⟨(s2.nameWd ws).text,(s2.nameWd ws).place,st.isAt ws [[112,117,98]],ps.1,s5.typ ws,b.1⟩,b.2.expect ws [59])
theorem block_other {w : World} {b k o : Nat} {x : Obj} {u : Value} (hk : k ≠ b) (h : w.heap[k]? = some x) : (w.setCell ⟨b,o,none⟩ u).heap[k]? = some x := (Below.heap_setCell _ _ _ _ hk).trans h
theorem owns_set {w : World} {base b o : Nat} {e : TypeId} {size n : Nat} {v u : Value} {xs : List Value} (h : w.ownsRow base e size v n xs) (hb : b < base) : (w.setCell ⟨b,o,none⟩ u).ownsRow base e size v n xs :=
  owns_keep h (fun g hg => Below.heap_setCell _ _ _ _ (by have := (owns_in h g hg).1; show g ≠ b; omega))
theorem owns_but {w w' : World} {base pb : Nat} {e : TypeId} {size n : Nat} {v : Value} {xs : List Value} (h : w.ownsRow base e size v n xs) (hb : But pb w w') (hp : pb < base) : w'.ownsRow base e size v n xs :=
  owns_keep h (fun g hg => hb.block g (owns_in h g hg).2 (by have := (owns_in h g hg).1; omega))
theorem Ok.set10 {P : Pl} {ws : List Wd} {st : PS} {w0 w : World} (h : Ok P ws w0 st w) (b : Nat) (hb : w0.heap.size ≤ b) (c0 c1 c2 c3 c4 c5 c6 c7 c8 c9 : Value) :
    Ok P ws w0 st ((((((((((w.setCell ⟨b,0,none⟩ c0).setCell ⟨b,1,none⟩ c1).setCell ⟨b,2,none⟩ c2).setCell ⟨b,3,none⟩ c3).setCell ⟨b,4,none⟩ c4).setCell ⟨b,5,none⟩ c5).setCell ⟨b,6,none⟩ c6).setCell ⟨b,7,none⟩ c7).setCell ⟨b,8,none⟩ c8).setCell ⟨b,9,none⟩ c9) :=
  (((((((((h.set b 0 c0 hb).set b 1 c1 hb).set b 2 c2 hb).set b 3 c3 hb).set b 4 c4 hb).set b 5 c5 hb).set b 6 c6 hb).set b 7 c7 hb).set b 8 c8 hb).set b 9 c9 hb
theorem Parts.set10 {S : Nat → Prop} {w : World} {pv : Value} {es : List Ex} (h : Parts S w pv es) (b : Nat) (hb : ¬ S b) (c0 c1 c2 c3 c4 c5 c6 c7 c8 c9 : Value) :
    Parts S ((((((((((w.setCell ⟨b,0,none⟩ c0).setCell ⟨b,1,none⟩ c1).setCell ⟨b,2,none⟩ c2).setCell ⟨b,3,none⟩ c3).setCell ⟨b,4,none⟩ c4).setCell ⟨b,5,none⟩ c5).setCell ⟨b,6,none⟩ c6).setCell ⟨b,7,none⟩ c7).setCell ⟨b,8,none⟩ c8).setCell ⟨b,9,none⟩ c9) pv es :=
  (((((((((h.set b 0 c0 hb).set b 1 c1 hb).set b 2 c2 hb).set b 3 c3 hb).set b 4 c4 hb).set b 5 c5 hb).set b 6 c6 hb).set b 7 c7 hb).set b 8 c8 hb).set b 9 c9 hb
theorem owns_set10 {w : World} {base b : Nat} {e : TypeId} {size n : Nat} {v : Value} {xs : List Value} (h : w.ownsRow base e size v n xs) (hb : b < base) (c0 c1 c2 c3 c4 c5 c6 c7 c8 c9 : Value) :
    World.ownsRow ((((((((((w.setCell ⟨b,0,none⟩ c0).setCell ⟨b,1,none⟩ c1).setCell ⟨b,2,none⟩ c2).setCell ⟨b,3,none⟩ c3).setCell ⟨b,4,none⟩ c4).setCell ⟨b,5,none⟩ c5).setCell ⟨b,6,none⟩ c6).setCell ⟨b,7,none⟩ c7).setCell ⟨b,8,none⟩ c8).setCell ⟨b,9,none⟩ c9) base e size v n xs :=
  owns_set (owns_set (owns_set (owns_set (owns_set (owns_set (owns_set (owns_set (owns_set (owns_set h hb) hb) hb) hb) hb) hb) hb) hb) hb) hb
theorem function_any (P : Pl) (ws : List Wd) (ex : PS → Ex × PS) (hR : Reads 208 ws P ws.length ex) (hlast : ∀ s : PS,s.i + 1 = ws.length → (s.cur ws).kind = 0) (st : PS) (w : World) (hp : Prs P ws st w) :
    Calls Tryz.prog 158 #[.pointer (some ⟨P.pb,0,none⟩)] w fun e w' => ∃ po pn pc qo qn qc,e = .returned (funVal (funR ws ex st).1 (.slice po pn pc) (.slice qo qn qc)) ∧ Ok P ws w (funR ws ex st).2 w' ∧
      w'.ownsRow (w.heap.size + 1) 301 3 (.slice po pn pc) (funR ws ex st).1.params.length ((funR ws ex st).1.params.flatMap prmCells) ∧ Parts (fun k => w.heap.size + 1 ≤ k) w' (.slice qo qn qc) (funR ws ex st).1.body.parts ∧
      ((st.skipTo ws [112,117,98]).expect ws [102,110]).i ≤ (funR ws ex st).2.i := by
  have h1 := lt_of_some hp.blk
  have HQ := hide (Ok.refl hp)
  have HR := hide hR
  have HLa := hide hlast
  clear hp hR hlast
  go_enter Tryz.func158,Tryz.ntmps158
  go_wp2_with fail
  refine (skip_any P ws st _ (by exact (HQ.out.alloc _).prs) [112,117,98]).mono ?_
  rintro e w1 ⟨rfl,hb⟩
  have HO1 := hide ((HQ.out.alloc _).go hb)
  have HZ1 := hide ((hb.1.block w.heap.size (by simp) (by omega)).trans (block_new w _))
  have hs1 := hb.1.size
  simp at hs1
  clear hb
  go_wp2_with fail
  refine (expect_any P ws (st.skipTo ws [112,117,98]) _ (by exact (HO1.out.alloc _).prs) [102,110]).mono ?_
  rintro e w2 ⟨rfl,hb⟩
  have HO2 := hide ((HO1.out.alloc _).go hb)
  have HZ2 := hide ((hb.1.block w.heap.size (by simp; omega) (by omega)).trans (block_alloc HZ1.out _))
  have HL2 := hide ((hb.1.block w1.heap.size (by simp) (by omega)).trans (block_new w1 _))
  have hs2 := hb.1.size
  have hl2 := hb.2.lt
  simp at hs2
  clear hb
  go_wp2_with fail
  refine (name_any P ws ((st.skipTo ws [112,117,98]).expect ws [102,110]) _ (by exact HO2.out.prs)).mono ?_
  rintro e w3 ⟨rfl,hok⟩
  have HO3 := hide (HO2.out.trans hok)
  have HZ3 := hide ((hok.but.block _ (lt_of_some HZ2.out) (by omega)).trans HZ2.out)
  have HL3 := hide ((hok.but.block _ (lt_of_some HL2.out) (by omega)).trans HL2.out)
  have hs3 := hok.size
  have hl3 := hok.prs.lt
  have hg3 := PS.nameTo_ge (ws := ws) hl2
  clear hok
  generalize hs2' : (st.skipTo ws [112,117,98]).expect ws [102,110] = s2 at *
  have HS2 := hide hs2'
  clear hs2'
  unfold wdVal
  have l0 := cell_block HL3.out 0
  have l1 := cell_block HL3.out 1
  have l2 := cell_block HL3.out 2
  have l3 := cell_block HL3.out 3
  have l4 := cell_block HL3.out 4
  have l5 := cell_block HL3.out 5
  have l6 := cell_block HL3.out 6
  have l7 := cell_block HL3.out 7
  have l8 := cell_block HL3.out 8
  have l9 := cell_block HL3.out 9
  have lf := free_block HL3.out
  have ls := lt_of_some HL3.out
  simp at l0 l1 l2 l3 l4 l5 l6 l7 l8 l9
  go_wp2
  go_region
  all_goals go_wp2_with fail
  have HO3' := hide ((((HO3.out.set w1.heap.size 0 (.string ⟨(s2.nameWd ws).text.toArray⟩) (by omega)).set w1.heap.size 1 (.int .i64 (s2.nameWd ws).place) (by omega)).alloc (.cells #[.int .i64 (s2.nameWd ws).kind,.string ⟨(s2.nameWd ws).text.toArray⟩,.int .i64 (s2.nameWd ws).place] 274)).drew)
  refine (prms_any P ws HLa.out (s2.nameTo ws) _ (by exact HO3'.out.prs)).mono ?_
  rintro e w4 ⟨po,pn,pc,rfl,hok,how,hge⟩
  have HO4 := hide (HO3'.out.trans hok)
  have HZ4 := hide ((hok.but.block w.heap.size (by simp; omega) (by omega)).trans (block_alloc (block_other (by omega) (block_other (by omega) HZ3.out)) _))
  have HL4 := hide ((hok.but.block w1.heap.size (by simp; omega) (by omega)).trans (block_alloc (block_setCell (block_setCell HL3.out 0 _) 1 _) _))
  have HW4 := hide (owns_base (base' := w3.heap.size) how (by simp))
  have HG4 := hide hge
  have hs4 := hok.size
  simp at hs4
  have hl4 := hok.prs.lt
  clear hok how hge l0 l1 l2 l3 l4 l5 l6 l7 l8 l9 lf ls
  generalize hps : prmsR ws (s2.nameTo ws) = ps at *
  have HPs := hide hps
  clear hps
  have hg5 := PS.expect_ge (ws := ws) [58] hl4
  have l0 := cell_block HL4.out 0
  have l1 := cell_block HL4.out 1
  have l2 := cell_block HL4.out 2
  have l3 := cell_block HL4.out 3
  have l4 := cell_block HL4.out 4
  have l5 := cell_block HL4.out 5
  have l6 := cell_block HL4.out 6
  have l7 := cell_block HL4.out 7
  have l8 := cell_block HL4.out 8
  have l9 := cell_block HL4.out 9
  have lf := free_block HL4.out
  have ls := lt_of_some HL4.out
  simp at l0 l1 l2 l3 l4 l5 l6 l7 l8 l9
  go_wp2_with fail
  refine (expect_any P ws ps.2 _ (by exact (HO4.out.set w1.heap.size 3 _ (by omega)).prs) [58]).mono ?_
  rintro e w5 ⟨rfl,hb⟩
  have HO5 := hide ((HO4.out.set w1.heap.size 3 _ (by omega)).go hb)
  have HZ5 := hide ((hb.1.block w.heap.size (by simp; omega) (by omega)).trans (block_other (by omega) HZ4.out))
  have HL5 := hide ((hb.1.block w1.heap.size (by simp; omega) (by omega)).trans (block_setCell HL4.out 3 _))
  have HW5 := hide (owns_but (owns_set HW4.out (by omega)) hb.1 (by omega))
  have hs5 := hb.1.size
  simp at hs5
  have hl5 := hb.2.lt
  clear hb l0 l1 l2 l3 l4 l5 l6 l7 l8 l9 lf ls
  have hg6 := PS.typTo_ge (ws := ws) hl5
  go_wp2_with fail
  refine (typeName_any P ws (ps.2.expect ws [58]) _ (by exact HO5.out.prs)).mono ?_
  rintro e w6 ⟨rfl,hok⟩
  have HO6 := hide (HO5.out.trans hok)
  have HZ6 := hide ((hok.but.block w.heap.size (by omega) (by omega)).trans HZ5.out)
  have HL6 := hide ((hok.but.block w1.heap.size (by omega) (by omega)).trans HL5.out)
  have HW6 := hide (owns_but HW5.out hok.but (by omega))
  have hs6 := hok.size
  have hl6 := hok.prs.lt
  clear hok
  have hg7 := PS.expect_ge (ws := ws) [61] hl6
  have l0 := cell_block HL6.out 0
  have l1 := cell_block HL6.out 1
  have l2 := cell_block HL6.out 2
  have l3 := cell_block HL6.out 3
  have l4 := cell_block HL6.out 4
  have l5 := cell_block HL6.out 5
  have l6 := cell_block HL6.out 6
  have l7 := cell_block HL6.out 7
  have l8 := cell_block HL6.out 8
  have l9 := cell_block HL6.out 9
  have lf := free_block HL6.out
  have ls := lt_of_some HL6.out
  simp at l0 l1 l2 l3 l4 l5 l6 l7 l8 l9
  go_wp2_with fail
  refine (expect_any P ws ((ps.2.expect ws [58]).typTo ws) _ (by exact (HO6.out.set w1.heap.size 4 _ (by omega)).prs) [61]).mono ?_
  rintro e w7 ⟨rfl,hb⟩
  have HO7 := hide ((HO6.out.set w1.heap.size 4 _ (by omega)).go hb)
  have HZ7 := hide ((hb.1.block w.heap.size (by simp; omega) (by omega)).trans (block_other (by omega) HZ6.out))
  have HL7 := hide ((hb.1.block w1.heap.size (by simp; omega) (by omega)).trans (block_setCell HL6.out 4 _))
  have HW7 := hide (owns_but (owns_set HW6.out (by omega)) hb.1 (by omega))
  have hs7 := hb.1.size
  simp at hs7
  have hl7 := hb.2.lt
  clear hb l0 l1 l2 l3 l4 l5 l6 l7 l8 l9 lf ls
  go_wp2_with fail
  refine (HR.out (((ps.2.expect ws [58]).typTo ws).expect ws [61]) _ (by exact HO7.out.prs) (by simp only [PS.rem]; omega)).mono ?_
  rintro e w8 ⟨qv,rfl,hok,hpa,hge⟩
  obtain ⟨qo,qn,qc,rfl⟩ := hpa.shape
  have HO8 := hide (HO7.out.trans hok)
  have HZ8 := hide ((hok.but.block w.heap.size (by omega) (by omega)).trans HZ7.out)
  have HL8 := hide ((hok.but.block w1.heap.size (by omega) (by omega)).trans HL7.out)
  have HW8 := hide (owns_but HW7.out hok.but (by omega))
  have HP8 := hide (hpa.mono (S' := fun k => w3.heap.size ≤ k) (fun k h _ => by omega))
  have HG8 := hide hge
  have hs8 := hok.size
  have hl8 := hok.prs.lt
  clear hok hpa hge
  generalize hbd : ex (((ps.2.expect ws [58]).typTo ws).expect ws [61]) = bd at *
  have HBd := hide hbd
  clear hbd
  have hg9 := PS.expect_ge (ws := ws) [59] hl8
  have l0 := cell_block HL8.out 0
  have l1 := cell_block HL8.out 1
  have l2 := cell_block HL8.out 2
  have l3 := cell_block HL8.out 3
  have l4 := cell_block HL8.out 4
  have l5 := cell_block HL8.out 5
  have l6 := cell_block HL8.out 6
  have l7 := cell_block HL8.out 7
  have l8 := cell_block HL8.out 8
  have l9 := cell_block HL8.out 9
  have lf := free_block HL8.out
  have ls := lt_of_some HL8.out
  simp at l0 l1 l2 l3 l4 l5 l6 l7 l8 l9
  unfold exVal
  go_wp2_with fail
  have HO8' := hide (((((HO8.out.set w1.heap.size 5 (.int .i64 bd.1.kind) (by omega)).set w1.heap.size 6 (.int .i64 bd.1.place) (by omega)).set w1.heap.size 7 (.string ⟨bd.1.name.toArray⟩) (by omega)).set w1.heap.size 8 (.int .i64 bd.1.value) (by omega)).set w1.heap.size 9 (.slice qo qn qc) (by omega))
  refine (expect_any P ws bd.2 _ (by exact HO8'.out.prs) [59]).mono ?_
  rintro e w9 ⟨rfl,hb⟩
  have HO9 := hide (HO8'.out.go hb)
  have HZ9 := hide ((hb.1.block w.heap.size (by simp; omega) (by omega)).trans (block_other (by omega) (block_other (by omega) (block_other (by omega) (block_other (by omega) (block_other (by omega) HZ8.out))))))
  have HL9 := hide ((hb.1.block w1.heap.size (by simp; omega) (by omega)).trans (block_setCell (block_setCell (block_setCell (block_setCell (block_setCell HL8.out 5 _) 6 _) 7 _) 8 _) 9 _))
  have HW9 := hide (owns_but (owns_set (owns_set (owns_set (owns_set (owns_set HW8.out (by omega)) (by omega)) (by omega)) (by omega)) (by omega)) hb.1 (by omega))
  have HP9 := hide ((((((HP8.out.set w1.heap.size 5 (.int .i64 bd.1.kind) (by omega)).set w1.heap.size 6 (.int .i64 bd.1.place) (by omega)).set w1.heap.size 7 (.string ⟨bd.1.name.toArray⟩) (by omega)).set w1.heap.size 8 (.int .i64 bd.1.value) (by omega)).set w1.heap.size 9 (.slice qo qn qc) (by omega)).but (S' := fun k => w3.heap.size ≤ k) hb.1 (fun k h _ => ⟨h,by omega⟩))
  clear hb l0 l1 l2 l3 l4 l5 l6 l7 l8 l9 lf ls
  have l0 := cell_block HL9.out 0
  have l1 := cell_block HL9.out 1
  have l2 := cell_block HL9.out 2
  have l3 := cell_block HL9.out 3
  have l4 := cell_block HL9.out 4
  have l5 := cell_block HL9.out 5
  have l6 := cell_block HL9.out 6
  have l7 := cell_block HL9.out 7
  have l8 := cell_block HL9.out 8
  have l9 := cell_block HL9.out 9
  have lf := free_block HL9.out
  have ls := lt_of_some HL9.out
  simp at l0 l1 l2 l3 l4 l5 l6 l7 l8 l9
  have z0 := cell_block HZ9.out 0
  have z1 := cell_block HZ9.out 1
  have z2 := cell_block HZ9.out 2
  have z3 := cell_block HZ9.out 3
  have z4 := cell_block HZ9.out 4
  have z5 := cell_block HZ9.out 5
  have z6 := cell_block HZ9.out 6
  have z7 := cell_block HZ9.out 7
  have z8 := cell_block HZ9.out 8
  have z9 := cell_block HZ9.out 9
  have zf := free_block HZ9.out
  have zs := lt_of_some HZ9.out
  simp at z0 z1 z2 z3 z4 z5 z6 z7 z8 z9
  go_wp2
  have hE : funR ws ex st = (⟨(s2.nameWd ws).text,(s2.nameWd ws).place,st.isAt ws [[112,117,98]],ps.1,(ps.2.expect ws [58]).typ ws,bd.1⟩,bd.2.expect ws [59]) := by simp only [funR,HS2.out,HPs.out,HBd.out]
  rw [hE]
  refine bodyPost_ret (v := funVal ⟨(s2.nameWd ws).text,(s2.nameWd ws).place,st.isAt ws [[112,117,98]],ps.1,(ps.2.expect ws [58]).typ ws,bd.1⟩ (.slice po pn pc) (.slice qo qn qc)) (by simp [results,Tryz.results158,go_sem,z0,z1,z2,z3,z4,z5,z6,z7,z8,z9,zs,funVal]) rfl
    ⟨po,pn,pc,qo,qn,qc,rfl,HO9.out.set10 _ (Nat.le_refl _) _ _ _ _ _ _ _ _ _ _,owns_base (owns_set10 HW9.out (by omega) _ _ _ _ _ _ _ _ _ _) (by omega),(HP9.out.set10 _ (by omega) _ _ _ _ _ _ _ _ _ _).mono (fun k h _ => by omega),?_⟩
  rw [HS2.out]
  exact Nat.le_trans hg3 (Nat.le_trans HG4.out (Nat.le_trans hg5 (Nat.le_trans hg6 (Nat.le_trans hg7 (Nat.le_trans HG8.out hg9)))))
end Go.Proofs.YtpmmjkiclngpmaaGreatDoor
namespace Go.Proofs.YtpmmjkiclngpmaaGreatDoor
open Go.RowKit
theorem wpList_append_where {P : Program} (w : World) {ops : Array Oper} {rest : List Oper} {o : Oper} {a : Act} {Q : Exit → Act → World → Prop}
    (hg : o.guard = none) (s x : Operand) (t : TypeId) (hop : o.op = Op.call { callee := Callee.builtin Builtin.append,args := #[s,x],argTypes := #[t,t] })
    (base : Nat) (e : TypeId) (i : TypeInfo) (z : Value) (size bytes : Nat) (h1 : P.underlying t = some (.slice e)) (h2 : P.info? e = some i) (h3 : i.zero = some z) (h4 : i.size = size) (h5 : i.bytes = bytes) (h6 : z.cells.size = size) (h7 : 0 < size)
    (v : Value) (n : Nat) (xs : List Value) (hs : a.eval s = v) (hown : w.ownsRow base e size v n xs)
    (ad : Addr) (m c : Nat) (news : List Value) (hx : a.eval x = .slice (some ad) m c) (hn : news.length = m * size) (hc : ∀ j u,news[j]? = some u → w.cell? (ad.add j) = some u) (h1c : ∀ u ∈ news,u.oneCell' = true)
    (hm : 0 < m) (b1 : n + m ≤ maxLen) (b2 : (n + m) * bytes ≤ 140737488355328) (hbase : base ≤ w.heap.size)
    (hK : ∀ g' cap' w',w'.ownsRow base e size (.slice (some ⟨g',0,none⟩) (n + m) cap') (n + m) (xs ++ news) → w.grownBy w' v.ownBlock → (v.ownBlock = some g' ∨ w.heap.size ≤ g') → wpList P ops Q rest (a.put o.dst (.slice (some ⟨g',0,none⟩) (n + m) cap')) w') :
    wpList P ops Q (o :: rest) a w := by
  rcases hown.2 with ⟨rfl,rfl⟩ | ⟨g0,cap0,cur,rfl,hb0,hblk,hnc,hcm,hcs,htk⟩
  · have hx0 : xs = [] := List.eq_nil_of_length_eq_zero (by have := hown.1; simpa using this)
    subst hx0
    refine wpList_append_grows w hg s x t hop e i z size bytes h1 h2 h3 h4 h5 h6 h7 none 0 0 [] hs (fun _ => ⟨rfl,rfl⟩) (by simp) (fun b hb => by cases hb) ad m c news hx hn hc h1c (by omega) b1 b2 ?_
    intro v' w' r1 r2
    rcases r1.2 with ⟨hv',h0⟩ | ⟨g',cap',cur',hv',hb',rest'⟩
    · omega
    · subst hv'
      exact hK g' cap' w' (owns_base r1 hbase) (grown_weak r2 _) (Or.inr hb')
  · exact wpList_append_told w hg s x t hop base e i z size bytes h1 h2 h3 h4 h5 h6 h7 g0 n cap0 xs hs hown ad m c news hx hn hc h1c b1 b2 hbase
      (fun g' cap' w' r1 r2 r3 => hK g' cap' w' r1 r2 (r3.elim (fun e => Or.inl (by rw [e]; rfl)) Or.inr))
def PrmRow (S : Nat → Prop) (w : World) (v : Value) (ps : List Prm) : Prop :=
  (v = .slice none 0 0 ∧ ps = []) ∨ ∃ g cap cur,v = .slice (some ⟨g,0,none⟩) ps.length cap ∧ S g ∧ w.heap[g]? = some (.cells cur 301 (0,0)) ∧ ps.length ≤ cap ∧ cur.toList.take (ps.length * 3) = ps.flatMap prmCells
theorem PrmRow.of_owns {S : Nat → Prop} {w : World} {base : Nat} {v : Value} {ps : List Prm} (h : w.ownsRow base 301 3 v ps.length (ps.flatMap prmCells)) (hS : ∀ k,base ≤ k → k < w.heap.size → S k) : PrmRow S w v ps := by
  rcases h.2 with ⟨hv,h0⟩ | ⟨g,cap,cur,hv,hb,hc,hn,_,_,ht⟩
  · exact Or.inl ⟨hv,List.eq_nil_of_length_eq_zero h0⟩
  · exact Or.inr ⟨g,cap,cur,hv,hS g hb (lt_of_some hc),hc,hn,ht⟩
theorem PrmRow.keep {S S' : Nat → Prop} {w w' : World} {v : Value} {ps : List Prm} (h : PrmRow S w v ps) (hk : ∀ k,S k → k < w.heap.size → S' k ∧ w'.heap[k]? = w.heap[k]?) : PrmRow S' w' v ps := by
  rcases h with h | ⟨g,cap,cur,hv,hs,hc,hr⟩
  · exact Or.inl h
  · have := hk g hs (lt_of_some hc)
    exact Or.inr ⟨g,cap,cur,hv,this.1,this.2.trans hc,hr⟩
def Funs (S : Nat → Prop) (w : World) (xs : List Value) (fs : List Fun) : Prop :=
  ∀ j,(h : j < fs.length) → ∃ pv bv,(xs.drop (j * 10)).take 10 = funCells fs[j] pv bv ∧ PrmRow S w pv fs[j].params ∧ Parts S w bv fs[j].body.parts
theorem Funs.keep {S S' : Nat → Prop} {w w' : World} {xs : List Value} {fs : List Fun} (h : Funs S w xs fs) (hk : ∀ k,S k → k < w.heap.size → S' k ∧ w'.heap[k]? = w.heap[k]?) : Funs S' w' xs fs :=
  fun j hj => by obtain ⟨pv,bv,a,b,c⟩ := h j hj; exact ⟨pv,bv,a,b.keep hk,c.keep hk⟩
theorem Funs.snoc {S : Nat → Prop} {w : World} {xs : List Value} {fs : List Fun} (h : Funs S w xs fs) (hl : xs.length = fs.length * 10) {x : Fun} {pv bv : Value} (hp : PrmRow S w pv x.params) (hb : Parts S w bv x.body.parts) :
    Funs S w (xs ++ funCells x pv bv) (fs ++ [x]) := by
  intro j hj
  by_cases e : j < fs.length
  · obtain ⟨pj,bj,a,b⟩ := h j e
    refine ⟨pj,bj,?_,?_⟩
    · rw [List.drop_append_of_le_length (by omega),List.take_append_of_le_length (by simp; omega),a,List.getElem_append_left e]
    · rw [List.getElem_append_left e]; exact b
  · have e' : j = fs.length := by simp at hj; omega
    subst e'
    refine ⟨pv,bv,?_,?_⟩
    · rw [← hl,List.drop_left]
      simp [funCells]
    · simpa using ⟨hp,hb⟩
theorem info_fun : (Tryz.prog.info? 233).map (fun i => (i.zero,i.size,i.bytes)) = some (some (.agg #[.string ⟨#[]⟩,.int .i64 0,.bool false,.slice none 0 0,.int .i64 0,.int .i64 0,.int .i64 0,.string ⟨#[]⟩,.int .i64 0,.slice none 0 0]),10,128) := by kernel_rfl
def funsN (ws : List Wd) (ex : PS → Ex × PS) : Nat → PS → List Fun × PS
  | 0,st => ([],st)
  | n + 1,st => if st.isAt ws [[112,117,98],[102,110]] then ((funR ws ex st).1 :: (funsN ws ex n (funR ws ex st).2).1,(funsN ws ex n (funR ws ex st).2).2) else ([],st)
theorem fn_progress {ws : List Wd} {s : PS} (h : s.isAt ws [[112,117,98],[102,110]] = true) (hs : s.i + 1 < ws.length) : s.i + 1 ≤ ((s.skipTo ws [112,117,98]).expect ws [102,110]).i := by
  rcases h1 : s.isAt ws [[112,117,98]] with _ | _
  · have h2 : s.isAt ws [[102,110]] = true := by
      simp only [PS.isAt,Bool.and_eq_true,List.contains_cons,List.contains_nil,Bool.or_false] at h h1 ⊢
      rcases ht : ((s.cur ws).text == [112,117,98]) with _ | _
      · rw [ht] at h; simpa using h
      · simp [ht,h.1] at h1
    simp only [PS.skipTo,PS.expect,h1,h2,if_true,Bool.false_eq_true,if_false,PS.next]
    omega
  · simp only [PS.skipTo,h1,if_true]
    have := PS.expect_ge (ws := ws) (st := s.next ws) [102,110] (by simp only [PS.next]; omega)
    simp only [PS.next] at this ⊢
    omega
theorem funs_any (P : Pl) (ws : List Wd) (ex : PS → Ex × PS) (hR : Reads 208 ws P ws.length ex) (hlast : ∀ s : PS,s.i + 1 = ws.length → (s.cur ws).kind = 0) (st : PS) (w : World) (hp : Prs P ws st w)
    (b : Nat) (hb0 : w.cell? ⟨b,0,none⟩ = some (.string ⟨[112,117,98].toArray⟩)) (hb1 : w.cell? ⟨b,1,none⟩ = some (.string ⟨[102,110].toArray⟩)) (hbb : b < w.heap.size) (hbp : b ≠ P.pb) :
    Calls Tryz.prog 157 #[.pointer (some ⟨P.pb,0,none⟩),.func (.func 158) #[.pointer (some ⟨P.pb,0,none⟩)] #[],.slice (some ⟨b,0,none⟩) 2 2] w fun e w' =>
      ∃ v xs,e = .returned v ∧ Ok P ws w (funsN ws ex ws.length st).2 w' ∧ w'.ownsRow w.heap.size 233 10 v (funsN ws ex ws.length st).1.length xs ∧ Funs (fun k => w.heap.size ≤ k) w' xs (funsN ws ex ws.length st).1 := by
  have h1 := lt_of_some hp.blk
  have hsm := hp.small
  have hl0 := hp.lt
  have HQ := hide (Ok.refl hp)
  have HR := hide hR
  have HLa := hide hlast
  have HC0 := hide hb0
  have HC1 := hide hb1
  clear hp hlast hb0 hb1 hR
  obtain ⟨i0,hi,hz0,hz1,hz2⟩ := info_parts info_fun
  go_enter Tryz.func157,Tryz.ntmps157
  go_wp2
  go_loopg [7] ws.length (fun n v wr => ∃ (tl : List Fun) (s : PS) (xs : List Value),Hid (funsN ws ex ws.length st = (tl ++ (funsN ws ex n s).1,(funsN ws ex n s).2)) ∧ s.rem ws < n ∧ tl.length + n ≤ ws.length ∧ Hid (Ok P ws w s wr) ∧
      Hid (wr.ownsRow w.heap.size 233 10 v tl.length xs) ∧ Hid (Funs (fun k => w.heap.size ≤ k ∧ v.ownBlock ≠ some k) wr xs tl))
  case atStart => exact ⟨[],st,[],rfl,by simp only [PS.rem]; omega,by simp,HQ.out,World.ownsRow_nil _ _ _ _,fun j hj => by simp at hj⟩
  case round =>
    obtain ⟨tl,s,xs,HC,hrem,hsum,HO,HOw,HFu⟩ := hrel
    have hlt := HO.out.prs.lt
    have hsr := HO.out.size
    rcases hat : s.isAt ws [[112,117,98],[102,110]] with _ | _
    · have HF2 := hide (show funsN ws ex ws.length st = (tl,s) by
        rw [HC.out]
        cases gk with
        | zero => omega
        | succ n => simp [funsN,hat])
      go_wp2_with fail
      refine (at_two P ws s _ (by exact HO.out.prs) b [112,117,98] [102,110] (by exact (HO.out.but.cell hbb hbp 0).trans HC0.out) (by exact (HO.out.but.cell hbb hbp 1).trans HC1.out) (by omega)).mono ?_
      rintro e w2 ⟨rfl,hb⟩
      rw [hat]
      have HO2 := hide (HO.out.below hb)
      have HOw2 := hide (owns_keep HOw.out (w' := w2) (fun k e => hb.block k (owns_in HOw.out k e).2))
      have HFu2 := hide (HFu.out.keep (S' := fun k => w.heap.size ≤ k) (w' := w2) (fun k h1 h2 => ⟨h1.1,hb.block k h2⟩))
      clear hb
      go_wp2
      go_ret
      rw [HF2.out]
      exact ⟨_,xs,rfl,HO2.out,HOw2.out,HFu2.out⟩
    · have hi2 := PS.isAt_lt HLa.out hat hlt
      have hpr := fn_progress hat hi2
      go_wp2_with fail
      refine (at_two P ws s _ (by exact HO.out.prs) b [112,117,98] [102,110] (by exact (HO.out.but.cell hbb hbp 0).trans HC0.out) (by exact (HO.out.but.cell hbb hbp 1).trans HC1.out) (by omega)).mono ?_
      rintro e w2 ⟨rfl,hb⟩
      rw [hat]
      have HO2 := hide (HO.out.below hb)
      have HOw2 := hide (owns_keep HOw.out (w' := w2) (fun k e => hb.block k (owns_in HOw.out k e).2))
      have HFu2 := hide (HFu.out.keep (S' := fun k => w.heap.size ≤ k ∧ u7.ownBlock ≠ some k) (w' := w2) (fun k h1 h2 => ⟨h1,hb.block k h2⟩))
      have hs2 := hb.size
      clear hb
      go_wp2_with fail
      refine (function_any P ws ex HR.out HLa.out s _ (by exact HO2.out.prs)).mono ?_
      rintro e w3 ⟨po,pn,pc,qo,qn,qc,rfl,hok,hpr3,hpa3,hge3⟩
      have HO3 := hide (HO2.out.trans hok)
      have HOw3 := hide (owns_keep HOw2.out (w' := w3) (fun k e => hok.but.block k (owns_in HOw2.out k e).2 (by have := (owns_in HOw2.out k e).1; omega)))
      have HFu3 := hide (HFu2.out.keep (S' := fun k => w.heap.size ≤ k ∧ u7.ownBlock ≠ some k) (w' := w3) (fun k h1 h2 => ⟨h1,hok.but.block k h2 (by omega)⟩))
      have HIn := hide (fun k e => (owns_in HOw2.out k e).2)
      have HPr3 := hide (PrmRow.of_owns (S := fun k => w.heap.size ≤ k ∧ u7.ownBlock ≠ some k) hpr3 (fun k h _ => ⟨by omega,fun e => by have := HIn.out k e; omega⟩))
      have HPa3 := hide (hpa3.mono (S' := fun k => w.heap.size ≤ k ∧ u7.ownBlock ≠ some k) (fun k h _ => ⟨by omega,fun e => by have := HIn.out k e; omega⟩))
      have HG3 := hide hge3
      have hs3 := HO3.out.size
      generalize hr3 : funR ws ex s = r3 at *
      have HE3 := hide hr3
      clear hok hpr3 hpa3 hge3 hr3
      unfold funVal
      go_wp2_with (at_builtin; refine wpList_append_where _ rfl _ _ 216 rfl w.heap.size 233 i0 (.agg #[.string ⟨#[]⟩,.int .i64 0,.bool false,.slice none 0 0,.int .i64 0,.int .i64 0,.int .i64 0,.string ⟨#[]⟩,.int .i64 0,.slice none 0 0]) 10 128 Tryz.underlying216 hi hz0 hz1 hz2 rfl (by decide) _ _ _ rfl (HOw3.out.alloc _) ⟨w3.heap.size,0,none⟩ 1 1 (funCells r3.1 (.slice po pn pc) (.slice qo qn qc)) rfl rfl ?c1 ?c2 (by decide) ?c3 ?c4 ?c5 ?_)
      case c1 =>
        intro j u hj
        match j,hj with
        | 0,hj => simp [funCells] at hj; subst hj; simp [Addr.add]
        | 1,hj => simp [funCells] at hj; subst hj; simp [Addr.add]
        | 2,hj => simp [funCells] at hj; subst hj; simp [Addr.add]
        | 3,hj => simp [funCells] at hj; subst hj; simp [Addr.add]
        | 4,hj => simp [funCells] at hj; subst hj; simp [Addr.add]
        | 5,hj => simp [funCells] at hj; subst hj; simp [Addr.add]
        | 6,hj => simp [funCells] at hj; subst hj; simp [Addr.add]
        | 7,hj => simp [funCells] at hj; subst hj; simp [Addr.add]
        | 8,hj => simp [funCells] at hj; subst hj; simp [Addr.add]
        | 9,hj => simp [funCells] at hj; subst hj; simp [Addr.add]
      case c2 => intro u hu; simp [funCells] at hu; rcases hu with rfl | rfl | rfl | rfl | rfl | rfl | rfl | rfl | rfl | rfl <;> rfl
      case c3 => unfold maxLen; omega
      case c4 => omega
      case c5 => simp; omega
      intro g' cap' w4 hown' hgrow hwhere
      have HO4 := hide ((HO3.out.alloc _).grown' hgrow (fun g e => (owns_in HOw3.out g e).1))
      have hkk : ∀ k,(w.heap.size ≤ k ∧ u7.ownBlock ≠ some k) → k < w3.heap.size → (w.heap.size ≤ k ∧ Value.ownBlock (.slice (some ⟨g',0,none⟩) (tl.length + 1) cap') ≠ some k) ∧ w4.heap[k]? = w3.heap[k]? := by
        intro k h1 h2
        refine ⟨⟨h1.1,?_⟩,(hgrow.block k (by simp; omega) (fun e => h1.2 e.symm)).trans (Below.heap_alloc _ _ _ h2)⟩
        simp only [Value.ownBlock,ne_eq,Option.some.injEq]
        intro e
        rcases hwhere with hw | hw
        · exact h1.2 (by rw [hw,e])
        · (try simp at hw); omega
      have HFu4 := hide ((HFu3.out.snoc (by have := HOw3.out.1; exact this) HPr3.out HPa3.out).keep (w' := w4) hkk)
      have HOw4 := hide hown'
      clear hgrow hown' hwhere hkk
      go_wp2
      go_roundg (gk - 1)
      case measure => omega
      case rel =>
        refine ⟨tl ++ [r3.1],r3.2,xs ++ funCells r3.1 (.slice po pn pc) (.slice qo qn qc),?_,?_,?_,HO4.out,?_,?_⟩
        · show funsN ws ex ws.length st = _
          rw [HC.out]
          cases gk with
          | zero => omega
          | succ n => simp [funsN,hat,HE3.out]
        · have := HG3.out; simp only [PS.rem] at hrem ⊢; omega
        · simp; omega
        · show w4.ownsRow _ _ _ _ _ _
          have := HOw4.out; simpa using this
        · exact HFu4.out
end Go.Proofs.YtpmmjkiclngpmaaGreatDoor
namespace Go.Proofs.YtpmmjkiclngpmaaGreatDoor
open Go.RowKit
structure Mod where
  imports : List Imp
  funs : List Fun
def modR (ws : List Wd) (ex : PS → Ex × PS) (st : PS) : Mod × PS :=
  (⟨(impsN ws ws.length st).1,(funsN ws ex ws.length (impsN ws ws.length st).2).1⟩,
   if ((funsN ws ex ws.length (impsN ws ws.length st).2).2.cur ws).kind = 0 then (funsN ws ex ws.length (impsN ws ws.length st).2).2 else (funsN ws ex ws.length (impsN ws ws.length st).2).2.fail ws)
def ModIs (lo : Nat) (w : World) (mb : Nat) (m : Mod) : Prop :=
  ∃ iv fv xs,w.heap[mb]? = some (.cells #[iv,fv] 218 (0,0)) ∧ w.ownsRow lo 220 2 iv m.imports.length (m.imports.flatMap impCells) ∧
    w.ownsRow lo 233 10 fv m.funs.length xs ∧ Funs (fun k => lo ≤ k) w xs m.funs
theorem ModIs.keep {lo : Nat} {w w' : World} {mb : Nat} {m : Mod} (h : ModIs lo w mb m) (hk : ∀ k,k < w.heap.size → (k = mb ∨ lo ≤ k) → w'.heap[k]? = w.heap[k]?) : ModIs lo w' mb m := by
  obtain ⟨iv,fv,xs,a,b,c,d⟩ := h
  exact ⟨iv,fv,xs,(hk mb (lt_of_some a) (Or.inl rfl)).trans a,owns_keep b (fun g e => hk g (owns_in b g e).2 (Or.inr (owns_in b g e).1)),owns_keep c (fun g e => hk g (owns_in c g e).2 (Or.inr (owns_in c g e).1)),d.keep (fun k h1 h2 => ⟨h1,hk k h2 (Or.inr h1)⟩)⟩
theorem block_setCell2 {w : World} {b : Nat} {a0 a1 : Value} {e : TypeId} {f : Nat × Nat} (h : w.heap[b]? = some (.cells #[a0,a1] e f)) (u : Value) :
    (w.setCell ⟨b,0,none⟩ u).heap[b]? = some (.cells #[u,a1] e f) ∧ (w.setCell ⟨b,1,none⟩ u).heap[b]? = some (.cells #[a0,u] e f) :=
  ⟨block_setCell h 0 u,block_setCell h 1 u⟩
theorem cell_new {w : World} {b : Nat} (hb : w.heap.size = b) (c : Array Value) (e : TypeId) (o : Nat) : (w.alloc (.cells c e)).cell? ⟨b,o,none⟩ = c[o]? := by
  subst hb; exact cell_block (block_new _ _) o
theorem module_any (P : Pl) (ws : List Wd) (ex : PS → Ex × PS) (hR : Reads 208 ws P ws.length ex) (hlast : ∀ s : PS,s.i + 1 = ws.length → (s.cur ws).kind = 0) (st : PS) (w : World) (hp : Prs P ws st w) :
    Calls Tryz.prog 106 #[.pointer (some ⟨P.pb,0,none⟩)] w fun e w' => e = .returned (.pointer (some ⟨w.heap.size,0,none⟩)) ∧ Ok P ws w (modR ws ex st).2 w' ∧ ModIs (w.heap.size + 1) w' w.heap.size (modR ws ex st).1 := by
  have h1 := lt_of_some hp.blk
  have HQ := hide (Ok.refl hp)
  have HR := hide hR
  have HLa := hide hlast
  clear hp hR hlast
  have fw0 := fieldw0
  go_enter Tryz.func106,Tryz.ntmps106
  go_wp2_with fail
  refine (imps_any P ws HLa.out st _ (by exact ((HQ.out.alloc _).alloc _).prs) (w.heap.size + 1) (by simp) (by simp) (by omega)).mono ?_
  rintro e w1 ⟨iv,rfl,hok,how⟩
  obtain ⟨io,iN,ic,rfl⟩ := owns_shape how
  have HO1 := hide (((HQ.out.alloc _).alloc _).trans hok)
  have HM1 := hide ((hok.but.block w.heap.size (by simp; omega) (by omega)).trans (block_alloc (block_new w _) _))
  have HI1 := hide (owns_base (base' := w.heap.size + 1) how (by simp))
  have hs1 := hok.size
  simp at hs1
  clear hok how
  generalize hi : impsN ws ws.length st = ii at *
  have HII := hide hi
  clear hi
  have m0 := cell_block HM1.out 0
  have mf := free_block HM1.out
  have ms := lt_of_some HM1.out
  simp at m0
  go_wp2_with fail
  refine (funs_any P ws ex HR.out HLa.out ii.2 _ (by exact ((HO1.out.set w.heap.size 0 _ (Nat.le_refl _)).alloc _).prs) w1.heap.size (by exact cell_new (by simp) _ _ 0) (by exact cell_new (by simp) _ _ 1) (by simp) (by omega)).mono ?_
  rintro e w2 ⟨fv,xs,rfl,hok,how,hfu⟩
  obtain ⟨fo,fN,fc,rfl⟩ := owns_shape how
  have HO2 := hide (((HO1.out.set w.heap.size 0 _ (Nat.le_refl _)).alloc _).trans hok)
  have HM2 := hide ((hok.but.block w.heap.size (by simp; omega) (by omega)).trans (block_alloc (block_setCell2 HM1.out _).1 _))
  have HI2 := hide (owns_but (owns_keep (owns_set (o := 0) (u := .slice io iN ic) HI1.out (by omega)) (fun g e => Below.heap_alloc _ _ _ (owns_in (owns_set (o := 0) (u := .slice io iN ic) HI1.out (by omega)) g e).2)) hok.but (by omega))
  have HF2 := hide (owns_base (base' := w.heap.size + 1) how (by simp; omega))
  have HU2 := hide (hfu.keep (S' := fun k => w.heap.size + 1 ≤ k) (w' := w2) (fun k h _ => ⟨by simp at h; omega,rfl⟩))
  have hs2 := hok.size
  have hl2 := hok.prs.lt
  simp at hs2
  clear hok how hfu
  generalize hf : funsN ws ex ws.length ii.2 = ff at *
  have HFF := hide hf
  clear hf
  have k1 := cell_block HM2.out 1
  have kf := free_block HM2.out
  have ks := lt_of_some HM2.out
  simp at k1
  go_wp2_with fail
  have HO2' := hide (HO2.out.set w.heap.size 1 (.slice fo fN fc) (Nat.le_refl _))
  refine (current_any P ws ff.2 _ (by exact HO2'.out.prs)).mono ?_
  rintro e w3 ⟨rfl,hb⟩
  have HO3 := hide (HO2'.out.below hb)
  have HM3 := hide ((hb.block w.heap.size (by simp; omega)).trans (block_setCell2 HM2.out _).2)
  have HMod := hide (show ModIs (w.heap.size + 1) w3 w.heap.size ⟨ii.1,ff.1⟩ from ⟨_,_,xs,HM3.out,
    owns_keep (owns_set (o := 1) (u := .slice fo fN fc) HI2.out (by omega)) (fun g e => hb.block g (by have := (owns_in HI2.out g e).2; simp; omega)),
    owns_keep (owns_set (o := 1) (u := .slice fo fN fc) HF2.out (by omega)) (fun g e => hb.block g (by have := (owns_in HF2.out g e).2; simp; omega)),
    HU2.out.keep (fun k h1 h2 => ⟨h1,(hb.block k (by simp; omega)).trans (Below.heap_setCell _ _ _ _ (by show k ≠ w.heap.size; omega))⟩)⟩)
  clear hb
  unfold wdVal
  rcases hk : (((ff.2.cur ws).kind : Int) != 0) with _ | _
  · have hk' : (ff.2.cur ws).kind = 0 := by simp at hk; omega
    have HE := hide (show modR ws ex st = (⟨ii.1,ff.1⟩,ff.2) by simp [modR,HII.out,HFF.out,hk'])
    go_wp2
    go_ret
    rw [HE.out]
    exact ⟨rfl,HO3.out,HMod.out⟩
  · have hk' : ¬ (ff.2.cur ws).kind = 0 := by simp at hk; omega
    have HE := hide (show modR ws ex st = (⟨ii.1,ff.1⟩,ff.2.fail ws) by simp [modR,HII.out,HFF.out,hk'])
    go_wp2_with fail
    refine (fail_any P ws ff.2 _ (by exact HO3.out.prs)).mono ?_
    rintro e w4 ⟨rfl,hb⟩
    have HO4 := hide (HO3.out.go hb)
    have HMod4 := hide (HMod.out.keep (w' := w4) (fun k hk hlo => hb.1.block k hk (by omega)))
    clear hb
    go_wp2
    go_ret
    rw [HE.out]
    exact ⟨rfl,HO4.out,HMod4.out⟩
end Go.Proofs.YtpmmjkiclngpmaaGreatDoor
