/- YtpmmjkiclngpmaaGreatDoorB15 -/
import Derived.Test.YtpmmjkiclngpmaaGreatDoorB10
import Derived.Deep.RegionWith
import Derived.Deep.DeepCutAuto
import Derived.Deep.QuietTactic
import Derived.BigQuiet
set_option maxRecDepth 100000
set_option linter.unusedSimpArgs false
set_option linter.unusedVariables false
set_option maxHeartbeats 12800000
namespace Go.Proofs.YtpmmjkiclngpmaaGreatDoor
open Go.RowKit
def FindC (B : Cb) (w0 : World) (C : CK) (fnd : Fnd) (known : List UInt8 → Prop) : Prop :=
  ∀ (name : List UInt8) (lk : List Us) (uv : Value) (w : World),known name → Cel B w0 w → Vw B.lo C.V lk uv w → lk.length ≤ 8000000000 → Calls Tryz.prog 261 #[C.c0,.string ⟨name.toArray⟩] w fun e w' =>
    (∃ ap,e = .returned (.tuple #[.string ⟨(fnd.sym name).1.toArray⟩,.pointer ap])) ∧ (fnd.sym name).2 = name ∧ ∃ uv',Moved C.V uv uv' w w' ∧ Vw B.lo C.V (lk ++ fnd.use name) uv' w'
def ExprC (B : Cb) (w0 : World) (S : Nat → Prop) (C : CK) (fnd : Fnd) (known : List UInt8 → Prop) (cb m : Nat) : Prop :=
  ∀ (e : Ex) (b o : Nat) (s : CS) (sv kv lv : Value) (w : World),Shp known (m + 1) e → ExAt m S w0 b o e → b < B.lo → Cd B cb C s sv kv lv w → Cel B w0 w → Fit s (sz (m + 1) e) →
    Calls Tryz.prog 179 #[.pointer (some ⟨cb,0,none⟩),.pointer (some ⟨b,o,none⟩)] w fun e' w' => e' = .returned (.tuple #[]) ∧ Wrote B cb C w (gen fnd (m + 1) e s) w'
theorem grown_drew1 {w w' : World} {r : Option Nat} (h : w.drew.grownBy w' r) : w.grownBy w' r := ⟨h.os,h.tape,h.output,h.size,h.block⟩
theorem below_drew0 {w w1 : World} (h : Below w.drew.heap.size w.drew w1) : Below w.heap.size w w1 := ⟨h.os,h.tape,h.output,h.size,h.block⟩
theorem len2 {α : Type} {l : List α} (h : l.length = 2) : ∃ a b,l = [a,b] := by
  match l,h with
  | [a,b],_ => exact ⟨a,b,rfl⟩
theorem len3 {α : Type} {l : List α} (h : l.length = 3) : ∃ a b c,l = [a,b,c] := by
  match l,h with
  | [a,b,c],_ => exact ⟨a,b,c,rfl⟩
theorem gens_snoc (g : Ex → CS → CS) (l : List Ex) (x : Ex) (s : CS) : gens g (l ++ [x]) s = g x (gens g l s) := by
  induction l generalizing s with
  | nil => rfl
  | cons y r ih => exact ih _
theorem szL_append (g : Ex → Nat) (l r : List Ex) : szL g (l ++ r) = szL g l + szL g r := by
  induction l with
  | nil => simp [szL]
  | cons x l ih => simp only [szL,List.cons_append,List.foldr_cons] at *; omega
theorem szL_take (g : Ex → Nat) (l : List Ex) (k : Nat) (hk : k < l.length) : szL g (l.take k) + g l[k] ≤ szL g l := by
  have h := szL_append g (l.take k) (l.drop k)
  rw [List.take_append_drop] at h
  rw [List.drop_eq_getElem_cons hk] at h
  simp only [szL,List.foldr_cons] at *
  omega
theorem parts_any (B : Cb) (w0 : World) (S : Nat → Prop) (hS : ∀ k,S k → k < B.lo) (C : CK) (fnd : Fnd) (known : List UInt8 → Prop) (cb m : Nat) (ih : ∀ k,m = k + 1 → ExprC B w0 S C fnd known cb k)
    (e : Ex) (b o : Nat) (s : CS) (sv kv lv : Value) (w : World) (hsh : ∀ x ∈ e.parts,Shp known m x) (hat : ExAt m S w0 b o e) (hb : b < B.lo) (h : Cd B cb C s sv kv lv w) (hw : Cel B w0 w) (hfit : Fit s (szL (sz m) e.parts)) (hpl : e.parts.length ≤ 1000000) :
    Calls Tryz.prog 223 #[.pointer (some ⟨cb,0,none⟩),.pointer (some ⟨b,o,none⟩)] w fun e' w' => e' = .returned (.tuple #[]) ∧ Wrote B cb C w (gens (gen fnd m) e.parts s) w' := by
  obtain ⟨pv,a0,a2,a3,a4,ap⟩ := hat
  have hlow := h.low
  have hlt := h.lt
  rcases Nat.eq_zero_or_pos e.parts.length with h0 | hpos
  · obtain ⟨po,pc,rfl⟩ := ap.none
    have HC := hide (show gens (gen fnd m) e.parts s = s by rw [List.eq_nil_of_length_eq_zero h0]; rfl)
    have c4 := (below_cell hw.bel hb (o + 4)).trans a4
    rw [h0] at c4
    have c4' : w.cell? ⟨b,o + 4,none⟩ = some (.slice po 0 pc) := c4
    have HM := hide h
    have hbl : b < w.heap.size := by omega
    clear c4 h hw a0 a2 a3 a4 ap ih hsh hfit
    go_enter Tryz.func223,Tryz.ntmps223
    go_wp2
    go_loop [10] (fun i => i = .int .i64 0) (fun i => 0)
    case atStart => rfl
    case round =>
      subst hrel
      go_wp2
      go_end0
      exact ⟨rfl,by rw [HC.out]; exact Wrote.mk ⟨Cel.refl _ _,HM.out⟩⟩
  · obtain ⟨k,g,cap,hmk,rfl,hSg,hgl,hgc,hch⟩ := ap.at hpos
    have hgB := hS g hSg
    have HI := hide (ih k hmk)
    have HCh := hide hch
    have HSh := hide hsh
    have HA := hide a4
    have HM := hide h
    have HW := hide hw
    have HF := hide hfit
    have hbl : b < w.heap.size := by omega
    have c4 := (below_cell hw.bel hb (o + 4)).trans a4
    subst hmk
    clear h hw a0 a2 a3 a4 ap ih hsh hfit hch
    go_enter Tryz.func223,Tryz.ntmps223
    go_wp2
    go_loopw [10] (fun i wr => ∃ j : Nat,j ≤ e.parts.length ∧ i = .int .i64 j ∧ Hid (Wrote B cb C w (gens (gen fnd (k + 1)) (e.parts.take j) s) wr)) (fun i _ => e.parts.length - (intOf i).toNat)
    case atStart => exact ⟨0,Nat.zero_le _,rfl,by show Wrote _ _ _ _ _ _; exact Wrote.mk ⟨Cel.refl _ _,HM.out⟩⟩
    case round =>
      obtain ⟨j,hj,rfl,HWr⟩ := hrel
      obtain ⟨hbr,sv1,kv1,lv1,hcd⟩ := HWr.out
      have HB1 := hide hbr
      have HM1 := hide hcd
      have hw1 := HW.out.trans hbr
      have HW1 := hide hw1
      have d4 := (below_cell hw1.bel hb (o + 4)).trans HA.out
      have hsr := hbr.bel.size
      have hbr' : b < wr.heap.size := by omega
      have hgr' : g < wr.heap.size := by omega
      clear hbr hcd hw1
      by_cases hlt2 : j < e.parts.length
      · have hgw := gens_grew (g := gen fnd (k + 1)) (sz := sz (k + 1)) (e.parts.take j) (fun x _ s => gen_grew fnd (k + 1) x s) s
        have hsl := szL_take (sz (k + 1)) e.parts j hlt2
        have HFj := hide ((hgw.fit (m := sz (k + 1) e.parts[j]) (HF.out.mono hsl)))
        have HTk := hide (show gens (gen fnd (k + 1)) (e.parts.take (j + 1)) s = gen fnd (k + 1) e.parts[j] (gens (gen fnd (k + 1)) (e.parts.take j) s) by rw [List.take_succ_eq_append_getElem hlt2,gens_snoc])
        clear hgw hsl
        go_wp2_with fail
        refine (HI.out e.parts[j] g (j * 5) _ sv1 kv1 lv1 _ (HSh.out _ (List.getElem_mem hlt2)) (HCh.out j hlt2) hgB HM1.out HW1.out HFj.out).mono ?_
        rintro e' w2 ⟨rfl,hwr⟩
        have HW2 := hide (Wrote.trans HB1.out hwr)
        clear hwr
        go_wp2
        go_roundw
        case rel => exact ⟨j + 1,by omega,by go_num,by show Wrote _ _ _ _ _ _; rw [HTk.out]; exact HW2.out⟩
        case measure => simp [intOf]; omega
      · have hje : j = e.parts.length := by omega
        subst hje
        have HF2 := hide (show e.parts.take e.parts.length = e.parts from List.take_length)
        go_wp2
        go_end0
        exact ⟨rfl,by have := HWr.out; rw [HF2.out] at this; exact this⟩
end Go.Proofs.YtpmmjkiclngpmaaGreatDoor
namespace Go.Proofs.YtpmmjkiclngpmaaGreatDoor
open Go.RowKit
structure KS where
  scope : List (List UInt8 × Nat)
  code : Nat
  place : Nat
  lk : List Us
def rankB (c : Nat) : Nat := if c = 5 then 0 else if c = 6 then 1 else if c = 3 then 2 else if c = 7 then 3 else 4
def KS.tells (s : KS) (code place : Nat) : Bool := s.code == 0 || (decide (place < s.place) || (place == s.place && decide (rankB code < rankB s.code)))
def KS.tell (s : KS) (code place : Nat) : KS := if s.tells code place then { s with code := code,place := place } else s
def varCells (l : List (List UInt8 × Nat)) : List Value := l.flatMap fun x => [.string ⟨x.1.toArray⟩,.int .i64 x.2]
theorem varCells_snoc (l : List (List UInt8 × Nat)) (x : List UInt8 × Nat) : varCells (l ++ [x]) = varCells l ++ [.string ⟨x.1.toArray⟩,.int .i64 x.2] := by simp [varCells]
theorem varCells_at (l : List (List UInt8 × Nat)) (j : Nat) (hj : j < l.length) : (varCells l)[j * 2]? = some (.string ⟨(l[j].1).toArray⟩) ∧ (varCells l)[j * 2 + 1]? = some (.int .i64 l[j].2) := by
  induction l generalizing j with
  | nil => simp at hj
  | cons x r ih =>
    rw [show varCells (x :: r) = .string ⟨x.1.toArray⟩ :: .int .i64 x.2 :: varCells r from rfl]
    cases j with
    | zero => exact ⟨rfl,rfl⟩
    | succ j =>
      have := ih j (by simpa using hj)
      rw [show (j + 1) * 2 = j * 2 + 1 + 1 by omega]
      simpa using this
structure Kk (B kb : Nat) (vb : VK) (s : KS) (sv : Value) (w : World) : Prop where
  low : B ≤ kb
  blk : w.heap[kb]? = some (.cells #[.pointer (some ⟨vb.b,0,none⟩),sv,.int .i64 s.code,.int .i64 s.place] 224 (0,0))
  sco : w.ownsRow B 303 2 sv s.scope.length (varCells s.scope)
  n1 : sv.ownBlock ≠ some kb
  vw : ∃ uv,Vw B vb s.lk uv w ∧ ∀ k,VHas vb uv k → k ≠ kb ∧ sv.ownBlock ≠ some k
theorem Kk.lt {B kb : Nat} {vb : VK} {s : KS} {sv : Value} {w : World} (h : Kk B kb vb s sv w) : kb < w.heap.size := lt_of_some h.blk
theorem Kk.below {B kb : Nat} {vb : VK} {s : KS} {sv : Value} {w w' : World} (h : Kk B kb vb s sv w) (hb : Below w.heap.size w w') : Kk B kb vb s sv w' :=
  ⟨h.low,(hb.block _ h.lt).trans h.blk,owr_keep h.sco (fun k _ l => hb.block k l),h.n1,by obtain ⟨uv,hv,hd⟩ := h.vw; exact ⟨uv,hv.below hb,hd⟩⟩
theorem Kk.drew {B kb : Nat} {vb : VK} {s : KS} {sv : Value} {w : World} (h : Kk B kb vb s sv w) : Kk B kb vb s sv w.drew := h.below ((Below.refl _ _).drew)
theorem Kk.alloc {B kb : Nat} {vb : VK} {s : KS} {sv : Value} {w : World} (h : Kk B kb vb s sv w) (o : Obj) : Kk B kb vb s sv (w.alloc o) := h.below ((Below.refl _ _).alloc (Nat.le_refl _) _)
theorem Kk.field {B kb : Nat} {vb : VK} {s : KS} {sv : Value} {w : World} (h : Kk B kb vb s sv w) :
    w.cell? ⟨kb,0,none⟩ = some (.pointer (some ⟨vb.b,0,none⟩)) ∧ w.cell? ⟨kb,1,none⟩ = some sv ∧ w.cell? ⟨kb,2,none⟩ = some (.int .i64 s.code) ∧ w.cell? ⟨kb,3,none⟩ = some (.int .i64 s.place) := by
  refine ⟨?_,?_,?_,?_⟩ <;> rw [cell_block h.blk] <;> rfl
theorem Kk.told {B kb : Nat} {vb : VK} {s : KS} {sv : Value} {w w1 : World} (h : Kk B kb vb s sv w) (hb : Below w.heap.size w w1) (c p : Nat) :
    But kb w ((w1.setCell ⟨kb,2,none⟩ (.int .i64 c)).setCell ⟨kb,3,none⟩ (.int .i64 p)) ∧ Kk B kb vb { s with code := c,place := p } sv ((w1.setCell ⟨kb,2,none⟩ (.int .i64 c)).setCell ⟨kb,3,none⟩ (.int .i64 p)) := by
  have h' := h.below hb
  refine ⟨((But.of_below hb).setCell (p := ⟨kb,2,none⟩) (Or.inl rfl) _).setCell (p := ⟨kb,3,none⟩) (Or.inl rfl) _,⟨h.low,?_,owns_set_other (owns_set_other h'.sco h.n1 _ _) h.n1 _ _,h.n1,by obtain ⟨uv,hv,hd⟩ := h'.vw; exact ⟨uv,(hv.set (fun k hk => (hd k hk).1) _ _).set (fun k hk => (hd k hk).1) _ _,hd⟩⟩⟩
  rw [block_setCell (block_setCell h'.blk 2 _) 3 _]; rfl
theorem Kk.view {B kb : Nat} {vb : VK} {s : KS} {sv : Value} {w : World} (h : Kk B kb vb s sv w) :
    w.cell? ⟨vb.b,1,none⟩ = some (.pointer (some ⟨vb.mb,0,none⟩)) ∧ w.cell? ⟨vb.b,2,none⟩ = some vb.iv ∧ vb.b < w.heap.size := by
  obtain ⟨uv,hv,hd⟩ := h.vw
  exact ⟨hv.field.2.1,hv.field.2.2.1,hv.lt⟩
theorem Kk.found {B kb : Nat} {vb : VK} {s : KS} {sv : Value} {w w' : World} (h : Kk B kb vb s sv w) {uv uv' : Value} (hv : Vw B vb s.lk uv w) (hd : ∀ k,VHas vb uv k → k ≠ kb ∧ sv.ownBlock ≠ some k) {l : List Us} (hm : Moved vb uv uv' w w') (hv' : Vw B vb l uv' w') :
    Below B w w' ∧ Kk B kb vb { s with lk := l } sv w' := by
  have hlt := h.lt
  refine ⟨hm.bel hv,⟨h.low,?_,owr_keep h.sco (fun k e l => hm.block k l (fun e' => (hd k (Or.inl e')).2 e) (fun e' => (hd k (Or.inr (Or.inr e'))).2 e)),h.n1,uv',hv',fun k hk => ?_⟩⟩
  · exact (hm.block _ hlt (fun e => (hd _ (Or.inl e)).1 rfl) (fun e => (hd _ (Or.inr (Or.inr e))).1 rfl)).trans h.blk
  · rcases hk with hk | hk | hk
    · exact hd k (Or.inl hk)
    · exact hd k (Or.inr (Or.inl hk))
    · rcases hm.own k hk with e | e
      · exact hd k (Or.inr (Or.inr e))
      · exact ⟨by omega,fun e' => by have := (owns_block h.sco k e').2; omega⟩
theorem drewN_below (w : World) (n : Nat) : Below w.heap.size w (w.drewN n) := ⟨rfl,rfl,rfl,Nat.le_refl _,fun _ _ => rfl⟩
theorem rank_any (c : Nat) (w : World) : Calls Tryz.prog 217 #[.int .i64 c] w fun e w' => e = .returned (.int .i64 (rankB c)) ∧ w' = w := by
  have hx : c = 5 ∨ c = 6 ∨ c = 3 ∨ c = 7 ∨ (¬ c = 5 ∧ ¬ c = 6 ∧ ¬ c = 3 ∧ ¬ c = 7) := by omega
  rcases hx with rfl | rfl | rfl | rfl | ⟨h5,h6,h3,h7⟩
  case inr.inr.inr.inr =>
    have HO := hide (show rankB c = 4 by simp [rankB,h5,h6,h3,h7])
    have e5 : ((c : Int) == 5) = false := by simp; omega
    have e6 : ((c : Int) == 6) = false := by simp; omega
    have e3 : ((c : Int) == 3) = false := by simp; omega
    have e7 : ((c : Int) == 7) = false := by simp; omega
    go_enter Tryz.func217,Tryz.ntmps217
    go_wp2
    go_ret
    exact ⟨ret_int (by rw [HO.out]; rfl),rfl⟩
  all_goals
    go_enter Tryz.func217,Tryz.ntmps217
    go_wp2
    go_ret
    exact ⟨rfl,rfl⟩
theorem tell_any (B kb : Nat) (vb : VK) (s : KS) (sv : Value) (w : World) (h : Kk B kb vb s sv w) (c p : Nat) :
    Calls Tryz.prog 176 #[.pointer (some ⟨kb,0,none⟩),.int .i64 c,.int .i64 p] w fun e w' =>
      e = .returned (.tuple #[]) ∧ But kb w w' ∧ Kk B kb vb (s.tell c p) sv w' := by
  have h1 := h.lt
  obtain ⟨f0,f1,f2,f3⟩ := h.field
  have g0 := free_block h.blk
  have HM := hide h
  clear h
  rcases hc : ((s.code : Int) == 0) with _ | _
  · have hcn : ¬ s.code = 0 := by simpa using hc
    rcases hlt : decide ((p : Int) < (s.place : Int)) with _ | _
    · have hge : ¬ p < s.place := by simp at hlt; omega
      rcases heq : ((p : Int) == (s.place : Int)) with _ | _
      · have hne : ¬ p = s.place := by simp at heq; omega
        have HT := hide (show s.tell c p = s by simp [KS.tell,KS.tells,hcn,hge,hne])
        go_enter Tryz.func176,Tryz.ntmps176
        go_wp2_with fail
        go_quiet (fail)
        go_wp2
        go_end0
        exact ⟨rfl,But.of_below (drewN_below w nq),by rw [HT.out]; exact HM.out.below (drewN_below w nq)⟩
      · have heq' : p = s.place := by simp at heq; omega
        subst heq'
        clear hlt heq
        have hlt : decide ((s.place : Int) < (s.place : Int)) = false := by simp
        have heq : ((s.place : Int) == (s.place : Int)) = true := by simp
        rcases hrk : decide (((rankB c : Nat) : Int) < ((rankB s.code : Nat) : Int)) with _ | _
        · have hrn : ¬ rankB c < rankB s.code := by simp at hrk; omega
          have hrd : decide (rankB c < rankB s.code) = false := by simp at hrk ⊢; omega
          have HT := hide (show s.tell c s.place = s by simp [KS.tell,KS.tells,hcn,hrn])
          go_enter Tryz.func176,Tryz.ntmps176
          go_wp2_with fail
          go_quiet ((go_at_call 217; exact Calls.quiet_of_same (rank_any _ _)))
          go_wp2
          go_end0
          exact ⟨rfl,But.of_below (drewN_below w nq),by rw [HT.out]; exact HM.out.below (drewN_below w nq)⟩
        · have hrn : rankB c < rankB s.code := by simp at hrk; omega
          have hrd : decide (rankB c < rankB s.code) = true := by simp; omega
          have HT := hide (show s.tell c s.place = { s with code := c,place := s.place } by simp [KS.tell,KS.tells,hcn,hrn])
          go_enter Tryz.func176,Tryz.ntmps176
          go_wp2_with fail
          go_quiet ((go_at_call 217; exact Calls.quiet_of_same (rank_any _ _)))
          go_wp2
          go_end0
          exact ⟨rfl,by rw [HT.out]; exact HM.out.told (drewN_below w nq) c s.place⟩
    · have hl : p < s.place := by simp at hlt; omega
      have HT := hide (show s.tell c p = { s with code := c,place := p } by simp [KS.tell,KS.tells,hl])
      go_enter Tryz.func176,Tryz.ntmps176
      go_wp2_with fail
      go_quiet (fail)
      go_wp2
      go_end0
      exact ⟨rfl,by rw [HT.out]; exact HM.out.told (drewN_below w nq) c p⟩
  · have HT := hide (show s.tell c p = { s with code := c,place := p } by have : s.code = 0 := (by simpa using hc); simp [KS.tell,KS.tells,this])
    have hc0 : s.code = 0 := by simpa using hc
    rw [hc0] at f2
    have f2' : w.cell? ⟨kb,2,none⟩ = some (.int .i64 0) := f2
    clear f2 hc hc0
    go_enter Tryz.func176,Tryz.ntmps176
    go_wp2_with fail
    go_quiet (fail)
    go_wp2
    go_end0
    exact ⟨rfl,by rw [HT.out]; exact HM.out.told (drewN_below w nq) c p⟩
end Go.Proofs.YtpmmjkiclngpmaaGreatDoor
