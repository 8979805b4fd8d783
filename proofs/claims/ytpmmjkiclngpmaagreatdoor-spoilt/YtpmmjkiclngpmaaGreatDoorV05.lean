/- YtpmmjkiclngpmaaGreatDoorV05 -/
import Derived.Test.YtpmmjkiclngpmaaGreatDoorB01
import Derived.Test.YtpmmjkiclngpmaaGreatDoorB30
import Derived.Test.YtpmmjkiclngpmaaGreatDoorB08
import Derived.Test.YtpmmjkiclngpmaaGreatDoorB23
import Derived.Test.YtpmmjkiclngpmaaGreatDoorV03
set_option maxRecDepth 100000
set_option linter.unusedSimpArgs false
set_option linter.unusedVariables false
set_option maxHeartbeats 12800000
namespace Go.Proofs.YtpmmjkiclngpmaaGreatDoor
open Go.RowKit
def Brk (r : List UInt8) : Prop := ∀ c t,r = c :: t → isNameByteB (c.toNat : Int) = false
def Lx (s : List UInt8) (W : Nat → List Wd) : Prop := ∀ p r,Brk r → splitFrom (s ++ r) p = W p ++ splitFrom r (p + s.length)
def Lf (s : List UInt8) (W : Nat → List Wd) : Prop := ∀ p r,splitFrom (s ++ r) p = W p ++ splitFrom r (p + s.length)
theorem Lf.lx {s : List UInt8} {W : Nat → List Wd} (h : Lf s W) : Lx s W := fun p r _ => h p r
theorem Brk.append {b r : List UInt8} (hb : Brk b) (h0 : b ≠ []) : Brk (b ++ r) := fun c t e => by
  cases b with
  | nil => exact absurd rfl h0
  | cons x l =>
    rw [List.cons_append,List.cons.injEq] at e
    exact hb c l (by rw [e.1])
theorem Lf.append {a b : List UInt8} {A B : Nat → List Wd} (ha : Lf a A) (hb : Lf b B) : Lf (a ++ b) (fun p => A p ++ B (p + a.length)) := fun p r => by
  rw [List.append_assoc,ha,hb,List.append_assoc,List.length_append,Nat.add_assoc]
theorem Lf.appendX {a b : List UInt8} {A B : Nat → List Wd} (ha : Lf a A) (hb : Lx b B) : Lx (a ++ b) (fun p => A p ++ B (p + a.length)) := fun p r hr => by
  rw [List.append_assoc,ha,hb _ _ hr,List.append_assoc,List.length_append,Nat.add_assoc]
theorem Lx.appendF {a b : List UInt8} {A B : Nat → List Wd} (ha : Lx a A) (hb : Lf b B) (h0 : b ≠ []) (hk : Brk b) : Lf (a ++ b) (fun p => A p ++ B (p + a.length)) := fun p r => by
  rw [List.append_assoc,ha _ _ (hk.append h0),hb,List.append_assoc,List.length_append,Nat.add_assoc]
theorem Lf.blank {c : UInt8} (h : isBlankB (c.toNat : Int) = true) : Lf [c] (fun _ => []) := fun p r => by
  rw [List.nil_append]
  have e : runLen isBlankB ([c] ++ r) = runLen isBlankB r + 1 := by show runLen isBlankB (c :: r) = _; simp [runLen,h]
  have d : ([c] ++ r).drop (runLen isBlankB ([c] ++ r)) = r.drop (runLen isBlankB r) := by rw [e]; rfl
  rcases hd : r.drop (runLen isBlankB r) with _ | ⟨x,t⟩
  · rw [splitFrom_end _ _ (d.trans hd),splitFrom_end _ _ hd,e]
    show [(⟨0,[],p + (runLen isBlankB r + 1)⟩ : Wd)] = [⟨0,[],p + 1 + runLen isBlankB r⟩]
    rw [show p + (runLen isBlankB r + 1) = p + 1 + runLen isBlankB r by omega]
  · rw [splitFrom_cons _ _ _ _ (d.trans hd),splitFrom_cons _ _ _ _ hd,e]
    show (⟨_,_,p + (runLen isBlankB r + 1)⟩ : Wd) :: splitFrom _ (p + (runLen isBlankB r + 1) + _) = ⟨_,_,p + 1 + runLen isBlankB r⟩ :: splitFrom _ (p + 1 + runLen isBlankB r + _)
    rw [show p + (runLen isBlankB r + 1) = p + 1 + runLen isBlankB r by omega]
theorem split_word {c : UInt8} {r : List UInt8} (h : isBlankB (c.toNat : Int) = false) (p : Nat) :
    splitFrom (c :: r) p = ⟨(firstWordB (c :: r)).1,(c :: r).take (firstWordB (c :: r)).2,p⟩ :: splitFrom ((c :: r).drop (firstWordB (c :: r)).2) (p + (firstWordB (c :: r)).2) := by
  have e : runLen isBlankB (c :: r) = 0 := by simp [runLen,h]
  have := splitFrom_cons (c :: r) p c r (by rw [e]; rfl)
  rw [e,Nat.add_zero] at this
  exact this
theorem Lf.sign {c : UInt8} (hs : isSignB (c.toNat : Int) = true) (h1 : isBlankB (c.toNat : Int) = false) (h2 : isLetterB (c.toNat : Int) = false) (h3 : isDigitB (c.toNat : Int) = false) (h4 : ((c.toNat : Int) == 61) = false) : Lf [c] (fun p => [⟨4,[c],p⟩]) := fun p r => by
  have e : firstWordB (c :: r) = (4,1) := by simp [firstWordB,h2,h3,signKindB,h4,hs]
  show splitFrom (c :: r) p = _
  rw [split_word h1 p,e]
  rfl
theorem Lf.equal2 : Lf [61,61] (fun p => [⟨4,[61,61],p⟩]) := fun p r => by
  have e : firstWordB (61 :: 61 :: r) = (4,2) := by simp [firstWordB,signKindB,isLetterB,isDigitB]
  show splitFrom (61 :: 61 :: r) p = _
  rw [split_word (by decide) p,e]
  rfl
theorem Lf.equal1 : Lf [61,32] (fun p => [⟨4,[61],p⟩]) := fun p r => by
  have e : firstWordB (61 :: 32 :: r) = (4,1) := by simp [firstWordB,signKindB,isLetterB,isDigitB]
  show splitFrom (61 :: 32 :: r) p = _
  rw [split_word (by decide) p,e]
  show _ :: splitFrom ([32] ++ r) (p + 1) = _
  rw [Lf.blank (c := 32) (by decide)]
  rfl
theorem runLen_append {pb : Int → Bool} : ∀ {a r : List UInt8},(∀ c ∈ a,pb (c.toNat : Int) = true) → (∀ c t,r = c :: t → pb (c.toNat : Int) = false) → runLen pb (a ++ r) = a.length
  | [],[],_,_ => rfl
  | [],c :: t,_,h => by simp [runLen,h c t rfl]
  | x :: a,r,h,hr => by
    rw [List.cons_append]
    have ih := runLen_append (pb := pb) (a := a) (r := r) (fun c hc => h c (by simp [hc])) hr
    simp [runLen,h x (by simp),ih]
theorem Lx.name {c : UInt8} {n : List UInt8} (h1 : isBlankB (c.toNat : Int) = false) (h2 : isLetterB (c.toNat : Int) = true) (hn : ∀ x ∈ c :: n,isNameByteB (x.toNat : Int) = true) : Lx (c :: n) (fun p => [⟨nameKindB (c :: n),c :: n,p⟩]) := fun p r hr => by
  have e : runLen isNameByteB ((c :: n) ++ r) = (c :: n).length := runLen_append hn hr
  have f : firstWordB ((c :: n) ++ r) = (nameKindB (c :: n),(c :: n).length) := by
    show firstWordB (c :: (n ++ r)) = _
    unfold firstWordB
    simp only [h2,if_true]
    have e' : runLen isNameByteB (c :: (n ++ r)) = (c :: n).length := e
    rw [e']
    have : (c :: (n ++ r)).take (c :: n).length = c :: n := by rw [← List.cons_append,List.take_left]
    rw [this]
  show splitFrom (c :: (n ++ r)) p = _
  rw [split_word h1 p]
  have f' : firstWordB (c :: (n ++ r)) = (nameKindB (c :: n),(c :: n).length) := f
  rw [f']
  have t1 : (c :: (n ++ r)).take (c :: n).length = c :: n := by rw [← List.cons_append,List.take_left]
  have t2 : (c :: (n ++ r)).drop (c :: n).length = r := by rw [← List.cons_append,List.drop_left]
  simp only [t1,t2]
  rfl
theorem Lx.num {c : UInt8} {n : List UInt8} (h1 : isBlankB (c.toNat : Int) = false) (h2 : isLetterB (c.toNat : Int) = false) (hn : ∀ x ∈ c :: n,isDigitB (x.toNat : Int) = true) (hl : (c :: n).length ≤ 9) : Lx (c :: n) (fun p => [⟨3,c :: n,p⟩]) := fun p r hr => by
  have e : runLen isDigitB ((c :: n) ++ r) = (c :: n).length := runLen_append hn fun x t e => by
    have := hr x t e
    simp [isNameByteB] at this
    simp [this]
  have f' : firstWordB (c :: (n ++ r)) = (3,(c :: n).length) := by
    unfold firstWordB
    have e' : runLen isDigitB (c :: (n ++ r)) = (c :: n).length := e
    have hd := hn c (by simp)
    simp only [h2,hd,if_true,e']
    have hl' : ¬ 9 < (c :: n).length := by omega
    simp only [if_neg hl']
    rfl
  show splitFrom (c :: (n ++ r)) p = _
  rw [split_word h1 p,f']
  have t1 : (c :: (n ++ r)).take (c :: n).length = c :: n := by rw [← List.cons_append,List.take_left]
  have t2 : (c :: (n ++ r)).drop (c :: n).length = r := by rw [← List.cons_append,List.drop_left]
  simp only [t1,t2]
  rfl
end Go.Proofs.YtpmmjkiclngpmaaGreatDoor
namespace Go.Proofs.YtpmmjkiclngpmaaGreatDoor
open Go.RowKit
section
variable {ws : List Wd} {pl : Nat}
theorem cur_w {i : Nat} {f : Bool} {x : Wd} (h : ws[i]? = some x) : (⟨i,f,pl⟩ : PS).cur ws = x := by simp [PS.cur,List.getD,h]
theorem next_w {i : Nat} {f : Bool} (h : i + 1 < ws.length) : (⟨i,f,pl⟩ : PS).next ws = ⟨i + 1,f,pl⟩ := by
  unfold PS.next
  rw [show min (i + 1) (ws.length - 1) = i + 1 by omega]
def Stops (ws : List Wd) (i : Nat) : Prop := ∃ x,ws[i]? = some x ∧ (x.kind = 4 → [[42],[47],[43],[45],[60],[61,61],[40]].contains x.text = false)
theorem Stops.not {i : Nat} {f : Bool} (h : Stops ws i) {l : List (List UInt8)} (hl : ∀ t ∈ l,[[42],[47],[43],[45],[60],[61,61],[40]].contains t = true) : (⟨i,f,pl⟩ : PS).isAt ws l = false := by
  obtain ⟨x,h1,h2⟩ := h
  unfold PS.isAt
  rw [cur_w h1]
  by_cases hk : x.kind = 4
  · have h3 := h2 hk
    rw [Bool.and_eq_false_iff]
    right
    rw [Bool.eq_false_iff]
    intro hc
    have hm : x.text ∈ l := by simpa using hc
    rw [hl _ hm] at h3
    cases h3
  · simp [hk]
theorem isAt_w {i : Nat} {f : Bool} {x : Wd} (h : ws[i]? = some x) (l : List (List UInt8)) : (⟨i,f,pl⟩ : PS).isAt ws l = (x.kind == 4 && l.contains x.text) := by unfold PS.isAt; rw [cur_w h]
theorem expect_w {i : Nat} {t : List UInt8} {q : Nat} (h : ws[i]? = some ⟨4,t,q⟩) (hl : i + 1 < ws.length) : (⟨i,false,pl⟩ : PS).expect ws t = ⟨i + 1,false,pl⟩ := by
  unfold PS.expect
  rw [isAt_w h,next_w hl]
  simp
variable {ex fa : PS → Ex × PS}
theorem factor_num {i : Nat} {t : List UInt8} {q : Nat} (h : ws[i]? = some ⟨3,t,q⟩) (hl : i + 1 < ws.length) : factorR ws ex fa ⟨i,false,pl⟩ = (⟨0,q,[],digitsB t,[]⟩,⟨i + 1,false,pl⟩) := by
  unfold factorR numberR
  rw [cur_w h,next_w hl]
  simp
theorem factor_name {i : Nat} {t : List UInt8} {q : Nat} (h : ws[i]? = some ⟨2,t,q⟩) (hl : i + 1 < ws.length) (hs : Stops ws (i + 1)) : factorR ws ex fa ⟨i,false,pl⟩ = (⟨2,q,t,0,[]⟩,⟨i + 1,false,pl⟩) := by
  unfold factorR namedR
  rw [cur_w h,next_w hl,hs.not (by simp)]
  simp
theorem factor_bracket {i j : Nat} {q q' : Nat} {t : Ex} (h : ws[i]? = some ⟨4,[40],q⟩) (hl : i + 1 < ws.length) (hx : ex ⟨i + 1,false,pl⟩ = (t,⟨j,false,pl⟩)) (hj : ws[j]? = some ⟨4,[41],q'⟩) (hjl : j + 1 < ws.length) :
    factorR ws ex fa ⟨i,false,pl⟩ = (⟨4,q,[],0,[t]⟩,⟨j + 1,false,pl⟩) := by
  unfold factorR bracketR
  rw [cur_w h,next_w hl,hx,isAt_w h,isAt_w h]
  simp [expect_w hj hjl]
theorem factor_neg {i j : Nat} {q : Nat} {t : Ex} (h : ws[i]? = some ⟨4,[45],q⟩) (hl : i + 1 < ws.length) (hx : fa ⟨i + 1,false,pl⟩ = (t,⟨j,false,pl⟩)) :
    factorR ws ex fa ⟨i,false,pl⟩ = (⟨13,q,[],0,[t]⟩,⟨j,false,pl⟩) := by
  unfold factorR signR
  rw [cur_w h,next_w hl,hx,isAt_w h,isAt_w h,isAt_w h]
  simp
theorem factor_not {i j : Nat} {q : Nat} {t : Ex} (h : ws[i]? = some ⟨4,[33],q⟩) (hl : i + 1 < ws.length) (hx : fa ⟨i + 1,false,pl⟩ = (t,⟨j,false,pl⟩)) :
    factorR ws ex fa ⟨i,false,pl⟩ = (⟨14,q,[],0,[t]⟩,⟨j,false,pl⟩) := by
  unfold factorR signR
  rw [cur_w h,next_w hl,hx,isAt_w h,isAt_w h,isAt_w h,isAt_w h]
  simp
theorem factor_true {i : Nat} {q : Nat} {b : Bool} (h : ws[i]? = some ⟨4,if b then [116,114,117,101] else [102,97,108,115,101],q⟩) (hl : i + 1 < ws.length) :
    factorR ws ex fa ⟨i,false,pl⟩ = (⟨1,q,[],if b then 1 else 0,[]⟩,⟨i + 1,false,pl⟩) := by
  unfold factorR truthR
  rw [cur_w h,next_w hl,isAt_w h]
  cases b <;> simp
theorem chain_one {read : PS → Ex × PS} {signs : List (List UInt8)} {st : PS} {t : Ex} {j : Nat} (hr : read st = (t,⟨j,false,pl⟩)) (hs : (⟨j,false,pl⟩ : PS).isAt ws signs = false) : chainR ws read signs st = (t,⟨j,false,pl⟩) := by
  unfold chainR
  rw [hr]
  cases ws.length with
  | zero => rfl
  | succ n => simp [chainN,hs]
theorem chain_two {read : PS → Ex × PS} {signs : List (List UInt8)} {st : PS} {a b : Ex} {j k q : Nat} {t : List UInt8} (hr : read st = (a,⟨j,false,pl⟩)) (hj : ws[j]? = some ⟨4,t,q⟩) (ht : signs.contains t = true) (hl : j + 1 < ws.length)
    (hb : read ⟨j + 1,false,pl⟩ = (b,⟨k,false,pl⟩)) (hs : (⟨k,false,pl⟩ : PS).isAt ws signs = false) : chainR ws read signs st = (bin (pairKindB t) a b,⟨k,false,pl⟩) := by
  unfold chainR
  rw [hr]
  obtain ⟨n,hn⟩ : ∃ n,ws.length = n + 2 := ⟨ws.length - 2,by omega⟩
  rw [hn]
  have h1 : (⟨j,false,pl⟩ : PS).isAt ws signs = true := by rw [isAt_w hj,ht]; rfl
  simp only [chainN,h1,if_true,pairR,cur_w hj,next_w hl,hb,hs]
  rfl
theorem term_one {st : PS} {t : Ex} {j : Nat} (hr : fa st = (t,⟨j,false,pl⟩)) (hs : (⟨j,false,pl⟩ : PS).isAt ws [[42],[47]] = false) : termR ws fa st = (t,⟨j,false,pl⟩) := chain_one hr hs
theorem sum_one {st : PS} {t : Ex} {j : Nat} (hr : termR ws fa st = (t,⟨j,false,pl⟩)) (hs : (⟨j,false,pl⟩ : PS).isAt ws [[43],[45]] = false) : sumR ws fa st = (t,⟨j,false,pl⟩) := chain_one hr hs
theorem compare_one {st : PS} {t : Ex} {j : Nat} (hr : sumR ws fa st = (t,⟨j,false,pl⟩)) (hs : (⟨j,false,pl⟩ : PS).isAt ws [[60],[61,61]] = false) : compareR ws fa st = (t,⟨j,false,pl⟩) := by
  unfold compareR; rw [hr]; simp [hs]
theorem expr_cmp {i : Nat} {x : Wd} (h : ws[i]? = some x) (hx : x.kind = 4 → x.text ≠ [105,102] ∧ x.text ≠ [108,101,116]) : exprR ws ex fa ⟨i,false,pl⟩ = compareR ws fa ⟨i,false,pl⟩ := by
  unfold exprR
  rw [isAt_w h,isAt_w h]
  by_cases hk : x.kind = 4
  · obtain ⟨a,b⟩ := hx hk
    simp [hk,a,b]
  · simp [hk]
theorem expr_factor {i j : Nat} {x : Wd} {t : Ex} (h : ws[i]? = some x) (hx : x.kind = 4 → x.text ≠ [105,102] ∧ x.text ≠ [108,101,116]) (hf : fa ⟨i,false,pl⟩ = (t,⟨j,false,pl⟩)) (hs : Stops ws j) : exprR ws ex fa ⟨i,false,pl⟩ = (t,⟨j,false,pl⟩) := by
  rw [expr_cmp h hx]
  exact compare_one (sum_one (term_one hf (hs.not (by simp))) (hs.not (by simp))) (hs.not (by simp))
theorem expr_two {i j k q : Nat} {x : Wd} {a b : Ex} {t : List UInt8} (h : ws[i]? = some x) (hx : x.kind = 4 → x.text ≠ [105,102] ∧ x.text ≠ [108,101,116]) (ha : fa ⟨i,false,pl⟩ = (a,⟨j,false,pl⟩)) (hj : ws[j]? = some ⟨4,t,q⟩)
    (ht : t = [42] ∨ t = [47] ∨ t = [43] ∨ t = [45] ∨ t = [60] ∨ t = [61,61]) (hl : j + 1 < ws.length) (hb : fa ⟨j + 1,false,pl⟩ = (b,⟨k,false,pl⟩)) (hs : Stops ws k) : exprR ws ex fa ⟨i,false,pl⟩ = (bin (pairKindB t) a b,⟨k,false,pl⟩) := by
  rw [expr_cmp h hx]
  have s1 : (⟨k,false,pl⟩ : PS).isAt ws [[42],[47]] = false := hs.not (by simp)
  have s2 : (⟨k,false,pl⟩ : PS).isAt ws [[43],[45]] = false := hs.not (by simp)
  have s3 : (⟨k,false,pl⟩ : PS).isAt ws [[60],[61,61]] = false := hs.not (by simp)
  have mul : t = [42] ∨ t = [47] → compareR ws fa ⟨i,false,pl⟩ = (bin (pairKindB t) a b,⟨k,false,pl⟩) := fun h => compare_one (sum_one (chain_two ha hj (by rcases h with rfl | rfl <;> rfl) hl hb s1) s2) s3
  have sum : t = [43] ∨ t = [45] → compareR ws fa ⟨i,false,pl⟩ = (bin (pairKindB t) a b,⟨k,false,pl⟩) := fun h => by
    have h1 : termR ws fa ⟨i,false,pl⟩ = (a,⟨j,false,pl⟩) := term_one ha (by rw [isAt_w hj]; rcases h with rfl | rfl <;> rfl)
    have h2 : termR ws fa ⟨j + 1,false,pl⟩ = (b,⟨k,false,pl⟩) := term_one hb s1
    exact compare_one (chain_two h1 hj (by rcases h with rfl | rfl <;> rfl) hl h2 s2) s3
  have cmp : t = [60] ∨ t = [61,61] → compareR ws fa ⟨i,false,pl⟩ = (bin (pairKindB t) a b,⟨k,false,pl⟩) := fun h => by
    have h1 : sumR ws fa ⟨i,false,pl⟩ = (a,⟨j,false,pl⟩) := sum_one (term_one ha (by rw [isAt_w hj]; rcases h with rfl | rfl <;> rfl)) (by rw [isAt_w hj]; rcases h with rfl | rfl <;> rfl)
    have h2 : sumR ws fa ⟨j + 1,false,pl⟩ = (b,⟨k,false,pl⟩) := sum_one (term_one hb s1) s2
    unfold compareR pairR
    rw [h1]
    have h3 : (⟨j,false,pl⟩ : PS).isAt ws [[60],[61,61]] = true := by rw [isAt_w hj]; rcases h with rfl | rfl <;> rfl
    simp only [h3,if_true,cur_w hj,next_w hl,h2]
  rcases ht with h | h | h | h | h | h
  · exact mul (Or.inl h)
  · exact mul (Or.inr h)
  · exact sum (Or.inl h)
  · exact sum (Or.inr h)
  · exact cmp (Or.inl h)
  · exact cmp (Or.inr h)
theorem expr_if {i j k l q q1 q2 : Nat} {a b c : Ex} (h : ws[i]? = some ⟨4,[105,102],q⟩) (hl : i + 1 < ws.length) (ha : ex ⟨i + 1,false,pl⟩ = (a,⟨j,false,pl⟩)) (hj : ws[j]? = some ⟨4,[116,104,101,110],q1⟩) (hjl : j + 1 < ws.length)
    (hb : ex ⟨j + 1,false,pl⟩ = (b,⟨k,false,pl⟩)) (hk : ws[k]? = some ⟨4,[101,108,115,101],q2⟩) (hkl : k + 1 < ws.length) (hc : ex ⟨k + 1,false,pl⟩ = (c,⟨l,false,pl⟩)) :
    exprR ws ex fa ⟨i,false,pl⟩ = (⟨5,q,[],0,[a,b,c]⟩,⟨l,false,pl⟩) := by
  unfold exprR choiceR
  rw [isAt_w h,cur_w h,next_w hl]
  simp only [ha,expect_w hj hjl,hb,expect_w hk hkl,hc]
  rfl
theorem expr_let {i j l q q0 q1 q2 : Nat} {nm : List UInt8} {a b : Ex} (h : ws[i]? = some ⟨4,[108,101,116],q⟩) (h1 : ws[i + 1]? = some ⟨2,nm,q0⟩) (h2 : ws[i + 2]? = some ⟨4,[61],q1⟩) (hl : i + 3 < ws.length)
    (ha : ex ⟨i + 3,false,pl⟩ = (a,⟨j,false,pl⟩)) (hj : ws[j]? = some ⟨4,[105,110],q2⟩) (hjl : j + 1 < ws.length) (hb : ex ⟨j + 1,false,pl⟩ = (b,⟨l,false,pl⟩)) :
    exprR ws ex fa ⟨i,false,pl⟩ = (⟨6,q,nm,0,[a,b]⟩,⟨l,false,pl⟩) := by
  unfold exprR bindingR
  have hn : (⟨i + 1,false,pl⟩ : PS).nameTo ws = ⟨i + 2,false,pl⟩ := by
    unfold PS.nameTo
    rw [cur_w h1,next_w (by omega)]
    simp
  have hw : (⟨i + 1,false,pl⟩ : PS).nameWd ws = ⟨2,nm,q0⟩ := by
    unfold PS.nameWd
    rw [cur_w h1]
    simp
  rw [isAt_w h,isAt_w h,cur_w h,next_w (by omega)]
  simp only [hn,hw,expect_w h2 hl,ha,expect_w hj hjl,hb]
  rfl
end
end Go.Proofs.YtpmmjkiclngpmaaGreatDoor
namespace Go.Proofs.YtpmmjkiclngpmaaGreatDoor
open Go.RowKit
def Has (ws : List Wd) (i : Nat) (W : List Wd) : Prop := ∀ j x,W[j]? = some x → ws[i + j]? = some x
theorem Has.append {ws : List Wd} {i : Nat} {A B : List Wd} (h : Has ws i (A ++ B)) : Has ws i A ∧ Has ws (i + A.length) B := by
  refine ⟨fun j x hj => h j x ?_,fun j x hj => ?_⟩
  · rw [List.getElem?_append_left (List.getElem?_eq_some_iff.1 hj).1]; exact hj
  · have := h (A.length + j) x (by rw [List.getElem?_append_right (by omega)]; simpa using hj)
    rwa [← Nat.add_assoc] at this
theorem Has.cons {ws : List Wd} {i : Nat} {x : Wd} {A : List Wd} (h : Has ws i (x :: A)) : ws[i]? = some x ∧ Has ws (i + 1) A := by
  refine ⟨h 0 x rfl,fun j y hj => ?_⟩
  have := h (j + 1) y (by simpa using hj)
  rwa [show i + (j + 1) = i + 1 + j by omega] at this
theorem at_eq {ws : List Wd} {a b : Nat} {x : Wd} (h : ws[a]? = some x) (e : a = b) : ws[b]? = some x := e ▸ h
theorem has_eq {ws : List Wd} {a b : Nat} {W : List Wd} (h : Has ws a W) (e : a = b) : Has ws b W := e ▸ h
def XR (W : Nat → List Wd) (t : Nat → Ex) (D : Nat) : Prop :=
  ∀ (ws : List Wd) (i p pl m : Nat),Has ws i (W p) → i + (W p).length < ws.length → Stops ws (i + (W p).length) → D ≤ m → (rd ws m).1 ⟨i,false,pl⟩ = (t p,⟨i + (W p).length,false,pl⟩)
theorem stop_sign {ws : List Wd} {i q : Nat} {t : List UInt8} (h : ws[i]? = some ⟨4,t,q⟩) (ht : [[42],[47],[43],[45],[60],[61,61],[40]].contains t = false) : Stops ws i := ⟨_,h,fun _ => ht⟩
theorem XR.bracket {W : Nat → List Wd} {t : Nat → Ex} {D : Nat} (h : XR W t D) {ws : List Wd} {i p q q' pl m : Nat} (h0 : ws[i]? = some ⟨4,[40],q⟩) (hw : Has ws (i + 1) (W p)) (h1 : ws[i + 1 + (W p).length]? = some ⟨4,[41],q'⟩) (hl : i + 1 + (W p).length + 1 < ws.length) (hm : D + 1 ≤ m) :
    (rd ws m).2 ⟨i,false,pl⟩ = (⟨4,q,[],0,[t p]⟩,⟨i + 1 + (W p).length + 1,false,pl⟩) := by
  obtain ⟨m',rfl⟩ : ∃ m',m = m' + 1 := ⟨m - 1,by omega⟩
  exact factor_bracket h0 (by omega) (h ws (i + 1) p pl m' hw (by omega) (stop_sign h1 (by decide)) (by omega)) h1 hl
theorem XR.two {A B : Nat → List Wd} {a b : Nat → Ex} {D : Nat} (ha : XR A a D) (hb : XR B b D) (sg : List UInt8) (o1 o2 la lb : Nat)
    (hsg : sg = [42] ∨ sg = [47] ∨ sg = [43] ∨ sg = [45] ∨ sg = [60] ∨ sg = [61,61]) :
    XR (fun p => [⟨4,[40],p⟩] ++ A (p + 1) ++ [⟨4,[41],p + 1 + la⟩,⟨4,sg,p + 1 + la + o1⟩,⟨4,[40],p + 1 + la + o2⟩] ++ B (p + 1 + la + o2 + 1) ++ [⟨4,[41],p + 1 + la + o2 + 1 + lb⟩])
      (fun p => bin (pairKindB sg) ⟨4,p,[],0,[a (p + 1)]⟩ ⟨4,p + 1 + la + o2,[],0,[b (p + 1 + la + o2 + 1)]⟩) (D + 2) := by
  intro ws i p pl m hw hl hs hm
  obtain ⟨m',rfl⟩ : ∃ m',m = m' + 1 := ⟨m - 1,by omega⟩
  obtain ⟨hw,h5⟩ := hw.append
  obtain ⟨hw,h4⟩ := hw.append
  obtain ⟨hw,h3⟩ := hw.append
  obtain ⟨h1,h2⟩ := hw.append
  obtain ⟨x0,_⟩ := h1.cons
  obtain ⟨x1,h3⟩ := h3.cons
  obtain ⟨x2,h3⟩ := h3.cons
  obtain ⟨x3,_⟩ := h3.cons
  obtain ⟨x4,_⟩ := h5.cons
  simp only [List.length_append,List.length_cons,List.length_nil,Nat.zero_add] at *
  have e1 := ha.bracket (pl := pl) (m := m' + 1) x0 h2 (at_eq x1 (by omega)) (by omega) (by omega)
  have e2 := hb.bracket (pl := pl) (m := m' + 1) (i := i + 1 + (A (p + 1)).length + 1 + 1) (p := p + 1 + la + o2 + 1) (at_eq x3 (by omega)) (has_eq h4 (by omega)) (at_eq x4 (by omega)) (by omega) (by omega)
  rw [show i + 1 + (A (p + 1)).length + 1 + 1 + 1 + (B (p + 1 + la + o2 + 1)).length + 1 = i + (1 + (A (p + 1)).length + (1 + 1 + 1) + (B (p + 1 + la + o2 + 1)).length + 1) by omega] at e2
  show exprR ws (rd ws m').1 (rd ws (m' + 1)).2 ⟨i,false,pl⟩ = _
  exact expr_two (x := ⟨4,[40],p⟩) x0 (fun _ => by simp) e1 (at_eq x2 (by omega)) hsg (by omega) e2 hs
theorem XR.per {A : Nat → List Wd} {a : Nat → Ex} {D : Nat} (ha : XR A a D) (tx : List UInt8) (o1 o2 la : Nat) :
    XR (fun p => [⟨4,[40],p⟩] ++ A (p + 1) ++ [⟨4,[41],p + 1 + la⟩,⟨4,[47],p + 1 + la + o1⟩,⟨3,tx,p + 1 + la + o2⟩])
      (fun p => bin 12 ⟨4,p,[],0,[a (p + 1)]⟩ ⟨0,p + 1 + la + o2,[],digitsB tx,[]⟩) (D + 2) := by
  intro ws i p pl m hw hl hs hm
  obtain ⟨m',rfl⟩ : ∃ m',m = m' + 1 := ⟨m - 1,by omega⟩
  obtain ⟨hw,h3⟩ := hw.append
  obtain ⟨h1,h2⟩ := hw.append
  obtain ⟨x0,_⟩ := h1.cons
  obtain ⟨x1,h3⟩ := h3.cons
  obtain ⟨x2,h3⟩ := h3.cons
  obtain ⟨x3,_⟩ := h3.cons
  simp only [List.length_append,List.length_cons,List.length_nil,Nat.zero_add] at *
  have e1 := ha.bracket (pl := pl) (m := m' + 1) x0 h2 (at_eq x1 (by omega)) (by omega) (by omega)
  have e2 : (rd ws (m' + 1)).2 ⟨i + 1 + (A (p + 1)).length + 1 + 1,false,pl⟩ = _ := factor_num (ex := (rd ws m').1) (fa := (rd ws m').2) (at_eq x3 (by omega)) (by omega)
  rw [show i + 1 + (A (p + 1)).length + 1 + 1 + 1 = i + (1 + (A (p + 1)).length + (1 + 1 + 1)) by omega] at e2
  show exprR ws (rd ws m').1 (rd ws (m' + 1)).2 ⟨i,false,pl⟩ = _
  exact expr_two (x := ⟨4,[40],p⟩) x0 (fun _ => by simp) e1 (at_eq x2 (by omega)) (Or.inr (Or.inl rfl)) (by omega) e2 hs
theorem XR.pre {A : Nat → List Wd} {a : Nat → Ex} {D : Nat} (ha : XR A a D) (k : Nat) (sg : List UInt8) (hk : sg = [45] ∧ k = 13 ∨ sg = [33] ∧ k = 14) (la : Nat) :
    XR (fun p => [⟨4,sg,p⟩,⟨4,[40],p + 1⟩] ++ A (p + 2) ++ [⟨4,[41],p + 2 + la⟩]) (fun p => ⟨k,p,[],0,[⟨4,p + 1,[],0,[a (p + 2)]⟩]⟩) (D + 2) := by
  intro ws i p pl m hw hl hs hm
  obtain ⟨m',rfl⟩ : ∃ m',m = m' + 1 := ⟨m - 1,by omega⟩
  obtain ⟨hw,h3⟩ := hw.append
  obtain ⟨h1,h2⟩ := hw.append
  obtain ⟨x0,h1⟩ := h1.cons
  obtain ⟨x1,_⟩ := h1.cons
  obtain ⟨x2,_⟩ := h3.cons
  simp only [List.length_append,List.length_cons,List.length_nil,Nat.zero_add] at *
  have e1 := ha.bracket (pl := pl) (m := m') (i := i + 1) x1 (has_eq h2 (by omega)) (at_eq x2 (by omega)) (by omega) (by omega)
  have e2 : (rd ws (m' + 1)).2 ⟨i,false,pl⟩ = (⟨k,p,[],0,[⟨4,p + 1,[],0,[a (p + 2)]⟩]⟩,⟨i + 1 + 1 + (A (p + 2)).length + 1,false,pl⟩) := by
    rcases hk with ⟨rfl,rfl⟩ | ⟨rfl,rfl⟩
    · exact factor_neg (ex := (rd ws m').1) (fa := (rd ws m').2) x0 (by omega) e1
    · exact factor_not (ex := (rd ws m').1) (fa := (rd ws m').2) x0 (by omega) e1
  rw [show i + 1 + 1 + (A (p + 2)).length + 1 = i + (1 + 1 + (A (p + 2)).length + 1) by omega] at e2
  show exprR ws (rd ws m').1 (rd ws (m' + 1)).2 ⟨i,false,pl⟩ = _
  exact expr_factor (x := ⟨4,sg,p⟩) x0 (fun _ => by rcases hk with ⟨rfl,_⟩ | ⟨rfl,_⟩ <;> simp) e2 hs
theorem XR.num (tx : List UInt8) : XR (fun p => [⟨3,tx,p⟩]) (fun p => ⟨0,p,[],digitsB tx,[]⟩) 1 := by
  intro ws i p pl m hw hl hs hm
  obtain ⟨m',rfl⟩ : ∃ m',m = m' + 1 := ⟨m - 1,by omega⟩
  obtain ⟨x0,_⟩ := hw.cons
  simp only [List.length_cons,List.length_nil,Nat.zero_add] at *
  exact expr_factor (x := ⟨3,tx,p⟩) x0 (fun h => by simp at h) (factor_num (ex := (rd ws m').1) (fa := (rd ws m').2) x0 hl) hs
theorem XR.var (nm : List UInt8) : XR (fun p => [⟨2,nm,p⟩]) (fun p => ⟨2,p,nm,0,[]⟩) 1 := by
  intro ws i p pl m hw hl hs hm
  obtain ⟨m',rfl⟩ : ∃ m',m = m' + 1 := ⟨m - 1,by omega⟩
  obtain ⟨x0,_⟩ := hw.cons
  simp only [List.length_cons,List.length_nil,Nat.zero_add] at *
  exact expr_factor (x := ⟨2,nm,p⟩) x0 (fun h => by simp at h) (factor_name (ex := (rd ws m').1) (fa := (rd ws m').2) x0 hl hs) hs
theorem XR.truth (b : Bool) : XR (fun p => [⟨4,if b then [116,114,117,101] else [102,97,108,115,101],p⟩]) (fun p => ⟨1,p,[],if b then 1 else 0,[]⟩) 1 := by
  intro ws i p pl m hw hl hs hm
  obtain ⟨m',rfl⟩ : ∃ m',m = m' + 1 := ⟨m - 1,by omega⟩
  obtain ⟨x0,_⟩ := hw.cons
  simp only [List.length_cons,List.length_nil,Nat.zero_add] at *
  exact expr_factor (x := ⟨4,_,p⟩) x0 (fun _ => by cases b <;> simp) (factor_true (ex := (rd ws m').1) (fa := (rd ws m').2) x0 hl) hs
theorem XR.ife {A B C : Nat → List Wd} {a b c : Nat → Ex} {D : Nat} (ha : XR A a D) (hb : XR B b D) (hc : XR C c D) (la lb : Nat) :
    XR (fun p => [⟨4,[105,102],p⟩] ++ A (p + 3) ++ [⟨4,[116,104,101,110],p + 3 + la + 1⟩] ++ B (p + 3 + la + 6) ++ [⟨4,[101,108,115,101],p + 3 + la + 6 + lb + 1⟩] ++ C (p + 3 + la + 6 + lb + 6))
      (fun p => ⟨5,p,[],0,[a (p + 3),b (p + 3 + la + 6),c (p + 3 + la + 6 + lb + 6)]⟩) (D + 2) := by
  intro ws i p pl m hw hl hs hm
  obtain ⟨m',rfl⟩ : ∃ m',m = m' + 1 := ⟨m - 1,by omega⟩
  obtain ⟨hw,h6⟩ := hw.append
  obtain ⟨hw,h5⟩ := hw.append
  obtain ⟨hw,h4⟩ := hw.append
  obtain ⟨hw,h3⟩ := hw.append
  obtain ⟨h1,h2⟩ := hw.append
  obtain ⟨x0,_⟩ := h1.cons
  obtain ⟨x1,_⟩ := h3.cons
  obtain ⟨x2,_⟩ := h5.cons
  simp only [List.length_append,List.length_cons,List.length_nil,Nat.zero_add] at *
  have y1 := at_eq (b := i + 1 + (A (p + 3)).length) x1 (by omega)
  have e1 := ha ws (i + 1) (p + 3) pl m' h2 (by omega) (stop_sign y1 (by decide)) (by omega)
  have y2 := at_eq (b := i + 1 + (A (p + 3)).length + 1 + (B (p + 3 + la + 6)).length) x2 (by omega)
  have e2 := hb ws (i + 1 + (A (p + 3)).length + 1) (p + 3 + la + 6) pl m' (has_eq h4 (by omega)) (by omega) (stop_sign y2 (by decide)) (by omega)
  have hk : i + 1 + (A (p + 3)).length + 1 + (B (p + 3 + la + 6)).length + 1 + (C (p + 3 + la + 6 + lb + 6)).length = i + (1 + (A (p + 3)).length + 1 + (B (p + 3 + la + 6)).length + 1 + (C (p + 3 + la + 6 + lb + 6)).length) := by omega
  have e3 := hc ws (i + 1 + (A (p + 3)).length + 1 + (B (p + 3 + la + 6)).length + 1) (p + 3 + la + 6 + lb + 6) pl m' (has_eq h6 (by omega)) (by omega) (by rw [hk]; exact hs) (by omega)
  rw [hk] at e3
  show exprR ws (rd ws m').1 (rd ws (m' + 1)).2 ⟨i,false,pl⟩ = _
  exact expr_if x0 (by omega) e1 y1 (by omega) e2 y2 (by omega) e3
theorem XR.lete {A B : Nat → List Wd} {a b : Nat → Ex} {D : Nat} (ha : XR A a D) (hb : XR B b D) (nm : List UInt8) (ln la : Nat) :
    XR (fun p => [⟨4,[108,101,116],p⟩,⟨2,nm,p + 4⟩,⟨4,[61],p + 4 + ln + 1⟩] ++ A (p + 4 + ln + 3) ++ [⟨4,[105,110],p + 4 + ln + 3 + la + 1⟩] ++ B (p + 4 + ln + 3 + la + 4))
      (fun p => ⟨6,p,nm,0,[a (p + 4 + ln + 3),b (p + 4 + ln + 3 + la + 4)]⟩) (D + 2) := by
  intro ws i p pl m hw hl hs hm
  obtain ⟨m',rfl⟩ : ∃ m',m = m' + 1 := ⟨m - 1,by omega⟩
  obtain ⟨hw,h4⟩ := hw.append
  obtain ⟨hw,h3⟩ := hw.append
  obtain ⟨h1,h2⟩ := hw.append
  obtain ⟨x0,h1⟩ := h1.cons
  obtain ⟨x1,h1⟩ := h1.cons
  obtain ⟨x2,_⟩ := h1.cons
  obtain ⟨x3,_⟩ := h3.cons
  simp only [List.length_append,List.length_cons,List.length_nil,Nat.zero_add] at *
  have y3 := at_eq (b := i + 3 + (A (p + 4 + ln + 3)).length) x3 (by omega)
  have e1 := ha ws (i + 3) (p + 4 + ln + 3) pl m' (has_eq h2 (by omega)) (by omega) (stop_sign y3 (by decide)) (by omega)
  have hk : i + 3 + (A (p + 4 + ln + 3)).length + 1 + (B (p + 4 + ln + 3 + la + 4)).length = i + (1 + 1 + 1 + (A (p + 4 + ln + 3)).length + 1 + (B (p + 4 + ln + 3 + la + 4)).length) := by omega
  have e2 := hb ws (i + 3 + (A (p + 4 + ln + 3)).length + 1) (p + 4 + ln + 3 + la + 4) pl m' (has_eq h4 (by omega)) (by omega) (by rw [hk]; exact hs) (by omega)
  rw [hk] at e2
  show exprR ws (rd ws m').1 (rd ws (m' + 1)).2 ⟨i,false,pl⟩ = _
  exact expr_let x0 x1 (at_eq x2 (by omega)) (by omega) e1 y3 (by omega) e2
end Go.Proofs.YtpmmjkiclngpmaaGreatDoor
namespace Go.Proofs.YtpmmjkiclngpmaaGreatDoor
open Go.RowKit
variable {ws : List Wd} {ex : PS → Ex × PS} {pl : Nat}
theorem skip_w {i : Nat} {t : List UInt8} {q : Nat} (h : ws[i]? = some ⟨4,t,q⟩) (hl : i + 1 < ws.length) : (⟨i,false,pl⟩ : PS).skipTo ws t = ⟨i + 1,false,pl⟩ := by
  unfold PS.skipTo; rw [isAt_w h,next_w hl]; simp
theorem noskip_w {i : Nat} {t : List UInt8} {x : Wd} (h : ws[i]? = some x) (hx : (x.kind == 4 && [t].contains x.text) = false) : (⟨i,false,pl⟩ : PS).skipTo ws t = ⟨i,false,pl⟩ := by
  unfold PS.skipTo; rw [isAt_w h,hx]; simp
theorem name_w {i : Nat} {t : List UInt8} {q : Nat} (h : ws[i]? = some ⟨2,t,q⟩) (hl : i + 1 < ws.length) : (⟨i,false,pl⟩ : PS).nameTo ws = ⟨i + 1,false,pl⟩ ∧ (⟨i,false,pl⟩ : PS).nameWd ws = ⟨2,t,q⟩ := by
  unfold PS.nameTo PS.nameWd; rw [cur_w h,next_w hl]; simp
theorem int_w {i : Nat} {q : Nat} (h : ws[i]? = some ⟨4,[105,110,116],q⟩) (hl : i + 1 < ws.length) : (⟨i,false,pl⟩ : PS).typTo ws = ⟨i + 1,false,pl⟩ ∧ (⟨i,false,pl⟩ : PS).typ ws = 1 := by
  unfold PS.typTo PS.typ; rw [isAt_w h,next_w hl]; simp
theorem bool_w {i : Nat} {q : Nat} (h : ws[i]? = some ⟨4,[98,111,111,108],q⟩) (hl : i + 1 < ws.length) : (⟨i,false,pl⟩ : PS).typTo ws = ⟨i + 1,false,pl⟩ ∧ (⟨i,false,pl⟩ : PS).typ ws = 2 := by
  unfold PS.typTo PS.typ; rw [isAt_w h,expect_w h hl]; simp
theorem prms_none {i n : Nat} {x : Wd} (h : ws[i]? = some x) (hx : (x.kind == 4 && [[44]].contains x.text) = false) : prmsN ws n ⟨i,false,pl⟩ = ([],⟨i,false,pl⟩) := by
  cases n with
  | zero => rfl
  | succ n => unfold prmsN; rw [isAt_w h,hx]; simp
theorem imps_none {i n : Nat} {x : Wd} (h : ws[i]? = some x) (hx : (x.kind == 4 && [[117,115,101]].contains x.text) = false) : impsN ws n ⟨i,false,pl⟩ = ([],⟨i,false,pl⟩) := by
  cases n with
  | zero => rfl
  | succ n => unfold impsN; rw [isAt_w h,hx]; simp
theorem funs_none {i n : Nat} {x : Wd} (h : ws[i]? = some x) (hx : (x.kind == 4 && [[112,117,98],[102,110]].contains x.text) = false) : funsN ws ex n ⟨i,false,pl⟩ = ([],⟨i,false,pl⟩) := by
  cases n with
  | zero => rfl
  | succ n => unfold funsN; rw [isAt_w h,hx]; simp
theorem fun_read {st : PS} {b ty q0 q1 q2 q3 q4 q5 q6 q7 q8 : Nat} {nm tx : List UInt8} {e : Ex} {la : PS} (hs : (st.skipTo ws [112,117,98]).expect ws [102,110] = ⟨b,false,pl⟩)
    (h0 : ws[b]? = some ⟨2,nm,q0⟩) (h1 : ws[b + 1]? = some ⟨4,[40],q1⟩) (h2 : ws[b + 2]? = some ⟨2,[107],q2⟩) (h3 : ws[b + 3]? = some ⟨4,[58],q3⟩) (h4 : ws[b + 4]? = some ⟨4,[105,110,116],q4⟩) (h5 : ws[b + 5]? = some ⟨4,[41],q5⟩)
    (h6 : ws[b + 6]? = some ⟨4,[58],q6⟩) (h7 : ws[b + 7]? = some ⟨4,tx,q7⟩) (h8 : ws[b + 8]? = some ⟨4,[61],q8⟩) (hty : tx = [105,110,116] ∧ ty = 1 ∨ tx = [98,111,111,108] ∧ ty = 2) (hl : b + 9 < ws.length) (he : ex ⟨b + 9,false,pl⟩ = (e,la)) :
    funR ws ex st = (⟨nm,q0,st.isAt ws [[112,117,98]],[⟨[107],q2,1⟩],ty,e⟩,la.expect ws [59]) := by
  have n0 := name_w (pl := pl) h0 (by omega)
  have n1 := expect_w (pl := pl) h1 (by omega)
  have n2 := name_w (pl := pl) h2 (by omega)
  have n3 := expect_w (pl := pl) h3 (by omega)
  have n4 := int_w (pl := pl) h4 (by omega)
  have n5 := expect_w (pl := pl) h5 (by omega)
  have n6 := expect_w (pl := pl) h6 (by omega)
  have n8 := expect_w (pl := pl) h8 (by omega)
  have n7 : (⟨b + 7,false,pl⟩ : PS).typTo ws = ⟨b + 8,false,pl⟩ ∧ (⟨b + 7,false,pl⟩ : PS).typ ws = ty := by
    rcases hty with ⟨rfl,rfl⟩ | ⟨rfl,rfl⟩
    · exact int_w h7 (by omega)
    · exact bool_w h7 (by omega)
  have p2 : (⟨b + 2,false,pl⟩ : PS).isAt ws [[41]] = false := by rw [isAt_w h2]; rfl
  have hp : prmsR ws ⟨b + 1,false,pl⟩ = ([⟨[107],q2,1⟩],⟨b + 6,false,pl⟩) := by
    unfold prmsR
    simp only [n1,p2,if_false,Bool.false_eq_true]
    have hpr : paramR ws ⟨b + 1 + 1,false,pl⟩ = (⟨[107],q2,1⟩,⟨b + 5,false,pl⟩) := by
      unfold paramR
      rw [show b + 1 + 1 = b + 2 from rfl,n2.1,n2.2,n3,n4.1,n4.2]
    rw [hpr]
    simp only
    rw [prms_none h5 (by rfl)]
    simp only
    rw [n5]
  unfold funR
  simp only [hs,n0.1,n0.2,hp,n6,n7.1,n7.2,n8,he]
theorem mod_read {st : PS} {L : Nat} {f : Fun} {x : Wd} {r0 r1 : Nat} {z : Wd} (hz : ws[0]? = some z) (hzu : (z.kind == 4 && [[117,115,101]].contains z.text) = false) (hzf : (z.kind == 4 && [[112,117,98],[102,110]].contains z.text) = true)
    (hf : funR ws ex ⟨0,false,0⟩ = (f,(⟨L,false,0⟩ : PS).expect ws [59])) (h0 : ws[L]? = some ⟨4,[59],r0⟩) (h1 : ws[L + 1]? = some ⟨0,[],r1⟩) :
    modR ws ex ⟨0,false,0⟩ = (⟨[],[f]⟩,⟨L + 1,false,0⟩) := by
  have hl : L + 1 < ws.length := (List.getElem?_eq_some_iff.1 h1).1
  have hi := imps_none (pl := 0) (n := ws.length) hz hzu
  have hn : funsN ws ex ws.length ⟨0,false,0⟩ = ([f],⟨L + 1,false,0⟩) := by
    obtain ⟨n,e⟩ : ∃ n,ws.length = n + 1 := ⟨ws.length - 1,by omega⟩
    rw [e]
    unfold funsN
    rw [isAt_w hz,hzf,if_pos rfl,hf,expect_w h0 hl]
    simp only
    rw [funs_none h1 (by rfl)]
  unfold modR
  rw [hi]
  simp only [hn]
  rw [cur_w h1]
  simp
theorem mod_cut {L : Nat} {f : Fun} {r1 : Nat} {z : Wd} (hz : ws[0]? = some z) (hzu : (z.kind == 4 && [[117,115,101]].contains z.text) = false) (hzf : (z.kind == 4 && [[112,117,98],[102,110]].contains z.text) = true)
    (hf : funR ws ex ⟨0,false,0⟩ = (f,(⟨L,false,0⟩ : PS).expect ws [59])) (h0 : ws[L]? = some ⟨0,[],r1⟩) (hl : ws.length = L + 1) :
    (modR ws ex ⟨0,false,0⟩).2.failed = true ∧ (modR ws ex ⟨0,false,0⟩).2.place = r1 := by
  have hi := imps_none (pl := 0) (n := ws.length) hz hzu
  have hx : (⟨L,false,0⟩ : PS).expect ws [59] = ⟨L,true,r1⟩ := by
    unfold PS.expect
    rw [isAt_w h0]
    simp only [show (((0 : Nat) == 4) && [[59]].contains ([] : List UInt8)) = false from rfl,if_false,Bool.false_eq_true]
    unfold PS.fail
    rw [cur_w h0,hl]
    simp
  have hn : funsN ws ex ws.length ⟨0,false,0⟩ = ([f],⟨L,true,r1⟩) := by
    rw [hl]
    unfold funsN
    rw [isAt_w hz,hzf,if_pos rfl,hf,hx]
    simp only
    cases L with
    | zero => rfl
    | succ n =>
      unfold funsN
      have : (⟨n + 1,true,r1⟩ : PS).isAt ws [[112,117,98],[102,110]] = false := by unfold PS.isAt PS.cur; rw [List.getD,h0]; rfl
      rw [this]; simp
  unfold modR
  rw [hi]
  simp only [hn]
  have : ((⟨L,true,r1⟩ : PS).cur ws).kind = 0 := by unfold PS.cur; rw [List.getD,h0]; rfl
  rw [if_pos this]
  exact ⟨rfl,rfl⟩
end Go.Proofs.YtpmmjkiclngpmaaGreatDoor
namespace Go.Proofs.YtpmmjkiclngpmaaGreatDoor
open Go.RowKit
def Kp (a b : PS) : Prop := a.failed = true → b.failed = true ∧ b.place = a.place
theorem Kp.refl (a : PS) : Kp a a := fun h => ⟨h,rfl⟩
theorem Kp.trans {a b c : PS} (h : Kp a b) (k : Kp b c) : Kp a c := fun x => ⟨(k (h x).1).1,(k (h x).1).2.trans (h x).2⟩
theorem Kp.ite {a b c : PS} {q : Prop} [Decidable q] (h : Kp a b) (k : Kp a c) : Kp a (if q then b else c) := by split <;> assumption
section
variable (ws : List Wd)
theorem kp_next (s : PS) : Kp s (s.next ws) := fun h => ⟨h,rfl⟩
theorem kp_fail (s : PS) : Kp s (s.fail ws) := fun h => ⟨rfl,by unfold PS.fail; simp [h]⟩
theorem kp_expect (s : PS) (t : List UInt8) : Kp s (s.expect ws t) := by unfold PS.expect; exact Kp.ite (kp_next ws s) (kp_fail ws s)
theorem kp_skip (s : PS) (t : List UInt8) : Kp s (s.skipTo ws t) := by unfold PS.skipTo; exact Kp.ite (kp_next ws s) (Kp.refl s)
theorem kp_name (s : PS) : Kp s (s.nameTo ws) := by unfold PS.nameTo; exact Kp.ite (kp_next ws s) (kp_fail ws s)
theorem kp_typ (s : PS) : Kp s (s.typTo ws) := by unfold PS.typTo; exact Kp.ite (kp_next ws s) (kp_expect ws s _)
end
def KF {α : Type} (R : PS → α × PS) : Prop := ∀ s,Kp s (R s).2
section
variable {ws : List Wd} {ex fa read : PS → Ex × PS}
theorem kf_pair (h : KF read) (l : Ex) : KF (pairR ws read l) := fun s => (kp_next ws s).trans (h _)
theorem kf_chainN (h : KF read) (sg : List (List UInt8)) : ∀ n l,KF (chainN ws read sg n l)
  | 0,l,s => Kp.refl s
  | n + 1,l,s => by
    unfold chainN
    split
    · exact (kf_pair h l s).trans (kf_chainN h sg n _ _)
    · exact Kp.refl s
theorem kf_chain (h : KF read) (sg : List (List UInt8)) : KF (chainR ws read sg) := fun s => (h s).trans (kf_chainN h sg _ _ _)
theorem kf_term (h : KF fa) : KF (termR ws fa) := kf_chain h _
theorem kf_sum (h : KF fa) : KF (sumR ws fa) := kf_chain (kf_term h) _
theorem kf_compare (h : KF fa) : KF (compareR ws fa) := fun s => by
  unfold compareR
  split
  · exact (kf_sum h s).trans (kf_pair (kf_sum h) _ _)
  · exact kf_sum h s
theorem kf_choice (h : KF ex) : KF (choiceR ws ex) := fun s => (((((kp_next ws s).trans (h _)).trans (kp_expect ws _ _)).trans (h _)).trans (kp_expect ws _ _)).trans (h _)
theorem kf_binding (h : KF ex) : KF (bindingR ws ex) := fun s => (((((kp_next ws s).trans (kp_name ws _)).trans (kp_expect ws _ _)).trans (h _)).trans (kp_expect ws _ _)).trans (h _)
theorem kf_expr (h : KF ex) (k : KF fa) : KF (exprR ws ex fa) := fun s => by
  unfold exprR
  split
  · exact kf_choice h s
  split
  · exact kf_binding h s
  · exact kf_compare k s
theorem kf_argsN (h : KF ex) : ∀ n,KF (argsN ws ex n)
  | 0,s => Kp.refl s
  | n + 1,s => by
    unfold argsN
    split
    · exact ((kp_next ws s).trans (h _)).trans (kf_argsN h n _)
    · exact Kp.refl s
theorem kf_args (h : KF ex) : KF (argsR ws ex) := fun s => by
  unfold argsR
  simp only
  split
  · exact (kp_expect ws s _).trans (kp_next ws _)
  · exact (((kp_expect ws s _).trans (h _)).trans (kf_argsN h _ _)).trans (kp_expect ws _ _)
theorem kf_named (h : KF ex) : KF (namedR ws ex) := fun s => by
  unfold namedR
  split
  · exact (kp_next ws s).trans (kf_args h _)
  · exact kp_next ws s
theorem kf_bracket (h : KF ex) : KF (bracketR ws ex) := fun s => ((kp_next ws s).trans (h _)).trans (kp_expect ws _ _)
theorem kf_sign (h : KF fa) (k : Nat) : KF (signR ws fa k) := fun s => (kp_next ws s).trans (h _)
theorem kf_factor (h : KF ex) (k : KF fa) : KF (factorR ws ex fa) := fun s => by
  unfold factorR
  split
  · exact kp_next ws s
  split
  · exact kf_named h s
  split
  · exact kp_next ws s
  split
  · exact kf_bracket h s
  split
  · exact kf_sign k 13 s
  split
  · exact kf_sign k 14 s
  · exact kp_fail ws s
theorem kf_rd : ∀ n,KF (rd ws n).1 ∧ KF (rd ws n).2
  | 0 => ⟨fun s => Kp.refl s,fun s => Kp.refl s⟩
  | n + 1 => ⟨kf_expr (kf_rd n).1 (kf_factor (kf_rd n).1 (kf_rd n).2),kf_factor (kf_rd n).1 (kf_rd n).2⟩
theorem kf_param : KF (paramR ws) := fun s => ((kp_name ws s).trans (kp_expect ws _ _)).trans (kp_typ ws _)
theorem kf_prmsN : ∀ n,KF (prmsN ws n)
  | 0,s => Kp.refl s
  | n + 1,s => by
    unfold prmsN
    split
    · exact ((kp_next ws s).trans (kf_param _)).trans (kf_prmsN n _)
    · exact Kp.refl s
theorem kf_prms : KF (prmsR ws) := fun s => by
  unfold prmsR
  simp only
  split
  · exact (kp_expect ws s _).trans (kp_next ws _)
  · exact (((kp_expect ws s _).trans (kf_param _)).trans (kf_prmsN _ _)).trans (kp_expect ws _ _)
theorem kf_fun (h : KF ex) : KF (funR ws ex) := fun s => ((((((((kp_skip ws s _).trans (kp_expect ws _ _)).trans (kp_name ws _)).trans (kf_prms _)).trans (kp_expect ws _ _)).trans (kp_typ ws _)).trans (kp_expect ws _ _)).trans (h _)).trans (kp_expect ws _ _)
theorem kf_funsN (h : KF ex) : ∀ n,KF (funsN ws ex n)
  | 0,s => Kp.refl s
  | n + 1,s => by
    unfold funsN
    split
    · exact (kf_fun h s).trans (kf_funsN h n _)
    · exact Kp.refl s
end
structure Bw (ws : List Wd) (j : Nat) (x : Wd) : Prop where
  at' : ws[j]? = some x
  bad : x.kind = 1
def Out (j : Nat) (x : Wd) (pl : Nat) (s : PS) : Prop := (s.failed = true ∧ s.place = x.place) ∨ s = ⟨j,false,pl⟩
section
variable {ws : List Wd} {j pl : Nat} {x : Wd}
theorem Out.kp {s t : PS} (h : s.failed = true ∧ s.place = x.place) (k : Kp s t) : Out j x pl t := Or.inl ⟨(k h.1).1,(k h.1).2.trans h.2⟩
theorem Bw.not (h : Bw ws j x) (l : List (List UInt8)) : (⟨j,false,pl⟩ : PS).isAt ws l = false := by
  rw [isAt_w h.at',h.bad]; rfl
theorem Bw.fail (h : Bw ws j x) : Out j x pl ((⟨j,false,pl⟩ : PS).fail ws) := Or.inl ⟨rfl,by unfold PS.fail; rw [cur_w h.at']; rfl⟩
theorem Bw.expect (h : Bw ws j x) {s : PS} (hs : Out j x pl s) (t : List UInt8) : (s.expect ws t).failed = true ∧ (s.expect ws t).place = x.place := by
  rcases hs with hs | rfl
  · have := kp_expect ws s t hs.1; exact ⟨this.1,this.2.trans hs.2⟩
  · unfold PS.expect
    rw [h.not]
    rcases h.fail (pl := pl) with a | a
    · simpa using a
    · exact absurd (congrArg PS.failed a) (by unfold PS.fail; simp)
end
end Go.Proofs.YtpmmjkiclngpmaaGreatDoor
namespace Go.Proofs.YtpmmjkiclngpmaaGreatDoor
open Go.RowKit
section
variable {ws : List Wd} {ex fa read : PS → Ex × PS} {j pl : Nat} {x : Wd}
theorem out_chainN (hB : Bw ws j x) (hk : KF read) (sg : List (List UInt8)) (n : Nat) (l : Ex) {s : PS} (hs : Out j x pl s) : Out j x pl (chainN ws read sg n l s).2 := by
  rcases hs with hs | rfl
  · exact Out.kp hs (kf_chainN hk sg n l s)
  · cases n with
    | zero => exact Or.inr rfl
    | succ n => unfold chainN; rw [hB.not]; exact Or.inr rfl
theorem out_chain (hB : Bw ws j x) (hk : KF read) (sg : List (List UInt8)) {s : PS} (h : Out j x pl (read s).2) : Out j x pl (chainR ws read sg s).2 := out_chainN hB hk sg _ _ h
theorem out_term (hB : Bw ws j x) (hk : KF fa) {s : PS} (h : Out j x pl (fa s).2) : Out j x pl (termR ws fa s).2 := out_chain hB hk _ h
theorem out_sum (hB : Bw ws j x) (hk : KF fa) {s : PS} (h : Out j x pl (termR ws fa s).2) : Out j x pl (sumR ws fa s).2 := out_chain hB (kf_term hk) _ h
theorem out_compare (hB : Bw ws j x) (hk : KF fa) {s : PS} (h : Out j x pl (sumR ws fa s).2) : Out j x pl (compareR ws fa s).2 := by
  unfold compareR
  rcases h with h | h
  · split
    · exact Out.kp h (kf_pair (kf_sum hk) _ _)
    · exact Or.inl h
  · rw [h,hB.not,if_neg (by simp)]; exact Or.inr h
theorem out_expr (hB : Bw ws j x) (hk : KF fa) {i : Nat} {y : Wd} (h : ws[i]? = some y) (hy : y.kind = 4 → y.text ≠ [105,102] ∧ y.text ≠ [108,101,116]) (hf : Out j x pl (fa ⟨i,false,pl⟩).2) : Out j x pl (exprR ws ex fa ⟨i,false,pl⟩).2 := by
  rw [expr_cmp h hy]
  exact out_compare hB hk (out_sum hB hk (out_term hB hk hf))
theorem chain_cut (hB : Bw ws j x) (hk : KF read) {sg : List (List UInt8)} {s : PS} {a : Ex} {i q : Nat} {t : List UInt8} (hr : read s = (a,⟨i,false,pl⟩)) (hi : ws[i]? = some ⟨4,t,q⟩) (ht : sg.contains t = true) (hl : i + 1 < ws.length) (hb : Out j x pl (read ⟨i + 1,false,pl⟩).2) : Out j x pl (chainR ws read sg s).2 := by
  unfold chainR
  rw [hr]
  simp only
  obtain ⟨n,e⟩ : ∃ n,ws.length = n + 1 := ⟨ws.length - 1,by omega⟩
  rw [e]
  unfold chainN
  rw [isAt_w hi,ht,if_pos (by rfl)]
  refine out_chainN hB hk sg n _ ?_
  unfold pairR
  rw [next_w (by omega)]
  exact hb
theorem out_two (hB : Bw ws j x) (hk : KF fa) {i k q : Nat} {y : Wd} {a : Ex} {t : List UInt8} (h : ws[i]? = some y) (hy : y.kind = 4 → y.text ≠ [105,102] ∧ y.text ≠ [108,101,116]) (ha : fa ⟨i,false,pl⟩ = (a,⟨k,false,pl⟩)) (hj : ws[k]? = some ⟨4,t,q⟩)
    (ht : t = [42] ∨ t = [47] ∨ t = [43] ∨ t = [45] ∨ t = [60] ∨ t = [61,61]) (hl : k + 1 < ws.length) (hb : Out j x pl (fa ⟨k + 1,false,pl⟩).2) : Out j x pl (exprR ws ex fa ⟨i,false,pl⟩).2 := by
  rw [expr_cmp h hy]
  have mul : t = [42] ∨ t = [47] → Out j x pl (compareR ws fa ⟨i,false,pl⟩).2 := fun h => out_compare hB hk (out_sum hB hk (chain_cut hB hk ha hj (by rcases h with rfl | rfl <;> rfl) hl hb))
  have sum : t = [43] ∨ t = [45] → Out j x pl (compareR ws fa ⟨i,false,pl⟩).2 := fun h => by
    have h1 : termR ws fa ⟨i,false,pl⟩ = (a,⟨k,false,pl⟩) := term_one ha (by rw [isAt_w hj]; rcases h with rfl | rfl <;> rfl)
    exact out_compare hB hk (chain_cut hB (kf_term hk) h1 hj (by rcases h with rfl | rfl <;> rfl) hl (out_term hB hk hb))
  have cmp : t = [60] ∨ t = [61,61] → Out j x pl (compareR ws fa ⟨i,false,pl⟩).2 := fun h => by
    have h1 : sumR ws fa ⟨i,false,pl⟩ = (a,⟨k,false,pl⟩) := sum_one (term_one ha (by rw [isAt_w hj]; rcases h with rfl | rfl <;> rfl)) (by rw [isAt_w hj]; rcases h with rfl | rfl <;> rfl)
    have h3 : (⟨k,false,pl⟩ : PS).isAt ws [[60],[61,61]] = true := by rw [isAt_w hj]; rcases h with rfl | rfl <;> rfl
    unfold compareR pairR
    rw [h1]
    simp only [h3,if_true,next_w hl]
    exact out_sum hB hk (out_term hB hk hb)
  rcases ht with h | h | h | h | h | h
  · exact mul (Or.inl h)
  · exact mul (Or.inr h)
  · exact sum (Or.inl h)
  · exact sum (Or.inr h)
  · exact cmp (Or.inl h)
  · exact cmp (Or.inr h)
theorem j_factor (hB : Bw ws j x) : Out j x pl (factorR ws ex fa ⟨j,false,pl⟩).2 := by
  unfold factorR
  rw [cur_w hB.at',hB.bad,if_neg (by omega),if_neg (by omega),hB.not,hB.not,hB.not,hB.not]
  simpa using hB.fail
theorem j_rd (hB : Bw ws j x) : ∀ n,Out j x pl ((rd ws n).1 ⟨j,false,pl⟩).2 ∧ Out j x pl ((rd ws n).2 ⟨j,false,pl⟩).2
  | 0 => ⟨Or.inr rfl,Or.inr rfl⟩
  | n + 1 => ⟨out_expr hB (kf_factor (kf_rd n).1 (kf_rd n).2) hB.at' (fun h => by rw [hB.bad] at h; omega) (j_factor hB),j_factor hB⟩
theorem Bw.stops (hB : Bw ws j x) : Stops ws j := ⟨x,hB.at',fun h => by rw [hB.bad] at h; omega⟩
theorem Bw.lt (hB : Bw ws j x) : j < ws.length := (List.getElem?_eq_some_iff.1 hB.at').1
end
def Beg (ws : List Wd) (i : Nat) (W : List Wd) (n : Nat) : Prop := ∀ k x,k < n → W[k]? = some x → ws[i + k]? = some x
theorem Beg.left {ws : List Wd} {i n : Nat} {A B : List Wd} (h : Beg ws i (A ++ B) n) (hn : n ≤ A.length) : Beg ws i A n := fun k x hk hx => h k x hk (by rw [List.getElem?_append_left (by omega)]; exact hx)
theorem Beg.has {ws : List Wd} {i n : Nat} {A B : List Wd} (h : Beg ws i (A ++ B) n) (hn : A.length ≤ n) : Has ws i A := fun k x hx => h k x (by have := (List.getElem?_eq_some_iff.1 hx).1; omega) (by rw [List.getElem?_append_left (List.getElem?_eq_some_iff.1 hx).1]; exact hx)
theorem Beg.right {ws : List Wd} {i n : Nat} {A B : List Wd} (h : Beg ws i (A ++ B) n) : Beg ws (i + A.length) B (n - A.length) := fun k x hk hx => by
  have := h (A.length + k) x (by omega) (by rw [List.getElem?_append_right (by omega),show A.length + k - A.length = k by omega]; exact hx)
  rwa [show i + (A.length + k) = i + A.length + k by omega] at this
def XO (W : Nat → List Wd) (D : Nat) : Prop :=
  ∀ (ws : List Wd) (i p pl m n : Nat) (x : Wd),Beg ws i (W p) n → n ≤ (W p).length → Bw ws (i + n) x → D ≤ m → Out (i + n) x pl ((rd ws m).1 ⟨i,false,pl⟩).2
theorem XO.of {W : Nat → List Wd} {t : Nat → Ex} {D : Nat} (h : XR W t D)
    (hc : ∀ (ws : List Wd) (i p pl m n : Nat) (x : Wd),Beg ws i (W p) n → 0 < n → n < (W p).length → Bw ws (i + n) x → D ≤ m → Out (i + n) x pl ((rd ws m).1 ⟨i,false,pl⟩).2) : XO W D := by
  intro ws i p pl m n x hb hn hB hm
  rcases Nat.eq_zero_or_pos n with h0 | h0
  · subst h0; exact (j_rd hB m).1
  by_cases hl : n < (W p).length
  · exact hc ws i p pl m n x hb h0 hl hB hm
  · have e : n = (W p).length := by omega
    subst e
    rw [h ws i p pl m (fun k y hy => hb k y (List.getElem?_eq_some_iff.1 hy).1 hy) hB.lt hB.stops hm]
    exact Or.inr rfl
theorem cut_bracket {A : Nat → List Wd} {D : Nat} (hx : XO A D) {ws : List Wd} {i p q pl m n : Nat} {x : Wd} (h0 : ws[i]? = some ⟨4,[40],q⟩) (hb : Beg ws (i + 1) (A p) n) (hn : n ≤ (A p).length) (hB : Bw ws (i + 1 + n) x) (hm : D + 1 ≤ m) :
    ((rd ws m).2 ⟨i,false,pl⟩).2.failed = true ∧ ((rd ws m).2 ⟨i,false,pl⟩).2.place = x.place := by
  obtain ⟨m',rfl⟩ : ∃ m',m = m' + 1 := ⟨m - 1,by omega⟩
  have hl := hB.lt
  show (factorR ws (rd ws m').1 (rd ws m').2 ⟨i,false,pl⟩).2.failed = true ∧ (factorR ws (rd ws m').1 (rd ws m').2 ⟨i,false,pl⟩).2.place = x.place
  unfold factorR
  rw [cur_w h0,isAt_w h0,isAt_w h0,if_neg (by simp),if_neg (by simp),if_neg (by simp),if_pos (by rfl)]
  unfold bracketR
  simp only [next_w (ws := ws) (pl := pl) (f := false) (show i + 1 < ws.length by omega)]
  exact hB.expect (hx ws (i + 1) p pl m' n x hb hn hB (by omega)) [41]
end Go.Proofs.YtpmmjkiclngpmaaGreatDoor
namespace Go.Proofs.YtpmmjkiclngpmaaGreatDoor
open Go.RowKit
theorem beg_eq {ws : List Wd} {a b n n' : Nat} {W : List Wd} (h : Beg ws a W n) (e : a = b) (f : n = n') : Beg ws b W n' := e ▸ f ▸ h
theorem bw_eq {ws : List Wd} {a b : Nat} {x : Wd} (h : Bw ws a x) (e : a = b) : Bw ws b x := e ▸ h
theorem out_eq {a b pl : Nat} {x : Wd} {s : PS} (h : Out a x pl s) (e : a = b) : Out b x pl s := e ▸ h
theorem XO.two {A B : Nat → List Wd} {a b : Nat → Ex} {D : Nat} (ra : XR A a D) (rb : XR B b D) (ha : XO A D) (hb : XO B D) (sg : List UInt8) (o1 o2 la lb : Nat)
    (hsg : sg = [42] ∨ sg = [47] ∨ sg = [43] ∨ sg = [45] ∨ sg = [60] ∨ sg = [61,61]) :
    XO (fun p => [⟨4,[40],p⟩] ++ A (p + 1) ++ [⟨4,[41],p + 1 + la⟩,⟨4,sg,p + 1 + la + o1⟩,⟨4,[40],p + 1 + la + o2⟩] ++ B (p + 1 + la + o2 + 1) ++ [⟨4,[41],p + 1 + la + o2 + 1 + lb⟩]) (D + 2) := by
  refine XO.of (XR.two ra rb sg o1 o2 la lb hsg) ?_
  intro ws i p pl m n x hw h0 hn hB hm
  obtain ⟨m',rfl⟩ : ∃ m',m = m' + 1 := ⟨m - 1,by omega⟩
  have hl := hB.lt
  have kf := (kf_rd (ws := ws) (m' + 1)).2
  simp only [List.length_append,List.length_cons,List.length_nil,Nat.zero_add] at hn
  have g1 := hw.left (by simp only [List.length_append,List.length_cons,List.length_nil]; omega)
  show Out (i + n) x pl (exprR ws (rd ws m').1 (rd ws (m' + 1)).2 ⟨i,false,pl⟩).2
  by_cases c1 : n ≤ (A (p + 1)).length + 1
  · have g2 := (g1.left (by simp only [List.length_append,List.length_cons,List.length_nil]; omega)).left (by simp only [List.length_append,List.length_cons,List.length_nil]; omega)
    obtain ⟨x0,_⟩ := (g2.has (by simp; omega)).cons
    have g3 := beg_eq g2.right rfl (show n - [(⟨4,[40],p⟩ : Wd)].length = n - 1 by simp)
    exact out_expr hB kf x0 (fun _ => by simp) (Or.inl (cut_bracket ha x0 g3 (by omega) (bw_eq hB (by omega)) (by omega)))
  have hSA : Has ws i ([⟨4,[40],p⟩] ++ A (p + 1)) := by
    refine (Beg.has (B := _) (Beg.left (B := B (p + 1 + la + o2 + 1)) (n := min n ((A (p + 1)).length + 4)) (fun k y hk hy => g1 k y (by omega) hy) (by simp; omega)) (by simp; omega))
  obtain ⟨x0',hA⟩ := hSA.append
  obtain ⟨x0,_⟩ := x0'.cons
  have gM : Beg ws (i + (1 + (A (p + 1)).length)) ([⟨4,[41],p + 1 + la⟩,⟨4,sg,p + 1 + la + o1⟩,⟨4,[40],p + 1 + la + o2⟩] ++ B (p + 1 + la + o2 + 1)) (n - (1 + (A (p + 1)).length)) := by
    have : Beg ws i (([⟨4,[40],p⟩] ++ A (p + 1)) ++ ([⟨4,[41],p + 1 + la⟩,⟨4,sg,p + 1 + la + o1⟩,⟨4,[40],p + 1 + la + o2⟩] ++ B (p + 1 + la + o2 + 1))) n := by rw [← List.append_assoc]; exact g1
    exact beg_eq this.right (by simp; omega) (by simp; omega)
  have x1 := gM 0 _ (by omega) rfl
  have e1 := ra.bracket (pl := pl) (m := m' + 1) x0 hA (at_eq x1 (by omega)) (by omega) (by omega)
  by_cases c2 : n = (A (p + 1)).length + 2
  · exact out_expr hB kf x0 (fun _ => by simp) (by rw [e1]; exact Or.inr (by simp; omega))
  have x2 := gM 1 _ (by omega) rfl
  refine out_two hB kf x0 (fun _ => by simp) e1 (at_eq x2 (by omega)) hsg (by omega) ?_
  by_cases c3 : n = (A (p + 1)).length + 3
  · have := (j_rd (pl := pl) hB (m' + 1)).2
    rw [show i + n = i + 1 + (A (p + 1)).length + 1 + 1 by omega] at this ⊢
    exact this
  have x3 := gM 2 _ (by omega) rfl
  have g4 := beg_eq gM.right (b := i + 1 + (A (p + 1)).length + 1 + 1 + 1) (by simp; omega) (show _ = n - ((A (p + 1)).length + 4) by simp; omega)
  exact Or.inl (cut_bracket hb (at_eq x3 (by omega)) g4 (by omega) (bw_eq hB (by omega)) (by omega))
theorem XO.per {A : Nat → List Wd} {a : Nat → Ex} {D : Nat} (ra : XR A a D) (ha : XO A D) (tx : List UInt8) (o1 o2 la : Nat) :
    XO (fun p => [⟨4,[40],p⟩] ++ A (p + 1) ++ [⟨4,[41],p + 1 + la⟩,⟨4,[47],p + 1 + la + o1⟩,⟨3,tx,p + 1 + la + o2⟩]) (D + 2) := by
  refine XO.of (XR.per ra tx o1 o2 la) ?_
  intro ws i p pl m n x hw h0 hn hB hm
  obtain ⟨m',rfl⟩ : ∃ m',m = m' + 1 := ⟨m - 1,by omega⟩
  have hl := hB.lt
  have kf := (kf_rd (ws := ws) (m' + 1)).2
  simp only [List.length_append,List.length_cons,List.length_nil,Nat.zero_add] at hn
  show Out (i + n) x pl (exprR ws (rd ws m').1 (rd ws (m' + 1)).2 ⟨i,false,pl⟩).2
  by_cases c1 : n ≤ (A (p + 1)).length + 1
  · have g2 := hw.left (by simp only [List.length_append,List.length_cons,List.length_nil]; omega)
    obtain ⟨x0,_⟩ := (g2.has (by simp; omega)).cons
    have g3 := beg_eq g2.right rfl (show n - [(⟨4,[40],p⟩ : Wd)].length = n - 1 by simp)
    exact out_expr hB kf x0 (fun _ => by simp) (Or.inl (cut_bracket ha x0 g3 (by omega) (bw_eq hB (by omega)) (by omega)))
  have hSA := hw.has (by simp; omega)
  obtain ⟨x0',hA⟩ := hSA.append
  obtain ⟨x0,_⟩ := x0'.cons
  have gM := beg_eq hw.right (b := i + (1 + (A (p + 1)).length)) (by simp; omega) (show _ = n - (1 + (A (p + 1)).length) by simp; omega)
  have x1 := gM 0 _ (by omega) rfl
  have e1 := ra.bracket (pl := pl) (m := m' + 1) x0 hA (at_eq x1 (by omega)) (by omega) (by omega)
  by_cases c2 : n = (A (p + 1)).length + 2
  · exact out_expr hB kf x0 (fun _ => by simp) (by rw [e1]; exact Or.inr (by simp; omega))
  have x2 := gM 1 _ (by omega) rfl
  refine out_two hB kf x0 (fun _ => by simp) e1 (at_eq x2 (by omega)) (Or.inr (Or.inl rfl)) (by omega) ?_
  have := (j_rd (pl := pl) hB (m' + 1)).2
  rw [show i + n = i + 1 + (A (p + 1)).length + 1 + 1 by omega] at this ⊢
  exact this
theorem XO.pre {A : Nat → List Wd} {a : Nat → Ex} {D : Nat} (ra : XR A a D) (ha : XO A D) (k : Nat) (sg : List UInt8) (hk : sg = [45] ∧ k = 13 ∨ sg = [33] ∧ k = 14) (la : Nat) :
    XO (fun p => [⟨4,sg,p⟩,⟨4,[40],p + 1⟩] ++ A (p + 2) ++ [⟨4,[41],p + 2 + la⟩]) (D + 2) := by
  refine XO.of (XR.pre ra k sg hk la) ?_
  intro ws i p pl m n x hw h0 hn hB hm
  obtain ⟨m',rfl⟩ : ∃ m',m = m' + 1 := ⟨m - 1,by omega⟩
  have hl := hB.lt
  have kf := (kf_rd (ws := ws) (m' + 1)).2
  simp only [List.length_append,List.length_cons,List.length_nil,Nat.zero_add] at hn
  show Out (i + n) x pl (exprR ws (rd ws m').1 (rd ws (m' + 1)).2 ⟨i,false,pl⟩).2
  have g1 := hw.left (by simp only [List.length_append,List.length_cons,List.length_nil]; omega)
  have x0 := g1 0 _ h0 rfl
  have hf : ((rd ws (m' + 1)).2 ⟨i,false,pl⟩).2 = ((rd ws m').2 ⟨i + 1,false,pl⟩).2 := by
    show (factorR ws (rd ws m').1 (rd ws m').2 ⟨i,false,pl⟩).2 = _
    have e := next_w (ws := ws) (pl := pl) (f := false) (show i + 0 + 1 < ws.length by omega)
    simp only [Nat.add_zero] at e x0
    unfold factorR signR
    rcases hk with ⟨rfl,_⟩ | ⟨rfl,_⟩
    · rw [cur_w x0,isAt_w x0,isAt_w x0,isAt_w x0,if_neg (by simp),if_neg (by simp),if_neg (by simp),if_neg (by simp),if_pos (by rfl),e]
    · rw [cur_w x0,isAt_w x0,isAt_w x0,isAt_w x0,isAt_w x0,if_neg (by simp),if_neg (by simp),if_neg (by simp),if_neg (by simp),if_neg (by simp),if_pos (by rfl),e]
  refine out_expr hB kf (at_eq x0 (Nat.add_zero _)) (fun _ => by rcases hk with ⟨rfl,_⟩ | ⟨rfl,_⟩ <;> simp) ?_
  rw [hf]
  by_cases c1 : n = 1
  · subst c1; exact (j_rd hB m').2
  have x1 := g1 1 _ (by omega) rfl
  have g2 := beg_eq g1.right (b := i + 1 + 1) (by simp) (show _ = n - 2 by simp)
  exact Or.inl (cut_bracket ha x1 g2 (by omega) (bw_eq hB (by omega)) (by omega))
theorem XO.one {W : Nat → List Wd} {t : Nat → Ex} {D : Nat} (h : XR W t D) (h1 : ∀ p,(W p).length = 1) : XO W D :=
  XO.of h fun ws i p pl m n x hb h0 hn hB hm => by have := h1 p; omega
theorem Bw.out_expect {ws : List Wd} {j pl : Nat} {x : Wd} (hB : Bw ws j x) {s : PS} (hs : Out j x pl s) (t : List UInt8) {R : PS → Ex × PS} (hk : KF R) : (R (s.expect ws t)).2.failed = true ∧ (R (s.expect ws t)).2.place = x.place := by
  have a := hB.expect hs t
  have b := hk (s.expect ws t) a.1
  exact ⟨b.1,b.2.trans a.2⟩
theorem XO.ife {A B C : Nat → List Wd} {a b c : Nat → Ex} {D : Nat} (ra : XR A a D) (rb : XR B b D) (rc : XR C c D) (ha : XO A D) (hb : XO B D) (hc : XO C D) (la lb : Nat) :
    XO (fun p => [⟨4,[105,102],p⟩] ++ A (p + 3) ++ [⟨4,[116,104,101,110],p + 3 + la + 1⟩] ++ B (p + 3 + la + 6) ++ [⟨4,[101,108,115,101],p + 3 + la + 6 + lb + 1⟩] ++ C (p + 3 + la + 6 + lb + 6)) (D + 2) := by
  refine XO.of (XR.ife ra rb rc la lb) ?_
  intro ws i p pl m n x hw h0 hn hB hm
  obtain ⟨m',rfl⟩ : ∃ m',m = m' + 1 := ⟨m - 1,by omega⟩
  have hl := hB.lt
  have kf := (kf_rd (ws := ws) m').1
  simp only [List.length_append,List.length_cons,List.length_nil,Nat.zero_add] at hn
  show Out (i + n) x pl (exprR ws (rd ws m').1 (rd ws (m' + 1)).2 ⟨i,false,pl⟩).2
  have hw' : Beg ws i ([⟨4,[105,102],p⟩] ++ (A (p + 3) ++ ([⟨4,[116,104,101,110],p + 3 + la + 1⟩] ++ (B (p + 3 + la + 6) ++ ([⟨4,[101,108,115,101],p + 3 + la + 6 + lb + 1⟩] ++ C (p + 3 + la + 6 + lb + 6)))))) n := by
    simpa only [List.append_assoc] using hw
  have x0 := at_eq (hw' 0 _ h0 rfl) (Nat.add_zero _)
  have g1 := beg_eq hw'.right (b := i + 1) (by simp) (show _ = n - 1 by simp)
  have hst : (exprR ws (rd ws m').1 (rd ws (m' + 1)).2 ⟨i,false,pl⟩).2 = ((rd ws m').1 (((rd ws m').1 (((rd ws m').1 ⟨i + 1,false,pl⟩).2.expect ws [116,104,101,110])).2.expect ws [101,108,115,101])).2 := by
    unfold exprR choiceR
    rw [isAt_w x0,if_pos (by rfl),next_w (by omega)]
  rw [hst]
  by_cases c1 : n ≤ (A (p + 3)).length + 1
  · have o := ha ws (i + 1) (p + 3) pl m' (n - 1) x (g1.left (by omega)) (by omega) (bw_eq hB (by omega)) (by omega)
    have o' := hB.out_expect (out_eq o (show i + 1 + (n - 1) = i + n by omega)) [116,104,101,110] kf
    exact Or.inl (hB.out_expect (pl := pl) (Or.inl o') [101,108,115,101] kf)
  have hA := g1.has (by omega)
  have g2 := beg_eq g1.right (b := i + 1 + (A (p + 3)).length) rfl (show _ = n - 1 - (A (p + 3)).length from rfl)
  have y1 := at_eq (g2 0 _ (by omega) rfl) (Nat.add_zero _)
  rw [ra ws (i + 1) (p + 3) pl m' hA (by omega) (stop_sign y1 (by decide)) (by omega)]
  simp only
  rw [expect_w y1 (by omega)]
  have g3 := beg_eq g2.right (b := i + 1 + (A (p + 3)).length + 1) (by simp) (show _ = n - 2 - (A (p + 3)).length by simp; omega)
  by_cases c2 : n ≤ (A (p + 3)).length + 2 + (B (p + 3 + la + 6)).length
  · have o := hb ws (i + 1 + (A (p + 3)).length + 1) (p + 3 + la + 6) pl m' (n - 2 - (A (p + 3)).length) x (g3.left (by omega)) (by omega) (bw_eq hB (by omega)) (by omega)
    exact Or.inl (hB.out_expect (out_eq o (show _ = i + n by omega)) [101,108,115,101] kf)
  have hBB := g3.has (by omega)
  have g4 := beg_eq g3.right (b := i + 1 + (A (p + 3)).length + 1 + (B (p + 3 + la + 6)).length) rfl rfl
  have y2 := at_eq (g4 0 _ (by omega) rfl) (Nat.add_zero _)
  rw [rb ws (i + 1 + (A (p + 3)).length + 1) (p + 3 + la + 6) pl m' hBB (by omega) (stop_sign y2 (by decide)) (by omega)]
  simp only
  rw [expect_w y2 (by omega)]
  have g5 := beg_eq g4.right (b := i + 1 + (A (p + 3)).length + 1 + (B (p + 3 + la + 6)).length + 1) (by simp) (show _ = n - 3 - (A (p + 3)).length - (B (p + 3 + la + 6)).length by simp; omega)
  exact out_eq (hc ws _ (p + 3 + la + 6 + lb + 6) pl m' _ x g5 (by omega) (bw_eq hB (by omega)) (by omega)) (by omega)
theorem XO.lete {A B : Nat → List Wd} {a b : Nat → Ex} {D : Nat} (ra : XR A a D) (rb : XR B b D) (ha : XO A D) (hb : XO B D) (nm : List UInt8) (ln la : Nat) :
    XO (fun p => [⟨4,[108,101,116],p⟩,⟨2,nm,p + 4⟩,⟨4,[61],p + 4 + ln + 1⟩] ++ A (p + 4 + ln + 3) ++ [⟨4,[105,110],p + 4 + ln + 3 + la + 1⟩] ++ B (p + 4 + ln + 3 + la + 4)) (D + 2) := by
  refine XO.of (XR.lete ra rb nm ln la) ?_
  intro ws i p pl m n x hw h0 hn hB hm
  obtain ⟨m',rfl⟩ : ∃ m',m = m' + 1 := ⟨m - 1,by omega⟩
  have hl := hB.lt
  have kf := (kf_rd (ws := ws) m').1
  simp only [List.length_append,List.length_cons,List.length_nil,Nat.zero_add] at hn
  show Out (i + n) x pl (exprR ws (rd ws m').1 (rd ws (m' + 1)).2 ⟨i,false,pl⟩).2
  have hw' : Beg ws i ([⟨4,[108,101,116],p⟩,⟨2,nm,p + 4⟩,⟨4,[61],p + 4 + ln + 1⟩] ++ (A (p + 4 + ln + 3) ++ ([⟨4,[105,110],p + 4 + ln + 3 + la + 1⟩] ++ B (p + 4 + ln + 3 + la + 4)))) n := by
    simpa only [List.append_assoc] using hw
  have x0 := at_eq (hw' 0 _ h0 rfl) (Nat.add_zero _)
  have hst : (exprR ws (rd ws m').1 (rd ws (m' + 1)).2 ⟨i,false,pl⟩).2 = ((rd ws m').1 (((rd ws m').1 (((⟨i + 1,false,pl⟩ : PS).nameTo ws).expect ws [61])).2.expect ws [105,110])).2 := by
    unfold exprR bindingR
    rw [isAt_w x0,isAt_w x0,if_neg (by simp),if_pos (by rfl),next_w (by omega)]
  rw [hst]
  have fin : ∀ s : PS,Out (i + n) x pl s → Out (i + n) x pl ((rd ws m').1 (((rd ws m').1 (s.expect ws [61])).2.expect ws [105,110])).2 := fun s hs =>
    Or.inl (hB.out_expect (pl := pl) (Or.inl (hB.out_expect hs [61] kf)) [105,110] kf)
  by_cases c1 : n = 1
  · refine fin _ ?_
    subst c1
    unfold PS.nameTo
    rw [cur_w hB.at',hB.bad,if_neg (by omega)]
    exact hB.fail
  have x1 := hw' 1 _ (by omega) rfl
  have hnm := (name_w (pl := pl) x1 (by omega)).1
  rw [hnm]
  by_cases c2 : n = 2
  · exact fin _ (by subst c2; exact Or.inr rfl)
  have x2 := hw' 2 _ (by omega) rfl
  rw [expect_w (ws := ws) (pl := pl) (i := i + 1 + 1) x2 (by omega)]
  have g1 := beg_eq hw'.right (b := i + 1 + 1 + 1) (by simp) (show _ = n - 3 by simp)
  by_cases c3 : n ≤ (A (p + 4 + ln + 3)).length + 3
  · have o := ha ws (i + 1 + 1 + 1) (p + 4 + ln + 3) pl m' (n - 3) x (g1.left (by omega)) (by omega) (bw_eq hB (by omega)) (by omega)
    exact Or.inl (hB.out_expect (out_eq o (show _ = i + n by omega)) [105,110] kf)
  have hA := g1.has (by omega)
  have g2 := beg_eq g1.right (b := i + 1 + 1 + 1 + (A (p + 4 + ln + 3)).length) rfl (show _ = n - 3 - (A (p + 4 + ln + 3)).length from rfl)
  have y1 := at_eq (g2 0 _ (by omega) rfl) (Nat.add_zero _)
  rw [ra ws (i + 1 + 1 + 1) (p + 4 + ln + 3) pl m' hA (by omega) (stop_sign y1 (by decide)) (by omega)]
  simp only
  rw [expect_w y1 (by omega)]
  have g3 := beg_eq g2.right (b := i + 1 + 1 + 1 + (A (p + 4 + ln + 3)).length + 1) (by simp) (show _ = n - 4 - (A (p + 4 + ln + 3)).length by simp; omega)
  exact out_eq (hb ws _ (p + 4 + ln + 3 + la + 4) pl m' _ x g3 (by omega) (bw_eq hB (by omega)) (by omega)) (by omega)
end Go.Proofs.YtpmmjkiclngpmaaGreatDoor
namespace Go.Proofs.YtpmmjkiclngpmaaGreatDoor
open Go.RowKit
theorem Lf.cast {s s' : List UInt8} {W W' : Nat → List Wd} (h : Lf s W) (e : s = s') (f : ∀ p,W p = W' p) : Lf s' W' := by
  subst e
  intro p r; rw [h p r,f p]
theorem Lx.cast {s s' : List UInt8} {W W' : Nat → List Wd} (h : Lx s W) (e : s = s') (f : ∀ p,W p = W' p) : Lx s' W' := by
  subst e
  intro p r hr; rw [h p r hr,f p]
theorem lf_bl : Lf [32] (fun _ => []) := Lf.blank (by decide)
theorem lf_40 : Lf [40] (fun p => [⟨4,[40],p⟩]) := Lf.sign (by decide) (by decide) (by decide) (by decide) (by decide)
theorem lf_41 : Lf [41] (fun p => [⟨4,[41],p⟩]) := Lf.sign (by decide) (by decide) (by decide) (by decide) (by decide)
theorem lf_43 : Lf [43] (fun p => [⟨4,[43],p⟩]) := Lf.sign (by decide) (by decide) (by decide) (by decide) (by decide)
theorem lf_45 : Lf [45] (fun p => [⟨4,[45],p⟩]) := Lf.sign (by decide) (by decide) (by decide) (by decide) (by decide)
theorem lf_42 : Lf [42] (fun p => [⟨4,[42],p⟩]) := Lf.sign (by decide) (by decide) (by decide) (by decide) (by decide)
theorem lf_47 : Lf [47] (fun p => [⟨4,[47],p⟩]) := Lf.sign (by decide) (by decide) (by decide) (by decide) (by decide)
theorem lf_33 : Lf [33] (fun p => [⟨4,[33],p⟩]) := Lf.sign (by decide) (by decide) (by decide) (by decide) (by decide)
theorem lf_60 : Lf [60] (fun p => [⟨4,[60],p⟩]) := Lf.sign (by decide) (by decide) (by decide) (by decide) (by decide)
theorem brk32 (r : List UInt8) : Brk (32 :: r) := fun c t e => by rw [List.cons.injEq] at e; rw [← e.1]; decide
theorem brk41 (r : List UInt8) : Brk (41 :: r) := fun c t e => by rw [List.cons.injEq] at e; rw [← e.1]; decide
theorem lf_plus : Lf [41,32,43,32,40] (fun q => [⟨4,[41],q⟩,⟨4,[43],q + 2⟩,⟨4,[40],q + 4⟩]) := ((((lf_41.append lf_bl).append lf_43).append lf_bl).append lf_40).cast rfl fun p => by simp
theorem lf_minus : Lf [41,32,45,32,40] (fun q => [⟨4,[41],q⟩,⟨4,[45],q + 2⟩,⟨4,[40],q + 4⟩]) := ((((lf_41.append lf_bl).append lf_45).append lf_bl).append lf_40).cast rfl fun p => by simp
theorem lf_times : Lf [41,42,40] (fun q => [⟨4,[41],q⟩,⟨4,[42],q + 1⟩,⟨4,[40],q + 2⟩]) := ((lf_41.append lf_42).append lf_40).cast rfl fun p => by simp
theorem lf_less : Lf [41,60,40] (fun q => [⟨4,[41],q⟩,⟨4,[60],q + 1⟩,⟨4,[40],q + 2⟩]) := ((lf_41.append lf_60).append lf_40).cast rfl fun p => by simp
theorem lf_same : Lf [41,32,61,61,32,40] (fun q => [⟨4,[41],q⟩,⟨4,[61,61],q + 2⟩,⟨4,[40],q + 5⟩]) := ((((lf_41.append lf_bl).append Lf.equal2).append lf_bl).append lf_40).cast rfl fun p => by simp
theorem lf_per : Lf [41,32,47,32] (fun q => [⟨4,[41],q⟩,⟨4,[47],q + 2⟩]) := (((lf_41.append lf_bl).append lf_47).append lf_bl).cast rfl fun p => by simp
theorem lf_neg : Lf [45,40] (fun q => [⟨4,[45],q⟩,⟨4,[40],q + 1⟩]) := (lf_45.append lf_40).cast rfl fun p => by simp
theorem lf_not : Lf [33,40] (fun q => [⟨4,[33],q⟩,⟨4,[40],q + 1⟩]) := (lf_33.append lf_40).cast rfl fun p => by simp
theorem lx_kw {c : UInt8} {n : List UInt8} (h1 : isBlankB (c.toNat : Int) = false) (h2 : isLetterB (c.toNat : Int) = true) (hn : ∀ x ∈ c :: n,isNameByteB (x.toNat : Int) = true) : Lf ((c :: n) ++ [32]) (fun p => [⟨nameKindB (c :: n),c :: n,p⟩]) :=
  ((Lx.name h1 h2 hn).appendF lf_bl (by simp) (brk32 [])).cast rfl fun p => by simp
theorem lf_let : Lf [108,101,116,32] (fun p => [⟨4,[108,101,116],p⟩]) := (lx_kw (c := 108) (n := [101,116]) (by decide) (by decide) (by decide)).cast rfl fun p => rfl
theorem lf_if : Lf [105,102,32] (fun p => [⟨4,[105,102],p⟩]) := (lx_kw (c := 105) (n := [102]) (by decide) (by decide) (by decide)).cast rfl fun p => rfl
theorem lf_in : Lf [32,105,110,32] (fun p => [⟨4,[105,110],p + 1⟩]) := (lf_bl.append (lx_kw (c := 105) (n := [110]) (by decide) (by decide) (by decide))).cast rfl fun p => rfl
theorem lf_then : Lf [32,116,104,101,110,32] (fun p => [⟨4,[116,104,101,110],p + 1⟩]) := (lf_bl.append (lx_kw (c := 116) (n := [104,101,110]) (by decide) (by decide) (by decide))).cast rfl fun p => rfl
theorem lf_else : Lf [32,101,108,115,101,32] (fun p => [⟨4,[101,108,115,101],p + 1⟩]) := (lf_bl.append (lx_kw (c := 101) (n := [108,115,101]) (by decide) (by decide) (by decide))).cast rfl fun p => rfl
theorem lf_eq : Lf [32,61,32] (fun p => [⟨4,[61],p + 1⟩]) := (lf_bl.append Lf.equal1).cast rfl fun p => rfl
def vNames : List (List UInt8) := [[107],[110],[120,49]]
theorem lx_var {n : List UInt8} (h : n ∈ vNames) : Lx n (fun p => [⟨2,n,p⟩]) := by
  unfold vNames at h
  simp only [List.mem_cons,List.not_mem_nil,or_false] at h
  rcases h with rfl | rfl | rfl
  · exact (Lx.name (c := 107) (n := []) (by decide) (by decide) (by decide)).cast rfl fun p => rfl
  · exact (Lx.name (c := 110) (n := []) (by decide) (by decide) (by decide)).cast rfl fun p => rfl
  · exact (Lx.name (c := 120) (n := [49]) (by decide) (by decide) (by decide)).cast rfl fun p => rfl
def numOk (n : Nat) : Bool := !(textB n).isEmpty && (textB n).all (fun c => isDigitB (c.toNat : Int)) && decide ((textB n).length ≤ 9) && digitsB (textB n) == n
theorem nums_ok : ∀ n,n < 1000 → numOk n = true := by decide +kernel
theorem lx_num {n : Nat} (h : n < 1000) : Lx (textB n) (fun p => [⟨3,textB n,p⟩]) ∧ digitsB (textB n) = n ∧ textB n ≠ [] := by
  have hk := nums_ok n h
  unfold numOk at hk
  simp only [Bool.and_eq_true,Bool.not_eq_true',List.all_eq_true,decide_eq_true_eq,beq_iff_eq] at hk
  obtain ⟨⟨⟨h1,h2⟩,h3⟩,h4⟩ := hk
  rcases ht : textB n with _ | ⟨c,r⟩
  · rw [ht] at h1; simp at h1
  · rw [ht] at h2 h3 h4
    have hd := h2 c (by simp)
    refine ⟨Lx.num ?_ ?_ h2 h3,h4,by simp⟩
    · unfold isDigitB at hd
      unfold isBlankB
      simp only [Bool.and_eq_true,decide_eq_true_eq] at hd
      simp only [Bool.or_eq_false_iff,beq_eq_false_iff_ne,ne_eq]
      omega
    · unfold isDigitB at hd
      unfold isLetterB
      simp only [Bool.and_eq_true,decide_eq_true_eq] at hd
      rw [Bool.and_eq_false_iff,decide_eq_false_iff_not,decide_eq_false_iff_not]
      omega
end Go.Proofs.YtpmmjkiclngpmaaGreatDoor
namespace Go.Proofs.YtpmmjkiclngpmaaGreatDoor
open Go.RowKit
abbrev scT (vs : List Kn) : List (List UInt8 × Nat) := vs.map fun k => (k.name,1)
abbrev scN (vs : List Kn) : List (List UInt8) := vs.map fun k => k.name
abbrev scV (vs : List Kn) : List Int := vs.map fun k => k.v
def I64 (v : Int) : Prop := -9223372036854775808 ≤ v ∧ v ≤ 9223372036854775807
theorem wrap_in (x : Int) : I64 (wrap64 x) := by unfold I64 wrap64; omega
structure TrP (vs : List Kn) (ty : Nat) (v : Int) (D : Nat) (e : Ex) : Prop where
  typ : ∀ (look : Look) (m : Nat) (st : KS),D ≤ m → st.scope = scT vs → tyN look m e st = (ty,st)
  val : ∀ (Fs : List PF) (n d : Nat) (cal : List UInt8 → Nat) (f : Nat),D ≤ n → ev Fs n d cal (scN vs) (scV vs) f e = (v,f,0)
theorem TrP.mono {vs : List Kn} {ty : Nat} {v : Int} {D D' : Nat} {e : Ex} (h : TrP vs ty v D e) (hd : D ≤ D') : TrP vs ty v D' e := ⟨fun look m st hm => h.typ look m st (by omega),fun Fs n d cal f hn => h.val Fs n d cal f (by omega)⟩
theorem allK_same {g : Ex → KS → Nat × KS} {want : Nat} {s : KS} : ∀ {l : List Ex},(∀ x ∈ l,g x s = (want,s)) → allK g want l s = s
  | [],_ => rfl
  | x :: r,h => by
    have h1 : mustK g want x s = s := by unfold mustK; rw [h x (by simp)]; simp [wrongT]
    show allK g want r (mustK g want x s) = s
    rw [h1]; exact allK_same fun y hy => h y (by simp [hy])
theorem TrP.bracket {vs : List Kn} {ty : Nat} {v : Int} {D : Nat} {e : Ex} (h : TrP vs ty v D e) (q : Nat) : TrP vs ty v (D + 1) ⟨4,q,[],0,[e]⟩ := by
  refine ⟨fun look m st hm hs => ?_,fun Fs n d cal f hn => ?_⟩
  · obtain ⟨m',rfl⟩ : ∃ m',m = m' + 1 := ⟨m - 1,by omega⟩
    have := h.typ look m' st (by omega) hs
    simpa [tyN] using this
  · obtain ⟨n',rfl⟩ : ∃ n',n = n' + 1 := ⟨n - 1,by omega⟩
    have := h.val Fs n' d cal f (by omega)
    simpa [ev] using this
theorem TrP.two {vs : List Kn} {va vb : Int} {D : Nat} {a b : Ex} (ha : TrP vs 1 va D a) (hb : TrP vs 1 vb D b) (k ty : Nat) (pl : Nat) (hk : 7 ≤ k ∧ k < 13) (hty : ty = if k = 7 ∨ k = 8 then 2 else 1) (h0 : k = 12 → vb ≠ 0) : TrP vs ty (bin2 k va vb) (D + 1) ⟨k,pl,[],0,[a,b]⟩ := by
  refine ⟨fun look m st hm hs => ?_,fun Fs n d cal f hn => ?_⟩
  · obtain ⟨m',rfl⟩ : ∃ m',m = m' + 1 := ⟨m - 1,by omega⟩
    have hall : allK (tyN look m') 1 [a,b] st = st := allK_same fun x hx => by
      simp only [List.mem_cons,List.not_mem_nil,or_false] at hx
      rcases hx with rfl | rfl
      · exact ha.typ look m' st (by omega) hs
      · exact hb.typ look m' st (by omega) hs
    unfold tyN
    simp only [show ¬ k = 1 by omega,show ¬ k = 2 by omega,show ¬ k = 3 by omega,show ¬ k = 4 by omega,show ¬ k = 5 by omega,show ¬ k = 6 by omega,show ¬ k = 14 by omega,if_false,hall]
    rw [hty]
    split <;> rfl
  · obtain ⟨n',rfl⟩ : ∃ n',n = n' + 1 := ⟨n - 1,by omega⟩
    have e1 := ha.val Fs n' d cal f (by omega)
    have e2 := hb.val Fs n' d cal f (by omega)
    have hev : evs (ev Fs n' d cal (scN vs) (scV vs)) f [a,b] = ([va,vb],f,0) := by simp [evs,e1,e2]
    unfold ev
    simp only [show ¬ (k = 0 ∨ k = 1) by omega,show ¬ k = 2 by omega,show ¬ k = 3 by omega,show ¬ k = 4 by omega,show ¬ k = 5 by omega,show ¬ k = 6 by omega,if_false,hev,if_true]
    have hz : ¬ (k = 12 ∧ vb = 0) := fun h => h0 h.1 h.2
    simp only [opv,if_pos hk,if_neg hz]
theorem TrP.pre {vs : List Kn} {va : Int} {D : Nat} {a : Ex} (k ty : Nat) (pl : Nat) (hk : k = 13 ∧ ty = 1 ∨ k = 14 ∧ ty = 2) (ha : TrP vs ty va D a) : TrP vs ty (un1 k va) (D + 1) ⟨k,pl,[],0,[a]⟩ := by
  refine ⟨fun look m st hm hs => ?_,fun Fs n d cal f hn => ?_⟩
  · obtain ⟨m',rfl⟩ : ∃ m',m = m' + 1 := ⟨m - 1,by omega⟩
    have hall : allK (tyN look m') ty [a] st = st := allK_same fun x hx => by
      simp only [List.mem_cons,List.not_mem_nil,or_false] at hx
      subst hx
      exact ha.typ look m' st (by omega) hs
    unfold tyN
    rcases hk with ⟨rfl,rfl⟩ | ⟨rfl,rfl⟩ <;> simp [hall]
  · obtain ⟨n',rfl⟩ : ∃ n',n = n' + 1 := ⟨n - 1,by omega⟩
    have e1 := ha.val Fs n' d cal f (by omega)
    have hev : evs (ev Fs n' d cal (scN vs) (scV vs)) f [a] = ([va],f,0) := by simp [evs,e1]
    unfold ev
    rcases hk with ⟨rfl,rfl⟩ | ⟨rfl,rfl⟩ <;> simp [hev,opv]
theorem TrP.ife {vs : List Kn} {b : Bool} {vx vy : Int} {D : Nat} {t x y : Ex} (ht : TrP vs 2 (b2i b) D t) (hx : TrP vs 1 vx D x) (hy : TrP vs 1 vy D y) (pl : Nat) : TrP vs 1 (if b then vx else vy) (D + 1) ⟨5,pl,[],0,[t,x,y]⟩ := by
  refine ⟨fun look m st hm hs => ?_,fun Fs n d cal f hn => ?_⟩
  · obtain ⟨m',rfl⟩ : ∃ m',m = m' + 1 := ⟨m - 1,by omega⟩
    have e1 : mustK (tyN look m') 2 t st = st := by unfold mustK; rw [ht.typ look m' st (by omega) hs]; simp [wrongT]
    have e2 := hx.typ look m' st (by omega) hs
    have e3 : mustK (tyN look m') 1 y st = st := by unfold mustK; rw [hy.typ look m' st (by omega) hs]; simp [wrongT]
    unfold tyN
    simp [ifK,e1,e2,e3]
  · obtain ⟨n',rfl⟩ : ∃ n',n = n' + 1 := ⟨n - 1,by omega⟩
    have e1 := ht.val Fs n' d cal f (by omega)
    have e2 := hx.val Fs n' d cal f (by omega)
    have e3 := hy.val Fs n' d cal f (by omega)
    unfold ev
    cases b <;> simp [e1,e2,e3,b2i]
theorem TrP.lete {vs : List Kn} {nm : List UInt8} {va vb : Int} {D : Nat} {a b : Ex} (ha : TrP vs 1 va D a) (hb : TrP (vs ++ [⟨nm,va⟩]) 1 vb D b) (pl : Nat) : TrP vs 1 vb (D + 1) ⟨6,pl,nm,0,[a,b]⟩ := by
  refine ⟨fun look m st hm hs => ?_,fun Fs n d cal f hn => ?_⟩
  · obtain ⟨m',rfl⟩ : ∃ m',m = m' + 1 := ⟨m - 1,by omega⟩
    have e1 := ha.typ look m' st (by omega) hs
    have e2 := hb.typ look m' { st with scope := st.scope ++ [(nm,1)] } (by omega) (by show st.scope ++ [(nm,1)] = _; rw [hs]; simp [scT])
    unfold tyN
    simp only [show ¬ (6 : Nat) = 1 by omega,show ¬ (6 : Nat) = 2 by omega,show ¬ (6 : Nat) = 3 by omega,show ¬ (6 : Nat) = 4 by omega,show ¬ (6 : Nat) = 5 by omega,if_false,if_true,letK,e1,e2]
    congr 1
    cases st
    simp
  · obtain ⟨n',rfl⟩ : ∃ n',n = n' + 1 := ⟨n - 1,by omega⟩
    have e1 := ha.val Fs n' d cal f (by omega)
    have e2 := hb.val Fs n' d cal f (by omega)
    have s1 : scN (vs ++ [⟨nm,va⟩]) = scN vs ++ [nm] := by simp [scN]
    have s2 : scV (vs ++ [⟨nm,va⟩]) = scV vs ++ [va] := by simp [scV]
    rw [s1,s2] at e2
    unfold ev
    simp only [show ¬ ((6 : Nat) = 0 ∨ (6 : Nat) = 1) by omega,show ¬ (6 : Nat) = 2 by omega,show ¬ (6 : Nat) = 4 by omega,show ¬ (6 : Nat) = 5 by omega,if_false,if_true,e1,e2]
theorem TrP.num (vs : List Kn) (n pl : Nat) : TrP vs 1 n 1 ⟨0,pl,[],n,[]⟩ := by
  refine ⟨fun look m st hm hs => ?_,fun Fs k d cal f hn => ?_⟩
  · obtain ⟨m',rfl⟩ : ∃ m',m = m' + 1 := ⟨m - 1,by omega⟩
    unfold tyN
    simp [allK]
  · obtain ⟨n',rfl⟩ : ∃ n',k = n' + 1 := ⟨k - 1,by omega⟩
    unfold ev
    simp
theorem TrP.truth (vs : List Kn) (b : Bool) (pl : Nat) : TrP vs 2 (b2i b) 1 ⟨1,pl,[],if b then 1 else 0,[]⟩ := by
  refine ⟨fun look m st hm hs => ?_,fun Fs k d cal f hn => ?_⟩
  · obtain ⟨m',rfl⟩ : ∃ m',m = m' + 1 := ⟨m - 1,by omega⟩
    unfold tyN
    simp
  · obtain ⟨n',rfl⟩ : ∃ n',k = n' + 1 := ⟨k - 1,by omega⟩
    unfold ev
    simp [b2i]
theorem findV_ones {nm : List UInt8} : ∀ {l : List (List UInt8 × Nat)},(∀ x ∈ l,x.2 = 1) → nm ∈ l.map Prod.fst → findV nm l = some 1
  | [],_,h => by cases h
  | x :: r,h1,h => by
    unfold findV
    split
    · rw [h1 x (by simp)]
    · next hne =>
      rcases List.mem_cons.1 h with e | e
      · exact absurd e.symm hne
      · exact findV_ones (fun y hy => h1 y (by simp [hy])) e
theorem lastOf_snocR (k : Kn) : ∀ (l : List Kn) (x : Kn),lastOf k (l ++ [x]) = if x.name == (lastOf k l).name then x else lastOf k l := by
  intro l
  induction l generalizing k with
  | nil => intro x; rfl
  | cons y r ih => intro x; exact ih _ x
theorem lastOf_name (k : Kn) : ∀ (l : List Kn),(lastOf k l).name = k.name := by
  intro l
  induction l generalizing k with
  | nil => rfl
  | cons y r ih =>
    show (lastOf (if y.name == k.name then y else k) r).name = _
    rw [ih]
    split
    · next h => simpa using h
    · rfl
theorem slotI_snoc (l : List (List UInt8)) (y n : List UInt8) : slotI (l ++ [y]) n = if 0 < l.length ∧ y ≠ n then slotI l n else l.length := by
  unfold slotI
  rw [List.reverse_append]
  show (if 0 < l.reverse.length ∧ y ≠ n then slotR n l.reverse else (l.reverse.length : Int)) = _
  rw [List.length_reverse]
theorem slot_last : ∀ (m : Nat) (vs : List Kn),vs.length = m → ∀ k,k.name ∈ scN vs → 0 ≤ slotI (scN vs) k.name ∧ (scV vs)[(slotI (scN vs) k.name).toNat]? = some (lastOf k vs).v := by
  intro m
  induction m with
  | zero => intro vs hl k h; rw [List.eq_nil_of_length_eq_zero hl] at h; cases h
  | succ m ih =>
    intro vs hl k h
    obtain ⟨l,x,rfl⟩ : ∃ l x,vs = l ++ [x] := ⟨vs.dropLast,vs.getLast (by intro e; rw [e] at hl; simp at hl),(List.dropLast_concat_getLast _).symm⟩
    have s1 : scN (l ++ [x]) = scN l ++ [x.name] := by simp [scN]
    have s2 : scV (l ++ [x]) = scV l ++ [x.v] := by simp [scV]
    have hll : (scN l).length = l.length := by simp [scN]
    have hlv : (scV l).length = l.length := by simp [scV]
    rw [s1] at h
    rw [s1,s2,slotI_snoc,lastOf_snocR,lastOf_name]
    by_cases e : x.name = k.name
    · rw [if_neg (by simp [e]),if_pos (by simpa using e),hll]
      refine ⟨by omega,?_⟩
      rw [Int.toNat_natCast,List.getElem?_append_right (by omega),hlv]
      simp
    · have h' : k.name ∈ scN l := by
        rcases List.mem_append.1 h with h | h
        · exact h
        · have h2 : k.name = x.name := by simpa using h
          exact absurd h2.symm e
      have hpos : 0 < (scN l).length := List.length_pos_of_mem h'
      obtain ⟨a,b⟩ := ih l (by simpa using hl) k h'
      rw [if_pos ⟨hpos,e⟩,if_neg (by simpa using e)]
      refine ⟨a,?_⟩
      rw [List.getElem?_append_left (List.getElem?_eq_some_iff.1 b).1]
      exact b
theorem TrP.var (vs : List Kn) (k : Kn) (hk : k.name ∈ scN vs) (pl : Nat) : TrP vs 1 (lastOf k vs).v 1 ⟨2,pl,k.name,0,[]⟩ := by
  refine ⟨fun look m st hm hs => ?_,fun Fs n d cal f hn => ?_⟩
  · obtain ⟨m',rfl⟩ : ∃ m',m = m' + 1 := ⟨m - 1,by omega⟩
    have hf : findV k.name st.scope.reverse = some 1 := by
      rw [hs]
      refine findV_ones (fun x hx => ?_) ?_
      · rw [List.mem_reverse] at hx
        obtain ⟨y,_,rfl⟩ := List.mem_map.1 hx
        rfl
      · rw [List.map_reverse,List.mem_reverse,List.map_map]
        exact hk
    unfold tyN
    simp [varK,hf]
  · obtain ⟨n',rfl⟩ : ∃ n',n = n' + 1 := ⟨n - 1,by omega⟩
    obtain ⟨a,b⟩ := slot_last _ vs rfl k hk
    unfold ev
    simp [a,b]
structure NumP (vs : List Kn) (s : List UInt8) (ty : Nat) (v : Int) (D : Nat) (W : Nat → List Wd) (t : Nat → Ex) : Prop where
  lx : Lx s W
  rd : XR W t D
  tr : ∀ p,TrP vs ty v D (t p)
  ct : XO W D
  at' : ∀ p,(t p).place = p
theorem XO.mono {W : Nat → List Wd} {D D' : Nat} (h : XO W D) (hd : D ≤ D') : XO W D' := fun ws i p pl m n x h1 h2 h3 h4 => h ws i p pl m n x h1 h2 h3 (by omega)
theorem XR.mono {W : Nat → List Wd} {t : Nat → Ex} {D D' : Nat} (h : XR W t D) (hd : D ≤ D') : XR W t D' := fun ws i p pl m h1 h2 h3 h4 => h ws i p pl m h1 h2 h3 (by omega)
theorem NumP.mono {vs : List Kn} {s : List UInt8} {ty : Nat} {v : Int} {D D' : Nat} {W : Nat → List Wd} {t : Nat → Ex} (h : NumP vs s ty v D W t) (hd : D ≤ D') : NumP vs s ty v D' W t := ⟨h.lx,h.rd.mono hd,fun p => (h.tr p).mono hd,h.ct.mono hd,h.at'⟩
def Mades (vs : List Kn) (s : List UInt8) (ty : Nat) (v : Int) (D : Nat) : Prop := ∃ W t,NumP vs s ty v D W t
theorem Mades.mono {vs : List Kn} {s : List UInt8} {ty : Nat} {v : Int} {D D' : Nat} (h : Mades vs s ty v D) (hd : D ≤ D') : Mades vs s ty v D' := by
  obtain ⟨W,t,h⟩ := h; exact ⟨W,t,h.mono hd⟩
theorem Mades.two {vs : List Kn} {a b : List UInt8} {va vb : Int} {D : Nat} (ha : Mades vs a 1 va D) (hb : Mades vs b 1 vb D) (sg mid : List UInt8) (o1 o2 k ty : Nat) (hm : Lf mid (fun q => [⟨4,[41],q⟩,⟨4,sg,q + o1⟩,⟨4,[40],q + o2⟩])) (hml : mid.length = o2 + 1) (hm0 : ∃ r,mid = 41 :: r)
    (hsg : sg = [42] ∨ sg = [47] ∨ sg = [43] ∨ sg = [45] ∨ sg = [60] ∨ sg = [61,61]) (hk : pairKindB sg = k) (hk2 : 7 ≤ k ∧ k < 12) (hty : ty = if k = 7 ∨ k = 8 then 2 else 1) :
    Mades vs ([40] ++ a ++ mid ++ b ++ [41]) ty (bin2 k va vb) (D + 2) := by
  obtain ⟨A,ta,ha⟩ := ha
  obtain ⟨B,tb,hb⟩ := hb
  obtain ⟨r,rfl⟩ := hm0
  refine ⟨_,_,?_,ha.rd.two hb.rd sg o1 o2 a.length b.length hsg,fun p => ?_,XO.two ha.rd hb.rd ha.ct hb.ct sg o1 o2 a.length b.length hsg,fun p => rfl⟩
  · have h1 := ((lf_40.appendX ha.lx).appendF hm (by simp) (brk41 _)).appendX hb.lx
    have h2 := (h1.appendF lf_41 (by simp) (brk41 [])).lx
    refine h2.cast rfl fun p => ?_
    have e2 : p + ([40] ++ a).length = p + 1 + a.length := by simp; omega
    have e3 : p + ([40] ++ a ++ 41 :: r).length = p + 1 + a.length + o2 + 1 := by simp at hml ⊢; omega
    have e4 : p + ([40] ++ a ++ 41 :: r ++ b).length = p + 1 + a.length + o2 + 1 + b.length := by simp at hml ⊢; omega
    simp only [e2,e3,e4]
    rfl
  · have := TrP.two ((ha.tr (p + 1)).bracket p) ((hb.tr (p + 1 + a.length + o2 + 1)).bracket (p + 1 + a.length + o2)) k ty p ⟨hk2.1,by omega⟩ hty (by omega)
    rw [hk]
    exact this
theorem Mades.per {vs : List Kn} {a : List UInt8} {va : Int} {D : Nat} (ha : Mades vs a 1 va D) (hD : 1 ≤ D) (n : Nat) (hn : n < 1000) (h0 : n ≠ 0) : Mades vs ([40] ++ a ++ [41,32,47,32] ++ textB n) 1 (bin2 12 va n) (D + 2) := by
  obtain ⟨A,ta,ha⟩ := ha
  obtain ⟨h1,h2,h3⟩ := lx_num hn
  refine ⟨_,_,?_,ha.rd.per (textB n) 2 4 a.length,fun p => ?_,XO.per ha.rd ha.ct (textB n) 2 4 a.length,fun p => rfl⟩
  · have g1 := ((lf_40.appendX ha.lx).appendF lf_per (by simp) (brk41 _)).appendX h1
    refine g1.cast rfl fun p => ?_
    have e2 : p + ([40] ++ a).length = p + 1 + a.length := by simp; omega
    have e3 : p + ([40] ++ a ++ [41,32,47,32]).length = p + 1 + a.length + 4 := by simp; omega
    simp only [e2,e3]
    simp only [List.append_assoc]
    rfl
  · rw [h2]
    exact TrP.two ((ha.tr (p + 1)).bracket p) ((TrP.num vs n (p + 1 + a.length + 4)).mono (by omega)) 12 1 p (by omega) (by simp) (fun _ => by omega)
theorem Mades.pre {vs : List Kn} {a : List UInt8} {va : Int} {D : Nat} (k ty : Nat) (sg : UInt8) (hk : k = 13 ∧ ty = 1 ∧ sg = 45 ∨ k = 14 ∧ ty = 2 ∧ sg = 33) (ha : Mades vs a ty va D) : Mades vs ([sg,40] ++ a ++ [41]) ty (un1 k va) (D + 2) := by
  obtain ⟨A,ta,ha⟩ := ha
  refine ⟨_,_,?_,ha.rd.pre k [sg] (by rcases hk with ⟨rfl,rfl,rfl⟩ | ⟨rfl,rfl,rfl⟩ <;> simp) a.length,fun p => ?_,XO.pre ha.rd ha.ct k [sg] (by rcases hk with ⟨rfl,rfl,rfl⟩ | ⟨rfl,rfl,rfl⟩ <;> simp) a.length,fun p => rfl⟩
  · have hl : Lf [sg,40] (fun q => [⟨4,[sg],q⟩,⟨4,[40],q + 1⟩]) := by
      rcases hk with ⟨rfl,rfl,rfl⟩ | ⟨rfl,rfl,rfl⟩
      · exact lf_neg
      · exact lf_not
    have g1 := ((hl.appendX ha.lx).appendF lf_41 (by simp) (brk41 [])).lx
    refine g1.cast rfl fun p => ?_
    have e2 : p + ([sg,40] ++ a).length = p + 2 + a.length := by simp; omega
    simp only [e2]
    rfl
  · exact TrP.pre k ty p (by rcases hk with ⟨rfl,rfl,rfl⟩ | ⟨rfl,rfl,rfl⟩ <;> simp) ((ha.tr (p + 2)).bracket (p + 1))
theorem Mades.ife {vs : List Kn} {t a b : List UInt8} {c : Bool} {va vb : Int} {D : Nat} (ht : Mades vs t 2 (b2i c) D) (ha : Mades vs a 1 va D) (hb : Mades vs b 1 vb D) :
    Mades vs ([105,102,32] ++ t ++ [32,116,104,101,110,32] ++ a ++ [32,101,108,115,101,32] ++ b) 1 (if c then va else vb) (D + 2) := by
  obtain ⟨Tw,tt,ht⟩ := ht
  obtain ⟨A,ta,ha⟩ := ha
  obtain ⟨B,tb,hb⟩ := hb
  refine ⟨_,_,?_,ht.rd.ife ha.rd hb.rd t.length a.length,fun p => ?_,XO.ife ht.rd ha.rd hb.rd ht.ct ha.ct hb.ct t.length a.length,fun p => rfl⟩
  · have g1 := (lf_if.appendX ht.lx).appendF lf_then (by simp) (brk32 _)
    have g2 := (g1.appendX ha.lx).appendF lf_else (by simp) (brk32 _)
    have g3 := g2.appendX hb.lx
    refine g3.cast rfl fun p => ?_
    have e1 : p + ([105,102,32] : List UInt8).length = p + 3 := rfl
    have e2 : p + ([105,102,32] ++ t).length = p + 3 + t.length := by simp; omega
    have e3 : p + ([105,102,32] ++ t ++ [32,116,104,101,110,32]).length = p + 3 + t.length + 6 := by simp; omega
    have e4 : p + ([105,102,32] ++ t ++ [32,116,104,101,110,32] ++ a).length = p + 3 + t.length + 6 + a.length := by simp; omega
    have e5 : p + ([105,102,32] ++ t ++ [32,116,104,101,110,32] ++ a ++ [32,101,108,115,101,32]).length = p + 3 + t.length + 6 + a.length + 6 := by simp; omega
    simp only [e1,e2,e3,e4,e5]
  · exact ((ht.tr (p + 3)).ife (ha.tr (p + 3 + t.length + 6)) (hb.tr (p + 3 + t.length + 6 + a.length + 6)) p).mono (by omega)
theorem Mades.lete {vs : List Kn} {nm a b : List UInt8} {va vb : Int} {D : Nat} (hn : nm ∈ vNames) (ha : Mades vs a 1 va D) (hb : Mades (vs ++ [⟨nm,va⟩]) b 1 vb D) :
    Mades vs ([108,101,116,32] ++ nm ++ [32,61,32] ++ a ++ [32,105,110,32] ++ b) 1 vb (D + 2) := by
  obtain ⟨A,ta,ha⟩ := ha
  obtain ⟨B,tb,hb⟩ := hb
  refine ⟨_,_,?_,ha.rd.lete hb.rd nm nm.length a.length,fun p => ?_,XO.lete ha.rd hb.rd ha.ct hb.ct nm nm.length a.length,fun p => rfl⟩
  · have g1 := (lf_let.appendX (lx_var hn)).appendF lf_eq (by simp) (brk32 _)
    have g2 := (g1.appendX ha.lx).appendF lf_in (by simp) (brk32 _)
    have g3 := g2.appendX hb.lx
    refine g3.cast rfl fun p => ?_
    have e1 : p + ([108,101,116,32] : List UInt8).length = p + 4 := rfl
    have e2 : p + ([108,101,116,32] ++ nm).length = p + 4 + nm.length := by simp; omega
    have e3 : p + ([108,101,116,32] ++ nm ++ [32,61,32]).length = p + 4 + nm.length + 3 := by simp; omega
    have e4 : p + ([108,101,116,32] ++ nm ++ [32,61,32] ++ a).length = p + 4 + nm.length + 3 + a.length := by simp; omega
    have e5 : p + ([108,101,116,32] ++ nm ++ [32,61,32] ++ a ++ [32,105,110,32]).length = p + 4 + nm.length + 3 + a.length + 4 := by simp; omega
    simp only [e1,e2,e3,e4,e5]
    rfl
  · exact ((ha.tr (p + 4 + nm.length + 3)).lete (hb.tr (p + 4 + nm.length + 3 + a.length + 4)) p).mono (by omega)
theorem Mades.num (vs : List Kn) {n : Nat} (hn : n < 1000) : Mades vs (textB n) 1 n 1 := by
  obtain ⟨h1,h2,h3⟩ := lx_num hn
  exact ⟨_,_,h1,XR.num (textB n),fun p => by rw [h2]; exact TrP.num vs n p,XO.one (XR.num (textB n)) (fun _ => rfl),fun _ => rfl⟩
theorem Mades.var (vs : List Kn) (k : Kn) (hk : k.name ∈ scN vs) (hn : k.name ∈ vNames) : Mades vs k.name 1 (lastOf k vs).v 1 := ⟨_,_,lx_var hn,XR.var k.name,fun p => TrP.var vs k hk p,XO.one (XR.var k.name) (fun _ => rfl),fun _ => rfl⟩
theorem Mades.truth (vs : List Kn) (b : Bool) : Mades vs (if b then [116,114,117,101] else [102,97,108,115,101]) 2 (b2i b) 1 := by
  refine ⟨_,_,?_,XR.truth b,fun p => TrP.truth vs b p,XO.one (XR.truth b) (fun _ => rfl),fun _ => rfl⟩
  cases b
  · exact (Lx.name (c := 102) (n := [97,108,115,101]) (by decide) (by decide) (by decide)).cast rfl fun p => rfl
  · exact (Lx.name (c := 116) (n := [114,117,101]) (by decide) (by decide) (by decide)).cast rfl fun p => rfl
end Go.Proofs.YtpmmjkiclngpmaaGreatDoor
namespace Go.Proofs.YtpmmjkiclngpmaaGreatDoor
open Go.RowKit
theorem nextB_bdN (zs : List Int) (i n : Nat) (hn : 0 < n) : 0 ≤ (nextB zs i n).1 ∧ (nextB zs i n).1 < n := by
  unfold nextB
  split
  · exact ⟨by simp,by simp; omega⟩
  · exact pickB_bd _ _ (by omega)
structure VsOk (vs : List Kn) : Prop where
  nm : ∀ k ∈ vs,k.name ∈ vNames
  rg : ∀ k ∈ vs,I64 k.v
theorem lastOf_mem (k : Kn) : ∀ (l : List Kn),lastOf k l = k ∨ lastOf k l ∈ l := by
  intro l
  induction l generalizing k with
  | nil => exact Or.inl rfl
  | cons y r ih =>
    show lastOf (if y.name == k.name then y else k) r = k ∨ lastOf (if y.name == k.name then y else k) r ∈ y :: r
    rcases ih (if y.name == k.name then y else k) with h | h
    · rw [h]
      split
      · exact Or.inr (by simp)
      · exact Or.inl rfl
    · exact Or.inr (List.mem_cons_of_mem _ h)
theorem b2i_beq (a b : Int) : b2i (a == b) = bin2 8 a b := by
  unfold bin2
  simp only [show ¬ (8 : Nat) = 7 by omega,if_false,if_true]
  by_cases h : a = b
  · subst h; simp
  · have e : (a == b) = false := by simpa using h
    rw [e]; simp [h]
theorem b2i_not (b : Bool) : b2i (!b) = un1 14 (b2i b) := by cases b <;> rfl
theorem leafK_ok {zs : List Int} {vs : List Kn} (hv : VsOk vs) (c : Int) (i : Nat) : Mades vs (leafK zs c vs i).1.s 1 (leafK zs c vs i).1.v 1 ∧ I64 (leafK zs c vs i).1.v := by
  unfold leafK
  split
  · next h =>
    have hp : 0 < vs.length := by simp at h; exact h.1
    have hb := nextB_bdN zs i vs.length hp
    obtain ⟨q,hq⟩ : ∃ q : Nat,(nextB zs i vs.length).1 = (q : Int) := ⟨(nextB zs i vs.length).1.toNat,by omega⟩
    have hql : q < vs.length := by omega
    simp only [hq,Int.toNat_natCast]
    have hg : vs.getD q ⟨[],0⟩ = vs[q] := by simp [List.getD,hql]
    rw [hg]
    have hm := List.getElem_mem hql
    have hn := lastOf_name vs[q] vs
    refine ⟨?_,?_⟩
    · rw [hn]
      exact Mades.var vs vs[q] (List.mem_map.2 ⟨vs[q],hm,rfl⟩) (hv.nm _ hm)
    · rcases lastOf_mem vs[q] vs with e | e
      · rw [e]; exact hv.rg _ hm
      · exact hv.rg _ e
  · have hb := nextB_bdN zs i 1000 (by omega)
    obtain ⟨q,hq⟩ : ∃ q : Nat,(nextB zs i ((1000 : Nat) : Int)).1 = (q : Int) := ⟨(nextB zs i ((1000 : Nat) : Int)).1.toNat,by omega⟩
    have hq' : (nextB zs i 1000).1 = (q : Int) := hq
    simp only [hq',Int.toNat_natCast]
    have hql : q < 1000 := by omega
    exact ⟨Mades.num vs hql,by unfold I64; omega⟩
theorem leafT_ok (zs : List Int) (vs : List Kn) (i : Nat) : Mades vs (leafT zs i).1.1 2 (b2i (leafT zs i).1.2) 1 := by
  unfold leafT
  split
  · exact Mades.truth vs true
  · exact Mades.truth vs false
theorem VsOk.snoc {vs : List Kn} (h : VsOk vs) {nm : List UInt8} {v : Int} (hn : nm ∈ vNames) (hr : I64 v) : VsOk (vs ++ [⟨nm,v⟩]) := by
  refine ⟨fun k hk => ?_,fun k hk => ?_⟩
  · rcases List.mem_append.1 hk with hk | hk
    · exact h.nm k hk
    · have : k = ⟨nm,v⟩ := by simpa using hk
      subst this; exact hn
  · rcases List.mem_append.1 hk with hk | hk
    · exact h.rg k hk
    · have : k = ⟨nm,v⟩ := by simpa using hk
      subst this; exact hr
theorem makes_ok (zs : List Int) : ∀ (d : Nat) (vs : List Kn) (i : Nat),VsOk vs →
    (Mades vs ((makes zs d).1 vs i).1.s 1 ((makes zs d).1 vs i).1.v (2 * d + 1) ∧ I64 ((makes zs d).1 vs i).1.v) ∧ Mades vs ((makes zs d).2 vs i).1.1 2 (b2i ((makes zs d).2 vs i).1.2) (2 * d + 1) := by
  intro d
  induction d with
  | zero =>
    intro vs i hv
    exact ⟨leafK_ok hv _ _,leafT_ok zs vs _⟩
  | succ d ih =>
    intro vs i hv
    refine ⟨?_,?_⟩
    · show Mades vs (stepNum zs (makes zs d).1 (makes zs d).2 vs i).1.s 1 (stepNum zs (makes zs d).1 (makes zs d).2 vs i).1.v (2 * (d + 1) + 1) ∧ I64 (stepNum zs (makes zs d).1 (makes zs d).2 vs i).1.v
      generalize makes zs d = M at *
      unfold stepNum
      simp only
      generalize hc : (nextB zs i 9).1 = c
      generalize (nextB zs i 9).2 = i1
      split
      · have := leafK_ok (zs := zs) hv c i1
        exact ⟨this.1.mono (by omega),this.2⟩
      split
      · have ha := (ih vs i1 hv).1
        have hb := (ih vs (M.1 vs i1).2 hv).1
        exact ⟨(Mades.two ha.1 hb.1 [43] [41,32,43,32,40] 2 4 9 1 lf_plus rfl ⟨_,rfl⟩ (by simp) rfl (by omega) rfl).mono (by omega),wrap_in _⟩
      split
      · have ha := (ih vs i1 hv).1
        have hb := (ih vs (M.1 vs i1).2 hv).1
        exact ⟨(Mades.two ha.1 hb.1 [45] [41,32,45,32,40] 2 4 10 1 lf_minus rfl ⟨_,rfl⟩ (by simp) rfl (by omega) rfl).mono (by omega),wrap_in _⟩
      split
      · have ha := (ih vs i1 hv).1
        have hb := (ih vs (M.1 vs i1).2 hv).1
        exact ⟨(Mades.two ha.1 hb.1 [42] [41,42,40] 1 2 11 1 lf_times rfl ⟨_,rfl⟩ (by simp) rfl (by omega) rfl).mono (by omega),wrap_in _⟩
      split
      · have ha := (ih vs i1 hv).1
        have hb := nextB_bdN zs (M.1 vs i1).2 9 (by omega)
        obtain ⟨q,hq⟩ : ∃ q : Nat,(nextB zs (M.1 vs i1).2 ((9 : Nat) : Int)).1 = (q : Int) := ⟨(nextB zs (M.1 vs i1).2 ((9 : Nat) : Int)).1.toNat,by omega⟩
        have hq' : (nextB zs (M.1 vs i1).2 9).1 = (q : Int) := hq
        have hq9 : q < 9 := by omega
        simp only [hq']
        rw [show (1 + (q : Int)).toNat = 1 + q by omega,show (1 + (q : Int)) = ((1 + q : Nat) : Int) by omega]
        have := Mades.per ha.1 (by omega) (1 + q) (by omega) (by omega)
        have e : bin2 12 (M.1 vs i1).1.v ((1 + q : Nat) : Int) = wrap64 ((M.1 vs i1).1.v.tdiv ((1 + q : Nat) : Int)) := by
          unfold bin2
          simp only [show ¬ (12 : Nat) = 7 by omega,show ¬ (12 : Nat) = 8 by omega,show ¬ (12 : Nat) = 9 by omega,show ¬ (12 : Nat) = 10 by omega,show ¬ (12 : Nat) = 11 by omega,if_false]
        rw [e] at this
        exact ⟨this.mono (by omega),wrap_in _⟩
      split
      · have ha := (ih vs i1 hv).1
        exact ⟨(Mades.pre 13 1 45 (by simp) ha.1).mono (by omega),wrap_in _⟩
      split
      · have hb := nextB_bdN zs i1 3 (by omega)
        obtain ⟨q,hq⟩ : ∃ q : Nat,(nextB zs i1 ((3 : Nat) : Int)).1 = (q : Int) := ⟨(nextB zs i1 ((3 : Nat) : Int)).1.toNat,by omega⟩
        have hq' : (nextB zs i1 3).1 = (q : Int) := hq
        have hq3 : q < 3 := by omega
        simp only [hq',Int.toNat_natCast]
        have hn : [[107],[110],[120,49]].getD q [] ∈ vNames := by
          have : q = 0 ∨ q = 1 ∨ q = 2 := by omega
          rcases this with rfl | rfl | rfl <;> decide
        have ha := (ih vs (nextB zs i1 3).2 hv).1
        have hb := (ih (vs ++ [⟨[[107],[110],[120,49]].getD q [],(M.1 vs (nextB zs i1 3).2).1.v⟩]) (M.1 vs (nextB zs i1 3).2).2 (hv.snoc hn ha.2)).1
        exact ⟨(Mades.lete hn ha.1 hb.1).mono (by omega),hb.2⟩
      · have ht := (ih vs i1 hv).2
        have ha := (ih vs (M.2 vs i1).2 hv).1
        have hb := (ih vs (M.1 vs (M.2 vs i1).2).2 hv).1
        refine ⟨(Mades.ife ht ha.1 hb.1).mono (by omega),?_⟩
        split
        · exact ha.2
        · exact hb.2
    · show Mades vs (stepTru zs (makes zs d).1 (makes zs d).2 vs i).1.1 2 (b2i (stepTru zs (makes zs d).1 (makes zs d).2 vs i).1.2) (2 * (d + 1) + 1)
      generalize makes zs d = M at *
      unfold stepTru
      simp only
      generalize (nextB zs i 5).1 = c
      generalize (nextB zs i 5).2 = i1
      split
      · exact (leafT_ok zs vs i1).mono (by omega)
      split
      · have ht := (ih vs i1 hv).2
        have := Mades.pre 14 2 33 (by simp) ht
        rw [← b2i_not] at this
        exact this.mono (by omega)
      split
      · have ha := (ih vs i1 hv).1
        have hb := (ih vs (M.1 vs i1).2 hv).1
        have := Mades.two ha.1 hb.1 [61,61] [41,32,61,61,32,40] 2 5 8 2 lf_same rfl ⟨_,rfl⟩ (by simp) rfl (by omega) rfl
        rw [← b2i_beq] at this
        exact this.mono (by omega)
      · have ha := (ih vs i1 hv).1
        have hb := (ih vs (M.1 vs i1).2 hv).1
        exact (Mades.two ha.1 hb.1 [60] [41,60,40] 1 2 7 2 lf_less rfl ⟨_,rfl⟩ (by simp) rfl (by omega) rfl).mono (by omega)
end Go.Proofs.YtpmmjkiclngpmaaGreatDoor
namespace Go.Proofs.YtpmmjkiclngpmaaGreatDoor
open Go.RowKit
theorem lf_58 : Lf [58] (fun p => [⟨4,[58],p⟩]) := Lf.sign (by decide) (by decide) (by decide) (by decide) (by decide)
theorem lf_59 : Lf [59] (fun p => [⟨4,[59],p⟩]) := Lf.sign (by decide) (by decide) (by decide) (by decide) (by decide)
theorem brkc {c : UInt8} (h : isNameByteB (c.toNat : Int) = false) (r : List UInt8) : Brk (c :: r) := fun d t e => by rw [List.cons.injEq] at e; rw [← e.1]; exact h
theorem lx_w {c : UInt8} {n : List UInt8} {k : Nat} (h1 : isBlankB (c.toNat : Int) = false) (h2 : isLetterB (c.toNat : Int) = true) (hn : ∀ x ∈ c :: n,isNameByteB (x.toNat : Int) = true) (hk : nameKindB (c :: n) = k) : Lx (c :: n) (fun p => [⟨k,c :: n,p⟩]) := (Lx.name h1 h2 hn).cast rfl fun p => by rw [hk]
theorem lx_pub : Lx [112,117,98] (fun p => [⟨4,[112,117,98],p⟩]) := lx_w (by decide) (by decide) (by decide) rfl
theorem lx_fn : Lx [102,110] (fun p => [⟨4,[102,110],p⟩]) := lx_w (by decide) (by decide) (by decide) rfl
theorem lx_f : Lx [102] (fun p => [⟨2,[102],p⟩]) := lx_w (by decide) (by decide) (by decide) rfl
theorem lx_g : Lx [103] (fun p => [⟨2,[103],p⟩]) := lx_w (by decide) (by decide) (by decide) rfl
theorem lx_k : Lx [107] (fun p => [⟨2,[107],p⟩]) := lx_w (by decide) (by decide) (by decide) rfl
theorem lx_int : Lx [105,110,116] (fun p => [⟨4,[105,110,116],p⟩]) := lx_w (by decide) (by decide) (by decide) rfl
theorem lx_bool : Lx [98,111,111,108] (fun p => [⟨4,[98,111,111,108],p⟩]) := lx_w (by decide) (by decide) (by decide) rfl
theorem Lx.then {a b : List UInt8} {A B : Nat → List Wd} (ha : Lx a A) (hb : Lf b B) (hk : ∃ c r,b = c :: r ∧ isNameByteB (c.toNat : Int) = false) : Lf (a ++ b) (fun p => A p ++ B (p + a.length)) := by
  obtain ⟨c,r,rfl,hc⟩ := hk
  exact ha.appendF hb (by simp) (brkc hc r)
def frontA : List UInt8 := [112,117,98,32,102,110,32,102,40,107,58,32,105,110,116,41,58,32,105,110,116,32,61,32]
def frontG : List UInt8 := [102,110,32,103,40,107,58,32,105,110,116,41,58,32,98,111,111,108,32,61,32]
theorem lf_frontA : Lf frontA (fun p => [⟨4,[112,117,98],p⟩,⟨4,[102,110],p + 4⟩,⟨2,[102],p + 7⟩,⟨4,[40],p + 8⟩,⟨2,[107],p + 9⟩,⟨4,[58],p + 10⟩,⟨4,[105,110,116],p + 12⟩,⟨4,[41],p + 15⟩,⟨4,[58],p + 16⟩,⟨4,[105,110,116],p + 18⟩,⟨4,[61],p + 22⟩]) :=
  (((((((lx_pub.then lf_bl ⟨_,_,rfl,by decide⟩).append (lx_fn.then lf_bl ⟨_,_,rfl,by decide⟩)).append (lx_f.then lf_40 ⟨_,_,rfl,by decide⟩)).append (lx_k.then (lf_58.append lf_bl) ⟨_,_,rfl,by decide⟩)).append (lx_int.then ((lf_41.append lf_58).append lf_bl) ⟨_,_,rfl,by decide⟩)).append (lx_int.then lf_bl ⟨_,_,rfl,by decide⟩)).append Lf.equal1).cast rfl fun p => by simp
theorem lf_frontG : Lf frontG (fun p => [⟨4,[102,110],p⟩,⟨2,[103],p + 3⟩,⟨4,[40],p + 4⟩,⟨2,[107],p + 5⟩,⟨4,[58],p + 6⟩,⟨4,[105,110,116],p + 8⟩,⟨4,[41],p + 11⟩,⟨4,[58],p + 12⟩,⟨4,[98,111,111,108],p + 14⟩,⟨4,[61],p + 19⟩]) :=
  ((((((lx_fn.then lf_bl ⟨_,_,rfl,by decide⟩).append (lx_g.then lf_40 ⟨_,_,rfl,by decide⟩)).append (lx_k.then (lf_58.append lf_bl) ⟨_,_,rfl,by decide⟩)).append (lx_int.then ((lf_41.append lf_58).append lf_bl) ⟨_,_,rfl,by decide⟩)).append (lx_bool.then lf_bl ⟨_,_,rfl,by decide⟩)).append Lf.equal1).cast rfl fun p => by simp
theorem split_nil (p : Nat) : splitFrom [] p = [⟨0,[],p⟩] := rfl
def txtA (s : List UInt8) : List UInt8 := frontA ++ s ++ [59]
def txtC (s : List UInt8) : List UInt8 := frontA ++ s
def txtG (s : List UInt8) : List UInt8 := frontG ++ s ++ [59]
section
variable {s : List UInt8} {W : Nat → List Wd}
theorem split_A (h : Lx s W) : splitFrom (txtA s) 0 = [⟨4,[112,117,98],0⟩,⟨4,[102,110],4⟩,⟨2,[102],7⟩,⟨4,[40],8⟩,⟨2,[107],9⟩,⟨4,[58],10⟩,⟨4,[105,110,116],12⟩,⟨4,[41],15⟩,⟨4,[58],16⟩,⟨4,[105,110,116],18⟩,⟨4,[61],22⟩] ++ (W 24 ++ [⟨4,[59],24 + s.length⟩,⟨0,[],25 + s.length⟩]) := by
  unfold txtA
  rw [List.append_assoc,lf_frontA 0,h (0 + frontA.length) _ (brkc (by decide) _),show ([59] : List UInt8) = [59] ++ [] from rfl,lf_59,split_nil]
  simp [frontA]; omega
theorem split_C (h : Lx s W) : splitFrom (txtC s) 0 = [⟨4,[112,117,98],0⟩,⟨4,[102,110],4⟩,⟨2,[102],7⟩,⟨4,[40],8⟩,⟨2,[107],9⟩,⟨4,[58],10⟩,⟨4,[105,110,116],12⟩,⟨4,[41],15⟩,⟨4,[58],16⟩,⟨4,[105,110,116],18⟩,⟨4,[61],22⟩] ++ (W 24 ++ [⟨0,[],24 + s.length⟩]) := by
  unfold txtC
  have := h (0 + frontA.length) [] (fun c t e => by cases e)
  rw [List.append_nil] at this
  rw [lf_frontA 0,this,split_nil]
  simp [frontA]
theorem split_G (h : Lx s W) : splitFrom (txtG s) 0 = [⟨4,[102,110],0⟩,⟨2,[103],3⟩,⟨4,[40],4⟩,⟨2,[107],5⟩,⟨4,[58],6⟩,⟨4,[105,110,116],8⟩,⟨4,[41],11⟩,⟨4,[58],12⟩,⟨4,[98,111,111,108],14⟩,⟨4,[61],19⟩] ++ (W 21 ++ [⟨4,[59],21 + s.length⟩,⟨0,[],22 + s.length⟩]) := by
  unfold txtG
  rw [List.append_assoc,lf_frontG 0,h (0 + frontG.length) _ (brkc (by decide) _),show ([59] : List UInt8) = [59] ++ [] from rfl,lf_59,split_nil]
  simp [frontG]; omega
theorem has_mid (A B C : List Wd) : Has (A ++ (B ++ C)) A.length B := fun j x hj => by
  have hl := (List.getElem?_eq_some_iff.1 hj).1
  rw [List.getElem?_append_right (by omega),show A.length + j - A.length = j by omega,List.getElem?_append_left hl]; exact hj
theorem at_tail (A B C : List Wd) (j : Nat) : (A ++ (B ++ C))[A.length + B.length + j]? = C[j]? := by
  rw [List.getElem?_append_right (by omega),List.getElem?_append_right (by omega),show A.length + B.length + j - A.length - B.length = j by omega]
variable {t : Nat → Ex} {D : Nat}
abbrev hd11 (q : Nat → Nat) : List Wd := [⟨4,[112,117,98],q 0⟩,⟨4,[102,110],q 1⟩,⟨2,[102],q 2⟩,⟨4,[40],q 3⟩,⟨2,[107],q 4⟩,⟨4,[58],q 5⟩,⟨4,[105,110,116],q 6⟩,⟨4,[41],q 7⟩,⟨4,[58],q 8⟩,⟨4,[105,110,116],q 9⟩,⟨4,[61],q 10⟩]
theorem fun_hd {ws : List Wd} (q : Nat → Nat) (p : Nat) (C : List Wd) (c : Wd) (hC : C[0]? = some c) (hcs : c.kind = 4 → [[42],[47],[43],[45],[60],[61,61],[40]].contains c.text = false) (hx : XR W t D) (hD : D ≤ 11) (e : ws = hd11 q ++ (W p ++ C)) :
    funR ws (rd ws ws.length).1 ⟨0,false,0⟩ = (⟨[102],q 2,true,[⟨[107],q 4,1⟩],1,t p⟩,(⟨11 + (W p).length,false,0⟩ : PS).expect ws [59]) := by
  have hl : ws.length = 11 + (W p).length + C.length := by rw [e]; simp; omega
  have hc0 : 0 < C.length := (List.getElem?_eq_some_iff.1 hC).1
  have hw : ∀ i x,(hd11 q)[i]? = some x → ws[i]? = some x := fun i x h => by
    have := (List.getElem?_eq_some_iff.1 h).1
    rw [e,List.getElem?_append_left this]; exact h
  have he : (rd ws ws.length).1 ⟨11,false,0⟩ = (t p,⟨11 + (W p).length,false,0⟩) := by
    refine hx ws 11 p 0 ws.length (by rw [e]; exact has_mid (hd11 q) (W p) C) (by omega) ⟨c,?_,hcs⟩ (by omega)
    have := at_tail (hd11 q) (W p) C 0
    rw [← e] at this
    exact this.trans hC
  have hs : ((⟨0,false,0⟩ : PS).skipTo ws [112,117,98]).expect ws [102,110] = ⟨2,false,0⟩ := by
    rw [skip_w (hw 0 _ rfl) (by omega),expect_w (hw 1 _ rfl) (by omega)]
  have hp : (⟨0,false,0⟩ : PS).isAt ws [[112,117,98]] = true := by rw [isAt_w (hw 0 _ rfl)]; rfl
  have := fun_read (ws := ws) (ex := (rd ws ws.length).1) (b := 2) (ty := 1) hs (hw 2 _ rfl) (hw 3 _ rfl) (hw 4 _ rfl) (hw 5 _ rfl) (hw 6 _ rfl) (hw 7 _ rfl) (hw 8 _ rfl) (hw 9 _ rfl) (hw 10 _ rfl) (Or.inl ⟨rfl,rfl⟩) (by omega) he
  rw [hp] at this
  exact this
theorem parsed_hd {l : List UInt8} (q : Nat → Nat) (p r0 r1 : Nat) (hx : XR W t D) (hD : D ≤ 11) (e : splitFrom l 0 = hd11 q ++ (W p ++ [⟨4,[59],r0⟩,⟨0,[],r1⟩])) :
    parsed l = (⟨[],[⟨[102],q 2,true,[⟨[107],q 4,1⟩],1,t p⟩]⟩,⟨12 + (W p).length,false,0⟩) := by
  unfold parsed
  have hf := fun_hd q p _ ⟨4,[59],r0⟩ rfl (fun _ => by rfl) hx hD e
  generalize splitFrom l 0 = ws at *
  have a0 := at_tail (hd11 q) (W p) [⟨4,[59],r0⟩,⟨0,[],r1⟩] 0
  have a1 := at_tail (hd11 q) (W p) [⟨4,[59],r0⟩,⟨0,[],r1⟩] 1
  rw [← e] at a0 a1
  have := mod_read (ws := ws) (st := ⟨0,false,0⟩) (x := ⟨0,[],0⟩) (L := 11 + (W p).length) (z := ⟨4,[112,117,98],q 0⟩) (by rw [e]; rfl) (by rfl) (by rfl) hf a0 a1
  rw [this,show 11 + (W p).length + 1 = 12 + (W p).length by omega]
theorem parsed_A (h : Lx s W) (hx : XR W t D) (hD : D ≤ 11) : parsed (txtA s) = (⟨[],[⟨[102],7,true,[⟨[107],9,1⟩],1,t 24⟩]⟩,⟨12 + (W 24).length,false,0⟩) :=
  parsed_hd (fun i => [0,4,7,8,9,10,12,15,16,18,22].getD i 0) 24 _ _ hx hD (split_A h)
theorem parsed_C (h : Lx s W) (hx : XR W t D) (hD : D ≤ 11) : (parsed (txtC s)).2.failed = true ∧ (parsed (txtC s)).2.place = 24 + s.length := by
  unfold parsed
  have e := split_C h
  have hf := fun_hd (fun i => [0,4,7,8,9,10,12,15,16,18,22].getD i 0) 24 _ ⟨0,[],24 + s.length⟩ rfl (fun h => by cases h) hx hD e
  generalize splitFrom (txtC s) 0 = ws at *
  have a0 := at_tail (hd11 (fun i => [0,4,7,8,9,10,12,15,16,18,22].getD i 0)) (W 24) [⟨0,[],24 + s.length⟩] 0
  have e' : ws = hd11 (fun i => [0,4,7,8,9,10,12,15,16,18,22].getD i 0) ++ (W 24 ++ [⟨0,[],24 + s.length⟩]) := e
  rw [← e'] at a0
  exact mod_cut (L := 11 + (W 24).length) (z := ⟨4,[112,117,98],0⟩) (by rw [e]; rfl) (by rfl) (by rfl) hf a0 (by rw [e]; simp; omega)
end
end Go.Proofs.YtpmmjkiclngpmaaGreatDoor
