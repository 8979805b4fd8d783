/- YtpmmjkiclngpmaaGreatDoorB01 -/
import Derived.Test.YtpmmjkiclngpmaaGreatDoorProg
import Derived.WalkKit
import Derived.WalkSpells
import Derived.WalkLawsBesides
set_option maxRecDepth 100000
set_option linter.unusedSimpArgs false
set_option linter.unusedVariables false
set_option maxHeartbeats 12800000
namespace Go.Proofs.YtpmmjkiclngpmaaGreatDoor
def isLetterB (n : Int) : Bool := decide (97 ≤ n) && decide (n ≤ 122)
def isDigitB (n : Int) : Bool := decide (48 ≤ n) && decide (n ≤ 57)
def isBlankB (n : Int) : Bool := (n == 32) || (n == 10)
def isNameByteB (n : Int) : Bool := isLetterB n || isDigitB n
def runLen (pb : Int → Bool) : List UInt8 → Nat
  | [] => 0
  | c :: r => if pb (c.toNat : Int) then runLen pb r + 1 else 0
theorem runLen_le (pb : Int → Bool) (l : List UInt8) : runLen pb l ≤ l.length := by
  induction l with
  | nil => simp [runLen]
  | cons c r ih => simp only [runLen,List.length_cons]; split <;> omega
theorem runLen_step (pb : Int → Bool) (l : List UInt8) (k : Nat) (hk : k < l.length) (hall : ∀ j,(h : j < k) → pb (l[j].toNat : Int) = true)
    (hp : pb (l[k].toNat : Int) = false) : runLen pb l = k := by
  induction l generalizing k with
  | nil => simp at hk
  | cons c r ih =>
    cases k with
    | zero => simp at hp; simp [runLen,hp]
    | succ k =>
      have h0 := hall 0 (by omega)
      simp at h0
      simp only [runLen,h0,if_true]
      rw [ih k (by simpa using hk) (fun j h => by have := hall (j+1) (by omega); simpa using this) (by simpa using hp)]
theorem runLen_all (pb : Int → Bool) (l : List UInt8) (hall : ∀ j,(h : j < l.length) → pb (l[j].toNat : Int) = true) : runLen pb l = l.length := by
  induction l with
  | nil => rfl
  | cons c r ih =>
    have h0 := hall 0 (by simp)
    simp at h0
    simp only [runLen,h0,if_true,List.length_cons]
    rw [ih (fun j h => by have := hall (j+1) (by simpa using h); simpa using this)]
theorem runLen_pos (pb : Int → Bool) (c : UInt8) (r : List UInt8) (h : pb (c.toNat : Int) = true) : 1 ≤ runLen pb (c :: r) := by
  simp [runLen,h]
def keywords : List (List UInt8) := [[117,115,101],[112,117,98],[102,110],[105,102],[116,104,101,110],[101,108,115,101],[108,101,116],[105,110],[116,114,117,101],[102,97,108,115,101],[105,110,116],[98,111,111,108]]
def isKwB (t : List UInt8) : Bool := keywords.contains t
def nameKindB (t : List UInt8) : Nat := if 8 < t.length then 1 else if isKwB t then 4 else 2
def isSignB (n : Int) : Bool := (n == 40) || (n == 41) || (n == 58) || (n == 44) || (n == 59) || (n == 60) || (n == 43) || (n == 45) || (n == 42) || (n == 47) || (n == 33)
def signKindB (l : List UInt8) : Nat × Nat :=
  match l with
  | [] => (1,1)
  | c :: r =>
    if (c.toNat : Int) == 61 then (match r with | [] => (4,1) | d :: _ => if (d.toNat : Int) == 61 then (4,2) else (4,1))
    else if isSignB (c.toNat : Int) then (4,1) else (1,1)
def firstWordB (l : List UInt8) : Nat × Nat :=
  match l with
  | [] => (1,1)
  | c :: _ =>
    if isLetterB (c.toNat : Int) then (nameKindB (l.take (runLen isNameByteB l)),runLen isNameByteB l)
    else if isDigitB (c.toNat : Int) then (if 9 < runLen isDigitB l then 1 else 3,runLen isDigitB l)
    else signKindB l
theorem signKindB_bd (c : UInt8) (r : List UInt8) : 1 ≤ (signKindB (c :: r)).2 ∧ (signKindB (c :: r)).2 ≤ (c :: r).length := by
  unfold signKindB
  dsimp only
  split
  · cases r with
    | nil => simp
    | cons d r' => dsimp only; split <;> simp
  · split <;> simp
theorem firstWordB_bd (c : UInt8) (r : List UInt8) : 1 ≤ (firstWordB (c :: r)).2 ∧ (firstWordB (c :: r)).2 ≤ (c :: r).length := by
  unfold firstWordB
  dsimp only
  split
  · rename_i h
    exact ⟨runLen_pos _ _ _ (by simp [isNameByteB,h]),runLen_le _ _⟩
  · split
    · rename_i h
      exact ⟨runLen_pos _ _ _ h,runLen_le _ _⟩
    · exact signKindB_bd c r
structure Wd where
  kind : Nat
  text : List UInt8
  place : Nat
def splitN : Nat → List UInt8 → Nat → List Wd
  | 0,_,_ => []
  | n + 1,l,p =>
    match l.drop (runLen isBlankB l) with
    | [] => [⟨0,[],p + runLen isBlankB l⟩]
    | c :: r => ⟨(firstWordB (c :: r)).1,(c :: r).take (firstWordB (c :: r)).2,p + runLen isBlankB l⟩ ::
        splitN n ((c :: r).drop (firstWordB (c :: r)).2) (p + runLen isBlankB l + (firstWordB (c :: r)).2)
theorem splitN_enough (n m : Nat) (l : List UInt8) (p : Nat) (hn : l.length < n) (hm : l.length < m) : splitN n l p = splitN m l p := by
  induction n generalizing m l p with
  | zero => omega
  | succ n ih =>
    cases m with
    | zero => omega
    | succ m =>
      simp only [splitN]
      cases hd : l.drop (runLen isBlankB l) with
      | nil => rfl
      | cons c r =>
        have hb := firstWordB_bd c r
        have hl : (l.drop (runLen isBlankB l)).length = (c :: r).length := by rw [hd]
        simp only [List.length_drop,List.length_cons] at hl hb
        simp only [List.cons.injEq,true_and]
        refine ih m _ _ ?_ ?_ <;> simp only [List.length_drop,List.length_cons] <;> omega
def splitFrom (l : List UInt8) (p : Nat) : List Wd := splitN (l.length + 1) l p
theorem splitFrom_end (l : List UInt8) (p : Nat) (h : l.drop (runLen isBlankB l) = []) : splitFrom l p = [⟨0,[],p + runLen isBlankB l⟩] := by
  simp only [splitFrom,splitN,h]
theorem splitFrom_cons (l : List UInt8) (p : Nat) (c : UInt8) (r : List UInt8) (h : l.drop (runLen isBlankB l) = c :: r) :
    splitFrom l p = ⟨(firstWordB (c :: r)).1,(c :: r).take (firstWordB (c :: r)).2,p + runLen isBlankB l⟩ ::
      splitFrom ((c :: r).drop (firstWordB (c :: r)).2) (p + runLen isBlankB l + (firstWordB (c :: r)).2) := by
  have hb := firstWordB_bd c r
  have hl : (l.drop (runLen isBlankB l)).length = (c :: r).length := by rw [h]
  simp only [List.length_drop,List.length_cons] at hl hb
  conv => lhs; simp only [splitFrom,splitN,h]
  simp only [List.cons.injEq,true_and,splitFrom]
  refine splitN_enough _ _ _ _ ?_ ?_ <;> simp only [List.length_drop,List.length_cons] <;> omega
end Go.Proofs.YtpmmjkiclngpmaaGreatDoor
namespace Go.Proofs.YtpmmjkiclngpmaaGreatDoor
open Go.RowKit
theorem hide {p : Prop} (h : p) : Hid p := h
theorem ret_int {k : IntKind} {a b : Int} (h : a = b) : Ending.returned (.int k a) = .returned (.int k b) := by rw [h]
theorem ret_bool {a b : Bool} (h : a = b) : Ending.returned (.bool a) = .returned (.bool b) := by rw [h]
theorem isLetter_any (n : Int) (w : World) :
    Calls Tryz.prog 94 #[.int .u8 n] w fun e w' => e = .returned (.bool (isLetterB n)) ∧ w' = w := by
  by_cases h1 : 97 ≤ n <;> by_cases h2 : n ≤ 122 <;>
  (go_enter Tryz.func94,Tryz.ntmps94
   go_wp2
   go_ret
   exact ⟨by simp [isLetterB,h1,h2],rfl⟩)
theorem isDigit_any (n : Int) (w : World) :
    Calls Tryz.prog 136 #[.int .u8 n] w fun e w' => e = .returned (.bool (isDigitB n)) ∧ w' = w := by
  by_cases h1 : 48 ≤ n <;> by_cases h2 : n ≤ 57 <;>
  (go_enter Tryz.func136,Tryz.ntmps136
   go_wp2
   go_ret
   exact ⟨by simp [isDigitB,h1,h2],rfl⟩)
theorem isBlank_any (n : Int) (w : World) :
    Calls Tryz.prog 153 #[.int .u8 n] w fun e w' => e = .returned (.bool (isBlankB n)) ∧ w' = w := by
  rcases h1 : (n == 32) with _ | _ <;> rcases h2 : (n == 10) with _ | _ <;>
  (go_enter Tryz.func153,Tryz.ntmps153
   go_wp2
   go_ret
   exact ⟨by simp [isBlankB,h1,h2],rfl⟩)
theorem isNameByte_any (n : Int) (w : World) :
    Calls Tryz.prog 96 #[.int .u8 n] w fun e w' => e = .returned (.bool (isNameByteB n)) ∧ w' = w := by
  rcases h1 : isLetterB n with _ | _ <;>
  (go_enter Tryz.func96,Tryz.ntmps96
   go_wp2_with (first | (go_at_call 94; refine (isLetter_any _ _).mono ?_; rintro e w' ⟨rfl,rfl⟩) | (go_at_call 136; refine (isDigit_any _ _).mono ?_; rintro e w' ⟨rfl,rfl⟩))
   go_ret
   exact ⟨by simp [isNameByteB,h1],rfl⟩)
theorem runLength_blank (s : ByteArray) (w : World) (hs : s.size ≤ maxLen) :
    Calls Tryz.prog 95 #[.string s,.func (.func 153) #[] #[]] w fun e w' => e = .returned (.int .i64 (runLen isBlankB s.data.toList)) ∧ w' = w := by
  unfold maxLen at hs
  go_enter Tryz.func95,Tryz.ntmps95
  go_wp2
  go_loop [5] (fun i => ∃ k : Nat,k ≤ s.size ∧ i = .int .i64 k ∧ (∀ j,(h : j < k) → (h' : j < s.size) → isBlankB (s[j].toNat : Int) = true)) (fun i => s.size - (intOf i).toNat)
  case atStart => exact ⟨0,Nat.zero_le _,rfl,fun j h => by omega⟩
  case round =>
    obtain ⟨k,hk,rfl,hall⟩ := hrel
    have HA := hide hall; clear hall
    by_cases hlt : k < s.size
    · rcases hp : isBlankB (s[k].toNat : Int) with _ | _
      · go_wp2_with (go_at_call 153; refine (isBlank_any _ _).mono ?_; rintro e w' ⟨rfl,rfl⟩)
        go_ret
        exact ⟨ret_int (by rw [runLen_step isBlankB s.data.toList k (by simpa using hlt) (fun j h => HA.out j h (by omega)) hp]),rfl⟩
      · go_wp2_with (go_at_call 153; refine (isBlank_any _ _).mono ?_; rintro e w' ⟨rfl,rfl⟩)
        go_round
        case rel => exact ⟨k + 1,by omega,by go_num,fun j h h' => by
          by_cases e : j = k
          · subst e; exact hp
          · exact HA.out j (by omega) h'⟩
        case measure => simp [intOf]; omega
    · go_wp2
      go_ret
      have hall : ∀ j,(h : j < s.data.toList.length) → isBlankB (s.data.toList[j].toNat : Int) = true := fun j h => HA.out j (by simp at h; omega) (by simpa using h)
      exact ⟨ret_int (by rw [runLen_all isBlankB s.data.toList hall]; simp; omega),rfl⟩
theorem runLength_nameByte (s : ByteArray) (w : World) (hs : s.size ≤ maxLen) :
    Calls Tryz.prog 95 #[.string s,.func (.func 96) #[] #[]] w fun e w' => e = .returned (.int .i64 (runLen isNameByteB s.data.toList)) ∧ w' = w := by
  unfold maxLen at hs
  go_enter Tryz.func95,Tryz.ntmps95
  go_wp2
  go_loop [5] (fun i => ∃ k : Nat,k ≤ s.size ∧ i = .int .i64 k ∧ (∀ j,(h : j < k) → (h' : j < s.size) → isNameByteB (s[j].toNat : Int) = true)) (fun i => s.size - (intOf i).toNat)
  case atStart => exact ⟨0,Nat.zero_le _,rfl,fun j h => by omega⟩
  case round =>
    obtain ⟨k,hk,rfl,hall⟩ := hrel
    have HA := hide hall; clear hall
    by_cases hlt : k < s.size
    · rcases hp : isNameByteB (s[k].toNat : Int) with _ | _
      · go_wp2_with (go_at_call 96; refine (isNameByte_any _ _).mono ?_; rintro e w' ⟨rfl,rfl⟩)
        go_ret
        exact ⟨ret_int (by rw [runLen_step isNameByteB s.data.toList k (by simpa using hlt) (fun j h => HA.out j h (by omega)) hp]),rfl⟩
      · go_wp2_with (go_at_call 96; refine (isNameByte_any _ _).mono ?_; rintro e w' ⟨rfl,rfl⟩)
        go_round
        case rel => exact ⟨k + 1,by omega,by go_num,fun j h h' => by
          by_cases e : j = k
          · subst e; exact hp
          · exact HA.out j (by omega) h'⟩
        case measure => simp [intOf]; omega
    · go_wp2
      go_ret
      have hall : ∀ j,(h : j < s.data.toList.length) → isNameByteB (s.data.toList[j].toNat : Int) = true := fun j h => HA.out j (by simp at h; omega) (by simpa using h)
      exact ⟨ret_int (by rw [runLen_all isNameByteB s.data.toList hall]; simp; omega),rfl⟩
theorem runLength_digit (s : ByteArray) (w : World) (hs : s.size ≤ maxLen) :
    Calls Tryz.prog 95 #[.string s,.func (.func 136) #[] #[]] w fun e w' => e = .returned (.int .i64 (runLen isDigitB s.data.toList)) ∧ w' = w := by
  unfold maxLen at hs
  go_enter Tryz.func95,Tryz.ntmps95
  go_wp2
  go_loop [5] (fun i => ∃ k : Nat,k ≤ s.size ∧ i = .int .i64 k ∧ (∀ j,(h : j < k) → (h' : j < s.size) → isDigitB (s[j].toNat : Int) = true)) (fun i => s.size - (intOf i).toNat)
  case atStart => exact ⟨0,Nat.zero_le _,rfl,fun j h => by omega⟩
  case round =>
    obtain ⟨k,hk,rfl,hall⟩ := hrel
    have HA := hide hall; clear hall
    by_cases hlt : k < s.size
    · rcases hp : isDigitB (s[k].toNat : Int) with _ | _
      · go_wp2_with (go_at_call 136; refine (isDigit_any _ _).mono ?_; rintro e w' ⟨rfl,rfl⟩)
        go_ret
        exact ⟨ret_int (by rw [runLen_step isDigitB s.data.toList k (by simpa using hlt) (fun j h => HA.out j h (by omega)) hp]),rfl⟩
      · go_wp2_with (go_at_call 136; refine (isDigit_any _ _).mono ?_; rintro e w' ⟨rfl,rfl⟩)
        go_round
        case rel => exact ⟨k + 1,by omega,by go_num,fun j h h' => by
          by_cases e : j = k
          · subst e; exact hp
          · exact HA.out j (by omega) h'⟩
        case measure => simp [intOf]; omega
    · go_wp2
      go_ret
      have hall : ∀ j,(h : j < s.data.toList.length) → isDigitB (s.data.toList[j].toNat : Int) = true := fun j h => HA.out j (by simp at h; omega) (by simpa using h)
      exact ⟨ret_int (by rw [runLen_all isDigitB s.data.toList hall]; simp; omega),rfl⟩
theorem isKeyword_any (s : ByteArray) (w : World) :
    Calls Tryz.prog 97 #[.string s] w fun e w' => e = .returned (.bool (isKwB s.data.toList)) ∧ w' = w := by
  have HT := hide (ByteArray.toList_eq s)
  rcases q0 : (s.toList == [117,115,101]) with _ | _
  rotate_left
  · have HK := hide (show isKwB s.data.toList = true by rw [← HT.out]; simp only [isKwB,keywords,List.contains_cons,q0,List.contains_nil,Bool.true_or,Bool.or_true,Bool.false_or,Bool.or_false])
    go_enter Tryz.func97,Tryz.ntmps97
    go_wp2
    go_ret
    exact ⟨ret_bool HK.out.symm,rfl⟩
  rcases q1 : (s.toList == [112,117,98]) with _ | _
  rotate_left
  · have HK := hide (show isKwB s.data.toList = true by rw [← HT.out]; simp only [isKwB,keywords,List.contains_cons,q0,q1,List.contains_nil,Bool.true_or,Bool.or_true,Bool.false_or,Bool.or_false])
    go_enter Tryz.func97,Tryz.ntmps97
    go_wp2
    go_ret
    exact ⟨ret_bool HK.out.symm,rfl⟩
  rcases q2 : (s.toList == [102,110]) with _ | _
  rotate_left
  · have HK := hide (show isKwB s.data.toList = true by rw [← HT.out]; simp only [isKwB,keywords,List.contains_cons,q0,q1,q2,List.contains_nil,Bool.true_or,Bool.or_true,Bool.false_or,Bool.or_false])
    go_enter Tryz.func97,Tryz.ntmps97
    go_wp2
    go_ret
    exact ⟨ret_bool HK.out.symm,rfl⟩
  rcases q3 : (s.toList == [105,102]) with _ | _
  rotate_left
  · have HK := hide (show isKwB s.data.toList = true by rw [← HT.out]; simp only [isKwB,keywords,List.contains_cons,q0,q1,q2,q3,List.contains_nil,Bool.true_or,Bool.or_true,Bool.false_or,Bool.or_false])
    go_enter Tryz.func97,Tryz.ntmps97
    go_wp2
    go_ret
    exact ⟨ret_bool HK.out.symm,rfl⟩
  rcases q4 : (s.toList == [116,104,101,110]) with _ | _
  rotate_left
  · have HK := hide (show isKwB s.data.toList = true by rw [← HT.out]; simp only [isKwB,keywords,List.contains_cons,q0,q1,q2,q3,q4,List.contains_nil,Bool.true_or,Bool.or_true,Bool.false_or,Bool.or_false])
    go_enter Tryz.func97,Tryz.ntmps97
    go_wp2
    go_ret
    exact ⟨ret_bool HK.out.symm,rfl⟩
  rcases q5 : (s.toList == [101,108,115,101]) with _ | _
  rotate_left
  · have HK := hide (show isKwB s.data.toList = true by rw [← HT.out]; simp only [isKwB,keywords,List.contains_cons,q0,q1,q2,q3,q4,q5,List.contains_nil,Bool.true_or,Bool.or_true,Bool.false_or,Bool.or_false])
    go_enter Tryz.func97,Tryz.ntmps97
    go_wp2
    go_ret
    exact ⟨ret_bool HK.out.symm,rfl⟩
  rcases q6 : (s.toList == [108,101,116]) with _ | _
  rotate_left
  · have HK := hide (show isKwB s.data.toList = true by rw [← HT.out]; simp only [isKwB,keywords,List.contains_cons,q0,q1,q2,q3,q4,q5,q6,List.contains_nil,Bool.true_or,Bool.or_true,Bool.false_or,Bool.or_false])
    go_enter Tryz.func97,Tryz.ntmps97
    go_wp2
    go_ret
    exact ⟨ret_bool HK.out.symm,rfl⟩
  rcases q7 : (s.toList == [105,110]) with _ | _
  rotate_left
  · have HK := hide (show isKwB s.data.toList = true by rw [← HT.out]; simp only [isKwB,keywords,List.contains_cons,q0,q1,q2,q3,q4,q5,q6,q7,List.contains_nil,Bool.true_or,Bool.or_true,Bool.false_or,Bool.or_false])
    go_enter Tryz.func97,Tryz.ntmps97
    go_wp2
    go_ret
    exact ⟨ret_bool HK.out.symm,rfl⟩
  rcases q8 : (s.toList == [116,114,117,101]) with _ | _
  rotate_left
  · have HK := hide (show isKwB s.data.toList = true by rw [← HT.out]; simp only [isKwB,keywords,List.contains_cons,q0,q1,q2,q3,q4,q5,q6,q7,q8,List.contains_nil,Bool.true_or,Bool.or_true,Bool.false_or,Bool.or_false])
    go_enter Tryz.func97,Tryz.ntmps97
    go_wp2
    go_ret
    exact ⟨ret_bool HK.out.symm,rfl⟩
  rcases q9 : (s.toList == [102,97,108,115,101]) with _ | _
  rotate_left
  · have HK := hide (show isKwB s.data.toList = true by rw [← HT.out]; simp only [isKwB,keywords,List.contains_cons,q0,q1,q2,q3,q4,q5,q6,q7,q8,q9,List.contains_nil,Bool.true_or,Bool.or_true,Bool.false_or,Bool.or_false])
    go_enter Tryz.func97,Tryz.ntmps97
    go_wp2
    go_ret
    exact ⟨ret_bool HK.out.symm,rfl⟩
  rcases q10 : (s.toList == [105,110,116]) with _ | _
  rotate_left
  · have HK := hide (show isKwB s.data.toList = true by rw [← HT.out]; simp only [isKwB,keywords,List.contains_cons,q0,q1,q2,q3,q4,q5,q6,q7,q8,q9,q10,List.contains_nil,Bool.true_or,Bool.or_true,Bool.false_or,Bool.or_false])
    go_enter Tryz.func97,Tryz.ntmps97
    go_wp2
    go_ret
    exact ⟨ret_bool HK.out.symm,rfl⟩
  rcases q11 : (s.toList == [98,111,111,108]) with _ | _
  rotate_left
  · have HK := hide (show isKwB s.data.toList = true by rw [← HT.out]; simp only [isKwB,keywords,List.contains_cons,q0,q1,q2,q3,q4,q5,q6,q7,q8,q9,q10,q11,List.contains_nil,Bool.true_or,Bool.or_true,Bool.false_or,Bool.or_false])
    go_enter Tryz.func97,Tryz.ntmps97
    go_wp2
    go_ret
    exact ⟨ret_bool HK.out.symm,rfl⟩
  have HK := hide (show isKwB s.data.toList = false by rw [← HT.out]; simp only [isKwB,keywords,List.contains_cons,q0,q1,q2,q3,q4,q5,q6,q7,q8,q9,q10,q11,List.contains_nil,Bool.true_or,Bool.or_true,Bool.false_or,Bool.or_false])
  go_enter Tryz.func97,Tryz.ntmps97
  go_wp2
  go_ret
  exact ⟨ret_bool HK.out.symm,rfl⟩
theorem nameKind_any (s : ByteArray) (w : World) :
    Calls Tryz.prog 199 #[.string s] w fun e w' => e = .returned (.int .i64 (nameKindB s.data.toList)) ∧ w' = w := by
  have HL := hide (show s.data.toList.length = s.size by simp)
  by_cases h1 : 8 < s.size
  · go_enter Tryz.func199,Tryz.ntmps199
    go_wp2
    go_ret
    exact ⟨by simp [nameKindB,h1],rfl⟩
  · rcases h2 : isKwB s.data.toList with _ | _ <;>
    (go_enter Tryz.func199,Tryz.ntmps199
     go_wp2_with (go_at_call 97; refine (isKeyword_any _ _).mono ?_; rintro e w' ⟨rfl,rfl⟩)
     go_ret
     exact ⟨by simp [nameKindB,h1,h2],rfl⟩)
theorem bytes_cons (s : ByteArray) (h0 : 0 < s.size) : s.data.toList = s[0] :: s.data.toList.drop 1 := by
  have : 0 < s.data.toList.length := by simpa using h0
  exact (List.getElem_cons_drop this).symm
theorem bytes_cons2 (s : ByteArray) (h0 : 1 < s.size) : s.data.toList = s[0] :: s[1] :: s.data.toList.drop 2 := by
  have h1 : 1 < s.data.toList.length := by simpa using h0
  have h2 : s.data.toList.drop 1 = s[1] :: s.data.toList.drop 2 := (List.getElem_cons_drop h1).symm
  rw [← h2]; exact bytes_cons s (by omega)
theorem bytes_one (s : ByteArray) (h0 : 0 < s.size) (h1 : ¬ 1 < s.size) : s.data.toList = [s[0]] := by
  have : s.data.toList.drop 1 = [] := by apply List.drop_of_length_le; simp; omega
  rw [bytes_cons s h0,this]
theorem signKind_any (s : ByteArray) (w : World) (h0 : 0 < s.size) :
    Calls Tryz.prog 200 #[.string s] w fun e w' => e = .returned (.tuple #[.int .i64 ((signKindB s.data.toList).1 : Nat),.int .i64 ((signKindB s.data.toList).2 : Nat)]) ∧ w' = w := by
  rcases e0 : ((s[0].toNat : Int) == 61) with _ | _
  rotate_left
  · by_cases h1 : 1 < s.size
    · have HT := hide (bytes_cons2 s h1)
      rcases e1 : ((s[1].toNat : Int) == 61) with _ | _ <;>
      (go_enter Tryz.func200,Tryz.ntmps200
       go_wp2
       go_ret2
       exact ⟨by rw [HT.out]; simp [signKindB,e0,e1],rfl⟩)
    · have HT := hide (bytes_one s h0 h1)
      go_enter Tryz.func200,Tryz.ntmps200
      go_wp2
      go_ret2
      exact ⟨by rw [HT.out]; simp [signKindB,e0],rfl⟩
  have HT := hide (bytes_cons s h0)
  rcases q0 : ((s[0].toNat : Int) == 40) with _ | _
  rotate_left
  · go_enter Tryz.func200,Tryz.ntmps200
    go_wp2
    go_ret2
    exact ⟨by rw [HT.out]; simp [signKindB,isSignB,e0,q0],rfl⟩
  rcases q1 : ((s[0].toNat : Int) == 41) with _ | _
  rotate_left
  · go_enter Tryz.func200,Tryz.ntmps200
    go_wp2
    go_ret2
    exact ⟨by rw [HT.out]; simp [signKindB,isSignB,e0,q0,q1],rfl⟩
  rcases q2 : ((s[0].toNat : Int) == 58) with _ | _
  rotate_left
  · go_enter Tryz.func200,Tryz.ntmps200
    go_wp2
    go_ret2
    exact ⟨by rw [HT.out]; simp [signKindB,isSignB,e0,q0,q1,q2],rfl⟩
  rcases q3 : ((s[0].toNat : Int) == 44) with _ | _
  rotate_left
  · go_enter Tryz.func200,Tryz.ntmps200
    go_wp2
    go_ret2
    exact ⟨by rw [HT.out]; simp [signKindB,isSignB,e0,q0,q1,q2,q3],rfl⟩
  rcases q4 : ((s[0].toNat : Int) == 59) with _ | _
  rotate_left
  · go_enter Tryz.func200,Tryz.ntmps200
    go_wp2
    go_ret2
    exact ⟨by rw [HT.out]; simp [signKindB,isSignB,e0,q0,q1,q2,q3,q4],rfl⟩
  rcases q5 : ((s[0].toNat : Int) == 60) with _ | _
  rotate_left
  · go_enter Tryz.func200,Tryz.ntmps200
    go_wp2
    go_ret2
    exact ⟨by rw [HT.out]; simp [signKindB,isSignB,e0,q0,q1,q2,q3,q4,q5],rfl⟩
  rcases q6 : ((s[0].toNat : Int) == 43) with _ | _
  rotate_left
  · go_enter Tryz.func200,Tryz.ntmps200
    go_wp2
    go_ret2
    exact ⟨by rw [HT.out]; simp [signKindB,isSignB,e0,q0,q1,q2,q3,q4,q5,q6],rfl⟩
  rcases q7 : ((s[0].toNat : Int) == 45) with _ | _
  rotate_left
  · go_enter Tryz.func200,Tryz.ntmps200
    go_wp2
    go_ret2
    exact ⟨by rw [HT.out]; simp [signKindB,isSignB,e0,q0,q1,q2,q3,q4,q5,q6,q7],rfl⟩
  rcases q8 : ((s[0].toNat : Int) == 42) with _ | _
  rotate_left
  · go_enter Tryz.func200,Tryz.ntmps200
    go_wp2
    go_ret2
    exact ⟨by rw [HT.out]; simp [signKindB,isSignB,e0,q0,q1,q2,q3,q4,q5,q6,q7,q8],rfl⟩
  rcases q9 : ((s[0].toNat : Int) == 47) with _ | _
  rotate_left
  · go_enter Tryz.func200,Tryz.ntmps200
    go_wp2
    go_ret2
    exact ⟨by rw [HT.out]; simp [signKindB,isSignB,e0,q0,q1,q2,q3,q4,q5,q6,q7,q8,q9],rfl⟩
  rcases q10 : ((s[0].toNat : Int) == 33) with _ | _
  rotate_left
  · go_enter Tryz.func200,Tryz.ntmps200
    go_wp2
    go_ret2
    exact ⟨by rw [HT.out]; simp [signKindB,isSignB,e0,q0,q1,q2,q3,q4,q5,q6,q7,q8,q9,q10],rfl⟩
  go_enter Tryz.func200,Tryz.ntmps200
  go_wp2
  go_ret2
  exact ⟨by rw [HT.out]; simp [signKindB,isSignB,e0,q0,q1,q2,q3,q4,q5,q6,q7,q8,q9,q10],rfl⟩
theorem bytes_extract (s : ByteArray) (a b : Nat) : (s.extract a b).data.toList = (s.data.toList.drop a).take (b - a) := by
  simp [List.extract]
end Go.Proofs.YtpmmjkiclngpmaaGreatDoor
namespace Go.Proofs.YtpmmjkiclngpmaaGreatDoor
open Go.RowKit
theorem ret_pair {k l : IntKind} {a b c d : Int} (h : a = b) (h' : c = d) : Ending.returned (.tuple #[.int k a,.int l c]) = .returned (.tuple #[.int k b,.int l d]) := by rw [h,h']
theorem firstWord_any (s : ByteArray) (w : World) (h0 : 0 < s.size) (hs : s.size ≤ 100000) :
    Calls Tryz.prog 154 #[.string s] w fun e w' => e = .returned (.tuple #[.int .i64 ((firstWordB s.data.toList).1 : Nat),.int .i64 ((firstWordB s.data.toList).2 : Nat)]) ∧ w' = w := by
  have HT := hide (bytes_cons s h0)
  have HL := hide (show s.data.toList.length = s.size by simp)
  have hm : s.size ≤ maxLen := by unfold maxLen; omega
  rcases e0 : isLetterB (s[0].toNat : Int) with _ | _
  rotate_left
  · have hr := runLen_le isNameByteB s.data.toList
    rw [HL.out] at hr
    have HF := hide (show firstWordB s.data.toList = (nameKindB (s.data.toList.take (runLen isNameByteB s.data.toList)),runLen isNameByteB s.data.toList) by rw [HT.out]; simp only [firstWordB,e0,if_true])
    have HE := hide (show nameKindB (s.extract 0 (runLen isNameByteB s.data.toList)).data.toList = nameKindB (s.data.toList.take (runLen isNameByteB s.data.toList)) by rw [bytes_extract]; simp)
    have HR := hide (runLength_nameByte s)
    generalize runLen isNameByteB s.data.toList = k at *
    go_enter Tryz.func154,Tryz.ntmps154
    go_wp2_with fail
    refine (isLetter_any _ _).mono ?_
    rintro e w' ⟨rfl,rfl⟩
    go_wp2_with fail
    refine (HR.out _ hm).mono ?_
    rintro e w' ⟨rfl,rfl⟩
    go_wp2_with fail
    refine (nameKind_any _ _).mono ?_
    rintro e w' ⟨rfl,rfl⟩
    go_wp2_with fail
    go_ret2
    exact ⟨ret_pair (by rw [HF.out]) (by rw [HF.out]),rfl⟩
  · rcases e1 : isDigitB (s[0].toNat : Int) with _ | _
    rotate_left
    · have hr := runLen_le isDigitB s.data.toList
      rw [HL.out] at hr
      have HF := hide (show firstWordB s.data.toList = (if 9 < runLen isDigitB s.data.toList then 1 else 3,runLen isDigitB s.data.toList) by rw [HT.out]; simp only [firstWordB,e0,e1,if_true,if_false,Bool.false_eq_true])
      have HR := hide (runLength_digit s)
      generalize runLen isDigitB s.data.toList = k at *
      by_cases h9 : 9 < k
      all_goals
        go_enter Tryz.func154,Tryz.ntmps154
        go_wp2_with fail
        refine (isLetter_any _ _).mono ?_
        rintro e w' ⟨rfl,rfl⟩
        go_wp2_with fail
        refine (isDigit_any _ _).mono ?_
        rintro e w' ⟨rfl,rfl⟩
        go_wp2_with fail
        refine (HR.out _ hm).mono ?_
        rintro e w' ⟨rfl,rfl⟩
        go_wp2_with fail
        go_ret2
        exact ⟨ret_pair (by rw [HF.out]; simp [h9]) (by rw [HF.out]),rfl⟩
    · have HF := hide (show firstWordB s.data.toList = signKindB s.data.toList by rw [HT.out]; simp only [firstWordB,e0,e1,if_true,if_false,Bool.false_eq_true])
      go_enter Tryz.func154,Tryz.ntmps154
      go_wp2_with fail
      refine (isLetter_any _ _).mono ?_
      rintro e w' ⟨rfl,rfl⟩
      go_wp2_with fail
      refine (isDigit_any _ _).mono ?_
      rintro e w' ⟨rfl,rfl⟩
      go_wp2_with fail
      refine (signKind_any _ _ h0).mono ?_
      rintro e w' ⟨rfl,rfl⟩
      go_wp2_with fail
      go_ret2
      exact ⟨ret_pair (by rw [HF.out]) (by rw [HF.out]),rfl⟩
def wdCells (x : Wd) : List Value := [.int .i64 x.kind,.string ⟨x.text.toArray⟩,.int .i64 x.place]
theorem str_extract (s : ByteArray) (a b : Nat) : s.extract a b = ⟨((s.data.toList.drop a).take (b - a)).toArray⟩ := by
  rw [← bytes_extract]
theorem info_word : (Tryz.prog.info? 274).map (fun i => (i.zero,i.size,i.bytes)) = some (some (.agg #[.int .i64 0,.string ⟨#[]⟩,.int .i64 0]),3,32) := by kernel_rfl
theorem own_le {w : World} {base : Nat} {e : TypeId} {size : Nat} {v : Value} {n : Nat} {xs : List Value} (h : w.ownsRow base e size v n xs) : ∀ k,v.ownBlock = some k → base ≤ k := by
  intro k hk
  rcases h.2 with ⟨rfl,_⟩ | ⟨g,cap,cur,rfl,hg,_⟩
  · simp [Value.ownBlock] at hk
  · simp [Value.ownBlock] at hk; omega
theorem splitWords_any (s : ByteArray) (w : World) (hs : s.size ≤ 100000) :
    Calls Tryz.prog 105 #[.string s] w fun e w' => ∃ v,e = .returned v ∧
      w'.ownsRow w.heap.size 274 3 v (splitFrom s.data.toList 0).length ((splitFrom s.data.toList 0).flatMap wdCells) ∧ Below w.heap.size w w' := by
  obtain ⟨i0,hi,hz0,hz1,hz2⟩ := info_parts info_word
  have HL := hide (show s.data.toList.length = s.size by simp)
  go_enter Tryz.func105,Tryz.ntmps105
  go_wp2
  go_loopw [3,4] (fun v i wr => ∃ (k : Nat) (ws : List Wd),k ≤ s.size ∧ i = .int .i64 k ∧ Hid (splitFrom s.data.toList 0 = ws ++ splitFrom (s.data.toList.drop k) k) ∧ ws.length ≤ k ∧
      wr.ownsRow w.heap.size 274 3 v ws.length (ws.flatMap wdCells) ∧ Below w.heap.size w wr) (fun _ i _ => s.size - (intOf i).toNat)
  case atStart => exact ⟨0,[],Nat.zero_le _,rfl,rfl,Nat.zero_le _,World.ownsRow_nil _ _ _ _,Below.refl _ _⟩
  case round =>
    obtain ⟨k,ws,hk,rfl,HS,hws,hown,hbel⟩ := hrel
    have hm : (s.extract k s.size).size ≤ maxLen := by unfold maxLen; simp; omega
    have HD := hide (show (s.extract k s.size).data.toList = s.data.toList.drop k by rw [bytes_extract]; apply List.take_of_length_le; simp)
    have hb := runLen_le isBlankB (s.extract k s.size).data.toList
    rw [HD.out] at hb
    simp only [List.length_drop,HL.out] at hb
    have HR := hide (runLength_blank (s.extract k s.size) wr hm)
    rw [HD.out] at HR
    have HE := hide (splitFrom_end (s.data.toList.drop k) k)
    have HC := hide (splitFrom_cons (s.data.toList.drop k) k)
    generalize runLen isBlankB (s.data.toList.drop k) = b at *
    by_cases hend : k + b = s.size
    · have hend' : ((k : Int) + (b : Int) == (s.size : Int)) = true := by simp; omega
      have HF := hide (HE.out (by rw [List.drop_drop]; apply List.drop_of_length_le; rw [HL.out]; omega))
      go_wp2_with fail
      refine HR.out.mono ?_
      rintro e w' ⟨rfl,rfl⟩
      go_wp2_with (at_builtin; refine wpList_append_own _ rfl _ _ 200 rfl w.heap.size 274 i0 (.agg #[.int .i64 0,.string ⟨#[]⟩,.int .i64 0]) 3 32 Tryz.underlying200 hi hz0 hz1 hz2 rfl (by decide) _ _ _ rfl (hown.alloc _) ⟨w'.heap.size,0,none⟩ 1 1 [.int .i64 0,.string ⟨#[]⟩,.int .i64 ((k : Int) + (b : Int))] rfl rfl ?c1 ?c2 ?c3 ?c4 ?c5 ?_)
      case c1 =>
        intro j u hj
        match j,hj with
        | 0,hj => simp at hj; subst hj; simp [Addr.add]
        | 1,hj => simp at hj; subst hj; simp [Addr.add]
        | 2,hj => simp at hj; subst hj; simp [Addr.add]
      case c2 => intro u hu; simp at hu; rcases hu with rfl | rfl | rfl <;> rfl
      case c3 => unfold maxLen; omega
      case c4 => omega
      case c5 => have := hbel.size; simp; omega
      intro v' w1 hown' hgrow _
      have HB := hide ((hbel.alloc hbel.size (.cells #[.int .i64 0,.string ⟨#[]⟩,.int .i64 ((k : Int) + (b : Int))] 274)).grown hgrow (by have := hbel.size; simp; omega) (own_le hown))
      clear hgrow hown hbel
      go_wp2
      go_ret
      refine ⟨v',rfl,?_,HB.out⟩
      rw [HS.out,HF.out]
      simpa [wdCells] using hown'
    · have hend' : ((k : Int) + (b : Int) == (s.size : Int)) = false := by simp; omega
      have hlt : k + b < s.size := by omega
      have h0 : 0 < (s.extract (k + b) s.size).size := by simp; omega
      have hsz : (s.extract (k + b) s.size).size ≤ 100000 := by simp; omega
      have HX := hide (show (s.extract (k + b) s.size).data.toList = s.data.toList.drop (k + b) by rw [bytes_extract]; apply List.take_of_length_le; simp)
      have hd : (s.data.toList.drop k).drop b = s[k + b] :: s.data.toList.drop (k + b + 1) := by
        rw [List.drop_drop]; exact (List.getElem_cons_drop (by rw [HL.out]; omega)).symm
      have HF := hide (HC.out _ _ hd)
      have hbd := firstWordB_bd s[k + b] (s.data.toList.drop (k + b + 1))
      rw [← hd,List.drop_drop] at hbd
      simp only [List.length_drop,HL.out] at hbd
      rw [← hd,List.drop_drop] at HF
      have HW := hide (fun w => firstWord_any (s.extract (k + b) s.size) w h0 hsz)
      rw [HX.out] at HW
      clear hd
      generalize hfk : (firstWordB (s.data.toList.drop (k + b))).1 = fk at *
      generalize hfl : (firstWordB (s.data.toList.drop (k + b))).2 = fl at *
      clear hfk hfl
      have HT := hide (show s.extract (k + b) (k + b + fl) = ⟨((s.data.toList.drop (k + b)).take fl).toArray⟩ by rw [str_extract]; simp)
      go_wp2_with fail
      refine HR.out.mono ?_
      rintro e w' ⟨rfl,rfl⟩
      go_wp2_with fail
      refine (HW.out _).mono ?_
      rintro e w1 ⟨rfl,rfl⟩
      go_wp2_with (at_builtin; refine wpList_append_own _ rfl _ _ 200 rfl w.heap.size 274 i0 (.agg #[.int .i64 0,.string ⟨#[]⟩,.int .i64 0]) 3 32 Tryz.underlying200 hi hz0 hz1 hz2 rfl (by decide) _ _ _ rfl (hown.alloc _) ⟨w1.heap.size,0,none⟩ 1 1 [.int .i64 fk,.string (s.extract (k + b) (k + b + fl)),.int .i64 ((k : Int) + (b : Int))] rfl rfl ?d1 ?d2 ?d3 ?d4 ?d5 ?_)
      case d1 =>
        intro j u hj
        match j,hj with
        | 0,hj => simp at hj; subst hj; simp [Addr.add]
        | 1,hj => simp at hj; subst hj; simp [Addr.add]
        | 2,hj => simp at hj; subst hj; simp [Addr.add]
      case d2 => intro u hu; simp at hu; rcases hu with rfl | rfl | rfl <;> rfl
      case d3 => unfold maxLen; omega
      case d4 => omega
      case d5 => have := hbel.size; simp; omega
      intro v' w2 hown' hgrow _
      have HB := hide ((hbel.alloc hbel.size (.cells #[.int .i64 fk,.string (s.extract (k + b) (k + b + fl)),.int .i64 ((k : Int) + (b : Int))] 274)).grown hgrow (by have := hbel.size; simp; omega) (own_le hown))
      clear hgrow hown hbel
      have HO := hide hown'
      clear hown'
      go_wp2
      go_roundw
      case rel =>
        refine ⟨k + b + fl,ws ++ [⟨fk,(s.data.toList.drop (k + b)).take fl,k + b⟩],by omega,by go_num,?_,by simp; omega,?_,HB.out⟩
        · show splitFrom s.data.toList 0 = _
          rw [HS.out,HF.out,List.drop_drop]; simp
        · have := HO.out
          rw [HT.out] at this
          simpa [wdCells] using this
      case measure => simp [intOf]; omega
end Go.Proofs.YtpmmjkiclngpmaaGreatDoor
namespace Go.Proofs.YtpmmjkiclngpmaaGreatDoor
open Go.RowKit
structure But (pb : Nat) (w w' : World) : Prop where
  os : w'.os = w.os
  tape : w'.tape = w.tape
  output : w'.output = w.output
  size : w.heap.size ≤ w'.heap.size
  block : ∀ k,k < w.heap.size → k ≠ pb → w'.heap[k]? = w.heap[k]?
theorem But.refl (pb : Nat) (w : World) : But pb w w := ⟨rfl,rfl,rfl,Nat.le_refl _,fun _ _ _ => rfl⟩
theorem But.trans {pb : Nat} {a b c : World} (h : But pb a b) (k : But pb b c) : But pb a c :=
  ⟨k.os.trans h.os,k.tape.trans h.tape,k.output.trans h.output,Nat.le_trans h.size k.size,fun i hi hne => (k.block i (Nat.lt_of_lt_of_le hi h.size) hne).trans (h.block i hi hne)⟩
theorem But.of_below {pb : Nat} {w w' : World} (h : Below w.heap.size w w') : But pb w w' := ⟨h.os,h.tape,h.output,h.size,fun k hk _ => h.block k hk⟩
theorem But.alloc {pb : Nat} {a w : World} (h : But pb a w) (o : Obj) : But pb a (w.alloc o) :=
  h.trans ⟨rfl,rfl,rfl,by simp,fun k hk _ => Below.heap_alloc _ _ _ hk⟩
theorem But.drew {pb : Nat} {a w : World} (h : But pb a w) : But pb a w.drew := ⟨h.os,h.tape,h.output,h.size,h.block⟩
theorem But.setCell {pb : Nat} {a w : World} (h : But pb a w) {p : Addr} (hp : p.block = pb ∨ a.heap.size ≤ p.block) (u : Value) : But pb a (w.setCell p u) :=
  ⟨h.os,h.tape,h.output,by have := h.size; simp [World.setCell]; omega,fun k hk hne => (Below.heap_setCell _ _ _ _ (by omega)).trans (h.block k hk hne)⟩
theorem But.cell {pb : Nat} {w w' : World} (h : But pb w w') {b : Nat} (hb : b < w.heap.size) (hne : b ≠ pb) (o : Nat) : w'.cell? ⟨b,o,none⟩ = w.cell? ⟨b,o,none⟩ := by
  simp only [World.cell?,h.block b hb hne]
structure Pl where
  pb : Nat
  g : Nat
  cap : Nat
  cur : Array Value
structure PS where
  i : Nat
  failed : Bool
  place : Nat
def PS.cur (ws : List Wd) (st : PS) : Wd := ws.getD st.i ⟨0,[],0⟩
def PS.next (ws : List Wd) (st : PS) : PS := { st with i := min (st.i + 1) (ws.length - 1) }
def PS.fail (ws : List Wd) (st : PS) : PS := ⟨ws.length - 1,true,if st.failed then st.place else (st.cur ws).place⟩
def PS.isAt (ws : List Wd) (st : PS) (l : List (List UInt8)) : Bool := (st.cur ws).kind == 4 && l.contains (st.cur ws).text
theorem PS.cur_eq {ws : List Wd} {st : PS} (h : st.i < ws.length) : ws[st.i] = st.cur ws := by
  simp [PS.cur,List.getD,List.getElem?_eq_getElem h]
structure Prs (P : Pl) (ws : List Wd) (st : PS) (w : World) : Prop where
  blk : w.heap[P.pb]? = some (.cells #[.slice (some ⟨P.g,0,none⟩) ws.length P.cap,.int .i64 st.i,.bool st.failed,.int .i64 st.place] 203 (0,0))
  row : w.heap[P.g]? = some (.cells P.cur 274 (0,0))
  cells : P.cur.toList.take (ws.length * 3) = ws.flatMap wdCells
  ne : P.g ≠ P.pb
  lt : st.i < ws.length
  small : ws.length ≤ 100001
  fits : ws.length ≤ P.cap
theorem flat3 (ws : List Wd) (i : Nat) (h : i < ws.length) : (ws.flatMap wdCells)[i * 3]? = some (.int .i64 ws[i].kind) ∧ (ws.flatMap wdCells)[i * 3 + 1]? = some (.string ⟨ws[i].text.toArray⟩) ∧ (ws.flatMap wdCells)[i * 3 + 2]? = some (.int .i64 ws[i].place) := by
  induction ws generalizing i with
  | nil => simp at h
  | cons x r ih =>
    cases i with
    | zero => simp [wdCells]
    | succ i =>
      have := ih i (by simpa using h)
      have e : (i + 1) * 3 = i * 3 + 3 := by omega
      simp only [List.flatMap_cons,wdCells,e,List.cons_append,List.nil_append,List.getElem?_cons_succ,List.getElem_cons_succ]
      exact this
theorem cell_block {w : World} {b : Nat} {c : Array Value} {e : TypeId} {f : Nat × Nat} (h : w.heap[b]? = some (.cells c e f)) (o : Nat) : w.cell? ⟨b,o,none⟩ = c[o]? := by
  simp [World.cell?,h]
theorem free_block {w : World} {b : Nat} {c : Array Value} {e : TypeId} (h : w.heap[b]? = some (.cells c e (0,0))) (o : Nat) : w.frozen? ⟨b,o,none⟩ = false := by
  simp [World.frozen?,h]
theorem Prs.word {P : Pl} {ws : List Wd} {st : PS} {w : World} (h : Prs P ws st w) (i : Nat) (hi : i < ws.length) :
    w.cell? ⟨P.g,i * 3,none⟩ = some (.int .i64 ws[i].kind) ∧ w.cell? ⟨P.g,i * 3 + 1,none⟩ = some (.string ⟨ws[i].text.toArray⟩) ∧ w.cell? ⟨P.g,i * 3 + 2,none⟩ = some (.int .i64 ws[i].place) := by
  have hf := flat3 ws i hi
  have hl : ∀ j,j < 3 → P.cur[i * 3 + j]? = (ws.flatMap wdCells)[i * 3 + j]? := by
    intro j hj
    rw [← h.cells,List.getElem?_take]
    rw [if_pos (by omega)]; simp
  rw [cell_block h.row,cell_block h.row,cell_block h.row]
  exact ⟨(hl 0 (by omega)).trans hf.1,(hl 1 (by omega)).trans hf.2.1,(hl 2 (by omega)).trans hf.2.2⟩
theorem Prs.field {P : Pl} {ws : List Wd} {st : PS} {w : World} (h : Prs P ws st w) :
    w.cell? ⟨P.pb,0,none⟩ = some (.slice (some ⟨P.g,0,none⟩) ws.length P.cap) ∧ w.cell? ⟨P.pb,1,none⟩ = some (.int .i64 st.i) ∧
    w.cell? ⟨P.pb,2,none⟩ = some (.bool st.failed) ∧ w.cell? ⟨P.pb,3,none⟩ = some (.int .i64 st.place) := by
  refine ⟨?_,?_,?_,?_⟩ <;> rw [cell_block h.blk] <;> rfl
theorem lt_of_some {w : World} {b : Nat} {o : Obj} (h : w.heap[b]? = some o) : b < w.heap.size := by
  rcases Nat.lt_or_ge b w.heap.size with h' | h'
  · exact h'
  · rw [Array.getElem?_eq_none h'] at h; cases h
theorem Prs.below {P : Pl} {ws : List Wd} {st : PS} {w w' : World} (h : Prs P ws st w) (hb : Below w.heap.size w w') : Prs P ws st w' :=
  ⟨(hb.block _ (lt_of_some h.blk)).trans h.blk,(hb.block _ (lt_of_some h.row)).trans h.row,h.cells,h.ne,h.lt,h.small,h.fits⟩
theorem Prs.curWord {P : Pl} {ws : List Wd} {st : PS} {w : World} (h : Prs P ws st w) :
    w.cell? ⟨P.g,st.i * 3,none⟩ = some (.int .i64 (st.cur ws).kind) ∧ w.cell? ⟨P.g,st.i * 3 + 1,none⟩ = some (.string ⟨(st.cur ws).text.toArray⟩) ∧ w.cell? ⟨P.g,st.i * 3 + 2,none⟩ = some (.int .i64 (st.cur ws).place) := by
  have := h.word st.i h.lt
  rw [PS.cur_eq h.lt] at this
  exact this
theorem Prs.but {P : Pl} {ws : List Wd} {st st' : PS} {w w' : World} (h : Prs P ws st w) (hb : But P.pb w w')
    (hk : w'.heap[P.pb]? = some (.cells #[.slice (some ⟨P.g,0,none⟩) ws.length P.cap,.int .i64 st'.i,.bool st'.failed,.int .i64 st'.place] 203 (0,0)))
    (hi : st'.i < ws.length) : Prs P ws st' w' :=
  ⟨hk,(hb.block _ (lt_of_some h.row) h.ne).trans h.row,h.cells,h.ne,hi,h.small,h.fits⟩
theorem block_setCell {w : World} {b : Nat} {c : Array Value} {e : TypeId} {f : Nat × Nat} (h : w.heap[b]? = some (.cells c e f)) (o : Nat) (u : Value) :
    (w.setCell ⟨b,o,none⟩ u).heap[b]? = some (.cells (c.setIfInBounds o u) e f) := by
  simp [World.setCell,Array.getElem?_modify,h]
theorem block_alloc {w : World} {b : Nat} {x : Obj} (h : w.heap[b]? = some x) (o : Obj) : (w.alloc o).heap[b]? = some x :=
  (Below.heap_alloc w o b (lt_of_some h)).trans h
theorem block_new (w : World) (o : Obj) : (w.alloc o).heap[w.heap.size]? = some o := by
  show (w.heap.push o)[w.heap.size]? = _
  simp
theorem block_new2 (w : World) (o o' : Obj) : ((w.alloc o).alloc o').heap[w.heap.size + 1]? = some o' := by
  have := block_new (w.alloc o) o'
  rwa [show (w.alloc o).heap.size = w.heap.size + 1 by simp] at this
theorem block_drew {w : World} {b : Nat} {x : Obj} (h : w.heap[b]? = some x) : w.drew.heap[b]? = some x := h
theorem PS.next_lt {ws : List Wd} {st : PS} (h : st.i < ws.length) : (st.next ws).i < ws.length := by simp only [PS.next]; omega
theorem PS.fail_lt {ws : List Wd} {st : PS} (h : st.i < ws.length) : (st.fail ws).i < ws.length := by simp only [PS.fail]; omega
theorem Prs.setAt {P : Pl} {ws : List Wd} {st : PS} {w : World} (h : Prs P ws st w) (b o : Nat) (u : Value) (h1 : b ≠ P.pb) (h2 : b ≠ P.g) : Prs P ws st (w.setCell ⟨b,o,none⟩ u) :=
  ⟨(Below.heap_setCell _ _ _ _ (Ne.symm h1)).trans h.blk,(Below.heap_setCell _ _ _ _ (Ne.symm h2)).trans h.row,h.cells,h.ne,h.lt,h.small,h.fits⟩
structure Ok (P : Pl) (ws : List Wd) (w0 : World) (st : PS) (w : World) : Prop where
  p1 : P.pb < w0.heap.size
  p2 : P.g < w0.heap.size
  but : But P.pb w0 w
  prs : Prs P ws st w
theorem Ok.refl {P : Pl} {ws : List Wd} {st : PS} {w : World} (h : Prs P ws st w) : Ok P ws w st w := ⟨lt_of_some h.blk,lt_of_some h.row,But.refl _ _,h⟩
theorem Ok.go {P : Pl} {ws : List Wd} {st st' : PS} {w0 w w' : World} (h : Ok P ws w0 st w) (k : But P.pb w w' ∧ Prs P ws st' w') : Ok P ws w0 st' w' := ⟨h.p1,h.p2,h.but.trans k.1,k.2⟩
theorem Ok.trans {P : Pl} {ws : List Wd} {st st' : PS} {w0 w w' : World} (h : Ok P ws w0 st w) (k : Ok P ws w st' w') : Ok P ws w0 st' w' := ⟨h.p1,h.p2,h.but.trans k.but,k.prs⟩
theorem Ok.below {P : Pl} {ws : List Wd} {st : PS} {w0 w w' : World} (h : Ok P ws w0 st w) (k : Below w.heap.size w w') : Ok P ws w0 st w' := h.go ⟨But.of_below k,h.prs.below k⟩
theorem Ok.alloc {P : Pl} {ws : List Wd} {st : PS} {w0 w : World} (h : Ok P ws w0 st w) (o : Obj) : Ok P ws w0 st (w.alloc o) := h.below ((Below.refl _ _).alloc (Nat.le_refl _) o)
theorem Ok.drew {P : Pl} {ws : List Wd} {st : PS} {w0 w : World} (h : Ok P ws w0 st w) : Ok P ws w0 st w.drew := h.below ((Below.refl _ _).drew)
theorem Ok.set {P : Pl} {ws : List Wd} {st : PS} {w0 w : World} (h : Ok P ws w0 st w) (b o : Nat) (u : Value) (hb : w0.heap.size ≤ b) : Ok P ws w0 st (w.setCell ⟨b,o,none⟩ u) :=
  ⟨h.p1,h.p2,h.but.setCell (p := ⟨b,o,none⟩) (Or.inr hb) u,h.prs.setAt b o u (by have := h.p1; omega) (by have := h.p2; omega)⟩
theorem Ok.set5 {P : Pl} {ws : List Wd} {st : PS} {w0 w : World} (h : Ok P ws w0 st w) (b : Nat) (hb : w0.heap.size ≤ b) (c0 c1 c2 c3 c4 : Value) :
    Ok P ws w0 st (((((w.setCell ⟨b,0,none⟩ c0).setCell ⟨b,1,none⟩ c1).setCell ⟨b,2,none⟩ c2).setCell ⟨b,3,none⟩ c3).setCell ⟨b,4,none⟩ c4) :=
  ((((h.set b 0 c0 hb).set b 1 c1 hb).set b 2 c2 hb).set b 3 c3 hb).set b 4 c4 hb
theorem Ok.set3 {P : Pl} {ws : List Wd} {st : PS} {w0 w : World} (h : Ok P ws w0 st w) (b : Nat) (hb : w0.heap.size ≤ b) (c0 c1 c2 : Value) :
    Ok P ws w0 st (((w.setCell ⟨b,0,none⟩ c0).setCell ⟨b,1,none⟩ c1).setCell ⟨b,2,none⟩ c2) :=
  ((h.set b 0 c0 hb).set b 1 c1 hb).set b 2 c2 hb
theorem Ok.size {P : Pl} {ws : List Wd} {st : PS} {w0 w : World} (h : Ok P ws w0 st w) : w0.heap.size ≤ w.heap.size := h.but.size
theorem fieldw0 (a b c : Value) (w : World) : (Instr.field 274 (.agg #[a,b,c]) 0).run Tryz.prog w = .ok a w := by kernel_rfl
theorem fieldw1 (a b c : Value) (w : World) : (Instr.field 274 (.agg #[a,b,c]) 1).run Tryz.prog w = .ok b w := by kernel_rfl
theorem fieldw2 (a b c : Value) (w : World) : (Instr.field 274 (.agg #[a,b,c]) 2).run Tryz.prog w = .ok c w := by kernel_rfl
end Go.Proofs.YtpmmjkiclngpmaaGreatDoor
namespace Go.Proofs.YtpmmjkiclngpmaaGreatDoor
def WdOk (x : Wd) : Prop := x.kind = 3 → 0 < x.text.length ∧ x.text.length ≤ 9 ∧ ∀ c ∈ x.text,isDigitB (c.toNat : Int) = true
theorem runLen_take (pb : Int → Bool) (l : List UInt8) : ∀ c ∈ l.take (runLen pb l),pb (c.toNat : Int) = true := by
  induction l with
  | nil => simp
  | cons d r ih =>
    simp only [runLen]
    split
    · intro c hc
      simp only [List.take_succ_cons,List.mem_cons] at hc
      rcases hc with rfl | hc
      · assumption
      · exact ih c hc
    · simp
theorem nameKindB_ne (t : List UInt8) : nameKindB t ≠ 3 ∧ nameKindB t ≠ 0 := by
  unfold nameKindB; split
  · simp
  · split <;> simp
theorem signKindB_ne (l : List UInt8) : (signKindB l).1 ≠ 3 ∧ (signKindB l).1 ≠ 0 := by
  unfold signKindB
  split
  · simp
  · split
    · split
      · simp
      · split <;> simp
    · split <;> simp
theorem firstWordB_ok (c : UInt8) (r : List UInt8) (p : Nat) : WdOk ⟨(firstWordB (c :: r)).1,(c :: r).take (firstWordB (c :: r)).2,p⟩ ∧ (firstWordB (c :: r)).1 ≠ 0 := by
  unfold firstWordB
  dsimp only
  split
  · exact ⟨fun h => absurd h (nameKindB_ne _).1,(nameKindB_ne _).2⟩
  · split
    · rename_i hd
      refine ⟨fun h => ?_,?_⟩
      · have hl := runLen_le isDigitB (c :: r)
        have hp := runLen_pos isDigitB c r hd
        have h9 : ¬ 9 < runLen isDigitB (c :: r) := by
          intro h9
          simp [h9] at h
        refine ⟨?_,?_,runLen_take _ _⟩ <;> (rw [List.length_take]; omega)
      · split <;> simp
    · exact ⟨fun h => absurd h (signKindB_ne _).1,(signKindB_ne _).2⟩
theorem splitN_ok (n : Nat) (l : List UInt8) (p : Nat) : ∀ x ∈ splitN n l p,WdOk x := by
  induction n generalizing l p with
  | zero => simp [splitN]
  | succ n ih =>
    simp only [splitN]
    split
    · intro x hx
      simp at hx
      subst hx
      intro h
      simp at h
    · rename_i c r _
      intro x hx
      simp only [List.mem_cons] at hx
      rcases hx with rfl | hx
      · exact (firstWordB_ok c r _).1
      · exact ih _ _ x hx
theorem splitFrom_ok (l : List UInt8) (p : Nat) : ∀ x ∈ splitFrom l p,WdOk x := splitN_ok _ _ _
theorem splitN_last (n : Nat) (l : List UInt8) (p : Nat) (h : l.length < n) : ∃ r x,splitN n l p = r ++ [x] ∧ x.kind = 0 ∧ r.length ≤ l.length := by
  induction n generalizing l p with
  | zero => omega
  | succ n ih =>
    simp only [splitN]
    split
    · exact ⟨[],_,rfl,rfl,by simp⟩
    · rename_i c r hd
      have hb := firstWordB_bd c r
      have hl : (l.drop (runLen isBlankB l)).length = (c :: r).length := by rw [hd]
      simp only [List.length_drop,List.length_cons] at hl hb
      obtain ⟨q,x,e,hk,hq⟩ := ih ((c :: r).drop (firstWordB (c :: r)).2) (p + runLen isBlankB l + (firstWordB (c :: r)).2) (by simp only [List.length_drop,List.length_cons]; omega)
      refine ⟨_ :: q,x,by rw [e]; rfl,hk,?_⟩
      simp only [List.length_drop,List.length_cons] at hq ⊢
      omega
theorem splitFrom_last (l : List UInt8) (p : Nat) : ∃ r x,splitFrom l p = r ++ [x] ∧ x.kind = 0 ∧ r.length ≤ l.length := splitN_last _ _ _ (by omega)
end Go.Proofs.YtpmmjkiclngpmaaGreatDoor
