/- YtpmmjkiclngpmaaGreatDoorV13 -/
import Derived.Test.YtpmmjkiclngpmaaGreatDoorV03
import Derived.Test.YtpmmjkiclngpmaaGreatDoorV11
import Derived.Test.YtpmmjkiclngpmaaGreatDoorV01
import Derived.Test.YtpmmjkiclngpmaaGreatDoorV08
import Derived.Test.YtpmmjkiclngpmaaGreatDoorV12
import Derived.Test.YtpmmjkiclngpmaaGreatDoorB41
set_option maxRecDepth 100000
set_option linter.unusedSimpArgs false
set_option linter.unusedVariables false
set_option maxHeartbeats 12800000
namespace Go.Proofs.YtpmmjkiclngpmaaGreatDoor
open Go.RowKit
def tyB (b : Bool) : List UInt8 := if b then [98,111,111,108] else [105,110,116]
def tyC (b : Bool) : Nat := if b then 2 else 1
def line (k : Nat) (b : Bool) (n : Nat) : List UInt8 := [112,117,98,32,102,110,32] ++ nameF k ++ [40,120,58,32] ++ tyB b ++ [41,58,32,105,110,116,32,61,32] ++ textB n ++ [59,10]
def lineW (k : Nat) (b : Bool) (n p : Nat) : List Wd :=
  [⟨4,[112,117,98],p⟩,⟨4,[102,110],p + 4⟩,⟨2,nameF k,p + 7⟩,⟨4,[40],p + 9⟩,⟨2,[120],p + 10⟩,⟨4,[58],p + 11⟩,⟨4,tyB b,p + 13⟩,⟨4,[41],p + 13 + (tyB b).length⟩,⟨4,[58],p + 14 + (tyB b).length⟩,⟨4,[105,110,116],p + 16 + (tyB b).length⟩,⟨4,[61],p + 20 + (tyB b).length⟩,
   ⟨3,textB n,p + 22 + (tyB b).length⟩,⟨4,[59],p + 22 + (tyB b).length + (textB n).length⟩]
theorem nameF4 {k : Nat} (h : k < 4) : nameF k = [102,digitB k] := by unfold nameF; rw [textB_small k (by omega)]; rfl
theorem lx_nameF {k : Nat} (h : k < 4) : Lx (nameF k) (fun p => [⟨2,nameF k,p⟩]) := by
  rw [nameF4 h]
  rcases four h with rfl | rfl | rfl | rfl
  · exact lx_w (by decide) (by decide) (by decide) rfl
  · exact lx_w (by decide) (by decide) (by decide) rfl
  · exact lx_w (by decide) (by decide) (by decide) rfl
  · exact lx_w (by decide) (by decide) (by decide) rfl
theorem lx_x : Lx [120] (fun p => [⟨2,[120],p⟩]) := lx_w (by decide) (by decide) (by decide) rfl
theorem lx_ty (b : Bool) : Lx (tyB b) (fun p => [⟨4,tyB b,p⟩]) := by
  cases b
  · exact lx_int
  · exact lx_bool
theorem lf_line {k : Nat} (h : k < 4) (b : Bool) {n : Nat} (hn : n < 1000) : Lf (line k b n) (lineW k b n) := by
  have hN : (nameF k).length = 2 := by rw [nameF4 h]; rfl
  have := ((((((((lx_pub.then lf_bl ⟨_,_,rfl,by decide⟩).append (lx_fn.then lf_bl ⟨_,_,rfl,by decide⟩)).append ((lx_nameF h).then lf_40 ⟨_,_,rfl,by decide⟩)).append (lx_x.then (lf_58.append lf_bl) ⟨_,_,rfl,by decide⟩)).append ((lx_ty b).then ((lf_41.append lf_58).append lf_bl) ⟨_,_,rfl,by decide⟩)).append (lx_int.then lf_bl ⟨_,_,rfl,by decide⟩)).append Lf.equal1).append ((lx_num hn).1.then (lf_59.append lf_10) ⟨_,_,rfl,by decide⟩))
  refine this.cast (by simp [line]) fun p => ?_
  simp [lineW,hN]
  omega
theorem line_len {k : Nat} (h : k < 4) (b : Bool) (n : Nat) : (line k b n).length = 24 + (tyB b).length + (textB n).length := by
  unfold line; rw [nameF4 h]; simp; omega
def libF (k : Nat) (b : Bool) (n p : Nat) : Fun := ⟨nameF k,p + 7,true,[⟨[120],p + 10,tyC b⟩],1,⟨0,p + 22 + (tyB b).length,[],(n : Int),[]⟩⟩
variable {ws : List Wd} {ex : PS → Ex × PS} {pl : Nat}
theorem fun_readX {st : PS} {b ty ty2 q0 q1 q2 q3 q4 q5 q6 q7 q8 : Nat} {nm pn tx tx2 : List UInt8} {e : Ex} {la : PS} (hs : (st.skipTo ws [112,117,98]).expect ws [102,110] = ⟨b,false,pl⟩)
    (h0 : ws[b]? = some ⟨2,nm,q0⟩) (h1 : ws[b + 1]? = some ⟨4,[40],q1⟩) (h2 : ws[b + 2]? = some ⟨2,pn,q2⟩) (h3 : ws[b + 3]? = some ⟨4,[58],q3⟩) (h4 : ws[b + 4]? = some ⟨4,tx2,q4⟩) (h5 : ws[b + 5]? = some ⟨4,[41],q5⟩)
    (h6 : ws[b + 6]? = some ⟨4,[58],q6⟩) (h7 : ws[b + 7]? = some ⟨4,tx,q7⟩) (h8 : ws[b + 8]? = some ⟨4,[61],q8⟩) (hty : tx = [105,110,116] ∧ ty = 1 ∨ tx = [98,111,111,108] ∧ ty = 2) (hty2 : tx2 = [105,110,116] ∧ ty2 = 1 ∨ tx2 = [98,111,111,108] ∧ ty2 = 2) (hl : b + 9 < ws.length) (he : ex ⟨b + 9,false,pl⟩ = (e,la)) :
    funR ws ex st = (⟨nm,q0,st.isAt ws [[112,117,98]],[⟨pn,q2,ty2⟩],ty,e⟩,la.expect ws [59]) := by
  have n0 := name_w (pl := pl) h0 (by omega)
  have n1 := expect_w (pl := pl) h1 (by omega)
  have n2 := name_w (pl := pl) h2 (by omega)
  have n3 := expect_w (pl := pl) h3 (by omega)
  have n4 : (⟨b + 4,false,pl⟩ : PS).typTo ws = ⟨b + 5,false,pl⟩ ∧ (⟨b + 4,false,pl⟩ : PS).typ ws = ty2 := by
    rcases hty2 with ⟨rfl,rfl⟩ | ⟨rfl,rfl⟩
    · exact int_w h4 (by omega)
    · exact bool_w h4 (by omega)
  have n5 := expect_w (pl := pl) h5 (by omega)
  have n6 := expect_w (pl := pl) h6 (by omega)
  have n8 := expect_w (pl := pl) h8 (by omega)
  have n7 : (⟨b + 7,false,pl⟩ : PS).typTo ws = ⟨b + 8,false,pl⟩ ∧ (⟨b + 7,false,pl⟩ : PS).typ ws = ty := by
    rcases hty with ⟨rfl,rfl⟩ | ⟨rfl,rfl⟩
    · exact int_w h7 (by omega)
    · exact bool_w h7 (by omega)
  have p2 : (⟨b + 2,false,pl⟩ : PS).isAt ws [[41]] = false := by rw [isAt_w h2]; rfl
  have hp : prmsR ws ⟨b + 1,false,pl⟩ = ([⟨pn,q2,ty2⟩],⟨b + 6,false,pl⟩) := by
    unfold prmsR
    simp only [n1,p2,if_false,Bool.false_eq_true]
    have hpr : paramR ws ⟨b + 1 + 1,false,pl⟩ = (⟨pn,q2,ty2⟩,⟨b + 5,false,pl⟩) := by
      unfold paramR
      rw [show b + 1 + 1 = b + 2 from rfl,n2.1,n2.2,n3,n4.1,n4.2]
    rw [hpr]
    simp only
    rw [prms_none h5 (by rfl)]
    simp only
    rw [n5]
  unfold funR
  simp only [hs,n0.1,n0.2,hp,n6,n7.1,n7.2,n8,he]
theorem ty_cases (b : Bool) : tyB b = [105,110,116] ∧ tyC b = 1 ∨ tyB b = [98,111,111,108] ∧ tyC b = 2 := by cases b; exact Or.inl ⟨rfl,rfl⟩; exact Or.inr ⟨rfl,rfl⟩
theorem funs_line {k : Nat} (hk : k < 4) {b : Bool} {n p i m : Nat} (hn : n < 1000) (h : Has ws i (lineW k b n p)) (hl : i + 13 < ws.length) (hw : 1 ≤ ws.length) :
    funsN ws (rd ws ws.length).1 (m + 1) ⟨i,false,0⟩ = (libF k b n p :: (funsN ws (rd ws ws.length).1 m ⟨i + 13,false,0⟩).1,(funsN ws (rd ws ws.length).1 m ⟨i + 13,false,0⟩).2) := by
  have hat : ∀ j x,(lineW k b n p)[j]? = some x → ws[i + j]? = some x := h
  have h00 : ws[i]? = some ⟨4,[112,117,98],p⟩ := hat 0 _ rfl
  have he : (rd ws ws.length).1 ⟨i + 2 + 9,false,0⟩ = (⟨0,p + 22 + (tyB b).length,[],(n : Int),[]⟩,⟨i + 2 + 9 + 1,false,0⟩) := by
    have := XR.num (textB n) ws (i + 11) (p + 22 + (tyB b).length) 0 ws.length (fun j x hj => by
      cases j with
      | zero => exact hat 11 x hj
      | succ j => simp at hj) (by show i + 11 + 1 < ws.length; omega) ⟨_,hat 12 _ rfl,fun _ => by rfl⟩ hw
    rw [(lx_num hn).2.1] at this
    exact this
  have hs : ((⟨i,false,0⟩ : PS).skipTo ws [112,117,98]).expect ws [102,110] = ⟨i + 2,false,0⟩ := by
    rw [skip_w h00 (by omega),expect_w (hat 1 _ rfl) (by omega)]
  have hp : (⟨i,false,0⟩ : PS).isAt ws [[112,117,98]] = true := by rw [isAt_w h00]; rfl
  have hp2 : (⟨i,false,0⟩ : PS).isAt ws [[112,117,98],[102,110]] = true := by rw [isAt_w h00]; rfl
  have hf := fun_readX (ws := ws) (ex := (rd ws ws.length).1) (b := i + 2) (ty := 1) (ty2 := tyC b) hs (hat 2 _ rfl) (hat 3 _ rfl) (hat 4 _ rfl) (hat 5 _ rfl) (hat 6 _ rfl) (hat 7 _ rfl) (hat 8 _ rfl) (hat 9 _ rfl) (hat 10 _ rfl) (Or.inl ⟨rfl,rfl⟩) (ty_cases b) (by omega) he
  rw [hp,expect_w (hat 12 _ rfl) (by omega)] at hf
  rw [funsN,hp2,if_pos rfl,hf]
  rfl
def libT (vs : Nat → Nat) (bs : Nat → Bool) : List UInt8 := line 0 (bs 0) (vs 0) ++ line 1 (bs 1) (vs 1) ++ line 2 (bs 2) (vs 2) ++ line 3 (bs 3) (vs 3)
def libM (vs : Nat → Nat) (bs : Nat → Bool) (p1 p2 p3 : Nat) : Mod := ⟨[],[libF 0 (bs 0) (vs 0) 0,libF 1 (bs 1) (vs 1) p1,libF 2 (bs 2) (vs 2) p2,libF 3 (bs 3) (vs 3) p3]⟩
theorem parsed_lib (vs : Nat → Nat) (bs : Nat → Bool) (hv : ∀ i,i < 4 → vs i < 1000) : ∃ p1 p2 p3,parsed (libT vs bs) = (libM vs bs p1 p2 p3,⟨52,false,0⟩) := by
  have hl := ((lf_line (show 0 < 4 by omega) (bs 0) (hv 0 (by omega))).append (lf_line (show 1 < 4 by omega) (bs 1) (hv 1 (by omega)))).append (lf_line (show 2 < 4 by omega) (bs 2) (hv 2 (by omega))) |>.append (lf_line (show 3 < 4 by omega) (bs 3) (hv 3 (by omega)))
  have hs := hl 0 []
  rw [List.append_nil,split_nil] at hs
  simp only [Nat.zero_add] at hs
  refine ⟨(line 0 (bs 0) (vs 0)).length,(line 0 (bs 0) (vs 0) ++ line 1 (bs 1) (vs 1)).length,(line 0 (bs 0) (vs 0) ++ line 1 (bs 1) (vs 1) ++ line 2 (bs 2) (vs 2)).length,?_⟩
  unfold parsed
  rw [show splitFrom (libT vs bs) 0 = _ from hs]
  generalize (line 0 (bs 0) (vs 0)).length = p1
  generalize (line 0 (bs 0) (vs 0) ++ line 1 (bs 1) (vs 1)).length = p2
  generalize (line 0 (bs 0) (vs 0) ++ line 1 (bs 1) (vs 1) ++ line 2 (bs 2) (vs 2)).length = p3
  generalize (line 0 (bs 0) (vs 0) ++ line 1 (bs 1) (vs 1) ++ line 2 (bs 2) (vs 2) ++ line 3 (bs 3) (vs 3)).length = p4
  generalize hws : lineW 0 (bs 0) (vs 0) 0 ++ lineW 1 (bs 1) (vs 1) p1 ++ lineW 2 (bs 2) (vs 2) p2 ++ lineW 3 (bs 3) (vs 3) p3 ++ [⟨0,[],p4⟩] = ws
  have hwl : ws.length = 53 := by rw [← hws]; rfl
  have g0 : Has ws 0 (lineW 0 (bs 0) (vs 0) 0) := by rw [← hws]; exact fun j x hj => by rw [Nat.zero_add]; have := (List.getElem?_eq_some_iff.1 hj).1; rw [List.append_assoc,List.append_assoc,List.append_assoc,List.getElem?_append_left this]; exact hj
  have g1 : Has ws 13 (lineW 1 (bs 1) (vs 1) p1) := by
    rw [← hws,List.append_assoc,List.append_assoc,List.append_assoc]
    exact has_mid (lineW 0 (bs 0) (vs 0) 0) _ _
  have g2 : Has ws 26 (lineW 2 (bs 2) (vs 2) p2) := by
    rw [← hws,List.append_assoc,List.append_assoc]
    exact has_mid (lineW 0 (bs 0) (vs 0) 0 ++ lineW 1 (bs 1) (vs 1) p1) _ _
  have g3 : Has ws 39 (lineW 3 (bs 3) (vs 3) p3) := by
    rw [← hws,List.append_assoc]
    exact has_mid (lineW 0 (bs 0) (vs 0) 0 ++ lineW 1 (bs 1) (vs 1) p1 ++ lineW 2 (bs 2) (vs 2) p2) _ _
  have g4 : ws[52]? = some ⟨0,[],p4⟩ := by rw [← hws]; rfl
  have hn : funsN ws (rd ws ws.length).1 ws.length ⟨0,false,0⟩ = ([libF 0 (bs 0) (vs 0) 0,libF 1 (bs 1) (vs 1) p1,libF 2 (bs 2) (vs 2) p2,libF 3 (bs 3) (vs 3) p3],⟨52,false,0⟩) := by
    have key : ∀ m,funsN ws (rd ws ws.length).1 (m + 1 + 1 + 1 + 1 + 1) ⟨0,false,0⟩ = ([libF 0 (bs 0) (vs 0) 0,libF 1 (bs 1) (vs 1) p1,libF 2 (bs 2) (vs 2) p2,libF 3 (bs 3) (vs 3) p3],⟨52,false,0⟩) := fun m => by
      rw [funs_line (show 0 < 4 by omega) (hv 0 (by omega)) g0 (by omega) (by omega),funs_line (show 1 < 4 by omega) (hv 1 (by omega)) g1 (by omega) (by omega),funs_line (show 2 < 4 by omega) (hv 2 (by omega)) g2 (by omega) (by omega),funs_line (show 3 < 4 by omega) (hv 3 (by omega)) g3 (by omega) (by omega)]
      rw [funs_none (i := 39 + 13) g4 (by rfl)]
    have := key 48
    rw [show 48 + 1 + 1 + 1 + 1 + 1 = ws.length by omega] at this
    exact this
  have hi := imps_none (pl := 0) (n := ws.length) (g0 0 _ rfl) (by rfl)
  unfold modR
  rw [hi]
  simp only [hn]
  rw [cur_w g4]
  rfl
theorem lib_form (vs : Nat → Nat) (bs : Nat → Bool) (hv : ∀ i,i < 4 → vs i < 1000) : ∃ p1 p2 p3,formOf (libT vs bs) = some (libM vs bs p1 p2 p3) := by
  obtain ⟨p1,p2,p3,h⟩ := parsed_lib vs bs hv
  exact ⟨p1,p2,p3,by unfold formOf; rw [h]; rfl⟩
theorem text3 : ∀ n,n < 1000 → (textB n).length ≤ 3 := by decide +kernel
theorem lib_len (vs : Nat → Nat) (bs : Nat → Bool) (hv : ∀ i,i < 4 → vs i < 1000) : (libT vs bs).length ≤ 600 := by
  have t : ∀ b,(tyB b).length ≤ 4 := fun b => by cases b <;> decide
  unfold libT
  rw [List.length_append,List.length_append,List.length_append,line_len (by omega),line_len (by omega),line_len (by omega),line_len (by omega)]
  have a0 := text3 _ (hv 0 (by omega)); have a1 := text3 _ (hv 1 (by omega)); have a2 := text3 _ (hv 2 (by omega)); have a3 := text3 _ (hv 3 (by omega))
  have b0 := t (bs 0); have b1 := t (bs 1); have b2 := t (bs 2); have b3 := t (bs 3)
  omega
end Go.Proofs.YtpmmjkiclngpmaaGreatDoor
namespace Go.Proofs.YtpmmjkiclngpmaaGreatDoor
open Go.RowKit
abbrev Ns : Nm := [110,111,116,104,105,110,103]
abbrev Lb : Nm := [108,105,98]
abbrev Mn : Nm := [109,97,105,110]
def argB (b : Bool) : List UInt8 := if b then [116,114,117,101] else [55]
def argX (b : Bool) (p : Nat) : Ex := if b then ⟨1,p,[],1,[]⟩ else ⟨0,p,[],7,[]⟩
def pieceT (i : Nat) : Option Bool → List UInt8
  | none => []
  | some b => [32,43,32] ++ nameF i ++ [40] ++ argB b ++ [41]
def stepX (i : Nat) (x : Ex × Nat) : Option Bool → Ex × Nat
  | none => x
  | some b => (⟨9,43,[],0,[x.1,⟨3,x.2 + 3,nameF i,0,[argX b (x.2 + 6)]⟩]⟩,x.2 + 7 + (argB b).length)
def frontK : List UInt8 := [117,115,101,32,110,111,116,104,105,110,103,59,32,117,115,101,32,108,105,98,59,32,112,117,98,32,102,110,32,109,97,105,110,40,41,58,32,105,110,116,32,61,32,48]
def cliT4 (o0 o1 o2 o3 : Option Bool) : List UInt8 := frontK ++ pieceT 0 o0 ++ pieceT 1 o1 ++ pieceT 2 o2 ++ pieceT 3 o3 ++ [59]
def body4 (o0 o1 o2 o3 : Option Bool) : Ex := (stepX 3 (stepX 2 (stepX 1 (stepX 0 (⟨0,43,[],0,[]⟩,44) o0) o1) o2) o3).1
abbrev mainF (e : Ex) : Fun := ⟨Mn,29,true,[],1,e⟩
def cliM4 (o0 o1 o2 o3 : Option Bool) : Mod := ⟨[⟨Ns,4⟩,⟨Lb,17⟩],[mainF (body4 o0 o1 o2 o3)]⟩
theorem cli_form4 (o0 o1 o2 o3 : Option Bool) : formOf (cliT4 o0 o1 o2 o3) = some (cliM4 o0 o1 o2 o3) := by
  rcases o0 with _ | _ | _ <;> rcases o1 with _ | _ | _ <;> rcases o2 with _ | _ | _ <;> rcases o3 with _ | _ | _ <;> kernel_rfl
abbrev Cl := Nat → Option Bool
def cliT (o : Cl) : List UInt8 := cliT4 (o 0) (o 1) (o 2) (o 3)
def bodyO (o : Cl) : Ex := body4 (o 0) (o 1) (o 2) (o 3)
def cliM (o : Cl) : Mod := ⟨[⟨Ns,4⟩,⟨Lb,17⟩],[mainF (bodyO o)]⟩
theorem cli_form (o : Cl) : formOf (cliT o) = some (cliM o) := cli_form4 _ _ _ _
theorem cli_len (o : Cl) : (cliT o).length ≤ 600 := by
  have p : ∀ i,i < 4 → ∀ x,(pieceT i x).length ≤ 20 := fun i hi x => by
    rcases x with _ | b
    · simp [pieceT]
    · unfold pieceT; rw [nameF4 hi]; cases b <;> simp [argB]
  unfold cliT cliT4 frontK
  have a0 := p 0 (by omega) (o 0); have a1 := p 1 (by omega) (o 1); have a2 := p 2 (by omega) (o 2); have a3 := p 3 (by omega) (o 3)
  simp only [List.length_append,List.length_cons,List.length_nil]
  omega
theorem cli_ok (o : Cl) : MOk 601 (cliM o) := formOf_ok (cli_len o) (cli_form o)
theorem tell8 {s : KS} (h : s.code = 0 ∨ s.code = 8) (p : Nat) : (s.tell 8 p).code = 8 := by
  unfold KS.tell
  split
  · rfl
  · next hn =>
    rcases h with h | h
    · exact absurd (by unfold KS.tells; simp [h]) hn
    · exact h
def Tb (look : Look) (D : Nat) (e : Ex) (c : Bool) : Prop := ∀ m s,D ≤ m → (s.code = 0 ∨ s.code = 8) → (tyN look m e s).1 = 1 ∧ (tyN look m e s).2.code = if s.code = 0 ∧ c = true then 0 else 8
theorem Tb.num (look : Look) (p : Nat) (v : Int) : Tb look 2 ⟨0,p,[],v,[]⟩ true := fun m s hm hs => by
  obtain ⟨k,rfl⟩ : ∃ k,m = k + 1 := ⟨m - 1,by omega⟩
  refine ⟨rfl,?_⟩
  show s.code = _
  rcases hs with h | h <;> simp [h]
def okB (o : Option Bool) (b : Bool) : Bool := match o with | none => true | some a => a == b
theorem Tb.step {look : Look} {D : Nat} {x : Ex × Nat} {c : Bool} (h : Tb look D x.1 c) (hD : 2 ≤ D) (i : Nat) (o : Option Bool) (b' : Bool) (hs : o ≠ none → look.sig (nameF i) = some ([tyC b'],1)) : Tb look (D + 1) (stepX i x o).1 (c && okB o b') := by
  rcases o with _ | b
  · intro m s hm hc
    have := h m s (by omega) hc
    simpa [stepX,okB] using this
  have hs := hs (by simp)
  intro m s hm hc
  obtain ⟨k,rfl⟩ : ∃ k,m = k + 1 + 1 + 1 := ⟨m - 3,by omega⟩
  obtain ⟨t1,c1⟩ := h (k + 1 + 1) s (by omega) hc
  have e : tyN look (k + 1 + 1 + 1) (stepX i x (some b)).1 s = (1,mustK (tyN look (k + 1 + 1)) 1 ⟨3,x.2 + 3,nameF i,0,[argX b (x.2 + 6)]⟩ (mustK (tyN look (k + 1 + 1)) 1 x.1 s)) := rfl
  have m1 : mustK (tyN look (k + 1 + 1)) 1 x.1 s = (tyN look (k + 1 + 1) x.1 s).2 := by unfold mustK; rw [t1]; rfl
  rw [e,m1]
  generalize (tyN look (k + 1 + 1) x.1 s).2 = s1 at *
  have hs1 : s1.code = 0 ∨ s1.code = 8 := by rw [c1]; split <;> simp
  refine ⟨rfl,?_⟩
  have e2 : tyN look (k + 1 + 1) ⟨3,x.2 + 3,nameF i,0,[argX b (x.2 + 6)]⟩ s1 = (1,mustK (tyN look (k + 1)) (tyC b') (argX b (x.2 + 6)) (s1.saw (look.use (nameF i)))) := by
    show callK look (tyN look (k + 1)) ⟨3,x.2 + 3,nameF i,0,[argX b (x.2 + 6)]⟩ s1 = _
    unfold callK
    simp only [hs]
    rfl
  have e3 : ∀ s2,tyN look (k + 1) (argX b (x.2 + 6)) s2 = (tyC b,s2) := fun s2 => by cases b <;> rfl
  have e4 : (mustK (tyN look (k + 1)) (tyC b') (argX b (x.2 + 6)) (s1.saw (look.use (nameF i)))).code = if s1.code = 0 ∧ b = b' then 0 else 8 := by
    unfold mustK
    rw [e3]
    have h2 : (s1.saw (look.use (nameF i))).code = 0 ∨ (s1.saw (look.use (nameF i))).code = 8 := hs1
    cases b <;> cases b' <;> simp only [tyC,wrongT] <;> simp
    · rcases hs1 with h | h <;> simp [h]
    · exact tell8 h2 _
    · exact tell8 h2 _
    · rcases hs1 with h | h <;> simp [h]
  have e5 : (mustK (tyN look (k + 1 + 1)) 1 ⟨3,x.2 + 3,nameF i,0,[argX b (x.2 + 6)]⟩ s1).code = if s1.code = 0 ∧ b = b' then 0 else 8 := by
    rw [← e4]
    show (mustK (tyN look (k + 1 + 1)) 1 _ s1).code = _
    conv => lhs; unfold mustK
    rw [e2]
    rfl
  show (mustK (tyN look (k + 1 + 1)) 1 ⟨3,x.2 + 3,nameF i,0,[argX b (x.2 + 6)]⟩ s1).code = _
  rw [e5,c1]
  by_cases h0 : s.code = 0 <;> cases c <;> cases b <;> cases b' <;> simp [h0,okB]
def okO (o : Cl) (bs : Nat → Bool) : Bool := okB (o 0) (bs 0) && okB (o 1) (bs 1) && okB (o 2) (bs 2) && okB (o 3) (bs 3)
theorem cli_chk {E : Nm → Option Mod} {N L : Mod} (hN : E Ns = some N) (hL : E Lb = some L) (o : Cl) (bs : Nat → Bool) (h : ∀ i,i < 4 → o i ≠ none → lookV (cliM o) (imsE E (cliM o)) (nameF i) = some ([tyC (bs i)],1)) :
    (chkE E (cliM o)).code = if okO o bs = true then 0 else 8 := by
  have hp : ptsE E (cliM o) = [some ⟨0,0,none⟩,some ⟨0,0,none⟩] := by
    show [(E Ns).map _,(E Lb).map _] = _
    rw [hN,hL]; rfl
  have ht : Tb (lookE (cliM o) (imsE E (cliM o))) 6 (bodyO o) (okO o bs) := by
    have a0 := (Tb.num (lookE (cliM o) (imsE E (cliM o))) 43 0).step (x := (⟨0,43,[],0,[]⟩,44)) (by omega) 0 (o 0) (bs 0) (h 0 (by omega))
    have a1 := a0.step (by omega) 1 (o 1) (bs 1) (h 1 (by omega))
    have a2 := a1.step (by omega) 2 (o 2) (bs 2) (h 2 (by omega))
    have a3 := a2.step (by omega) 3 (o 3) (bs 3) (h 3 (by omega))
    simpa [okO,bodyO,body4] using a3
  obtain ⟨t1,t2⟩ := ht 701 ⟨[],0,0,[]⟩ (by omega) (Or.inl rfl)
  unfold chkE modK
  rw [hp]
  show (mustK (tyN (lookE (cliM o) (imsE E (cliM o))) 701) 1 (bodyO o) ⟨[],0,0,[]⟩).code = _
  unfold mustK
  rw [t1]
  show (tyN (lookE (cliM o) (imsE E (cliM o))) 701 (bodyO o) ⟨[],0,0,[]⟩).2.code = _
  rw [t2]
  simp
def Cbn (D : Nat) (e : Ex) (P : Nm → Prop) : Prop := ∀ m n,D ≤ m → (CallsIn m e n ↔ P n)
theorem Cbn.num (p : Nat) (v : Int) : Cbn 2 ⟨0,p,[],v,[]⟩ (fun _ => False) := fun m n hm => by
  obtain ⟨k,rfl⟩ : ∃ k,m = k + 1 := ⟨m - 1,by omega⟩
  simp [CallsIn]
theorem Cbn.step {D : Nat} {x : Ex × Nat} {P : Nm → Prop} (h : Cbn D x.1 P) (hD : 2 ≤ D) (i : Nat) (o : Option Bool) : Cbn (D + 1) (stepX i x o).1 (fun n => P n ∨ (o ≠ none ∧ n = nameF i)) := by
  intro m n hm
  rcases o with _ | b
  · have := h m n (by omega)
    simpa [stepX] using this
  · obtain ⟨k,rfl⟩ : ∃ k,m = k + 1 + 1 + 1 := ⟨m - 3,by omega⟩
    have h1 := h (k + 1 + 1) n (by omega)
    have h2 : CallsIn (k + 1 + 1) ⟨3,x.2 + 3,nameF i,0,[argX b (x.2 + 6)]⟩ n ↔ n = nameF i := by
      have : ¬ CallsIn (k + 1) (argX b (x.2 + 6)) n := by cases b <;> simp [argX,CallsIn]
      constructor
      · rintro (⟨_,h⟩ | ⟨y,hy,h⟩)
        · exact h.symm
        · have hy' : y = argX b (x.2 + 6) := by simpa using hy
          rw [hy'] at h
          exact absurd h this
      · rintro rfl; exact Or.inl ⟨rfl,rfl⟩
    constructor
    · rintro (⟨h3,_⟩ | ⟨y,hy,hc⟩)
      · exact absurd h3 (by simp [stepX])
      · have hy' : y = x.1 ∨ y = ⟨3,x.2 + 3,nameF i,0,[argX b (x.2 + 6)]⟩ := by simpa [stepX] using hy
        rcases hy' with rfl | rfl
        · exact Or.inl (h1.1 hc)
        · exact Or.inr ⟨by simp,h2.1 hc⟩
    · rintro (hp | ⟨_,hn⟩)
      · exact Or.inr ⟨x.1,by simp [stepX],h1.2 hp⟩
      · exact Or.inr ⟨_,by simp [stepX],h2.2 hn⟩
theorem cli_calls (o : Cl) (n : Nm) : CallsM 700 (cliM o).funs n ↔ ∃ i,i < 4 ∧ o i ≠ none ∧ n = nameF i := by
  have a := ((((Cbn.num 43 0).step (x := (⟨0,43,[],0,[]⟩,44)) (by omega) 0 (o 0)).step (by omega) 1 (o 1)).step (by omega) 2 (o 2)).step (by omega) 3 (o 3)
  have b : CallsIn 701 (bodyO o) n ↔ _ := a 701 n (by omega)
  unfold CallsM
  constructor
  · rintro ⟨f,hf,hc⟩
    have : f = mainF (bodyO o) := by simpa [cliM] using hf
    subst this
    rcases b.1 hc with (((h | h) | h) | h) | h
    · exact absurd h (by simp)
    · exact ⟨0,by omega,h⟩
    · exact ⟨1,by omega,h⟩
    · exact ⟨2,by omega,h⟩
    · exact ⟨3,by omega,h⟩
  · rintro ⟨i,hi,h⟩
    refine ⟨mainF (bodyO o),by simp [cliM],b.2 ?_⟩
    rcases four hi with rfl | rfl | rfl | rfl
    · exact Or.inl (Or.inl (Or.inl (Or.inr h)))
    · exact Or.inl (Or.inl (Or.inr h))
    · exact Or.inl (Or.inr h)
    · exact Or.inr h
def Vb (Fs : List PF) (cal : Nm → Nat) (D : Nat) (e : Ex) (v : Nat) (k : Nat) : Prop := ∀ n d f,D ≤ n → 1 ≤ d → k ≤ f → ev Fs n d cal [] [] f e = ((v : Int),f - k,0)
theorem Vb.num (Fs : List PF) (cal : Nm → Nat) (p v : Nat) : Vb Fs cal 3 ⟨0,p,[],(v : Int),[]⟩ v 0 := fun n d f hn _ _ => by
  obtain ⟨k,rfl⟩ : ∃ k,n = k + 1 := ⟨n - 1,by omega⟩
  rw [ev_num]; rfl
def addO (v : Nat) (o : Option Bool) (w : Nat) : Nat := if o = none then v else v + w
def cntO (k : Nat) (o : Option Bool) : Nat := if o = none then k else k + 1
theorem Vb.step {Fs : List PF} {cal : Nm → Nat} {D : Nat} {x : Ex × Nat} {v k : Nat} (h : Vb Fs cal D x.1 v k) (hD : 3 ≤ D) (i : Nat) (o : Option Bool) (w : Nat) (hv : v ≤ 100000) (hw : w ≤ 10000) (hF : o ≠ none → ∃ F q,Fs[cal (nameF i)]? = some F ∧ F.params.length = 1 ∧ F.body = ⟨0,q,[],(w : Int),[]⟩) :
    Vb Fs cal (D + 1) (stepX i x o).1 (addO v o w) (cntO k o) := by
  rcases o with _ | b
  · intro n d f hn hd hf
    have := h n d f (by omega) hd (by simpa [cntO] using hf)
    simpa [stepX,addO,cntO] using this
  obtain ⟨F,q,f1,f2,f3⟩ := hF (by simp)
  intro n d f hn hd hf
  obtain ⟨j,rfl⟩ : ∃ j,n = j + 1 + 1 + 1 := ⟨n - 3,by omega⟩
  have hk : k + 1 ≤ f := by simpa [cntO] using hf
  have h1 := h (j + 1 + 1) d f (by omega) hd (by omega)
  have ha : ∀ fu,∃ y,ev Fs (j + 1) d cal [] [] fu (argX b (x.2 + 6)) = (y,fu,0) := fun fu => by
    cases b
    · exact ⟨7,ev_num _ _ _ _ _ _ _ _ _ _ _⟩
    · exact ⟨1,by simp [argX,ev]⟩
  obtain ⟨y,hy⟩ := ha (f - k)
  have h2 : ev Fs (j + 1 + 1) d cal [] [] (f - k) ⟨3,x.2 + 3,nameF i,0,[argX b (x.2 + 6)]⟩ = ((w : Int),f - k - 1,0) := by
    rw [ev_call hy f1 f2,if_neg (by omega),if_neg (by omega),f3,ev_num]
  show ev Fs (j + 1 + 1 + 1) d cal [] [] f ⟨9,43,[],0,[x.1,⟨3,x.2 + 3,nameF i,0,[argX b (x.2 + 6)]⟩]⟩ = _
  rw [ev_bin (by omega) (by omega) h1 h2,if_neg (by omega)]
  have e9 : bin2 9 (v : Int) (w : Int) = wrap64 ((v : Int) + (w : Int)) := by unfold bin2; simp
  rw [e9,wrap_sm (by omega) (by omega)]
  simp [addO,cntO,Nat.sub_sub]
def totO (o : Cl) (w : Nat → Nat) : Nat := addO (addO (addO (addO 0 (o 0) (w 0)) (o 1) (w 1)) (o 2) (w 2)) (o 3) (w 3)
theorem cli_val {Fs : List PF} {cal : Nm → Nat} (o : Cl) (w : Nat → Nat) (hw : ∀ i,i < 4 → w i ≤ 10000) (hF : ∀ i,i < 4 → o i ≠ none → ∃ F q,Fs[cal (nameF i)]? = some F ∧ F.params.length = 1 ∧ F.body = ⟨0,q,[],(w i : Int),[]⟩) :
    ∃ k,k ≤ 4 ∧ Vb Fs cal 7 (bodyO o) (totO o w) k := by
  have b : ∀ v o w,w ≤ 10000 → addO v o w ≤ v + 10000 := fun v o w h => by unfold addO; split <;> omega
  have c : ∀ k o,cntO k o ≤ k + 1 := fun k o => by unfold cntO; split <;> omega
  have w0 := hw 0 (by omega); have w1 := hw 1 (by omega); have w2 := hw 2 (by omega); have w3 := hw 3 (by omega)
  have v0 := b 0 (o 0) _ w0
  have v1 := b (addO 0 (o 0) (w 0)) (o 1) _ w1
  have v2 := b (addO (addO 0 (o 0) (w 0)) (o 1) (w 1)) (o 2) _ w2
  have a0 := (Vb.num Fs cal 43 0).step (x := (⟨0,43,[],0,[]⟩,44)) (by omega) 0 (o 0) (w 0) (by omega) w0 (hF 0 (by omega))
  have a1 := a0.step (by omega) 1 (o 1) (w 1) (by omega) w1 (hF 1 (by omega))
  have a2 := a1.step (by omega) 2 (o 2) (w 2) (by omega) w2 (hF 2 (by omega))
  have a3 := a2.step (by omega) 3 (o 3) (w 3) (by omega) w3 (hF 3 (by omega))
  have k0 := c 0 (o 0); have k1 := c (cntO 0 (o 0)) (o 1); have k2 := c (cntO (cntO 0 (o 0)) (o 1)) (o 2); have k3 := c (cntO (cntO (cntO 0 (o 0)) (o 1)) (o 2)) (o 3)
  exact ⟨_,by omega,a3⟩
theorem main_ne {i : Nat} (h : i < 4) : ¬ Mn = nameF i := by rw [nameF4 h]; simp
theorem useV_cli (E : Nm → Option Mod) (o : Cl) {i : Nat} (h : i < 4) : useV (cliM o) (imsE E (cliM o)) (nameF i) = ⟨Ns,nameF i,seenT (E Ns) (nameF i)⟩ :: (match expG (E Ns) (nameF i) with | some _ => [] | none => [⟨Lb,nameF i,seenT (E Lb) (nameF i)⟩]) := by
  unfold useV
  have e : firstG false (nameF i) (cliM o).funs = none := by
    show (if (false = true → true = true) ∧ Mn = nameF i then some (mainF (bodyO o)) else none) = none
    rw [if_neg (fun h' => main_ne h h'.2)]
  rw [e]
  have e1 : useI (nameF i) [(⟨Lb,17⟩,E Lb)] = [⟨Lb,nameF i,seenT (E Lb) (nameF i)⟩] := by
    show (⟨Lb,nameF i,seenT (E Lb) (nameF i)⟩ : Us) :: (match expG (E Lb) (nameF i) with | some _ => [] | none => []) = _
    rcases expG (E Lb) (nameF i) with _ | _ <;> rfl
  show (⟨Ns,nameF i,seenT (E Ns) (nameF i)⟩ : Us) :: (match expG (E Ns) (nameF i) with | some _ => [] | none => useI (nameF i) [(⟨Lb,17⟩,E Lb)]) = _
  rw [e1]
theorem lookV_cli (E : Nm → Option Mod) (o : Cl) {i : Nat} (h : i < 4) : lookV (cliM o) (imsE E (cliM o)) (nameF i) = (match expG (E Ns) (nameF i) with | some f => some f | none => expG (E Lb) (nameF i)).map sigOf := by
  unfold lookV
  have e : firstG false (nameF i) (cliM o).funs = none := by
    show (if (false = true → true = true) ∧ Mn = nameF i then some (mainF (bodyO o)) else none) = none
    rw [if_neg (fun h' => main_ne h h'.2)]
  rw [e]
  show (lookI (nameF i) [E Ns,E Lb]).map sigOf = _
  rw [lookI_exp]
  rcases expG (E Ns) (nameF i) with _ | f
  · simp only
    rw [lookI_exp]
    rcases expG (E Lb) (nameF i) with _ | f <;> rfl
  · rfl
theorem symV_cli (E : Nm → Option Mod) (nm : Nm) (o : Cl) {i : Nat} (h : i < 4) : symV nm (cliM o) (imsE E (cliM o)) (nameF i) = ((match expG (E Ns) (nameF i) with | some _ => Ns | none => match expG (E Lb) (nameF i) with | some _ => Lb | none => []),nameF i) := by
  unfold symV
  have e : firstG false (nameF i) (cliM o).funs = none := by
    show (if (false = true → true = true) ∧ Mn = nameF i then some (mainF (bodyO o)) else none) = none
    rw [if_neg (fun h' => main_ne h h'.2)]
  rw [e]
  show (whoI (nameF i) [(⟨Ns,4⟩,E Ns),(⟨Lb,17⟩,E Lb)],nameF i) = _
  congr 1
theorem usesE_in {nm : Nm} {E : Nm → Option Mod} {md : Mod} (hok : MOk 601 md) {u : Us} (h : u ∈ usesE nm E md) : u.s = seenT (E u.m) u.n ∧ (∃ i ∈ md.imports,u.m = i.name) ∧ (u.n = [] ∨ CallsM 700 md.funs u.n) := by
  unfold usesE usesOf at h
  obtain ⟨x,hx,rfl⟩ := List.mem_map.1 h
  have hx' := compactL_mem _ hx
  unfold sortL at hx'
  have hx2 := (List.mergeSort_perm _ _).mem_iff.1 hx'
  rcases List.mem_append.1 hx2 with h1 | h1
  · obtain ⟨u',hu',rfl⟩ := List.mem_map.1 h1
    obtain ⟨n,hn,hv⟩ := lk_seen hok hu'
    obtain ⟨a,b,c⟩ := useV_seen hv
    refine ⟨rfl,c,Or.inr ?_⟩
    show CallsM 700 md.funs u'.n
    rw [a]; exact hn
  · obtain ⟨i,hi,rfl⟩ := List.mem_map.1 h1
    exact ⟨rfl,⟨i,hi,rfl⟩,Or.inl rfl⟩
theorem usesE_hs {nm : Nm} {E : Nm → Option Mod} {md : Mod} (hok : MOk 601 md) {n : Nm} (hn : CallsM 700 md.funs n) {u : Us} (hu : u ∈ useV md (imsE E md) n) : (⟨u.m,u.n,seenT (E u.m) u.n⟩ : Us) ∈ usesE nm E md := by
  have hm : u ∈ (objE nm E md).2 := by
    unfold objE
    rw [compK_mem hok.trees]
    refine Or.inr ⟨n,hn,?_⟩
    show u ∈ (useV md (imsE E md) n).take 1000
    rw [List.take_of_length_le (useV_lim hok E n)]
    exact hu
  exact usesOf_has (sf := sfE E) (x := keyU u) (List.mem_append.2 (Or.inl (List.mem_map.2 ⟨u,hm,rfl⟩)))
theorem comp_obj {E : Nm → Option Mod} {nm : Nm} {t : List UInt8} {x : Option Ob} {md : Mod} (hf : formOf t = some md) (h : (chkE E md).code = 0) : (compM E ⟨nm,t,x⟩).1.1 = 0 ∧ (compM E ⟨nm,t,x⟩).2 = some ⟨t,(objE nm E md).1,usesE nm E md⟩ := by
  unfold compM
  rw [hf]
  simp only
  rw [if_pos h]
  exact ⟨h,rfl⟩
theorem curr_iff {E E0 : Nm → Option Mod} {nm : Nm} {t : List UInt8} {x : Option Ob} {md : Mod} (hf : formOf t = some md) (h : (chkE E0 md).code = 0) : curr E ⟨nm,t,(compM E0 ⟨nm,t,x⟩).2⟩ = true ↔ ∀ u ∈ usesE nm E0 md,seenT (E u.m) u.n = u.s := by
  rw [(comp_obj hf h).2]
  unfold curr
  simp [holdsU]
theorem curr_alone {E E0 : Nm → Option Mod} {nm : Nm} {t : List UInt8} {x : Option Ob} {md : Mod} (hf : formOf t = some md) (hl : t.length ≤ 600) (h : (chkE E0 md).code = 0) (hi : md.imports = []) : curr E ⟨nm,t,(compM E0 ⟨nm,t,x⟩).2⟩ = true := by
  rw [curr_iff hf h]
  intro u hu
  obtain ⟨_,⟨i,hi',_⟩,_⟩ := usesE_in (formOf_ok hl hf) hu
  rw [hi] at hi'; cases hi'
theorem curr_other {E E0 : Nm → Option Mod} {nm : Nm} {t t' : List UInt8} {x : Option Ob} (ht : t ≠ t') : curr E ⟨nm,t',(compM E0 ⟨nm,t,x⟩).2⟩ = false := by
  unfold curr
  rcases ho : (compM E0 ⟨nm,t,x⟩).2 with _ | o
  · rfl
  · have : o.text = t := by
      unfold compM at ho
      split at ho
      · cases ho
      · simp only at ho
        split at ho
        · cases ho; rfl
        · cases ho
    simp [this,ht]
theorem curr_yes {E E0 : Nm → Option Mod} {nm : Nm} {x : Option Ob} {o : Cl} (h0 : (chkE E0 (cliM o)).code = 0) (hN : seenT (E Ns) [] = seenT (E0 Ns) []) (hL : seenT (E Lb) [] = seenT (E0 Lb) []) (h : ∀ i,i < 4 → o i ≠ none → seenT (E Ns) (nameF i) = seenT (E0 Ns) (nameF i) ∧ seenT (E Lb) (nameF i) = seenT (E0 Lb) (nameF i)) :
    curr E ⟨nm,cliT o,(compM E0 ⟨nm,cliT o,x⟩).2⟩ = true := by
  rw [curr_iff (cli_form o) h0]
  intro u hu
  obtain ⟨a,⟨i,hi,b⟩,c⟩ := usesE_in (cli_ok o) hu
  rw [a]
  have hm : u.m = Ns ∨ u.m = Lb := by
    have : i = ⟨Ns,4⟩ ∨ i = ⟨Lb,17⟩ := by simpa [cliM] using hi
    rcases this with rfl | rfl
    · exact Or.inl b
    · exact Or.inr b
  rcases c with c | c
  · rw [c]; rcases hm with e | e <;> rw [e]; exact hN; exact hL
  · obtain ⟨j,hj,ho,e⟩ := (cli_calls o _).1 c
    rw [e]
    rcases hm with e | e <;> rw [e]
    · exact (h j hj ho).1
    · exact (h j hj ho).2
theorem curr_no {E E0 : Nm → Option Mod} {nm : Nm} {x : Option Ob} {o : Cl} (h0 : (chkE E0 (cliM o)).code = 0) {i : Nat} (hi : i < 4) (ho : o i ≠ none) (h : seenT (E Ns) (nameF i) ≠ seenT (E0 Ns) (nameF i) ∨ (expG (E0 Ns) (nameF i) = none ∧ seenT (E Lb) (nameF i) ≠ seenT (E0 Lb) (nameF i))) :
    curr E ⟨nm,cliT o,(compM E0 ⟨nm,cliT o,x⟩).2⟩ = false := by
  rw [Bool.eq_false_iff]
  intro hc
  have hc := (curr_iff (cli_form o) h0).1 hc
  have hcall := (cli_calls o (nameF i)).2 ⟨i,hi,ho,rfl⟩
  rcases h with h | ⟨he,h⟩
  · exact h (hc _ (usesE_hs (E := E0) (nm := nm) (cli_ok o) hcall (u := ⟨Ns,nameF i,seenT (E0 Ns) (nameF i)⟩) (by rw [useV_cli E0 o hi]; simp)))
  · exact h (hc _ (usesE_hs (E := E0) (nm := nm) (cli_ok o) hcall (u := ⟨Lb,nameF i,seenT (E0 Lb) (nameF i)⟩) (by rw [useV_cli E0 o hi,he]; simp)))
end Go.Proofs.YtpmmjkiclngpmaaGreatDoor
namespace Go.Proofs.YtpmmjkiclngpmaaGreatDoor
open Go.RowKit
def nonT : Option (Nat × Bool) → List UInt8
  | none => [102,110,32,102,48,40,41,58,32,105,110,116,32,61,32,49,59]
  | some (k,t) => [112,117,98,32,102,110,32,111,116,104,101,114,40,41,58,32,105,110,116,32,61,32,49,59,32,112,117,98,32,102,110,32] ++ nameF k ++ [40,121,58,32] ++ tyB t ++ [41,58,32,105,110,116,32,61,32,49,48,48,48,59]
def nonF (k : Nat) (t : Bool) : Fun := ⟨nameF k,32,true,[⟨[121],35,tyC t⟩],1,⟨0,47 + (tyB t).length,[],1000,[]⟩⟩
def nonM : Option (Nat × Bool) → Mod
  | none => ⟨[],[⟨nameF 0,3,false,[],1,⟨0,15,[],1,[]⟩⟩]⟩
  | some (k,t) => ⟨[],[⟨[111,116,104,101,114],7,true,[],1,⟨0,22,[],1,[]⟩⟩,nonF k t]⟩
def NzOk (nz : Option (Nat × Bool)) : Prop := ∀ k t,nz = some (k,t) → k < 4
theorem non_form {nz : Option (Nat × Bool)} (h : NzOk nz) : formOf (nonT nz) = some (nonM nz) := by
  rcases nz with _ | ⟨k,t⟩
  · kernel_rfl
  · rcases four (h k t rfl) with rfl | rfl | rfl | rfl <;> cases t <;> kernel_rfl
theorem non_len {nz : Option (Nat × Bool)} (h : NzOk nz) : (nonT nz).length ≤ 600 := by
  rcases nz with _ | ⟨k,t⟩
  · decide
  · rcases four (h k t rfl) with rfl | rfl | rfl | rfl <;> cases t <;> decide
theorem non_chk (E : Nm → Option Mod) {nz : Option (Nat × Bool)} (h : NzOk nz) : (chkE E (nonM nz)).code = 0 := by
  rcases nz with _ | ⟨k,t⟩
  · kernel_rfl
  · rcases four (h k t rfl) with rfl | rfl | rfl | rfl <;> cases t <;> kernel_rfl
theorem lib_chk (E : Nm → Option Mod) (vs : Nat → Nat) (bs : Nat → Bool) (p1 p2 p3 : Nat) : (chkE E (libM vs bs p1 p2 p3)).code = 0 := by kernel_rfl
structure Env (E : Nm → Option Mod) (vs : Nat → Nat) (bs : Nat → Bool) (nz : Option (Nat × Bool)) : Prop where
  lib : ∃ p1 p2 p3,E Lb = some (libM vs bs p1 p2 p3)
  non : E Ns = some (nonM nz)
  ok : NzOk nz
section
variable {E : Nm → Option Mod} {vs : Nat → Nat} {bs : Nat → Bool} {nz : Option (Nat × Bool)}
theorem Env.expL (h : Env E vs bs nz) {i : Nat} (hi : i < 4) : ∃ p,expG (E Lb) (nameF i) = some (libF i (bs i) (vs i) p) := by
  obtain ⟨p1,p2,p3,e⟩ := h.lib
  rw [e]
  rcases four hi with rfl | rfl | rfl | rfl
  · exact ⟨_,rfl⟩
  · exact ⟨p1,by kernel_rfl⟩
  · exact ⟨p2,by kernel_rfl⟩
  · exact ⟨p3,by kernel_rfl⟩
def nonE (nz : Option (Nat × Bool)) (i : Nat) : Option Fun := match nz with | none => none | some (k,t) => if i = k then some (nonF k t) else none
theorem exp_non (k : Nat) (t : Bool) (hk : k < 4) (i : Nat) (hi : i < 4) : expG (some (nonM (some (k,t)))) (nameF i) = nonE (some (k,t)) i := by
  rcases four hi with rfl | rfl | rfl | rfl <;> rcases four hk with rfl | rfl | rfl | rfl <;> kernel_rfl
theorem Env.expN (h : Env E vs bs nz) {i : Nat} (hi : i < 4) : expG (E Ns) (nameF i) = nonE nz i := by
  rw [h.non]
  rcases nz with _ | ⟨k,t⟩
  · rcases four hi with rfl | rfl | rfl | rfl <;> kernel_rfl
  · exact exp_non k t (h.ok k t rfl) i hi
theorem nameF_ne (i : Nat) : nameF i ≠ [] := by unfold nameF; simp
theorem Env.seenL (h : Env E vs bs nz) {i : Nat} (hi : i < 4) : seenT (E Lb) (nameF i) = sigText [tyC (bs i)] 1 := by
  obtain ⟨p,e⟩ := h.expL hi
  unfold seenT
  rw [if_neg (fun x => nameF_ne i x.2),e]
  rfl
theorem Env.seenL0 (h : Env E vs bs nz) : seenT (E Lb) [] = [105,110,116,101,114,102,97,99,101] := by
  obtain ⟨p1,p2,p3,e⟩ := h.lib
  rw [e]; rfl
theorem Env.seenN0 (h : Env E vs bs nz) : seenT (E Ns) [] = [105,110,116,101,114,102,97,99,101] := by rw [h.non]; rfl
theorem Env.seenN (h : Env E vs bs nz) {i : Nat} (hi : i < 4) : seenT (E Ns) (nameF i) = match nonE nz i with | none => [] | some f => sigText (f.params.map fun p => p.typ) f.result := by
  unfold seenT
  rw [if_neg (fun x => nameF_ne i x.2),h.expN hi]
  rcases nonE nz i with _ | f <;> rfl
def Fits (nz : Option (Nat × Bool)) (bs : Nat → Bool) : Prop := ∀ k t,nz = some (k,t) → t = bs k
theorem Env.sig (h : Env E vs bs nz) (hf : Fits nz bs) (o : Cl) {i : Nat} (hi : i < 4) : lookV (cliM o) (imsE E (cliM o)) (nameF i) = some ([tyC (bs i)],1) := by
  rw [lookV_cli E o hi,h.expN hi]
  obtain ⟨p,e⟩ := h.expL hi
  rcases nz with _ | ⟨k,t⟩
  · simp only [nonE]; rw [e]; rfl
  · have ht := hf k t rfl
    by_cases hk : i = k
    · subst hk
      simp only [nonE,if_true]
      rw [ht]; rfl
    · simp only [nonE,if_neg hk]; rw [e]; rfl
theorem Env.chk (h : Env E vs bs nz) (hf : Fits nz bs) (o : Cl) : (chkE E (cliM o)).code = if okO o bs = true then 0 else 8 := by
  obtain ⟨p1,p2,p3,e⟩ := h.lib
  exact cli_chk h.non e o bs fun i hi _ => h.sig hf o hi
end
def spL (o : Nat → Cl) (tl tn : List UInt8) (O : Nat → Option Ob) : List Md := [⟨[97],cliT (o 0),O 0⟩,⟨[99],cliT (o 1),O 1⟩,⟨Lb,tl,O 2⟩,⟨[109],[],some ⟨[],[],[]⟩⟩,⟨Ns,tn,O 3⟩,⟨[122],cliT (o 2),O 4⟩]
def spE (o : Nat → Cl) (tl tn : List UInt8) : Nm → Option Mod := formE (spL o tl tn fun _ => none)
theorem spE_of (o : Nat → Cl) (tl tn : List UInt8) (O : Nat → Option Ob) : formE (spL o tl tn O) = spE o tl tn := by
  refine formE_same fun z => ?_
  unfold getM spL
  simp only [List.find?_cons,List.find?_nil]
  repeat' split
  all_goals rfl
theorem sp_env (o : Nat → Cl) {vs : Nat → Nat} {bs : Nat → Bool} {nz : Option (Nat × Bool)} (hv : ∀ i,i < 4 → vs i < 1000) (hn : NzOk nz) : Env (spE o (libT vs bs) (nonT nz)) vs bs nz := by
  obtain ⟨p1,p2,p3,e⟩ := lib_form vs bs hv
  refine ⟨⟨p1,p2,p3,?_⟩,?_,hn⟩
  · rw [← e]; kernel_rfl
  · rw [← non_form hn]; kernel_rfl
theorem sp_small (o : Nat → Cl) {tl tn : List UInt8} (hl : tl.length ≤ 600) (hn : tn.length ≤ 600) (O : Nat → Option Ob) : ∀ m ∈ spL o tl tn O,m.name.length ≤ 8 ∧ m.now.length ≤ 600 := by
  intro m hm
  unfold spL at hm
  simp only [List.mem_cons,List.not_mem_nil,or_false] at hm
  rcases hm with rfl | rfl | rfl | rfl | rfl | rfl
  · exact ⟨by simp,cli_len _⟩
  · exact ⟨by simp,cli_len _⟩
  · exact ⟨by simp,hl⟩
  · exact ⟨by simp,by simp⟩
  · exact ⟨by simp,hn⟩
  · exact ⟨by simp,cli_len _⟩
def nmO : Nat → Nm
  | 0 => [97] | 1 => [99] | 2 => Lb | 3 => Ns | _ => [122]
def txO (o : Nat → Cl) (tl tn : List UInt8) : Nat → List UInt8
  | 0 => cliT (o 0) | 1 => cliT (o 1) | 2 => tl | 3 => tn | _ => cliT (o 2)
def obO (o : Nat → Cl) (tl tn : List UInt8) (j : Nat) : Option Ob := (compM (spE o tl tn) ⟨nmO j,txO o tl tn j,none⟩).2
theorem m_comp (E : Nm → Option Mod) (x : Option Ob) : compM E ⟨[109],[],x⟩ = ((0,0),some ⟨[],[],[]⟩) := by
  have h1 : formOf [] = some ⟨[],[]⟩ := by kernel_rfl
  have h2 : (chkE E ⟨[],[]⟩).code = 0 := by kernel_rfl
  have h3 : (chkE E ⟨[],[]⟩).place = 0 := by kernel_rfl
  have h4 : (objE [109] E ⟨[],[]⟩) = ([],[]) := by kernel_rfl
  have h5 : usesE [109] E ⟨[],[]⟩ = [] := by
    unfold usesE
    rw [h4]
    simp [usesOf,sortL,compactL]
  unfold compM
  simp only [h1]
  rw [h2,h3,if_pos rfl,h4,h5]
theorem sp_made (o : Nat → Cl) (tl tn : List UInt8) (O : Nat → Option Ob) : (spL o tl tn O).map (madeM (spE o tl tn)) = spL o tl tn (obO o tl tn) := by
  have hm : madeM (spE o tl tn) ⟨[109],[],some ⟨[],[],[]⟩⟩ = ⟨[109],[],some ⟨[],[],[]⟩⟩ := by unfold madeM; rw [m_comp]
  have hk : ∀ nm t x,madeM (spE o tl tn) ⟨nm,t,x⟩ = ⟨nm,t,(compM (spE o tl tn) ⟨nm,t,none⟩).2⟩ := fun nm t x => by
    unfold madeM
    rw [compM_text (spE o tl tn) (m := ⟨nm,t,x⟩) (m' := ⟨nm,t,none⟩) rfl rfl]
  unfold spL
  simp only [List.map_cons,List.map_nil]
  rw [hm,hk [97],hk [99],hk Lb,hk Ns,hk [122]]
  simp only [obO,nmO,txO]
def toldC (E : Nm → Option Mod) (nm : Nm) (o : Cl) : List Dg := if (chkE E (cliM o)).code = 0 then [] else [⟨nm,(chkE E (cliM o)).code,(chkE E (cliM o)).place⟩]
theorem told_cli (E : Nm → Option Mod) (nm : Nm) (o : Cl) (x : Option Ob) (r : List Md) : List.filterMap (toldM E) (⟨nm,cliT o,x⟩ :: r) = toldC E nm o ++ List.filterMap (toldM E) r := by
  have : toldM E ⟨nm,cliT o,x⟩ = if (chkE E (cliM o)).code = 0 then none else some ⟨nm,(chkE E (cliM o)).code,(chkE E (cliM o)).place⟩ := by
    unfold toldM compM
    rw [cli_form]
  rw [List.filterMap_cons,this]
  unfold toldC
  split <;> simp_all
theorem told_none {E : Nm → Option Mod} {nm : Nm} {t : List UInt8} {md : Mod} (hf : formOf t = some md) (hc : (chkE E md).code = 0) (x : Option Ob) (r : List Md) : List.filterMap (toldM E) (⟨nm,t,x⟩ :: r) = List.filterMap (toldM E) r := by
  have : toldM E ⟨nm,t,x⟩ = none := by unfold toldM; rw [if_pos (comp_obj hf hc).1]
  rw [List.filterMap_cons,this]
theorem told_m (E : Nm → Option Mod) (x : Option Ob) (r : List Md) : List.filterMap (toldM E) (⟨[109],[],x⟩ :: r) = List.filterMap (toldM E) r := by
  have : toldM E ⟨[109],[],x⟩ = none := by unfold toldM; rw [m_comp]; rfl
  rw [List.filterMap_cons,this]
def isC (c : Bool) (n : Nm) : List Nm := if c then [] else [n]
theorem m_curr (E : Nm → Option Mod) : curr E ⟨[109],[],some ⟨[],[],[]⟩⟩ = true := rfl
theorem comp_spL (E : Nm → Option Mod) (o : Nat → Cl) (tl tn : List UInt8) (O : Nat → Option Ob) :
    compL E (spL o tl tn O) = isC (curr E ⟨[97],cliT (o 0),O 0⟩) [97] ++ isC (curr E ⟨[99],cliT (o 1),O 1⟩) [99] ++ isC (curr E ⟨Lb,tl,O 2⟩) Lb ++ isC (curr E ⟨Ns,tn,O 3⟩) Ns ++ isC (curr E ⟨[122],cliT (o 2),O 4⟩) [122] := by
  unfold compL spL isC
  simp only [List.filter_cons,List.filter_nil,m_curr]
  rcases curr E ⟨[97],cliT (o 0),O 0⟩ with _ | _ <;> rcases curr E ⟨[99],cliT (o 1),O 1⟩ with _ | _ <;> rcases curr E ⟨Lb,tl,O 2⟩ with _ | _ <;> rcases curr E ⟨Ns,tn,O 3⟩ with _ | _ <;> rcases curr E ⟨[122],cliT (o 2),O 4⟩ with _ | _ <;> rfl
structure Bt (o : Nat → Cl) (tl tn : List UInt8) (O : Nat → Option Ob) (s s' : Sto) : Prop where
  lst : s'.L = spL o tl tn (obO o tl tn)
  com : s'.comp = compL (spE o tl tn) (spL o tl tn O)
  dia : (buildS s).1 = toldC (spE o tl tn) [97] (o 0) ++ toldC (spE o tl tn) [99] (o 1) ++ toldC (spE o tl tn) [122] (o 2)
  img : s'.img = if (buildS s).1 = [] then some (linkP ((spL o tl tn (obO o tl tn)).map funsOf)) else none
  mad : StM s'
  run : RunOk s'
  txt : ImgOk s'
  res : (buildS s).2 = s'
theorem sp_build {o : Nat → Cl} {vs : Nat → Nat} {bs : Nat → Bool} {nz : Option (Nat × Bool)} (hv : ∀ i,i < 4 → vs i < 1000) (hn : NzOk nz) {O : Nat → Option Ob} {s : Sto} (hs : s.L = spL o (libT vs bs) (nonT nz) O) (hM : StM s) :
    Bt o (libT vs bs) (nonT nz) O s (buildS s).2 := by
  obtain ⟨p1,p2,p3,hlf⟩ := lib_form vs bs hv
  have hl := lib_len vs bs hv
  have hnl := non_len hn
  have hsm : ∀ m ∈ s.L,m.name.length ≤ 8 ∧ m.now.length ≤ 600 := by rw [hs]; exact sp_small o hl hnl O
  obtain ⟨a,b⟩ := diagsL_new hsm hM
  have hE : formE s.L = spE o (libT vs bs) (nonT nz) := by rw [hs]; exact spE_of _ _ _ _
  have hd : (buildS s).1 = toldC (spE o (libT vs bs) (nonT nz)) [97] (o 0) ++ toldC (spE o (libT vs bs) (nonT nz)) [99] (o 1) ++ toldC (spE o (libT vs bs) (nonT nz)) [122] (o 2) := by
    show diagsL (formE s.L) s.L = _
    rw [a,hE,hs]
    unfold spL
    rw [told_cli,told_cli,told_none hlf (lib_chk _ _ _ _ _ _),told_m,told_none (non_form hn) (non_chk _ hn),told_cli]
    simp
  have hL : (buildS s).2.L = spL o (libT vs bs) (nonT nz) (obO o (libT vs bs) (nonT nz)) := by
    show s.L.map (buildM (formE s.L)) = _
    rw [b,hE,hs,sp_made]
  refine ⟨hL,?_,hd,?_,hM.build hsm,built_imOk hsm (by rw [hs]; simp [spL]) hM,built_text hsm (by rw [hs]; simp [spL]) hM,rfl⟩
  · show compL (formE s.L) s.L = _
    rw [hE,hs]
  · show (if diagsL (formE s.L) s.L = [] then some (linkP ((s.L.map (buildM (formE s.L))).map funsOf)) else none) = _
    have : s.L.map (buildM (formE s.L)) = spL o (libT vs bs) (nonT nz) (obO o (libT vs bs) (nonT nz)) := hL
    rw [this]
    rfl
end Go.Proofs.YtpmmjkiclngpmaaGreatDoor
namespace Go.Proofs.YtpmmjkiclngpmaaGreatDoor
open Go.RowKit
def valN (nz : Option (Nat × Bool)) (vs : Nat → Nat) (i : Nat) : Nat := match nonE nz i with | none => vs i | some _ => 1000
def nmC : Nat → Nm
  | 0 => [97] | 1 => [99] | _ => [122]
theorem three {j : Nat} (h : j < 3) : j = 0 ∨ j = 1 ∨ j = 2 := by omega
theorem of_map {α β : Type} {x : Option α} {f : α → β} {b : β} (h : x.map f = some b) : ∃ a,x = some a ∧ f a = b := by
  cases x with
  | none => cases h
  | some a => exact ⟨a,rfl,Option.some.inj h⟩
section
variable {o : Nat → Cl} {vs : Nat → Nat} {bs : Nat → Bool} {nz : Option (Nat × Bool)}
def flS (E : Nm → Option Mod) (o : Nat → Cl) (L N : Mod) : List CF := (objE [97] E (cliM (o 0))).1 ++ ((objE [99] E (cliM (o 1))).1 ++ ((objE Lb E L).1 ++ ((objE Ns E N).1 ++ (objE [122] E (cliM (o 2))).1)))
def pfS (P : Sym → Nat) (E : Nm → Option Mod) (o : Nat → Cl) (L N : Mod) : List PF :=
  ⟨[],bodyO (o 0),fun n => P (symV [97] (cliM (o 0)) (imsE E (cliM (o 0))) n)⟩ :: ⟨[],bodyO (o 1),fun n => P (symV [99] (cliM (o 1)) (imsE E (cliM (o 1))) n)⟩ ::
  (L.funs.map (fun f => (⟨f.params.map fun x => x.name,f.body,fun n => P (symV Lb L (imsE E L) n)⟩ : PF)) ++ (N.funs.map (fun f => (⟨f.params.map fun x => x.name,f.body,fun n => P (symV Ns N (imsE E N) n)⟩ : PF)) ++ [⟨[],bodyO (o 2),fun n => P (symV [122] (cliM (o 2)) (imsE E (cliM (o 2))) n)⟩]))
theorem fun_made {E : Nm → Option Mod} {nm : Nm} {t : List UInt8} {md : Mod} (hf : formOf t = some md) (hc : (chkE E md).code = 0) : funsOf ⟨nm,t,(compM E ⟨nm,t,none⟩).2⟩ = (objE nm E md).1 := by
  rw [(comp_obj hf hc).2]; rfl
theorem good_made {E : Nm → Option Mod} {nm : Nm} {t : List UInt8} {md : Mod} (hf : formOf t = some md) (hc : (chkE E md).code = 0) : GoodM E ⟨nm,t,(compM E ⟨nm,t,none⟩).2⟩ := ⟨md,hf,hc,fun_made hf hc⟩
theorem sp_fl {tl tn : List UInt8} {L N : Mod} (hl : formOf tl = some L) (hn : formOf tn = some N) (hcl : (chkE (spE o tl tn) L).code = 0) (hcn : (chkE (spE o tl tn) N).code = 0) (hc : ∀ j,j < 3 → (chkE (spE o tl tn) (cliM (o j))).code = 0) :
    ((spL o tl tn (obO o tl tn)).map funsOf).flatten = flS (spE o tl tn) o L N ∧ ∀ m ∈ spL o tl tn (obO o tl tn),GoodM (spE o tl tn) m := by
  have h0 := fun_made (nm := [97]) (cli_form (o 0)) (hc 0 (by omega))
  have h1 := fun_made (nm := [99]) (cli_form (o 1)) (hc 1 (by omega))
  have h2 := fun_made (nm := Lb) hl hcl
  have h3 := fun_made (nm := Ns) hn hcn
  have h4 := fun_made (nm := [122]) (cli_form (o 2)) (hc 2 (by omega))
  constructor
  · show (funsOf ⟨[97],cliT (o 0),_⟩ :: funsOf ⟨[99],cliT (o 1),_⟩ :: funsOf ⟨Lb,tl,_⟩ :: [] :: funsOf ⟨Ns,tn,_⟩ :: funsOf ⟨[122],cliT (o 2),_⟩ :: []).flatten = _
    simp only [obO,nmO,txO]
    rw [h0,h1,h2,h3,h4]
    simp [flS]
  · intro m hm
    unfold spL at hm
    simp only [List.mem_cons,List.not_mem_nil,or_false] at hm
    rcases hm with rfl | rfl | rfl | rfl | rfl | rfl
    · exact good_made (cli_form (o 0)) (hc 0 (by omega))
    · exact good_made (cli_form (o 1)) (hc 1 (by omega))
    · exact good_made hl hcl
    · exact ⟨⟨[],[]⟩,by kernel_rfl,by kernel_rfl,by kernel_rfl⟩
    · exact good_made hn hcn
    · exact good_made (cli_form (o 2)) (hc 2 (by omega))
theorem sp_pf (P : Sym → Nat) (E : Nm → Option Mod) {tl tn : List UInt8} {L N : Mod} (hl : formOf tl = some L) (hn : formOf tn = some N) (O : Nat → Option Ob) : ((spL o tl tn O).map (pfsM P E)).flatten = pfS P E o L N := by
  have hc : ∀ nm j x,pfsM P E ⟨nm,cliT (o j),x⟩ = [⟨[],bodyO (o j),fun n => P (symV nm (cliM (o j)) (imsE E (cliM (o j))) n)⟩] := fun nm j x => by unfold pfsM; rw [cli_form]; rfl
  have h2 : ∀ x,pfsM P E ⟨Lb,tl,x⟩ = L.funs.map (fun f => (⟨f.params.map fun x => x.name,f.body,fun n => P (symV Lb L (imsE E L) n)⟩ : PF)) := fun x => by unfold pfsM; rw [hl]
  have h3 : ∀ x,pfsM P E ⟨Ns,tn,x⟩ = N.funs.map (fun f => (⟨f.params.map fun x => x.name,f.body,fun n => P (symV Ns N (imsE E N) n)⟩ : PF)) := fun x => by unfold pfsM; rw [hn]
  have hm : ∀ x,pfsM P E ⟨[109],[],x⟩ = [] := fun x => by unfold pfsM; rw [show formOf [] = some ⟨[],[]⟩ by kernel_rfl]; rfl
  unfold spL
  simp only [List.map_cons,List.map_nil]
  rw [hc,hc,h2,hm,h3,hc]
  simp [pfS]
theorem pl_lib (E : Nm → Option Mod) (o : Nat → Cl) (p1 p2 p3 : Nat) (hn : NzOk nz) {i : Nat} (hi : i < 4) : plN (plc (flS E o (libM vs bs p1 p2 p3) (nonM nz))) (Lb,nameF i) = 2 + i := by
  rcases nz with _ | ⟨k,t⟩
  · rcases four hi with rfl | rfl | rfl | rfl <;> kernel_rfl
  · rcases four (hn k t rfl) with rfl | rfl | rfl | rfl <;> rcases four hi with rfl | rfl | rfl | rfl <;> kernel_rfl
theorem pl_non (E : Nm → Option Mod) (o : Nat → Cl) (p1 p2 p3 : Nat) {k : Nat} (hk : k < 4) (t : Bool) : plN (plc (flS E o (libM vs bs p1 p2 p3) (nonM (some (k,t))))) (Ns,nameF k) = 7 := by
  rcases four hk with rfl | rfl | rfl | rfl <;> kernel_rfl
def ixC (nz : Option (Nat × Bool)) : Nat → Nat
  | 0 => 0 | 1 => 1 | _ => match nz with | none => 7 | some _ => 8
theorem ex_cli (E : Nm → Option Mod) (o : Nat → Cl) (p1 p2 p3 : Nat) (hn : NzOk nz) {j : Nat} (hj : j < 3) (g : CF → CF) (hg : ∀ c,(g c).pub = c.pub ∧ symF (g c) = symF c ∧ (g c).params = c.params) :
    exI (nmC j) Mn ((flS E o (libM vs bs p1 p2 p3) (nonM nz)).map g) 0 = some (ixC nz j) ∧ ∃ f,((flS E o (libM vs bs p1 p2 p3) (nonM nz)).map g)[ixC nz j]? = some f ∧ f.params = [] := by
  have key : ∀ (l : List CF) (k : Nat),exI (nmC j) Mn (l.map g) k = exI (nmC j) Mn l k := by
    intro l
    induction l with
    | nil => intro k; rfl
    | cons c r ih =>
      intro k
      show (if isF (nmC j) Mn (g c) then some k else exI (nmC j) Mn (r.map g) (k + 1)) = if isF (nmC j) Mn c then some k else exI (nmC j) Mn r (k + 1)
      rw [ih]
      unfold isF
      rw [(hg c).1,(hg c).2.1]
  rw [key]
  have h2 : (((flS E o (libM vs bs p1 p2 p3) (nonM nz)))[ixC nz j]?).map (fun f => f.params) = some [] := by
    rcases nz with _ | ⟨k,t⟩ <;> rcases three hj with rfl | rfl | rfl <;> kernel_rfl
  obtain ⟨c,e1,e2⟩ := of_map h2
  refine ⟨?_,g c,by rw [List.getElem?_map,e1]; rfl,(hg c).2.2.trans e2⟩
  rcases nz with _ | ⟨k,t⟩
  · rcases three hj with rfl | rfl | rfl <;> kernel_rfl
  · rcases four (hn k t rfl) with rfl | rfl | rfl | rfl <;> rcases three hj with rfl | rfl | rfl <;> kernel_rfl
theorem pf_cli (P : Sym → Nat) (E : Nm → Option Mod) (o : Nat → Cl) (p1 p2 p3 : Nat) {j : Nat} (hj : j < 3) :
    (pfS P E o (libM vs bs p1 p2 p3) (nonM nz))[ixC nz j]? = some ⟨[],bodyO (o j),fun n => P (symV (nmC j) (cliM (o j)) (imsE E (cliM (o j))) n)⟩ := by
  rcases nz with _ | ⟨k,t⟩ <;> rcases three hj with rfl | rfl | rfl <;> rfl
theorem pf_lib (P : Sym → Nat) (E : Nm → Option Mod) (o : Nat → Cl) (p1 p2 p3 : Nat) {i : Nat} (hi : i < 4) :
    ∃ F q,(pfS P E o (libM vs bs p1 p2 p3) (nonM nz))[2 + i]? = some F ∧ F.params.length = 1 ∧ F.body = ⟨0,q,[],(vs i : Int),[]⟩ := by
  rcases four hi with rfl | rfl | rfl | rfl <;> exact ⟨_,_,rfl,rfl,rfl⟩
theorem pf_non (P : Sym → Nat) (E : Nm → Option Mod) (o : Nat → Cl) (p1 p2 p3 : Nat) (k : Nat) (t : Bool) :
    ∃ F q,(pfS P E o (libM vs bs p1 p2 p3) (nonM (some (k,t))))[7]? = some F ∧ F.params.length = 1 ∧ F.body = ⟨0,q,[],((1000 : Nat) : Int),[]⟩ := ⟨_,_,rfl,rfl,rfl⟩
theorem sp_run {O : Nat → Option Ob} {s s' : Sto} (h : Bt o (libT vs bs) (nonT nz) O s s') (hv : ∀ i,i < 4 → vs i < 1000) (hn : NzOk nz) (hf : Fits nz bs) (hok : ∀ j,j < 3 → okO (o j) bs = true) :
    (buildS s).1 = [] ∧ ∀ j,j < 3 → RunIs s' (nmC j) Mn [] 100 ((totO (o j) (valN nz vs) : Nat),0) := by
  have env := sp_env o (bs := bs) hv hn
  obtain ⟨p1,p2,p3,hlf⟩ := lib_form vs bs hv
  have hnf := non_form hn
  have hc : ∀ j,j < 3 → (chkE (spE o (libT vs bs) (nonT nz)) (cliM (o j))).code = 0 := fun j hj => by rw [env.chk hf (o j),if_pos (hok j hj)]
  have hd : (buildS s).1 = [] := by
    rw [h.dia]
    unfold toldC
    rw [if_pos (hc 0 (by omega)),if_pos (hc 1 (by omega)),if_pos (hc 2 (by omega))]
    rfl
  refine ⟨hd,fun j hj => ?_⟩
  obtain ⟨hfl,hg⟩ := sp_fl hlf hnf (lib_chk _ _ _ _ _ _) (non_chk _ hn) hc
  have himg := h.img
  rw [if_pos hd] at himg
  have hgood : ∀ m ∈ spL o (libT vs bs) (nonT nz) (obO o (libT vs bs) (nonT nz)),GoodM (spE o (libT vs bs) (nonT nz)) m ∧ m.now.length ≤ 600 := fun m hm => ⟨hg m hm,(sp_small o (lib_len vs bs hv) (non_len hn) _ m hm).2⟩
  generalize hE : spE o (libT vs bs) (nonT nz) = E at *
  have hlk : linkP ((spL o (libT vs bs) (nonT nz) (obO o (libT vs bs) (nonT nz))).map funsOf) = (flS E o (libM vs bs p1 p2 p3) (nonM nz)).map (bndF (plc (flS E o (libM vs bs p1 p2 p3) (nonM nz)))) := by
    unfold linkP; rw [hfl]
  have hpf := sp_pf (o := o) (plN (plc (flS E o (libM vs bs p1 p2 p3) (nonM nz)))) E hlf hnf (obO o (libT vs bs) (nonT nz))
  obtain ⟨x1,f,x2,x3⟩ := ex_cli (nz := nz) (vs := vs) (bs := bs) E o p1 p2 p3 hn hj (bndF (plc (flS E o (libM vs bs p1 p2 p3) (nonM nz)))) (fun c => ⟨rfl,rfl,rfl⟩)
  have hF := pf_cli (nz := nz) (vs := vs) (bs := bs) (plN (plc (flS E o (libM vs bs p1 p2 p3) (nonM nz)))) E o p1 p2 p3 hj
  have hcal : ∀ i,i < 4 → o j i ≠ none → ∃ F q,(pfS (plN (plc (flS E o (libM vs bs p1 p2 p3) (nonM nz)))) E o (libM vs bs p1 p2 p3) (nonM nz))[plN (plc (flS E o (libM vs bs p1 p2 p3) (nonM nz))) (symV (nmC j) (cliM (o j)) (imsE E (cliM (o j))) (nameF i))]? = some F ∧ F.params.length = 1 ∧ F.body = ⟨0,q,[],(valN nz vs i : Int),[]⟩ := fun i hi _ => by
    rw [symV_cli E (nmC j) (o j) hi,env.expN hi]
    obtain ⟨p,el⟩ := env.expL hi
    have hv1 : ∀ n,nonE nz i = n → valN nz vs i = match n with | none => vs i | some _ => 1000 := fun n e => by unfold valN; rw [e]
    rcases hne : nonE nz i with _ | g
    · simp only
      rw [el]
      simp only
      rw [pl_lib E o p1 p2 p3 hn hi,hv1 _ hne]
      exact pf_lib _ E o p1 p2 p3 hi
    · simp only
      rw [hv1 _ hne]
      rcases nz with _ | ⟨k,t⟩
      · cases hne
      · have hik : i = k := by
          by_cases e : i = k
          · exact e
          · simp [nonE,e] at hne
        subst hik
        rw [pl_non E o p1 p2 p3 hi t]
        exact pf_non _ E o p1 p2 p3 i t
  have hvl : ∀ i,i < 4 → valN nz vs i ≤ 10000 := fun i hi => by
    have := hv i hi
    unfold valN
    split <;> omega
  obtain ⟨k,hk,hV⟩ := cli_val (cal := fun n => plN (plc (flS E o (libM vs bs p1 p2 p3) (nonM nz))) (symV (nmC j) (cliM (o j)) (imsE E (cliM (o j))) n)) (o j) (valN nz vs) hvl hcal
  have hruns : Runs ((linkP ((spL o (libT vs bs) (nonT nz) (obO o (libT vs bs) (nonT nz))).map funsOf)).map fnOf) (ixC nz j) [] 100 ((totO (o j) (valN nz vs) : Nat),0) := by
    refine runs_of hgood (k := ixC nz j) (F := _) (by rw [hfl,hpf]; exact hF) [] rfl 7 100 _ ?_ (by simp)
    rw [hfl,hpf,runV_ofV hF [] 100 (x := ((totO (o j) (valN nz vs) : Nat) : Int)) (f := 99 - k) (e := 0) (fun _ => hV 7 99 99 (Nat.le_refl _) (by omega) (by omega))]
    simp
  unfold RunIs
  rw [himg]
  simp only
  rw [hlk,x1]
  simp only
  refine ⟨f,x2,?_⟩
  rw [x3,if_neg (by simp),if_neg (by unfold withinB fitB; simp),← hlk]
  exact hruns
end
end Go.Proofs.YtpmmjkiclngpmaaGreatDoor
namespace Go.Proofs.YtpmmjkiclngpmaaGreatDoor
open Go.RowKit
def bitB (u i : Nat) : Bool := (u / 2 ^ i) % 2 == 1
def bitO (u : Nat) (bs : Nat → Bool) : Cl := fun i => if bitB u i = true then some (bs i) else none
def flp (bs : Nat → Bool) (k : Nat) : Nat → Bool := fun i => if i = k then !(bs i) else bs i
def updN (vs : Nat → Nat) (k v : Nat) : Nat → Nat := fun i => if i = k then v else vs i
theorem ok_self (u : Nat) (bs : Nat → Bool) : okO (bitO u bs) bs = true := by
  have : ∀ i,okB (bitO u bs i) (bs i) = true := fun i => by
    unfold bitO
    split <;> simp [okB]
  unfold okO
  rw [this,this,this,this]; rfl
theorem ok_flp (u : Nat) (bs : Nat → Bool) {k : Nat} (hk : k < 4) : okO (bitO u bs) (flp bs k) = !bitB u k := by
  have h1 : ∀ i,i ≠ k → okB (bitO u bs i) (flp bs k i) = true := fun i hi => by
    unfold bitO flp
    rw [if_neg hi]
    split <;> simp [okB]
  have h2 : okB (bitO u bs k) (flp bs k k) = !bitB u k := by
    unfold bitO flp
    rw [if_pos rfl]
    rcases bitB u k with _ | _ <;> simp [okB]
  unfold okO
  rcases four hk with rfl | rfl | rfl | rfl
  · rw [h2,h1 1 (by omega),h1 2 (by omega),h1 3 (by omega)]; simp
  · rw [h2,h1 0 (by omega),h1 2 (by omega),h1 3 (by omega)]; simp
  · rw [h2,h1 0 (by omega),h1 1 (by omega),h1 3 (by omega)]; simp
  · rw [h2,h1 0 (by omega),h1 1 (by omega),h1 2 (by omega)]; simp
theorem libT_inj {vs vs' : Nat → Nat} {bs bs' : Nat → Bool} (hv : ∀ i,i < 4 → vs i < 1000) (hv' : ∀ i,i < 4 → vs' i < 1000) (e : libT vs bs = libT vs' bs') {i : Nat} (hi : i < 4) : vs i = vs' i ∧ bs i = bs' i := by
  obtain ⟨p1,p2,p3,h⟩ := parsed_lib vs bs hv
  obtain ⟨q1,q2,q3,h'⟩ := parsed_lib vs' bs' hv'
  rw [e,h'] at h
  have hm : libM vs' bs' q1 q2 q3 = libM vs bs p1 p2 p3 := (Prod.mk.inj h).1
  have hb : ∀ {a b : Bool},tyC a = tyC b → a = b := fun {a b} h => by cases a <;> cases b <;> first | rfl | cases h
  have key := congrArg (fun m : Mod => (m.funs[i]?).map fun f => (f.body.value,f.params.map fun p => p.typ)) hm
  rcases four hi with rfl | rfl | rfl | rfl
  all_goals
    have k2 := Prod.mk.inj (Option.some.inj key)
    refine ⟨?_,(hb (List.cons.inj k2.2).1).symm⟩
    exact Int.ofNat.inj k2.1.symm
theorem nonT_ne (k : Nat) (t : Bool) : nonT none ≠ nonT (some (k,t)) := fun h => by
  have := congrArg List.head? h
  simp [nonT] at this
theorem sig_flp (b : Bool) : sigText [tyC (!b)] 1 ≠ sigText [tyC b] 1 := by cases b <;> decide
def wantL (u : Nat → Nat) (k : Nat) (x : Nm) : List Nm := isC (!bitB (u 0) k) [97] ++ isC (!bitB (u 1) k) [99] ++ [x] ++ isC (!bitB (u 2) k) [122]
def hitsN (u : Nat → Nat) (k : Nat) : Nat := (bitB (u 0) k).toNat + (bitB (u 1) k).toNat + (bitB (u 2) k).toNat
theorem set_lib {s : Sto} {o : Nat → Cl} {tl tn : List UInt8} {O : Nat → Option Ob} (h : s.L = spL o tl tn O) (t : List UInt8) (ht : t.length ≤ 600) : (setS s Lb t).1 = 0 ∧ (setS s Lb t).2.L = spL o t tn O := by
  have hn : isNameT Lb = true := by kernel_rfl
  obtain ⟨L,c,im⟩ := s
  simp only at h
  subst h
  unfold setS
  rw [if_neg (by rw [hn]; simp),if_neg (by simp [spL,names]; omega)]
  exact ⟨rfl,rfl⟩
theorem set_non {s : Sto} {o : Nat → Cl} {tl tn : List UInt8} {O : Nat → Option Ob} (h : s.L = spL o tl tn O) (t : List UInt8) (ht : t.length ≤ 600) : (setS s Ns t).1 = 0 ∧ (setS s Ns t).2.L = spL o tl t O := by
  have hn : isNameT Ns = true := by kernel_rfl
  obtain ⟨L,c,im⟩ := s
  simp only at h
  subst h
  unfold setS
  rw [if_neg (by rw [hn]; simp),if_neg (by simp [spL,names]; omega)]
  exact ⟨rfl,rfl⟩
theorem setL_any {s : Sto} {n : Nm} {t : List UInt8} {L : List Md} (h : s.L = L) (hn : isNameT n = true) (ht : t.length ≤ 600) (hl : L.length < 8) : (setS s n t).1 = 0 ∧ (setS s n t).2.L = setM n t L := by
  unfold setS
  rw [if_neg (by rw [hn]; simp),if_neg (by rw [h]; omega),h]
  exact ⟨rfl,rfl⟩
theorem pair_of {α β : Type} {x : α × β} {a : α} (h : x.1 = a) : x = (a,x.2) := by rw [← h]
structure Spd1 (u vs : Nat → Nat) (bs : Nat → Bool) (a1 a2 a3 a4 a5 c1 c2 : Sto) : Prop where
  e1 : setS begS5 Lb (libT vs bs) = (0,a1)
  e2 : setS a1 Ns (nonT none) = (0,a2)
  e3 : setS a2 [97] (cliT (bitO (u 0) bs)) = (0,a3)
  e4 : setS a3 [99] (cliT (bitO (u 1) bs)) = (0,a4)
  e5 : setS a4 [122] (cliT (bitO (u 2) bs)) = (0,a5)
  m1 : StM a1
  m2 : StM a2
  m3 : StM a3
  m4 : StM a4
  m5 : StM a5
  d1 : (buildS a5).1 = []
  b1 : (buildS a5).2 = c1
  n1 : StM c1
  l1 : c1.comp = [[97],[99],Lb,Ns,[122]]
  d2 : (buildS c1).1 = []
  b2 : (buildS c1).2 = c2
  n2 : StM c2
  l2 : c2.comp = []
  at2 : c2.L = spL (fun j => bitO (u j) bs) (libT vs bs) (nonT none) (obO (fun j => bitO (u j) bs) (libT vs bs) (nonT none))
structure Spd2 (u vs : Nat → Nat) (bs : Nat → Bool) (k v : Nat) (c2 a6 c3 a7 c4 a8 c5 a9 c6 : Sto) : Prop where
  e6 : setS c2 Lb (libT (updN vs k v) bs) = (0,a6)
  m6 : StM a6
  d3 : (buildS a6).1 = []
  b3 : (buildS a6).2 = c3
  n3 : StM c3
  l3 : c3.comp = [Lb]
  r3 : RunOk c3
  run3 : ∀ j,j < 3 → RunIs c3 (nmC j) Mn [] 100 ((totO (bitO (u j) bs) (updN vs k v) : Nat),0)
  e7 : setS c3 Lb (libT (updN vs k v) (flp bs k)) = (0,a7)
  m7 : StM a7
  d4 : (buildS a7).1.length = hitsN u k ∧ ∀ d ∈ (buildS a7).1,d.code = 8
  b4 : (buildS a7).2 = c4
  n4 : StM c4
  l4 : c4.comp = wantL u k Lb
  i4 : ImgOk c4
  t4 : imgT c4 = [] ↔ 0 < hitsN u k
  e8 : setS c4 Lb (libT (updN vs k v) bs) = (0,a8)
  m8 : StM a8
  d5 : (buildS a8).1 = []
  b5 : (buildS a8).2 = c5
  n5 : StM c5
  e9 : setS c5 Ns (nonT (some (k,bs k))) = (0,a9)
  m9 : StM a9
  d6 : (buildS a9).1 = []
  b6 : (buildS a9).2 = c6
  n6 : StM c6
  l6 : c6.comp = wantL u k Ns
  r6 : RunOk c6
  run6 : ∀ j,j < 3 → RunIs c6 (nmC j) Mn [] 100 ((totO (bitO (u j) bs) (updN (updN vs k v) k 1000) : Nat),0)
theorem img_diag {s : Sto} (s' : Sto) (h : (buildS s).2 = s') : imgT s' = [] ↔ (buildS s).1 ≠ [] := by
  have hi : (buildS s).2.img = if diagsL (formE s.L) s.L = [] then some (linkP ((buildS s).2.L.map funsOf)) else none := rfl
  rw [h] at hi
  show _ ↔ diagsL (formE s.L) s.L ≠ []
  by_cases hd : diagsL (formE s.L) s.L = []
  · rw [if_pos hd] at hi
    unfold imgT
    rw [hi]
    exact ⟨fun hx => absurd hx (imText_ne _),fun hx => absurd hd hx⟩
  · rw [if_neg hd] at hi
    unfold imgT
    rw [hi]
    exact ⟨fun _ => hd,fun _ => rfl⟩
theorem nz0 : NzOk none := fun k t h => by cases h
theorem fits0 (bs : Nat → Bool) : Fits none bs := fun k t h => by cases h
theorem spared_states1 {u vs : Nat → Nat} {bs : Nat → Bool} (hv : ∀ i,i < 4 → vs i < 1000) : ∃ a1 a2 a3 a4 a5 c1 c2,Spd1 u vs bs a1 a2 a3 a4 a5 c1 c2 := by
  generalize ho : (fun j => bitO (u j) bs) = o
  have ho' : ∀ j,o j = bitO (u j) bs := fun j => by rw [← ho]
  have hok : ∀ j,j < 3 → okO (o j) bs = true := fun j _ => by rw [ho' j]; exact ok_self _ _
  -- the sets
  have q1 := setL_any (s := begS5) (n := Lb) (t := libT vs bs) (L := begS5.L) rfl (by kernel_rfl) (lib_len vs bs hv) (by decide)
  have q2 := setL_any (n := Ns) (t := nonT none) q1.2 (by kernel_rfl) (non_len nz0) (of_decide_eq_true (by kernel_rfl))
  have q3 := setL_any (n := [97]) (t := cliT (o 0)) q2.2 (by kernel_rfl) (cli_len _) (of_decide_eq_true (by kernel_rfl))
  have q4 := setL_any (n := [99]) (t := cliT (o 1)) q3.2 (by kernel_rfl) (cli_len _) (of_decide_eq_true (by kernel_rfl))
  have q5 := setL_any (n := [122]) (t := cliT (o 2)) q4.2 (by kernel_rfl) (cli_len _) (of_decide_eq_true (by kernel_rfl))
  have q5L : (setS (setS (setS (setS (setS begS5 Lb (libT vs bs)).2 Ns (nonT none)).2 [97] (cliT (o 0))).2 [99] (cliT (o 1))).2 [122] (cliT (o 2))).2.L = spL o (libT vs bs) (nonT none) (fun _ => none) := q5.2.trans (by kernel_rfl)
  have m1 := beg_m5.set Lb (libT vs bs)
  have m2 := m1.set Ns (nonT none)
  have m3 := m2.set [97] (cliT (o 0))
  have m4 := m3.set [99] (cliT (o 1))
  have m5 := m4.set [122] (cliT (o 2))
  have e1 := pair_of q1.1
  have e2 := pair_of q2.1
  have e3 := pair_of q3.1
  have e4 := pair_of q4.1
  have e5 := pair_of q5.1
  clear q1 q2 q3 q4 q5
  generalize (setS begS5 Lb (libT vs bs)).2 = a1 at *
  generalize (setS a1 Ns (nonT none)).2 = a2 at *
  generalize (setS a2 [97] (cliT (o 0))).2 = a3 at *
  generalize (setS a3 [99] (cliT (o 1))).2 = a4 at *
  generalize (setS a4 [122] (cliT (o 2))).2 = a5 at *
  have v0 := sp_env o (bs := bs) hv nz0
  have g0 : ∀ j,j < 3 → (chkE (spE o (libT vs bs) (nonT none)) (cliM (o j))).code = 0 := fun j hj => by rw [v0.chk (fits0 _) (o j),if_pos (hok j hj)]
  obtain ⟨l1,l2,l3,hl0⟩ := lib_form vs bs hv
  have hN0 := non_form nz0
  -- the first build
  have B1 := sp_build hv nz0 q5L m5
  have R1 := sp_run B1 hv nz0 (fits0 _) hok
  have C1 : (buildS a5).2.comp = [[97],[99],Lb,Ns,[122]] := by
    rw [B1.com,comp_spL]; rfl
  have L1 := B1.lst
  have M1 := B1.mad
  have D1 := R1.1
  generalize hc1 : (buildS a5).2 = c1 at *
  -- the second
  have B2 := sp_build hv nz0 L1 M1
  have R2 := sp_run B2 hv nz0 (fits0 _) hok
  have C2 : (buildS c1).2.comp = [] := by
    rw [B2.com,comp_spL]
    simp only [obO,nmO,txO]
    rw [curr_yes (g0 0 (by omega)) rfl rfl (fun _ _ _ => ⟨rfl,rfl⟩),curr_yes (g0 1 (by omega)) rfl rfl (fun _ _ _ => ⟨rfl,rfl⟩),curr_yes (g0 2 (by omega)) rfl rfl (fun _ _ _ => ⟨rfl,rfl⟩),
      curr_alone hl0 (lib_len vs bs hv) (lib_chk _ _ _ _ _ _) rfl,curr_alone hN0 (non_len nz0) (non_chk _ nz0) rfl]
    rfl
  have L2 := B2.lst
  have M2 := B2.mad
  have D2 := R2.1
  generalize hc2 : (buildS c1).2 = c2 at *
  refine ⟨a1,a2,a3,a4,a5,c1,c2,e1,e2,?_,?_,?_,m1,m2,m3,m4,m5,D1,hc1,M1,C1,D2,hc2,M2,C2,?_⟩
  · rw [← ho' 0]; exact e3
  · rw [← ho' 1]; exact e4
  · rw [← ho' 2]; exact e5
  · rw [ho]; exact L2
theorem spared_states2 {u vs : Nat → Nat} {bs : Nat → Bool} {k v : Nat} (hk : k < 4) (hv : ∀ i,i < 4 → vs i < 1000) (hv1 : v < 1000) (hne : v ≠ vs k) {c2 : Sto} (L2 : c2.L = spL (fun j => bitO (u j) bs) (libT vs bs) (nonT none) (obO (fun j => bitO (u j) bs) (libT vs bs) (nonT none))) (M2 : StM c2) :
    ∃ a6 c3 a7 c4 a8 c5 a9 c6,Spd2 u vs bs k v c2 a6 c3 a7 c4 a8 c5 a9 c6 := by
  have hv2 : ∀ i,i < 4 → updN vs k v i < 1000 := fun i hi => by have := hv i hi; unfold updN; split <;> omega
  have hz1 : NzOk (some (k,bs k)) := fun k' t h => by cases h; exact hk
  have hft : Fits (some (k,bs k)) bs := fun k' t h => by cases h; rfl
  generalize ho : (fun j => bitO (u j) bs) = o at L2
  have ho' : ∀ j,o j = bitO (u j) bs := fun j => by rw [← ho]
  have hok : ∀ j,j < 3 → okO (o j) bs = true := fun j _ => by rw [ho' j]; exact ok_self _ _
  -- environments
  have v0 := sp_env o (bs := bs) hv nz0
  have v1 := sp_env o (bs := bs) hv2 nz0
  have v2 := sp_env o (bs := flp bs k) hv2 nz0
  have v3 := sp_env o (bs := bs) hv2 hz1
  have g0 : ∀ j,j < 3 → (chkE (spE o (libT vs bs) (nonT none)) (cliM (o j))).code = 0 := fun j hj => by rw [v0.chk (fits0 _) (o j),if_pos (hok j hj)]
  have g1 : ∀ j,j < 3 → (chkE (spE o (libT (updN vs k v) bs) (nonT none)) (cliM (o j))).code = 0 := fun j hj => by rw [v1.chk (fits0 _) (o j),if_pos (hok j hj)]
  obtain ⟨l1,l2,l3,hl0⟩ := lib_form vs bs hv
  obtain ⟨l4,l5,l6,hl1⟩ := lib_form (updN vs k v) bs hv2
  have hN0 := non_form nz0
  -- a body
  have q6 := set_lib L2 (libT (updN vs k v) bs) (lib_len _ _ hv2)
  have m6 := M2.set Lb (libT (updN vs k v) bs)
  have e6 := pair_of q6.1
  have L6 := q6.2
  generalize (setS c2 Lb (libT (updN vs k v) bs)).2 = a6 at *
  have B3 := sp_build hv2 nz0 L6 m6
  have R3 := sp_run B3 hv2 nz0 (fits0 _) hok
  have t01 : libT vs bs ≠ libT (updN vs k v) bs := fun h => by
    have := (libT_inj hv hv2 h hk).1
    unfold updN at this
    rw [if_pos rfl] at this
    exact hne this.symm
  have C3 : (buildS a6).2.comp = [Lb] := by
    rw [B3.com,comp_spL]
    simp only [obO,nmO,txO]
    have hy : ∀ j nm,j < 3 → curr (spE o (libT (updN vs k v) bs) (nonT none)) ⟨nm,cliT (o j),(compM (spE o (libT vs bs) (nonT none)) ⟨nm,cliT (o j),none⟩).2⟩ = true := fun j nm hj =>
      curr_yes (g0 j hj) (v1.seenN0.trans v0.seenN0.symm) (v1.seenL0.trans v0.seenL0.symm) fun i hi _ => ⟨by rw [v1.seenN hi,v0.seenN hi],by rw [v1.seenL hi,v0.seenL hi]⟩
    rw [hy 0 _ (by omega),hy 1 _ (by omega),hy 2 _ (by omega),curr_other t01,curr_alone hN0 (non_len nz0) (non_chk _ nz0) rfl]
    rfl
  have L3 := B3.lst
  have M3 := B3.mad
  have O3 := B3.run
  have D3 := R3.1
  have U3 := R3.2
  generalize hc3 : (buildS a6).2 = c3 at *
  -- a signature
  have q7 := set_lib L3 (libT (updN vs k v) (flp bs k)) (lib_len _ _ hv2)
  have m7 := M3.set Lb (libT (updN vs k v) (flp bs k))
  have e7 := pair_of q7.1
  have L7 := q7.2
  generalize (setS c3 Lb (libT (updN vs k v) (flp bs k))).2 = a7 at *
  have B4 := sp_build hv2 nz0 L7 m7
  have g2 : ∀ j,(chkE (spE o (libT (updN vs k v) (flp bs k)) (nonT none)) (cliM (o j))).code = if bitB (u j) k = true then 8 else 0 := fun j => by
    rw [v2.chk (fits0 _) (o j),ho' j,ok_flp _ _ hk]
    rcases bitB (u j) k with _ | _ <;> rfl
  have hbs : flp bs k k = !bs k := by unfold flp; rw [if_pos rfl]
  have t12 : libT (updN vs k v) bs ≠ libT (updN vs k v) (flp bs k) := fun h => by
    have := (libT_inj hv2 hv2 h hk).2
    rw [hbs] at this
    cases bs k <;> simp at this
  have C4 : (buildS a7).2.comp = wantL u k Lb := by
    rw [B4.com,comp_spL]
    simp only [obO,nmO,txO]
    have hy : ∀ j nm,j < 3 → curr (spE o (libT (updN vs k v) (flp bs k)) (nonT none)) ⟨nm,cliT (o j),(compM (spE o (libT (updN vs k v) bs) (nonT none)) ⟨nm,cliT (o j),none⟩).2⟩ = !bitB (u j) k := fun j nm hj => by
      rcases hb : bitB (u j) k with _ | _
      · refine curr_yes (g1 j hj) (v2.seenN0.trans v1.seenN0.symm) (v2.seenL0.trans v1.seenL0.symm) fun i hi hoi => ⟨by rw [v2.seenN hi,v1.seenN hi],?_⟩
        have hik : i ≠ k := fun e => by subst e; rw [ho' j] at hoi; simp [bitO,hb] at hoi
        rw [v2.seenL hi,v1.seenL hi]
        unfold flp
        rw [if_neg hik]
      · refine curr_no (g1 j hj) hk (by rw [ho' j]; simp [bitO,hb]) (Or.inr ⟨v1.expN hk,?_⟩)
        rw [v2.seenL hk,v1.seenL hk,hbs]
        exact sig_flp _
    rw [hy 0 _ (by omega),hy 1 _ (by omega),hy 2 _ (by omega),curr_other t12,curr_alone hN0 (non_len nz0) (non_chk _ nz0) rfl]
    simp [wantL,isC]
  have D4 : (buildS a7).1.length = hitsN u k ∧ ∀ d ∈ (buildS a7).1,d.code = 8 := by
    rw [B4.dia]
    unfold toldC
    rw [g2 0,g2 1,g2 2]
    unfold hitsN
    rcases bitB (u 0) k with _ | _ <;> rcases bitB (u 1) k with _ | _ <;> rcases bitB (u 2) k with _ | _ <;> simp
  have L4 := B4.lst
  have M4 := B4.mad
  have I4 := B4.txt
  have T4 : imgT (buildS a7).2 = [] ↔ 0 < hitsN u k := by
    rw [img_diag _ rfl,← D4.1]
    rcases (buildS a7).1 with _ | ⟨x,r⟩ <;> simp
  generalize hc4 : (buildS a7).2 = c4 at *
  -- back
  have q8 := set_lib L4 (libT (updN vs k v) bs) (lib_len _ _ hv2)
  have m8 := M4.set Lb (libT (updN vs k v) bs)
  have e8 := pair_of q8.1
  have L8 := q8.2
  generalize (setS c4 Lb (libT (updN vs k v) bs)).2 = a8 at *
  have B5 := sp_build hv2 nz0 L8 m8
  have R5 := sp_run B5 hv2 nz0 (fits0 _) hok
  have L5 := B5.lst
  have M5 := B5.mad
  have D5 := R5.1
  generalize hc5 : (buildS a8).2 = c5 at *
  -- the name comes ahead
  have q9 := set_non L5 (nonT (some (k,bs k))) (non_len hz1)
  have m9 := M5.set Ns (nonT (some (k,bs k)))
  have e9 := pair_of q9.1
  have L9 := q9.2
  generalize (setS c5 Ns (nonT (some (k,bs k)))).2 = a9 at *
  have B6 := sp_build hv2 hz1 L9 m9
  have R6 := sp_run B6 hv2 hz1 hft hok
  have C6 : (buildS a9).2.comp = wantL u k Ns := by
    rw [B6.com,comp_spL]
    simp only [obO,nmO,txO]
    have hy : ∀ j nm,j < 3 → curr (spE o (libT (updN vs k v) bs) (nonT (some (k,bs k)))) ⟨nm,cliT (o j),(compM (spE o (libT (updN vs k v) bs) (nonT none)) ⟨nm,cliT (o j),none⟩).2⟩ = !bitB (u j) k := fun j nm hj => by
      rcases hb : bitB (u j) k with _ | _
      · refine curr_yes (g1 j hj) (v3.seenN0.trans v1.seenN0.symm) (v3.seenL0.trans v1.seenL0.symm) fun i hi hoi => ⟨?_,by rw [v3.seenL hi,v1.seenL hi]⟩
        have hik : i ≠ k := fun e => by subst e; rw [ho' j] at hoi; simp [bitO,hb] at hoi
        rw [v3.seenN hi,v1.seenN hi]
        simp [nonE,hik]
      · refine curr_no (g1 j hj) hk (by rw [ho' j]; simp [bitO,hb]) (Or.inl ?_)
        rw [v3.seenN hk,v1.seenN hk]
        simp only [nonE,if_true]
        exact sig_ne _ _
    rw [hy 0 _ (by omega),hy 1 _ (by omega),hy 2 _ (by omega),curr_other (nonT_ne k (bs k)),curr_alone hl1 (lib_len _ _ hv2) (lib_chk _ _ _ _ _ _) rfl]
    simp [wantL,isC]
  have M6 := B6.mad
  have O6 := B6.run
  have D6 := R6.1
  have U6 := R6.2
  have hval : ∀ i,valN (some (k,bs k)) (updN vs k v) i = updN (updN vs k v) k 1000 i := fun i => by
    unfold valN nonE
    by_cases h : i = k
    · simp [h,updN]
    · simp [h,updN]
  have hval' : valN (some (k,bs k)) (updN vs k v) = updN (updN vs k v) k 1000 := funext hval
  generalize hc6 : (buildS a9).2 = c6 at *
  rw [hval'] at U6
  refine ⟨a6,c3,a7,c4,a8,c5,a9,c6,e6,m6,D3,hc3,M3,C3,O3,?_,e7,m7,D4,hc4,M4,C4,I4,T4,e8,m8,D5,hc5,M5,e9,m9,D6,hc6,M6,C6,O6,?_⟩
  · intro j hj; have := U3 j hj; rw [ho' j] at this; exact this
  · intro j hj; have := U6 j hj; rw [ho' j] at this; exact this
end Go.Proofs.YtpmmjkiclngpmaaGreatDoor
namespace Go.Proofs.YtpmmjkiclngpmaaGreatDoor
open Go.RowKit
theorem txs_own {w : World} {base : Nat} {v : Value} {ns : List Nm} (h : w.ownsRow base 9 1 v ns.length (strCs ns)) : Txs w v ns := by
  obtain ⟨ao,cap,rfl⟩ := owns_shape' h
  refine ⟨ao,cap,rfl,?_⟩
  rcases Nat.eq_zero_or_pos ns.length with h0 | h0
  · exact Or.inl (List.eq_nil_of_length_eq_zero h0)
  · obtain ⟨nb,cap',cur,hvo,_,hnb,hnc,_⟩ := owr_shape h h0
    simp only [Value.slice.injEq,true_and] at hvo
    obtain ⟨rfl,rfl⟩ := hvo
    refine Or.inr ⟨nb,rfl,lt_of_some hnb,by omega,fun j hj => (owns_cell h j (by omega)).trans ?_⟩
    show (ns.map Go.Proofs.encStr)[j]? = _
    rw [List.getElem?_map,List.getElem?_eq_getElem hj]
    rfl
theorem storeCompiled_any {w : World} {p : SP} {s : Sto} (h : StAt w p s) : Calls Tryz.prog 49 #[.pointer (some ⟨p.sb,0,none⟩)] w fun e w' => ∃ v',e = .returned v' ∧ Txs w' v' s.comp ∧ Below w.heap.size w w' := by
  have hcb := h.comp
  have hfew := h.few.2
  obtain ⟨ip,hb,_⟩ := h.blk
  have c2 := cell_block hb 2
  have cl := lt_of_some hb
  simp at c2
  have HK := hide (keysC_any (some p.cb) w)
  have HS := hide (sortedC_any p.cb w hcb (by omega))
  clear hb hcb h
  go_enter Tryz.func49,Tryz.ntmps49
  go_wp2_with fail
  refine HK.out.mono ?_
  rintro e w1 ⟨rfl,rfl⟩
  go_wp2_with fail
  refine HS.out.mono ?_
  rintro e w2 ⟨v,rfl,hr,hb⟩
  have HR := hide hr
  have HB := hide hb
  obtain ⟨so,sc,rfl⟩ := owns_shape' hr
  clear hr hb HK HS
  go_wp2
  go_ret
  exact ⟨_,rfl,txs_own HR.out,((Below.refl _ w).alloc (Nat.le_refl _) _).trans HB.out⟩
structure Sf (w : World) (D : Dp) (p : SP) (vb bb : Nat) (X : List (Nat × Obj)) : Prop where
  own : ∀ k,p.own k → w.heap.size ≤ k ∧ k ≠ vb ∧ k ≠ bb ∧ k ≠ D.xb ∧ ∀ x ∈ X,k ≠ x.1
  ex : ∀ k,¬ p.ex k
  vl : w.heap.size ≤ vb
  bl : w.heap.size ≤ bb
  xl : w.heap.size ≤ D.xb
  n1 : vb ≠ bb
  n2 : vb ≠ D.xb
  n3 : bb ≠ D.xb
  nx : ∀ x ∈ X,x.1 ≠ vb ∧ x.1 ≠ bb ∧ x.1 ≠ D.xb
  old : D.b < w.heap.size
structure Sq (w : World) (D : Dp) (p : SP) (vb bb : Nat) (X : List (Nat × Obj)) (vs : Nat → Nat) (bs : Nat → Bool) (s : Sto) (wr : World) : Prop where
  st : StAt wr p s
  vbk : wr.heap[vb]? = some (.cells (vals4 vs) 50 (0,0))
  bbk : wr.heap[bb]? = some (.cells (bools4 bs) 51 (0,0))
  xs : ∀ x ∈ X,wr.heap[x.1]? = some x.2
  dc : ∃ i,Dc D i wr
  bel : Below w.heap.size w wr
section
variable {w : World} {D : Dp} {p : SP} {vb bb : Nat} {X : List (Nat × Obj)} {vs : Nat → Nat} {bs : Nat → Bool} {s s' : Sto} {wr w' : World}
theorem Sq.below (h : Sq w D p vb bb X vs bs s wr) (hb : Below wr.heap.size wr w') : Sq w D p vb bb X vs bs s w' := by
  obtain ⟨i,hi⟩ := h.dc
  exact ⟨h.st.below hb,(hb.block _ (lt_of_some h.vbk)).trans h.vbk,(hb.block _ (lt_of_some h.bbk)).trans h.bbk,fun x hx => (hb.block _ (lt_of_some (h.xs x hx))).trans (h.xs x hx),⟨i,hi.below hb⟩,h.bel.trans (hb.mono h.bel.size)⟩
theorem Sq.turn (h : Sq w D p vb bb X vs bs s wr) (S : Sf w D p vb bb X) {K : Nat → Prop} {vs' : Nat → Nat} {bs' : Nat → Bool} (hK : ∀ k,K k → w.heap.size ≤ k ∧ NoRow wr k ∧ ¬ p.own k ∧ ∀ x ∈ X,k ≠ x.1) (hb : ButS K wr w') (hd : ∃ i,Dc D i w')
    (hv : w'.heap[vb]? = some (.cells (vals4 vs') 50 (0,0))) (hbb : w'.heap[bb]? = some (.cells (bools4 bs') 51 (0,0))) : Sq w D p vb bb X vs' bs' s w' := by
  refine ⟨h.st.skip (X := K) (fun k e => (hK k e).2.1) (fun k hk e => (hK k e).2.2.1 hk) S.ex hb,hv,hbb,fun x hx => (hb.block _ (lt_of_some (h.xs x hx)) (fun e => (hK _ e).2.2.2 x hx rfl)).trans (h.xs x hx),hd,?_⟩
  exact ⟨hb.os.trans h.bel.os,hb.tape.trans h.bel.tape,hb.output.trans h.bel.output,Nat.le_trans h.bel.size hb.size,fun k hk => (hb.block k (by have := h.bel.size; omega) (fun e => by have := (hK k e).1; omega)).trans (h.bel.block k hk)⟩
theorem Sq.dice (h : Sq w D p vb bb X vs bs s wr) (S : Sf w D p vb bb X) (hb : But D.xb wr w') {i : Nat} (hd : Dc D i w') : Sq w D p vb bb X vs bs s w' := by
  obtain ⟨i0,h0⟩ := h.dc
  refine h.turn S (K := fun k => k = D.xb) (fun k e => ?_) ⟨hb.os,hb.tape,hb.output,hb.size,hb.block⟩ ⟨i,hd⟩ ((hb.block _ (lt_of_some h.vbk) S.n2).trans h.vbk) ((hb.block _ (lt_of_some h.bbk) S.n3).trans h.bbk)
  subst e
  exact ⟨S.xl,NoRow.cells h0.blk (by unfold RowT; decide),fun ho => (S.own _ ho).2.2.2.1 rfl,fun x hx => (S.nx x hx).2.2.symm⟩
theorem Sq.store (h : Sq w D p vb bb X vs bs s wr) (S : Sf w D p vb bb X) (hb : ButS p.own wr w') (hs : StAt w' p s') : Sq w D p vb bb X vs bs s' w' := by
  obtain ⟨i,hi⟩ := h.dc
  have hx := lt_of_some hi.blk
  refine ⟨hs,(hb.block _ (lt_of_some h.vbk) fun q => (S.own _ q).2.1 rfl).trans h.vbk,(hb.block _ (lt_of_some h.bbk) fun q => (S.own _ q).2.2.1 rfl).trans h.bbk,fun x hx => (hb.block _ (lt_of_some (h.xs x hx)) fun q => (S.own _ q).2.2.2.2 x hx rfl).trans (h.xs x hx),⟨i,?_⟩,?_⟩
  · have hob : ¬ p.own D.b := fun q => by have := (S.own _ q).1; have := S.old; omega
    have hbl : D.b < wr.heap.size := by have := S.old; have := h.bel.size; omega
    exact ⟨(hb.block _ hx fun q => (S.own _ q).2.2.2.1 rfl).trans hi.blk,fun j hj => (World.cell?_of_block (a := ⟨D.b,D.off + j,none⟩) (hb.block D.b hbl hob)).trans (hi.cells j hj),hi.addr,hi.ne,hi.old,hi.wf,hi.le,hi.len⟩
  · exact ⟨hb.os.trans h.bel.os,hb.tape.trans h.bel.tape,hb.output.trans h.bel.output,Nat.le_trans h.bel.size hb.size,fun k hk' => (hb.block k (by have := h.bel.size; omega) fun q => by have := (S.own k q).1; omega).trans (h.bel.block k hk')⟩
theorem Dc.set1 {i : Nat} {b : Nat} (hi : Dc D i wr) {q : Nat} {z : Value} (hw : D.b < wr.heap.size) (h1 : b ≠ D.xb) (h2 : D.b ≠ b) : Dc D i (wr.setCell ⟨b,q,none⟩ z) := by
  have hB : ButS (fun k => k = b) wr (wr.setCell ⟨b,q,none⟩ z) := ButS.set (T := fun k => k = b) (ButS.refl _ wr) (Or.inl rfl) _ _
  exact ⟨(hB.block _ (lt_of_some hi.blk) (fun e => h1 e.symm)).trans hi.blk,fun j hj => (World.cell?_of_block (a := ⟨D.b,D.off + j,none⟩) (hB.block D.b hw h2)).trans (hi.cells j hj),hi.addr,hi.ne,hi.old,hi.wf,hi.le,hi.len⟩
theorem Sq.setV (h : Sq w D p vb bb X vs bs s wr) (S : Sf w D p vb bb X) {k : Nat} (hk : k < 4) (v : Nat) : Sq w D p vb bb X (updN vs k v) bs s (wr.setCell ⟨vb,k,none⟩ (.int .i64 v)) := by
  obtain ⟨i,hi⟩ := h.dc
  have hB : ButS (fun k => k = vb) wr (wr.setCell ⟨vb,k,none⟩ (.int .i64 v)) := ButS.set (T := fun k => k = vb) (ButS.refl _ wr) (Or.inl rfl) _ _
  refine h.turn S (fun k e => ?_) hB ⟨i,hi.set1 (by have := S.old; have := h.bel.size; omega) S.n2 (by have := S.old; have := S.vl; omega)⟩ ?_ ((hB.block _ (lt_of_some h.bbk) S.n1.symm).trans h.bbk)
  · subst e
    exact ⟨S.vl,NoRow.cells h.vbk (by unfold RowT; decide),fun ho => (S.own _ ho).2.1 rfl,fun x hx => (S.nx x hx).1.symm⟩
  · rw [block_setCell h.vbk k _]
    rcases four hk with rfl | rfl | rfl | rfl <;> rfl
theorem Sq.setB (h : Sq w D p vb bb X vs bs s wr) (S : Sf w D p vb bb X) {k : Nat} (hk : k < 4) (v : Bool) : Sq w D p vb bb X vs (fun i => if i = k then v else bs i) s (wr.setCell ⟨bb,k,none⟩ (.bool v)) := by
  obtain ⟨i,hi⟩ := h.dc
  have hB : ButS (fun k => k = bb) wr (wr.setCell ⟨bb,k,none⟩ (.bool v)) := ButS.set (T := fun k => k = bb) (ButS.refl _ wr) (Or.inl rfl) _ _
  refine h.turn S (fun k e => ?_) hB ⟨i,hi.set1 (by have := S.old; have := h.bel.size; omega) S.n3 (by have := S.old; have := S.bl; omega)⟩ ((hB.block _ (lt_of_some h.vbk) S.n1).trans h.vbk) ?_
  · subst e
    exact ⟨S.bl,NoRow.cells h.bbk (by unfold RowT; decide),fun ho => (S.own _ ho).2.2.1 rfl,fun x hx => (S.nx x hx).2.1.symm⟩
  · rw [block_setCell h.bbk k _]
    rcases four hk with rfl | rfl | rfl | rfl <;> rfl
theorem next_sq (S : Sf w D p vb bb X) (h : Sq w D p vb bb X vs bs s wr) (n : Nat) (m : Int) (hm : m = (n : Int)) (hn : 0 < n) (hn2 : n ≤ 1000) :
    Calls Tryz.prog 22 #[.pointer (some ⟨D.xb,0,none⟩),.int .i64 m] wr fun e w' => ∃ k : Nat,k < n ∧ e = .returned (.int .i64 k) ∧ Sq w D p vb bb X vs bs s w' ∧ But D.xb wr w' := by
  obtain ⟨i,hi⟩ := h.dc
  subst hm
  refine (next_any D i wr hi n (by omega) (by omega)).mono ?_
  rintro e w' ⟨rfl,hb,hd⟩
  have hv : ∃ k : Nat,k < n ∧ (nextB D.zs i n).1 = (k : Int) := by
    unfold nextB
    split
    · exact ⟨0,hn,rfl⟩
    · next z hz =>
      have := pickB_bd z n (by omega)
      exact ⟨(pickB z n).toNat,by omega,by show pickB z n = _; omega⟩
  obtain ⟨k,hk,e⟩ := hv
  exact ⟨k,hk,by rw [e],h.dice S hb hd,hb⟩
theorem Sq.set (h : Sq w D p vb bb X vs bs s wr) (S : Sf w D p vb bb X) {n t : Nm} (hn : n.length ≤ 1000) (ht : t.length ≤ 100000) (hs : setS s n t = (0,s')) :
    Calls Tryz.prog 15 #[.pointer (some ⟨p.sb,0,none⟩),.string ⟨n.toArray⟩,.string ⟨t.toArray⟩] wr fun e w' => e = .returned (.bool true) ∧ Sq w D p vb bb X vs bs s' w' ∧ ButS p.own wr w' := by
  refine (lset_any h.st n (by omega) t (by omega)).mono ?_
  rw [hs]
  rintro e w' ⟨rfl,hb,h'⟩
  exact ⟨rfl,h.store S hb h',hb⟩
theorem Sq.clean (h : Sq w D p vb bb X vs bs s wr) (S : Sf w D p vb bb X) (hm : StM s) (h1 : (buildS s).1 = []) (h2 : (buildS s).2 = s') :
    Calls Tryz.prog 16 #[.pointer (some ⟨p.sb,0,none⟩)] wr fun e w' => e = .returned (.bool true) ∧ Sq w D p vb bb X vs bs s' w' := by
  refine (lclean_any h.st S.ex hm).mono ?_
  rw [h1,h2]
  rintro e w' ⟨rfl,hb,h'⟩
  exact ⟨rfl,h.store S hb h'⟩
theorem Sq.compiled (h : Sq w D p vb bb X vs bs s wr) {v : Value} {ns : List Nm} (hc : s.comp = ns) (hv : Txs wr v ns) :
    Calls Tryz.prog 25 #[.pointer (some ⟨p.sb,0,none⟩),v] wr fun e w' => e = .returned (.bool true) ∧ Sq w D p vb bb X vs bs s w' ∧ Below wr.heap.size wr w' := by
  subst hc
  refine (compiled_gen (by have := h.st.few.2; omega) hv (storeCompiled_any h.st)).mono ?_
  rintro e w' ⟨rfl,hb⟩
  exact ⟨rfl,h.below hb,hb⟩
theorem Sq.run (h : Sq w D p vb bb X vs bs s wr) (hok : RunOk s) {j : Nat} {t : Nat} (hR : RunIs s (nmC j) Mn [] 100 ((t : Nat),0)) :
    Calls Tryz.prog 19 #[.pointer (some ⟨p.sb,0,none⟩),.string ⟨(nmC j).toArray⟩,.string ⟨#[109,97,105,110]⟩,.slice none 0 0,.int .i64 100] wr fun e w' => e = .returned (.tuple #[.int .i64 (t : Nat),.int .i64 0]) ∧ Sq w D p vb bb X vs bs s w' := by
  refine (run_any h.st hok (nmC j) Mn (.slice none 0 0) [] (World.ownsRow_nil _ _ _ _) (by simp) 100 _ hR).mono ?_
  rintro e w' ⟨rfl,hb⟩
  exact ⟨rfl,h.below hb⟩
theorem Sq.image (h : Sq w D p vb bb X vs bs s wr) (hi : ImgOk s) (ht : Tab wr) :
    Calls Tryz.prog 20 #[.pointer (some ⟨p.sb,0,none⟩)] wr fun e w' => e = .returned (.string ⟨(imgT s).toArray⟩) ∧ Sq w D p vb bb X vs bs s w' := by
  refine (image_any h.st hi ht).mono ?_
  rintro e w' ⟨rfl,hb⟩
  exact ⟨rfl,h.below hb⟩
end
theorem lib_same (vs : Nat → Nat) (bs : Nat → Bool) : libG nameF textB vs bs 4 = libT vs bs := by
  simp [libG,libT,line,tyBB,tyB]
theorem nameF_len {i : Nat} (h : i < 4) : (nameF i).length ≤ 1000 := by rw [nameF4 h]; simp
theorem library_any {vs : Nat → Nat} (hv : ∀ i,i < 4 → vs i < 1000) (bs : Nat → Bool) (w : World) :
    Calls Tryz.prog 23 #[.agg (vals4 vs),.agg (bools4 bs)] w fun e w' => e = .returned (.string ⟨(libT vs bs).toArray⟩) ∧ Below w.heap.size w w' := by
  rw [← lib_same]
  exact library_gen (fun i hi => nameF_len hi) (fun i hi => by have := text3 _ (hv i hi); omega) (fun k w hk => name_fany k w (by omega)) (fun k w hk => text_any (vs k) w (by have := hv k hk; omega)) bs w
theorem cli_same (u : Nat) (bs : Nat → Bool) : cliG nameF u bs 4 ++ [59] = cliT (bitO u bs) := by
  have p : ∀ (j : Nat) (x : List UInt8),(if (u / 2 ^ j) % 2 = 1 then x ++ [32,43,32] ++ nameF j ++ [40] ++ (if bs j then [116,114,117,101] else [55]) ++ [41] else x) = x ++ pieceT j (bitO u bs j) := fun j x => by
    unfold bitO bitB
    by_cases h : (u / 2 ^ j) % 2 = 1
    · simp [h,pieceT,argB]
    · simp [h,pieceT]
  unfold cliT cliT4 frontK
  simp only [cliG]
  rw [p 0,p 1,p 2,p 3]
theorem client_any (u : Nat) (hu : u < 16) (bs : Nat → Bool) (w : World) :
    Calls Tryz.prog 24 #[.int .i64 u,.agg (bools4 bs)] w fun e w' => e = .returned (.string ⟨(cliT (bitO u bs)).toArray⟩) ∧ Below w.heap.size w w' := by
  rw [← cli_same]
  exact client_gen (fun i hi => nameF_len hi) (fun k w hk => name_fany k w (by omega)) u hu bs w
theorem sum_same (u : Nat) (bs : Nat → Bool) (vs : Nat → Nat) : sumN u vs 4 = totO (bitO u bs) vs := by
  have p : ∀ (j x : Nat),(if (u / 2 ^ j) % 2 = 1 then x + vs j else x) = addO x (bitO u bs j) (vs j) := fun j x => by
    unfold bitO bitB addO
    by_cases h : (u / 2 ^ j) % 2 = 1 <;> simp [h]
  simp only [sumN,totO]
  rw [p 0,p 1,p 2,p 3]
end Go.Proofs.YtpmmjkiclngpmaaGreatDoor
namespace Go.Proofs.YtpmmjkiclngpmaaGreatDoor
open Go.RowKit
abbrev usA (u : Nat → Nat) : Array Value := #[.int .i64 (u 0),.int .i64 (u 1),.int .i64 (u 2)]
abbrev nmA : Array Value := #[.string ⟨#[97]⟩,.string ⟨#[99]⟩,.string ⟨#[122]⟩]
abbrev usO (u : Nat → Nat) : Obj := .cells (usA u) 53 (0,0)
abbrev nmO3 : Obj := .cells nmA 54 (0,0)
theorem us_at {u : Nat → Nat} {w : World} {b : Nat} (h : w.heap[b]? = some (usO u)) {j : Nat} (hj : j < 3) : w.cell? ⟨b,j,none⟩ = some (.int .i64 (u j)) := by
  have a := cell_block h j
  rcases three hj with rfl | rfl | rfl <;> exact a
theorem nm_at {w : World} {b : Nat} (h : w.heap[b]? = some nmO3) {j : Nat} (hj : j < 3) : w.cell? ⟨b,j,none⟩ = some (.string ⟨(nmC j).toArray⟩) := by
  have a := cell_block h j
  rcases three hj with rfl | rfl | rfl <;> exact a
theorem flp_set (bs : Nat → Bool) (k : Nat) : (fun i => if i = k then !bs k else bs i) = flp bs k := by
  funext i
  unfold flp
  by_cases h : i = k
  · simp [h]
  · simp [h]
theorem flp_flp (bs : Nat → Bool) (k : Nat) : flp (flp bs k) k = bs := by
  funext i
  unfold flp
  by_cases h : i = k
  · simp [h]
  · simp [h]
theorem total_tot (u : Nat) (hu : u < 16) (bs : Nat → Bool) (vs : Nat → Nat) (hv : ∀ i,i < 4 → vs i ≤ 1000) (w : World) :
    Calls Tryz.prog 26 #[.int .i64 u,.agg (vals4 vs)] w fun e w' => e = .returned (.int .i64 (totO (bitO u bs) vs : Nat)) ∧ Below w.heap.size w w' := by
  rw [← sum_same]
  exact total_any u hu vs hv w
def wantN (u : Nat → Nat) (k : Nat) (x : Nm) : Nat → List Nm
  | 0 => []
  | 1 => isC (!bitB (u 0) k) [97]
  | 2 => isC (!bitB (u 0) k) [97] ++ isC (!bitB (u 1) k) [99]
  | _ => wantL u k x
def hitN (u : Nat → Nat) (k : Nat) : Nat → Nat
  | 0 => 0
  | j + 1 => hitN u k j + (bitB (u j) k).toNat
theorem hit_all (u : Nat → Nat) (k : Nat) : hitN u k 3 = hitsN u k := by simp [hitN,hitsN]
theorem txs_new (w : World) (ns : List Nm) (h : 0 < ns.length) (n : Nat) (hn : n = ns.length) (cs : Array Value) (hc : cs = (strCs ns).toArray) : Txs (w.alloc (.cells cs 9)) (.slice (some ⟨w.heap.size,0,none⟩) n n) ns := by
  subst hn hc
  refine ⟨_,_,rfl,Or.inr ⟨w.heap.size,rfl,by simp,Nat.le_refl _,fun j hj => ?_⟩⟩
  have := cell_block (block_new w (.cells (strCs ns).toArray 9)) j
  rw [this]
  show (strCs ns).toArray[j]? = _
  simp [strCs,hj]
theorem txs_nil (w : World) : Txs w (.slice none 0 0) [] := ⟨none,0,rfl,Or.inl rfl⟩
theorem Sq.cells {w : World} {D : Dp} {p : SP} {vb bb : Nat} {X : List (Nat × Obj)} {vs : Nat → Nat} {bs : Nat → Bool} {s : Sto} {wr : World} (h : Sq w D p vb bb X vs bs s wr) :
    (wr.cell? ⟨vb,0,none⟩ = some (.int .i64 (vs 0)) ∧ wr.cell? ⟨vb,1,none⟩ = some (.int .i64 (vs 1)) ∧ wr.cell? ⟨vb,2,none⟩ = some (.int .i64 (vs 2)) ∧ wr.cell? ⟨vb,3,none⟩ = some (.int .i64 (vs 3)) ∧ vb < wr.heap.size) ∧
    wr.cell? ⟨bb,0,none⟩ = some (.bool (bs 0)) ∧ wr.cell? ⟨bb,1,none⟩ = some (.bool (bs 1)) ∧ wr.cell? ⟨bb,2,none⟩ = some (.bool (bs 2)) ∧ wr.cell? ⟨bb,3,none⟩ = some (.bool (bs 3)) ∧ bb < wr.heap.size :=
  ⟨⟨vals_at h.vbk (by omega),vals_at h.vbk (by omega),vals_at h.vbk (by omega),vals_at h.vbk (by omega),lt_of_some h.vbk⟩,bools_at h.bbk (by omega),bools_at h.bbk (by omega),bools_at h.bbk (by omega),bools_at h.bbk (by omega),lt_of_some h.bbk⟩
theorem Sq.client {w : World} {D : Dp} {p : SP} {vb bb ub nb : Nat} {u : Nat → Nat} {vs : Nat → Nat} {bs : Nat → Bool} {s : Sto} {wr : World} (h : Sq w D p vb bb [(ub,usO u),(nb,nmO3)] vs bs s wr) {j : Nat} (hj : j < 3) :
    wr.cell? ⟨ub,j,none⟩ = some (.int .i64 (u j)) ∧ wr.cell? ⟨nb,j,none⟩ = some (.string ⟨(nmC j).toArray⟩) ∧ ub < wr.heap.size ∧ nb < wr.heap.size :=
  ⟨us_at (h.xs (ub,usO u) (by simp)) hj,nm_at (h.xs (nb,nmO3) (by simp)) hj,lt_of_some (h.xs (ub,usO u) (by simp)),lt_of_some (h.xs (nb,nmO3) (by simp))⟩
def st5 (a b c d : Sto) : Nat → Sto
  | 0 => a | 1 => b | 2 => c | _ => d
theorem nmC_len (j : Nat) : (nmC j).length = 1 := by unfold nmC; split <;> rfl
theorem want_grow {wz wr w3 : World} {v : Value} {n : Nat} {xs : List Value} {o : Obj} (hb : Below wz.heap.size wz wr) (hr : wr.ownsRow wz.heap.size 9 1 v n xs) (hg : (wr.alloc o).grownBy w3 v.ownBlock) : Below wz.heap.size wz w3 := by
  have g := grown_alloc hg
  have h2 : ∀ k,k < wz.heap.size → v.ownBlock ≠ some k := fun k hk e => by have := (owns_block hr k e).1; omega
  have hs := hb.size
  exact hb.trans ⟨g.os,g.tape,g.output,g.size,fun k hk => g.block k (by omega) (fun e => h2 k hk e.symm)⟩
theorem want_row {w : World} {base n m : Nat} {v : Value} {l l' : List Nm} {x : Nm} (h : w.ownsRow base 9 1 v m (strCs l ++ [.string ⟨x.toArray⟩])) (hl : l' = l ++ [x]) (hn : l.length = n) (hm : m = n + 1) : w.ownsRow base 9 1 v l'.length (strCs l') := by
  subst hl hn hm
  have e : strCs (l ++ [x]) = strCs l ++ [.string ⟨x.toArray⟩] := by simp [strCs]
  rw [e,List.length_append]
  exact h
theorem wantN_lt (u : Nat → Nat) (k : Nat) (x : Nm) {j : Nat} (hj : j < 2) : wantN u k x (j + 1) = wantN u k x j ++ isC (!bitB (u j) k) (nmC j) := by
  have : j = 0 ∨ j = 1 := by omega
  rcases this with rfl | rfl
  · simp [wantN,nmC]
  · simp [wantN,nmC]
theorem wantN_2 (u : Nat → Nat) (k : Nat) (x : Nm) : wantN u k x 3 = wantN u k x 2 ++ [x] ++ isC (!bitB (u 2) k) (nmC 2) := by
  simp [wantN,wantL,nmC]
theorem wantN_le (u : Nat → Nat) (k : Nat) (x : Nm) (j : Nat) : (wantN u k x j).length ≤ 4 := by
  have h : ∀ c n,(isC c n).length ≤ 1 := fun c n => by unfold isC; split <;> simp
  have h0 := h (!bitB (u 0) k) [97]
  have h1 := h (!bitB (u 1) k) [99]
  have h2 := h (!bitB (u 2) k) [122]
  match j with
  | 0 => simp [wantN]
  | 1 => simp only [wantN]; omega
  | 2 => simp only [wantN,List.length_append]; omega
  | j + 3 => simp only [wantN,wantL,List.length_append,List.length_cons,List.length_nil]; omega
theorem hitN_le (u : Nat → Nat) (k : Nat) : ∀ j,hitN u k j ≤ j
  | 0 => Nat.le_refl _
  | j + 1 => by
    have := hitN_le u k j
    have : (bitB (u j) k).toNat ≤ 1 := by cases bitB (u j) k <;> decide
    show hitN u k j + (bitB (u j) k).toNat ≤ j + 1
    omega
theorem cat5 (a b c d e : List UInt8) : (((ByteArray.mk a.toArray ++ ByteArray.mk b.toArray) ++ ByteArray.mk c.toArray) ++ ByteArray.mk d.toArray) ++ ByteArray.mk e.toArray = ByteArray.mk (a ++ b ++ c ++ d ++ e).toArray := by
  simp [ByteArray.mk_append_mk]
theorem hitsN_le (u : Nat → Nat) (k : Nat) : hitsN u k ≤ 3 := by rw [← hit_all]; exact hitN_le u k 3
theorem bit_true {u j k : Nat} (h : (u / 2 ^ k) % 2 = 1) (hu : u < 16) (hk : k < 4) : (bits BinOp.and IntKind.i64 ((u : Int) / 2 ^ k) 1 == 1) = true ∧ bitB u k = true := ⟨by rw [bit_is hu hk]; simpa using h,by unfold bitB; simpa using h⟩
theorem bit_false {u j k : Nat} (h : ¬ (u / 2 ^ k) % 2 = 1) (hu : u < 16) (hk : k < 4) : (bits BinOp.and IntKind.i64 ((u : Int) / 2 ^ k) 1 == 1) = false ∧ bitB u k = false := ⟨by rw [bit_is hu hk]; simpa using h,by unfold bitB; simpa using h⟩
end Go.Proofs.YtpmmjkiclngpmaaGreatDoor
