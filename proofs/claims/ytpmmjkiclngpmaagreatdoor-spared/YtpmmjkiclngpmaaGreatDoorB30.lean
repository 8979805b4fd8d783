/- YtpmmjkiclngpmaaGreatDoorB30 -/
import Derived.Test.YtpmmjkiclngpmaaGreatDoorB21
import Derived.Test.YtpmmjkiclngpmaaGreatDoorB22
import Derived.Test.YtpmmjkiclngpmaaGreatDoorB29
import Derived.Test.YtpmmjkiclngpmaaGreatDoorB17
set_option maxRecDepth 100000
set_option linter.unusedSimpArgs false
set_option linter.unusedVariables false
set_option maxHeartbeats 12800000
namespace Go.Proofs.YtpmmjkiclngpmaaGreatDoor
open Go.RowKit
def parsed (l : List UInt8) : Mod × PS := modR (splitFrom l 0) (rd (splitFrom l 0) (splitFrom l 0).length).1 ⟨0,false,0⟩
theorem last_of (l : List UInt8) : ∀ s : PS,s.i + 1 = (splitFrom l 0).length → (s.cur (splitFrom l 0)).kind = 0 := by
  intro s hs
  obtain ⟨r,x,e,hk,_⟩ := splitFrom_last l 0
  rw [e] at hs ⊢
  have : s.i = r.length := by simp at hs; omega
  simp [PS.cur,this,hk]
theorem num_of (l : List UInt8) : ∀ s : PS,(s.cur (splitFrom l 0)).kind = 3 → 0 < (s.cur (splitFrom l 0)).text.length ∧ (s.cur (splitFrom l 0)).text.length ≤ 9 ∧ ∀ c ∈ (s.cur (splitFrom l 0)).text,isDigitB (c.toNat : Int) = true := by
  intro s h
  by_cases hi : s.i < (splitFrom l 0).length
  · have := splitFrom_ok l 0 (splitFrom l 0)[s.i] (List.getElem_mem hi)
    rw [PS.cur_eq hi] at this
    exact this h
  · simp [PS.cur,List.getD,List.getElem?_eq_none (Nat.le_of_not_lt hi)] at h
theorem ModIs.low {lo lo' : Nat} {w : World} {mb : Nat} {m : Mod} (h : ModIs lo w mb m) (hl : lo' ≤ lo) : ModIs lo' w mb m := by
  obtain ⟨iv,fv,xs,a,b,c,d⟩ := h
  exact ⟨iv,fv,xs,a,owns_base b hl,owns_base c hl,d.keep (fun k h _ => ⟨by omega,rfl⟩)⟩
def Parsed (l : List UInt8) (w : World) (e : Ending) (w' : World) : Prop :=
  Below w.heap.size w w' ∧ (((parsed l).2.failed = true ∧ e = .returned (.tuple #[.pointer none,.int .i64 (parsed l).2.place])) ∨
    ((parsed l).2.failed = false ∧ ∃ mb,e = .returned (.tuple #[.pointer (some ⟨mb,0,none⟩),.int .i64 0]) ∧ w.heap.size ≤ mb ∧ ModIs w.heap.size w' mb (parsed l).1))
theorem parse_any (s : ByteArray) (w : World) (hs : s.size ≤ 100000) : Calls Tryz.prog 70 #[.string s] w (Parsed s.data.toList w) := by
  have hlen : (splitFrom s.data.toList 0).length ≤ 100001 := by
    obtain ⟨r,x,e,_,h⟩ := splitFrom_last s.data.toList 0
    rw [e]; simp at h ⊢; omega
  have hpos : 0 < (splitFrom s.data.toList 0).length := by
    obtain ⟨r,x,e,_,h⟩ := splitFrom_last s.data.toList 0
    rw [e]; simp
  have HLa := hide (last_of s.data.toList)
  have HNu := hide (num_of s.data.toList)
  have HEq := hide (show parsed s.data.toList = modR (splitFrom s.data.toList 0) (rd (splitFrom s.data.toList 0) (splitFrom s.data.toList 0).length).1 ⟨0,false,0⟩ from rfl)
  have HSp := hide (splitWords_any s w hs)
  generalize hl : s.data.toList = l at *
  have HL := hide hl
  clear hl
  generalize hw : splitFrom l 0 = ws at *
  have HWs := hide hw
  clear hw
  go_enter Tryz.func70,Tryz.ntmps70
  go_wp2_with fail
  refine HSp.out.mono ?_
  rintro e w1 ⟨v,rfl,how,hbel⟩
  obtain ⟨g,cap,cur,rfl,hbg,hblk,hnc,hcm,hcs,htk⟩ : ∃ g cap cur,v = .slice (some ⟨g,0,none⟩) ws.length cap ∧ w.heap.size ≤ g ∧ w1.heap[g]? = some (.cells cur 274 (0,0)) ∧ ws.length ≤ cap ∧ cap ≤ maxLen ∧ cur.size = cap * 3 ∧ cur.toList.take (ws.length * 3) = ws.flatMap wdCells := by
    rcases how.2 with ⟨_,h0⟩ | h
    · omega
    · exact h
  have HPrs := hide (show Prs ⟨w1.heap.size,g,cap,cur⟩ ws ⟨0,false,0⟩ (w1.alloc (.cells #[.slice (some ⟨g,0,none⟩) ws.length cap,.int .i64 0,.bool false,.int .i64 0] 203)) from
    ⟨block_new _ _,block_alloc hblk _,htk,by have := lt_of_some hblk; show g ≠ w1.heap.size; omega,hpos,hlen,hnc⟩)
  have HB1 := hide hbel
  have hs1 := hbel.size
  clear how hbel hblk htk hcs hcm
  go_wp2_with fail
  refine (module_any ⟨w1.heap.size,g,cap,cur⟩ ws (rd ws ws.length).1 (reads ⟨w1.heap.size,g,cap,cur⟩ ws HLa.out HNu.out ws.length).1 HLa.out ⟨0,false,0⟩ _ (by exact HPrs.out)).mono ?_
  rintro e w2 ⟨rfl,hok,hmod⟩
  have HO2 := hide hok
  have HM2 := hide hmod
  obtain ⟨f0,f1,f2,f3⟩ := hok.prs.field
  have hs2 := hok.size
  simp at hs2
  clear hok hmod f0 f1
  rw [← HEq.out] at HM2 HO2 f2 f3
  have HB2 := hide (show Below w.heap.size w w2 from ⟨HO2.out.but.os.trans HB1.out.os,HO2.out.but.tape.trans HB1.out.tape,HO2.out.but.output.trans HB1.out.output,by omega,fun k hk => (HO2.out.but.block k (by simp; omega) (by show k ≠ w1.heap.size; omega)).trans ((Below.heap_alloc _ _ _ (by omega)).trans (HB1.out.block k hk))⟩)
  rcases hfl : (parsed l).2.failed with _ | _
  · rw [hfl] at f2
    go_wp2
    go_ret2
    have hm := HM2.out
    rw [show ∀ o,(w1.alloc o).heap.size = w1.heap.size + 1 from fun o => by simp] at hm
    exact ⟨HB2.out,Or.inr ⟨hfl,w1.heap.size + 1,rfl,by omega,hm.low (by omega)⟩⟩
  · rw [hfl] at f2
    go_wp2
    go_region
    all_goals (try go_wp2)
    go_ret2
    exact ⟨HB2.out.drew,Or.inl ⟨hfl,rfl⟩⟩
end Go.Proofs.YtpmmjkiclngpmaaGreatDoor
namespace Go.Proofs.YtpmmjkiclngpmaaGreatDoor
open Go.RowKit
theorem splitN_short (n : Nat) (l : List UInt8) (p : Nat) : ∀ x ∈ splitN n l p,x.text.length ≤ l.length := by
  induction n generalizing l p with
  | zero => simp [splitN]
  | succ n ih =>
    simp only [splitN]
    have hdl : (l.drop (runLen isBlankB l)).length ≤ l.length := by rw [List.length_drop]; omega
    split
    · intro x hx
      simp at hx
      subst hx
      simp
    · next c r he =>
      rw [he] at hdl
      intro x hx
      simp only [List.mem_cons] at hx
      rcases hx with rfl | hx
      · simp only [List.length_take]; omega
      · have := ih _ _ x hx
        rw [List.length_drop] at this
        omega
theorem splitN_text (n : Nat) (l : List UInt8) (p : Nat) : ∀ x ∈ splitN n l p,x.kind ≠ 0 → x.text ≠ [] := by
  induction n generalizing l p with
  | zero => intro x hx; simp [splitN] at hx
  | succ n ih =>
    simp only [splitN]
    split
    · intro x hx hk; simp at hx; subst hx; simp at hk
    · next c r he =>
      have hb := firstWordB_bd c r
      intro x hx
      simp only [List.mem_cons] at hx
      rcases hx with rfl | hx
      · intro _ h0
        have h1 := congrArg List.length h0
        rw [List.length_take,List.length_nil] at h1
        have h2 : (c :: r).length = r.length + 1 := rfl
        omega
      · exact ih _ _ x hx
theorem digits_from : ∀ (l : List UInt8) (n : Nat),l.foldl (fun n c => 10 * n + (c.toNat - 48)) n + 23 ≤ (n + 23) * 10 ^ l.length
  | [],n => by simp
  | c :: r,n => by
    have h := digits_from r (10 * n + (c.toNat - 48))
    have hc : c.toNat < 256 := c.toNat_lt
    have h2 : (10 * n + (c.toNat - 48) + 23) * 10 ^ r.length ≤ ((n + 23) * 10) * 10 ^ r.length := Nat.mul_le_mul_right _ (by omega)
    rw [List.foldl_cons,List.length_cons,Nat.pow_succ,Nat.mul_comm (10 ^ r.length) 10,← Nat.mul_assoc]
    omega
theorem digits_lim (l : List UInt8) (h : l.length ≤ 9) : digitsB l < 100000000000 := by
  have h1 := digits_from l 0
  have h2 : 10 ^ l.length ≤ 10 ^ 9 := Nat.pow_le_pow_right (by omega) h
  unfold digitsB
  omega
theorem parsed_ok (l : List UInt8) (hl : l.length ≤ 600) (hf : (parsed l).2.failed = false) : MOk 601 (parsed l).1 := by
  have hlen : 0 < (splitFrom l 0).length ∧ (splitFrom l 0).length ≤ 601 := by
    obtain ⟨r,x,e,_,h⟩ := splitFrom_last l 0
    rw [e]; simp at h ⊢; omega
  have hs : Short (splitFrom l 0) := fun x hx => ⟨by have := splitN_short _ l 0 x hx; omega,splitN_text _ l 0 x hx⟩
  have h := good_mod (ws := splitFrom l 0) ⟨last_of l,fun s h => digits_lim _ (num_of l s h).2.1⟩ hs hlen.1 hf
  have e := hlen.2
  refine ⟨by have := h.il; show 3 * (parsed l).1.imports.length ≤ 601; unfold parsed; omega,h.im,by have := h.fl; show (parsed l).1.funs.length ≤ 601; unfold parsed; omega,fun f hf => ?_,fun m => Nat.le_trans (h.all m) e⟩
  have q := h.fs f hf
  exact ⟨q.name,q.pn,Nat.le_trans q.pl e,q.body.mono e,q.ne,q.pt,q.rt⟩
theorem MOk.ok {md : Mod} (h : MOk 601 md) : ModOk 700 md where
  fl := by have := h.fl; omega
  il := by have := h.il; omega
  fn f hf := (h.fs f hf).name
  im f hf := h.im f hf
  sh f hf := (h.fs f hf).body.shp.mono (by omega)
  pn f hf := (h.fs f hf).pn
  pl f hf := by have := (h.fs f hf).pl; omega
  sz f hf := by have := (h.fs f hf).pl; have := (h.fs f hf).body.siz (700 + 1); omega
  all := by have := h.all (700 + 1); unfold szF; omega
theorem PartsN.low {S : Nat → Prop} {w : World} : ∀ (k n : Nat) {pv : Value} {es : List Ex},PartsN n S w pv es → (∀ x ∈ es,Shp (fun _ => True) k x) → PartsN (k + 1) S w pv es := by
  intro k
  induction k with
  | zero =>
    intro n pv es h hs
    rcases es with _ | ⟨x,r⟩
    · cases n with
      | zero => exact Or.inl h
      | succ n =>
        rcases h with h | ⟨g,cap,cur,a,b,c,d,_⟩
        · exact Or.inl h
        · exact Or.inr ⟨g,cap,cur,a,b,c,d,fun j hj => absurd hj (by simp)⟩
    · exact absurd (hs x (by simp)) (by simp [Shp])
  | succ k ih =>
    intro n pv es h hs
    cases n with
    | zero => exact Or.inl h
    | succ n =>
      rcases h with h | ⟨g,cap,cur,a,b,c,d,e⟩
      · exact Or.inl h
      · refine Or.inr ⟨g,cap,cur,a,b,c,d,fun j hj => ?_⟩
        obtain ⟨pj,e1,e2⟩ := e j hj
        exact ⟨pj,e1,ih n e2 (fun y hy => (hs _ (List.getElem_mem hj)).2.2.2.2.2 y hy)⟩
theorem ModIs.cells7 {lo : Nat} {w : World} {mb : Nat} {md : Mod} (h : ModIs lo w mb md) (hm : MOk 601 md) : ModAt 700 (fun k => k < w.heap.size) w.heap.size w mb md := by
  obtain ⟨m,hmm⟩ := h.cells
  have h1 := hmm (max m 700) (by omega)
  obtain ⟨h1a,h1b,fo,fc,h4,h5⟩ := h1
  refine ⟨h1a,h1b,fo,fc,h4,fun hp => ?_⟩
  obtain ⟨g,a,b,c,d⟩ := h5 hp
  refine ⟨g,a,b,c,fun j hj => ?_⟩
  obtain ⟨pv,bv,b0,b1,b2,b3,b4,b5,b6,b7,b8,b9,hp,hb⟩ := d j hj
  refine ⟨pv,bv,b0,b1,b2,b3,b4,b5,b6,b7,b8,b9,hp,?_⟩
  have hsh := (hm.fs _ (List.getElem_mem hj)).body.shp.mono (show 601 ≤ 699 + 1 by omega)
  exact PartsN.low 699 _ hb (fun x hx => hsh.2.2.2.2.2 x hx)
def formOf (t : List UInt8) : Option Mod := if (parsed t).2.failed then none else some (parsed t).1
def formE (L : List Md) (n : Nm) : Option Mod := (getM L n).bind fun m => formOf m.now
def placeE (L : List Md) (n : Nm) : Nat := match getM L n with | some m => if (parsed m.now).2.failed then (parsed m.now).2.place else 0 | none => 0
structure FormsI (lo : Nat) (w : World) (fb : Nat) (L : List Md) (tr : Nm → Option (Nat × Mod)) : Prop where
  low : lo ≤ fb
  map : MapF Tryz.prog w 9 fb (names L) (fun n => .agg #[.pointer (mptr (tr n)),.int .i64 (placeE L n)])
  is : ∀ n,(tr n).map Prod.snd = formE L n
  at' : ∀ n y,tr n = some y → lo ≤ y.1 ∧ ModIs lo w y.1 y.2
theorem formE_none {L : List Md} {n : Nm} (h : n ∉ names L) : formE L n = none ∧ placeE L n = 0 := by
  have := getM_none.2 h
  simp [formE,placeE,this]
theorem formE_ok {L : List Md} (hs : ∀ m ∈ L,m.name.length ≤ 8 ∧ m.now.length ≤ 600) {n : Nm} {md : Mod} (h : formE L n = some md) : MOk 601 md := by
  unfold formE at h
  rcases hg : getM L n with _ | m
  · rw [hg] at h; cases h
  · rw [hg] at h
    simp only [Option.bind_some,formOf] at h
    split at h
    · cases h
    · next hf =>
      simp only [Option.some.injEq] at h
      subst h
      exact parsed_ok _ (hs m (getM_mem hg).1).2 (by simpa using hf)
theorem FormsI.look {lo : Nat} {w : World} {fb : Nat} {L : List Md} {tr : Nm → Option (Nat × Mod)} (h : FormsI lo w fb L tr) (n : Nm) (hn : n.length ≤ maxLen) :
    (Instr.lookup 99 (.map (some fb)) (.string ⟨n.toArray⟩) false).run Tryz.prog w = .ok (.agg #[.pointer (mptr (tr n)),.int .i64 (placeE L n)]) w := by
  have := h.map.look strK und_form (Tryz.zeroValue107 w) (key_str hn)
  rw [this]
  split
  · rfl
  · next hn' =>
    have h1 := h.is n
    rw [(formE_none hn').1] at h1
    have h2 : tr n = none := by simpa using h1
    rw [h2,(formE_none hn').2]
    rfl
theorem FormsI.may {lo : Nat} {w : World} {fb : Nat} {L : List Md} {tr : Nm → Option (Nat × Mod)} (h : FormsI lo w fb L tr) (hs : ∀ m ∈ L,m.name.length ≤ 8 ∧ m.now.length ≤ 600) (n : Nm) : MayAt 700 (fun k => k < w.heap.size) w.heap.size w (tr n) := by
  intro y hy
  have h1 := h.is n
  rw [hy] at h1
  have hok := formE_ok hs h1.symm
  exact ⟨(h.at' n y hy).2.cells7 hok,by have := hok.fl; omega,fun f hf => by have := (hok.fs f hf).pl; omega⟩
theorem FormsI.keep {lo : Nat} {w w' : World} {fb : Nat} {L : List Md} {tr : Nm → Option (Nat × Mod)} (h : FormsI lo w fb L tr) (hk : ∀ k,k < w.heap.size → lo ≤ k → w'.heap[k]? = w.heap[k]?) : FormsI lo w' fb L tr where
  low := h.low
  map := h.map.keep (hk _ h.map.lt h.low)
  is := h.is
  at' n y hy := ⟨(h.at' n y hy).1,(h.at' n y hy).2.keep fun k hk' ho => hk k hk' (ho.elim (fun e => by rw [e]; exact (h.at' n y hy).1) id)⟩
theorem FormsI.below {lo : Nat} {w w' : World} {fb : Nat} {L : List Md} {tr : Nm → Option (Nat × Mod)} (h : FormsI lo w fb L tr) (hb : Below w.heap.size w w') : FormsI lo w' fb L tr := h.keep fun k hk _ => hb.block k hk
theorem FormsI.congr {lo : Nat} {w : World} {fb : Nat} {L L' : List Md} {tr : Nm → Option (Nat × Mod)} (h : FormsI lo w fb L tr) (hn : names L' = names L) (hE : ∀ n,formE L' n = formE L n) (hP : ∀ n,placeE L' n = placeE L n) : FormsI lo w fb L' tr where
  low := h.low
  map := by rw [hn]; exact h.map.congr fun n _ => by rw [hP]
  is n := by rw [hE]; exact h.is n
  at' := h.at'
end Go.Proofs.YtpmmjkiclngpmaaGreatDoor
