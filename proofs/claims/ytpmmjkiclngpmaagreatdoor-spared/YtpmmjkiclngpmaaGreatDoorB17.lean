/- YtpmmjkiclngpmaaGreatDoorB17 -/
import Derived.Test.YtpmmjkiclngpmaaGreatDoorB12
import Derived.Test.YtpmmjkiclngpmaaGreatDoorB09
import Derived.Test.YtpmmjkiclngpmaaGreatDoorB16
import Derived.Test.YtpmmjkiclngpmaaGreatDoorB01
import Derived.BigQuiet
import Derived.Deep.RegionWith
import Derived.Deep.DeepCutAuto
set_option maxRecDepth 100000
set_option linter.unusedSimpArgs false
set_option linter.unusedVariables false
set_option maxHeartbeats 12800000
namespace Go.Proofs.YtpmmjkiclngpmaaGreatDoor
open Go.RowKit
structure CF where
  mod : Nm
  name : Nm
  pub : Bool
  params : List Nat
  sig : List UInt8
  slots : Nat
  code : List (Nat × Int)
  calls : List (List UInt8 × List UInt8)
structure Ob where
  text : List UInt8
  funs : List CF
  uses : List Us
structure Md where
  name : Nm
  now : List UInt8
  obj : Option Ob
abbrev names (L : List Md) : List Nm := L.map fun m => m.name
abbrev haves (L : List Md) : List Nm := (L.filter fun m => m.obj.isSome).map fun m => m.name
def getM (L : List Md) (n : Nm) : Option Md := L.find? fun m => m.name == n
def nowOf (L : List Md) (n : Nm) : List UInt8 := ((getM L n).map fun m => m.now).getD []
def insM (x : Md) : List Md → List Md
  | [] => [x]
  | y :: r => if bytesBefore x.name y.name then x :: y :: r else y :: insM x r
def setM (n : Nm) (t : List UInt8) (L : List Md) : List Md := if n ∈ names L then L.map fun m => if m.name = n then { m with now := t } else m else insM ⟨n,t,none⟩ L
theorem names_insM (x : Md) (L : List Md) : names (insM x L) = insB x.name (names L) := by
  induction L with
  | nil => rfl
  | cons y r ih =>
    unfold insM
    simp only [List.map_cons,insB]
    split
    · rfl
    · simp only [List.map_cons]; rw [← ih]
theorem names_setM {L : List Md} (h : Rising (names L)) (n : Nm) (t : List UInt8) : names (setM n t L) = putB n (names L) := by
  unfold setM
  split
  · next hn =>
    rw [putB_in h hn]
    unfold names
    rw [List.map_map]
    refine List.map_congr_left fun m _ => ?_
    show (if m.name = n then _ else _ : Md).name = m.name
    split <;> rfl
  · next hn => rw [names_insM,putB_out hn]
theorem getM_mem {L : List Md} {n : Nm} {m : Md} (h : getM L n = some m) : m ∈ L ∧ m.name = n := by
  unfold getM at h
  exact ⟨List.mem_of_find?_eq_some h,by have := List.find?_some h; simpa using this⟩
theorem getM_none {L : List Md} {n : Nm} : getM L n = none ↔ n ∉ names L := by
  unfold getM
  rw [List.find?_eq_none]
  simp only [List.mem_map,not_exists,not_and,beq_iff_eq]
theorem getM_of {L : List Md} (h : Rising (names L)) {m : Md} (hm : m ∈ L) : getM L m.name = some m := by
  induction L with
  | nil => cases hm
  | cons y r ih =>
    unfold getM
    rw [List.find?_cons]
    rcases List.mem_cons.1 hm with rfl | hm
    · simp
    · have h1 : bytesBefore y.name m.name = true := List.rel_of_pairwise_cons h (List.mem_map.2 ⟨m,hm,rfl⟩)
      have hne : (y.name == m.name) = false := by
        rw [beq_eq_false_iff_ne]
        intro e
        rw [e,WideAt.bytes_irrefl] at h1
        cases h1
      rw [hne]
      exact ih (List.Pairwise.of_cons h) hm
theorem mem_insM {x m : Md} {L : List Md} : m ∈ insM x L ↔ m = x ∨ m ∈ L := by
  induction L with
  | nil => simp [insM]
  | cons y r ih =>
    unfold insM
    split
    · simp
    · simp only [List.mem_cons,ih]
      constructor
      · rintro (h | h | h) <;> simp [h]
      · rintro (h | h | h) <;> simp [h]
theorem setM_mem {L : List Md} {n : Nm} {t : List UInt8} {m : Md} (h : m ∈ setM n t L) : (m.name = n ∧ m.now = t ∧ (m.obj = none ∨ ∃ m0 ∈ L,m0.name = n ∧ m.obj = m0.obj)) ∨ (m.name ≠ n ∧ m ∈ L) := by
  unfold setM at h
  split at h
  · obtain ⟨m0,h0,rfl⟩ := List.mem_map.1 h
    by_cases e : m0.name = n
    · rw [if_pos e]; exact Or.inl ⟨e,rfl,Or.inr ⟨m0,h0,e,rfl⟩⟩
    · rw [if_neg e]; exact Or.inr ⟨e,h0⟩
  · next hn =>
    rcases mem_insM.1 h with rfl | h
    · exact Or.inl ⟨rfl,rfl,Or.inl rfl⟩
    · exact Or.inr ⟨fun e => hn (List.mem_map.2 ⟨m,h,e⟩),h⟩
theorem setM_now {L : List Md} {n x : Nm} {t : List UInt8} (h : Rising (names L)) (hx : x ∈ names (setM n t L)) : nowOf (setM n t L) x = if x = n then t else nowOf L x := by
  have hr : Rising (names (setM n t L)) := by rw [names_setM h]; exact h.putB
  obtain ⟨m,hm,rfl⟩ := List.mem_map.1 hx
  unfold nowOf
  rw [getM_of hr hm]
  rcases setM_mem hm with ⟨a,b,c⟩ | ⟨a,b⟩
  · rw [if_pos a]; simpa using b
  · rw [if_neg a,getM_of h b]
theorem haves_insM (x : Md) (hx : x.obj = none) (L : List Md) : haves (insM x L) = haves L := by
  induction L with
  | nil => simp [insM,haves,hx]
  | cons y r ih =>
    unfold insM
    split
    · simp [haves,hx]
    · simp only [haves,List.filter_cons] at *
      split
      · simp only [List.map_cons]; rw [ih]
      · exact ih
theorem haves_setM (n : Nm) (t : List UInt8) (L : List Md) : haves (setM n t L) = haves L := by
  unfold setM
  split
  · unfold haves
    rw [List.filter_map,List.map_map]
    have e1 : (L.filter ((fun m : Md => m.obj.isSome) ∘ fun m => if m.name = n then { m with now := t } else m)) = L.filter fun m => m.obj.isSome := by
      refine List.filter_congr fun m _ => ?_
      show (if m.name = n then ({ m with now := t } : Md) else m).obj.isSome = _
      split <;> rfl
    rw [e1]
    refine List.map_congr_left fun m _ => ?_
    show (if m.name = n then ({ m with now := t } : Md) else m).name = m.name
    split <;> rfl
  · exact haves_insM _ rfl _
theorem haves_sub {L : List Md} {n : Nm} (h : n ∈ haves L) : ∃ m ∈ L,m.name = n ∧ m.obj.isSome = true := by
  obtain ⟨m,hm,rfl⟩ := List.mem_map.1 h
  obtain ⟨a,b⟩ := List.mem_filter.1 hm
  exact ⟨m,a,rfl,b⟩
theorem mem_haves {L : List Md} (h : Rising (names L)) {m : Md} (hm : m ∈ L) : m.name ∈ haves L ↔ m.obj.isSome = true := by
  constructor
  · intro hn
    obtain ⟨m',h1,h2,h3⟩ := haves_sub hn
    have e1 := getM_of h hm
    have e2 := getM_of h h1
    rw [h2,e1] at e2
    simp only [Option.some.injEq] at e2
    rw [e2]; exact h3
  · intro hs
    exact List.mem_map.2 ⟨m,List.mem_filter.2 ⟨hm,hs⟩,rfl⟩
end Go.Proofs.YtpmmjkiclngpmaaGreatDoor
namespace Go.Proofs.YtpmmjkiclngpmaaGreatDoor
open Go.RowKit
structure ButS (T : Nat → Prop) (w w' : World) : Prop where
  os : w'.os = w.os
  tape : w'.tape = w.tape
  output : w'.output = w.output
  size : w.heap.size ≤ w'.heap.size
  block : ∀ k,k < w.heap.size → ¬ T k → w'.heap[k]? = w.heap[k]?
theorem ButS.refl (T : Nat → Prop) (w : World) : ButS T w w := ⟨rfl,rfl,rfl,Nat.le_refl _,fun _ _ _ => rfl⟩
theorem ButS.trans {T : Nat → Prop} {a b c : World} (h : ButS T a b) (k : ButS T b c) : ButS T a c :=
  ⟨k.os.trans h.os,k.tape.trans h.tape,k.output.trans h.output,Nat.le_trans h.size k.size,fun i hi hne => (k.block i (Nat.lt_of_lt_of_le hi h.size) hne).trans (h.block i hi hne)⟩
theorem ButS.of_below {T : Nat → Prop} {w w' : World} (h : Below w.heap.size w w') : ButS T w w' := ⟨h.os,h.tape,h.output,h.size,fun k hk _ => h.block k hk⟩
theorem ButS.of_grown {T : Nat → Prop} {w w' : World} {r : Option Nat} (h : w.grownBy w' r) (hr : ∀ k,r = some k → T k ∨ w.heap.size ≤ k) : ButS T w w' :=
  ⟨h.os,h.tape,h.output,h.size,fun k hk hT => h.block k hk (fun e => (hr k e.symm).elim hT (fun h' => by omega))⟩
theorem ButS.set {T : Nat → Prop} {a w : World} (h : ButS T a w) {b : Nat} (hb : T b ∨ a.heap.size ≤ b) (o : Nat) (u : Value) : ButS T a (w.setCell ⟨b,o,none⟩ u) :=
  ⟨h.os,h.tape,h.output,by have := h.size; simp [World.setCell]; omega,fun k hk hne => (Below.heap_setCell w ⟨b,o,none⟩ u k (fun e => by
    rcases hb with hb | hb
    · exact hne (by rw [show k = b from e]; exact hb)
    · have : k = b := e
      omega)).trans (h.block k hk hne)⟩
def CRow (S : Nat → Prop) (w : World) (t : TypeId) (size : Nat) (v : Value) (n : Nat) (xs : List Value) : Prop := w.ownsRow 0 t size v n xs ∧ ∀ k,v.ownBlock = some k → S k
theorem CRow.keep {S S' : Nat → Prop} {w w' : World} {t : TypeId} {size : Nat} {v : Value} {n : Nat} {xs : List Value} (h : CRow S w t size v n xs) (hk : ∀ k,S k → k < w.heap.size → S' k ∧ w'.heap[k]? = w.heap[k]?) : CRow S' w' t size v n xs :=
  ⟨owr_keep h.1 fun k e l => (hk k (h.2 k e) l).2,fun k e => (hk k (h.2 k e) (owns_block h.1 k e).2).1⟩
theorem CRow.of {S : Nat → Prop} {w : World} {lo : Nat} {t : TypeId} {size : Nat} {v : Value} {n : Nat} {xs : List Value} (h : w.ownsRow lo t size v n xs) (hS : ∀ k,v.ownBlock = some k → S k) : CRow S w t size v n xs := ⟨own_base h (Nat.zero_le _),hS⟩
def fnCells (f : CF) (pv kv lv : Value) : List Value := [.string ⟨f.mod.toArray⟩,.string ⟨f.name.toArray⟩,.bool f.pub,pv,.string ⟨f.sig.toArray⟩,.int .i64 f.slots,kv,lv]
structure FnRows (S : Nat → Prop) (w : World) (f : CF) (pv kv lv : Value) : Prop where
  pr : CRow S w 132 1 pv f.params.length (typCells f.params)
  co : CRow S w 196 2 kv f.code.length (insCells f.code)
  ca : CRow S w 87 2 lv f.calls.length (symCells f.calls)
theorem FnRows.keep {S S' : Nat → Prop} {w w' : World} {f : CF} {pv kv lv : Value} (h : FnRows S w f pv kv lv) (hk : ∀ k,S k → k < w.heap.size → S' k ∧ w'.heap[k]? = w.heap[k]?) : FnRows S' w' f pv kv lv := ⟨h.pr.keep hk,h.co.keep hk,h.ca.keep hk⟩
def FnsAt (S : Nat → Prop) (w : World) (xs : List Value) (fs : List CF) : Prop :=
  xs.length = fs.length * 8 ∧ ∀ j,(h : j < fs.length) → ∃ pv kv lv,(xs.drop (j * 8)).take 8 = fnCells fs[j] pv kv lv ∧ FnRows S w fs[j] pv kv lv
theorem FnsAt.keep {S S' : Nat → Prop} {w w' : World} {xs : List Value} {fs : List CF} (h : FnsAt S w xs fs) (hk : ∀ k,S k → k < w.heap.size → S' k ∧ w'.heap[k]? = w.heap[k]?) : FnsAt S' w' xs fs :=
  ⟨h.1,fun j hj => by obtain ⟨pv,kv,lv,a,b⟩ := h.2 j hj; exact ⟨pv,kv,lv,a,b.keep hk⟩⟩
def FnRow (S : Nat → Prop) (w : World) (v : Value) (fs : List CF) : Prop := ∃ xs,CRow S w 92 8 v fs.length xs ∧ FnsAt S w xs fs
theorem FnRow.keep {S S' : Nat → Prop} {w w' : World} {v : Value} {fs : List CF} (h : FnRow S w v fs) (hk : ∀ k,S k → k < w.heap.size → S' k ∧ w'.heap[k]? = w.heap[k]?) : FnRow S' w' v fs := by
  obtain ⟨xs,a,b⟩ := h; exact ⟨xs,a.keep hk,b.keep hk⟩
def ObAt (S : Nat → Prop) (w : World) (v : Value) (o : Ob) : Prop :=
  ∃ fv uv,v = .agg #[.string ⟨o.text.toArray⟩,fv,uv] ∧ FnRow S w fv o.funs ∧ CRow S w 185 3 uv o.uses.length (useCells o.uses)
theorem ObAt.keep {S S' : Nat → Prop} {w w' : World} {v : Value} {o : Ob} (h : ObAt S w v o) (hk : ∀ k,S k → k < w.heap.size → S' k ∧ w'.heap[k]? = w.heap[k]?) : ObAt S' w' v o := by
  obtain ⟨fv,uv,a,b,c⟩ := h; exact ⟨fv,uv,a,b.keep hk,c.keep hk⟩
def ImAt (S : Nat → Prop) (w : World) (ip : Option Addr) (im : Option (List CF)) : Prop :=
  match im with
  | none => ip = none
  | some fs => ∃ ib fv,ip = some ⟨ib,0,none⟩ ∧ S ib ∧ w.heap[ib]? = some (.cells #[fv] 95 (0,0)) ∧ FnRow S w fv fs
theorem ImAt.keep {S S' : Nat → Prop} {w w' : World} {ip : Option Addr} {im : Option (List CF)} (h : ImAt S w ip im) (hk : ∀ k,S k → k < w.heap.size → S' k ∧ w'.heap[k]? = w.heap[k]?) : ImAt S' w' ip im := by
  cases im with
  | none => exact h
  | some fs => obtain ⟨ib,fv,a,b,c,d⟩ := h; exact ⟨ib,fv,a,(hk ib b (lt_of_some c)).1,(hk ib b (lt_of_some c)).2.trans c,d.keep hk⟩
structure SP where
  sb : Nat
  mb : Nat
  ob : Nat
  cb : Nat
  ex : Nat → Prop
def SP.own (p : SP) (k : Nat) : Prop := k = p.sb ∨ k = p.mb ∨ k = p.ob ∨ k = p.cb
def SP.out (p : SP) (k : Nat) : Prop := p.own k ∨ p.ex k
structure Sto where
  L : List Md
  comp : List Nm
  img : Option (List CF)
def txtV (L : List Md) (n : Nm) : Value := .agg #[.string ⟨(nowOf L n).toArray⟩]
structure StAt (w : World) (p : SP) (s : Sto) : Prop where
  blk : ∃ ip,w.heap[p.sb]? = some (.cells #[.map (some p.mb),.map (some p.ob),.map (some p.cb),.pointer ip] 84 (0,0)) ∧ ImAt (fun k => ¬ p.out k) w ip s.img
  mods : MapF Tryz.prog w 9 p.mb (names s.L) (txtV s.L)
  objs : ∃ ov,MapF Tryz.prog w 9 p.ob (haves s.L) ov ∧ ∀ m ∈ s.L,∀ o,m.obj = some o → ObAt (fun k => ¬ p.out k) w (ov m.name) o
  comp : MapF Tryz.prog w 9 p.cb s.comp (fun _ => .agg #[])
  n1 : p.mb ≠ p.ob
  n2 : p.mb ≠ p.cb
  n3 : p.ob ≠ p.cb
  few : s.L.length ≤ 8 ∧ s.comp.length ≤ 8
  small : ∀ m ∈ s.L,m.name.length ≤ 8 ∧ m.now.length ≤ 600
theorem strK : Maps.Keyed Tryz.prog 9 := Maps.string_keyed Tryz.underlying9
theorem StAt.rising {w : World} {p : SP} {s : Sto} (h : StAt w p s) : Rising (names s.L) := h.mods.rising strK
theorem StAt.sbmap {w : World} {p : SP} {s : Sto} (h : StAt w p s) : p.sb ≠ p.mb ∧ p.sb ≠ p.ob ∧ p.sb ≠ p.cb := by
  obtain ⟨ip,hb,_⟩ := h.blk
  obtain ⟨ov,ho,_⟩ := h.objs
  obtain ⟨_,_,a⟩ := h.mods.isMap
  obtain ⟨_,_,b⟩ := ho.isMap
  obtain ⟨_,_,c⟩ := h.comp.isMap
  refine ⟨fun e => ?_,fun e => ?_,fun e => ?_⟩
  · rw [e,a] at hb; cases hb
  · rw [e,b] at hb; cases hb
  · rw [e,c] at hb; cases hb
theorem StAt.lt {w : World} {p : SP} {s : Sto} (h : StAt w p s) {k : Nat} (hk : p.own k) : k < w.heap.size := by
  obtain ⟨ip,hb,_⟩ := h.blk
  obtain ⟨ov,ho,_⟩ := h.objs
  rcases hk with rfl | rfl | rfl | rfl
  · exact lt_of_some hb
  · exact h.mods.lt
  · exact ho.lt
  · exact h.comp.lt
theorem StAt.keep {w w' : World} {p : SP} {s : Sto} (h : StAt w p s) (hk : ∀ k,k < w.heap.size → w'.heap[k]? = w.heap[k]?) : StAt w' p s where
  blk := by obtain ⟨ip,a,b⟩ := h.blk; exact ⟨ip,(hk _ (lt_of_some a)).trans a,b.keep fun k h1 h2 => ⟨h1,hk k h2⟩⟩
  mods := h.mods.keep (hk _ h.mods.lt)
  objs := by obtain ⟨ov,a,b⟩ := h.objs; exact ⟨ov,a.keep (hk _ a.lt),fun m hm o ho => (b m hm o ho).keep fun k h1 h2 => ⟨h1,hk k h2⟩⟩
  comp := h.comp.keep (hk _ h.comp.lt)
  n1 := h.n1
  n2 := h.n2
  n3 := h.n3
  few := h.few
  small := h.small
theorem StAt.keepE {w w' : World} {p : SP} {s : Sto} (h : StAt w p s) (hno : ∀ k,p.own k → ¬ p.ex k) (hk : ∀ k,k < w.heap.size → ¬ p.ex k → w'.heap[k]? = w.heap[k]?) : StAt w' p s where
  blk := by obtain ⟨ip,a,b⟩ := h.blk; exact ⟨ip,(hk _ (lt_of_some a) (hno _ (Or.inl rfl))).trans a,b.keep fun k h1 h2 => ⟨h1,hk k h2 (fun e => h1 (Or.inr e))⟩⟩
  mods := h.mods.keep (hk _ h.mods.lt (hno _ (Or.inr (Or.inl rfl))))
  objs := by obtain ⟨ov,a,b⟩ := h.objs; exact ⟨ov,a.keep (hk _ a.lt (hno _ (Or.inr (Or.inr (Or.inl rfl))))),fun m hm o ho => (b m hm o ho).keep fun k h1 h2 => ⟨h1,hk k h2 (fun e => h1 (Or.inr e))⟩⟩
  comp := h.comp.keep (hk _ h.comp.lt (hno _ (Or.inr (Or.inr (Or.inr rfl)))))
  n1 := h.n1
  n2 := h.n2
  n3 := h.n3
  few := h.few
  small := h.small
theorem StAt.more {w : World} {p : SP} {s : Sto} (h : StAt w p s) (ex : Nat → Prop) (hx : ∀ k,k < w.heap.size → ex k → p.out k) : StAt w { p with ex := ex } s where
  blk := by obtain ⟨ip,a,b⟩ := h.blk; exact ⟨ip,a,b.keep fun k h1 h2 => ⟨fun ho => ho.elim (fun q => h1 (Or.inl q)) (fun q => h1 (hx k h2 q)),rfl⟩⟩
  mods := h.mods
  objs := by obtain ⟨ov,a,b⟩ := h.objs; exact ⟨ov,a,fun m hm o ho => (b m hm o ho).keep fun k h1 h2 => ⟨fun ho => ho.elim (fun q => h1 (Or.inl q)) (fun q => h1 (hx k h2 q)),rfl⟩⟩
  comp := h.comp
  n1 := h.n1
  n2 := h.n2
  n3 := h.n3
  few := h.few
  small := h.small
theorem StAt.below {w w' : World} {p : SP} {s : Sto} (h : StAt w p s) (hb : Below w.heap.size w w') : StAt w' p s := h.keep fun k hk => hb.block k hk
theorem key_str {n : Nm} (h : n.length ≤ maxLen) : keyOf Tryz.prog 9 (.string ⟨n.toArray⟩) = some (.string n) := Go.WideMaps.keyOf_string_mk Tryz.underlying9 (s := ⟨n.toArray⟩) (by show n.toArray.size ≤ maxLen; simpa using h)
theorem und_kept : Tryz.prog.underlying 79 = some (.map 9 129) := Tryz.underlying79
theorem und_obj : Tryz.prog.underlying 80 = some (.map 9 154) := Tryz.underlying80
theorem und_unit : Tryz.prog.underlying 81 = some (.map 9 157) := Tryz.underlying81
theorem und_form : Tryz.prog.underlying 99 = some (.map 9 107) := Tryz.underlying99
theorem StAt.field {w : World} {p : SP} {s : Sto} (h : StAt w p s) : w.cell? ⟨p.sb,0,none⟩ = some (.map (some p.mb)) ∧ w.cell? ⟨p.sb,1,none⟩ = some (.map (some p.ob)) ∧ w.cell? ⟨p.sb,2,none⟩ = some (.map (some p.cb)) ∧ p.sb < w.heap.size := by
  obtain ⟨ip,hb,_⟩ := h.blk
  refine ⟨?_,?_,?_,lt_of_some hb⟩ <;> rw [cell_block hb] <;> rfl
theorem has_any {w : World} {p : SP} {s : Sto} (h : StAt w p s) (n : Nm) (hn : n.length ≤ maxLen) :
    Calls Tryz.prog 50 #[.pointer (some ⟨p.sb,0,none⟩),.string ⟨n.toArray⟩] w fun e w' => e = .returned (.bool (decide (n ∈ names s.L))) ∧ Below w.heap.size w w' := by
  obtain ⟨c0,_,_,hl⟩ := h.field
  have hrun := h.mods.lookOk strK und_kept (Tryz.zeroValue129 w) (key_str hn)
  clear h
  by_cases hm : n ∈ names s.L
  · rw [if_pos hm] at hrun
    have HD := hide (show decide (n ∈ names s.L) = true by simpa using hm)
    rw [HD.out] at hrun ⊢
    unfold txtV at hrun
    clear hm
    go_enter Tryz.func50,Tryz.ntmps50
    go_wp2
    go_ret
    exact ⟨rfl,(Below.refl _ _).alloc (Nat.le_refl _) _⟩
  · rw [if_neg hm] at hrun
    have HD := hide (show decide (n ∈ names s.L) = false by simpa using hm)
    rw [HD.out] at hrun ⊢
    clear hm
    go_enter Tryz.func50,Tryz.ntmps50
    go_wp2
    go_ret
    exact ⟨rfl,(Below.refl _ _).alloc (Nat.le_refl _) _⟩
end Go.Proofs.YtpmmjkiclngpmaaGreatDoor
namespace Go.Proofs.YtpmmjkiclngpmaaGreatDoor
open Go.RowKit
def isNameT (t : List UInt8) : Bool := !(t == []) && (decide (t.length ≤ 8) && (isLetterB ((t.headD 0).toNat : Int) && (runLen isNameByteB t == t.length && !isKwB t)))
theorem isName_any (s : ByteArray) (w : World) : Calls Tryz.prog 59 #[.string s] w fun e w' => e = .returned (.bool (isNameT s.data.toList)) ∧ w' = w := by
  by_cases h0 : 0 < s.size
  · have hc := bytes_cons s h0
    have hne : ¬ s.data.toList = [] := by rw [hc]; simp
    have hem : s.toList.isEmpty = false := by rw [ByteArray.toList_eq,hc]; rfl
    have hne2 : ¬ s.toList = [] := by rw [ByteArray.toList_eq]; exact hne
    have hll : s.data.toList.length = s.size := by simp
    by_cases h8 : s.size ≤ 8
    · have h8' : ¬ (8 : Int) < (s.size : Int) := by omega
      have HV := hide (show isNameT s.data.toList = (isLetterB (s[0].toNat : Int) && (runLen isNameByteB s.data.toList == s.size && !isKwB s.data.toList)) by
        unfold isNameT
        have e1 : (s.data.toList == ([] : List UInt8)) = false := by simpa using hne
        rw [e1,show decide (s.data.toList.length ≤ 8) = true by rw [hll]; simpa using h8,hll,show s.data.toList.headD 0 = s[0] by rw [hc]; rfl]
        rfl)
      have HR := hide (runLength_nameByte s w (by unfold maxLen; omega))
      have hrl := runLen_le isNameByteB s.data.toList
      clear hc
      generalize hr : runLen isNameByteB s.data.toList = r at *
      go_enter Tryz.func59,Tryz.ntmps59
      go_wp2_with fail
      refine (isLetter_any _ w).mono ?_
      rintro e w ⟨rfl,rfl⟩
      rcases hL : isLetterB (s[0].toNat : Int) with _ | _
      · go_wp2
        go_ret
        exact ⟨ret_bool (by rw [HV.out,hL]; rfl),rfl⟩
      · go_wp2_with fail
        refine HR.out.mono ?_
        rintro e w ⟨rfl,rfl⟩
        by_cases hq : r = s.size
        · have hq' : (r : Int) = (s.size : Int) := by omega
          go_wp2_with fail
          refine (isKeyword_any s _).mono ?_
          rintro e w ⟨rfl,rfl⟩
          go_wp2
          go_ret
          exact ⟨ret_bool (by rw [HV.out,hL,hq]; simp),rfl⟩
        · have hq' : ¬ (r : Int) = (s.size : Int) := by omega
          go_wp2
          go_ret
          exact ⟨ret_bool (by rw [HV.out,hL,show (r == s.size) = false by simpa using hq]; rfl),rfl⟩
    · have h8' : (8 : Int) < (s.size : Int) := by omega
      have HV := hide (show isNameT s.data.toList = false by
        unfold isNameT
        rw [show decide (s.data.toList.length ≤ 8) = false by rw [hll]; simpa using h8]
        simp)
      clear hc
      go_enter Tryz.func59,Tryz.ntmps59
      go_wp2
      go_ret
      exact ⟨ret_bool (by rw [HV.out]),rfl⟩
  · have hs0 : s.size = 0 := by omega
    have he : s.data.toList = [] := List.eq_nil_of_length_eq_zero (by rw [show s.data.toList.length = s.size by simp]; exact hs0)
    have he2 : s.toList = [] := by rw [ByteArray.toList_eq]; exact he
    have HV := hide (show isNameT s.data.toList = false by rw [he]; rfl)
    go_enter Tryz.func59,Tryz.ntmps59
    go_wp2
    go_ret
    exact ⟨ret_bool (by rw [HV.out]),rfl⟩
def emptySto : Sto := ⟨[],[],none⟩
theorem make_mods (w : World) : (Instr.makeMap 79 none).run Tryz.prog w = .ok (.map (some w.heap.size)) (w.alloc (.map #[] 0)) := by
  simp [Instr.makeMap,go_sem]
theorem make_objs (w : World) : (Instr.makeMap 80 none).run Tryz.prog w = .ok (.map (some w.heap.size)) (w.alloc (.map #[] 0)) := by
  simp [Instr.makeMap,go_sem]
theorem make_unit (w : World) : (Instr.makeMap 81 none).run Tryz.prog w = .ok (.map (some w.heap.size)) (w.alloc (.map #[] 0)) := by
  simp [Instr.makeMap,go_sem]
theorem new_any (w : World) : Calls Tryz.prog 30 #[] w fun e w' => ∃ p : SP,e = .returned (.pointer (some ⟨p.sb,0,none⟩)) ∧ Below w.heap.size w w' ∧ StAt w' p emptySto ∧ (∀ k,p.own k → w.heap.size ≤ k) ∧ ∀ k,¬ p.ex k := by
  have h1 := make_mods
  have h2 := make_objs
  have h3 := make_unit
  go_enter Tryz.func30,Tryz.ntmps30
  go_wp2
  go_ret
  refine ⟨⟨w.heap.size + 1 + 1 + 1,w.heap.size,w.heap.size + 1,w.heap.size + 1 + 1,fun _ => False⟩,rfl,((((Below.refl _ _).alloc (Nat.le_refl _) _).alloc (by simp) _).alloc (by simp; omega) _).alloc (by simp; omega) _,?_,?_,fun _ h => h⟩
  · have a1 : ∀ (w0 : World) (o : Obj),(w0.alloc o).heap.size = w0.heap.size + 1 := fun w0 o => by simp
    refine ⟨⟨none,?_,rfl⟩,?_,⟨fun _ => .agg #[],?_,fun m hm => by cases hm⟩,?_,?_,?_,?_,⟨by simp [emptySto],by simp [emptySto]⟩,fun m hm => by cases hm⟩
    · have := block_new (((w.alloc (.map #[] 0)).alloc (.map #[] 0)).alloc (.map #[] 0)) (.cells #[.map (some w.heap.size),.map (some (w.heap.size + 1)),.map (some (w.heap.size + 1 + 1)),.pointer none] 84)
      simp only [a1] at this
      exact this
    · exact (((MapF.new Tryz.prog w 9 _).below ((Below.refl _ _).alloc (Nat.le_refl _) _)).below ((Below.refl _ _).alloc (Nat.le_refl _) _)).below ((Below.refl _ _).alloc (Nat.le_refl _) _)
    · have := (((MapF.new Tryz.prog (w.alloc (.map #[] 0)) 9 (fun _ => .agg #[])).below ((Below.refl _ _).alloc (Nat.le_refl _) (.map #[] 0))).below ((Below.refl _ _).alloc (Nat.le_refl _) (.cells #[.map (some w.heap.size),.map (some (w.heap.size + 1)),.map (some (w.heap.size + 1 + 1)),.pointer none] 84)))
      simp only [a1] at this
      exact this
    · have := ((MapF.new Tryz.prog ((w.alloc (.map #[] 0)).alloc (.map #[] 0)) 9 (fun _ => .agg #[])).below ((Below.refl _ _).alloc (Nat.le_refl _) (.cells #[.map (some w.heap.size),.map (some (w.heap.size + 1)),.map (some (w.heap.size + 1 + 1)),.pointer none] 84)))
      simp only [a1] at this
      exact this
    · show w.heap.size ≠ w.heap.size + 1; omega
    · show w.heap.size ≠ w.heap.size + 1 + 1; omega
    · show w.heap.size + 1 ≠ w.heap.size + 1 + 1; omega
  · rintro k (rfl | rfl | rfl | rfl) <;> simp only <;> omega
end Go.Proofs.YtpmmjkiclngpmaaGreatDoor
