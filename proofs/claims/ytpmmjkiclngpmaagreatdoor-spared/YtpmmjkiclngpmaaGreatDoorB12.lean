/- YtpmmjkiclngpmaaGreatDoorB12 -/
import Derived.Maps.Own
import Derived.Maps.OwnSet
import Derived.Maps.Views
import Derived.Maps.Keyed
import Derived.Maps.Range
import Derived.Below
import Derived.Test.YtpmmjkiclngpmaaGreatDoorProg
import Derived.DeepKeys3
import Derived.Maps.RangeWalk
set_option maxRecDepth 100000
set_option linter.unusedSimpArgs false
set_option linter.unusedVariables false
set_option maxHeartbeats 12800000
namespace Go.Proofs.YtpmmjkiclngpmaaGreatDoor
open Go.RowKit Go.Maps Go.WideMaps
def rawE (v : Value) : Option (DataW Value × List MemPlace) := some (.held v,[])
def upd (d : ∀ p : Prop,Decidable p) (get : Lit → Option Value) (kl : Lit) (o : Option Value) : Lit → Option Value := fun q => @ite _ (q = kl) (d _) o (get q)
theorem upd_same (d : ∀ p : Prop,Decidable p) (get : Lit → Option Value) (kl : Lit) (o : Option Value) : upd d get kl o kl = o := by unfold upd; exact if_pos rfl
theorem upd_other (d : ∀ p : Prop,Decidable p) (get : Lit → Option Value) (kl : Lit) (o : Option Value) {q : Lit} (h : q ≠ kl) : upd d get kl o q = get q := by unfold upd; exact if_neg h
def MapV (P : Program) (w : World) (k : TypeId) (b n : Nat) (get : Lit → Option Value) : Prop :=
  ∃ D,w.ownsMap P k rawE b n D ∧ ∀ kl,(∃ v,keyOf P k v = some kl) → has D kl = (get kl).isSome ∧ ∀ z,D.atKey kl z = match get kl with | some v => .held v | none => z
variable {P : Program} {w w' : World} {k : TypeId} {b n : Nat} {get : Lit → Option Value}
theorem MapV.new (P : Program) (w : World) (k : TypeId) : MapV P (w.alloc (.map #[] 0)) k w.heap.size 0 (fun _ => none) :=
  ⟨.map [],World.ownsMap_made _ _ _ _,fun kl _ => ⟨rfl,fun z => rfl⟩⟩
theorem MapV.lt (h : MapV P w k b n get) : b < w.heap.size := by obtain ⟨D,hm,_⟩ := h; exact hm.lt
theorem MapV.keep (h : MapV P w k b n get) (hk : w'.heap[b]? = w.heap[b]?) : MapV P w' k b n get := by
  obtain ⟨D,⟨es,cl,hb,F,hs,hD⟩,hat⟩ := h
  exact ⟨D,⟨es,cl,hk.trans hb,F,hs,hD⟩,hat⟩
theorem MapV.isMap (h : MapV P w k b n get) : ∃ es cl,w.heap[b]? = some (.map es cl) := by
  obtain ⟨D,⟨es,cl,hb,_⟩,_⟩ := h; exact ⟨_,_,hb⟩
theorem rawE_inv {v : Value} {d : DataW Value} {ps : List MemPlace} (h : rawE v = some (d,ps)) : d = .held v := by
  simp only [rawE,Option.some.injEq,Prod.mk.injEq] at h; exact h.1.symm
theorem MapV.look (h : MapV P w k b n get) (K : Keyed P k) {t e : TypeId} (ht : P.underlying t = some (.map k e)) {z : Value} (hz : (zeroValue e).run P w = .ok z w) {key : Value} {kl : Lit} (hkey : keyOf P k key = some kl) :
    (Instr.lookup t (.map (some b)) key false).run P w = .ok ((get kl).getD z) w := by
  obtain ⟨D,hm,hat⟩ := h
  obtain ⟨v,ps,hrun,hv⟩ := hm.lookup K ht hz (zd := .held z) (zp := []) rfl hkey
  have h1 := rawE_inv hv
  rw [(hat kl ⟨_,hkey⟩).2] at h1
  rw [hrun]
  cases hg : get kl with
  | none => rw [hg] at h1; simp only [DataW.held.injEq] at h1; rw [← h1]; rfl
  | some u => rw [hg] at h1; simp only [DataW.held.injEq] at h1; rw [← h1]; rfl
theorem MapV.of_put {D : DataW Value} (hm : w.ownsMap P k rawE b n D) (hat : ∀ kl,(∃ v,keyOf P k v = some kl) → has D kl = (get kl).isSome ∧ ∀ z,D.atKey kl z = match get kl with | some v => .held v | none => z) (K : Keyed P k)
    {kl : Lit} {v : Value} (hk : ∃ u,keyOf P k u = some kl) {n' : Nat} (hm' : w'.ownsMap P k rawE b n' (D.put kl (.held v))) : MapV P w' k b n' (upd Classical.propDecidable get kl (some v)) := by
  refine ⟨_,hm',fun q hq => ?_⟩
  obtain ⟨u,hu⟩ := hk
  by_cases e : q = kl
  · subst e
    rw [upd_same]
    exact ⟨has_put_same hm.isMap (K.key hu) _,fun z => atKey_put_same hm.isMap (K.key hu) _ _⟩
  · rw [upd_other _ _ _ _ e]
    exact ⟨by rw [has_put_other e]; exact (hat q hq).1,fun z => by rw [atKey_put_other e]; exact (hat q hq).2 z⟩
theorem MapV.put (h : MapV P w k b n get) (K : Keyed P k) {t e : TypeId} (ht : P.underlying t = some (.map k e)) (hn : n < maxLen) {key val : Value} {kl : Lit} (hkey : keyOf P k key = some kl) :
    ∃ w',(Instr.mapUpdate t (.map (some b)) key val).run P w = .ok () w' ∧ MapV P w' k b (n + 1) (upd Classical.propDecidable get kl (some val)) ∧ w.grownBy w' (some b) := by
  obtain ⟨D,hm,hat⟩ := h
  obtain ⟨w',hrun,h1,h2⟩ := hm.update K ht hn hkey (val := val) (d := .held val) (ps := []) rfl
  exact ⟨w',hrun,MapV.of_put hm hat K ⟨_,hkey⟩ h1,h2⟩
end Go.Proofs.YtpmmjkiclngpmaaGreatDoor
namespace Go.Proofs.YtpmmjkiclngpmaaGreatDoor
open Go.RowKit Go.Maps Go.WideMaps
theorem symK : Keyed Tryz.prog 87 := Keyed.of_law (Go.deep_law (m := 5) (by omega) (by kernel_rfl) (by kernel_rfl) (by kernel_rfl))
def symVal (x : List UInt8 × List UInt8) : Value := .agg #[.string ⟨x.1.toArray⟩,.string ⟨x.2.toArray⟩]
theorem sym_type : Tryz.prog.keyType 87 = true := by kernel_rfl
theorem sym_cells : Tryz.prog.cellsOf 87 = 2 := by kernel_rfl
theorem str_cells : Tryz.prog.cellsOf 9 = 1 := by kernel_rfl
def symL (x : List UInt8 × List UInt8) : Lit := .string (keyBytes [.string x.1,.string x.2])
theorem key_sym {x : List UInt8 × List UInt8} (h1 : x.1.length ≤ maxLen) (h2 : x.2.length ≤ maxLen) : keyOf Tryz.prog 87 (symVal x) = some (symL x) := by
  have hu := Tryz.underlying87
  have hs := Tryz.underlying9
  have hb : Nat.ble 1 Tryz.prog.types.size = true := by kernel_rfl
  obtain ⟨n,hn⟩ : ∃ n,Tryz.prog.types.size + 1 = n + 2 := ⟨Tryz.prog.types.size - 1,by have := Nat.le_of_ble_eq_true hb; omega⟩
  have hf : (symVal x).formed Tryz.prog 87 = true := by
    simp [symVal,Value.formed,hu,sym_cells]
  unfold keyOf
  rw [hu]
  simp only [sym_type,hf,Bool.and_self,if_true,hn]
  simp [Program.keyLits,hu,hs,symVal,Value.cells,sym_cells,str_cells,symL]
  have e1 : (⟨x.1.toArray⟩ : ByteArray).size ≤ maxLen := by show x.1.toArray.size ≤ maxLen; simpa using h1
  have e2 : (⟨x.2.toArray⟩ : ByteArray).size ≤ maxLen := by show x.2.toArray.size ≤ maxLen; simpa using h2
  rw [if_pos e1,if_pos e2]
  rfl
theorem symVal_inj {x y : List UInt8 × List UInt8} (h : symVal x = symVal y) : x = y := by
  unfold symVal at h
  simp at h
  exact Prod.ext h.1 h.2
theorem symL_inj {x y : List UInt8 × List UInt8} (hx1 : x.1.length ≤ maxLen) (hx2 : x.2.length ≤ maxLen) (hy1 : y.1.length ≤ maxLen) (hy2 : y.2.length ≤ maxLen) (h : symL x = symL y) : x = y :=
  symVal_inj (symK.inj (key_sym hx1 hx2) (by rw [h]; exact key_sym hy1 hy2))
theorem und_places : Tryz.prog.underlying 240 = some (.map 87 3) := Tryz.underlying240
end Go.Proofs.YtpmmjkiclngpmaaGreatDoor
namespace Go.Proofs.YtpmmjkiclngpmaaGreatDoor
open Go.RowKit Go.Maps Go.WideMaps
open Go.ChangeMaps (setBlock heap_setBlock_same)
abbrev Nm := List UInt8
def Rising (ns : List Nm) : Prop := ns.Pairwise fun a b => bytesBefore a b = true
theorem Rising.ne {ns : List Nm} (h : Rising ns) : ns.Pairwise fun a b => a ≠ b := h.imp fun {a b} hb e => by subst e; rw [WideAt.bytes_irrefl] at hb; cases hb
theorem Rising.ext : ∀ {l r : List Nm},Rising l → Rising r → (∀ x,x ∈ l ↔ x ∈ r) → l = r
  | [],[],_,_,_ => rfl
  | [],y :: r,_,_,h => absurd ((h y).2 (by simp)) (by simp)
  | x :: l,[],_,_,h => absurd ((h x).1 (by simp)) (by simp)
  | x :: l,y :: r,hl,hr,h => by
    have a1 : ∀ {z},z ∈ l → bytesBefore x z = true := fun hz => List.rel_of_pairwise_cons hl hz
    have a2 : ∀ {z},z ∈ r → bytesBefore y z = true := fun hz => List.rel_of_pairwise_cons hr hz
    have e : x = y := by
      rcases List.mem_cons.1 ((h x).1 (by simp)) with e | e
      · exact e
      · rcases List.mem_cons.1 ((h y).2 (by simp)) with e' | e'
        · exact e'.symm
        · have := WideShapes.bytes_trans _ _ _ (a1 e') (a2 e)
          rw [WideAt.bytes_irrefl] at this; cases this
    subst e
    congr 1
    refine Rising.ext (List.Pairwise.of_cons hl) (List.Pairwise.of_cons hr) fun z => ⟨fun hz => ?_,fun hz => ?_⟩
    · rcases List.mem_cons.1 ((h z).1 (by simp [hz])) with e | e
      · subst e; have := a1 hz; rw [WideAt.bytes_irrefl] at this; cases this
      · exact e
    · rcases List.mem_cons.1 ((h z).2 (by simp [hz])) with e | e
      · subst e; have := a2 hz; rw [WideAt.bytes_irrefl] at this; cases this
      · exact e
def insB (n : Nm) : List Nm → List Nm
  | [] => [n]
  | y :: r => if bytesBefore n y then n :: y :: r else y :: insB n r
def putB (n : Nm) (ns : List Nm) : List Nm := insB n (ns.filter fun x => !(x == n))
theorem mem_insB {n x : Nm} : ∀ {ns : List Nm},x ∈ insB n ns ↔ x = n ∨ x ∈ ns
  | [] => by simp [insB]
  | y :: r => by
    unfold insB
    split
    · simp
    · simp only [List.mem_cons,mem_insB (ns := r)]
      constructor
      · rintro (h | h | h) <;> simp [h]
      · rintro (h | h | h) <;> simp [h]
theorem mem_putB {n x : Nm} {ns : List Nm} : x ∈ putB n ns ↔ x = n ∨ x ∈ ns := by
  unfold putB
  rw [mem_insB,List.mem_filter]
  constructor
  · rintro (h | h)
    · exact Or.inl h
    · exact Or.inr h.1
  · rintro (h | h)
    · exact Or.inl h
    · by_cases e : x = n
      · exact Or.inl e
      · exact Or.inr ⟨h,by simp [e]⟩
theorem Rising.insB {n : Nm} : ∀ {ns : List Nm},Rising ns → (∀ x ∈ ns,x ≠ n) → Rising (insB n ns)
  | [],_,_ => by simp [Go.Proofs.YtpmmjkiclngpmaaGreatDoor.insB,Rising]
  | y :: r,h,hn => by
    have h1 : ∀ {z},z ∈ r → bytesBefore y z = true := fun hz => List.rel_of_pairwise_cons h hz
    unfold Go.Proofs.YtpmmjkiclngpmaaGreatDoor.insB
    split
    · next hb => exact List.Pairwise.cons (fun z hz => by
        rcases List.mem_cons.1 hz with rfl | hz
        · exact hb
        · exact WideShapes.bytes_trans _ _ _ hb (h1 hz)) h
    · next hb =>
      refine List.Pairwise.cons (fun z hz => ?_) (Rising.insB (List.Pairwise.of_cons h) fun x hx => hn x (by simp [hx]))
      rcases mem_insB.1 hz with rfl | hz
      · rcases WideAt.bytes_total y z (hn y (by simp)) with h | h
        · exact h
        · exact absurd h hb
      · exact h1 hz
theorem Rising.putB {n : Nm} {ns : List Nm} (h : Rising ns) : Rising (putB n ns) :=
  Rising.insB (List.Pairwise.sublist List.filter_sublist h) fun x hx => by
    have := (List.mem_filter.1 hx).2
    simpa using this
theorem putB_in {n : Nm} {ns : List Nm} (h : Rising ns) (hn : n ∈ ns) : putB n ns = ns :=
  Rising.ext h.putB h fun x => by rw [mem_putB]; exact ⟨fun e => e.elim (fun e => e ▸ hn) id,Or.inr⟩
theorem insB_len {n : Nm} : ∀ {ns : List Nm},(insB n ns).length = ns.length + 1
  | [] => rfl
  | y :: r => by
    unfold insB
    split
    · rfl
    · simp [insB_len (ns := r)]
theorem putB_out {n : Nm} {ns : List Nm} (hn : n ∉ ns) : putB n ns = insB n ns := by
  unfold putB
  rw [List.filter_eq_self.2]
  intro x hx
  simp only [Bool.not_eq_eq_eq_not,Bool.not_true,beq_eq_false_iff_ne,ne_eq]
  exact fun e => hn (e ▸ hx)
theorem putB_len {n : Nm} {ns : List Nm} : (putB n ns).length ≤ ns.length + 1 := by
  unfold putB
  rw [insB_len]
  have := List.length_filter_le (fun x => !(x == n)) ns
  omega
def keysD (ns : List Nm) (ov : Nm → Value) : DataW Value := .map (ns.map fun n => (.string n,.held (ov n)))
def updF (ov : Nm → Value) (n : Nm) (v : Value) : Nm → Value := fun x => if x = n then v else ov x
theorem updF_same (ov : Nm → Value) (n : Nm) (v : Value) : updF ov n v n = v := if_pos rfl
theorem updF_other (ov : Nm → Value) {n x : Nm} (v : Value) (h : x ≠ n) : updF ov n v x = ov x := if_neg h
theorem keysD_congr {ns : List Nm} {f g : Nm → Value} (h : ∀ x ∈ ns,f x = g x) : keysD ns f = keysD ns g := by
  unfold keysD
  congr 1
  exact List.map_congr_left fun x hx => by rw [h x hx]
theorem sameKey_str (a b : Nm) : Lit.sameKey (.string a) (.string b) = (a == b) := rfl
theorem keysD_del (ns : List Nm) (ov : Nm → Value) (n : Nm) : (keysD ns ov).del (.string n) = keysD (ns.filter fun x => !(x == n)) ov := by
  show DataW.map _ = DataW.map _
  congr 1
  rw [List.filter_map]
  rfl
theorem insert_keys (ns : List Nm) (ov : Nm → Value) (n : Nm) : DataW.insert (Lit.string n,DataW.held (ov n)) (ns.map fun n => (Lit.string n,DataW.held (ov n))) = (insB n ns).map fun n => (Lit.string n,DataW.held (ov n)) := by
  induction ns with
  | nil => rfl
  | cons y r ih =>
    rw [List.map_cons]
    unfold DataW.insert insB
    show (if bytesBefore n y = true then _ else _) = _
    split
    · rfl
    · rw [ih,List.map_cons]
theorem keysD_put (ns : List Nm) (ov : Nm → Value) (n : Nm) (v : Value) : (keysD ns ov).put (.string n) (.held v) = keysD (putB n ns) (updF ov n v) := by
  have e1 : keysD ns ov = .map (ns.map fun n => (.string n,.held (ov n))) := rfl
  have e2 : (ns.map fun n => (Lit.string n,DataW.held (ov n))).filter (fun p => !p.1.sameKey (.string n)) = (ns.filter fun x => !(x == n)).map fun x => (Lit.string x,DataW.held (updF ov n v x)) := by
    rw [List.filter_map]
    show List.map _ (ns.filter fun x => !(x == n)) = _
    refine List.map_congr_left fun x hx => ?_
    have : x ≠ n := by simpa using (List.mem_filter.1 hx).2
    rw [updF_other _ _ this]
  show DataW.map (DataW.insert (Lit.string n,DataW.held v) ((ns.map fun n => (Lit.string n,DataW.held (ov n))).filter fun p => !p.1.sameKey (.string n))) = _
  rw [e2]
  have := insert_keys (ns.filter fun x => !(x == n)) (updF ov n v) n
  rw [updF_same] at this
  rw [this]
  rfl
theorem keysD_has (ns : List Nm) (ov : Nm → Value) (n : Nm) : has (keysD ns ov) (.string n) = decide (n ∈ ns) := by
  show (ns.map fun n => (Lit.string n,DataW.held (ov n))).any (fun p => p.1.sameKey (.string n)) = _
  rw [List.any_map]
  induction ns with
  | nil => simp
  | cons y r ih =>
    simp only [List.any_cons,ih,Function.comp,sameKey_str]
    rw [Bool.eq_iff_iff]
    simp only [Bool.or_eq_true,beq_iff_eq,decide_eq_true_eq,List.mem_cons]
    constructor <;> rintro (h | h) <;> first | exact Or.inl h.symm | exact Or.inr h
theorem keysD_at (ns : List Nm) (ov : Nm → Value) (n : Nm) (z : DataW Value) : (keysD ns ov).atKey (.string n) z = if n ∈ ns then .held (ov n) else z := by
  unfold keysD DataW.atKey
  simp only
  induction ns with
  | nil => simp
  | cons y r ih =>
    rw [List.map_cons,List.find?_cons]
    by_cases h : y = n
    · subst h; simp [sameKey_str]
    · simp only [sameKey_str,beq_eq_false_iff_ne.2 h]
      rw [ih]
      simp [Ne.symm h]
theorem keysD_size (ns : List Nm) (ov : Nm → Value) : Maps.size (keysD ns ov) = ns.length := by simp [keysD,Maps.size]
variable {P : Program} {w w' : World} {k : TypeId} {b : Nat} {ns : List Nm} {ov : Nm → Value}
def MapF (P : Program) (w : World) (k : TypeId) (b : Nat) (ns : List Nm) (ov : Nm → Value) : Prop := w.ownsMap P k rawE b ns.length (keysD ns ov)
theorem MapF.of {n : Nat} (h : w.ownsMap P k rawE b n (keysD ns ov)) : MapF P w k b ns ov := by
  obtain ⟨es,cl,hb,F,hs,hD⟩ := h
  refine ⟨es,cl,hb,F,?_,hD⟩
  have := congrArg Maps.size hD
  rw [keysD_size] at this
  simp only [Maps.size,length_sorted,List.length_map,Array.length_toList] at this
  omega
theorem MapF.new (P : Program) (w : World) (k : TypeId) (ov : Nm → Value) : MapF P (w.alloc (.map #[] 0)) k w.heap.size [] ov := World.ownsMap_made w P k rawE
theorem MapF.lt (h : MapF P w k b ns ov) : b < w.heap.size := World.ownsMap.lt h
theorem MapF.keep (h : MapF P w k b ns ov) (hk : w'.heap[b]? = w.heap[b]?) : MapF P w' k b ns ov := by
  obtain ⟨es,cl,hb,r⟩ := h
  exact ⟨es,cl,hk.trans hb,r⟩
theorem MapF.below (h : MapF P w k b ns ov) (hb : Below w.heap.size w w') : MapF P w' k b ns ov := h.keep (hb.block b h.lt)
theorem MapF.congr (h : MapF P w k b ns ov) {g : Nm → Value} (hg : ∀ x ∈ ns,ov x = g x) : MapF P w k b ns g := by
  unfold MapF at *; rw [← keysD_congr hg]; exact h
theorem MapF.isMap (h : MapF P w k b ns ov) : ∃ es cl,w.heap[b]? = some (.map es cl) := by obtain ⟨es,cl,hb,_⟩ := h; exact ⟨_,_,hb⟩
theorem MapF.rising (h : MapF P w k b ns ov) (K : Keyed P k) : Rising ns := by
  obtain ⟨es,cl,hb,F,hs,hD⟩ := h
  have h1 := Maps.sorted_sorted K.one _ (Maps.fit_keys F) (Maps.fit_apart K F)
  have h2 : (es.toList.map (Go.WideElems.rg P k rawE)).foldr DataW.insert [] = ns.map fun n => (Lit.string n,DataW.held (ov n)) := by
    have := hD
    unfold keysD at this
    injection this with this
    exact this.symm
  rw [h2,List.pairwise_map] at h1
  exact h1
theorem MapF.look (h : MapF P w k b ns ov) (K : Keyed P k) {t e : TypeId} (ht : P.underlying t = some (.map k e)) {z : Value} (hz : (zeroValue e).run P w = .ok z w) {key : Value} {n : Nm} (hkey : keyOf P k key = some (.string n)) :
    (Instr.lookup t (.map (some b)) key false).run P w = .ok (if n ∈ ns then ov n else z) w := by
  obtain ⟨v,ps,hrun,hv⟩ := World.ownsMap.lookup h K ht hz (zd := .held z) (zp := []) rfl hkey
  have h1 := rawE_inv hv
  rw [keysD_at] at h1
  rw [hrun]
  split at h1
  · next hn => simp only [DataW.held.injEq] at h1; rw [if_pos hn,h1]
  · next hn => simp only [DataW.held.injEq] at h1; rw [if_neg hn,h1]
theorem MapF.lookOk (h : MapF P w k b ns ov) (K : Keyed P k) {t e : TypeId} (ht : P.underlying t = some (.map k e)) {z : Value} (hz : (zeroValue e).run P w = .ok z w) {key : Value} {n : Nm} (hkey : keyOf P k key = some (.string n)) :
    (Instr.lookup t (.map (some b)) key true).run P w = .ok (.tuple #[if n ∈ ns then ov n else z,.bool (decide (n ∈ ns))]) w := by
  obtain ⟨v,ps,hrun,hv⟩ := World.ownsMap.look_ok h K ht hz (zd := .held z) (zp := []) rfl hkey
  have h1 := rawE_inv hv
  rw [keysD_at] at h1
  rw [hrun,keysD_has]
  split at h1
  · next hn => simp only [DataW.held.injEq] at h1; rw [if_pos hn,h1]
  · next hn => simp only [DataW.held.injEq] at h1; rw [if_neg hn,h1]
theorem MapF.len (h : MapF P w k b ns ov) {t e : TypeId} (ht : P.underlying t = some (.map k e)) (ty : TypeId) : (Builtin.len_ #[t] ty #[.map (some b)]).run P w = .ok (.int .i64 ns.length) w := by
  have := World.ownsMap.len h ht ty
  rw [keysD_size] at this
  exact this
theorem wpList_put_f (w : World) {ops : Array Oper} {rest : List Oper} {o : Oper} {a : Act} {Q : Exit → Act → World → Prop}
    (hg : o.guard = none) (m x v : Operand) (t : TypeId) (hop : o.op = Op.mapUpdate t m x v)
    (k e : TypeId) (K : Keyed P k) (ht : P.underlying t = some (.map k e)) (b : Nat) (ns : List Nm) (ov : Nm → Value)
    (hm : a.eval m = .map (some b)) (hown : MapF P w k b ns ov) (hn : ns.length < maxLen) (key val : Value) (n : Nm) (hx : a.eval x = key) (hv : a.eval v = val) (hkey : keyOf P k key = some (.string n))
    (hK : ∀ w',MapF P w' k b (putB n ns) (updF ov n val) → w.grownBy w' (some b) → wpList P ops Q rest (a.put o.dst undef) w') :
    wpList P ops Q (o :: rest) a w :=
  wpList_mapUpdate_own w hg m x v t hop k e K ht rawE b ns.length (keysD ns ov) hm hown hn key val (.string n) hx hv hkey (.held val) [] rfl fun w' h1 h2 => hK w' (MapF.of (by rw [keysD_put] at h1; exact h1)) h2
theorem MapF.put (h : MapF P w k b ns ov) (K : Keyed P k) {t e : TypeId} (ht : P.underlying t = some (.map k e)) (hn : ns.length < maxLen) {key val : Value} {n : Nm} (hkey : keyOf P k key = some (.string n)) :
    ∃ w',(Instr.mapUpdate t (.map (some b)) key val).run P w = .ok () w' ∧ MapF P w' k b (putB n ns) (updF ov n val) ∧ w.grownBy w' (some b) := by
  obtain ⟨w',hrun,h1,h2⟩ := World.ownsMap.update h K ht hn hkey (val := val) (d := .held val) (ps := []) rfl
  exact ⟨w',hrun,MapF.of (by rw [keysD_put] at h1; exact h1),h2⟩
theorem MapF.drop (h : MapF P w k b ns ov) (K : Keyed P k) {t e : TypeId} (ht : P.underlying t = some (.map k e)) {key : Value} {n : Nm} (hkey : keyOf P k key = some (.string n)) (ty : TypeId) :
    ∃ w',(Builtin.delete_ #[t,k] ty #[.map (some b),key]).run P w = .ok (.tuple #[]) w' ∧ MapF P w' k b (ns.filter fun x => !(x == n)) ov ∧ w.mapTurned w' b := by
  obtain ⟨w',hrun,h1,h2⟩ := World.ownsMap.drop h K ht hkey ty
  exact ⟨w',hrun,MapF.of (by rw [keysD_del] at h1; exact h1),h2⟩
theorem MapF.clear (h : MapF P w k b ns ov) {t e : TypeId} (ht : P.underlying t = some (.map k e)) (ty : TypeId) (g : Nm → Value) :
    ∃ w',(Builtin.clear_ #[t] ty #[.map (some b)]).run P w = .ok (.tuple #[]) w' ∧ MapF P w' k b [] g ∧ w.mapTurned w' b := by
  obtain ⟨es,cl,hb,_⟩ := h
  refine ⟨setBlock w b (.map #[] cl),by simp [Builtin.clear_,run_underlying ht,MapKept.run_getObj_map hb,MapKept.run_setObj_map _ hb,Result.andThen,setBlock],⟨#[],cl,heap_setBlock_same hb _,⟨by simp,MapKept.stamped_empty _,by simp⟩,Nat.le_refl _,rfl⟩,⟨es,cl,_,_,hb,rfl⟩⟩
end Go.Proofs.YtpmmjkiclngpmaaGreatDoor
