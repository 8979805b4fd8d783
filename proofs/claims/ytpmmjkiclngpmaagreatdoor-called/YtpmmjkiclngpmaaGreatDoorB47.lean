/- B47: of the texts Prog1, Cal1, Cal2, Cal3. -/
import Derived.Test.YtpmmjkiclngpmaaGreatDoorB42
import Derived.Test.YtpmmjkiclngpmaaGreatDoorB46
import Derived.Test.YtpmmjkiclngpmaaGreatDoorB44
set_option maxRecDepth 100000
set_option linter.unusedSimpArgs false
set_option linter.unusedVariables false
/- An image of modules with which nothing is wrong is linked code of their functions. -/
namespace Go.Proofs.YtpmmjkiclngpmaaGreatDoor
open Go.RowKit

/-- Two lists, one beside the other. -/
def All2 {α β : Type} (Q : α → β → Prop) : List α → List β → Prop
  | [], [] => True
  | a :: l, b :: r => Q a b ∧ All2 Q l r
  | _, _ => False
theorem All2.len {α β : Type} {Q : α → β → Prop} : ∀ {l : List α} {r : List β}, All2 Q l r → l.length = r.length
  | [], [], _ => rfl
  | _ :: _, _ :: _, h => by simp only [List.length_cons]; rw [h.2.len]
  | [], _ :: _, h => h.elim
  | _ :: _, [], h => h.elim
theorem All2.at {α β : Type} {Q : α → β → Prop} : ∀ {l : List α} {r : List β}, All2 Q l r → ∀ {k : Nat} {b : β}, r[k]? = some b → ∃ a, l[k]? = some a ∧ Q a b
  | [], [], _, k, b, h => by simp at h
  | a :: l, b :: r, hq, 0, c, h => by simp at h; subst h; exact ⟨a, rfl, hq.1⟩
  | a :: l, b :: r, hq, k + 1, c, h => by
    have h' : r[k]? = some c := by simpa using h
    obtain ⟨x, h1, h2⟩ := hq.2.at h'
    exact ⟨x, by simpa using h1, h2⟩
  | [], _ :: _, h, _, _, _ => h.elim
  | _ :: _, [], h, _, _, _ => h.elim
theorem All2.append {α β : Type} {Q : α → β → Prop} : ∀ {l l' : List α} {r r' : List β}, All2 Q l r → All2 Q l' r' → All2 Q (l ++ l') (r ++ r')
  | [], _, [], _, _, h => h
  | _ :: _, _, _ :: _, _, h, h' => ⟨h.1, h.2.append h'⟩
  | [], _, _ :: _, _, h, _ => h.elim
  | _ :: _, _, [], _, h, _ => h.elim
theorem All2.map {α β γ : Type} {Q : γ → β → Prop} {f : α → γ} : ∀ {l : List α} {r : List β}, All2 (fun a b => Q (f a) b) l r → All2 Q (l.map f) r
  | [], [], _ => trivial
  | _ :: _, _ :: _, h => ⟨h.1, h.2.map⟩
  | [], _ :: _, h => h.elim
  | _ :: _, [], h => h.elim
/-- The function is compiled of that one. -/
def Cmpd (P : Sym → Nat) (E : Nm → Option Mod) (c : CF) (F : PF) : Prop :=
  ∃ nm md f lk, MOk 601 md ∧ f ∈ md.funs ∧ c = cfOf nm (fndE nm md (imsE E md)) 700 f lk ∧ F = ⟨f.params.map fun x => x.name, f.body, fun n => P (symV nm md (imsE E md) n)⟩
/-- The functions of a module, as a run sees them. -/
def pfsM (P : Sym → Nat) (E : Nm → Option Mod) (m : Md) : List PF := match formOf m.now with
  | none => []
  | some md => md.funs.map fun f => ⟨f.params.map fun x => x.name, f.body, fun n => P (symV m.name md (imsE E md) n)⟩
theorem compK_cmpd {P : Sym → Nat} {E : Nm → Option Mod} {nm : Nm} {md : Mod} (hok : MOk 601 md) : ∀ (l : List Fun) (lk : List Us), (∀ f ∈ l, f ∈ md.funs) → All2 (Cmpd P E) (compK nm (fndE nm md (imsE E md)) 700 l lk).1 (l.map fun f => ⟨f.params.map fun x => x.name, f.body, fun n => P (symV nm md (imsE E md) n)⟩)
  | [], _, _ => trivial
  | f :: r, lk, h => ⟨⟨nm, md, f, lk, hok, h f (by simp), rfl, rfl⟩, compK_cmpd hok r _ fun x hx => h x (by simp [hx])⟩
/-- A module whose functions are what compiling it here gives. -/
def GoodM (E : Nm → Option Mod) (m : Md) : Prop := ∃ md, formOf m.now = some md ∧ (chkE E md).code = 0 ∧ funsOf m = (objE m.name E md).1
theorem good_cmpd {P : Sym → Nat} {E : Nm → Option Mod} : ∀ (L : List Md), (∀ m ∈ L, GoodM E m ∧ m.now.length ≤ 600) → All2 (Cmpd P E) (L.map funsOf).flatten (L.map (pfsM P E)).flatten
  | [], _ => trivial
  | m :: r, h => by
    obtain ⟨⟨md, h1, h2, h3⟩, hl⟩ := h m (by simp)
    rw [List.map_cons, List.map_cons, List.flatten_cons, List.flatten_cons]
    refine All2.append ?_ (good_cmpd r fun x hx => h x (by simp [hx]))
    rw [h3]
    unfold pfsM objE
    rw [h1]
    exact compK_cmpd (formOf_ok hl h1) md.funs _ fun f hf => hf
theorem Cmpd.linked {pl : Sym → Option Nat} {E : Nm → Option Mod} {c : CF} {F : PF} (h : Cmpd (plN pl) E c F) : (fnOf (bndF pl c)).params = F.params.length ∧ (fnOf (bndF pl c)).code = cg F.cal 701 F.params 0 F.body ++ [(6, 0)] ∧ deep 701 F.body ∧ mx 701 F.params.length F.body ≤ (fnOf (bndF pl c)).slots ∧
    (fnOf (bndF pl c)).params ≤ (fnOf (bndF pl c)).slots ∧ (fnOf (bndF pl c)).slots + sz 701 F.body + 1 ≤ 2000 := by
  obtain ⟨nm, md, f, lk, hok, hf, rfl, rfl⟩ := h
  have hfo := hok.fs f hf
  have ht := hok.trees f hf
  have hs := codeOf_slots (fndE nm md (imsE E md)) 700 f lk ht.1 ht.2
  have hp := hfo.pl
  have hz := hfo.body.siz 701
  have hz2 := hfo.body.siz (700 + 1)
  refine ⟨?_, ?_, ht.1.deep _ _, ?_, ?_, ?_⟩
  · show (f.params.map fun x => x.typ).length = (f.params.map fun x => x.name).length
    rw [List.length_map, List.length_map]
  · exact codeOf_linked (fndE nm md (imsE E md)) (plN pl) 700 f lk
  · show mx 701 (f.params.map fun x => x.name).length f.body ≤ (codeOf (fndE nm md (imsE E md)) 700 f lk).slots
    rw [List.length_map]; exact hs.1
  · show (f.params.map fun x => x.typ).length ≤ (codeOf (fndE nm md (imsE E md)) 700 f lk).slots
    rw [List.length_map]; exact hs.2.1
  · show (codeOf (fndE nm md (imsE E md)) 700 f lk).slots + sz 701 f.body + 1 ≤ 2000
    have := hs.2.2
    omega
theorem link_linked {E : Nm → Option Mod} {L : List Md} (h : ∀ m ∈ L, GoodM E m ∧ m.now.length ≤ 600) : Linked ((linkP (L.map funsOf)).map fnOf) (L.map (pfsM (plN (plc (L.map funsOf).flatten)) E)).flatten 701 2000 := by
  intro k F hF
  obtain ⟨c, hc, hq⟩ := (good_cmpd L h).at hF
  refine ⟨fnOf (bndF (plc (L.map funsOf).flatten) c), ?_, hq.linked⟩
  unfold linkP
  rw [List.map_map, List.getElem?_map, hc]
  rfl
theorem link_imOk {E : Nm → Option Mod} {L : List Md} (h : ∀ m ∈ L, GoodM E m ∧ m.now.length ≤ 600) (hn : (L.map funsOf).flatten.length ≤ 100000) : ImOk (linkP (L.map funsOf)) := by
  refine ⟨by unfold linkP; rw [List.length_map]; exact hn, fun f hf => ?_⟩
  unfold linkP at hf
  obtain ⟨c, hc, rfl⟩ := List.mem_map.1 hf
  obtain ⟨k, hk, hkc⟩ := List.getElem_of_mem hc
  have ha := good_cmpd (P := plN (plc (L.map funsOf).flatten)) L h
  have hk2 : k < (L.map (pfsM (plN (plc (L.map funsOf).flatten)) E)).flatten.length := by rw [← ha.len]; exact hk
  obtain ⟨c', hc', hq⟩ := ha.at (List.getElem?_eq_getElem hk2)
  rw [List.getElem?_eq_getElem hk, Option.some.injEq, hkc] at hc'
  subst hc'
  obtain ⟨q1, q2, q3, q4, q5, q6⟩ := hq.linked
  have hcl : (bndF (plc (L.map funsOf).flatten) c).code = _ := q2
  obtain ⟨nm, md, f, lk, hok, hfm, rfl, _⟩ := hq
  have hg := gen_grew (fndE nm md (imsE E md)) (700 + 1) f.body (enters f.params (begun lk))
  have he := enters_len f.params (begun lk) (by simp [begun])
  have hz := (hok.fs f hfm).body.siz (700 + 1)
  refine ⟨by rw [hcl]; simp, ?_, ?_, q5⟩
  · show ((codeOf (fndE nm md (imsE E md)) 700 f lk).code.map _).length ≤ 100000
    rw [List.length_map]
    show ((gen (fndE nm md (imsE E md)) (700 + 1) f.body (enters f.params (begun lk))).code ++ [(6, 0)]).length ≤ _
    have h1 := hg.code.2
    rw [he.2.2.1, show (begun lk).code.length = 0 from rfl] at h1
    rw [List.length_append]
    simp only [List.length_cons, List.length_nil]
    omega
  · have : (fnOf (bndF (plc (L.map funsOf).flatten) (cfOf nm (fndE nm md (imsE E md)) 700 f lk))).slots = (bndF (plc (L.map funsOf).flatten) (cfOf nm (fndE nm md (imsE E md)) 700 f lk)).slots := rfl
    omega
/-- What a run of what is built gives. -/
theorem runs_of {E : Nm → Option Mod} {L : List Md} (h : ∀ m ∈ L, GoodM E m ∧ m.now.length ≤ 600) {k : Nat} {F : PF} (hF : (L.map (pfsM (plN (plc (L.map funsOf).flatten)) E)).flatten[k]? = some F) (args : List Int) (ha : args.length = F.params.length) (n fuel : Nat) (R : Int × Nat)
    (hR : runV (L.map (pfsM (plN (plc (L.map funsOf).flatten)) E)).flatten n k args fuel = R) (h9 : R.2 ≠ 99) : Runs ((linkP (L.map funsOf)).map fnOf) k args fuel R := by
  obtain ⟨s1, t, n', h1, h2, h3, h4, h5⟩ := run_plain (link_linked h) (by omega) n k F hF args ha fuel (by rw [hR]; exact h9)
  exact ⟨s1, t, n', h1, h2, h3, h4, h5.trans hR⟩
end Go.Proofs.YtpmmjkiclngpmaaGreatDoor

/- Called: its two modules. -/
namespace Go.Proofs.YtpmmjkiclngpmaaGreatDoor
open Go.RowKit

def calA : List UInt8 := [117, 115, 101, 32, 109, 59, 32, 112, 117, 98, 32, 102, 110, 32, 115, 117, 109, 40, 110, 58, 32, 105, 110, 116, 41, 58, 32, 105, 110, 116, 32, 61, 32, 105, 102, 32, 110, 32, 60, 32, 49, 32, 116, 104, 101, 110, 32, 48, 32, 101, 108, 115, 101, 32, 110, 32, 43, 32, 104, 97, 108, 102, 40, 110, 32, 45, 32, 49, 41, 59, 32, 112, 117, 98, 32, 102, 110, 32, 100, 101, 101, 112, 40, 110, 58, 32, 105, 110, 116, 41, 58, 32, 105, 110, 116, 32, 61, 32, 105, 102, 32, 110, 32, 61, 61, 32, 48, 32, 116, 104, 101, 110, 32, 48, 32, 101, 108, 115, 101, 32, 100, 101, 101, 112, 40, 110, 32, 45, 32, 49, 41, 59, 32, 112, 117, 98, 32, 102, 110, 32, 98, 121, 40, 97, 58, 32, 105, 110, 116, 44, 32, 98, 58, 32, 105, 110, 116, 41, 58, 32, 105, 110, 116, 32, 61, 32, 97, 32, 47, 32, 98, 59]
def calM : List UInt8 := [117, 115, 101, 32, 97, 59, 32, 112, 117, 98, 32, 102, 110, 32, 104, 97, 108, 102, 40, 110, 58, 32, 105, 110, 116, 41, 58, 32, 105, 110, 116, 32, 61, 32, 105, 102, 32, 110, 32, 60, 32, 49, 32, 116, 104, 101, 110, 32, 48, 32, 101, 108, 115, 101, 32, 110, 32, 43, 32, 115, 117, 109, 40, 110, 32, 45, 32, 49, 41, 59]
def calL : List Md := [⟨[97], calA, none⟩, ⟨[109], calM, some ⟨[], [], []⟩⟩]
theorem cal_a : (parsed calA).2.failed = false := by kernel_rfl
theorem cal_a_len : (parsed calA).1.funs.length = 3 := by kernel_rfl
end Go.Proofs.YtpmmjkiclngpmaaGreatDoor

/- Called: what its runs give. -/
namespace Go.Proofs.YtpmmjkiclngpmaaGreatDoor
open Go.RowKit

/-- if n < 1 then 0 else n + g(n - 1), its places as given. -/
def bS (q : List Nat) (g : Nm) : Ex := ⟨5, q.getD 0 0, [], 0, [⟨7, q.getD 1 0, [], 0, [⟨2, q.getD 2 0, [110], 0, []⟩, ⟨0, q.getD 3 0, [], 1, []⟩]⟩, ⟨0, q.getD 4 0, [], 0, []⟩, ⟨9, q.getD 5 0, [], 0, [⟨2, q.getD 6 0, [110], 0, []⟩, ⟨3, q.getD 7 0, g, 0, [⟨10, q.getD 8 0, [], 0, [⟨2, q.getD 9 0, [110], 0, []⟩, ⟨0, q.getD 10 0, [], 1, []⟩]⟩]⟩]⟩]⟩
/-- if n == 0 then 0 else g(n - 1). -/
def bD (g : Nm) : Ex := ⟨5, 98, [], 0, [⟨8, 101, [], 0, [⟨2, 101, [110], 0, []⟩, ⟨0, 106, [], 0, []⟩]⟩, ⟨0, 113, [], 0, []⟩, ⟨3, 120, g, 0, [⟨10, 125, [], 0, [⟨2, 125, [110], 0, []⟩, ⟨0, 129, [], 1, []⟩]⟩]⟩]⟩
/-- a / b. -/
def bB : Ex := ⟨12, 166, [], 0, [⟨2, 166, [97], 0, []⟩, ⟨2, 170, [98], 0, []⟩]⟩
theorem slot_n : slotI [[110]] [110] = 0 := by kernel_rfl
theorem slot_ab : slotI [[97], [98]] [97] = 0 ∧ slotI [[97], [98]] [98] = 1 := ⟨by kernel_rfl, by kernel_rfl⟩
theorem wrap_sm {v : Int} (h0 : -1000000 ≤ v) (h1 : v ≤ 1000000) : wrap64 v = v := by unfold wrap64; omega
theorem ev_num (Fs : List PF) (n d : Nat) (cal : Nm → Nat) (sc : List Nm) (env : List Int) (f p : Nat) (nm : Nm) (v : Int) (l : List Ex) : ev Fs (n + 1) d cal sc env f ⟨0, p, nm, v, l⟩ = (v, f, 0) := by simp [ev]
theorem ev_var {Fs : List PF} {n d : Nat} {cal : Nm → Nat} {sc : List Nm} {env : List Int} {f p : Nat} {nm : Nm} {v : Int} {l : List Ex} {j : Nat} {y : Int} (h : slotI sc nm = (j : Int)) (hj : env[j]? = some y) : ev Fs (n + 1) d cal sc env f ⟨2, p, nm, v, l⟩ = (y, f, 0) := by
  simp [ev, h, hj]
theorem ev_bin {Fs : List PF} {n d : Nat} {cal : Nm → Nat} {sc : List Nm} {env : List Int} {f p k : Nat} {nm : Nm} {v : Int} {a b : Ex} {x y : Int} {f1 f2 : Nat} (h7 : 7 ≤ k) (h13 : k < 13) (ha : ev Fs n d cal sc env f a = (x, f1, 0)) (hb : ev Fs n d cal sc env f1 b = (y, f2, 0)) :
    ev Fs (n + 1) d cal sc env f ⟨k, p, nm, v, [a, b]⟩ = if k = 12 ∧ y = 0 then (0, f2, 12) else (bin2 k x y, f2, 0) := by
  have e0 : ¬ (k = 0 ∨ k = 1) := by omega
  have e2 : k ≠ 2 := by omega
  have e3 : k ≠ 3 := by omega
  have e4 : k ≠ 4 := by omega
  have e5 : k ≠ 5 := by omega
  have e6 : k ≠ 6 := by omega
  simp [ev, e0, e2, e3, e4, e5, e6, evs, ha, hb, opv, h7, h13]
theorem ev_binE {Fs : List PF} {n d : Nat} {cal : Nm → Nat} {sc : List Nm} {env : List Int} {f p k : Nat} {nm : Nm} {v : Int} {a b : Ex} {x y : Int} {f1 f2 e : Nat} (h7 : 7 ≤ k) (h13 : k < 13) (ha : ev Fs n d cal sc env f a = (x, f1, 0)) (hb : ev Fs n d cal sc env f1 b = (y, f2, e)) (he : e ≠ 0) :
    ev Fs (n + 1) d cal sc env f ⟨k, p, nm, v, [a, b]⟩ = (0, f2, e) := by
  have e0 : ¬ (k = 0 ∨ k = 1) := by omega
  have e2 : k ≠ 2 := by omega
  have e3 : k ≠ 3 := by omega
  have e4 : k ≠ 4 := by omega
  have e5 : k ≠ 5 := by omega
  have e6 : k ≠ 6 := by omega
  simp [ev, e0, e2, e3, e4, e5, e6, evs, ha, hb, he]
theorem ev_if {Fs : List PF} {n d : Nat} {cal : Nm → Nat} {sc : List Nm} {env : List Int} {f p : Nat} {nm : Nm} {v : Int} {a b c : Ex} {x : Int} {f1 : Nat} (ha : ev Fs n d cal sc env f a = (x, f1, 0)) :
    ev Fs (n + 1) d cal sc env f ⟨5, p, nm, v, [a, b, c]⟩ = if x = 0 then ev Fs n d cal sc env f1 c else ev Fs n d cal sc env f1 b := by
  simp [ev, ha]
theorem ev_call {Fs : List PF} {n d : Nat} {cal : Nm → Nat} {sc : List Nm} {env : List Int} {f p : Nat} {nm : Nm} {v : Int} {a : Ex} {x : Int} {f1 : Nat} {F : PF} (ha : ev Fs n d cal sc env f a = (x, f1, 0)) (hF : Fs[cal nm]? = some F) (hp : F.params.length = 1) :
    ev Fs (n + 1) d cal sc env f ⟨3, p, nm, v, [a]⟩ = if f1 = 0 then (0, 0, 11) else if d = 0 then (0, f1, 13) else ev Fs n (d - 1) F.cal F.params [x] (f1 - 1) F.body := by
  simp [ev, evs, ha, hF, hp]
/-- The sum up to k. -/
def tri (k : Nat) : Nat := k * (k + 1) / 2
theorem tri_succ (k : Nat) : tri (k + 1) = (k + 1) + tri k := by
  unfold tri
  have : (k + 1) * (k + 1 + 1) = k * (k + 1) + 2 * (k + 1) := by rw [Nat.mul_add (k + 1) (k + 1) 1, Nat.add_mul k 1 (k + 1)]; omega
  rw [this]; omega
theorem tri_le {k : Nat} (h : k ≤ 90) : tri k ≤ 4095 := by
  unfold tri
  have : k * (k + 1) ≤ 90 * 91 := Nat.mul_le_mul h (by omega)
  omega
theorem ev_sum {Fs : List PF} {iS iH : Nat} {qS qH : List Nat} {gS gH : Nm} {cS cH : Nm → Nat} (hS : Fs[iS]? = some ⟨[[110]], bS qS gH, cS⟩) (hH : Fs[iH]? = some ⟨[[110]], bS qH gS, cH⟩) (h1 : cS gH = iH) (h2 : cH gS = iS) :
    ∀ k : Nat, k ≤ 90 → ∀ d f M, k ≤ d →
      ev Fs (M + 3 * k + 5) d cS [[110]] [(k : Int)] f (bS qS gH) = (if f < k then (0, 0, 11) else (((tri k : Nat) : Int), f - k, 0)) ∧
      ev Fs (M + 3 * k + 5) d cH [[110]] [(k : Int)] f (bS qH gS) = (if f < k then (0, 0, 11) else (((tri k : Nat) : Int), f - k, 0)) := by
  intro k
  induction k with
  | zero =>
    intro _ d f M _
    have key : ∀ (c : Nm → Nat) (q : List Nat) (g : Nm), ev Fs (M + 3 * 0 + 5) d c [[110]] [((0 : Nat) : Int)] f (bS q g) = (if f < 0 then (0, 0, 11) else (((tri 0 : Nat) : Int), f - 0, 0)) := fun c q g => by
      unfold bS
      rw [show M + 3 * 0 + 5 = M + 4 + 1 by omega, ev_if (x := bin2 7 0 1) (f1 := f) (by
        rw [ev_bin (by omega) (by omega) (ev_var (j := 0) (y := 0) slot_n rfl) (ev_num _ _ _ _ _ _ _ _ _ _ _)]
        rw [if_neg (by omega)]), if_neg (by unfold bin2 b2i; simp), ev_num]
      simp [tri]
    exact ⟨key _ _ _, key _ _ _⟩
  | succ k ih =>
    intro hk d f M hd
    have key : ∀ (c : Nm → Nat) (q : List Nat) (g : Nm) (F : PF), Fs[c g]? = some F → F.params = [[110]] → (ev Fs (M + 3 * k + 5) (d - 1) F.cal [[110]] [(k : Int)] (f - 1) F.body = (if f - 1 < k then (0, 0, 11) else (((tri k : Nat) : Int), f - 1 - k, 0))) →
        ev Fs (M + 3 * (k + 1) + 5) d c [[110]] [((k + 1 : Nat) : Int)] f (bS q g) = (if f < k + 1 then (0, 0, 11) else (((tri (k + 1) : Nat) : Int), f - (k + 1), 0)) := fun c q g F hF hp hr => by
      have e1 : bin2 7 ((k + 1 : Nat) : Int) 1 = 0 := by unfold bin2 b2i; simp; omega
      have e2 : bin2 10 ((k + 1 : Nat) : Int) 1 = (k : Int) := by
        have : bin2 10 ((k + 1 : Nat) : Int) 1 = wrap64 (((k + 1 : Nat) : Int) - 1) := by unfold bin2; simp
        rw [this, wrap_sm (by omega) (by omega)]; omega
      have hcall : ∀ p, ev Fs (M + 3 * k + 5 + 1) d c [[110]] [((k + 1 : Nat) : Int)] f ⟨3, p, g, 0, [⟨10, q.getD 8 0, [], 0, [⟨2, q.getD 9 0, [110], 0, []⟩, ⟨0, q.getD 10 0, [], 1, []⟩]⟩]⟩ = (if f = 0 then (0, 0, 11) else if f - 1 < k then (0, 0, 11) else (((tri k : Nat) : Int), f - 1 - k, 0)) := fun p => by
        rw [ev_call (x := (k : Int)) (f1 := f) (F := F) (by
          rw [show M + 3 * k + 5 = M + 3 * k + 3 + 1 + 1 by omega, ev_bin (by omega) (by omega) (ev_var (j := 0) (y := ((k + 1 : Nat) : Int)) slot_n rfl) (ev_num _ _ _ _ _ _ _ _ _ _ _), if_neg (by omega), e2]) hF (by rw [hp]; rfl), hp]
        split
        · rfl
        · rw [if_neg (by omega), hr]
      unfold bS
      rw [show M + 3 * (k + 1) + 5 = M + 3 * k + 5 + 1 + 1 + 1 by omega, ev_if (x := bin2 7 ((k + 1 : Nat) : Int) 1) (f1 := f) (by
        rw [ev_bin (by omega) (by omega) (ev_var (j := 0) (y := ((k + 1 : Nat) : Int)) slot_n rfl) (ev_num _ _ _ _ _ _ _ _ _ _ _), if_neg (by omega)]), if_pos e1]
      by_cases hf : f < k + 1
      · have hc := hcall (q.getD 7 0)
        rw [show (if f = 0 then ((0 : Int), 0, 11) else if f - 1 < k then (0, 0, 11) else (((tri k : Nat) : Int), f - 1 - k, 0)) = (0, 0, 11) by
          split
          · rfl
          · rw [if_pos (by omega)]] at hc
        rw [if_pos hf, ev_binE (by omega) (by omega) (ev_var (j := 0) (y := ((k + 1 : Nat) : Int)) slot_n rfl) hc (by omega)]
      · have hc := hcall (q.getD 7 0)
        rw [if_neg (by omega), if_neg (by omega)] at hc
        rw [if_neg hf, ev_bin (by omega) (by omega) (ev_var (j := 0) (y := ((k + 1 : Nat) : Int)) slot_n rfl) hc, if_neg (by omega)]
        have h4 := tri_le (show k ≤ 90 by omega)
        have e9 : bin2 9 ((k + 1 : Nat) : Int) ((tri k : Nat) : Int) = wrap64 (((k + 1 : Nat) : Int) + ((tri k : Nat) : Int)) := by unfold bin2; simp
        rw [e9, wrap_sm (by omega) (by omega), tri_succ]
        rw [show f - 1 - k = f - (k + 1) by omega]
        congr 1
    obtain ⟨i1, i2⟩ := ih (by omega) (d - 1) (f - 1) M (by omega)
    exact ⟨key cS qS gH ⟨[[110]], bS qH gS, cH⟩ (by rw [h1]; exact hH) rfl i2, key cH qH gS ⟨[[110]], bS qS gH, cS⟩ (by rw [h2]; exact hS) rfl i1⟩
/-- deep(k), where d calls may still nest: k of them, each for one fuel. -/
theorem ev_deep {Fs : List PF} {i : Nat} {g : Nm} {c : Nm → Nat} (hD : Fs[i]? = some ⟨[[110]], bD g, c⟩) (h1 : c g = i) :
    ∀ k : Nat, k ≤ 1000 → ∀ d f M, ev Fs (M + 2 * k + 5) d c [[110]] [(k : Int)] f (bD g) = (if k ≤ d ∧ k ≤ f then (0, f - k, 0) else if f ≤ d then (0, 0, 11) else (0, f - d, 13)) := by
  intro k
  induction k with
  | zero =>
    intro _ d f M
    unfold bD
    rw [show M + 2 * 0 + 5 = M + 4 + 1 by omega, ev_if (x := bin2 8 0 0) (f1 := f) (by
      rw [ev_bin (by omega) (by omega) (ev_var (j := 0) (y := 0) slot_n rfl) (ev_num _ _ _ _ _ _ _ _ _ _ _), if_neg (by omega)]), if_neg (by unfold bin2 b2i; simp), ev_num]
    simp
  | succ k ih =>
    intro hk d f M
    have e1 : bin2 8 ((k + 1 : Nat) : Int) 0 = 0 := by unfold bin2 b2i; simp; omega
    have e2 : bin2 10 ((k + 1 : Nat) : Int) 1 = (k : Int) := by
      have : bin2 10 ((k + 1 : Nat) : Int) 1 = wrap64 (((k + 1 : Nat) : Int) - 1) := by unfold bin2; simp
      rw [this, wrap_sm (by omega) (by omega)]; omega
    have hr := ih (by omega) (d - 1) (f - 1) M
    unfold bD
    rw [show M + 2 * (k + 1) + 5 = M + 2 * k + 5 + 1 + 1 by omega, ev_if (x := bin2 8 ((k + 1 : Nat) : Int) 0) (f1 := f) (by
      rw [ev_bin (by omega) (by omega) (ev_var (j := 0) (y := ((k + 1 : Nat) : Int)) slot_n rfl) (ev_num _ _ _ _ _ _ _ _ _ _ _), if_neg (by omega)]), if_pos e1,
      ev_call (x := (k : Int)) (f1 := f) (F := ⟨[[110]], bD g, c⟩) (by
        rw [show M + 2 * k + 5 = M + 2 * k + 3 + 1 + 1 by omega, ev_bin (by omega) (by omega) (ev_var (j := 0) (y := ((k + 1 : Nat) : Int)) slot_n rfl) (ev_num _ _ _ _ _ _ _ _ _ _ _), if_neg (by omega), e2]) (by rw [h1]; exact hD) rfl]
    simp only [hr]
    by_cases hf : f = 0
    · rw [if_pos hf, if_neg (by omega), if_pos (by omega)]
    · rw [if_neg hf]
      by_cases hd : d = 0
      · rw [if_pos hd, if_neg (by omega), if_neg (by omega), hd]; rfl
      · rw [if_neg hd]
        by_cases hc : k + 1 ≤ d ∧ k + 1 ≤ f
        · rw [if_pos hc, if_pos (by omega), show f - 1 - k = f - (k + 1) by omega]
        · rw [if_neg hc, if_neg (by omega)]
          by_cases hfd : f ≤ d
          · rw [if_pos hfd, if_pos (by omega)]
          · rw [if_neg hfd, if_neg (by omega), show f - 1 - (d - 1) = f - d by omega]
theorem ev_by {Fs : List PF} {c : Nm → Nat} (x y : Int) (M d f : Nat) : ev Fs (M + 2) d c [[97], [98]] [x, y] f bB = if y = 0 then (0, f, 12) else (bin2 12 x y, f, 0) := by
  unfold bB
  rw [ev_bin (by omega) (by omega) (ev_var (j := 0) (y := x) slot_ab.1 rfl) (ev_var (j := 1) (y := y) slot_ab.2 rfl)]
  simp
end Go.Proofs.YtpmmjkiclngpmaaGreatDoor

/- Called: each of its runs. -/
namespace Go.Proofs.YtpmmjkiclngpmaaGreatDoor
open Go.RowKit

theorem good_comp {E : Nm → Option Mod} {m : Md} (hc : curr E m = false) (hd : diagM E m = none) : GoodM E (buildM E m) := by
  have hn := buildM_name E m
  have hb : buildM E m = { m with obj := (compM E m).2 } := by unfold buildM; rw [if_neg (by simp [hc])]
  unfold diagM at hd
  rw [if_neg (by simp [hc])] at hd
  split at hd
  · next h0 =>
    unfold compM at h0
    split at h0
    · simp at h0
    · next md hf =>
      simp only at h0
      refine ⟨md, by rw [hn.2]; exact hf, h0, ?_⟩
      rw [hn.1, hb]
      unfold funsOf compM
      rw [hf]
      simp only
      rw [if_pos h0]
      rfl
  · cases hd
def calS : Sto := ⟨calL, [[109]], some []⟩
def calE : Nm → Option Mod := formE calL
def calB : List Md := calL.map (buildM calE)
def calI : List CF := linkP (calB.map funsOf)
def calF : List PF := (calB.map (pfsM (plN (plc (calB.map funsOf).flatten)) calE)).flatten
theorem cal_diag : (buildS calS).1 = [] := by kernel_rfl
theorem cal_img : (buildS calS).2.img = some calI := by
  show (if diagsL (formE calL) calL = [] then some calI else none) = some calI
  rw [if_pos (show diagsL (formE calL) calL = [] from cal_diag)]
theorem cal_none : ∀ m ∈ calL, diagM calE m = none := fun m hm => by
  have h : diagsL calE calL = [] := cal_diag
  unfold diagsL at h
  rw [List.filterMap_eq_nil_iff] at h
  exact h m hm
theorem cal_good : ∀ m ∈ calB, GoodM calE m ∧ m.now.length ≤ 600 := by
  intro m hm
  obtain ⟨m0, h0, rfl⟩ := List.mem_map.1 hm
  have hc : curr calE m0 = false ∧ m0.now.length ≤ 600 := by
    rcases List.mem_cons.1 h0 with rfl | h0
    · exact ⟨rfl, by show calA.length ≤ 600; decide⟩
    · rcases List.mem_cons.1 h0 with rfl | h0
      · exact ⟨rfl, by show calM.length ≤ 600; decide⟩
      · cases h0
  exact ⟨good_comp hc.1 (cal_none m0 h0), by rw [(buildM_name _ _).2]; exact hc.2⟩
theorem pf_of {x : Option PF} {p : List Nm} {b : Ex} {g : Nm} {i : Nat} (h : x.map (fun F => (F.params, F.body, F.cal g)) = some (p, b, i)) : ∃ c, x = some ⟨p, b, c⟩ ∧ c g = i := by
  cases x with
  | none => cases h
  | some F =>
    simp only [Option.map_some, Option.some.injEq, Prod.mk.injEq] at h
    obtain ⟨rfl, rfl, rfl⟩ := h
    exact ⟨F.cal, rfl, rfl⟩
def qA : List Nat := [33, 36, 36, 40, 47, 54, 54, 58, 63, 63, 67]
def qM : List Nat := [34, 37, 37, 41, 48, 55, 55, 59, 63, 63, 67]
theorem calF0 : calF[0]?.map (fun F => (F.params, F.body, F.cal [104, 97, 108, 102])) = some ([[110]], bS qA [104, 97, 108, 102], 3) := by kernel_rfl
theorem calF1 : calF[1]?.map (fun F => (F.params, F.body, F.cal [100, 101, 101, 112])) = some ([[110]], bD [100, 101, 101, 112], 1) := by kernel_rfl
theorem calF2 : calF[2]?.map (fun F => (F.params, F.body, F.cal [])) = some ([[97], [98]], bB, 0) := by kernel_rfl
theorem calF3 : calF[3]?.map (fun F => (F.params, F.body, F.cal [115, 117, 109])) = some ([[110]], bS qM [115, 117, 109], 0) := by kernel_rfl
theorem cal_x0 : exI [97] [115, 117, 109] calI 0 = some 0 := by kernel_rfl
theorem cal_x1 : exI [97] [100, 101, 101, 112] calI 0 = some 1 := by kernel_rfl
theorem cal_x2 : exI [97] [98, 121] calI 0 = some 2 := by kernel_rfl
theorem cal_x3 : exI [109] [104, 97, 108, 102] calI 0 = some 3 := by kernel_rfl
theorem cal_p : calI.map (fun f => f.params) = [[1], [1], [1, 1], [1]] := by kernel_rfl
theorem cal_ok : ImOk calI := link_imOk cal_good (by
  have : (calB.map funsOf).flatten.length = 4 := by
    have h := congrArg List.length cal_p
    unfold calI linkP at h
    rw [List.length_map, List.length_map] at h
    exact h
  omega)
theorem fit_ones (l : List Int) (n : Nat) : fitB l (List.replicate n 1) = true := by
  unfold fitB
  rw [List.all_eq_true]
  intro x hx
  have := (List.of_mem_zip hx).2
  rw [List.eq_of_mem_replicate this]
  rfl
/-- A run of what is built. -/
theorem cal_run {m n : Nm} {i : Nat} {l : List Int} {fuel : Nat} {R : Int × Nat} {F : PF} (hx : exI m n calI 0 = some i) (np : Nat) (hp : (calI.map fun f => f.params)[i]? = some (List.replicate np 1)) (hl : l.length = np) (hfu : fuel ≤ 10000) (hF : calF[i]? = some F) (hFp : F.params.length = np) (N : Nat) (hR : runV calF N i l fuel = R) (h9 : R.2 ≠ 99) :
    RunIs (buildS calS).2 m n l fuel R := by
  unfold RunIs
  rw [cal_img]
  simp only [hx]
  rw [List.getElem?_map] at hp
  rcases hf : calI[i]? with _ | f
  · rw [hf] at hp; cases hp
  · rw [hf] at hp
    simp only [Option.map_some, Option.some.injEq] at hp
    refine ⟨f, rfl, ?_⟩
    rw [if_neg (by rw [hp, List.length_replicate]; simp [hl]), if_neg (by rw [hp, fit_ones]; unfold withinB; simp; omega), Int.toNat_natCast]
    exact runs_of cal_good hF l (by rw [hl, hFp]) N fuel R hR h9
theorem runV_of {Fs : List PF} {N i : Nat} {F : PF} (hF : Fs[i]? = some F) (l : List Int) (fuel : Nat) {x : Int} {f e : Nat} (h : fuel ≠ 0 → ev Fs N 99 F.cal F.params l (fuel - 1) F.body = (x, f, e)) : runV Fs N i l fuel = if fuel = 0 then (0, 11) else ((if e = 0 then x else 0), e) := by
  unfold runV
  by_cases h0 : fuel = 0
  · rw [if_pos h0, if_pos h0]
  · rw [if_neg h0, if_neg h0, hF]
    simp only [h h0]
theorem cal_sum (k g : Nat) (hk : k ≤ 90) (hg : g ≤ 10000) : RunIs (buildS calS).2 [97] [115, 117, 109] [(k : Int)] g (if g < k + 1 then (0, 11) else (((tri k : Nat) : Int), 0)) := by
  obtain ⟨c0, e0, j0⟩ := pf_of calF0
  obtain ⟨c3, e3, j3⟩ := pf_of calF3
  refine cal_run cal_x0 1 (by rw [cal_p]; rfl) rfl hg e0 rfl (0 + 3 * k + 5) ?_ (by split <;> simp)
  have h := (ev_sum e0 e3 j0 j3 k hk 99 (g - 1) 0 (by omega)).1
  by_cases hgk : g < k + 1
  · rw [if_pos hgk]
    by_cases h0 : g = 0
    · rw [runV_of e0 [(k : Int)] g (x := 0) (f := 0) (e := 0) (fun h => absurd h0 h), if_pos h0]
    · rw [if_pos (by omega)] at h
      rw [runV_of e0 [(k : Int)] g (fun _ => h), if_neg h0]; rfl
  · rw [if_neg (by omega)] at h
    rw [if_neg hgk, runV_of e0 [(k : Int)] g (fun _ => h), if_neg (by omega)]; rfl
theorem cal_half (k : Nat) (hk : k ≤ 90) : RunIs (buildS calS).2 [109] [104, 97, 108, 102] [(k : Int)] ((k + 1 : Nat) : Int) (((tri k : Nat) : Int), 0) := by
  obtain ⟨c0, e0, j0⟩ := pf_of calF0
  obtain ⟨c3, e3, j3⟩ := pf_of calF3
  refine cal_run cal_x3 1 (by rw [cal_p]; rfl) rfl (by omega) e3 rfl (0 + 3 * k + 5) ?_ (by simp)
  have h := (ev_sum e0 e3 j0 j3 k hk 99 (k + 1 - 1) 0 (by omega)).2
  rw [if_neg (by omega)] at h
  rw [runV_of e3 [(k : Int)] (k + 1) (fun _ => h), if_neg (by omega)]; rfl
theorem cal_deep (k fuel : Nat) (hk : k ≤ 1000) (hf : 0 < fuel) (hf2 : fuel ≤ 10000) : RunIs (buildS calS).2 [97] [100, 101, 101, 112] [(k : Int)] fuel (if k ≤ 99 ∧ k ≤ fuel - 1 then (0, 0) else if fuel - 1 ≤ 99 then (0, 11) else (0, 13)) := by
  obtain ⟨c1, e1, j1⟩ := pf_of calF1
  refine cal_run cal_x1 1 (by rw [cal_p]; rfl) rfl hf2 e1 rfl (0 + 2 * k + 5) ?_ (by split <;> (try split) <;> simp)
  have h := ev_deep e1 j1 k hk 99 (fuel - 1) 0
  by_cases h1 : k ≤ 99 ∧ k ≤ fuel - 1
  · rw [if_pos h1] at h
    rw [runV_of e1 [(k : Int)] fuel (fun _ => h), if_neg (by omega), if_pos h1]; rfl
  · rw [if_neg h1] at h
    rw [if_neg h1]
    by_cases h2 : fuel - 1 ≤ 99
    · rw [if_pos h2] at h
      rw [runV_of e1 [(k : Int)] fuel (fun _ => h), if_neg (by omega), if_pos h2]; rfl
    · rw [if_neg h2] at h
      rw [runV_of e1 [(k : Int)] fuel (fun _ => h), if_neg (by omega), if_neg h2]; rfl
theorem cal_by (x y : Int) : RunIs (buildS calS).2 [97] [98, 121] [x, y] ((1 : Nat) : Int) (if y = 0 then (0, 12) else (bin2 12 x y, 0)) := by
  obtain ⟨c2, e2, _⟩ := pf_of calF2
  refine cal_run cal_x2 2 (by rw [cal_p]; rfl) rfl (by omega) e2 rfl (0 + 2) ?_ (by split <;> simp)
  have h := ev_by (Fs := calF) (c := c2) x y 0 99 (1 - 1)
  by_cases hy : y = 0
  · rw [if_pos hy] at h
    rw [runV_of e2 [x, y] 1 (fun _ => h), if_neg (by omega), if_pos hy]; rfl
  · rw [if_neg hy] at h
    rw [runV_of e2 [x, y] 1 (fun _ => h), if_neg (by omega), if_neg hy]; rfl
theorem cal_range (x y : Int) : RunIs (buildS calS).2 [97] [98, 121] [x, y] 10001 (0, 10) := by
  unfold RunIs
  rw [cal_img]
  simp only [cal_x2]
  have hp : (calI.map fun f => f.params)[2]? = some [1, 1] := by rw [cal_p]; rfl
  rw [List.getElem?_map] at hp
  rcases hf : calI[2]? with _ | f
  · rw [hf] at hp; cases hp
  · rw [hf] at hp
    simp only [Option.map_some, Option.some.injEq] at hp
    refine ⟨f, rfl, ?_⟩
    rw [if_neg (by rw [hp]; simp), if_pos (Or.inr (by unfold withinB; decide))]
    trivial
end Go.Proofs.YtpmmjkiclngpmaaGreatDoor
