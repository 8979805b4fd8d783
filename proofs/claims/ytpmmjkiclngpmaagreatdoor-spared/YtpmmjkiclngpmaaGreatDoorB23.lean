/- YtpmmjkiclngpmaaGreatDoorB23 -/
import Derived.Test.YtpmmjkiclngpmaaGreatDoorB15
set_option maxRecDepth 100000
set_option linter.unusedSimpArgs false
set_option linter.unusedVariables false
set_option maxHeartbeats 12800000
namespace Go.Proofs.YtpmmjkiclngpmaaGreatDoor
open Go.RowKit
def wrongT (got want : Nat) : Bool := got != want && (got != 0 && want != 0)
def mustK (g : Ex → KS → Nat × KS) (want : Nat) (e : Ex) (s : KS) : KS := if wrongT (g e s).1 want then (g e s).2.tell 8 e.place else (g e s).2
def allK (g : Ex → KS → Nat × KS) (want : Nat) : List Ex → KS → KS
  | [],s => s
  | e :: r,s => allK g want r (mustK g want e s)
def argsK (g : Ex → KS → Nat × KS) : List Ex → List Nat → KS → KS
  | e :: r,t :: ts,s => argsK g r ts (mustK g t e s)
  | l,_,s => allK g 0 l s
def findV (name : List UInt8) : List (List UInt8 × Nat) → Option Nat
  | [] => none
  | x :: r => if x.1 = name then some x.2 else findV name r
def varK (e : Ex) (s : KS) : Nat × KS := match findV e.name s.scope.reverse with | some t => (t,s) | none => (0,s.tell 3 e.place)
structure Look where
  sig : List UInt8 → Option (List Nat × Nat)
  use : List UInt8 → List Us
  le : ∀ n,(use n).length ≤ 1000
abbrev KS.saw (s : KS) (u : List Us) : KS := { s with lk := s.lk ++ u }
def callK (look : Look) (g : Ex → KS → Nat × KS) (e : Ex) (s : KS) : Nat × KS :=
  match look.sig e.name with
  | none => (0,allK g 0 e.parts ((s.saw (look.use e.name)).tell 3 e.place))
  | some (ps,r) => (r,argsK g e.parts ps (if e.parts.length = ps.length then s.saw (look.use e.name) else (s.saw (look.use e.name)).tell 7 e.place))
def ifK (g : Ex → KS → Nat × KS) (a b c : Ex) (s : KS) : Nat × KS := ((g b (mustK g 2 a s)).1,mustK g (g b (mustK g 2 a s)).1 c (g b (mustK g 2 a s)).2)
def letK (g : Ex → KS → Nat × KS) (name : List UInt8) (a b : Ex) (s : KS) : Nat × KS :=
  ((g b { (g a s).2 with scope := (g a s).2.scope ++ [(name,(g a s).1)] }).1,
   { (g b { (g a s).2 with scope := (g a s).2.scope ++ [(name,(g a s).1)] }).2 with scope := (g b { (g a s).2 with scope := (g a s).2.scope ++ [(name,(g a s).1)] }).2.scope.take s.scope.length })
def tyN (look : Look) : Nat → Ex → KS → Nat × KS
  | 0,_,s => (0,s)
  | m + 1,e,s =>
    if e.kind = 1 then (2,s)
    else if e.kind = 2 then varK e s
    else if e.kind = 3 then callK look (tyN look m) e s
    else if e.kind = 4 then (match e.parts with | [a] => tyN look m a s | _ => (0,s))
    else if e.kind = 5 then (match e.parts with | [a,b,c] => ifK (tyN look m) a b c s | _ => (0,s))
    else if e.kind = 6 then (match e.parts with | [a,b] => letK (tyN look m) e.name a b s | _ => (0,s))
    else if e.kind = 7 ∨ e.kind = 8 then (2,allK (tyN look m) 1 e.parts s)
    else if e.kind = 14 then (2,allK (tyN look m) 2 e.parts s)
    else (1,allK (tyN look m) 1 e.parts s)
theorem tell_scope (s : KS) (c p : Nat) : (s.tell c p).scope = s.scope := by unfold KS.tell; split <;> rfl
theorem mustK_scope {g : Ex → KS → Nat × KS} {want : Nat} {e : Ex} {s : KS} (h : ∀ s,(g e s).2.scope = s.scope) : (mustK g want e s).scope = s.scope := by
  unfold mustK; split
  · rw [tell_scope,h]
  exact h s
theorem allK_scope {g : Ex → KS → Nat × KS} {want : Nat} {l : List Ex} (h : ∀ x ∈ l,∀ s,(g x s).2.scope = s.scope) (s : KS) : (allK g want l s).scope = s.scope := by
  induction l generalizing s with
  | nil => rfl
  | cons x r ih =>
    show (allK g want r (mustK g want x s)).scope = _
    rw [ih (fun y hy => h y (by simp [hy])),mustK_scope (h x (by simp))]
theorem argsK_scope {g : Ex → KS → Nat × KS} {l : List Ex} (h : ∀ x ∈ l,∀ s,(g x s).2.scope = s.scope) (ts : List Nat) (s : KS) : (argsK g l ts s).scope = s.scope := by
  induction l generalizing ts s with
  | nil => cases ts <;> rfl
  | cons x r ih =>
    cases ts with
    | nil => exact allK_scope h s
    | cons t ts =>
      show (argsK g r ts (mustK g t x s)).scope = _
      rw [ih (fun y hy => h y (by simp [hy])),mustK_scope (h x (by simp))]
theorem tyN_scope (look : Look) (m : Nat) : ∀ (e : Ex) (s : KS),(tyN look m e s).2.scope = s.scope := by
  induction m with
  | zero => intro e s; rfl
  | succ m ih =>
    intro e s
    unfold tyN
    split
    · rfl
    · split
      · unfold varK; split
        · rfl
        · exact tell_scope _ _ _
      · split
        · unfold callK; split
          · show (allK _ _ _ _).scope = _
            rw [allK_scope (fun x _ => ih x),tell_scope]
          · show (argsK _ _ _ _).scope = _
            rw [argsK_scope (fun x _ => ih x)]
            split
            · rfl
            · exact tell_scope _ _ _
        · split
          · split
            · exact ih _ _
            · rfl
          · split
            · split
              · show (mustK _ _ _ _).scope = _
                rw [mustK_scope (ih _),ih,mustK_scope (ih _)]
              · rfl
            · split
              · split
                · show (List.take _ _) = _
                  rw [ih]
                  simp only
                  rw [ih]
                  simp
                · rfl
              · split
                · exact allK_scope (fun x _ => ih x) s
                · split
                  · exact allK_scope (fun x _ => ih x) s
                  · exact allK_scope (fun x _ => ih x) s
theorem tell_lk (s : KS) (c p : Nat) : (s.tell c p).lk = s.lk := by unfold KS.tell; split <;> rfl
structure KFit (s : KS) (n : Nat) : Prop where
  sc : s.scope.length + n ≤ 1000000
  lk : s.lk.length + 1000 * n ≤ 4000000000
theorem KFit.mono {s : KS} {n m : Nat} (h : KFit s n) (hm : m ≤ n) : KFit s m := ⟨by have := h.sc; omega,by have := h.lk; omega⟩
theorem KFit.of {s t : KS} {n k : Nat} (h : KFit s (n + k)) (h1 : t.scope = s.scope) (h2 : t.lk.length ≤ s.lk.length + 1000 * n) : KFit t k := ⟨by have := h.sc; rw [h1]; omega,by have := h.lk; omega⟩
theorem KFit.tell {s : KS} {n : Nat} (h : KFit s n) (c p : Nat) : KFit (s.tell c p) n := ⟨by rw [tell_scope]; exact h.sc,by rw [tell_lk]; exact h.lk⟩
theorem KFit.saw {s : KS} {n : Nat} (h : KFit s (1 + n)) (u : List Us) (hu : u.length ≤ 1000) : KFit (s.saw u) n := ⟨by have := h.sc; simp only; omega,by have := h.lk; simp only [List.length_append]; omega⟩
theorem KFit.push {s : KS} {n : Nat} (h : KFit s (1 + n)) (x : List UInt8 × Nat) : KFit { s with scope := s.scope ++ [x] } n := ⟨by have := h.sc; simp only [List.length_append,List.length_cons,List.length_nil]; omega,by have := h.lk; simp only; omega⟩
theorem mustK_lk {g : Ex → KS → Nat × KS} {want : Nat} {e : Ex} {s : KS} {n : Nat} (h : ∀ s,(g e s).2.lk.length ≤ s.lk.length + n) : (mustK g want e s).lk.length ≤ s.lk.length + n := by
  unfold mustK; split
  · rw [tell_lk]; exact h s
  exact h s
theorem allK_lk {g : Ex → KS → Nat × KS} {sz : Ex → Nat} {want : Nat} {l : List Ex} (h : ∀ x ∈ l,∀ s,(g x s).2.lk.length ≤ s.lk.length + 1000 * sz x) (s : KS) : (allK g want l s).lk.length ≤ s.lk.length + 1000 * szL sz l := by
  induction l generalizing s with
  | nil => exact Nat.le_add_right _ _
  | cons x r ih =>
    have h1 := ih (fun y hy => h y (by simp [hy])) (mustK g want x s)
    have h2 : (mustK g want x s).lk.length ≤ s.lk.length + 1000 * sz x := mustK_lk (h x (by simp))
    show (allK g want r (mustK g want x s)).lk.length ≤ _
    simp only [szL,List.foldr_cons] at *
    omega
theorem argsK_lk {g : Ex → KS → Nat × KS} {sz : Ex → Nat} {l : List Ex} (h : ∀ x ∈ l,∀ s,(g x s).2.lk.length ≤ s.lk.length + 1000 * sz x) (ts : List Nat) (s : KS) : (argsK g l ts s).lk.length ≤ s.lk.length + 1000 * szL sz l := by
  induction l generalizing ts s with
  | nil => cases ts <;> exact Nat.le_add_right _ _
  | cons x r ih =>
    cases ts with
    | nil => exact allK_lk h s
    | cons t ts =>
      have h1 := ih (fun y hy => h y (by simp [hy])) ts (mustK g t x s)
      have h2 : (mustK g t x s).lk.length ≤ s.lk.length + 1000 * sz x := mustK_lk (h x (by simp))
      show (argsK g r ts (mustK g t x s)).lk.length ≤ _
      simp only [szL,List.foldr_cons] at *
      omega
theorem tyN_lk (look : Look) (m : Nat) : ∀ (e : Ex) (s : KS),(tyN look m e s).2.lk.length ≤ s.lk.length + 1000 * sz m e := by
  induction m with
  | zero => intro e s; exact Nat.le_add_right _ _
  | succ m ih =>
    intro e s
    have hsz : sz (m + 1) e = 1 + szL (sz m) e.parts := rfl
    rw [hsz]
    have hall : ∀ want,(allK (tyN look m) want e.parts s).lk.length ≤ s.lk.length + 1000 * szL (sz m) e.parts := fun want => allK_lk (fun x _ => ih x) s
    unfold tyN
    split
    · simp only; omega
    · split
      · unfold varK; split
        · simp only; omega
        · simp only [tell_lk]; omega
      · split
        · have hu := look.le e.name
          unfold callK; split
          · have := allK_lk (g := tyN look m) (sz := sz m) (want := 0) (l := e.parts) (fun x _ => ih x) ((s.saw (look.use e.name)).tell 3 e.place)
            simp only [tell_lk,List.length_append] at this ⊢
            omega
          · next ps r _ =>
            have h2 := argsK_lk (g := tyN look m) (sz := sz m) (l := e.parts) (fun x _ => ih x) ps (if e.parts.length = ps.length then s.saw (look.use e.name) else (s.saw (look.use e.name)).tell 7 e.place)
            have h3 : (if e.parts.length = ps.length then s.saw (look.use e.name) else (s.saw (look.use e.name)).tell 7 e.place).lk.length = s.lk.length + (look.use e.name).length := by split <;> simp [tell_lk]
            simp only at h2 ⊢
            omega
        · split
          · split
            · next a hp =>
              have := ih a s
              rw [hp]
              simp only [szL,List.foldr_cons,List.foldr_nil]
              omega
            · simp only; omega
          · split
            · split
              · next a b c hp =>
                rw [hp]
                have h1 : (mustK (tyN look m) 2 a s).lk.length ≤ s.lk.length + 1000 * sz m a := mustK_lk (ih a)
                have h2 := ih b (mustK (tyN look m) 2 a s)
                have h3 : (mustK (tyN look m) (tyN look m b (mustK (tyN look m) 2 a s)).1 c (tyN look m b (mustK (tyN look m) 2 a s)).2).lk.length ≤ (tyN look m b (mustK (tyN look m) 2 a s)).2.lk.length + 1000 * sz m c := mustK_lk (ih c)
                unfold ifK
                simp only [szL,List.foldr_cons,List.foldr_nil]
                omega
              · simp only; omega
            · split
              · split
                · next a b hp =>
                  rw [hp]
                  have h1 := ih a s
                  have h2 := ih b { (tyN look m a s).2 with scope := (tyN look m a s).2.scope ++ [(e.name,(tyN look m a s).1)] }
                  unfold letK
                  simp only [szL,List.foldr_cons,List.foldr_nil] at *
                  omega
                · simp only; omega
              · split
                · have := hall 1; simp only; omega
                · split
                  · have := hall 2; simp only; omega
                  · have := hall 1; simp only; omega
theorem KFit.ty {look : Look} {m : Nat} {e : Ex} {s : KS} {n : Nat} (h : KFit s (sz m e + n)) : KFit (tyN look m e s).2 n := h.of (tyN_scope look m e s) (tyN_lk look m e s)
theorem KFit.must {look : Look} {m want : Nat} {e : Ex} {s : KS} {n : Nat} (h : KFit s (sz m e + n)) : KFit (mustK (tyN look m) want e s) n := h.of (mustK_scope (tyN_scope look m e)) (mustK_lk (tyN_lk look m e))
theorem KFit.all {look : Look} {m want : Nat} {l : List Ex} {s : KS} {n : Nat} (h : KFit s (szL (sz m) l + n)) : KFit (allK (tyN look m) want l s) n := h.of (allK_scope (fun x _ => tyN_scope look m x) s) (allK_lk (fun x _ => tyN_lk look m x) s)
def ExP (m : Nat) (S : Nat → Prop) (w : World) (b o : Nat) (e : Ex) : Prop := ExAt m S w b o e ∧ w.cell? ⟨b,o + 1,none⟩ = some (.int .i64 e.place)
theorem partsN_atP {m : Nat} {S : Nat → Prop} {w : World} {pv : Value} {es : List Ex} (h : PartsN m S w pv es) (h0 : 0 < es.length) :
    ∃ k g cap,m = k + 1 ∧ pv = .slice (some ⟨g,0,none⟩) es.length cap ∧ S g ∧ g < w.heap.size ∧ es.length ≤ cap ∧ ∀ j,(hj : j < es.length) → ExP k S w g (j * 5) es[j] := by
  have h' := h
  obtain ⟨k,g,cap,hm,hp,hs,hg,hc,hat⟩ := h.at h0
  refine ⟨k,g,cap,hm,hp,hs,hg,hc,fun j hj => ⟨hat j hj,?_⟩⟩
  subst hm
  rcases h' with ⟨rfl,_⟩ | ⟨g',cap',cur,h1,h2,h3,h4,h5⟩
  · simp at h0
  rw [hp] at h1
  simp only [Value.slice.injEq,Option.some.injEq,Addr.mk.injEq] at h1
  obtain ⟨⟨rfl,_⟩,_⟩ := h1
  obtain ⟨pj,a,b⟩ := h5 j hj
  have hc : cur[j * 5 + 1]? = (exCells es[j] pj)[1]? := by
    rw [← a,List.getElem?_take,if_pos (by omega),List.getElem?_drop]
    simp
  rw [cell_block h4,hc]
  rfl
def SigAt (B : Nat) (w0 : World) (fb fo : Nat) (ps : List Nat) (r : Nat) : Prop :=
  w0.cell? ⟨fb,fo + 4,none⟩ = some (.int .i64 r) ∧ ∃ po pc,w0.cell? ⟨fb,fo + 3,none⟩ = some (.slice po ps.length pc) ∧ (0 < ps.length → ∃ gb,po = some ⟨gb,0,none⟩ ∧ gb < B ∧ ps.length ≤ pc ∧ ∀ j,(hj : j < ps.length) → w0.cell? ⟨gb,j * 3 + 2,none⟩ = some (.int .i64 ps[j]))
def FoundK (B : Nat) (w0 : World) (look : Look) (name : List UInt8) (e : Ending) : Prop :=
  (look.sig name = none ∧ ∃ q,e = .returned (.tuple #[.string q,.pointer none])) ∨ ∃ ps r q fb fo,look.sig name = some (ps,r) ∧ e = .returned (.tuple #[.string q,.pointer (some ⟨fb,fo,none⟩)]) ∧ fb < B ∧ SigAt B w0 fb fo ps r ∧ ps.length ≤ 100000
def FindK (B : Nat) (w0 : World) (vb : VK) (look : Look) : Prop :=
  ∀ (name : List UInt8) (lk : List Us) (uv : Value) (w : World),Below B w0 w → Vw B vb lk uv w → lk.length ≤ 4000000000 → Calls Tryz.prog 261 #[.pointer (some ⟨vb.b,0,none⟩),.string ⟨name.toArray⟩] w fun e w' => FoundK B w0 look name e ∧ ∃ uv',Moved vb uv uv' w w' ∧ Vw B vb (lk ++ look.use name) uv' w'
def Knows (B kb : Nat) (vb : VK) (w : World) (s' : KS) (w' : World) : Prop := Below B w w' ∧ ∃ sv,Kk B kb vb s' sv w'
theorem Knows.trans {B kb : Nat} {vb : VK} {w w1 w2 : World} {s' : KS} (h : Below B w w1) (k : Knows B kb vb w1 s' w2) : Knows B kb vb w s' w2 := ⟨h.trans k.1,k.2⟩
theorem Knows.size {B kb : Nat} {vb : VK} {s : KS} {w1 w : World} (h : Knows B kb vb w1 s w) : B ≤ w.heap.size := by
  obtain ⟨_,sv,hc⟩ := h
  have := hc.lt; have := hc.low; omega
theorem Knows.cell {B kb : Nat} {vb : VK} {s : KS} {w0 w1 w : World} (h : Knows B kb vb w1 s w) (hw : Below B w0 w1) {b : Nat} (hb : b < B) (o : Nat) : w.cell? ⟨b,o,none⟩ = w0.cell? ⟨b,o,none⟩ := below_cell (hw.trans h.1) hb o
theorem tell_w {B kb : Nat} {vb : VK} {s : KS} {w1 w : World} (h : Knows B kb vb w1 s w) (c p : Nat) :
    Calls Tryz.prog 176 #[.pointer (some ⟨kb,0,none⟩),.int .i64 c,.int .i64 p] w fun e w' => e = .returned (.tuple #[]) ∧ Knows B kb vb w1 (s.tell c p) w' := by
  obtain ⟨hb,sv,hk⟩ := h
  refine (tell_any B kb vb s sv w hk c p).mono ?_
  rintro e w' ⟨rfl,h1,h2⟩
  refine ⟨rfl,hb.trans ⟨h1.os,h1.tape,h1.output,h1.size,fun k hlt => h1.block k (by have := hk.lt; have := hk.low; omega) (by have := hk.low; omega)⟩,sv,h2⟩
def TypeC (B : Nat) (w0 : World) (S : Nat → Prop) (look : Look) (kb : Nat) (vb : VK) (m : Nat) : Prop :=
  ∀ (e : Ex) (b o : Nat) (s : KS) (w1 w : World),Shp (fun _ => True) (m + 1) e → ExP m S w0 b o e → b < B → Knows B kb vb w1 s w → Below B w0 w1 → KFit s (sz (m + 1) e) →
    Calls Tryz.prog 218 #[.pointer (some ⟨kb,0,none⟩),.pointer (some ⟨b,o,none⟩)] w fun e' w' => e' = .returned (.int .i64 (tyN look (m + 1) e s).1) ∧ Knows B kb vb w1 (tyN look (m + 1) e s).2 w'
end Go.Proofs.YtpmmjkiclngpmaaGreatDoor
namespace Go.Proofs.YtpmmjkiclngpmaaGreatDoor
open Go.RowKit
theorem must_any {B : Nat} {w0 : World} {S : Nat → Prop} {look : Look} {kb k : Nat} {vb : VK} (ih : TypeC B w0 S look kb vb k)
    (e : Ex) (b o : Nat) (s : KS) (w1 w : World) (hsh : Shp (fun _ => True) (k + 1) e) (hat : ExP k S w0 b o e) (hb : b < B) (h : Knows B kb vb w1 s w) (hw : Below B w0 w1) (hf : KFit s (sz (k + 1) e)) (want : Nat) :
    Calls Tryz.prog 177 #[.pointer (some ⟨kb,0,none⟩),.pointer (some ⟨b,o,none⟩),.int .i64 want] w fun e' w' => e' = .returned (.tuple #[]) ∧ Knows B kb vb w1 (mustK (tyN look (k + 1)) want e s) w' := by
  have HI := hide ih
  have HSh := hide hsh
  have HAt := hide hat
  have HK := hide h
  have HW := hide hw
  have HM := hide (show mustK (tyN look (k + 1)) want e s = if wrongT (tyN look (k + 1) e s).1 want then (tyN look (k + 1) e s).2.tell 8 e.place else (tyN look (k + 1) e s).2 from rfl)
  generalize hr : tyN look (k + 1) e s = r at *
  have HR := hide hr
  clear ih hsh hat h hw hr
  rcases h1 : ((r.1 : Int) != (want : Int)) with _ | _
  · have HX := hide (show mustK (tyN look (k + 1)) want e s = r.2 by rw [HM.out]; have : r.1 = want := (by simp at h1; omega); simp [wrongT,this])
    go_enter Tryz.func177,Tryz.ntmps177
    go_wp2_with fail
    refine (HI.out e b o s w1 _ HSh.out HAt.out hb HK.out HW.out hf).mono ?_
    rintro e' w2 ⟨rfl,hk2⟩
    rw [HR.out] at hk2 ⊢
    have HK2 := hide hk2
    clear hk2
    go_wp2
    go_end0
    exact ⟨rfl,by rw [HX.out]; exact HK2.out⟩
  have hn1 : ¬ r.1 = want := by simp at h1; omega
  rcases h2 : ((r.1 : Int) != 0) with _ | _
  · have HX := hide (show mustK (tyN look (k + 1)) want e s = r.2 by rw [HM.out]; have : r.1 = 0 := (by simp at h2; omega); simp [wrongT,this])
    go_enter Tryz.func177,Tryz.ntmps177
    go_wp2_with fail
    refine (HI.out e b o s w1 _ HSh.out HAt.out hb HK.out HW.out hf).mono ?_
    rintro e' w2 ⟨rfl,hk2⟩
    rw [HR.out] at hk2 ⊢
    have HK2 := hide hk2
    clear hk2
    go_wp2
    go_end0
    exact ⟨rfl,by rw [HX.out]; exact HK2.out⟩
  have hn2 : ¬ r.1 = 0 := by simp at h2; omega
  rcases h3 : ((want : Int) != 0) with _ | _
  · have HX := hide (show mustK (tyN look (k + 1)) want e s = r.2 by rw [HM.out]; have : want = 0 := (by simp at h3; omega); simp [wrongT,this])
    go_enter Tryz.func177,Tryz.ntmps177
    go_wp2_with fail
    refine (HI.out e b o s w1 _ HSh.out HAt.out hb HK.out HW.out hf).mono ?_
    rintro e' w2 ⟨rfl,hk2⟩
    rw [HR.out] at hk2 ⊢
    have HK2 := hide hk2
    clear hk2
    go_wp2
    go_end0
    exact ⟨rfl,by rw [HX.out]; exact HK2.out⟩
  have hn3 : ¬ want = 0 := by simp at h3; omega
  have HX := hide (show mustK (tyN look (k + 1)) want e s = r.2.tell 8 e.place by rw [HM.out]; simp [wrongT,hn1,hn2,hn3])
  go_enter Tryz.func177,Tryz.ntmps177
  go_wp2_with fail
  refine (HI.out e b o s w1 _ HSh.out HAt.out hb HK.out HW.out hf).mono ?_
  rintro e' w2 ⟨rfl,hk2⟩
  rw [HR.out] at hk2 ⊢
  have c1 := (hk2.cell HW.out hb (o + 1)).trans HAt.out.2
  have z2 := hk2.size
  have y2 : b < w2.heap.size := by omega
  have HK2 := hide hk2
  clear hk2
  go_wp2_with fail
  refine (tell_w HK2.out 8 e.place).mono ?_
  rintro e' w3 ⟨rfl,hk3⟩
  have HK3 := hide hk3
  clear hk3
  go_wp2
  go_end0
  exact ⟨rfl,by rw [HX.out]; exact HK3.out⟩
theorem allK_snoc (g : Ex → KS → Nat × KS) (want : Nat) (l : List Ex) (x : Ex) (s : KS) : allK g want (l ++ [x]) s = mustK g want x (allK g want l s) := by
  induction l generalizing s with
  | nil => rfl
  | cons y r ih => exact ih _
def PartsAt (k : Nat) (S : Nat → Prop) (w0 : World) (B : Nat) (v : Value) (l : List Ex) : Prop :=
  (l = [] ∧ ∃ a c,v = .slice a 0 c) ∨ ∃ g oo c,v = .slice (some ⟨g,oo,none⟩) l.length c ∧ g < B ∧ l.length ≤ c ∧ ∀ j,(hj : j < l.length) → ExP k S w0 g (oo + j * 5) l[j]
theorem all_any {B : Nat} {w0 : World} {S : Nat → Prop} {look : Look} {kb k : Nat} {vb : VK} (ih : TypeC B w0 S look kb vb k)
    (v : Value) (l : List Ex) (s : KS) (w1 w : World) (hsh : ∀ x ∈ l,Shp (fun _ => True) (k + 1) x) (hv : PartsAt k S w0 B v l) (h : Knows B kb vb w1 s w) (hw : Below B w0 w1) (hf : KFit s (szL (sz (k + 1)) l)) (hll : l.length ≤ 1000000) (want : Nat) :
    Calls Tryz.prog 259 #[.pointer (some ⟨kb,0,none⟩),v,.int .i64 want] w fun e' w' => e' = .returned (.tuple #[]) ∧ Knows B kb vb w1 (allK (tyN look (k + 1)) want l s) w' := by
  rcases hv with ⟨rfl,a,c,rfl⟩ | ⟨g,oo,c,rfl,hg,hlc,hat⟩
  · have HK := hide h
    clear h hw ih
    go_enter Tryz.func259,Tryz.ntmps259
    go_wp2
    go_loop [9] (fun i => i = .int .i64 0) (fun i => 0)
    case atStart => rfl
    case round =>
      subst hrel
      go_wp2
      go_end0
      exact ⟨rfl,HK.out⟩
  have HI := hide ih
  have HSh := hide hsh
  have HAt := hide hat
  have HK := hide h
  have HW := hide hw
  clear ih hsh hat h hw
  go_enter Tryz.func259,Tryz.ntmps259
  go_wp2
  go_loopw [9] (fun i wr => ∃ j : Nat,j ≤ l.length ∧ i = .int .i64 j ∧ Hid (Knows B kb vb w1 (allK (tyN look (k + 1)) want (l.take j) s) wr)) (fun i _ => l.length - (intOf i).toNat)
  case atStart => exact ⟨0,Nat.zero_le _,rfl,by show Knows _ _ _ _ _ _; exact HK.out⟩
  obtain ⟨j,hj,rfl,HKr⟩ := hrel
  by_cases hlt : j < l.length
  · have HTk := hide (show allK (tyN look (k + 1)) want (l.take (j + 1)) s = mustK (tyN look (k + 1)) want l[j] (allK (tyN look (k + 1)) want (l.take j) s) by rw [List.take_succ_eq_append_getElem hlt,allK_snoc])
    have hfj : KFit (allK (tyN look (k + 1)) want (l.take j) s) (sz (k + 1) l[j]) := (hf.mono (szL_take (sz (k + 1)) l j hlt)).all
    go_wp2_with fail
    refine (must_any HI.out l[j] g (oo + j * 5) _ w1 _ (HSh.out _ (List.getElem_mem hlt)) (HAt.out j hlt) hg HKr.out HW.out hfj want).mono ?_
    rintro e' w2 ⟨rfl,hk2⟩
    have HK2 := hide hk2
    clear hk2
    go_wp2
    go_roundw
    case rel => exact ⟨j + 1,by omega,by go_num,by show Knows _ _ _ _ _ _; rw [HTk.out]; exact HK2.out⟩
    case measure => simp [intOf]; omega
  have hje : j = l.length := by omega
  subst hje
  have HF2 := hide (show l.take l.length = l from List.take_length)
  go_wp2
  go_end0
  exact ⟨rfl,by have := HKr.out; rw [HF2.out] at this; exact this⟩
theorem findV_take (name : List UInt8) (l : List (List UInt8 × Nat)) (j : Nat) (hj : j < l.length) : findV name (l.take (j + 1)).reverse = if l[j].1 = name then some l[j].2 else findV name (l.take j).reverse := by
  rw [List.take_succ_eq_append_getElem hj,List.reverse_append]
  rfl
theorem variable_any {B : Nat} {w0 : World} {S : Nat → Prop} {kb m : Nat} {vb : VK} (e : Ex) (b o : Nat) (s : KS) (w1 w : World) (hat : ExP m S w0 b o e) (hb : b < B) (h : Knows B kb vb w1 s w) (hw : Below B w0 w1) (hf : s.scope.length ≤ 1000000) :
    Calls Tryz.prog 255 #[.pointer (some ⟨kb,0,none⟩),.pointer (some ⟨b,o,none⟩)] w fun e' w' => e' = .returned (.int .i64 (varK e s).1) ∧ Knows B kb vb w1 (varK e s).2 w' := by
  obtain ⟨⟨pv,a0,a2,a3,a4,ap⟩,a1⟩ := hat
  have c2 := (h.cell hw hb (o + 2)).trans a2
  have HA1 := hide a1
  have z := h.size
  have y : b < w.heap.size := by omega
  obtain ⟨hbl,sv,hk⟩ := h
  obtain ⟨so,sc,rfl⟩ := owns_shape' hk.sco
  obtain ⟨f0,f1,f2,f3⟩ := hk.field
  have h1 := hk.lt
  have HK := hide hk
  have HB := hide hbl
  have HW := hide hw
  have HC := hide (fun (j : Nat) (hj : j < s.scope.length) => by
    obtain ⟨g,cap,cur,hv,hg1,hg2,hg3,hg4,hg5,hg6⟩ := owr_shape hk.sco (by omega)
    have ho := hk.sco
    rw [hv] at ho
    exact (⟨g,cap,hv,lt_of_some hg2,(owns_cell ho (j * 2) (by omega)).trans (varCells_at _ j hj).1,(owns_cell ho (j * 2 + 1) (by omega)).trans (varCells_at _ j hj).2,hg3⟩ : ∃ g cap,Value.slice so s.scope.length sc = .slice (some ⟨g,0,none⟩) s.scope.length cap ∧ g < w.heap.size ∧ w.cell? ⟨g,j * 2,none⟩ = some (.string ⟨(s.scope[j].1).toArray⟩) ∧ w.cell? ⟨g,j * 2 + 1,none⟩ = some (.int .i64 s.scope[j].2) ∧ s.scope.length ≤ cap))
  clear hk hbl hw a0 a2 a3 a4 ap a1
  go_enter Tryz.func255,Tryz.ntmps255
  go_wp2
  go_loopw [5] (fun i wr => ∃ q : Int,-1 ≤ q ∧ q < s.scope.length ∧ i = .int .i64 q ∧ Hid (findV e.name s.scope.reverse = findV e.name (s.scope.take (q + 1).toNat).reverse) ∧ Hid (Below w.heap.size w wr)) (fun i _ => (intOf i + 1).toNat)
  case atStart => exact ⟨(s.scope.length : Int) - 1,by omega,by omega,by first | rfl | (congr 1; omega),by show findV _ _ = _; rw [show ((s.scope.length : Int) - 1 + 1).toNat = s.scope.length by omega,List.take_length],Below.refl _ _⟩
  obtain ⟨q,hq1,hq2,rfl,HF,HBr⟩ := hrel
  have hsr := HBr.out.size
  have d1 := (HBr.out.cell (p := ⟨kb,1,none⟩) h1).trans f1
  have d2 := (HBr.out.cell (p := ⟨b,o + 2,none⟩) y).trans c2
  have y' : b < wr.heap.size := by omega
  have h1' : kb < wr.heap.size := by omega
  rcases (by omega : q < 0 ∨ 0 ≤ q) with hneg | hpos
  · have hq : q = -1 := by omega
    subst hq
    have HV := hide (show varK e s = (0,s.tell 3 e.place) by
      have := HF.out
      simp [findV] at this
      simp [varK,this])
    have HKr := hide (show Knows B kb vb w1 s wr from ⟨HB.out.trans (HBr.out.mono (by omega)),_,HK.out.below HBr.out⟩)
    have e1 := (HKr.out.cell HW.out hb (o + 1)).trans HA1.out
    go_wp2_with fail
    refine (tell_w HKr.out 3 e.place).mono ?_
    rintro e' w3 ⟨rfl,hk3⟩
    have HK3 := hide hk3
    clear hk3
    go_wp2
    go_ret
    exact ⟨ret_int (by rw [HV.out]; rfl),by rw [HV.out]; exact HK3.out⟩
  obtain ⟨j,rfl⟩ : ∃ j : Nat,(j : Int) = q := ⟨q.toNat,by omega⟩
  have hj : j < s.scope.length := by omega
  obtain ⟨g,cap,hv,hg,g0,g1,hgc⟩ := HC.out j hj
  simp only [Value.slice.injEq] at hv
  obtain ⟨rfl,_,rfl⟩ := hv
  have i0 := (HBr.out.cell (p := ⟨g,j * 2,none⟩) hg).trans g0
  have i1 := (HBr.out.cell (p := ⟨g,j * 2 + 1,none⟩) hg).trans g1
  have hg' : g < wr.heap.size := by omega
  have HT := hide (findV_take e.name s.scope j hj)
  have HF' := hide (show findV e.name s.scope.reverse = findV e.name (s.scope.take (j + 1)).reverse by have := HF.out; rwa [show ((j : Int) + 1).toNat = j + 1 by omega] at this)
  rcases he : (s.scope[j].1 == e.name) with _ | _
  · have hne : ¬ s.scope[j].1 = e.name := by simpa using he
    go_wp2_with fail
    go_quiet (fail)
    go_wp2
    go_roundw
    case rel => exact ⟨(j : Int) - 1,by omega,by omega,by first | rfl | (congr 1; omega),by show findV _ _ = _; rw [HF'.out,HT.out,if_neg hne,show ((j : Int) - 1 + 1).toNat = j by omega],HBr.out.trans ((drewN_below wr nq).mono hsr)⟩
    case measure => simp [intOf] <;> omega
  have heq : s.scope[j].1 = e.name := by simpa using he
  have HV := hide (show varK e s = (s.scope[j].2,s) by
    have := HF'.out
    rw [HT.out,if_pos heq] at this
    simp [varK,this])
  go_wp2_with fail
  go_quiet (fail)
  go_wp2
  go_ret
  exact ⟨ret_int (by rw [HV.out]),by rw [HV.out]; exact ⟨HB.out.trans ((HBr.out.trans ((drewN_below wr nq).mono hsr)).mono (by omega)),_,HK.out.below (HBr.out.trans ((drewN_below wr nq).mono hsr))⟩⟩
end Go.Proofs.YtpmmjkiclngpmaaGreatDoor
namespace Go.Proofs.YtpmmjkiclngpmaaGreatDoor
open Go.RowKit
theorem info_var : (Tryz.prog.info? 303).map (fun i => (i.zero,i.size,i.bytes)) = some (some (.agg #[.string ⟨#[]⟩,.int .i64 0]),2,24) := by kernel_rfl
theorem Kk.putScope {B kb : Nat} {vb : VK} {s : KS} {sv : Value} {w w2 : World} (h : Kk B kb vb s sv w) (hg : w.grownBy w2 sv.ownBlock) (v' : Value) (l : List (List UInt8 × Nat))
    (ho : w2.ownsRow B 303 2 v' l.length (varCells l)) (hw : ∀ k,v'.ownBlock = some k → sv.ownBlock = some k ∨ w.heap.size ≤ k) :
    Below B w (w2.setCell ⟨kb,1,none⟩ v') ∧ Kk B kb vb { s with scope := l } v' (w2.setCell ⟨kb,1,none⟩ v') := by
  have hmb := h.lt
  have hlow := h.low
  have hbl : Below B w w2 := ⟨hg.os,hg.tape,hg.output,hg.size,fun k hk => hg.block k (by omega) (fun e => by have := (owns_block h.sco k e.symm).1; omega)⟩
  have hv : v'.ownBlock ≠ some kb := fun e => (hw _ e).elim (fun h' => h.n1 h') (fun h' => by omega)
  refine ⟨hbl.setCell (p := ⟨kb,1,none⟩) hlow v',⟨hlow,?_,owns_set_other ho hv _ _,hv,?_⟩⟩
  · rw [block_setCell ((hg.block _ hmb (fun e => h.n1 e.symm)).trans h.blk)]; rfl
  obtain ⟨uv,hu,hd⟩ := h.vw
  exact ⟨uv,(hu.keep (fun k hk => hg.block k (hu.has hk).2 (fun e => (hd k hk).2 e.symm))).set (fun k hk => (hd k hk).1) _ _,fun k hk => ⟨(hd k hk).1,fun e => (hw k e).elim (hd k hk).2 (fun e' => by have := (hu.has hk).2; omega)⟩⟩
theorem varCells_len (l : List (List UInt8 × Nat)) : (varCells l).length = l.length * 2 := by
  induction l with
  | nil => rfl
  | cons x r ih =>
    rw [show varCells (x :: r) = [.string ⟨x.1.toArray⟩,.int .i64 x.2] ++ varCells r from rfl,List.length_append,ih]
    simp; omega
theorem if_any {B : Nat} {w0 : World} {S : Nat → Prop} (hS : ∀ k,S k → k < B) {look : Look} {kb m : Nat} {vb : VK} (ih : ∀ k,m = k + 1 → TypeC B w0 S look kb vb k)
    (e : Ex) (b o : Nat) (s : KS) (w1 w : World) (pa pb pc : Ex) (hp : e.parts = [pa,pb,pc]) (hsh : ∀ x ∈ e.parts,Shp (fun _ => True) m x) (hat : ExP m S w0 b o e) (hb : b < B) (h : Knows B kb vb w1 s w) (hw : Below B w0 w1) (hf : KFit s (1 + szL (sz m) e.parts)) :
    Calls Tryz.prog 257 #[.pointer (some ⟨kb,0,none⟩),.pointer (some ⟨b,o,none⟩)] w fun e' w' => e' = .returned (.int .i64 (ifK (tyN look m) pa pb pc s).1) ∧ Knows B kb vb w1 (ifK (tyN look m) pa pb pc s).2 w' := by
  obtain ⟨⟨pv,a0,a2,a3,a4,ap⟩,a1⟩ := hat
  obtain ⟨k,g,cap,hmk,rfl,hSg,hgl,hgc,hch⟩ := partsN_atP ap (by rw [hp]; simp)
  have hgB := hS g hSg
  subst hmk
  have HI := hide (ih k rfl)
  rw [hp] at a4 hsh hf
  have HA := hide (show w0.cell? ⟨b,o + 4,none⟩ = some (.slice (some ⟨g,0,none⟩) 3 cap) from a4)
  have HCa := hide (show ExP k S w0 g 0 pa by have := hch 0 (by rw [hp]; simp); simpa [hp] using this)
  have HCb := hide (show ExP k S w0 g 5 pb by have := hch 1 (by rw [hp]; simp); simpa [hp] using this)
  have HCc := hide (show ExP k S w0 g 10 pc by have := hch 2 (by rw [hp]; simp); simpa [hp] using this)
  have HSa := hide (hsh pa (by simp))
  have HSb := hide (hsh pb (by simp))
  have HSc := hide (hsh pc (by simp))
  have HB := hide hw
  have HW := hide h
  have hsum : szL (sz (k + 1)) [pa,pb,pc] = sz (k + 1) pa + (sz (k + 1) pb + (sz (k + 1) pc + 0)) := rfl
  have fa : KFit s (sz (k + 1) pa) := hf.mono (by omega)
  have fb : KFit (mustK (tyN look (k + 1)) 2 pa s) (sz (k + 1) pb) := (hf.mono (show sz (k + 1) pa + sz (k + 1) pb ≤ _ by omega)).must
  have fc : KFit (tyN look (k + 1) pb (mustK (tyN look (k + 1)) 2 pa s)).2 (sz (k + 1) pc) := ((hf.mono (show sz (k + 1) pa + (sz (k + 1) pb + sz (k + 1) pc) ≤ _ by omega)).must).ty
  unfold ifK
  generalize hs1 : mustK (tyN look (k + 1)) 2 pa s = t1 at *
  generalize hs2 : tyN look (k + 1) pb t1 = t2 at *
  have HE1 := hide hs1
  have HE2 := hide hs2
  clear hch hsh a0 a1 a2 a3 a4 ap ih hw h hp hgc hgl hf hsum hs1 hs2
  have c0 := (HW.out.cell HB.out hb (o + 4)).trans HA.out
  have z0 := HW.out.size
  have y0 : b < w.heap.size := by omega
  have x0 : g < w.heap.size := by omega
  go_enter Tryz.func257,Tryz.ntmps257
  go_wp2_with fail
  refine (must_any HI.out pa g 0 s w1 _ HSa.out HCa.out hgB HW.out HB.out fa 2).mono ?_
  rintro e' w2 ⟨rfl,hk2⟩
  rw [HE1.out] at hk2
  have HK2 := hide hk2
  have c2 := (hk2.cell HB.out hb (o + 4)).trans HA.out
  have z2 := hk2.size
  have y2 : b < w2.heap.size := by omega
  have x2 : g < w2.heap.size := by omega
  clear hk2 c0
  go_wp2_with fail
  refine (HI.out pb g 5 t1 w1 _ HSb.out HCb.out hgB HK2.out HB.out fb).mono ?_
  rintro e' w3 ⟨rfl,hk3⟩
  rw [HE2.out] at hk3 ⊢
  have HK3 := hide hk3
  have c3 := (hk3.cell HB.out hb (o + 4)).trans HA.out
  have z3 := hk3.size
  have y3 : b < w3.heap.size := by omega
  have x3 : g < w3.heap.size := by omega
  clear hk3 c2
  go_wp2_with fail
  refine (must_any HI.out pc g 10 t2.2 w1 _ HSc.out HCc.out hgB HK3.out HB.out fc t2.1).mono ?_
  rintro e' w4 ⟨rfl,hk4⟩
  have HK4 := hide hk4
  clear hk4 c3
  go_wp2
  go_ret
  exact ⟨rfl,HK4.out⟩
theorem let_any {B : Nat} {w0 : World} {S : Nat → Prop} (hS : ∀ k,S k → k < B) {look : Look} {kb m : Nat} {vb : VK} (ih : ∀ k,m = k + 1 → TypeC B w0 S look kb vb k)
    (e : Ex) (b o : Nat) (s : KS) (w1 w : World) (pa pb : Ex) (hp : e.parts = [pa,pb]) (hsh : ∀ x ∈ e.parts,Shp (fun _ => True) m x) (hat : ExP m S w0 b o e) (hb : b < B) (h : Knows B kb vb w1 s w) (hw : Below B w0 w1) (hf : KFit s (1 + szL (sz m) e.parts)) :
    Calls Tryz.prog 258 #[.pointer (some ⟨kb,0,none⟩),.pointer (some ⟨b,o,none⟩)] w fun e' w' => e' = .returned (.int .i64 (letK (tyN look m) e.name pa pb s).1) ∧ Knows B kb vb w1 (letK (tyN look m) e.name pa pb s).2 w' := by
  obtain ⟨⟨pv,a0,a2,a3,a4,ap⟩,a1⟩ := hat
  obtain ⟨k,g,cap,hmk,rfl,hSg,hgl,hgc,hch⟩ := partsN_atP ap (by rw [hp]; simp)
  have hgB := hS g hSg
  subst hmk
  have HI := hide (ih k rfl)
  rw [hp] at a4 hsh hf
  have HA := hide (show w0.cell? ⟨b,o + 4,none⟩ = some (.slice (some ⟨g,0,none⟩) 2 cap) from a4)
  have HN := hide a2
  have HCa := hide (show ExP k S w0 g 0 pa by have := hch 0 (by rw [hp]; simp); simpa [hp] using this)
  have HCb := hide (show ExP k S w0 g 5 pb by have := hch 1 (by rw [hp]; simp); simpa [hp] using this)
  have HSa := hide (hsh pa (by simp))
  have HSb := hide (hsh pb (by simp))
  have HB := hide hw
  have HW := hide h
  have hsum : szL (sz (k + 1)) [pa,pb] = sz (k + 1) pa + (sz (k + 1) pb + 0) := rfl
  have s1 : (tyN look (k + 1) pa s).2.scope = s.scope := tyN_scope look (k + 1) pa s
  have s2 := tyN_scope look (k + 1) pb { (tyN look (k + 1) pa s).2 with scope := (tyN look (k + 1) pa s).2.scope ++ [(e.name,(tyN look (k + 1) pa s).1)] }
  have fa : KFit s (sz (k + 1) pa) := hf.mono (by omega)
  have fq : KFit (tyN look (k + 1) pa s).2 (1 + sz (k + 1) pb) := (hf.mono (show sz (k + 1) pa + (1 + sz (k + 1) pb) ≤ _ by omega)).ty
  unfold letK
  generalize hs1 : tyN look (k + 1) pa s = t1 at *
  have fb : KFit { t1.2 with scope := t1.2.scope ++ [(e.name,t1.1)] } (sz (k + 1) pb) := fq.push _
  generalize hs2 : tyN look (k + 1) pb { t1.2 with scope := t1.2.scope ++ [(e.name,t1.1)] } = t2 at *
  simp only at s2
  rw [s1] at s2
  have HE1 := hide hs1
  have HE2 := hide hs2
  have HS1 := hide s1
  have HS2 := hide s2
  have hsl : s.scope.length ≤ 1000000 := by have := hf.sc; omega
  obtain ⟨i0,hi,hz0,hz1,hz2⟩ := info_parts info_var
  clear hch hsh a0 a1 a2 a3 a4 ap ih hw h hp hgc hgl hf fq hsum s1 s2 hs1 hs2
  have c0 := (HW.out.cell HB.out hb (o + 4)).trans HA.out
  have z0 := HW.out.size
  have y0 : b < w.heap.size := by omega
  have x0 : g < w.heap.size := by omega
  obtain ⟨hbw,sv0,hk0⟩ := HW.out
  obtain ⟨so,sc,rfl⟩ := owns_shape' hk0.sco
  obtain ⟨_,f1,_,_⟩ := hk0.field
  have fl := hk0.lt
  clear hbw hk0
  go_enter Tryz.func258,Tryz.ntmps258
  go_wp2_with fail
  refine (HI.out pa g 0 s w1 _ HSa.out HCa.out hgB HW.out HB.out fa).mono ?_
  rintro e' w2 ⟨rfl,hk2⟩
  rw [HE1.out] at hk2 ⊢
  have n2 := (hk2.cell HB.out hb (o + 2)).trans HN.out
  have z2 := hk2.size
  have y2 : b < w2.heap.size := by omega
  obtain ⟨hb2,sv2,hc2⟩ := hk2
  obtain ⟨qo,qc,rfl⟩ := owns_shape' hc2.sco
  obtain ⟨f0,f1',f2,f3⟩ := hc2.field
  have g0 := free_block hc2.blk
  have h1 := hc2.lt
  have h2 := hc2.low
  have hl2 : t1.2.scope.length = s.scope.length := by rw [HS1.out]
  rw [hl2] at f1' hc2
  have HK2 := hide hc2
  have HB2 := hide hb2
  clear hb2 hc2 c0 f1
  have b1 : s.scope.length + 1 ≤ maxLen := by unfold maxLen; omega
  have b2 : (s.scope.length + 1) * 24 ≤ 140737488355328 := by omega
  have hone : ∀ u ∈ [Value.string ⟨e.name.toArray⟩,Value.int .i64 t1.1],u.oneCell' = true := by
    intro u hu
    rcases List.mem_cons.1 hu with rfl | hu
    · rfl
    · rcases List.mem_cons.1 hu with rfl | hu
      · rfl
      · cases hu
  have HOne := hide hone
  have hBd : B ≤ (w2.drew.alloc (.cells #[.string ⟨e.name.toArray⟩,.int .i64 t1.1] 303)).heap.size := by simp; omega
  have HBd := hide hBd
  have HSc := hide (show w2.ownsRow B 303 2 (.slice qo s.scope.length qc) s.scope.length (varCells s.scope) by have := HK2.out.sco; rw [HS1.out] at this; exact this)
  clear hone hBd
  go_wp2_with fail
  go_cut [] (fun wx => Hid (Knows B kb vb w1 { t1.2 with scope := t1.2.scope ++ [(e.name,t1.1)] } wx))
  case first =>
    go_region_law (refine step_app_where rfl (.tmp 24) (.tmp 31) 222 rfl B 303 i0 (.agg #[.string ⟨#[]⟩,.int .i64 0]) 2 24 Tryz.underlying222 hi hz0 hz1 hz2 rfl (by decide) (.slice qo s.scope.length qc) s.scope.length (varCells s.scope) ?_ ?_ ⟨w2.heap.size,0,none⟩ 1 1 [.string ⟨e.name.toArray⟩,.int .i64 t1.1] ?_ rfl ?_ HOne.out b1 b2 ?_ ?_; (simp [Act.eval,Act.put]); (exact (World.ownsRow.drew HSc.out).alloc _); (simp [Act.eval,Act.put]); (exact (new2_cells w2.drew _ _ _)); (exact HBd.out); intro v' w4 hown hgrow hwhere; obtain ⟨vo,vc,rfl⟩ := owns_shape' hown; have HG := hide (grown_drew1 (grown_alloc hgrow)); have HO := hide hown; have HWh := hide hwhere; have hmk := (HG.out.block kb h1 (fun e => HK2.out.n1 e.symm)).trans HK2.out.blk; have k1 := cell_block hmk 1; have kf := free_block hmk; have kl := lt_of_some hmk; simp at k1; clear hown hgrow hwhere hmk)
    all_goals
      have HQ := hide (HK2.out.putScope HG.out (.slice vo (s.scope.length + 1) vc) (t1.2.scope ++ [(e.name,t1.1)]) (by rw [varCells_snoc,HS1.out,List.length_append]; exact HO.out) (fun q e => (HWh.out q e).imp (fun h => by exact h) (fun h => by have h' : w2.heap.size + 1 ≤ q := (by simpa using h); omega)))
      (try go_wp2_with fail)
      go_meet
      exact ⟨HB2.out.trans HQ.out.1,_,HQ.out.2⟩
  have HKc := hcut
  have c5 := (HKc.out.cell HB.out hb (o + 4)).trans HA.out
  have z5 := HKc.out.size
  have y5 : b < wc.heap.size := by omega
  have x5 : g < wc.heap.size := by omega
  clear f0 f1' f2 f3 g0 n2
  go_wp2_with fail
  refine (HI.out pb g 5 _ w1 _ HSb.out HCb.out hgB HKc.out HB.out fb).mono ?_
  rintro e' w6 ⟨rfl,hk6⟩
  rw [HE2.out] at hk6 ⊢
  obtain ⟨hb6,sv6,hc6⟩ := hk6
  have hl6 : t2.2.scope.length = s.scope.length + 1 := by rw [HS2.out]; simp
  obtain ⟨d,dc,cur,rfl,hd1,hd2,hd3,hd4,hd5,hd6⟩ := owr_shape hc6.sco (by omega)
  obtain ⟨f0,f1,f2,f3⟩ := hc6.field
  have g0 := free_block hc6.blk
  have hl := hc6.lt
  have hdl := lt_of_some hd2
  have HB6 := hide hb6
  have HP := hide (hc6.putScope (grown_refl w6 _) (.slice (some ⟨d,0,none⟩) s.scope.length dc) (t2.2.scope.take s.scope.length) (by
    have := owns_cut hc6.sco s.scope.length (by omega)
    rw [HS2.out] at this ⊢
    rw [List.take_left,varCells_snoc] at *
    rw [List.take_left' (by rw [varCells_len])] at this
    exact this) (fun k e => Or.inl e))
  have hdc : s.scope.length ≤ dc := by omega
  clear hb6 hc6 hd2 hd5 hd6 c5
  go_wp2
  go_ret
  exact ⟨rfl,HB6.out.trans HP.out.1,_,HP.out.2⟩
end Go.Proofs.YtpmmjkiclngpmaaGreatDoor
namespace Go.Proofs.YtpmmjkiclngpmaaGreatDoor
open Go.RowKit
def musts (g : Ex → KS → Nat × KS) : List (Ex × Nat) → KS → KS
  | [],s => s
  | x :: r,s => musts g r (mustK g x.2 x.1 s)
theorem musts_snoc (g : Ex → KS → Nat × KS) (l : List (Ex × Nat)) (x : Ex × Nat) (s : KS) : musts g (l ++ [x]) s = mustK g x.2 x.1 (musts g l s) := by
  induction l generalizing s with
  | nil => rfl
  | cons y r ih => exact ih _
theorem argsK_eq (g : Ex → KS → Nat × KS) (l : List Ex) (ts : List Nat) (s : KS) : argsK g l ts s = allK g 0 (l.drop (min l.length ts.length)) (musts g (l.zip ts) s) := by
  induction l generalizing ts s with
  | nil => cases ts <;> rfl
  | cons x r ih =>
    cases ts with
    | nil => rfl
    | cons t ts =>
      show argsK g r ts (mustK g t x s) = _
      rw [ih]
      simp only [List.length_cons,Nat.succ_min_succ,List.drop_succ_cons,List.zip_cons_cons,musts]
theorem musts_scope {g : Ex → KS → Nat × KS} {l : List (Ex × Nat)} (h : ∀ x ∈ l,∀ s,(g x.1 s).2.scope = s.scope) (s : KS) : (musts g l s).scope = s.scope := by
  induction l generalizing s with
  | nil => rfl
  | cons x r ih =>
    show (musts g r (mustK g x.2 x.1 s)).scope = _
    rw [ih (fun y hy => h y (by simp [hy])),mustK_scope (h x (by simp))]
def PartsM (m : Nat) (S : Nat → Prop) (w0 : World) (B : Nat) (v : Value) (l : List Ex) : Prop := (l = [] ∧ ∃ a c,v = .slice a 0 c) ∨ ∃ k,m = k + 1 ∧ PartsAt k S w0 B v l
theorem knows_drew {B kb : Nat} {vb : VK} {s : KS} {w1 w : World} (h : Knows B kb vb w1 s w) : Knows B kb vb w1 s w.drew := ⟨h.1.drew,_,h.2.choose_spec.drew⟩
theorem allK_nil (g : Ex → KS → Nat × KS) (want : Nat) (s : KS) : allK g want [] s = s := rfl
theorem all_m {B : Nat} {w0 : World} {S : Nat → Prop} {look : Look} {kb m : Nat} {vb : VK} (ih : ∀ k,m = k + 1 → TypeC B w0 S look kb vb k)
    (v : Value) (l : List Ex) (s : KS) (w1 w : World) (hsh : ∀ x ∈ l,Shp (fun _ => True) m x) (hv : PartsM m S w0 B v l) (h : Knows B kb vb w1 s w) (hw : Below B w0 w1) (hf : KFit s (szL (sz m) l)) (hll : l.length ≤ 1000000) (want : Nat) :
    Calls Tryz.prog 259 #[.pointer (some ⟨kb,0,none⟩),v,.int .i64 want] w fun e' w' => e' = .returned (.tuple #[]) ∧ Knows B kb vb w1 (allK (tyN look m) want l s) w' := by
  rcases hv with ⟨rfl,a,c,rfl⟩ | ⟨k,rfl,hv⟩
  · have HK := hide h
    clear h hw ih
    rw [allK_nil]
    go_enter Tryz.func259,Tryz.ntmps259
    go_wp2
    go_loop [9] (fun i => i = .int .i64 0) (fun i => 0)
    case atStart => rfl
    case round =>
      subst hrel
      go_wp2
      go_end0
      exact ⟨rfl,HK.out⟩
  exact all_any (ih k rfl) v l s w1 w hsh hv h hw hf hll want
theorem partsM_of {m : Nat} {S : Nat → Prop} {w0 : World} {B : Nat} (hS : ∀ k,S k → k < B) {pv : Value} {es : List Ex} (ap : PartsN m S w0 pv es) : PartsM m S w0 B pv es := by
  rcases Nat.eq_zero_or_pos es.length with h0 | hpos
  · obtain ⟨po,pc,hv⟩ := ap.none
    exact Or.inl ⟨List.eq_nil_of_length_eq_zero h0,po,pc,by rw [hv,h0]⟩
  obtain ⟨k',g,cap,hmk,hv,hSg,hgl,hgc,hch⟩ := partsN_atP ap hpos
  exact Or.inr ⟨k',hmk,Or.inr ⟨g,0,cap,hv,hS g hSg,hgc,fun j hj => by rw [Nat.zero_add]; exact hch j hj⟩⟩
theorem found_shape {B : Nat} {w0 : World} {look : Look} {name : List UInt8} {e : Ending} (h : FoundK B w0 look name e) :
    ∃ q ap,e = .returned (.tuple #[.string q,.pointer ap]) ∧ (ap = none ∧ look.sig name = none ∨ ∃ ps r fb fo,look.sig name = some (ps,r) ∧ ap = some ⟨fb,fo,none⟩ ∧ fb < B ∧ SigAt B w0 fb fo ps r ∧ ps.length ≤ 100000) := by
  rcases h with ⟨h1,q,rfl⟩ | ⟨ps,r,q,fb,fo,h1,rfl,h3,h4,h5⟩
  · exact ⟨q,none,rfl,Or.inl ⟨rfl,h1⟩⟩
  exact ⟨q,some ⟨fb,fo,none⟩,rfl,Or.inr ⟨ps,r,fb,fo,h1,rfl,h3,h4,h5⟩⟩
theorem musts_lk {g : Ex → KS → Nat × KS} {sz : Ex → Nat} {l : List (Ex × Nat)} (h : ∀ x ∈ l,∀ s,(g x.1 s).2.lk.length ≤ s.lk.length + 1000 * sz x.1) (s : KS) : (musts g l s).lk.length ≤ s.lk.length + 1000 * szL sz (l.map Prod.fst) := by
  induction l generalizing s with
  | nil => exact Nat.le_add_right _ _
  | cons x r ih =>
    have h1 := ih (fun y hy => h y (by simp [hy])) (mustK g x.2 x.1 s)
    have h2 : (mustK g x.2 x.1 s).lk.length ≤ s.lk.length + 1000 * sz x.1 := mustK_lk (h x (by simp))
    show (musts g r (mustK g x.2 x.1 s)).lk.length ≤ _
    simp only [szL,List.map_cons,List.foldr_cons] at *
    omega
theorem zip_take_fst {α β : Type} (l : List α) (r : List β) (j : Nat) (hj : j ≤ r.length) : ((l.zip r).take j).map Prod.fst = l.take j := by
  rw [List.map_take]
  by_cases h : l.length ≤ r.length
  · rw [List.map_fst_zip h]
  induction l generalizing r j with
  | nil => simp at h
  | cons x l ih =>
    cases r with
    | nil => simp at hj; simp [hj]
    | cons y r =>
      cases j with
      | zero => simp
      | succ j =>
        simp only [List.length_cons] at h hj
        simp only [List.zip_cons_cons,List.map_cons,List.take_succ_cons]
        rw [ih r j (by omega) (by omega)]
theorem KFit.musts {look : Look} {m : Nat} {l : List Ex} {ps : List Nat} {j : Nat} (hj : j ≤ ps.length) {s : KS} {n : Nat} (h : KFit s (szL (sz m) (l.take j) + n)) : KFit (musts (tyN look m) ((l.zip ps).take j) s) n :=
  h.of (musts_scope (fun x _ => tyN_scope look m x.1) s) (by have := musts_lk (g := tyN look m) (sz := sz m) (l := (l.zip ps).take j) (fun x _ => tyN_lk look m x.1) s; rw [zip_take_fst l ps j hj] at this; exact this)
def arity (s : KS) (n k place : Nat) : KS := if n = k then s else s.tell 7 place
theorem callType_any {B : Nat} {w0 : World} {S : Nat → Prop} (hS : ∀ k,S k → k < B) {look : Look} {kb m : Nat} {vb : VK} (ih : ∀ k,m = k + 1 → TypeC B w0 S look kb vb k) (hfnd : FindK B w0 vb look)
    (e : Ex) (b o : Nat) (s : KS) (w1 w : World) (hsh : ∀ x ∈ e.parts,Shp (fun _ => True) m x) (hat : ExP m S w0 b o e) (hb : b < B) (h : Knows B kb vb w1 s w) (hw : Below B w0 w1) (hf : KFit s (1 + szL (sz m) e.parts)) :
    Calls Tryz.prog 256 #[.pointer (some ⟨kb,0,none⟩),.pointer (some ⟨b,o,none⟩)] w fun e' w' => e' = .returned (.int .i64 (callK look (tyN look m) e s).1) ∧ Knows B kb vb w1 (callK look (tyN look m) e s).2 w' := by
  obtain ⟨⟨pv,a0,a2,a3,a4,ap⟩,a1⟩ := hat
  have hpl := szL_len (sz m) e.parts (fun x _ => sz_pos m x)
  have hll : e.parts.length ≤ 1000000 := by have := hf.sc; omega
  have HPv := hide (partsM_of hS ap)
  have HPN := hide ap
  obtain ⟨po,pc,rfl⟩ := ap.none
  have HN := hide a2
  have HP := hide a1
  have HA := hide a4
  have HI := hide ih
  have HSh := hide hsh
  have HB := hide hw
  have HW := hide h
  have HF := hide hfnd
  have n0 := (h.cell hw hb (o + 2)).trans a2
  have z0 := h.size
  have y0 : b < w.heap.size := by omega
  obtain ⟨hbw,sv0,hk0⟩ := h
  obtain ⟨f0,_,_,_⟩ := hk0.field
  have fl := hk0.lt
  have HK0 := hide hk0
  obtain ⟨uv0,hu0,hd0⟩ := hk0.vw
  have HU0 := hide hu0
  have HD0 := hide hd0
  have hl0 : s.lk.length ≤ 4000000000 := by have := hf.lk; omega
  have hfs := hf.saw (look.use e.name) (look.le e.name)
  have HBw := hide hbw
  clear hu0 hd0 hbw hk0 a0 a1 a2 a3 a4 ap ih hsh hw hfnd
  go_enter Tryz.func256,Tryz.ntmps256
  go_wp2_with fail
  go_cut [6] (fun s6 wx => ∃ ap : Option Addr,s6 = .pointer ap ∧ Hid (ap = none ∧ look.sig e.name = none ∨ ∃ ps r fb fo,look.sig e.name = some (ps,r) ∧ ap = some ⟨fb,fo,none⟩ ∧ fb < B ∧ SigAt B w0 fb fo ps r ∧ ps.length ≤ 100000) ∧ Hid (Knows B kb vb w1 (s.saw (look.use e.name)) wx))
  case first =>
    go_region_with (go_at_call 261; go_must (refine Calls.mono (HF.out e.name s.lk uv0 _ (by exact (HB.out.trans HBw.out).drew) (by exact HU0.out.drew) hl0) ?_; rintro e' w3 ⟨hfo,uv3,hm3,hu3⟩; have HM3 := hide (Moved.drew0 hm3); have HU3 := hide hu3; clear hm3 hu3; have hsh3 : ∃ q ap,e' = .returned (.tuple #[.string q,.pointer ap]) ∧ (ap = none ∧ look.sig e.name = none ∨ ∃ ps r fb fo,look.sig e.name = some (ps,r) ∧ ap = some ⟨fb,fo,none⟩ ∧ fb < B ∧ SigAt B w0 fb fo ps r ∧ ps.length ≤ 100000) := found_shape hfo; clear hfo; obtain ⟨q,ap,rfl,hap⟩ := hsh3; have HAp := hide hap; clear hap))
    all_goals
      (try go_wp2_with fail)
      go_meet
      exact ⟨ap,rfl,HAp.out,HBw.out.trans (HK0.out.found HU0.out HD0.out HM3.out HU3.out).1,_,(HK0.out.found HU0.out HD0.out HM3.out HU3.out).2⟩
  obtain ⟨ap,rfl,HAp,HKc⟩ := hcut
  have HV0 := hide (show ∀ v,callK look (tyN look m) e s = v ↔ (match look.sig e.name with | none => (0,allK (tyN look m) 0 e.parts ((s.saw (look.use e.name)).tell 3 e.place)) | some (ps,r) => (r,argsK (tyN look m) e.parts ps (if e.parts.length = ps.length then s.saw (look.use e.name) else (s.saw (look.use e.name)).tell 7 e.place))) = v from fun v => Iff.rfl)
  have hss : (s.saw (look.use e.name)).scope = s.scope := rfl
  generalize hsq : s.saw (look.use e.name) = sq at *
  clear hsq HU0 HD0 hl0
  clear f0 n0
  have c1 := (HKc.out.cell HB.out hb (o + 1)).trans HP.out
  have c4 := (HKc.out.cell HB.out hb (o + 4)).trans HA.out
  have z5 := HKc.out.size
  have y5 : b < wc.heap.size := by omega
  rcases HAp.out with ⟨rfl,hl⟩ | ⟨ps,r,fb,fo,hl,rfl,hfb,hsig,hps⟩
  · have HV := hide (show callK look (tyN look m) e s = (0,allK (tyN look m) 0 e.parts (sq.tell 3 e.place)) by rw [HV0.out,hl])
    go_wp2_with fail
    refine (tell_w HKc.out 3 e.place).mono ?_
    rintro e' w3 ⟨rfl,hk3⟩
    have d4 := (hk3.cell HB.out hb (o + 4)).trans HA.out
    have z3 := hk3.size
    have y3 : b < w3.heap.size := by omega
    have HK3 := hide hk3
    have hf3 : KFit (sq.tell 3 e.place) (szL (sz m) e.parts) := hfs.tell _ _
    clear hk3 c1 c4
    go_wp2_with fail
    refine (all_m HI.out _ e.parts _ w1 _ HSh.out HPv.out HK3.out HB.out hf3 hll 0).mono ?_
    rintro e' w4 ⟨rfl,hk4⟩
    have HK4 := hide hk4
    clear hk4
    go_wp2
    go_ret
    exact ⟨ret_int (by rw [HV.out]; rfl),by rw [HV.out]; exact HK4.out⟩
  obtain ⟨sg1,po2,pc2,sg2,sg3⟩ := hsig
  have HSg := hide sg3
  have HSg1 := hide sg1
  have HSg2 := hide sg2
  have HV := hide (show callK look (tyN look m) e s = (r,allK (tyN look m) 0 (e.parts.drop (min e.parts.length ps.length)) (musts (tyN look m) (e.parts.zip ps) (arity sq e.parts.length ps.length e.place))) by rw [HV0.out,hl]; simp [argsK_eq,arity])
  have d3 := (HKc.out.cell HB.out hfb (fo + 3)).trans sg2
  have yf : fb < wc.heap.size := by omega
  clear sg1 sg2 sg3 hl
  go_wp2_with fail
  have HMin := hide (show (e.parts.zip ps).length = min e.parts.length ps.length from List.length_zip)
  obtain ⟨fit,hfit⟩ : ∃ fit,min e.parts.length ps.length = fit := ⟨_,rfl⟩
  rw [hfit] at HV HMin
  have hfi1 : fit ≤ e.parts.length := by omega
  have hfi2 : fit ≤ ps.length := by omega
  have HFi := hide hfit
  rcases hne : ((e.parts.length : Int) != (ps.length : Int)) with _ | _
  · have heq : e.parts.length = ps.length := by simp at hne; omega
    have HAr := hide (show arity sq e.parts.length ps.length e.place = sq by simp [arity,heq])
    go_quiet (fail)
    have HKa := hide (show Knows B kb vb w1 (arity sq e.parts.length ps.length e.place) (wc.drewN nq) by rw [HAr.out]; exact ⟨HKc.out.1.trans ((drewN_below wc nq).mono z5),_,HKc.out.2.choose_spec.below (drewN_below wc nq)⟩)
    go_wp2_with fail
    generalize hwz : wc.drewN nq = wz at HKa ⊢
    clear hwz c1 c4 d3 hne heq HAr
    have c4 := (HKa.out.cell HB.out hb (o + 4)).trans HA.out
    have d3 := (HKa.out.cell HB.out hfb (fo + 3)).trans HSg2.out
    have z6 := HKa.out.size
    have y6 : b < wz.heap.size := by omega
    have x6 : fb < wz.heap.size := by omega
    have hf0 : KFit (arity sq e.parts.length ps.length e.place) (szL (sz m) e.parts) := by unfold arity; split; exact hfs; exact hfs.tell _ _
    generalize hs0 : arity sq e.parts.length ps.length e.place = s0 at *
    clear hs0 hfit
    go_cut [7] (fun s7 wx => s7 = .int .i64 fit ∧ wx = wz.drew)
    case first =>
      rcases Nat.lt_or_ge ps.length e.parts.length with hlt | hge
      · have q1 : (ps.length : Int) < (e.parts.length : Int) := by omega
        have q2 : ps.length = fit := by have := HFi.out; omega
        go_region
        all_goals
          (try go_wp2_with fail)
          go_meet
          exact ⟨by rw [← q2],rfl⟩
      · have q1 : ¬ (ps.length : Int) < (e.parts.length : Int) := by omega
        have q2 : e.parts.length = fit := by have := HFi.out; omega
        go_region
        all_goals
          (try go_wp2_with fail)
          go_meet
          exact ⟨by rw [← q2],rfl⟩
    case rest =>
      obtain ⟨rfl,rfl⟩ := hcut
      have HKb := hide (show Knows B kb vb w1 s0 wz.drew from ⟨HKa.out.1.drew,_,HKa.out.2.choose_spec.drew⟩)
      clear c4 d3
      go_wp2
      go_loopw [64] (fun i wr => ∃ j : Nat,j ≤ fit ∧ i = .int .i64 j ∧ Hid (Knows B kb vb w1 (musts (tyN look m) ((e.parts.zip ps).take j) s0) wr)) (fun i _ => fit - (intOf i).toNat)
      case atStart => exact ⟨0,Nat.zero_le _,rfl,by show Knows _ _ _ _ _ _; exact HKb.out⟩
      case round =>
        obtain ⟨j,hj,rfl,HKr⟩ := hrel
        have e4 := (HKr.out.cell HB.out hb (o + 4)).trans HA.out
        have e3 := (HKr.out.cell HB.out hfb (fo + 3)).trans HSg2.out
        have e5 := (HKr.out.cell HB.out hfb (fo + 4)).trans HSg1.out
        have z7 := HKr.out.size
        have y7 : b < wr.heap.size := by omega
        have x7 : fb < wr.heap.size := by omega
        by_cases hlt : j < fit
        · have hje : j < e.parts.length := by omega
          have hjp : j < ps.length := by omega
          obtain ⟨k,g,cap,hmk,hv,hSg',hgl,hgc,hch⟩ := partsN_atP HPN.out (by omega)
          simp only [Value.slice.injEq] at hv
          obtain ⟨rfl,_,rfl⟩ := hv
          obtain ⟨gb,rfl,hgb,hpc,hty⟩ := HSg.out (by omega)
          subst hmk
          have hgB := hS g hSg'
          have p1 := (HKr.out.cell HB.out hgb (j * 3 + 2)).trans (hty j hjp)
          have HC := hide (hch j hje)
          have hg7 : g < wr.heap.size := by omega
          have hgb7 : gb < wr.heap.size := by omega
          have hfj : KFit (musts (tyN look (k + 1)) ((e.parts.zip ps).take j) s0) (sz (k + 1) e.parts[j]) := (hf0.mono (szL_take (sz (k + 1)) e.parts j hje)).musts (by omega)
          have HTk := hide (show musts (tyN look (k + 1)) ((e.parts.zip ps).take (j + 1)) s0 = mustK (tyN look (k + 1)) ps[j] e.parts[j] (musts (tyN look (k + 1)) ((e.parts.zip ps).take j) s0) by
            rw [List.take_succ_eq_append_getElem (by rw [HMin.out]; exact hlt),musts_snoc,List.getElem_zip])
          have HS2 := hide (HSh.out e.parts[j] (List.getElem_mem hje))
          clear hty hch hgc
          go_wp2_with fail
          go_region_with (go_at_call 177; go_must (refine (must_any (HI.out k rfl) e.parts[j] g (j * 5) _ w1 _ HS2.out HC.out hgB (by exact knows_drew HKr.out) HB.out hfj ps[j]).mono ?_; rintro e' w8 ⟨rfl,hk8⟩; have HK8 := hide hk8; clear hk8))
          all_goals
            go_wp2
            go_roundw
            case rel => exact ⟨j + 1,by omega,by go_num,by show Knows _ _ _ _ _ _; rw [HTk.out]; exact HK8.out⟩
            case measure => simp [intOf]; omega
        · have hje : j = fit := by omega
          subst hje
          have HTk := hide (show (e.parts.zip ps).take j = e.parts.zip ps by rw [← HMin.out,List.take_length])
          have HKl := hide (show Knows B kb vb w1 (musts (tyN look m) (e.parts.zip ps) s0) wr by have := HKr.out; rw [HTk.out] at this; exact this)
          have hsd := szL_append (sz m) (e.parts.take j) (e.parts.drop j)
          rw [List.take_append_drop] at hsd
          have hfd : KFit (musts (tyN look m) (e.parts.zip ps) s0) (szL (sz m) (e.parts.drop j)) := by
            have := (hf0.mono (show szL (sz m) (e.parts.take j) + szL (sz m) (e.parts.drop j) ≤ _ by omega)).musts (look := look) (ps := ps) (by omega)
            rw [HTk.out] at this; exact this
          have hld : (e.parts.drop j).length ≤ 1000000 := by rw [List.length_drop]; omega
          clear hsd
          rcases Nat.lt_or_ge j e.parts.length with hjl | hjg
          · obtain ⟨k,g,cap,hmk,hv,hSg',hgl,hgc,hch⟩ := partsN_atP HPN.out (by omega)
            simp only [Value.slice.injEq] at hv
            obtain ⟨rfl,_,rfl⟩ := hv
            have hgB := hS g hSg'
            have hcj : ¬ pc = j := by omega
            have hg7 : g < wr.heap.size := by omega
            have HPd := hide (show PartsM m S w0 B (.slice (some ⟨g,j * 5,none⟩) (e.parts.length - j) (pc - j)) (e.parts.drop j) from Or.inr ⟨k,hmk,Or.inr ⟨g,j * 5,pc - j,by rw [List.length_drop],hgB,by rw [List.length_drop]; omega,fun i hi => by
              rw [List.length_drop] at hi
              have := hch (j + i) (by omega)
              rw [show (j + i) * 5 = j * 5 + i * 5 by omega] at this
              simpa [List.getElem_drop] using this⟩⟩)
            clear hch
            go_wp2_with fail
            refine (all_m HI.out _ (e.parts.drop j) _ w1 _ (fun x hx => HSh.out x (List.mem_of_mem_drop hx)) (by exact HPd.out) HKl.out HB.out hfd hld 0).mono ?_
            rintro e' w9 ⟨rfl,hk9⟩
            have i5 := (hk9.cell HB.out hfb (fo + 4)).trans HSg1.out
            have z9 := hk9.size
            have x9 : fb < w9.heap.size := by omega
            have HK9 := hide hk9
            clear hk9 e3 e4 e5
            go_wp2
            go_ret
            exact ⟨ret_int (by rw [HV.out]),by rw [HV.out]; exact HK9.out⟩
          · have hjl : j = e.parts.length := by omega
            have HDr := hide (show e.parts.drop j = [] by rw [hjl]; simp)
            rw [← hjl] at e4
            have hpc : j ≤ pc ∨ j = 0 := by
              rcases Nat.eq_zero_or_pos e.parts.length with h0 | hpos
              · right; omega
              · obtain ⟨k,g,cap,hmk,hv,hSg',hgl,hgc,hch⟩ := partsN_atP HPN.out hpos
                simp only [Value.slice.injEq] at hv
                left; omega
            clear hpc
            go_wp2_with fail
            all_goals
              refine (all_m HI.out _ (e.parts.drop j) _ w1 _ (fun x hx => HSh.out x (List.mem_of_mem_drop hx)) (by exact Or.inl ⟨HDr.out,_,_,rfl⟩) HKl.out HB.out hfd hld 0).mono ?_
              rintro e' w9 ⟨rfl,hk9⟩
              have i5 := (hk9.cell HB.out hfb (fo + 4)).trans HSg1.out
              have z9 := hk9.size
              have x9 : fb < w9.heap.size := by omega
              have HK9 := hide hk9
              clear hk9 e3 e4 e5
              go_wp2
              go_ret
              exact ⟨ret_int (by rw [HV.out]),by rw [HV.out]; exact HK9.out⟩
  have hnn : ¬ e.parts.length = ps.length := by simp at hne; omega
  have HAr := hide (show arity sq e.parts.length ps.length e.place = sq.tell 7 e.place by simp [arity,hnn])
  go_quiet (fail)
  have HKq := hide (show Knows B kb vb w1 sq (wc.drewN nq) from ⟨HKc.out.1.trans ((drewN_below wc nq).mono z5),_,HKc.out.2.choose_spec.below (drewN_below wc nq)⟩)
  go_wp2_with fail
  refine (tell_w HKq.out 7 e.place).mono ?_
  rintro e' wz ⟨rfl,hk3⟩
  have HKa := hide (show Knows B kb vb w1 (arity sq e.parts.length ps.length e.place) wz by rw [HAr.out]; exact hk3)
  clear hk3 c1 c4 d3 hne hnn HAr
  go_wp2_with fail
  have c4 := (HKa.out.cell HB.out hb (o + 4)).trans HA.out
  have d3 := (HKa.out.cell HB.out hfb (fo + 3)).trans HSg2.out
  have z6 := HKa.out.size
  have y6 : b < wz.heap.size := by omega
  have x6 : fb < wz.heap.size := by omega
  have hf0 : KFit (arity sq e.parts.length ps.length e.place) (szL (sz m) e.parts) := by unfold arity; split; exact hfs; exact hfs.tell _ _
  generalize hs0 : arity sq e.parts.length ps.length e.place = s0 at *
  clear hs0 hfit
  go_cut [7] (fun s7 wx => s7 = .int .i64 fit ∧ wx = wz.drew)
  case first =>
    rcases Nat.lt_or_ge ps.length e.parts.length with hlt | hge
    · have q1 : (ps.length : Int) < (e.parts.length : Int) := by omega
      have q2 : ps.length = fit := by have := HFi.out; omega
      go_region
      all_goals
        (try go_wp2_with fail)
        go_meet
        exact ⟨by rw [← q2],rfl⟩
    · have q1 : ¬ (ps.length : Int) < (e.parts.length : Int) := by omega
      have q2 : e.parts.length = fit := by have := HFi.out; omega
      go_region
      all_goals
        (try go_wp2_with fail)
        go_meet
        exact ⟨by rw [← q2],rfl⟩
  obtain ⟨rfl,rfl⟩ := hcut
  have HKb := hide (show Knows B kb vb w1 s0 wz.drew from ⟨HKa.out.1.drew,_,HKa.out.2.choose_spec.drew⟩)
  clear c4 d3
  go_wp2
  go_loopw [64] (fun i wr => ∃ j : Nat,j ≤ fit ∧ i = .int .i64 j ∧ Hid (Knows B kb vb w1 (musts (tyN look m) ((e.parts.zip ps).take j) s0) wr)) (fun i _ => fit - (intOf i).toNat)
  case atStart => exact ⟨0,Nat.zero_le _,rfl,by show Knows _ _ _ _ _ _; exact HKb.out⟩
  obtain ⟨j,hj,rfl,HKr⟩ := hrel
  have e4 := (HKr.out.cell HB.out hb (o + 4)).trans HA.out
  have e3 := (HKr.out.cell HB.out hfb (fo + 3)).trans HSg2.out
  have e5 := (HKr.out.cell HB.out hfb (fo + 4)).trans HSg1.out
  have z7 := HKr.out.size
  have y7 : b < wr.heap.size := by omega
  have x7 : fb < wr.heap.size := by omega
  by_cases hlt : j < fit
  · have hje : j < e.parts.length := by omega
    have hjp : j < ps.length := by omega
    obtain ⟨k,g,cap,hmk,hv,hSg',hgl,hgc,hch⟩ := partsN_atP HPN.out (by omega)
    simp only [Value.slice.injEq] at hv
    obtain ⟨rfl,_,rfl⟩ := hv
    obtain ⟨gb,rfl,hgb,hpc,hty⟩ := HSg.out (by omega)
    subst hmk
    have hgB := hS g hSg'
    have p1 := (HKr.out.cell HB.out hgb (j * 3 + 2)).trans (hty j hjp)
    have HC := hide (hch j hje)
    have hg7 : g < wr.heap.size := by omega
    have hgb7 : gb < wr.heap.size := by omega
    have hfj : KFit (musts (tyN look (k + 1)) ((e.parts.zip ps).take j) s0) (sz (k + 1) e.parts[j]) := (hf0.mono (szL_take (sz (k + 1)) e.parts j hje)).musts (by omega)
    have HTk := hide (show musts (tyN look (k + 1)) ((e.parts.zip ps).take (j + 1)) s0 = mustK (tyN look (k + 1)) ps[j] e.parts[j] (musts (tyN look (k + 1)) ((e.parts.zip ps).take j) s0) by
      rw [List.take_succ_eq_append_getElem (by rw [HMin.out]; exact hlt),musts_snoc,List.getElem_zip])
    have HS2 := hide (HSh.out e.parts[j] (List.getElem_mem hje))
    clear hty hch hgc
    go_wp2_with fail
    go_region_with (go_at_call 177; go_must (refine (must_any (HI.out k rfl) e.parts[j] g (j * 5) _ w1 _ HS2.out HC.out hgB (by exact knows_drew HKr.out) HB.out hfj ps[j]).mono ?_; rintro e' w8 ⟨rfl,hk8⟩; have HK8 := hide hk8; clear hk8))
    all_goals
      go_wp2
      go_roundw
      case rel => exact ⟨j + 1,by omega,by go_num,by show Knows _ _ _ _ _ _; rw [HTk.out]; exact HK8.out⟩
      case measure => simp [intOf]; omega
  have hje : j = fit := by omega
  subst hje
  have HTk := hide (show (e.parts.zip ps).take j = e.parts.zip ps by rw [← HMin.out,List.take_length])
  have HKl := hide (show Knows B kb vb w1 (musts (tyN look m) (e.parts.zip ps) s0) wr by have := HKr.out; rw [HTk.out] at this; exact this)
  have hsd := szL_append (sz m) (e.parts.take j) (e.parts.drop j)
  rw [List.take_append_drop] at hsd
  have hfd : KFit (musts (tyN look m) (e.parts.zip ps) s0) (szL (sz m) (e.parts.drop j)) := by
    have := (hf0.mono (show szL (sz m) (e.parts.take j) + szL (sz m) (e.parts.drop j) ≤ _ by omega)).musts (look := look) (ps := ps) (by omega)
    rw [HTk.out] at this; exact this
  have hld : (e.parts.drop j).length ≤ 1000000 := by rw [List.length_drop]; omega
  clear hsd
  rcases Nat.lt_or_ge j e.parts.length with hjl | hjg
  · obtain ⟨k,g,cap,hmk,hv,hSg',hgl,hgc,hch⟩ := partsN_atP HPN.out (by omega)
    simp only [Value.slice.injEq] at hv
    obtain ⟨rfl,_,rfl⟩ := hv
    have hgB := hS g hSg'
    have hcj : ¬ pc = j := by omega
    have hg7 : g < wr.heap.size := by omega
    have HPd := hide (show PartsM m S w0 B (.slice (some ⟨g,j * 5,none⟩) (e.parts.length - j) (pc - j)) (e.parts.drop j) from Or.inr ⟨k,hmk,Or.inr ⟨g,j * 5,pc - j,by rw [List.length_drop],hgB,by rw [List.length_drop]; omega,fun i hi => by
      rw [List.length_drop] at hi
      have := hch (j + i) (by omega)
      rw [show (j + i) * 5 = j * 5 + i * 5 by omega] at this
      simpa [List.getElem_drop] using this⟩⟩)
    clear hch
    go_wp2_with fail
    refine (all_m HI.out _ (e.parts.drop j) _ w1 _ (fun x hx => HSh.out x (List.mem_of_mem_drop hx)) (by exact HPd.out) HKl.out HB.out hfd hld 0).mono ?_
    rintro e' w9 ⟨rfl,hk9⟩
    have i5 := (hk9.cell HB.out hfb (fo + 4)).trans HSg1.out
    have z9 := hk9.size
    have x9 : fb < w9.heap.size := by omega
    have HK9 := hide hk9
    clear hk9 e3 e4 e5
    go_wp2
    go_ret
    exact ⟨ret_int (by rw [HV.out]),by rw [HV.out]; exact HK9.out⟩
  have hjl : j = e.parts.length := by omega
  have HDr := hide (show e.parts.drop j = [] by rw [hjl]; simp)
  rw [← hjl] at e4
  have hpc : j ≤ pc ∨ j = 0 := by
    rcases Nat.eq_zero_or_pos e.parts.length with h0 | hpos
    · right; omega
    · obtain ⟨k,g,cap,hmk,hv,hSg',hgl,hgc,hch⟩ := partsN_atP HPN.out hpos
      simp only [Value.slice.injEq] at hv
      left; omega
  clear hpc
  go_wp2_with fail
  all_goals
    refine (all_m HI.out _ (e.parts.drop j) _ w1 _ (fun x hx => HSh.out x (List.mem_of_mem_drop hx)) (by exact Or.inl ⟨HDr.out,_,_,rfl⟩) HKl.out HB.out hfd hld 0).mono ?_
    rintro e' w9 ⟨rfl,hk9⟩
    have i5 := (hk9.cell HB.out hfb (fo + 4)).trans HSg1.out
    have z9 := hk9.size
    have x9 : fb < w9.heap.size := by omega
    have HK9 := hide hk9
    clear hk9 e3 e4 e5
    go_wp2
    go_ret
    exact ⟨ret_int (by rw [HV.out]),by rw [HV.out]; exact HK9.out⟩
end Go.Proofs.YtpmmjkiclngpmaaGreatDoor
namespace Go.Proofs.YtpmmjkiclngpmaaGreatDoor
open Go.RowKit
theorem type_step (B : Nat) (w0 : World) (S : Nat → Prop) (hS : ∀ k,S k → k < B) (look : Look) (kb : Nat) (vb : VK) (hfnd : FindK B w0 vb look) (m : Nat)
    (ih : ∀ k,m = k + 1 → TypeC B w0 S look kb vb k) : TypeC B w0 S look kb vb m := by
  intro e b o s w1 w hsh hat hb h hw hf
  have hat' := hat
  obtain ⟨⟨pv,a0,a2,a3,a4,ap⟩,a1⟩ := hat
  obtain ⟨hk15,hk4,hk5,hk6,hk3,hpar⟩ := hsh
  have hsz : sz (m + 1) e = 1 + szL (sz m) e.parts := rfl
  rw [hsz] at hf
  have hpl := szL_len (sz m) e.parts (fun x _ => sz_pos m x)
  have c0 := (h.cell hw hb o).trans a0
  have c4 := (h.cell hw hb (o + 4)).trans a4
  have z0 := h.size
  have hbl : b < w.heap.size := by omega
  have hll : e.parts.length ≤ 1000000 := by have := hf.sc; omega
  have hfp : KFit s (szL (sz m) e.parts) := hf.mono (by omega)
  have hfs : s.scope.length ≤ 1000000 := by have := hf.sc; omega
  have HPv := hide (partsM_of hS ap)
  have HP := hide ap
  obtain ⟨po,pc,rfl⟩ := ap.none
  have HI := hide ih
  have HAt := hide hat'
  have HSh := hide hpar
  have HB := hide hw
  have HW := hide h
  have HF := hide hfnd
  clear ih hat' a0 a1 a2 a3 a4 hw h hfnd hpl hsz ap hpar hk3
  have hx : e.kind = 0 ∨ e.kind = 1 ∨ e.kind = 2 ∨ e.kind = 3 ∨ e.kind = 4 ∨ e.kind = 5 ∨ e.kind = 6 ∨ e.kind = 7 ∨ e.kind = 8 ∨ e.kind = 9 ∨ e.kind = 10 ∨ e.kind = 11 ∨ e.kind = 12 ∨ e.kind = 13 ∨ e.kind = 14 := by omega
  rcases hx with hk | hk | hk | hk | hk | hk | hk | hk | hk | hk | hk | hk | hk | hk | hk
  · have HG := hide (show tyN look (m + 1) e s = (1,allK (tyN look m) 1 e.parts s) by simp [tyN,hk])
    have hk' : w.cell? ⟨b,o,none⟩ = some (.int .i64 0) := by rw [c0,hk]; rfl
    clear c0
    go_enter Tryz.func218,Tryz.ntmps218
    go_wp2_with fail
    refine (all_m HI.out _ e.parts s w1 _ HSh.out HPv.out HW.out HB.out hfp hll 1).mono ?_
    rintro e' w3 ⟨rfl,hk3⟩
    have HK3 := hide hk3
    clear hk3
    go_wp2
    go_ret
    exact ⟨ret_int (by rw [HG.out]; rfl),by rw [HG.out]; exact HK3.out⟩
  · have HG := hide (show tyN look (m + 1) e s = (2,s) by simp [tyN,hk])
    have hk' : w.cell? ⟨b,o,none⟩ = some (.int .i64 1) := by rw [c0,hk]; rfl
    clear c0
    go_enter Tryz.func218,Tryz.ntmps218
    go_wp2
    go_ret
    exact ⟨ret_int (by rw [HG.out]; rfl),by rw [HG.out]; exact HW.out⟩
  · have HG := hide (show tyN look (m + 1) e s = varK e s by simp [tyN,hk])
    have hk' : w.cell? ⟨b,o,none⟩ = some (.int .i64 2) := by rw [c0,hk]; rfl
    clear c0
    go_enter Tryz.func218,Tryz.ntmps218
    go_wp2_with fail
    refine (variable_any e b o s w1 _ HAt.out hb HW.out HB.out hfs).mono ?_
    rintro e' w3 ⟨rfl,hk3⟩
    have HK3 := hide hk3
    clear hk3
    go_wp2
    go_ret
    exact ⟨ret_int (by rw [HG.out]),by rw [HG.out]; exact HK3.out⟩
  · have HG := hide (show tyN look (m + 1) e s = callK look (tyN look m) e s by simp [tyN,hk])
    have hk' : w.cell? ⟨b,o,none⟩ = some (.int .i64 3) := by rw [c0,hk]; rfl
    clear c0
    go_enter Tryz.func218,Tryz.ntmps218
    go_wp2_with fail
    refine (callType_any hS HI.out HF.out e b o s w1 _ HSh.out HAt.out hb HW.out HB.out hf).mono ?_
    rintro e' w3 ⟨rfl,hk3⟩
    have HK3 := hide hk3
    clear hk3
    go_wp2
    go_ret
    exact ⟨ret_int (by rw [HG.out]),by rw [HG.out]; exact HK3.out⟩
  · obtain ⟨pa,hpa⟩ : ∃ pa,e.parts = [pa] := List.length_eq_one_iff.1 (hk4 hk)
    have HG := hide (show tyN look (m + 1) e s = tyN look m pa s by simp [tyN,hk,hpa])
    have hk' : w.cell? ⟨b,o,none⟩ = some (.int .i64 4) := by rw [c0,hk]; rfl
    clear c0
    obtain ⟨k,g,cap,hmk,hv,hSg,hgl,hgc,hch⟩ := partsN_atP HP.out (by rw [hpa]; simp)
    simp only [Value.slice.injEq] at hv
    obtain ⟨rfl,_,rfl⟩ := hv
    subst hmk
    have hgB := hS g hSg
    have HCa := hide (show ExP k S w0 g 0 pa by have := hch 0 (by rw [hpa]; simp); simpa [hpa] using this)
    have HSa := hide (HSh.out pa (by simp [hpa]))
    have hfa : KFit s (sz (k + 1) pa) := by rw [hpa] at hf; exact hf.mono (by simp only [szL,List.foldr_cons,List.foldr_nil]; omega)
    have hgl2 : g < w.heap.size := by omega
    rw [hpa] at c4
    have c4' : w.cell? ⟨b,o + 4,none⟩ = some (.slice (some ⟨g,0,none⟩) 1 pc) := c4
    clear c4 hch hgc
    go_enter Tryz.func218,Tryz.ntmps218
    go_wp2_with fail
    refine (HI.out k rfl pa g 0 s w1 _ HSa.out HCa.out hgB HW.out HB.out hfa).mono ?_
    rintro e' w3 ⟨rfl,hk3⟩
    have HK3 := hide hk3
    clear hk3
    go_wp2
    go_ret
    exact ⟨ret_int (by rw [HG.out]),by rw [HG.out]; exact HK3.out⟩
  · obtain ⟨pa,pb,pc',hpa⟩ : ∃ pa pb pc,e.parts = [pa,pb,pc] := len3 (hk5 hk)
    have HG := hide (show tyN look (m + 1) e s = ifK (tyN look m) pa pb pc' s by simp [tyN,hk,hpa])
    have hk' : w.cell? ⟨b,o,none⟩ = some (.int .i64 5) := by rw [c0,hk]; rfl
    have HPa := hide hpa
    clear c0 hpa
    go_enter Tryz.func218,Tryz.ntmps218
    go_wp2_with fail
    refine (if_any hS HI.out e b o s w1 _ pa pb pc' HPa.out HSh.out HAt.out hb HW.out HB.out hf).mono ?_
    rintro e' w3 ⟨rfl,hk3⟩
    have HK3 := hide hk3
    clear hk3
    go_wp2
    go_ret
    exact ⟨ret_int (by rw [HG.out]),by rw [HG.out]; exact HK3.out⟩
  · obtain ⟨pa,pb,hpa⟩ : ∃ pa pb,e.parts = [pa,pb] := len2 (hk6 hk)
    have HG := hide (show tyN look (m + 1) e s = letK (tyN look m) e.name pa pb s by simp [tyN,hk,hpa])
    have hk' : w.cell? ⟨b,o,none⟩ = some (.int .i64 6) := by rw [c0,hk]; rfl
    have HPa := hide hpa
    clear c0 hpa
    go_enter Tryz.func218,Tryz.ntmps218
    go_wp2_with fail
    refine (let_any hS HI.out e b o s w1 _ pa pb HPa.out HSh.out HAt.out hb HW.out HB.out hf).mono ?_
    rintro e' w3 ⟨rfl,hk3⟩
    have HK3 := hide hk3
    clear hk3
    go_wp2
    go_ret
    exact ⟨ret_int (by rw [HG.out]),by rw [HG.out]; exact HK3.out⟩
  · have HG := hide (show tyN look (m + 1) e s = (2,allK (tyN look m) 1 e.parts s) by simp [tyN,hk])
    have hk' : w.cell? ⟨b,o,none⟩ = some (.int .i64 7) := by rw [c0,hk]; rfl
    clear c0
    go_enter Tryz.func218,Tryz.ntmps218
    go_wp2_with fail
    refine (all_m HI.out _ e.parts s w1 _ HSh.out HPv.out HW.out HB.out hfp hll 1).mono ?_
    rintro e' w3 ⟨rfl,hk3⟩
    have HK3 := hide hk3
    clear hk3
    go_wp2
    go_ret
    exact ⟨ret_int (by rw [HG.out]; rfl),by rw [HG.out]; exact HK3.out⟩
  · have HG := hide (show tyN look (m + 1) e s = (2,allK (tyN look m) 1 e.parts s) by simp [tyN,hk])
    have hk' : w.cell? ⟨b,o,none⟩ = some (.int .i64 8) := by rw [c0,hk]; rfl
    clear c0
    go_enter Tryz.func218,Tryz.ntmps218
    go_wp2_with fail
    refine (all_m HI.out _ e.parts s w1 _ HSh.out HPv.out HW.out HB.out hfp hll 1).mono ?_
    rintro e' w3 ⟨rfl,hk3⟩
    have HK3 := hide hk3
    clear hk3
    go_wp2
    go_ret
    exact ⟨ret_int (by rw [HG.out]; rfl),by rw [HG.out]; exact HK3.out⟩
  · have HG := hide (show tyN look (m + 1) e s = (1,allK (tyN look m) 1 e.parts s) by simp [tyN,hk])
    have hk' : w.cell? ⟨b,o,none⟩ = some (.int .i64 9) := by rw [c0,hk]; rfl
    clear c0
    go_enter Tryz.func218,Tryz.ntmps218
    go_wp2_with fail
    refine (all_m HI.out _ e.parts s w1 _ HSh.out HPv.out HW.out HB.out hfp hll 1).mono ?_
    rintro e' w3 ⟨rfl,hk3⟩
    have HK3 := hide hk3
    clear hk3
    go_wp2
    go_ret
    exact ⟨ret_int (by rw [HG.out]; rfl),by rw [HG.out]; exact HK3.out⟩
  · have HG := hide (show tyN look (m + 1) e s = (1,allK (tyN look m) 1 e.parts s) by simp [tyN,hk])
    have hk' : w.cell? ⟨b,o,none⟩ = some (.int .i64 10) := by rw [c0,hk]; rfl
    clear c0
    go_enter Tryz.func218,Tryz.ntmps218
    go_wp2_with fail
    refine (all_m HI.out _ e.parts s w1 _ HSh.out HPv.out HW.out HB.out hfp hll 1).mono ?_
    rintro e' w3 ⟨rfl,hk3⟩
    have HK3 := hide hk3
    clear hk3
    go_wp2
    go_ret
    exact ⟨ret_int (by rw [HG.out]; rfl),by rw [HG.out]; exact HK3.out⟩
  · have HG := hide (show tyN look (m + 1) e s = (1,allK (tyN look m) 1 e.parts s) by simp [tyN,hk])
    have hk' : w.cell? ⟨b,o,none⟩ = some (.int .i64 11) := by rw [c0,hk]; rfl
    clear c0
    go_enter Tryz.func218,Tryz.ntmps218
    go_wp2_with fail
    refine (all_m HI.out _ e.parts s w1 _ HSh.out HPv.out HW.out HB.out hfp hll 1).mono ?_
    rintro e' w3 ⟨rfl,hk3⟩
    have HK3 := hide hk3
    clear hk3
    go_wp2
    go_ret
    exact ⟨ret_int (by rw [HG.out]; rfl),by rw [HG.out]; exact HK3.out⟩
  · have HG := hide (show tyN look (m + 1) e s = (1,allK (tyN look m) 1 e.parts s) by simp [tyN,hk])
    have hk' : w.cell? ⟨b,o,none⟩ = some (.int .i64 12) := by rw [c0,hk]; rfl
    clear c0
    go_enter Tryz.func218,Tryz.ntmps218
    go_wp2_with fail
    refine (all_m HI.out _ e.parts s w1 _ HSh.out HPv.out HW.out HB.out hfp hll 1).mono ?_
    rintro e' w3 ⟨rfl,hk3⟩
    have HK3 := hide hk3
    clear hk3
    go_wp2
    go_ret
    exact ⟨ret_int (by rw [HG.out]; rfl),by rw [HG.out]; exact HK3.out⟩
  · have HG := hide (show tyN look (m + 1) e s = (1,allK (tyN look m) 1 e.parts s) by simp [tyN,hk])
    have hk' : w.cell? ⟨b,o,none⟩ = some (.int .i64 13) := by rw [c0,hk]; rfl
    clear c0
    go_enter Tryz.func218,Tryz.ntmps218
    go_wp2_with fail
    refine (all_m HI.out _ e.parts s w1 _ HSh.out HPv.out HW.out HB.out hfp hll 1).mono ?_
    rintro e' w3 ⟨rfl,hk3⟩
    have HK3 := hide hk3
    clear hk3
    go_wp2
    go_ret
    exact ⟨ret_int (by rw [HG.out]; rfl),by rw [HG.out]; exact HK3.out⟩
  have HG := hide (show tyN look (m + 1) e s = (2,allK (tyN look m) 2 e.parts s) by simp [tyN,hk])
  have hk' : w.cell? ⟨b,o,none⟩ = some (.int .i64 14) := by rw [c0,hk]; rfl
  clear c0
  go_enter Tryz.func218,Tryz.ntmps218
  go_wp2_with fail
  refine (all_m HI.out _ e.parts s w1 _ HSh.out HPv.out HW.out HB.out hfp hll 2).mono ?_
  rintro e' w3 ⟨rfl,hk3⟩
  have HK3 := hide hk3
  clear hk3
  go_wp2
  go_ret
  exact ⟨ret_int (by rw [HG.out]; rfl),by rw [HG.out]; exact HK3.out⟩
theorem type_all (B : Nat) (w0 : World) (S : Nat → Prop) (hS : ∀ k,S k → k < B) (look : Look) (kb : Nat) (vb : VK) (hfnd : FindK B w0 vb look) : ∀ m,TypeC B w0 S look kb vb m := by
  intro m
  induction m with
  | zero => exact type_step B w0 S hS look kb vb hfnd 0 (fun k hk => by omega)
  | succ m ih => exact type_step B w0 S hS look kb vb hfnd (m + 1) (fun k hk => by
      have e : m = k := (by omega)
      exact e ▸ ih)
end Go.Proofs.YtpmmjkiclngpmaaGreatDoor
