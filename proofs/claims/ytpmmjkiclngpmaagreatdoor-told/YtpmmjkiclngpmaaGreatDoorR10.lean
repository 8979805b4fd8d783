/- Told: for every script of calls the call returns true, and the script reads as before: the statement's card (told_card). No condition. -/
import Derived.Test.YtpmmjkiclngpmaaGreatDoorCards
import Derived.Test.YtpmmjkiclngpmaaGreatDoorTie
import Derived.Test.YtpmmjkiclngpmaaGreatDoorR09
import Derived.Deep.DeepWitnessRowRef
set_option maxRecDepth 100000
set_option linter.unusedSimpArgs false
set_option linter.unusedVariables false
set_option maxHeartbeats 12800000
namespace Go.Proofs.YtpmmjkiclngpmaaGreatDoor
open Go.ChangeShapes Go.WideShapes Go.ChangeAt Go.RowKit
theorem AX(H:Type)(enc:TypeId×Value->H)(W:World)(base:Nat)(args:Array Value)(ds gs:List (DataW H))(before:List MemPlace)(hval:∀(j:Nat) t v,Tryz.f3.params[j]?=some t->args[j]?=some v->Value.okWide Tryz.prog W .any base t v)(hW:DataW.Whole enc Tryz.prog Tryz.f3.params.toList Rows.toldSpec.vars false W args.toList ds gs before)(hsz:(DataW.weightsEach Tryz.prog (Tryz.f3.params.toList++(OpenSpec.ofChange Rows.toldSpec).bare.plain.varTypes Tryz.prog) (ds++gs)).all (· <=reachBytes)=true):
  Calls Tryz.prog 3 args W λe W'=>∃v,e=.returned v/\Rows.toldSpec.post enc Tryz.prog Tryz.f3 false true false false W args v W':=by
 have X9:=hW;obtain⟨p,q,hA0,hV,rfl,hfz,hnd⟩:=hW;have hA:DataW.TrodAll enc Tryz.prog W 0 (λ_=>true) true Tryz.f3.params.toList args.toList ds p:=hA0;rw [Tryz.params3]at hA hval hsz;obtain⟨v0,vs0,d0,ds0,p0,q0,Q1,rfl,rfl,h0,r0⟩:=trodAll_cons hA;obtain⟨rfl,rfl,rfl⟩:=trodAll_nil r0
 obtain rfl:args=#[v0]:=by cases args;simp_all
 obtain⟨rfl,rfl⟩:=trodVars_none hV;obtain⟨a0,len,cap,rfl⟩:=okWide_slice Tryz.underlying22 (hval 0 22 v0 rfl rfl);have h0k:=h0;obtain⟨fuel,hf⟩:=h0;obtain⟨b,off,zs,rfl,hs,ha⟩:=Q4 (by simpa [Value.cells]using hf) (by simpa using hsz);simp only [List.append_nil]at X9
 have hlt:∀x∈p0,x.block<W.heap.size:=λx hx=>X9.lt x hx
 refine(Q0 W a0 b off cap zs hs ha).mono λe W' ⟨he,hg⟩=> ?_
 subst he;refine⟨_,rfl,IW (pa:=p0) (pv:= []) X9 hg (by simp) (λ_ _ _=>trodAll_cons_mk (shut_bool Tryz.underlying4 _) trodAll_mk0) (λsp hsp=> ?_) (λ_ _=>rfl) (ok_one (by kernel_rfl) rfl (okWide_bool_mk Tryz.underlying4 _))⟩;have t1:=trodAll_cons_mk (WideElems.Trod_stays (sp':=sp) (by kernel_rfl) (by kernel_rfl) (of_decide_eq_true (by kernel_rfl)) h0k (λx hx=>hg.same (hlt x hx)) (λx hx=>hsp x hx)) trodAll_mk0;simp only [List.append_nil]at t1;exact t1
theorem Mr(os:Os):laidMet Tryz.prog Rows.toldRow.laid (({World.holding Tryz.prog os ⟨#[.cells #[.string ⟨#[118,97,108,117,101,32,111,117,116,32,111,102,32,114,97,110,103,101]⟩] 413,.cells #[.string ⟨#[105,110,118,97,108,105,100,32,115,121,110,116,97,120]⟩] 413],#[],[]⟩with heap:=(((((World.holding Tryz.prog os ⟨#[.cells #[.string ⟨#[118,97,108,117,101,32,111,117,116,32,111,102,32,114,97,110,103,101]⟩] 413,.cells #[.string ⟨#[105,110,118,97,108,105,100,32,115,121,110,116,97,120]⟩] 413],#[],[]⟩).heap.modify 0 (jx XE)).modify 1 (jx Q2)).modify 2 (jx Q3)).modify 4 (jx #[.iface 411 (.pointer (some ⟨12,0,none⟩))])).modify 5 (jx #[.iface 411 (.pointer (some ⟨11,0,none⟩))])}:World).forCall (λ_ _=>0) ⟨#[],#[.slice none 0 0],[]⟩).memory:=
 laidMet_of_run' 8 (by kernel_rfl) (by kernel_rfl)
theorem IZ(os:Os){H:Type}(enc:TypeId×Value->H):∃places,DataW.whole enc Tryz.prog (({World.holding Tryz.prog os ⟨#[.cells #[.string ⟨#[118,97,108,117,101,32,111,117,116,32,111,102,32,114,97,110,103,101]⟩] 413,.cells #[.string ⟨#[105,110,118,97,108,105,100,32,115,121,110,116,97,120]⟩] 413],#[],[]⟩with heap:=(((((World.holding Tryz.prog os ⟨#[.cells #[.string ⟨#[118,97,108,117,101,32,111,117,116,32,111,102,32,114,97,110,103,101]⟩] 413,.cells #[.string ⟨#[105,110,118,97,108,105,100,32,115,121,110,116,97,120]⟩] 413],#[],[]⟩).heap.modify 0 (jx XE)).modify 1 (jx Q2)).modify 2 (jx Q3)).modify 4 (jx #[.iface 411 (.pointer (some ⟨12,0,none⟩))])).modify 5 (jx #[.iface 411 (.pointer (some ⟨11,0,none⟩))])}:World).forCall (λ_ _=>0) ⟨#[],#[.slice none 0 0],[]⟩).memory Tryz.f3.params.toList Rows.toldSpec.vars false #[Value.slice none 0 0].toList 8=some ([.nil],[],places):=
 ⟨[],by kernel_rfl⟩
theorem Gh(os:Os)(started:os.Started)(H:Type)(enc:TypeId×Value->H)(F:Stop.Interp):
  ReturnsInHanded {} Tryz.checked os 3 .any ((OpenSpec.ofChange Rows.toldSpec).preRow enc Tryz.prog Tryz.f3 Rows.toldRow.domain false Rows.toldRow.laid) (((OpenSpec.ofChange Rows.toldSpec).at F).post enc Tryz.prog Tryz.f3 false true false false):=by
 obtain⟨places,hx⟩:=IZ os enc
 refine returnsInHanded_of_row (C:=Tryz.checked) (s:=OpenSpec.ofChange Rows.toldSpec) acP started (by kernel_rfl) Tryz.func3
  (witness_row_at (enc:=enc) (C:=Tryz.checked) false ({World.holding Tryz.prog os ⟨#[.cells #[.string ⟨#[118,97,108,117,101,32,111,117,116,32,111,102,32,114,97,110,103,101]⟩] 413,.cells #[.string ⟨#[105,110,118,97,108,105,100,32,115,121,110,116,97,120]⟩] 413],#[],[]⟩with heap:=(((((World.holding Tryz.prog os ⟨#[.cells #[.string ⟨#[118,97,108,117,101,32,111,117,116,32,111,102,32,114,97,110,103,101]⟩] 413,.cells #[.string ⟨#[105,110,118,97,108,105,100,32,115,121,110,116,97,120]⟩] 413],#[],[]⟩).heap.modify 0 (jx XE)).modify 1 (jx Q2)).modify 2 (jx Q3)).modify 4 (jx #[.iface 411 (.pointer (some ⟨12,0,none⟩))])).modify 5 (jx #[.iface 411 (.pointer (some ⟨11,0,none⟩))])}:World) #[.slice none 0 0] rfl (by kernel_rfl) (by kernel_rfl) (by kernel_rfl)
   (OpenSpec.preRow_of_cond 8 hx (by kernel_rfl) (λk hk=>by cases hk) (by kernel_rfl) (Mr os))) ?_
 intro W base args ds gs before hval hW _ _ hsz hL _ _;exact AX H enc W base args ds gs before hval hW hsz
theorem Ms:Rows.ToldSaid:=
 OpenClaim.holds_of_cond 3 Tryz.f3 rfl rfl rfl rfl rfl rfl rfl ⟨rfl,rfl,rfl,rfl,rfl⟩ rfl rfl rfl rfl rfl (by kernel_rfl) Tryz.func3 Gg
  (of_decide_eq_true (by kernel_rfl)) (by unfold Func.isWrapper;first|(rw [if_pos (by decide+kernel)];kernel_rfl)|(rw [if_neg (by decide+kernel)];exact⟨rfl,rfl⟩))
  (λos started H enc _ F=>by rw [OpenClaim.pre_eq_preRow];exact Gh os started H enc F)
theorem told_plain(f : FuncId)(fn : Func)(hf : Tryz.pinned.checked.prog.funcNamed "symcut/symcutlaw.Told" = some f)(hfn : Tryz.pinned.checked.prog.funcs[f]? = some fn):
  true=Tryz.pinned.checked.prog.looks []/\∀(j:Nat) t,fn.params[j]?=some t->Tryz.pinned.checked.prog.wantsStandIn t=false:=by
 obtain rfl : f = 3 := Option.some.inj ((show Tryz.prog.funcNamed "symcut/symcutlaw.Told" = some 3 by kernel_rfl).symm.trans hf) |>.symm
 obtain rfl:fn=Tryz.f3:=(Option.some.inj (Tryz.func3.symm.trans hfn)).symm;refine⟨by kernel_rfl,λj t ht=> ?_⟩;rw [Tryz.params3]at ht
 obtain rfl:t=22:=by simpa using Array.mem_of_getElem? ht
 exact(show Tryz.prog.wantsStandIn 22=false by kernel_rfl)
theorem told_card:Rows.ToldCardSaid:=
 Claim7.holds_tied_plain_at .later [] _ _ _ _ Ms (λ_ h=>by cases h) (by kernel_rfl) (λ_ h=>by cases h) told_row_tie rfl ⟨rfl,rfl⟩ (by kernel_rfl) rfl told_plain (by kernel_rfl)
end Go.Proofs.YtpmmjkiclngpmaaGreatDoor
