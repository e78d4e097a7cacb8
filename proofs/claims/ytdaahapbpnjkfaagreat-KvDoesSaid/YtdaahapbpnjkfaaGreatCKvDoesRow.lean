/-
The statement KvDoes, closed: on a disk of any image, any calls are answered as the document says, and the disk keeps just what it says. Proved of every argument that the row reads; condition: the row's own (lengths fit the memory).
-/
import Derived.Test.YtdaahapbpnjkfaaGreatCKvDoes
import Derived.Test.YtdaahapbpnjkfaaGreatCKvOpenOps
import Derived.Test.YtdaahapbpnjkfaaGreatCPlainTab
namespace Go.Proofs.YtdaahapbpnjkfaaGreat.kvDoes
open Go.ChangeShapes Go.WideShapes Go.ChangeAt Go.RowKit
theorem reads_kvDoes:∀ t ∈ Tryz.f3.params.toList,Tryz.prog.readableRec t=true/\t<Tryz.prog.types.size:=by
 have key:(Tryz.f3.params.toList.all fun t=>Tryz.prog.readableRec t&&decide (t<Tryz.prog.types.size))=true:=by kernel_rfl
 intro t ht
 have:=List.all_eq_true.1 key t ht
 simpa using this
set_option maxRecDepth 100000 in
theorem contract (H:Type) (enc:TypeId × Value->H) (W:World) (base:Nat) (args:Array Value) (ds gs:List (DataW H)) (before:List MemPlace)
 (hval:∀ (j:Nat) t v,Tryz.f3.params[j]? =some t->args[j]? =some v->Value.okWide Tryz.prog W .any base t v)
 (hW:DataW.Whole enc Tryz.prog Tryz.f3.params.toList Rows.kvDoesSpec.vars false W args.toList ds gs before)
 (hz:(DataW.weightsEach Tryz.prog (Tryz.f3.params.toList++((OpenSpec.ofChange Rows.kvDoesSpec).bare.plain.varTypes Tryz.prog)) (ds++gs)).all (· <=reachBytes)=true)
 (_:laidMetH Tryz.prog Rows.kvDoesRow.laid W):
 Calls Tryz.prog 3 args W fun e W'=>∃ v,e= .returned v/\Rows.kvDoesSpec.post enc Tryz.prog Tryz.f3 false true false false W args v W':=by
 have hW':=hW
 obtain ⟨p,q,hA0,hV,rfl,_,_⟩:=hW
 have hA:DataW.TrodAll enc Tryz.prog W 0 (fun _=>true) true Tryz.f3.params.toList args.toList ds p:=hA0
 rw [Tryz.params3] at hA hval hz
 obtain ⟨v0,vs0,d0,ds0,p0,q0,hargs,rfl,rfl,h0,r0⟩:=trodAll_cons hA
 obtain ⟨v1,vs1,d1,ds1,p1,q1,rfl,rfl,rfl,h1,r1⟩:=trodAll_cons r0
 obtain ⟨rfl,rfl,rfl⟩:=trodAll_nil r1
 obtain rfl:args= #[v0,v1]:=by cases args;simp_all
 obtain ⟨rfl,rfl⟩:=trodVars_none hV
 obtain ⟨A0,l0,c0,rfl,s0,k0⟩:=open_bytes Tryz.underlying22 Tryz.underlying5 cells8 (hval 0 22 v0 rfl rfl) h0
 have b0:l0.length<=140737488351232:=bytes_reach (j:=0) hz rfl rfl Tryz.underlying22 bytes8 k0
 obtain ⟨A1,l1,c1,rfl,s1,b1⟩:=open_kops (hval 1 23 v1 rfl rfl) h1
 refine (kvDoes_walk A0 l0 c0 A1 l1 c1 W b0 s0 b1 s1).mono fun e W' ⟨he,hb⟩=> ?_
 subst he
 exact ⟨_,rfl,law_post rfl (by kernel_rfl) Tryz.underlying4 laidOut reads_kvDoes hW' rfl hb⟩
theorem laid_met (os:Os):laidMet Tryz.prog Rows.kvDoesRow.laid ((laidWorld os).forCall (fun _ _=>0) ⟨#[], #[.slice none 0 0,.slice none 0 0],[]⟩).memory:=
 laidMet_of_run' 8 (by kernel_rfl) (by kernel_rfl)
theorem reads (os:Os) {H:Type} (enc:TypeId × Value->H):∃ places,DataW.whole enc Tryz.prog ((laidWorld os).forCall (fun _ _=>0) ⟨#[], #[.slice none 0 0,.slice none 0 0],[]⟩).memory Tryz.f3.params.toList Rows.kvDoesSpec.vars false #[.slice none 0 0,.slice none 0 0].toList 8=some ([.nil,.nil],[],places):=
 ⟨[],by kernel_rfl⟩
set_option maxRecDepth 100000 in
theorem lifted (os:Os) (started:os.Started) (H:Type) (enc:TypeId × Value->H) (F:Stop.Interp):
 ReturnsInHanded {} Tryz.checked os 3 .any ((OpenSpec.ofChange Rows.kvDoesSpec).preRow enc Tryz.prog Tryz.f3 Rows.kvDoesRow.domain false Rows.kvDoesRow.laid) (((OpenSpec.ofChange Rows.kvDoesSpec).at F).post enc Tryz.prog Tryz.f3 false true false false):=by
 obtain ⟨places,hx⟩:=reads os enc
 refine returnsInHanded_of_row (C:=Tryz.checked) (s:=OpenSpec.ofChange Rows.kvDoesSpec) own started (by kernel_rfl) Tryz.func3
  (witness_row_at (enc:=enc) (C:=Tryz.checked) false (laidWorld os) #[.slice none 0 0,.slice none 0 0] rfl (by kernel_rfl) (by kernel_rfl) (by kernel_rfl)
   (OpenSpec.preRow_of_cond 8 hx (by kernel_rfl) (fun k hk=>by cases hk) (by kernel_rfl) (laid_met os))) ?_
 intro W base args ds gs before hval hW _ _ hz hL _ _
 exact contract H enc W base args ds gs before hval hW hz hL
theorem said:Rows.KvDoesSaid:=
 OpenClaim.holds_of_cond 3 Tryz.f3 rfl rfl rfl rfl rfl rfl rfl ⟨rfl,rfl,rfl,rfl,rfl⟩ rfl rfl rfl rfl rfl (by kernel_rfl) Tryz.func3 (by kernel_rfl)
  (of_decide_eq_true (by kernel_rfl)) (by unfold Func.isWrapper;first | (rw [if_pos (by decide +kernel)];kernel_rfl) | (rw [if_neg (by decide +kernel)];exact ⟨rfl,rfl⟩))
  (fun os started H enc _ F=>by rw [OpenClaim.pre_eq_preRow];exact lifted os started H enc F)
end Go.Proofs.YtdaahapbpnjkfaaGreat.kvDoes
