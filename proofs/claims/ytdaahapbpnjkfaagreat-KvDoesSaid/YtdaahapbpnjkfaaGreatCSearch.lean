/-
sort.Search over this program: what it answers where the closure says 'from m on'. Conditions: n below 2^62; the closure leaves what was there.
-/
import Derived.Test.YtdaahapbpnjkfaaGreatCTrSmall
import Derived.Maps.AppendAt
import Derived.OwnWalk
import Derived.Laws.Slices
import Derived.Test.YtdaahapbpnjkfaaGreatChecked
import Derived.Test.YtdaahapbpnjkfaaGreatCOnly
import Derived.WalkSpells
import Derived.Lib.SliceRun
import Derived.Deep.LoopGhost
import Derived.Outline
import Derived.Deep.RegionHeldLaw
import Derived.Deep.RegionHeld3
import Derived.Test.YtdaahapbpnjkfaaGreatCFEnc
import Derived.Laws.Entries
import Derived.Test.YtdaahapbpnjkfaaGreatCGet
import Derived.Shelf.Abstract
namespace Go.Proofs.YtdaahapbpnjkfaaGreat
open Go.RowKit
structure RowTy (P:Program) (t e:TypeId) (s b:Nat) (i:TypeInfo) (z:Value):Prop where
 ht:P.underlying t=some (.slice e)
 elem:P.elem t=e
 hi:P.info? e=some i
 hz:i.zero=some z
 hs:i.size=s
 hb:i.bytes=b
 zs:z.cells.size=s
 pos:0<s
section
variable {P:Program} {t e:TypeId} {s b:Nat} {i:TypeInfo} {z:Value}
theorem RowTy.head (R:RowTy P t e s b i z) (A:Option Addr) (n c m:Nat) (hm:m<=c) (W:World):(Instr.slice t (.slice A n c) none (some (.int .i64 (m:Int))) none).run P W= .ok (.slice A m c) W:=by
 rw [run_slice_h W t A n c (by rw [R.ht,R.elem]) .i64 (m:Int) (by omega) (by omega),R.elem]
 simp [sizeOf,typeInfo,R.hi,sliced]
 intro _
 cases A with
 | none=>rfl
 | some a=>
  show some (a.add 0)=some a
  rw [Addr.add_zero']
theorem RowTy.tail (R:RowTy P t e s b i z) (A:Option Addr) (n c m:Nat) (hm:m<=n) (W:World):(Instr.slice t (.slice A n c) (some (.int .i64 (m:Int))) none none).run P W= .ok (.slice (if c=m then A else A.map (·.add (m*s))) (n-m) (c-m)) W:=by
 rw [run_slice_l W t A n c (by rw [R.ht,R.elem]) .i64 (m:Int) (by omega) (by omega),R.elem]
 simp [sizeOf,typeInfo,R.hi,R.hs,sliced]
theorem run_append_room_nil (R:RowTy P t e s b i z) (u ty:TypeId) (hu:P.underlying u=some (.int .i64)) (w:World) (m:Nat) (hm:0<m) (hb:m*b<=140737488355328) (hm2:m<=1000000):
 ∃ cap w',(Builtin.append_ #[t,u] ty #[.slice none 0 0,.int .i64 (m:Int)]).run P w= .ok (.slice (some ⟨w.heap.size,0,none⟩) m cap) w'/\w'.ownsRow w.heap.size e s (.slice (some ⟨w.heap.size,0,none⟩) 0 cap) 0 []/\Below w.heap.size w w'/\m<=cap:=by
 have hs:=R.hs
 have hby:=R.hb
 subst hs hby
 have wm:IntKind.i64.wrap (m:Int)=(m:Int):=by rw [IntKind.wrap_i64];omega
 have m0: ¬ ((m:Int)<0):=by omega
 have hm':m≠0:=by omega
 have mb: ¬ (281474976710656<(m:Int)*(i.bytes:Int)):=by
  have:(m:Int)*(i.bytes:Int)=((m*i.bytes:Nat):Int):=by simp
  rw [this];omega
 have hms:m*i.size≠0:=by have:=R.pos;exact Nat.mul_ne_zero hm' (by omega)
 have h63': ¬ (9223372036854775807<(m:Int)):=by omega
 have h48': ¬ (281474976710656<Builtin.nextslicecap m 0*i.bytes):=by rw [nextslicecap_zero hm];omega
 have hge:=grownCap_ge w m 0 e
 have hcm:grownCap w m 0 e<=maxLen:=grownCap_le_maxLen w m 0 e (by unfold maxLen;omega)
 refine ⟨grownCap w m 0 e,w.drew.alloc (.cells (Builtin.zeroCells z.cells m++Builtin.zeroCells z.cells (grownCap w m 0 e-m)) e),?_,⟨by simp,.inr ⟨w.heap.size,_,_,rfl,Nat.le_refl _,heap_alloc_new w.drew _,Nat.zero_le _,hcm,?_,by simp⟩⟩,⟨rfl,rfl,rfl,by simp,fun k hk=>heap_alloc_old w.drew _ hk⟩,hge⟩
 · simp [Builtin.append_,run_underlying R.ht,run_underlying hu,sizeOf,typeInfo,zeroValue,R.hi,R.hz,asInt,asIntOf,wm,m0,mb,hm',h63',h48',Question.forced,run_firstCells_none,newRow,grownCap]
   intro h;exact absurd h hms
 · simp only [Array.size_append,size_zeroCells,R.zs,<-Nat.add_mul]
   congr 1
   omega
theorem wpList_append_room (R:RowTy P t e s b i z) {w:World} {ops:Array Oper} {rest:List Oper} {o:Oper} {a:Act} {Q:Exit->Act->World->Prop} (hgd:o.guard=none) (sx x:Operand) (u:TypeId)
 (ho:o.op= .call { callee:= .builtin .append,args:= #[sx,x],argTypes:= #[t,u] }) (hu:P.underlying u=some (.int .i64)) (m:Nat) (hs:a.eval sx= .slice none 0 0) (hx:a.eval x= .int .i64 (m:Int)) (hm:0<m) (hb:m*b<=140737488355328) (hm2:m<=1000000)
 (h:∀ cap w',w'.ownsRow w.heap.size e s (.slice (some ⟨w.heap.size,0,none⟩) 0 cap) 0 []->Below w.heap.size w w'->m<=cap->wpList P ops Q rest (a.put o.dst (.slice (some ⟨w.heap.size,0,none⟩) m cap)) w'):wpList P ops Q (o::rest) a w:=by
 refine wpList_plain hgd fun K hK=> ?_
 obtain ⟨cap,w',hrun,h2,h3,h4⟩:=run_append_room_nil R u o.type hu w m hm hb hm2
 unfold Oper.wp execOp
 simp only [ho,resolve,invoke,builtin,Sem.run_bind,Sem.run_pure,Result.andThen_ok,List.map_toArray,List.map_cons,List.map_nil,hs,hx,hrun]
 exact hK _ _ (h cap w' h2 h3 h4)
theorem run_append_cells (R:RowTy P t e s b i z) (ty:TypeId) (w:World) (F:Nat->Prop) (base:Nat) (v:Value) (n:Nat) (xs:List Value) (hown:w.ownsRow base e s v n xs)
 (A:Option Addr) (C:List Value) (m c:Nat) (hC:C.length=m*s) (hr:Cells w F A C) (h1:∀ u ∈ C,u.oneCell'=true) (hb:(n+m)*b<=140737488355328) (hm:n+m<=1000000) (hbase:base<=w.heap.size):
 ∃ v' w',(Builtin.append_ #[t,t] ty #[v,.slice A m c]).run P w= .ok v' w'/\w'.ownsRow base e s v' (n+m) (xs++C)/\w.grownBy w' v.ownBlock:=by
 rcases A with _ | ad
 · obtain rfl:C=[]:=by
    rcases hr with h | ⟨_,_,h,_⟩
    · exact h
    · cases h
   obtain rfl:m=0:=by
    rcases Nat.eq_zero_or_pos m with h | h
    · exact h
    · have:=Nat.mul_pos h R.pos
      have hC':0=m*s:=hC
      omega
   refine ⟨v,w,?_,by simpa using hown,World.grownBy.refl w _⟩
   have:=R.hs
   exact run_append_nought w base t ty e i s R.ht R.hi v n xs hown c
 · obtain ⟨v',w',hrun,h2,h3,_,_⟩:=run_append_own_at (P:=P) w base t ty e i z s b R.ht R.hi R.hz R.hs R.hb R.zs R.pos v n xs hown ad m c C hC (by
    intro j u hu
    obtain ⟨hj,hju⟩:=List.getElem?_eq_some_iff.1 hu
    obtain ⟨bl,off,ha,_,_,hc⟩:=hr.at_ j hj
    injection ha with ha
    subst ha
    rw [add_plain,hc j hj,hju]) h1 (by unfold maxLen;omega) hb hbase
   exact ⟨v',w',hrun,h2,h3⟩
theorem wpList_append_cells (R:RowTy P t e s b i z) {w:World} {ops:Array Oper} {rest:List Oper} {o:Oper} {a:Act} {Q:Exit->Act->World->Prop} (hgd:o.guard=none) (sx x:Operand)
 (ho:o.op= .call { callee:= .builtin .append,args:= #[sx,x],argTypes:= #[t,t] }) (F:Nat->Prop) (base:Nat) (v:Value) (n:Nat) (xs:List Value) (hs:a.eval sx=v) (hown:w.ownsRow base e s v n xs)
 (A:Option Addr) (C:List Value) (m c:Nat) (hx:a.eval x= .slice A m c) (hC:C.length=m*s) (hr:Cells w F A C) (h1:∀ u ∈ C,u.oneCell'=true) (hb:(n+m)*b<=140737488355328) (hm:n+m<=1000000) (hbase:base<=w.heap.size)
 (h:∀ v' w',w'.ownsRow base e s v' (n+m) (xs++C)->w.grownBy w' v.ownBlock->wpList P ops Q rest (a.put o.dst v') w'):wpList P ops Q (o::rest) a w:=by
 refine wpList_plain hgd fun K hK=> ?_
 obtain ⟨v',w',hrun,h2,h3⟩:=run_append_cells R o.type w F base v n xs hown A C m c hC hr h1 hb hm hbase
 unfold Oper.wp execOp
 simp only [ho,resolve,invoke,builtin,Sem.run_bind,Sem.run_pure,Result.andThen_ok,List.map_toArray,List.map_cons,List.map_nil,hs,hx,hrun]
 exact hK _ _ (h v' w' h2 h3)
theorem own_cells {w:World} {base n c:Nat} {A:Option Addr} {xs:List Value} (h:w.ownsRow base e s (.slice A n c) n xs):Cells w (fun k=>k<base) A xs/\n<=c:=by
 rcases h.2 with ⟨hv,h0⟩ | ⟨g,cap,cur,hv,hbg,hg,hnc,hcm,hcs,htake⟩
 · injection hv with _ h2 h3
   refine ⟨.inl (List.eq_nil_of_length_eq_zero ?_),by omega⟩
   rw [h.1,h0,Nat.zero_mul]
 · injection hv with hA _ hc
   subst hA hc
   refine ⟨.inr ⟨g,0,rfl,(h.lt g rfl).2,by omega,fun j hj=> ?_⟩,hnc⟩
   have:=h.cells (g:=g) rfl j xs[j] (List.getElem?_eq_getElem hj)
   rw [add_plain] at this
   exact this
theorem own_shape {w:World} {base n:Nat} {v:Value} {xs:List Value} (h:w.ownsRow base e s v n xs):∃ A c,v= .slice A n c:=by
 rcases h.2 with ⟨rfl,h0⟩ | ⟨g,cap,cur,rfl,_⟩
 · exact ⟨none,0,by rw [h0]⟩
 · exact ⟨_,_,rfl⟩
end
theorem ecells_one:(h:Nat)->(x:El h)->∀ u ∈ ecells h x,u.oneCell'=true
 | 0,_=>fun u hu=>by
  rcases List.mem_cons.1 hu with rfl | hu
  · rfl
  · rw [List.mem_singleton.1 hu];rfl
 | 1,_=>fun u hu=>by
  rcases List.mem_cons.1 hu with rfl | hu
  · rfl
  · rcases List.mem_cons.1 hu with rfl | hu
    · rfl
    · rw [List.mem_singleton.1 hu];rfl
 | _+2,_=>fun u hu=>by
  rcases List.mem_cons.1 hu with rfl | hu
  · rfl
  · rcases List.mem_cons.1 hu with rfl | hu
    · rfl
    · rw [List.mem_singleton.1 hu];rfl
theorem rowCells_one (h:Nat) (l:List (El h)):∀ u ∈ rowCells h l,u.oneCell'=true:=by
 intro u hu
 unfold rowCells at hu
 obtain ⟨r,hr,hu⟩:=List.mem_flatten.1 hu
 obtain ⟨x,_,rfl⟩:=List.mem_map.1 hr
 exact ecells_one h x u hu
abbrev RowV:=Option Addr × Nat × Nat × List Value
def rvVal (r:RowV):Value:= .slice r.1 r.2.1 r.2.2.1
def tot (rs:List RowV):Nat:=(rs.map fun r=>r.2.1).sum
def cat (rs:List RowV):List Value:=(rs.map fun r=>r.2.2.2).flatten
def RvOk (w:World) (F:Nat->Prop) (s:Nat) (r:RowV):Prop:=Cells w F r.1 r.2.2.2/\r.2.2.2.length=r.2.1*s/\∀ u ∈ r.2.2.2,u.oneCell'=true
theorem tot_step {rs:List RowV} {k:Nat} (hk:k<rs.length):tot (rs.take (k+1))=tot (rs.take k)+rs[k].2.1:=by
 unfold tot;rw [List.take_succ_eq_append_getElem hk,List.map_append,List.sum_append];simp only [List.map_cons,List.map_nil,List.sum_cons,List.sum_nil];omega
theorem cat_step {rs:List RowV} {k:Nat} (hk:k<rs.length):cat (rs.take (k+1))=cat (rs.take k)++rs[k].2.2.2:=by
 unfold cat;rw [List.take_succ_eq_append_getElem hk,List.map_append,List.flatten_append];simp only [List.map_cons,List.map_nil,List.flatten_cons,List.flatten_nil,List.append_nil]
theorem tot_take (rs:List RowV) (k:Nat):tot (rs.take k)<=tot rs:=by
 unfold tot
 conv=>rhs;rw [<-List.take_append_drop k rs]
 rw [List.map_append,List.sum_append]
 exact Nat.le_add_right _ _
theorem RvOk.below {w w':World} {F:Nat->Prop} {s:Nat} {r:RowV} (h:RvOk w F s r) (hb:Below w.heap.size w w'):RvOk w' F s r:=⟨h.1.below hb,h.2⟩
theorem cells_new (w:World) (F:Nat->Prop) (C:List Value) (t:TypeId) (hF: ¬ F w.heap.size):Cells (w.alloc (.cells C.toArray t)) F (some ⟨w.heap.size,0,none⟩) C:=
 .inr ⟨w.heap.size,0,rfl,by simp,hF,fun j hj=>by rw [Nat.zero_add];exact (Blk.new w C t).cell hj⟩
theorem rowCells_two (h:Nat) (x y:El h):rowCells h [x,y]=ecells h x++ecells h y:=by simp [rowCells]
theorem rowCells_single (h:Nat) (x:El h):rowCells h [x]=ecells h x:=by simp [rowCells]
theorem rowP:∃ i z,RowTy Tryz.prog 63 123 2 48 i z:=by
 have hf:(Tryz.prog.info? 123).map (fun i=>(i.zero,i.size,i.bytes))=some (some (.agg #[.slice none 0 0,.slice none 0 0]),2,48):=by kernel_rfl
 obtain ⟨i,hi,hz,hs,hb⟩:=info_parts hf
 exact ⟨i,_,Tryz.underlying63,by kernel_rfl,hi,hz,hs,hb,rfl,by decide⟩
set_option maxHeartbeats 400000 in
theorem growP_any (w:World) (m:Nat) (hm:m<=1000000):
 Calls Tryz.prog 165 #[.slice none 0 0,.int .i64 (m:Int)] w fun e w'=>(∃ A c,e= .returned (.slice A 0 c)/\w'.ownsRow w.heap.size 123 2 (.slice A 0 c) 0 [])/\Below w.heap.size w w':=by
 obtain ⟨i0,z0,R⟩:=rowP
 by_cases h0:m=0
 · subst h0
   go_enter Tryz.func165,Tryz.ntmps165
   go_wp2
   go_ret
   exact ⟨⟨none,0,rfl,World.ownsRow_nil _ _ _ _⟩,Below.refl _ _⟩
 · have hp:0<m:=by omega
   have hpi:(0:Int)<(m:Int):=by omega
   have hcut:∀ (A:Option Addr) (n c:Nat) (W:World),(Instr.slice 63 (.slice A n c) none (some (.int .i64 0)) none).run Tryz.prog W= .ok (.slice A 0 c) W:=fun A n c W=>R.head A n c 0 (Nat.zero_le _) W
   have HR:=Lib.hid R
   clear R h0
   go_enter Tryz.func165,Tryz.ntmps165
   go_wp2_with (refine wpList_append_room HR.out rfl (.tmp 20) (.tmp 21) 3 rfl Tryz.underlying3 m rfl rfl hp (by omega) hm ?_)
   intro cap w1 hown hb1 hcap
   have HOWN:=Lib.hid hown
   have HB:=Lib.hid hb1
   clear hown hb1 hcap
   go_wp2_with fail
   go_ret
   exact ⟨⟨_,_,rfl,HOWN.out⟩,HB.out⟩
set_option maxHeartbeats 1000000 in
set_option maxRecDepth 100000 in
theorem concatP_any (w:World) (F:Nat->Prop) (B off d dc:Nat) (rs:List RowV) (hd:rs.length=d) (hdm:d<=1000) (hB:B<w.heap.size) (hc:∀ j (hj:j<rs.length),w.cell? ⟨B,off+j,none⟩=some (rvVal rs[j])) (hok:∀ r ∈ rs,RvOk w F 2 r) (ht:tot rs<=1000000):
 Calls Tryz.prog 146 #[.slice (some ⟨B,off,none⟩) d dc] w fun e w'=>(∃ A c,e= .returned (.slice A (tot rs) c)/\w'.ownsRow w.heap.size 123 2 (.slice A (tot rs) c) (tot rs) (cat rs))/\Below w.heap.size w w':=by
 obtain ⟨i0,z0,R⟩:=rowP
 have HR:=Lib.hid R
 have HD:=Lib.hid hd
 have HC:Hid (∀ W,Below w.heap.size w W->∀ k (hk:k<rs.length),W.cell? ⟨B,off+k,none⟩=some (.slice rs[k].1 rs[k].2.1 rs[k].2.2.1)):=fun W hW k hk=>(hW.cell (p:=⟨B,off+k,none⟩) hB).trans (hc k hk)
 have HOK:=Lib.hid hok
 have HT0:Hid (tot (rs.take 0)=0):=rfl
 have HTD:Hid (tot (rs.take d)=tot rs/\cat (rs.take d)=cat rs):=by rw [<-hd,List.take_length];exact ⟨rfl,rfl⟩
 have HTT:=Lib.hid (tot_take rs)
 have HTS:Hid (∀ k (hk:k<rs.length),tot (rs.take (k+1))=tot (rs.take k)+rs[k].2.1):=fun k hk=>tot_step hk
 clear hd hc hok R
 go_enter Tryz.func146,Tryz.ntmps146
 go_wp2_with fail
 go_loopg [3,11] d (fun kx s3 s11 wr=>∃ k,k+kx=d/\s11= .int .i64 k/\s3= .int .i64 (tot (rs.take k):Nat)/\w=wr)
 case atStart=>exact ⟨0,by omega,rfl,by rw [HT0.out];rfl,rfl⟩
 case round=>
  obtain ⟨k,hk,rfl,rfl,rfl⟩:=hrel
  have hTk:=HTT.out k
  by_cases hlt:k<d
  · have hkl:(k:Int)<(d:Int):=by omega
    have hkr:k<rs.length:=by rw [HD.out];exact hlt
    have c1:=HC.out w (Below.refl _ _) k hkr
    have hs:=HTS.out k hkr
    have hT2:=HTT.out (k+1)
    obtain ⟨x,hx⟩:∃ x,x=rs[k].2.1:=⟨_,rfl⟩
    rw [<-hx] at c1 hs
    generalize rs[k].1=A1 at *
    generalize rs[k].2.2.1=c2 at *
    clear hx
    obtain ⟨T,hT⟩:∃ T,T=tot (rs.take k):=⟨_,rfl⟩
    obtain ⟨T2,hT2'⟩:∃ T2,T2=tot (rs.take (k+1)):=⟨_,rfl⟩
    rw [<-hT] at hTk hs ⊢
    rw [<-hT2'] at hT2 hs
    have HS:=Lib.hid hs
    have HT2:=Lib.hid hT2'
    have hle:T+x<=1000000:=by omega
    clear hs hT hT2'
    go_wp2_with fail
    go_roundg (d-(k+1))
    case measure=>omega
    case rel=>exact ⟨k+1,by omega,by go_num,by rw [<-HT2.out,HS.out];go_num,rfl⟩
  · obtain rfl:k=d:=by omega
    have hkl: ¬ (k:Int)<(k:Int):=by omega
    rw [HTD.out.1]
    obtain ⟨T,hT⟩:∃ T,T=tot rs:=⟨_,rfl⟩
    rw [<-hT] at ht hTk ⊢
    have HT:=Lib.hid hT
    clear hT
    go_wp2_with fail
    refine (growP_any _ T ht).mono ?_
    rintro e w2 ⟨⟨A,c,rfl,hown⟩,hb⟩
    have HOWN:=Lib.hid hown
    have HB:=Lib.hid hb
    clear hown hb
    go_wp2_with fail
    have HCT0:Hid (cat (rs.take 0)=[]):=rfl
    go_loopg [6,27] k (fun kx s6 s27 wr=>∃ j,j+kx=k/\s27= .int .i64 j/\wr.ownsRow w.heap.size 123 2 s6 (tot (rs.take j)) (cat (rs.take j))/\Below w.heap.size w wr)
    case atStart=>exact ⟨0,by omega,rfl,by rw [HT0.out,HCT0.out];exact HOWN.out,HB.out⟩
    case round=>
     obtain ⟨j,hj,rfl,hown,hb⟩:=hrel
     have HOW:=Lib.hid hown
     have HBW:=Lib.hid hb
     have hTj:=HTT.out j
     clear hown hb HOWN HB hkl
     by_cases hlt2:j<k
     · have hkl:(j:Int)<(k:Int):=by omega
       have hkr:j<rs.length:=by rw [HD.out];exact hlt2
       have c1:=HC.out wr HBW.out j hkr
       have HS:=Lib.hid (HTS.out j hkr)
       have HCS:Hid (cat (rs.take (j+1))=cat (rs.take j)++rs[j].2.2.2):=cat_step hkr
       have hT2:=HTT.out (j+1)
       have HRV:=Lib.hid ((HOK.out _ (List.getElem_mem hkr)).below HBW.out)
       have hle:tot (rs.take j)+rs[j].2.1<=1000000:=by have:=HS.out;have:=HT.out;omega
       obtain ⟨form6,hform⟩:∃ q:Option Addr × Nat,u6= .slice q.1 (tot (rs.take j)) q.2:=by
        obtain ⟨A,c,e⟩:=own_shape HOW.out
        exact ⟨(A,c),e⟩
       subst hform
       clear hT2 hTj
       go_wp2_with (refine wpList_append_cells HR.out rfl (.tmp 31) (.tmp 32) rfl F w.heap.size _ _ _ rfl HOW.out rs[j].1 rs[j].2.2.2 rs[j].2.1 rs[j].2.2.1 rfl HRV.out.2.1 HRV.out.1 HRV.out.2.2 (by omega) hle HBW.out.size ?_)
       intro v' w1 hown' hg
       have HO1:Hid (w1.ownsRow w.heap.size 123 2 v' (tot (rs.take (j+1))) (cat (rs.take (j+1)))):=by
        show World.ownsRow _ _ _ _ _ _ _
        rw [HS.out,HCS.out];exact hown'
       have HB1:Hid (Below w.heap.size w w1):=below_grown HBW.out HBW.out.size HOW.out hg
       clear hown' hg
       go_wp2_with fail
       go_roundg (k-(j+1))
       case measure=>omega
       case rel=>exact ⟨j+1,by omega,by go_num,HO1.out,HB1.out⟩
     · obtain rfl:j=k:=by omega
       have hkl: ¬ (j:Int)<(j:Int):=by omega
       have HO:Hid (wr.ownsRow w.heap.size 123 2 u6 T (cat rs)):=by
        have:=HOW.out
        rw [HTD.out.1,HTD.out.2,<-HT.out] at this
        exact this
       obtain ⟨A,c,rfl⟩:=own_shape HO.out
       clear HOW
       go_wp2_with fail
       go_ret
       exact ⟨⟨A,c,by rw [<-HT.out];rfl,by rw [<-HT.out];exact HO.out⟩,HBW.out⟩
set_option maxHeartbeats 400000 in
theorem cloneP_any (w:World) (F:Nat->Prop) (ad:Addr) (C:List Value) (n c:Nat) (hC:C.length=n*2) (hr:Cells w F (some ad) C) (h1:∀ u ∈ C,u.oneCell'=true) (hn:n<=1000000):
 Calls Tryz.prog 151 #[.slice (some ad) n c] w fun e w'=>(∃ A c,e= .returned (.slice A n c)/\w'.ownsRow w.heap.size 123 2 (.slice A n c) n C)/\Below w.heap.size w w':=by
 obtain ⟨i0,z0,R⟩:=rowP
 have HR:=Lib.hid R
 have HB:Hid (Below w.heap.size w (w.alloc (.cells #[] 123))):=(Below.refl _ _).alloc (Nat.le_refl _) _
 have HOWN:Hid ((w.alloc (.cells #[] 123)).ownsRow w.heap.size 123 2 (.slice (some ⟨w.heap.size,0,none⟩) 0 0) 0 []):=
  ⟨by simp,.inr ⟨w.heap.size,0, #[],rfl,Nat.le_refl _,heap_alloc_new w _,Nat.le_refl _,by unfold maxLen;omega,by simp,by simp⟩⟩
 have HC:=Lib.hid (hr.below HB.out)
 have hnil:∀ (W:World) (A:Option Addr) (n c:Nat),(binOp .eql 63 (.slice A n c) (.slice none 0 0)).run Tryz.prog W= .ok (.bool A.isNone) W:=fun W A n c=>Lib.run_eql_slice_nil (P:=Tryz.prog) W 63 123 A n c 0 0 Tryz.underlying63
 clear R hr
 go_enter Tryz.func151,Tryz.ntmps151
 go_wp2_with (refine wpList_append_cells HR.out rfl (.tmp 5) (.tmp 6) rfl F w.heap.size _ _ _ rfl HOWN.out (some ad) C n c rfl hC HC.out h1 (by omega) (by omega) (by simp) ?_)
 intro v' w1 hown hg
 have HB1:Hid (Below w.heap.size w w1):=below_grown HB.out (by simp) HOWN.out hg
 obtain ⟨A,c',rfl⟩:=own_shape hown
 have HO:=Lib.hid hown
 clear hown hg
 go_wp2_with fail
 go_ret
 exact ⟨⟨A,c',rfl,HO.out⟩,HB1.out⟩
theorem joinP (W:World) (F:Nat->Prop) (hF:∀ b,F b->b<W.heap.size) (B d dc:Nat) (ls:List (Option Addr × List (El 0) × Nat)) (N:Nat) (hd:ls.length=d) (hdm:d<=1000) (hB:B<W.heap.size)
 (hc:∀ j (hj:j<ls.length),W.cell? ⟨B,0+j,none⟩=some (.slice ls[j].1 ls[j].2.1.length ls[j].2.2)) (hok:∀ r ∈ ls,Cells W F r.1 (rowCells 0 r.2.1)) (hN:((ls.map fun r=>r.2.1).flatten).length=N) (hm:N<=1000000):
 Calls Tryz.prog 146 #[.slice (some ⟨B,0,none⟩) d dc] W fun e w'=>(∃ A c,e= .returned (.slice A N c)/\Cells w' F A (rowCells 0 (ls.map fun r=>r.2.1).flatten)/\N<=c)/\Below W.heap.size W w':=by
 have e1:tot (ls.map fun r=>((r.1,r.2.1.length,r.2.2,rowCells 0 r.2.1):RowV))=N:=by
  rw [<-hN,List.length_flatten,List.map_map]
  unfold tot
  rw [List.map_map]
  rfl
 have e2:cat (ls.map fun r=>((r.1,r.2.1.length,r.2.2,rowCells 0 r.2.1):RowV))=rowCells 0 (ls.map fun r=>r.2.1).flatten:=by
  unfold cat
  rw [List.map_map]
  clear hN e1 hok hc hd
  induction ls with
  | nil=>rfl
  | cons r ls ih=>
   rw [List.map_cons,List.flatten_cons,List.map_cons,List.flatten_cons,rowCells_append,ih]
   rfl
 have:=concatP_any W F B 0 d dc (ls.map fun r=>((r.1,r.2.1.length,r.2.2,rowCells 0 r.2.1):RowV)) (by rw [List.length_map];exact hd) hdm hB (fun j hj=>by
  rw [List.length_map] at hj
  rw [hc j hj,List.getElem_map]
  rfl) (fun r hr=>by
  obtain ⟨q,hq,rfl⟩:=List.mem_map.1 hr
  exact ⟨hok q hq,rowCells_length 0 q.2.1,rowCells_one 0 q.2.1⟩) (by rw [e1];exact hm)
 rw [e1,e2] at this
 refine this.mono ?_
 rintro e w' ⟨⟨A,c,rfl,hown⟩,hb⟩
 obtain ⟨h2,h3⟩:=own_cells hown
 exact ⟨⟨A,c,rfl,h2.moved (.refl _ _) (fun i hi=> .inl (hF i hi)),h3⟩,hb⟩
theorem info8t:(Tryz.prog.info? 5).map (fun i=>(i.zero,i.size,i.bytes))=some (some (.int .u8 0),1,1):=by kernel_rfl
theorem size8t:(Tryz.prog.info? 5).map (·.size)=some 1:=by kernel_rfl
theorem make_bytes (n:Nat) (hn:n<=1000000000) (w:World):(Instr.makeSlice 22 (.int .i64 (n:Int)) (.int .i64 (n:Int))).run Tryz.prog w= .ok (.slice (some ⟨w.heap.size,0,none⟩) n n) (w.alloc (.cells (madeCells #[.int .u8 0] n) 5)):=by
 obtain ⟨i0,hi,hz0,hz1,hz2⟩:=info_parts info8t
 have:=run_make (P:=Tryz.prog) w 22 5 i0 (.int .u8 0) Tryz.underlying22 hi hz0 .i64 .i64 (n:Int) (n:Int) (by omega) (by omega) (by rw [hz2];omega) (by omega)
 rw [hz1,Nat.mul_one] at this
 simpa [Value.cells] using this
theorem below_grownT {W w w':World} {g:Nat} (h:Below W.heap.size W w) (hg:w.grownBy w' (some g)) (hle:W.heap.size<=g):Below W.heap.size W w':=
 ⟨hg.os.trans h.os,hg.tape.trans h.tape,hg.output.trans h.output,Nat.le_trans h.size hg.size,fun k hk=>(hg.block k (Nat.lt_of_lt_of_le hk h.size) (fun e=>by injection e with e;omega)).trans (h.block k hk)⟩
def NewPiece (w w':World) (l:List UInt8) (q:Piece):Prop:=q.2.1=l/\PieceIn w' (fun b=>b<w.heap.size) q
set_option maxHeartbeats 400000 in
theorem copied_any (w:World) (A:Option Addr) (l:List UInt8) (n c:Nat) (hl:l.length=n) (hn:n<=1000000000) (hs:Seen w A l):
 Calls Tryz.prog 101 #[.slice A n c] w fun e w'=>(∃ q:Piece,e= .returned (pv q)/\NewPiece w w' l q)/\Below w.heap.size w w':=by
 have hmk:=make_bytes n hn w
 have HL:=Lib.hid hl
 have HS:=Lib.hid (hs.below ((Below.refl _ _).alloc (Nat.le_refl _) (.cells (madeCells #[.int .u8 0] n) 5)))
 have HB:Hid (Blk (w.alloc (.cells (madeCells #[.int .u8 0] n) 5)) w.heap.size (madeCells #[.int .u8 0] n).toList 5):=by
  have:=Blk.new w (madeCells #[.int .u8 0] n).toList 5
  rw [Array.toArray_toList] at this
  exact this
 have HBB:Hid (Below w.heap.size w (w.alloc (.cells (madeCells #[.int .u8 0] n) 5))):=(Below.refl _ _).alloc (Nat.le_refl _) _
 have HML:Hid ((madeCells #[.int .u8 0] n).toList.length=n):=by show _=_;rw [Array.length_toList,size_madeCells]
 have HSZ:Hid ((w.alloc (.cells (madeCells #[.int .u8 0] n) 5)).heap.size=w.heap.size+1):=by show _=_;simp
 clear hl hs
 obtain ⟨w2,hw2⟩:∃ w2,w2=w.alloc (.cells (madeCells #[.int .u8 0] n) 5):=⟨_,rfl⟩
 rw [<-hw2] at hmk HS HB HBB HSZ
 clear hw2
 generalize (madeCells #[.int .u8 0] n).toList=cur at *
 by_cases h0:n=0
 · subst h0
   have HE:Hid (l=[]):=List.eq_nil_of_length_eq_zero HL.out
   change (Instr.makeSlice 22 (.int .i64 0) (.int .i64 0)).run Tryz.prog w=_ at hmk
   go_enter Tryz.func101,Tryz.ntmps101
   go_wp2_with (refine wpList_copy_nothing rfl (.tmp 7) (.tmp 8) 22 22 rfl 5 Tryz.underlying22 size8t (some ⟨w.heap.size,0,none⟩) A 0 0 0 c rfl rfl rfl ?_)
   go_ret
   exact ⟨⟨(some ⟨w.heap.size,0,none⟩,[],0),rfl,HE.out.symm,.inl rfl,Nat.le_refl _,Nat.zero_le _⟩,HBB.out⟩
 · have hp:0<n:=by omega
   go_enter Tryz.func101,Tryz.ntmps101
   go_wp2_with (refine wpList_copy_into rfl (.tmp 7) (.tmp 8) 22 rfl 5 Tryz.underlying22 size8t w.heap.size 0 n n A l n c (by rfl) (by rfl) HL.out cur 5 HB.out HS.out hp n (by simp) (by rw [HML.out];omega) ?_)
   intro w3 hb3 hg3
   have HBK:Hid (Blk w3 w.heap.size (l.map bv) 5):=by
    have:=hb3.out
    have e:splice cur 0 (List.take n (l.map bv))=l.map bv:=by
     have e0:List.take n (l.map bv)=l.map bv:=List.take_of_length_le (by rw [List.length_map,HL.out];exact Nat.le_refl _)
     unfold splice
     rw [e0,List.drop_eq_nil_of_le (by rw [HML.out,List.length_map,HL.out];omega),List.append_nil]
     rfl
    rw [e] at this
    exact this
   have HB3:Hid (Below w.heap.size w w3):=below_grownT HBB.out hg3.out (Nat.le_refl _)
   clear hb3 hg3
   go_wp2_with fail
   go_ret
   refine ⟨⟨(some ⟨w.heap.size,0,none⟩,l,n),by rw [<-HL.out];rfl,rfl,.inr ⟨w.heap.size,0,rfl,HBK.out.lt,Nat.lt_irrefl _,fun j hj=> ?_,_,_,HBK.out⟩,by rw [HL.out];exact Nat.le_refl _,by rw [HL.out];exact hn⟩,HB3.out⟩
   rw [Nat.zero_add,HBK.out.cell (by simpa using hj),List.getElem_map]
   rfl
theorem PieceIn.mono {w:World} {F G:Nat->Prop} {q:Piece} (h:PieceIn w F q) (hG:∀ b,G b->F b):PieceIn w G q:=h.moved (.refl w F) (fun i hi=> .inl (hG i hi))
theorem EOk.mono {w:World} {F G:Nat->Prop} {h:Nat} {x:El h} (hx:EOk w F h x) (hG:∀ b,G b->F b):EOk w G h x:=EOk.moved (.refl w F) (fun i hi=> .inl (hG i hi)) h x hx
def mkPair (a b:Piece):El 0:=((a,b):Piece × Piece)
set_option maxHeartbeats 1000000 in
theorem own_any (w:World) (A B:Option Addr) (l k:List UInt8) (n c m d:Nat) (hl:l.length=n) (hm:k.length=m) (hn:n<=1000000000) (hm2:m<=1000000000) (hs:Seen w A l) (hk:Seen w B k):
 Calls Tryz.prog 99 #[.agg #[.slice A n c,.slice B m d]] w fun e w'=>(∃ a b:Piece,e= .returned (.agg #[pv a,pv b])/\NewPiece w w' l a/\NewPiece w w' k b)/\Below w.heap.size w w':=by
 obtain ⟨w2,hw2⟩:∃ w2,w2=(w.alloc (.cells #[.slice A n c,.slice B m d] 123)).alloc (.cells #[.slice none 0 0,.slice none 0 0] 123):=⟨_,rfl⟩
 have HB1:Hid (Blk w2 w.heap.size [.slice A n c,.slice B m d] 123):=by rw [hw2];exact (Blk.new w _ _).alloc _
 have HB2:Hid (Blk w2 (w.heap.size+1) [.slice none 0 0,.slice none 0 0] 123):=by
  have:=Blk.new (w.alloc (.cells #[.slice A n c,.slice B m d] 123)) [.slice none 0 0,.slice none 0 0] 123
  rw [show (w.alloc (.cells #[.slice A n c,.slice B m d] 123)).heap.size=w.heap.size+1 by simp] at this
  rw [hw2];exact this
 have HBW:Hid (Below w.heap.size w w2):=by rw [hw2];exact ((Below.refl _ _).alloc (Nat.le_refl _) _).alloc (by simp) _
 have HSZ:Hid (w2.heap.size=w.heap.size+1+1):=by rw [hw2];show _=_;simp
 have HW:Hid ((w.alloc (.cells #[.slice A n c,.slice B m d] 123)).alloc (.cells #[.slice none 0 0,.slice none 0 0] 123)=w2):=hw2.symm
 have HC1:Hid (∀ W,Below w2.heap.size w2 W->Calls Tryz.prog 101 #[.slice A n c] W fun e w'=>(∃ q:Piece,e= .returned (.slice q.1 q.2.1.length q.2.2)/\NewPiece W w' l q)/\Below W.heap.size W w'):=fun W hW=>copied_any W A l n c hl hn ((hs.below HBW.out).below hW)
 have HC2:Hid (∀ W,Below w2.heap.size w2 W->Calls Tryz.prog 101 #[.slice B m d] W fun e w'=>(∃ q:Piece,e= .returned (.slice q.1 q.2.1.length q.2.2)/\NewPiece W w' k q)/\Below W.heap.size W w'):=fun W hW=>copied_any W B k m d hm hm2 ((hk.below HBW.out).below hW)
 have HK:Hid (∀ W,Below w2.heap.size w2 W->Below w2.heap.size w2 W/\W.cell? ⟨w.heap.size,0,none⟩=some (.slice A n c)/\W.cell? ⟨w.heap.size,1,none⟩=some (.slice B m d)):=fun W hW=>by
  have:=HB1.out.below hW HB1.out.lt
  exact ⟨hW,this.cell (i:=0) (by simp),this.cell (i:=1) (by simp)⟩
 have HR:Hid (∀ W,Below w2.heap.size w2 W->Blk W (w.heap.size+1) [.slice none 0 0,.slice none 0 0] 123):=fun W hW=>HB2.out.below hW HB2.out.lt
 clear hw2 hs hk hl hm hn hm2
 have bd:Below w2.heap.size w2 w2.drew:=(Below.refl _ _).drew
 go_enter Tryz.func99,Tryz.ntmps99
 go_wp2_with fail
 rw [HW.out]
 go_region_held_law (fun w'=>w'.cell? ⟨w.heap.size,0,none⟩=some (.slice A n c)/\w'.cell? ⟨w.heap.size,1,none⟩=some (.slice B m d))
  (first | exact (HK.out _ bd).2 | exact (HK.out _ bd3).2 | exact (HK.out _ bd4).2 | go_keep)
  (first
   | (go_at_call 101;(with_reducible refine (HC1.out _ bd).mono ?_);rintro e w3 ⟨⟨qa,rfl,hqa⟩,hb3⟩;have HQA:=Lib.hid hqa;have HB3:=Lib.hid hb3;have bd3:Below w2.heap.size w2 w3:=undrew hb3;clear hqa hb3)
   | (go_at_call 101;(with_reducible refine (HC2.out _ bd3).mono ?_);rintro e w4 ⟨⟨qb,rfl,hqb⟩,hb4⟩;have HQB:=Lib.hid hqb;have HB4:=Lib.hid hb4;have bd4:Below w2.heap.size w2 w4:=hop bd3 hb4;have r0:=(HR.out _ bd4).cell (i:=0) (by simp);have r1:=(HR.out _ bd4).cell (i:=1) (by simp);have f0:=(HR.out _ bd4).free 0;have f1:=(HR.out _ bd4).free 1;clear hqb hb4))
 have hs4:Spared w4 ((w4.setCell ⟨w.heap.size+1,0,none⟩ (.slice qa.1 qa.2.1.length qa.2.2)).setCell ⟨w.heap.size+1,1,none⟩ (.slice qb.1 qb.2.1.length qb.2.2)) (fun b=>b<w2.heap.size):=by
  have:=HSZ.out
  exact ((Spared.refl w4 _).setCell (by omega) _ _).setCell (by omega) _ _
 have HQA':=Lib.hid ((HQA.out.2.below HB4.out).moved hs4 (G:=fun b=>b<w.heap.size) (fun i hi=> .inl (by have:=HSZ.out;show i<w2.heap.size;omega)))
 have HQB':=Lib.hid ((HQB.out.2.mono (G:=fun b=>b<w2.heap.size) (fun b hb=>Nat.lt_of_lt_of_le hb bd3.size)).moved hs4 (G:=fun b=>b<w.heap.size) (fun i hi=> .inl (by have:=HSZ.out;show i<w2.heap.size;omega)))
 have HE1:=Lib.hid HQA.out.1
 have HE2:=Lib.hid HQB.out.1
 have HBE:Hid (Below w.heap.size w ((w4.setCell ⟨w.heap.size+1,0,none⟩ (.slice qa.1 qa.2.1.length qa.2.2)).setCell ⟨w.heap.size+1,1,none⟩ (.slice qb.1 qb.2.1.length qb.2.2))):=(((hop HBW.out bd4)).setCell (by simp) _).setCell (by simp) _
 simp only [List.getElem_cons_zero,List.getElem_cons_succ] at r0 r1
 clear hs4
 go_wp2_with fail
 exact bodyPost_ret (v:= .agg #[pv qa,pv qb]) (by simp [results,Tryz.results99,go_sem,r0,r1,pv]) rfl ⟨⟨qa,qb,rfl,⟨HE1.out,HQA'.out⟩,⟨HE2.out,HQB'.out⟩⟩,HBE.out⟩
theorem run_bytes_off {P:Program} {w:World}:∀ (l:List UInt8) (a:Addr) (acc:ByteArray),(∀ j x,l[j]? =some x->w.cell? (a.add j)=some (.int .u8 (x.toNat:Int)))->
 (Extern.Bytes.loadBytes a l.length acc).run P w= .ok ⟨acc.data++l.toArray⟩ w
 | [],a,acc,_=>by simp [Extern.Bytes.loadBytes]
 | x::l,a,acc,h=>by
  have h0:w.cell? a=some (.int .u8 (x.toNat:Int)):=by
   have:=h 0 x rfl
   simpa [Addr.add] using this
  have ih:=run_bytes_off (P:=P) (w:=w) l (a.add 1) (acc.push x) (fun j y hy=>by
   have:=h (j+1) y (by simpa using hy)
   have e:(a.add 1).add j=a.add (j+1):=by
    unfold Addr.add
    by_cases hj:j=0
    · subst hj;simp
    · simp [hj];omega
   rw [e];exact this)
  have hx:((x.toNat:Int).toNat).toUInt8=x:=by simp
  simp only [List.length_cons,Extern.Bytes.loadBytes,Sem.run_bind,run_load,h0,Result.andThen,hx]
  rw [ih]
  congr 1
  apply ByteArray.ext
  simp [ByteArray.push]
theorem run_bytesOf_seen {P:Program} {w:World} {A:Option Addr} {l:List UInt8} (h:Seen w A l) (n c:Nat) (hn:l.length=n):(Extern.Bytes.bytesOf (.slice A n c)).run P w= .ok ⟨l.toArray⟩ w:=by
 subst hn
 rcases A with _ | a
 · obtain rfl:l=[]:=by
    rcases h with h | ⟨_,_,h,_⟩
    · exact h
    · cases h
   rfl
 · show (Extern.Bytes.loadBytes a l.length .empty).run P w=_
   rw [run_bytes_off l a .empty (fun j x hj=>by
    obtain ⟨hj',hx⟩:=List.getElem?_eq_some_iff.1 hj
    obtain ⟨b,off,ha,_,hc⟩:=h.at_ hj'
    injection ha with ha
    subst ha
    rw [add_plain,hc,hx])]
   congr 1
   apply ByteArray.ext
   simp
theorem run_compare_seen {P:Program} {w:World} {A B:Option Addr} {l k:List UInt8} (h:Seen w A l) (h':Seen w B k) (n c m d:Nat) (hn:l.length=n) (hm:k.length=m):
 (Extern.BytealgCompare.compare #[.slice A n c,.slice B m d]).run P w= .ok (.int .i64 (Lib.compareBytes l k)) w:=by
 change Sem.run P (do pure (goInt (Extern.BytealgCompare.cmp (<-Extern.Bytes.bytesOf (.slice A n c)) (<-Extern.Bytes.bytesOf (.slice B m d))))) w=_
 simp only [Sem.run_bind,Sem.run_pure,run_bytesOf_seen h n c hn,run_bytesOf_seen h' m d hm,Result.andThen]
 rw [Lib.cmp_eq]
 rfl
set_option maxRecDepth 100000 in
set_option maxHeartbeats 400000 in
theorem bcompare_any {w:World} {A B:Option Addr} {l k:List UInt8} (h:Seen w A l) (h':Seen w B k) (n c m d:Nat) (hn:l.length=n) (hm:k.length=m):
 Calls Tryz.prog 98 #[.slice A n c,.slice B m d] w fun e w'=>e= .returned (.int .i64 (Lib.compareBytes l k))/\w'=w:=by
 have HR:=Lib.hid (run_compare_seen (P:=Tryz.prog) h h' n c m d hn hm)
 generalize Lib.compareBytes l k=x at *
 clear h h' hn hm
 go_enter Tryz.func98,Tryz.ntmps98
 go_wp2
 rw [run_callFunc_extern Tryz.func131 (by kernel_rfl) (by kernel_rfl) (by kernel_rfl) (e:=Extern.BytealgCompare.compare) (by kernel_rfl),HR.out]
 simp only [Result.andThen]
 rw [Oper.upon_value]
 go_wp2
 go_ret
 exact ⟨rfl,rfl⟩
set_option maxRecDepth 100000 in
set_option maxHeartbeats 400000 in
theorem bequal_any {w:World} {A B:Option Addr} {l k:List UInt8} (h:Seen w A l) (h':Seen w B k) (n c m d:Nat) (hn:l.length=n) (hm:k.length=m):
 Calls Tryz.prog 155 #[.slice A n c,.slice B m d] w fun e w'=>e= .returned (.bool (decide (l=k)))/\w'=w:=by
 have u1:=text_on h n c hn w (Below.refl _ _)
 have u2:=text_on h' m d hm w (Below.refl _ _)
 have hq:=text_beq l k
 obtain ⟨b,hb⟩:∃ b,b=decide (l=k):=⟨_,rfl⟩
 rw [<-hb] at hq ⊢
 clear h h' hn hm hb
 generalize (⟨l.toArray⟩:ByteArray)=t1 at *
 generalize (⟨k.toArray⟩:ByteArray)=t2 at *
 go_enter Tryz.func155,Tryz.ntmps155
 go_wp2
 go_ret
 exact ⟨rfl,rfl⟩
set_option maxHeartbeats 1000000 in
set_option maxRecDepth 100000 in
theorem search_any (g:Nat) (cb:Array Value) (n m:Nat) (w:World) (eg:∀ args w,(callFunc g args).run Tryz.prog w= .ok (.enter g args) w) (hsz:n<4611686018427387904) (hm:m<=n)
 (hf:∀ W,Below w.heap.size w W->∀ i,i<n->Calls Tryz.prog g (#[.int .i64 i]++cb) W fun e w'=>e= .returned (.bool (decide (m<=i)))/\Below W.heap.size W w'):
 Calls Tryz.prog 153 #[.int .i64 n,.func (.func g) #[] cb] w fun e w'=>e= .returned (.int .i64 m)/\Below w.heap.size w w':=by
 have HF:=Lib.hid hf
 clear hf
 go_enter Tryz.func153,Tryz.ntmps153
 go_wp2
 go_loopg [5,6] n (fun kx s5 s6 wr=>∃ (lo hi:Nat),s5= .int .i64 lo/\s6= .int .i64 hi/\lo<=m/\m<=hi/\hi<=n/\hi-lo<=kx/\Below w.heap.size w wr)
 case atStart=>exact ⟨0,n,rfl,rfl,Nat.zero_le _,hm,Nat.le_refl _,by omega,Below.refl _ _⟩
 case round=>
  obtain ⟨lo,hi,rfl,rfl,hlm,hmh,hin,hg,hb⟩:=hrel
  have HB:=Lib.hid hb
  clear hb
  by_cases hlt:lo<hi
  · have hc:=HF.out wr HB.out ((lo+hi)/2) (by omega)
    rw [show (((lo+hi)/2:Nat):Int)=((lo:Int)+(hi:Int))/2 by omega] at hc
    by_cases hp:m<=(lo+hi)/2
    · rw [decide_eq_true hp] at hc
      go_wp2_with (go_at_fn g;refine hc.mono ?_;rintro e w' ⟨rfl,hb'⟩)
      go_roundg ((lo+hi)/2-lo)
      case measure=>omega
      case rel=>exact ⟨lo,(lo+hi)/2,rfl,by rw [show ((lo:Int)+(hi:Int))/2=(((lo+hi)/2:Nat):Int) by omega],hlm,hp,by omega,Nat.le_refl _,hop HB.out hb'⟩
    · rw [decide_eq_false hp] at hc
      go_wp2_with (go_at_fn g;refine hc.mono ?_;rintro e w' ⟨rfl,hb'⟩)
      go_roundg (hi-((lo+hi)/2+1))
      case measure=>omega
      case rel=>exact ⟨(lo+hi)/2+1,hi,by rw [show ((lo:Int)+(hi:Int))/2+1=(((lo+hi)/2+1:Nat):Int) by omega],rfl,by omega,hmh,hin,Nat.le_refl _,hop HB.out hb'⟩
  · obtain rfl:lo=m:=by omega
    go_wp2
    go_ret
    exact ⟨rfl,HB.out⟩
end Go.Proofs.YtdaahapbpnjkfaaGreat
