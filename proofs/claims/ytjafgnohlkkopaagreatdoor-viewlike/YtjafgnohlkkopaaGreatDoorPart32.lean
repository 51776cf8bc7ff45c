/-
  SetL, SetJ, SetLA, PoolX, PoolY in one text. Nothing here is trusted.
-/
import Derived.Test.YtjafgnohlkkopaaGreatDoorPart12
import Derived.Test.YtjafgnohlkkopaaGreatDoorPart17
import Derived.Test.YtjafgnohlkkopaaGreatDoorPart19
import Derived.Test.YtjafgnohlkkopaaGreatDoorPart11
import Derived.Laws.EntriesVeiled
import Derived.Test.YtjafgnohlkkopaaGreatDoorPart26
import Derived.Test.YtjafgnohlkkopaaGreatDoorPart29
import Derived.Test.YtjafgnohlkkopaaGreatDoorPart31
set_option linter.unusedVariables false
namespace Go.Proofs.YtjafgnohlkkopaaGreatDoor
open Go.RowKit
structure LB (W wr:World) (sa:Option Addr) (n sc:Nat) (v:SetV) (a:AskE) (ba:Option Addr) (bn bc:Nat):Prop where
 bel:Below W.heap.size W wr
 sz:W.heap.size+4≤wr.heap.size
 bS:CellsAt wr W.heap.size #[.slice sa n sc] 24
 bX:CellsAt wr (W.heap.size+1) #[.string v.name,.slice v.fa v.fn v.fc,.slice v.sa v.sn v.sc] 84
 bA:CellsAt wr (W.heap.size+1+1) #[.int .i64 a.kind,.string a.set,.string a.file,.string a.to,.int .i64 a.pos,.int .i64 a.num,.slice ba bn bc] 30
 r8:CellsAt wr (W.heap.size+1+1+1) #[.int .i64 0,.int .i64 0,.slice none 0 0,.slice none 0 0] 41
theorem LB.below {W wr w':World} {sa:Option Addr} {n sc:Nat} {v:SetV} {a:AskE} {ba:Option Addr} {bn bc:Nat} (h:LB W wr sa n sc v a ba bn bc) (b:Below wr.heap.size wr w'):LB W w' sa n sc v a ba bn bc:=⟨Below.tr h.bel b,Nat.le_trans h.sz b.size,h.bS.below b,h.bX.below b,h.bA.below b,h.r8.below b⟩
abbrev enterL (w:World) (sa:Option Addr) (n sc:Nat) (v:SetV) (a:AskE) (ba:Option Addr) (bn bc:Nat):World:=
 (((w.alloc (.cells #[.slice sa n sc] 24)).alloc (.cells #[.string v.name,.slice v.fa v.fn v.fc,.slice v.sa v.sn v.sc] 84)).alloc (.cells #[.int .i64 a.kind,.string a.set,.string a.file,.string a.to,.int .i64 a.pos,.int .i64 a.num,.slice ba bn bc] 30)).alloc (.cells #[.int .i64 0,.int .i64 0,.slice none 0 0,.slice none 0 0] 41)
theorem szL_alloc (w:World) (o:Obj):(w.alloc o).heap.size=w.heap.size+1:=by simp
theorem lb_enter (w:World) (sa:Option Addr) (n sc:Nat) (v:SetV) (a:AskE) (ba:Option Addr) (bn bc:Nat):LB w (enterL w sa n sc v a ba bn bc) sa n sc v a ba bn bc:=by
 have h1:=cellsAt_alloc w #[.slice sa n sc] 24
 have h2:=cellsAt_alloc (w.alloc (.cells #[.slice sa n sc] 24)) #[.string v.name,.slice v.fa v.fn v.fc,.slice v.sa v.sn v.sc] 84
 have h3:=cellsAt_alloc ((w.alloc (.cells #[.slice sa n sc] 24)).alloc (.cells #[.string v.name,.slice v.fa v.fn v.fc,.slice v.sa v.sn v.sc] 84)) #[.int .i64 a.kind,.string a.set,.string a.file,.string a.to,.int .i64 a.pos,.int .i64 a.num,.slice ba bn bc] 30
 have h4:=cellsAt_alloc (((w.alloc (.cells #[.slice sa n sc] 24)).alloc (.cells #[.string v.name,.slice v.fa v.fn v.fc,.slice v.sa v.sn v.sc] 84)).alloc (.cells #[.int .i64 a.kind,.string a.set,.string a.file,.string a.to,.int .i64 a.pos,.int .i64 a.num,.slice ba bn bc] 30)) #[.int .i64 0,.int .i64 0,.slice none 0 0,.slice none 0 0] 41
 simp only[szL_alloc] at h2 h3 h4
 exact⟨bAl (bAl (bAl (bAl (Below.refl _ w) _) _) _) _,by simp,((h1.below (below_alloc _ _)).below (below_alloc _ _)).below (below_alloc _ _),(h2.below (below_alloc _ _)).below (below_alloc _ _),h3.below (below_alloc _ _),h4⟩
end Go.Proofs.YtjafgnohlkkopaaGreatDoor

namespace Go.Proofs.YtjafgnohlkkopaaGreatDoor
open Go.RowKit
theorem Tryz.infoStr:(Tryz.prog.info? 9).map (fun i=>(i.zero,i.size,i.bytes))=some (some (.string ⟨#[]⟩),1,16):=by kernel_rfl
theorem make_str (n:Nat) (hn:n≤6) (w:World):∃ cs:Array Value,cs.size=n∧(Instr.makeSlice 39 (.int .i64 n) (.int .i64 n)).run Tryz.prog w=.ok (.slice (some ⟨w.heap.size,0,none⟩) n n) (w.alloc (.cells cs 9)):=by
 obtain⟨i0,hi,hz0,hz1,hz2⟩:=info_parts Tryz.infoStr
 refine⟨madeCells (Value.cells (.string ⟨#[]⟩)) (n*1),?_,?_⟩
 ·simp[madeCells]
 ·rw[run_makeSlice (P:=Tryz.prog) w 39 9 i0 _ Tryz.underlying39 hi hz0 .i64 .i64 n n (by omega) (by omega) (by rw[hz1]; omega) (by rw[hz2]; omega) (by omega),hz1]
  simp
def StrsAt (Q:Nat→Prop) (w:World) (a:Option Addr) (n:Nat) (l:List ByteArray):Prop:=
 l.length=n∧(0<n→∃ b off,a=some ⟨b,off,none⟩∧b<w.heap.size∧Q b∧∀ i,i<n→w.cell? ⟨b,off+i,none⟩=some (.string (l.getD i ByteArray.empty)))
theorem StrsAt.below {Q:Nat→Prop} {w w':World} {a:Option Addr} {n:Nat} {l:List ByteArray} (h:StrsAt Q w a n l) (hb:Below w.heap.size w w'):StrsAt Q w' a n l:=by
 refine⟨h.1,fun hn=>?_⟩
 obtain⟨b,off,rfl,hlt,hq,hc⟩:=h.2 hn
 exact⟨b,off,rfl,Nat.lt_of_lt_of_le hlt hb.size,hq,fun i hi=>(hb.cell (p:=⟨b,off+i,none⟩) hlt).trans (hc i hi)⟩
theorem StrsAt.weaken {Q R:Nat→Prop} {w:World} {a:Option Addr} {n:Nat} {l:List ByteArray} (h:StrsAt Q w a n l) (hq:∀ b,b<w.heap.size→Q b→R b):StrsAt R w a n l:=by
 refine⟨h.1,fun hn=>?_⟩
 obtain⟨b,off,rfl,hlt,q,hc⟩:=h.2 hn
 exact⟨b,off,rfl,hlt,hq b hlt q,hc⟩
theorem StrsAt.kept {Q:Nat→Prop} {w w':World} {a:Option Addr} {n:Nat} {l:List ByteArray} {g:Nat} (h:StrsAt Q w a n l) (hq:∀ b,Q b→b≠g) (hk:Kept g w w'):StrsAt Q w' a n l:=by
 refine⟨h.1,fun hn=>?_⟩
 obtain⟨b,off,rfl,hlt,q,hc⟩:=h.2 hn
 exact⟨b,off,rfl,by rw[hk.size]; exact hlt,q,fun i hi=>(hk.cell (p:=⟨b,off+i,none⟩) (hq b q)).trans (hc i hi)⟩
theorem strsAt_nil (Q:Nat→Prop) (w:World) (a:Option Addr):StrsAt Q w a 0 []:=⟨rfl,fun h=>absurd h (by omega)⟩
theorem Only.strs {M:Nat→Prop} {a b:World} (h:Only M a b) {Q:Nat→Prop} {x:Option Addr} {n:Nat} {l:List ByteArray} (hn:StrsAt Q a x n l) (hm:∀ k,Q k→¬M k):StrsAt Q b x n l:=by
 refine⟨hn.1,fun h0=>?_⟩
 obtain⟨c,off,rfl,hlt,q,hc⟩:=hn.2 h0
 exact⟨c,off,rfl,Nat.lt_of_lt_of_le hlt h.size,q,fun i hi=>(h.cell (p:=⟨c,off+i,none⟩) hlt (hm c q)).trans (hc i hi)⟩
def RetLi (base:Nat) (w:World) (n:Nat) (l:List ByteArray) (e:Ending):Prop:=∃ (y:Option Addr),e=.returned (.agg #[.int .i64 0,.int .i64 (n:Int),.slice y n n,.slice none 0 0])∧StrsAt (fun b=>base≤b) w y n l
set_option maxHeartbeats 4000000 in
set_option maxRecDepth 100000 in
theorem list_any (Q:Nat→Prop) (v:SetV) (x:SetE) (w:World) (hX:SetAt Q w v x) (h6:x.files.length≤6):
 Calls Tryz.prog 93 #[.agg #[.string v.name,.slice v.fa v.fn v.fc,.slice v.sa v.sn v.sc]] w fun e w'=>RetLi w.heap.size w' v.fn (x.files.map (·.name)) e∧Below w.heap.size w w':=by
 have b0:=below_two w (.cells #[.string v.name,.slice v.fa v.fn v.fc,.slice v.sa v.sn v.sc] 84) (.cells #[.int .i64 0,.int .i64 0,.slice none 0 0,.slice none 0 0] 41)
 have k0:CellsAt _ w.heap.size #[.string v.name,.slice v.fa v.fn v.fc,.slice v.sa v.sn v.sc] 84:=(cellsAt_alloc w _ _).below (below_alloc _ (.cells #[.int .i64 0,.int .i64 0,.slice none 0 0,.slice none 0 0] 41))
 have k1:=cellsAt_alloc2 w (.cells #[.string v.name,.slice v.fa v.fn v.fc,.slice v.sa v.sn v.sc] 84) #[.int .i64 0,.int .i64 0,.slice none 0 0,.slice none 0 0] 41
 have hfl:=hid hX.files.1
 have hvn:v.fn≤6:=by rw[←hX.files.1]; exact h6
 have hFi:=hid (hX.files.below b0)
 replace b0:=hid b0
 replace k0:=hid k0
 replace k1:=hid k1
 clear hX
 go_enter Tryz.func93,Tryz.ntmps93
 go_upto_region 1 with fail
 generalize (w.alloc (.cells #[.string v.name,.slice v.fa v.fn v.fc,.slice v.sa v.sn v.sc] 84)).alloc (.cells #[.int .i64 0,.int .i64 0,.slice none 0 0,.slice none 0 0] 41)=w0 at *
 obtain⟨cs,hcs,hmk⟩:=make_str v.fn hvn w0
 have p1:=k0.out.cell 1
 simp at p1
 have b1:=hid (below_alloc w0 (.cells cs 9))
 have kc:=hid (cellsAt_alloc w0 cs 9)
 have p1':=((b1.out).cell (p:=⟨w.heap.size,1,none⟩) k0.out.lt).trans p1
 replace hcs:=hid hcs
 go_wp2_with fail
 clear hmk p1 p1'
 have hz1:Hid ((w0.alloc (.cells cs 9)).heap.size=w0.heap.size+1):=hid (by simp)
 generalize w0.alloc (.cells cs 9)=w1 at *
 go_loopw [13] (fun u wr=>∃ (j:Nat) (cs:Array Value),j≤v.fn∧u=.int .i64 j∧Below w0.heap.size w0 wr∧CellsAt wr w0.heap.size cs 9∧cs.size=v.fn∧∀ i,i<j→cs[i]? =some (.string (x.files.getD i Ent.zero).name)) (fun u _=>v.fn-(Go.RowKit.intOf u).toNat)
 case atStart=>exact⟨0,cs,Nat.zero_le _,rfl,b1.out,kc.out,hcs.out,fun i hi=>absurd hi (by omega)⟩
 case round=>
  clear kc hcs
  obtain⟨j,cs,hj,rfl,hb,hc,hsz,hnm⟩:=hrel
  replace hnm:=hid hnm
  by_cases hlt:j<v.fn
  ·have hE':=hFi.out.below hb
   obtain⟨eb,off,hfa,hel,_⟩:=hE'.2.2 (by omega)
   generalize v.fa=vfa at *
   subst hfa
   have hA:=hE'.ent hlt
   have c0:=hA.c0
   have c1:=hA.c1
   have c2:=hA.c2
   clear hA hE'
   generalize hff:x.files.getD j Ent.zero=f at *
   replace hff:=hid hff
   have bA:=below_alloc wr (.cells #[.string f.name,.int .i64 f.root,.int .i64 f.size] 106)
   have kA:=cellsAt_alloc wr #[.string f.name,.int .i64 f.root,.int .i64 f.size] 106
   have hc':=hc.below bA
   replace bA:=hid bA
   replace kA:=hid kA
   replace hb:=hid hb
   go_upto_region 5 with fail
   clear c0 c1 c2
   have hlc:=hc.lt
   generalize wr.alloc (.cells #[.string f.name,.int .i64 f.root,.int .i64 f.size] 106)=w5 at *
   have q0:=kA.out.cell 0
   simp at q0
   have y0:=hc'.cell j
   rw[Array.getElem?_eq_getElem (by omega)] at y0
   generalize cs[j]=yv at *
   have yf:=hc'.frozen j
   have kS:=hc'.set j (.string f.name)
   have kk:Kept w0.heap.size w5 (w5.setCell ⟨w0.heap.size,j,none⟩ (.string f.name)):=Kept.setCell (g:=w0.heap.size) (Kept.refl _ _) (p:=⟨w0.heap.size,j,none⟩) rfl _
   have hbb:Below w0.heap.size w0 (w5.setCell ⟨w0.heap.size,j,none⟩ (.string f.name)):=(hb.out.trans (bA.out.mono hb.out.size)).trans (kk.below (Nat.le_refl _))
   have hss:(cs.setIfInBounds j (.string f.name)).size=v.fn:=by simpa using hsz
   have hnn:Hid (∀ i,i<j+1→(cs.setIfInBounds j (.string f.name))[i]? =some (.string (x.files.getD i Ent.zero).name)):=hid (fun i hi=>by
    rw[Array.getElem?_setIfInBounds]
    by_cases e:j=i
    ·subst e
     rw[if_pos rfl,if_pos (by omega),hff.out]
    ·rw[if_neg e]; exact hnm.out i (by omega))
   have hj0:(0:Int)≤(j:Int):=by omega
   have hjs:(j:Int)<(v.fn:Int):=by omega
   replace kS:=hid kS
   replace hbb:=hid hbb
   replace hss:=hid hss
   clear kk hc hc'
   go_wp2_with fail
   go_roundw
   case rel=>exact⟨j+1,_,by omega,by go_num,hbb.out,kS.out,hss.out,hnn.out⟩
   case measure=>simp[Go.RowKit.intOf]; omega
  ·obtain rfl:j=v.fn:=by omega
   have hst:Hid (StrsAt (fun b=>w0.heap.size≤b) wr (some ⟨w0.heap.size,0,none⟩) v.fn (x.files.map (·.name))):=hid (by
    refine⟨by rw[List.length_map,hfl.out],fun _=>⟨_,0,rfl,hc.lt,Nat.le_refl _,fun i hi=>?_⟩⟩
    have hil:i<x.files.length:=by rw[hfl.out]; exact hi
    rw[Nat.zero_add,hc.cell,hnm.out i hi]
    simp[List.getD,hil])
   have hw0:Hid (w.heap.size+1<w0.heap.size):=hid k1.out.lt
   have k1':=k1.out.below hb
   have r0:=k1'.cell 0
   have r1:=k1'.cell 1
   have r2:=k1'.cell 2
   have r3:=k1'.cell 3
   have g0:=k1'.frozen 0
   have g1:=k1'.frozen 1
   have g2:=k1'.frozen 2
   have g3:=k1'.frozen 3
   simp at r0 r1 r2 r3
   replace k1':=hid k1'
   replace hb:=hid hb
   go_wp2_with fail
   clear r0 r1 r2 r3 g0 g1 g2 g3
   have k3:=(((k1'.out.set 0 (.int .i64 0)).set 1 (.int .i64 (v.fn:Int))).set 2 (.slice (some ⟨w0.heap.size,0,none⟩) v.fn v.fn)).set 3 (.slice none 0 0)
   simp only[List.setIfInBounds_toArray,List.set_cons_succ,List.set_cons_zero] at k3
   have kk:Kept (w.heap.size+1) wr ((((wr.setCell ⟨w.heap.size+1,0,none⟩ (.int .i64 0)).setCell ⟨w.heap.size+1,1,none⟩ (.int .i64 (v.fn:Int))).setCell ⟨w.heap.size+1,2,none⟩ (.slice (some ⟨w0.heap.size,0,none⟩) v.fn v.fn)).setCell ⟨w.heap.size+1,3,none⟩ (.slice none 0 0)):=
    Kept.setCell (g:=w.heap.size+1) (Kept.setCell (g:=w.heap.size+1) (Kept.setCell (g:=w.heap.size+1) (Kept.setCell (g:=w.heap.size+1) (Kept.refl _ _) (p:=⟨w.heap.size+1,0,none⟩) rfl _) (p:=⟨w.heap.size+1,1,none⟩) rfl _) (p:=⟨w.heap.size+1,2,none⟩) rfl _) (p:=⟨w.heap.size+1,3,none⟩) rfl _
   refine bodyPost_ret (v:=.agg #[.int .i64 0,.int .i64 (v.fn:Int),.slice (some ⟨w0.heap.size,0,none⟩) v.fn v.fn,.slice none 0 0]) ?_ rfl ⟨⟨_,rfl,(hst.out.kept (fun b hb=>by have:=hw0.out; omega) kk).weaken (fun b _ hb=>by have:=hw0.out; omega)⟩,(Below.tr b0.out hb.out).trans (kk.below (by omega))⟩
   exact results_cell_row rfl _ _ (w.heap.size+1) _ _ _ _ rfl k3 Tryz.underlying41 rfl (by kernel_rfl)
end Go.Proofs.YtjafgnohlkkopaaGreatDoor

namespace Go.Proofs.YtjafgnohlkkopaaGreatDoor
open Go.RowKit
def fileOf (x:SetE) (nm:List UInt8):Option Ent:=x.files.find? (fun f=>f.nm == nm)
def rdOk (a:AskE):Prop:=(0≤a.pos∧a.pos≤256)∧(0≤a.num∧a.num≤256)
instance (a:AskE):Decidable (rdOk a):=by unfold rdOk; infer_instance
def lookE (x:SetE) (a:AskE):Int:=if a.kind=12 then 0 else match fileOf x a.file.data.toList with | none=>5 | some _=>if rdOk a then 0 else 3
def lookN (x:SetE) (a:AskE):Int:=if a.kind=12 then (x.files.length:Int) else match fileOf x a.file.data.toList with | none=>0 | some f=>if rdOk a then f.size else 0
def lookS (x:SetE) (a:AskE):List ByteArray:=if a.kind=12 then x.files.map (·.name) else []
def lookB (B:Nat→Blk) (key:Int) (x:SetE) (a:AskE):List Int:=if a.kind=12 then [] else match fileOf x a.file.data.toList with | none=>[] | some f=>if rdOk a then readL (fileL key (leafAt B 3 f.root)) f.size.toNat a.pos.toNat a.num.toNat else []
theorem fileOf_none {x:SetE} {nm:List UInt8} (h:¬∃ f∈x.files,f.nm=nm):fileOf x nm=none:=by
 unfold fileOf
 rw[List.find?_eq_none]
 intro f hf
 simp only[beq_iff_eq]
 exact fun e=>h ⟨f,hf,e⟩
theorem fileOf_some {x:SetE} {nm:List UInt8} {f:Ent} (ho:x.files.Pairwise fun a b=>a.nm<b.nm) (hf:f∈x.files) (hn:f.nm=nm):fileOf x nm=some f:=by
 unfold fileOf
 cases h:x.files.find? (fun f=>f.nm == nm) with
 | none=>
   rw[List.find?_eq_none] at h
   have:=h f hf
   simp only[beq_iff_eq] at this
   exact absurd hn this
 | some g=>
   have h1:=List.find?_some h
   simp only[beq_iff_eq] at h1
   rw[ordered_one Ent.nm ho (List.mem_of_find?_eq_some h) hf (h1.trans hn.symm)]
structure LkIs (base:Nat) (w:World) (B:Nat→Blk) (key:Int) (x:SetE) (a:AskE) (e1 N:Int) (ya:Option Addr) (yn yc:Nat) (y:Option Addr) (ln lc:Nat):Prop where
 e:e1=lookE x a
 n:N=lookN x a
 names:StrsAt (fun b=>base≤b) w ya yn (lookS x a)
 bytes:NumsAt (fun b=>base≤b) .u8 w y ln (lookB B key x a)
 caps:yn≤yc∧ln≤lc
theorem LkIs.map {base base':Nat} {w w':World} {B:Nat→Blk} {key:Int} {x:SetE} {a:AskE} {e1 N:Int} {ya:Option Addr} {yn yc:Nat} {y:Option Addr} {ln lc:Nat} (h:LkIs base w B key x a e1 N ya yn yc y ln lc) (hm:∀ l,NumsAt (fun b=>base≤b) .u8 w y ln l→NumsAt (fun b=>base'≤b) .u8 w' y ln l) (hs:∀ l,StrsAt (fun b=>base≤b) w ya yn l→StrsAt (fun b=>base'≤b) w' ya yn l):LkIs base' w' B key x a e1 N ya yn yc y ln lc:=
 ⟨h.e,h.n,hs _ h.names,hm _ h.bytes,h.caps⟩
theorem LkIs.below {base base':Nat} {w w':World} {B:Nat→Blk} {key:Int} {x:SetE} {a:AskE} {e1 N:Int} {ya:Option Addr} {yn yc:Nat} {y:Option Addr} {ln lc:Nat} (h:LkIs base w B key x a e1 N ya yn yc y ln lc) (b:Below w.heap.size w w') (hb:base'≤base):LkIs base' w' B key x a e1 N ya yn yc y ln lc:=
 h.map (fun _ k=>(k.below b).weaken (fun _ _ q=>Nat.le_trans hb q)) (fun _ k=>(k.below b).weaken (fun _ _ q=>Nat.le_trans hb q))
theorem LkIs.kept {base base' g:Nat} {w w':World} {B:Nat→Blk} {key:Int} {x:SetE} {a:AskE} {e1 N:Int} {ya:Option Addr} {yn yc:Nat} {y:Option Addr} {ln lc:Nat} (h:LkIs base w B key x a e1 N ya yn yc y ln lc) (k:Kept g w w') (hg:g<base) (hb:base'≤base):LkIs base' w' B key x a e1 N ya yn yc y ln lc:=
 h.map (fun _ l=>(l.kept (fun b q=>by omega) k).weaken (fun _ _ q=>Nat.le_trans hb q)) (fun _ l=>(l.kept (fun b q=>by omega) k).weaken (fun _ _ q=>Nat.le_trans hb q))
def RetSome (base:Nat) (w:World) (B:Nat→Blk) (key:Int) (x:SetE) (a:AskE) (e:Ending):Prop:=∃ (e' N:Int) (ya:Option Addr) (yn yc:Nat) (y:Option Addr) (ln lc:Nat),e=.returned (.agg #[.int .i64 e', .int .i64 N,.slice ya yn yc,.slice y ln lc])∧LkIs base w B key x a e' N ya yn yc y ln lc
theorem rd_none {base:Nat} {w:World} {B:Nat→Blk} {key:Int} {x:SetE} {a:AskE} (hk:a.kind=11) (h:¬∃ f∈x.files,f.nm=a.file.data.toList):LkIs base w B key x a 5 0 none 0 0 none 0 0:=by
 have e:=fileOf_none h
 have k12:¬a.kind=12:=by omega
 refine⟨?_,?_,?_,?_,⟨Nat.le_refl _,Nat.le_refl _⟩⟩
 ·simp[lookE,k12,e]
 ·simp[lookN,k12,e]
 ·simp only[lookS,if_neg k12]; exact strsAt_nil _ _ _
 ·simp only[lookB,if_neg k12,e]; exact numsAt_nil _ _ _ _
theorem rd_range {base:Nat} {w:World} {B:Nat→Blk} {key:Int} {x:SetE} {a:AskE} {f:Ent} (hk:a.kind=11) (h:fileOf x a.file.data.toList=some f) (hr:¬rdOk a):LkIs base w B key x a 3 0 none 0 0 none 0 0:=by
 have k12:¬a.kind=12:=by omega
 refine⟨?_,?_,?_,?_,⟨Nat.le_refl _,Nat.le_refl _⟩⟩
 ·simp[lookE,k12,h,hr]
 ·simp[lookN,k12,h,hr]
 ·simp only[lookS,if_neg k12]; exact strsAt_nil _ _ _
 ·simp only[lookB,if_neg k12,h,if_neg hr]; exact numsAt_nil _ _ _ _
theorem rd_yes {base:Nat} {w:World} {B:Nat→Blk} {key:Int} {x:SetE} {a:AskE} {f:Ent} {y:Option Addr} {ln lc:Nat} (hk:a.kind=11) (h:fileOf x a.file.data.toList=some f) (hr:rdOk a) (hl:ln≤lc) (hN:NumsAt (fun b=>base≤b) .u8 w y ln (readL (fileL key (leafAt B 3 f.root)) f.size.toNat a.pos.toNat a.num.toNat)):LkIs base w B key x a 0 f.size none 0 0 y ln lc:=by
 have k12:¬a.kind=12:=by omega
 refine⟨?_,?_,?_,?_,⟨Nat.le_refl _,hl⟩⟩
 ·simp[lookE,k12,h,hr]
 ·simp[lookN,k12,h,hr]
 ·simp only[lookS,if_neg k12]; exact strsAt_nil _ _ _
 ·simp only[lookB,if_neg k12,h,if_pos hr]; exact hN
theorem rd_list {base:Nat} {w:World} {B:Nat→Blk} {key:Int} {x:SetE} {a:AskE} {y:Option Addr} {n:Nat} (hk:a.kind=12) (hn:x.files.length=n) (h:StrsAt (fun b=>base≤b) w y n (x.files.map (·.name))):LkIs base w B key x a 0 (n:Int) y n n none 0 0:=by
 refine⟨?_,?_,?_,?_,⟨Nat.le_refl _,Nat.le_refl _⟩⟩
 ·simp[lookE,hk]
 ·simp[lookN,hk,hn]
 ·simp only[lookS,if_pos hk]; exact h
 ·simp only[lookB,if_pos hk]; exact numsAt_nil _ _ _ _
abbrev putQ (w:World) (b:Nat) (e' N:Int) (ya:Option Addr) (yn yc:Nat) (y:Option Addr) (ln lc:Nat):World:=(((w.setCell ⟨b,0,none⟩ (.int .i64 e')).setCell ⟨b,1,none⟩ (.int .i64 N)).setCell ⟨b,2,none⟩ (.slice ya yn yc)).setCell ⟨b,3,none⟩ (.slice y ln lc)
theorem kept_putQ (w:World) (b:Nat) (e' N:Int) (ya:Option Addr) (yn yc:Nat) (y:Option Addr) (ln lc:Nat):Kept b w (putQ w b e' N ya yn yc y ln lc):=Kept.setCell (g:=b) (Kept.setCell (g:=b) (Kept.setCell (g:=b) (Kept.setCell (g:=b) (Kept.refl _ _) (p:=⟨b,0,none⟩) rfl _) (p:=⟨b,1,none⟩) rfl _) (p:=⟨b,2,none⟩) rfl _) (p:=⟨b,3,none⟩) rfl _
theorem cells_putQ {w:World} {b:Nat} {c0 c1 c2 c3:Value} (h:CellsAt w b #[c0,c1,c2,c3] 41) (e' N:Int) (ya:Option Addr) (yn yc:Nat) (y:Option Addr) (ln lc:Nat):CellsAt (putQ w b e' N ya yn yc y ln lc) b #[.int .i64 e', .int .i64 N,.slice ya yn yc,.slice y ln lc] 41:=by
 have k2:=(((h.set 0 (.int .i64 e')).set 1 (.int .i64 N)).set 2 (.slice ya yn yc)).set 3 (.slice y ln lc)
 simp only[List.setIfInBounds_toArray,List.set_cons_zero,List.set_cons_succ] at k2
 exact k2
set_option maxHeartbeats 4000000 in
set_option maxRecDepth 100000 in
theorem read_all (Q:Nat→Prop) (sa:Option Addr) (n sc:Nat) (B:Nat→Blk) (key:Int) (v:SetV) (x:SetE) (a:AskE) (ba:Option Addr) (bn bc:Nat) (w:World) (hs:StoreAt w sa n B) (hX:SetAt Q w v x) (hx:SetOk n B key x) (hk11:a.kind=11):
 Calls Tryz.prog 92 #[.agg #[.slice sa n sc],.int .i64 key,v.val,a.val ba bn bc] w fun e w'=>RetSome w.heap.size w' B key x a e∧Below w.heap.size w w':=by
 have hlb:=lb_enter w sa n sc v a ba bn bc
 unfold enterL at hlb
 replace hlb:=hid hlb
 have ho:=hid hx.files.order
 replace hk11:=hid hk11
 have hvn:v.fn≤6:=by rw[←hX.files.1]; exact hx.files.few
 unfold AskE.val SetV.val
 replace hs:=hid hs
 replace hX:=hid hX
 replace hx:=hid hx
 go_enter Tryz.func92,Tryz.ntmps92
 go_wp2_with fail
 generalize (((w.alloc (.cells #[.slice sa n sc] 24)).alloc (.cells #[.string v.name,.slice v.fa v.fn v.fc,.slice v.sa v.sn v.sc] 84)).alloc (.cells #[.int .i64 a.kind,.string a.set,.string a.file,.string a.to,.int .i64 a.pos,.int .i64 a.num,.slice ba bn bc] 30)).alloc (.cells #[.int .i64 0,.int .i64 0,.slice none 0 0,.slice none 0 0] 41)=w0 at *
 refine(findE_any Q v.fa v.fn v.fc x.files a.file w0 (by omega) (hX.out.files.below hlb.out.bel) ho.out).mono ?_
 rintro e w1 ⟨⟨p,b,rfl,hF⟩,b1⟩
 replace hlb:=hid (hlb.out.below b1)
 clear b1
 have q0:=hlb.out.r8.cell 0
 have q1:=hlb.out.r8.cell 1
 have q2:=hlb.out.r8.cell 2
 have q3:=hlb.out.r8.cell 3
 have z0:=hlb.out.r8.frozen 0
 have z1:=hlb.out.r8.frozen 1
 have z2:=hlb.out.r8.frozen 2
 have z3:=hlb.out.r8.frozen 3
 simp at q0 q1 q2 q3
 cases b
 ·have hno:Hid (¬∃ f∈x.files,f.nm=a.file.data.toList):=hid (fun f=>by have:=(found_some ho.out hF).2 f; cases this)
  clear hF
  go_wp2_with fail
  refine bodyPost_ret (v:=.agg #[.int .i64 5,.int .i64 0,.slice none 0 0,.slice none 0 0]) ?_ rfl ?_
  ·exact results_cell_row rfl _ _ (w.heap.size+1+1+1) _ _ _ _ rfl (cells_putQ hlb.out.r8 5 0 none 0 0 none 0 0) Tryz.underlying41 rfl (by kernel_rfl)
  ·exact⟨⟨_,_,_,_,_,_,_,_,rfl,rd_none hk11.out hno.out⟩,hlb.out.bel.trans ((kept_putQ _ _ _ _ _ _ _ _ _ _).below (by omega))⟩
 ·obtain⟨hp,hpx⟩:=found_at hF
  have hfo:Hid (fileOf x a.file.data.toList=some (x.files.getD p Ent.zero)):=hid (by
   have e:x.files.getD p Ent.zero=x.files[p]:=by simp[List.getD,hp]
   rw[e]
   exact fileOf_some ho.out (List.getElem_mem hp) hpx)
  have hfk:Hid (FileOk n B key (x.files.getD p Ent.zero).root (x.files.getD p Ent.zero).size):=hid (by
   have e:x.files.getD p Ent.zero=x.files[p]:=by simp[List.getD,hp]
   rw[e]
   exact hx.out.files.files _ (List.getElem_mem hp))
  clear hpx hF q0 q1 q2 q3 z0 z1 z2 z3
  have hXe:=hX.out.files.below hlb.out.bel
  have hpv:p<v.fn:=by rw[←hXe.1]; exact hp
  obtain⟨fb,fo,hfb⟩:∃ b off,v.fa=some ⟨b,off,none⟩:=by
   obtain⟨b,off,e,_⟩:=hXe.2.2 (by omega)
   exact⟨b,off,e⟩
  rw[hfb] at hXe
  have hA:=hXe.ent hpv
  generalize x.files.getD p Ent.zero=f at *
  have c1:=hA.c1
  have c2:=hA.c2
  have x1:=hlb.out.bX.cell 1
  have s0:=hlb.out.bS.cell 0
  have a4:=hlb.out.bA.cell 4
  have a5:=hlb.out.bA.cell 5
  simp at x1 s0 a4 a5
  rw[hfb] at x1
  have lS:=hlb.out.bS.lt
  have lA:=hlb.out.bA.lt
  have n1:=Nat.ne_of_lt lS
  have n2:=Nat.ne_of_lt lA
  have n1':=n1.symm
  have n2':=n2.symm
  replace hfb:=hid hfb
  clear hA hXe hp
  go_wp2_with fail
  have ba1:=below_alloc w1 (.cells #[.int .i64 f.root,.int .i64 f.size] 104)
  have kf:=hid (cellsAt_alloc w1 #[.int .i64 f.root,.int .i64 f.size] 104)
  replace hlb:=hid (hlb.out.below ba1)
  clear c1 c2 x1 s0 a4 a5 lS lA n1 n2 n1' n2' ba1
  generalize hW2:w1.alloc (.cells #[.int .i64 f.root,.int .i64 f.size] 104)=w2 at *
  replace hW2:=hid hW2
  refine(fileRead_full sa n sc B key f.root f.size a.pos a.num w2 (hs.out.below hlb.out.bel)).mono ?_
  rintro e w3 ⟨⟨hR,hW⟩,b3⟩
  have hsz2:=hid hlb.out.sz
  replace kf:=hid (kf.out.below b3)
  replace hlb:=hid (hlb.out.below b3)
  have f1:=kf.out.cell 1
  have q0:=hlb.out.r8.cell 0
  have q1:=hlb.out.r8.cell 1
  have q2:=hlb.out.r8.cell 2
  have q3:=hlb.out.r8.cell 3
  have z0:=hlb.out.r8.frozen 0
  have z1:=hlb.out.r8.frozen 1
  have z2:=hlb.out.r8.frozen 2
  have z3:=hlb.out.r8.frozen 3
  simp at f1 q0 q1 q2 q3
  have hr:=hW hfk.out
  rcases hR with⟨e', rfl,he,hno⟩ | ⟨y,ln,lc,rfl,_,hlc,hN⟩
  ·obtain rfl:e'=3:=by
    rcases hr with hr | hr
    ·exact absurd ⟨hfk.out,hr⟩ hno
    ·simpa using hr
   have hrn:Hid (¬rdOk a):=hid (fun hr=>hno ⟨hfk.out,hr⟩)
   clear hr hW hno he
   go_wp2_with fail
   refine bodyPost_ret (v:=.agg #[.int .i64 3,.int .i64 0,.slice none 0 0,.slice none 0 0]) ?_ rfl ?_
   ·exact results_cell_row rfl _ _ (w.heap.size+1+1+1) _ _ _ _ rfl (cells_putQ hlb.out.r8 3 0 none 0 0 none 0 0) Tryz.underlying41 rfl (by kernel_rfl)
   ·exact⟨⟨_,_,_,_,_,_,_,_,rfl,rd_range hk11.out hfo.out hrn.out⟩,hlb.out.bel.trans ((kept_putQ _ _ _ _ _ _ _ _ _ _).below (by omega))⟩
  ·have hrn:Hid (rdOk a):=hid (by
    rcases hr with hr | hr
    ·exact hr
    ·simp at hr)
   replace hN:=hid hN
   clear hr hW
   go_wp2_with fail
   refine bodyPost_ret (v:=.agg #[.int .i64 0,.int .i64 f.size,.slice none 0 0,.slice y ln lc]) ?_ rfl ?_
   ·exact results_cell_row rfl _ _ (w.heap.size+1+1+1) _ _ _ _ rfl (cells_putQ hlb.out.r8 0 f.size none 0 0 y ln lc) Tryz.underlying41 rfl (by kernel_rfl)
   ·exact⟨⟨_,_,_,_,_,_,_,_,rfl,rd_yes hk11.out hfo.out hrn.out hlc (((hN.out.weaken (R:=fun b=>w.heap.size+4≤b) (fun b _ h=>Nat.le_trans hsz2.out h)).kept (fun b h=>by omega) (kept_putQ _ _ _ _ _ _ _ _ _ _)).weaken (fun b _ h=>by omega))⟩,hlb.out.bel.trans ((kept_putQ _ _ _ _ _ _ _ _ _ _).below (by omega))⟩
def RetLk (base:Nat) (w:World) (B:Nat→Blk) (key:Int) (x:SetE) (a:AskE) (e:Ending):Prop:=∃ (e1 N:Int) (ya:Option Addr) (yn yc:Nat) (y:Option Addr) (ln lc:Nat) (e':Int),e=.returned (.tuple #[.agg #[.int .i64 e1,.int .i64 N,.slice ya yn yc,.slice y ln lc],.int .i64 e'])∧((a.kind=11∨a.kind=12)→e'=0∧LkIs base w B key x a e1 N ya yn yc y ln lc)
set_option maxHeartbeats 4000000 in
set_option maxRecDepth 100000 in
theorem look_all (Q:Nat→Prop) (sa:Option Addr) (n sc:Nat) (B:Nat→Blk) (key:Int) (v:SetV) (x:SetE) (a:AskE) (ba:Option Addr) (bn bc:Nat) (w:World) (hs:StoreAt w sa n B) (hX:SetAt Q w v x) (hx:SetOk n B key x):
 Calls Tryz.prog 69 #[.agg #[.slice sa n sc],.int .i64 key,v.val,a.val ba bn bc] w fun e w'=>RetLk w.heap.size w' B key x a e∧Below w.heap.size w w':=by
 have hlb:=lb_enter w sa n sc v a ba bn bc
 unfold enterL at hlb
 replace hlb:=hid hlb
 unfold AskE.val SetV.val
 replace hs:=hid hs
 replace hX:=hid hX
 replace hx:=hid hx
 go_enter Tryz.func69,Tryz.ntmps69
 go_wp2_with fail
 generalize (((w.alloc (.cells #[.slice sa n sc] 24)).alloc (.cells #[.string v.name,.slice v.fa v.fn v.fc,.slice v.sa v.sn v.sc] 84)).alloc (.cells #[.int .i64 a.kind,.string a.set,.string a.file,.string a.to,.int .i64 a.pos,.int .i64 a.num,.slice ba bn bc] 30)).alloc (.cells #[.int .i64 0,.int .i64 0,.slice none 0 0,.slice none 0 0] 41)=w0 at *
 refine(setCheck_any Q sa n sc B key v x w0 (hs.out.below hlb.out.bel) (hX.out.below hlb.out.bel)).mono ?_
 rintro e w1 ⟨⟨e', rfl,he⟩,b1⟩
 obtain rfl:e'=0:=he.2 hx.out
 replace hlb:=hid (hlb.out.below b1)
 clear he b1
 have s0:=hlb.out.bS.cell 0
 have x0:=hlb.out.bX.cell 0
 have x1:=hlb.out.bX.cell 1
 have x2:=hlb.out.bX.cell 2
 have a0:=hlb.out.bA.cell 0
 have a1:=hlb.out.bA.cell 1
 have a2:=hlb.out.bA.cell 2
 have a3:=hlb.out.bA.cell 3
 have a4:=hlb.out.bA.cell 4
 have a5:=hlb.out.bA.cell 5
 have a6:=hlb.out.bA.cell 6
 simp at s0 x0 x1 x2 a0 a1 a2 a3 a4 a5 a6
 by_cases hk:a.kind=11
 ·have hk':(a.kind == 11)=true:=by simp[hk]
  replace hk:=hid hk
  go_wp2_with fail
  refine(read_all Q sa n sc B key v x a ba bn bc w1 (hs.out.below hlb.out.bel) (hX.out.below hlb.out.bel) hx.out hk.out).mono ?_
  rintro e w2 ⟨⟨e1,N,ya,yn,yc,y,ln,lc,rfl,hlk⟩,b2⟩
  have hsz2:=hid hlb.out.sz
  replace hlk:=hid hlk
  replace hlb:=hid (hlb.out.below b2)
  have q0:=hlb.out.r8.cell 0
  have q1:=hlb.out.r8.cell 1
  have q2:=hlb.out.r8.cell 2
  have q3:=hlb.out.r8.cell 3
  have z0:=hlb.out.r8.frozen 0
  have z1:=hlb.out.r8.frozen 1
  have z2:=hlb.out.r8.frozen 2
  have z3:=hlb.out.r8.frozen 3
  simp at q0 q1 q2 q3
  clear b2 s0 x0 x1 x2 a0 a1 a2 a3 a4 a5 a6
  go_wp2_with fail
  refine bodyPost_ret (v:=.tuple #[.agg #[.int .i64 e1,.int .i64 N,.slice ya yn yc,.slice y ln lc],.int .i64 0]) (by rw[results_cell_tmp rfl]; go_simp) rfl ?_
  exact⟨⟨_,_,_,_,_,_,_,_,_,rfl,fun _=>⟨rfl,hlk.out.kept (kept_putQ w2 (w.heap.size+1+1+1) e1 N ya yn yc y ln lc) (by have:=hsz2.out; omega) (by have:=hsz2.out; omega)⟩⟩,hlb.out.bel.trans ((kept_putQ w2 (w.heap.size+1+1+1) e1 N ya yn yc y ln lc).below (by omega))⟩
 ·have hk':(a.kind == 11)=false:=by simp[hk]
  by_cases hk2:a.kind=12
  ·have hk2':(a.kind == 12)=true:=by simp[hk2]
   replace hk2:=hid hk2
   replace hk:=hid hk
   go_wp2_with fail
   refine(list_any Q v x w1 (hX.out.below hlb.out.bel) hx.out.files.few).mono ?_
   rintro e w2 ⟨⟨y,rfl,hst⟩,b2⟩
   have hsz2:=hid hlb.out.sz
   replace hst:=hid hst
   have hfl:=hid hX.out.files.1
   replace hlb:=hid (hlb.out.below b2)
   have q0:=hlb.out.r8.cell 0
   have q1:=hlb.out.r8.cell 1
   have q2:=hlb.out.r8.cell 2
   have q3:=hlb.out.r8.cell 3
   have z0:=hlb.out.r8.frozen 0
   have z1:=hlb.out.r8.frozen 1
   have z2:=hlb.out.r8.frozen 2
   have z3:=hlb.out.r8.frozen 3
   simp at q0 q1 q2 q3
   clear b2 s0 x0 x1 x2 a0 a1 a2 a3 a4 a5 a6
   go_wp2_with fail
   refine bodyPost_ret (v:=.tuple #[.agg #[.int .i64 0,.int .i64 (v.fn:Int),.slice y v.fn v.fn,.slice none 0 0],.int .i64 0]) (by rw[results_cell_tmp rfl]; go_simp) rfl ?_
   exact⟨⟨_,_,_,_,_,_,_,_,_,rfl,fun _=>⟨rfl,(rd_list (B:=B) (key:=key) hk2.out hfl.out hst.out).kept (kept_putQ w2 (w.heap.size+1+1+1) 0 v.fn y v.fn v.fn none 0 0) (by have:=hsz2.out; omega) (by have:=hsz2.out; omega)⟩⟩,hlb.out.bel.trans ((kept_putQ w2 (w.heap.size+1+1+1) 0 v.fn y v.fn v.fn none 0 0).below (by omega))⟩
  ·have hk2':(a.kind == 12)=false:=by simp[hk2]
   have q0:=hlb.out.r8.cell 0
   have q1:=hlb.out.r8.cell 1
   have q2:=hlb.out.r8.cell 2
   have q3:=hlb.out.r8.cell 3
   have z0:=hlb.out.r8.frozen 0
   have z1:=hlb.out.r8.frozen 1
   have z2:=hlb.out.r8.frozen 2
   have z3:=hlb.out.r8.frozen 3
   simp at q0 q1 q2 q3
   replace hk2:=hid hk2
   replace hk:=hid hk
   go_wp2_with fail
   refine bodyPost_ret (v:=.tuple #[.agg #[.int .i64 0,.int .i64 0,.slice none 0 0,.slice none 0 0],.int .i64 4]) (by rw[results_cell_tmp rfl]; go_simp) rfl ?_
   exact⟨⟨_,_,_,_,_,_,_,_,_,rfl,fun f=>absurd f (fun f=>f.elim hk.out hk2.out)⟩,hlb.out.bel.trans ((kept_putQ w1 (w.heap.size+1+1+1) 0 0 none 0 0 none 0 0).below (by omega))⟩
end Go.Proofs.YtjafgnohlkkopaaGreatDoor

namespace Go.Proofs.YtjafgnohlkkopaaGreatDoor
open Go.RowKit
def NoChg (n:Nat) (B:Nat→Blk) (t:TenE) (k:Nat) (x:SetE) (a:AskE) (e1:Int):Prop:=(ChgNo n B t.key x a∧ErrIs n B t.key e1 x a)∨(e1=8∧∃ D y q,Did n B t.key x a 2000 D y∧Uses D (rootsL (t.sets.set k y)) q∧t.quota<q)
def Other (a:AskE):Prop:=a.kind≠1∧a.kind≠13∧a.kind≠11∧a.kind≠12∧a.kind≠2∧a.kind≠10
inductive DoCase (n:Nat) (B:Nat→Blk) (l:List TenE) (i:Nat) (t:TenE) (a:AskE):(Nat→Blk)→List TenE→Int→Int→Prop
 | noadd (e1:Int):a.kind=1→e1≠0→AddNo t.sets a.set e1→DoCase n B l i t a B l e1 0
 | add (p:Nat):a.kind=1→IsName a.set→t.sets.length<3→Found SetE.nm t.sets a.set.data.toList p false→DoCase n B l i t a B (l.set i ⟨t.key,t.quota,t.sets.take p++⟨a.set,[],[]⟩::t.sets.drop p⟩) 0 0
 | uses (N:Int):a.kind=13→Uses B (rootsT t) N→DoCase n B l i t a B l 0 N
 | missing:a.kind≠1→a.kind≠13→(¬∃ x∈t.sets,x.nm=a.set.data.toList)→DoCase n B l i t a B l 5 0
 | look (k:Nat) (x:SetE) (e1 N:Int):t.sets[k]? =some x→x.nm=a.set.data.toList→(a.kind=11∨a.kind=12)→e1=lookE x a→N=lookN x a→DoCase n B l i t a B l e1 N
 | destroy (k:Nat) (x:SetE) (D:Nat→Blk):t.sets[k]? =some x→x.nm=a.set.data.toList→a.kind=2→Right n D→Fell n B D (rootsX x)→DoCase n B l i t a D (l.set i ⟨t.key,t.quota,t.sets.eraseIdx k⟩) 0 0
 | noclone (k:Nat) (x:SetE) (e1:Int):t.sets[k]? =some x→x.nm=a.set.data.toList→a.kind=10→e1≠0→ClnNo t.sets x a e1→DoCase n B l i t a B l e1 0
 | clone (k:Nat) (x:SetE) (C:Nat→Blk) (y:SetE) (p:Nat):t.sets[k]? =some x→x.nm=a.set.data.toList→a.kind=10→SetOk n C t.key y→ClF n B C x a.to a.file y→t.sets.length<3→Found SetE.nm t.sets y.nm p false→DoCase n B l i t a C (l.set i ⟨t.key,t.quota,t.sets.take p++y::t.sets.drop p⟩) 0 0
 | nochange (k:Nat) (x:SetE) (e1:Int):t.sets[k]? =some x→x.nm=a.set.data.toList→Other a→e1≠0→NoChg n B t k x a e1→DoCase n B l i t a B l e1 0
 | change (k:Nat) (x:SetE) (D:Nat→Blk) (y:SetE) (q:Int):t.sets[k]? =some x→x.nm=a.set.data.toList→Other a→Did n B t.key x a 2000 D y→Uses D (rootsL (t.sets.set k y)) q→q≤t.quota→DoCase n B l i t a D (l.set i ⟨t.key,t.quota,t.sets.set k y⟩) 0 0
structure DoIs (n:Nat) (B D:Nat→Blk) (l l':List TenE) (i:Nat) (t:TenE) (a:AskE) (e1:Int):Prop where
 ok:PoolOk n D l'
 set:∃ t', l'=l.set i t'∧t'.key=t.key∧t'.quota=t.quota
 oth:∀ (j:Nat) (u:TenE),l[j]? =some u→j≠i→Stays n B D (rootsT u)
 still:(e1≠0∨a.kind=11∨a.kind=12∨a.kind=13)→D=B∧l'=l
theorem set_self {l:List TenE} {i:Nat} {t:TenE} (h:l[i]? =some t):l=l.set i t:=by
 obtain⟨hi,rfl⟩:=List.getElem?_eq_some_iff.1 h
 rw[List.set_getElem_self]
theorem DoIs.same {n:Nat} {B:Nat→Blk} {l:List TenE} {i:Nat} {t:TenE} {a:AskE} {e1:Int} (h:PoolOk n B l) (hi:l[i]? =some t):DoIs n B B l l i t a e1:=
 ⟨h,⟨t,set_self hi,rfl,rfl⟩,fun j u hj _=>stays_refl h.right (h.tens u (List.mem_of_getElem? hj)).rootsOk,fun _=>⟨rfl,rfl⟩⟩
theorem DoIs.of_step {n:Nat} {B D:Nat→Blk} {l:List TenE} {i:Nat} {t t':TenE} {a:AskE} {e1:Int} (h:Step n B D l i t') (hk:t'.key=t.key) (hq:t'.quota=t.quota) (hno:e1=0∧a.kind≠11∧a.kind≠12∧a.kind≠13):DoIs n B D l (l.set i t') i t a e1:=
 ⟨h.ok,⟨t', rfl,hk,hq⟩,h.oth,fun f=>by rcases f with f | f | f | f<;>simp_all⟩
theorem more_le (a:AskE):(2000:Int)+moreOf a+24≤1000000:=by unfold moreOf; split<;>omega
theorem DoCase.is {n:Nat} {B D:Nat→Blk} {l l':List TenE} {i:Nat} {t:TenE} {a:AskE} {e1 N:Int} (h:PoolOk n B l) (hi:l[i]? =some t) (hb:Bytes a.bytes) (hc:DoCase n B l i t a D l' e1 N):DoIs n B D l l' i t a e1:=by
 cases hc with
 | noadd=>exact DoIs.same h hi
 | add p h1 h2 h3 h4=>exact DoIs.of_step (h.add hi h3 h2 h4) rfl rfl ⟨rfl,by omega,by omega,by omega⟩
 | uses=>exact DoIs.same h hi
 | missing=>exact DoIs.same h hi
 | look=>exact DoIs.same h hi
 | destroy k x D h1 h2 h3 h4 h5=>exact DoIs.of_step (h.destroy hi h1 h4 h5) rfl rfl ⟨rfl,by omega,by omega,by omega⟩
 | noclone=>exact DoIs.same h hi
 | clone k x C y p h1 h2 h3 h4 h5 h6 h7=>exact DoIs.of_step (h.clone hi h1 h6 h7 h4 h5) rfl rfl ⟨rfl,by omega,by omega,by omega⟩
 | nochange=>exact DoIs.same h hi
 | change k x D y q h1 h2 h3 h4 h5 h6=>exact DoIs.of_step (h.change hi h1 hb h.refs (more_le a) h4 h5 h6) rfl rfl ⟨rfl,h3.2.2.1,h3.2.2.2.1,h3.2.1⟩
end Go.Proofs.YtjafgnohlkkopaaGreatDoor

namespace Go.Proofs.YtjafgnohlkkopaaGreatDoor
open Go.RowKit
def setOf (t:TenE) (nm:List UInt8):Option SetE:=t.sets.find? (fun x=>x.nm == nm)
def ansS (t:TenE) (a:AskE):List ByteArray:=if a.kind=11∨a.kind=12 then match setOf t a.set.data.toList with | none=>[] | some x=>lookS x a else []
def ansB (B:Nat→Blk) (t:TenE) (a:AskE):List Int:=if a.kind=11∨a.kind=12 then match setOf t a.set.data.toList with | none=>[] | some x=>lookB B t.key x a else []
theorem setOf_none {t:TenE} {nm:List UInt8} (h:¬∃ x∈t.sets,x.nm=nm):setOf t nm=none:=by
 unfold setOf
 rw[List.find?_eq_none]
 intro f hf
 simp only[beq_iff_eq]
 exact fun e=>h ⟨f,hf,e⟩
theorem setOf_some {t:TenE} {nm:List UInt8} {x:SetE} (ho:t.sets.Pairwise fun a b=>a.nm<b.nm) (hf:x∈t.sets) (hn:x.nm=nm):setOf t nm=some x:=by
 unfold setOf
 cases h:t.sets.find? (fun x=>x.nm == nm) with
 | none=>
   rw[List.find?_eq_none] at h
   have:=h x hf
   simp only[beq_iff_eq] at this
   exact absurd hn this
 | some g=>
   have h1:=List.find?_some h
   simp only[beq_iff_eq] at h1
   rw[ordered_one SetE.nm ho (List.mem_of_find?_eq_some h) hf (h1.trans hn.symm)]
structure AnsIn (Q:Nat→Prop) (w:World) (S:List ByteArray) (b:List Int) (ya:Option Addr) (yn yc:Nat) (y:Option Addr) (ln lc:Nat):Prop where
 names:StrsAt Q w ya yn S
 bytes:NumsAt Q .u8 w y ln b
 caps:yn≤yc∧ln≤lc
theorem ansIn_nil (Q:Nat→Prop) (w:World):AnsIn Q w [] [] none 0 0 none 0 0:=⟨strsAt_nil _ _ _,numsAt_nil _ _ _ _,Nat.le_refl _,Nat.le_refl _⟩
theorem ansIn_no {Q:Nat→Prop} {w:World} {B:Nat→Blk} {t:TenE} {a:AskE} (h:¬(a.kind=11∨a.kind=12)):AnsIn Q w (ansS t a) (ansB B t a) none 0 0 none 0 0:=by
 unfold ansS ansB
 rw[if_neg h,if_neg h]
 exact ansIn_nil _ _
theorem ansIn_missing {Q:Nat→Prop} {w:World} {B:Nat→Blk} {t:TenE} {a:AskE} (h:¬∃ x∈t.sets,x.nm=a.set.data.toList):AnsIn Q w (ansS t a) (ansB B t a) none 0 0 none 0 0:=by
 unfold ansS ansB
 rw[setOf_none h]
 split<;>exact ansIn_nil _ _
theorem ansIn_look {base:Nat} {w:World} {B:Nat→Blk} {t:TenE} {x:SetE} {a:AskE} {e1 N:Int} {ya:Option Addr} {yn yc:Nat} {y:Option Addr} {ln lc:Nat} (hk:a.kind=11∨a.kind=12) (hs:setOf t a.set.data.toList=some x) (h:LkIs base w B t.key x a e1 N ya yn yc y ln lc):AnsIn (fun b=>base≤b) w (ansS t a) (ansB B t a) ya yn yc y ln lc:=by
 unfold ansS ansB
 rw[if_pos hk,if_pos hk,hs]
 exact⟨h.names,h.bytes,h.caps⟩
theorem AnsIn.below {Q:Nat→Prop} {w w':World} {S:List ByteArray} {l:List Int} {ya:Option Addr} {yn yc:Nat} {y:Option Addr} {ln lc:Nat} (h:AnsIn Q w S l ya yn yc y ln lc) (b:Below w.heap.size w w'):AnsIn Q w' S l ya yn yc y ln lc:=⟨h.names.below b,h.bytes.below b,h.caps⟩
theorem AnsIn.weaken {Q R:Nat→Prop} {w:World} {S:List ByteArray} {l:List Int} {ya:Option Addr} {yn yc:Nat} {y:Option Addr} {ln lc:Nat} (h:AnsIn Q w S l ya yn yc y ln lc) (hq:∀ b,b<w.heap.size→Q b→R b):AnsIn R w S l ya yn yc y ln lc:=⟨h.names.weaken hq,h.bytes.weaken hq,h.caps⟩
theorem AnsIn.kept {Q:Nat→Prop} {w w':World} {S:List ByteArray} {l:List Int} {ya:Option Addr} {yn yc:Nat} {y:Option Addr} {ln lc:Nat} {g:Nat} (h:AnsIn Q w S l ya yn yc y ln lc) (hq:∀ b,Q b→b≠g) (k:Kept g w w'):AnsIn Q w' S l ya yn yc y ln lc:=⟨h.names.kept hq k,h.bytes.kept hq k,h.caps⟩
theorem AnsIn.only {M Q:Nat→Prop} {w w':World} {S:List ByteArray} {l:List Int} {ya:Option Addr} {yn yc:Nat} {y:Option Addr} {ln lc:Nat} (h:AnsIn Q w S l ya yn yc y ln lc) (on:Only M w w') (hq:∀ b,Q b→¬M b):AnsIn Q w' S l ya yn yc y ln lc:=⟨on.strs h.names hq,on.nums h.bytes hq,h.caps⟩
def RetPDo (H:Nat) (X:Nat→Prop) (w:World) (ob n:Nat) (B:Nat→Blk) (tb tn tc:Nat) (L:List TenM) (i:Nat) (m:TenM) (a:AskE) (e:Ending) (w':World):Prop:=
 ∃ (e1 N:Int) (ya:Option Addr) (yn yc:Nat) (y:Option Addr) (ln lc:Nat) (g':Nat) (D:Nat→Blk) (L':List TenM),e=.returned (.agg #[.int .i64 e1,.int .i64 N,.slice ya yn yc,.slice y ln lc])∧Below H w w'∧Only (PM ob tb tn tc L) w w'∧PSt H X w' ob g' n D (some ⟨tb,0,none⟩) tn tc L'∧DoCase n B (L.map TenM.e) i m.e a D (L'.map TenM.e) e1 N∧AnsIn (fun b=>w.heap.size≤b) w' (ansS m.e a) (ansB B m.e a) ya yn yc y ln lc∧((yn=0∧ln=0)∨PSt H (fun b=>X b∨(w.heap.size≤b∧b<w'.heap.size)) w' ob g' n D (some ⟨tb,0,none⟩) tn tc L')
abbrev objA (a:AskE) (ba:Option Addr) (bn bc:Nat):Obj:=.cells #[.int .i64 a.kind,.string a.set,.string a.file,.string a.to,.int .i64 a.pos,.int .i64 a.num,.slice ba bn bc] 30
abbrev objW:Obj:=.cells #[.int .i64 0,.int .i64 0,.slice none 0 0,.slice none 0 0] 41
structure OB (W w:World) (a:AskE) (ba:Option Addr) (bn bc:Nat):Prop where
 bel:Below W.heap.size W w
 bA:CellsAt w W.heap.size #[.int .i64 a.kind,.string a.set,.string a.file,.string a.to,.int .i64 a.pos,.int .i64 a.num,.slice ba bn bc] 30
 bR:CellsAt w (W.heap.size+1) #[.int .i64 0,.int .i64 0,.slice none 0 0,.slice none 0 0] 41
theorem OB.below {W w w':World} {a:AskE} {ba:Option Addr} {bn bc:Nat} (h:OB W w a ba bn bc) (b:Below w.heap.size w w'):OB W w' a ba bn bc:=⟨Below.tr h.bel b,h.bA.below b,h.bR.below b⟩
theorem ob_enter (w:World) (a:AskE) (ba:Option Addr) (bn bc:Nat):OB w ((w.alloc (objA a ba bn bc)).alloc objW) a ba bn bc:=
 ⟨below_two w _ _,(cellsAt_alloc w _ _).below (below_alloc _ _),cellsAt_alloc2 w (objA a ba bn bc) _ _⟩
abbrev YB (X:Nat→Prop) (q:Nat):Nat→Prop:=fun b=>X b∨b=q
theorem PSt.boxed {H:Nat} {X:Nat→Prop} {w w0:World} {ob g n:Nat} {B:Nat→Blk} {ta:Option Addr} {tn tc:Nat} {L:List TenM} {a:AskE} {ba:Option Addr} {bn bc:Nat} (h:PSt H X w ob g n B ta tn tc L) (o:OB w w0 a ba bn bc):PSt H (YB X (w.heap.size+1)) w0 ob g n B ta tn tc L:=
 h.clear o.bel (fun b y=>y.imp id (fun e=>⟨by omega,by rw[e]; exact o.bR.lt⟩)) (.inl h.hx)
theorem do_fin {H:Nat} {X:Nat→Prop} {w w1:World} {ob g g' n tb tn tc i:Nat} {B D:Nat→Blk} {L L':List TenM} {m:TenM} {a:AskE} {c0 c1 c2 c3:Value} {e1 N:Int} {ya:Option Addr} {yn yc:Nat} {y:Option Addr} {ln lc:Nat} (h:PSt H X w ob g n B (some ⟨tb,0,none⟩) tn tc L) (h1:PSt H (YB X (w.heap.size+1)) w1 ob g' n D (some ⟨tb,0,none⟩) tn tc L') (hB:Below H w w1) (on:Only (PM ob tb tn tc L) w w1) (k:CellsAt w1 (w.heap.size+1) #[c0,c1,c2,c3] 41) (hc:DoCase n B (L.map TenM.e) i m.e a D (L'.map TenM.e) e1 N)
 (hr:AnsIn (fun b=>w.heap.size+2≤b) w1 (ansS m.e a) (ansB B m.e a) ya yn yc y ln lc) (hf:(yn=0∧ln=0)∨PSt H (fun b=>X b∨(w.heap.size≤b∧b<w1.heap.size)) w1 ob g' n D (some ⟨tb,0,none⟩) tn tc L'):
 RetPDo H X w ob n B tb tn tc L i m a (.returned (.agg #[.int .i64 e1,.int .i64 N,.slice ya yn yc,.slice y ln lc])) (putQ w1 (w.heap.size+1) e1 N ya yn yc y ln lc):=by
 have kk:=kept_putQ w1 (w.heap.size+1) e1 N ya yn yc y ln lc
 have hob:=h.box.lt
 have hsz:=h.mine.sz
 refine⟨e1,N,ya,yn,yc,y,ln,lc,g', D,L', rfl,hB.trans (kk.below (by omega)),on.trans2 (Only.of_kept (M:=fun b=>b=w.heap.size+1) kk rfl) (fun q hq e=>by omega),(h1.kept kk (.inr rfl) (by omega)).clear (Below.refl _ _) (fun b x=>.inl (.inl x)) h.hx,hc,(hr.kept (g:=w.heap.size+1) (fun b hb=>by omega) kk).weaken (fun b _ q=>by omega),hf.imp id (fun hf=>by
  have:=k.lt
  have h2:=hf.kept kk (.inr ⟨by omega,this⟩) (by omega)
  rw[kk.size]
  exact h2)⟩
theorem empty_set {Q:Nat→Prop} {w:World} {nm:ByteArray} (h:nm.size≤maxLen):SetAt Q w ⟨nm,none,0,0,none,0,0⟩ ⟨nm,[],[]⟩:=by
 refine⟨rfl,h,?_,?_,?_⟩
 ·first | exact entsAt_nil _ _ _ | exact⟨rfl,fun x hx=>by simp at hx,fun hp=>absurd hp (by omega)⟩
 ·first | exact snapsAt_nil _ _ _ | exact⟨rfl,fun x hx=>by simp at hx,fun hp=>absurd hp (by omega)⟩ | exact⟨rfl,fun hp=>absurd hp (by omega)⟩
 ·first | exact⟨Nat.le_refl _,Nat.le_refl _⟩ | simp
theorem map_set_e (L:List TenM) (i:Nat) (m:TenM):(L.set i m).map TenM.e=(L.map TenM.e).set i m.e:=List.map_set
set_option maxHeartbeats 4000000 in
set_option maxRecDepth 100000 in
theorem poolMk_any (H:Nat) (X:Nat→Prop) (ob g n:Nat) (B:Nat→Blk) (tb tn tc:Nat) (L:List TenM) (i:Nat) (m:TenM) (a:AskE) (ba:Option Addr) (bn bc:Nat) (w:World) (h:PSt H X w ob g n B (some ⟨tb,0,none⟩) tn tc L) (hm:L[i]? =some m) (hok:PoolOk n B (L.map TenM.e)) (hao:a.ok) (hk:a.kind=1):
 Calls Tryz.prog 20 #[.pointer (some ⟨ob,0,none⟩),.pointer (some ⟨tb,i*3,none⟩),.agg #[.int .i64 a.kind,.string a.set,.string a.file,.string a.to,.int .i64 a.pos,.int .i64 a.num,.slice ba bn bc]] w fun e w'=>RetPDo H X w ob n B tb tn tc L i m a e w':=by
 have hob:=ob_enter w a ba bn bc
 have hmT:m.e∈L.map TenM.e:=List.mem_map.2 ⟨m,List.mem_of_getElem? hm,rfl⟩
 have hT:=hok.tens _ hmT
 have hml:(m.ms.map (·.x)).length=m.sn:=(h.sets hm).1
 have h3:m.sn≤3:=by have:=hT.few; rw[←hml]; exact this
 have ho:(m.ms.map (·.x)).Pairwise fun a b=>a.nm<b.nm:=hT.order
 have h0:=hid (h.boxed hob)
 have hka:(a.kind == 1)=true:=by simp[hk]
 unfold objA objW at hob
 replace hob:=hid hob
 replace h:=hid h
 replace hk:=hid hk
 replace ho:=hid ho
 replace hml:=hid hml
 replace hm:=hid hm
 clear hT hmT
 go_enter Tryz.func20,Tryz.ntmps20
 go_upto_region 1 with fail
 generalize (w.alloc (.cells #[.int .i64 a.kind,.string a.set,.string a.file,.string a.to,.int .i64 a.pos,.int .i64 a.num,.slice ba bn bc] 30)).alloc (.cells #[.int .i64 0,.int .i64 0,.slice none 0 0,.slice none 0 0] 41)=w0 at *
 have a0:=hob.out.bA.cell 0
 have a1:=hob.out.bA.cell 1
 simp only[List.getElem?_toArray,List.getElem?_cons_zero,List.getElem?_cons_succ] at a0 a1
 go_wp2_with fail
 refine(poolAdd_any H (YB X (w.heap.size+1)) ob g n B tb tn tc L i m ⟨a.set,none,0,0,none,0,0⟩ ⟨a.set,[],[]⟩ w0 h0.out hm.out ho.out h3 (empty_set hao.1.1)).mono ?_
 have hH:=h.out.mine.sz
 rintro e w1 (⟨e', rfl,he,b1,hno⟩ | ⟨rfl,hNm,hlt3,bH,a', c', p,hF,hPS,on,hR⟩)
 ·have hob1:=hob.out.below b1
  have q0:=hob1.bR.cell 0
  have q1:=hob1.bR.cell 1
  have q2:=hob1.bR.cell 2
  have q3:=hob1.bR.cell 3
  have z0:=hob1.bR.frozen 0
  have z1:=hob1.bR.frozen 1
  have z2:=hob1.bR.frozen 2
  have z3:=hob1.bR.frozen 3
  simp only[List.getElem?_toArray,List.getElem?_cons_zero,List.getElem?_cons_succ] at q0 q1 q2 q3
  replace hno:=hid hno
  replace b1:=hid b1
  replace hob1:=hid hob1
  clear a0 a1
  go_wp2_with fail
  refine bodyPost_ret (v:=.agg #[.int .i64 e', .int .i64 0,.slice none 0 0,.slice none 0 0]) (results_cell_row rfl _ _ (w.heap.size+1) _ _ _ _ rfl (cells_putQ hob1.out.bR e' 0 none 0 0 none 0 0) Tryz.underlying41 rfl (by kernel_rfl)) rfl ?_
  exact do_fin h.out (h0.out.below b1.out) ((Below.tr hob.out.bel b1.out).mono hH) ((Only.of_below hob.out.bel).trans (Only.of_below b1.out)) hob1.out.bR (.noadd e' hk.out he hno.out) (ansIn_no (by have:=hk.out; omega)) (.inl ⟨rfl,rfl⟩)
 ·have hnr:¬RowsP (.slice (some ⟨tb,0,none⟩) tn tc) L tn (w.heap.size+1):=fun f=>by have:=(h.out.mine.ge f).2; omega
  have kR:=on.cells hob.out.bR hnr
  have q0:=kR.cell 0
  have q1:=kR.cell 1
  have q2:=kR.cell 2
  have q3:=kR.cell 3
  have z0:=kR.frozen 0
  have z1:=kR.frozen 1
  have z2:=kR.frozen 2
  have z3:=kR.frozen 3
  simp only[List.getElem?_toArray,List.getElem?_cons_zero,List.getElem?_cons_succ] at q0 q1 q2 q3
  replace hPS:=hid hPS
  replace on:=hid on
  replace hF:=hid hF
  replace bH:=hid bH
  replace kR:=hid kR
  clear a0 a1 hR hnr
  go_wp2_with fail
  refine bodyPost_ret (v:=.agg #[.int .i64 0,.int .i64 0,.slice none 0 0,.slice none 0 0]) (results_cell_row rfl _ _ (w.heap.size+1) _ _ _ _ rfl (cells_putQ kR.out 0 0 none 0 0 none 0 0) Tryz.underlying41 rfl (by kernel_rfl)) rfl ?_
  refine do_fin h.out hPS.out ((hob.out.bel.mono hH).trans bH.out) ((Only.of_below hob.out.bel).trans (on.out.mono (fun b _ q=>.inr q))) kR.out ?_ (ansIn_no (by have:=hk.out; omega)) (.inl ⟨rfl,rfl⟩)
  rw[map_set_e]
  have e:TenM.e { m with sa:=a', sn:=m.sn+1,sc:=c', ms:=m.ms.take p++⟨⟨a.set,none,0,0,none,0,0⟩,⟨a.set,[],[]⟩⟩::m.ms.drop p }=⟨m.e.key,m.e.quota,m.e.sets.take p++⟨a.set,[],[]⟩::m.e.sets.drop p⟩:=by
   simp[TenM.e,List.map_take,List.map_drop]
  rw[e]
  exact .add p hk.out hNm (by show (m.ms.map (·.x)).length<3; rw[hml.out]; exact hlt3) hF.out
end Go.Proofs.YtjafgnohlkkopaaGreatDoor
