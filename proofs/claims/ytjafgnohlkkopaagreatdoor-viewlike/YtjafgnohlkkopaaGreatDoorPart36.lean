/-
  PldN, PldT, FileK, OpenS, OpenT, OpenX, OpenP in one text. Nothing here is trusted.
-/
import Derived.Test.YtjafgnohlkkopaaGreatDoorPart35
import Derived.Test.YtjafgnohlkkopaaGreatDoorPart34
import Derived.Test.YtjafgnohlkkopaaGreatDoorPart19
import Derived.Lib.SmallJoins
import Derived.Lib.SlBytesConst
import Derived.Test.YtjafgnohlkkopaaGreatDoorPart01
import Derived.WalkKit
import Derived.ProofKit
import Derived.OpenShut
import Derived.Deep.Slices
import Derived.Test.YtjafgnohlkkopaaGreatDoorPart09
import Derived.Deep.Strs
import Derived.Test.YtjafgnohlkkopaaGreatDoorPart13
set_option linter.unusedVariables false
namespace Go.Proofs.YtjafgnohlkkopaaGreatDoor
open Go.RowKit
theorem Tryz.infoTn:(Tryz.prog.info? 64).map (fun i=>(i.zero,i.size,i.bytes))=some (some (.agg #[.int .i64 0,.int .i64 0,.slice none 0 0]),3,40):=by kernel_rfl
theorem Only.snaps {M:Nat→Prop} {a b:World} (h:Only M a b) {Q:Nat→Prop} {x:Option Addr} {n:Nat} {l:List SnapE} (he:SnapsAt Q a x n l) (hm:∀ k,Q k→¬M k):SnapsAt Q b x n l:=by
 refine⟨he.1,fun hn=>?_⟩
 obtain⟨g,off,rfl,hlt,hq,hc⟩:=he.2 hn
 refine⟨g,off,rfl,Nat.lt_of_lt_of_le hlt h.size,hq,fun i hi=>?_⟩
 obtain⟨fa,fn,fc,hs⟩:=hc i hi
 exact⟨fa,fn,fc,(h.cell (p:=⟨g,off+i*2,none⟩) hlt (hm g hq)).trans hs.c0,(h.cell (p:=⟨g,off+i*2+1,none⟩) hlt (hm g hq)).trans hs.c1,h.ents hs.files hm,hs.small,hs.caps⟩
theorem Only.set {M:Nat→Prop} {a b:World} (h:Only M a b) {Q:Nat→Prop} {v:SetV} {x:SetE} (he:SetAt Q a v x) (hm:∀ k,Q k→¬M k):SetAt Q b v x:=⟨he.name,he.small,h.ents he.files hm,h.snaps he.snaps hm,he.caps⟩
theorem Only.sets {M:Nat→Prop} {a b:World} (h:Only M a b) {Q:Nat→Prop} {x:Option Addr} {n:Nat} {l:List SetE} (he:SetsAt Q a x n l) (hm:∀ k,Q k→¬M k):SetsAt Q b x n l:=by
 refine⟨he.1,fun hn=>?_⟩
 obtain⟨g,off,rfl,hlt,hq,hc⟩:=he.2 hn
 refine⟨g,off,rfl,Nat.lt_of_lt_of_le hlt h.size,hq,fun i hi=>?_⟩
 obtain⟨v,hs⟩:=hc i hi
 exact⟨v,(h.cell (p:=⟨g,off+i*3,none⟩) hlt (hm g hq)).trans hs.c0,(h.cell (p:=⟨g,off+i*3+1,none⟩) hlt (hm g hq)).trans hs.c1,(h.cell (p:=⟨g,off+i*3+2,none⟩) hlt (hm g hq)).trans hs.c2,h.set hs.ok hm⟩
theorem Only.tens {M:Nat→Prop} {a b:World} (h:Only M a b) {Q:Nat→Prop} {x:Option Addr} {n:Nat} {l:List TenE} (he:TensAt Q a x n l) (hm:∀ k,Q k→¬M k):TensAt Q b x n l:=by
 refine⟨he.1,fun hn=>?_⟩
 obtain⟨g,off,rfl,hlt,hq,hc⟩:=he.2 hn
 refine⟨g,off,rfl,Nat.lt_of_lt_of_le hlt h.size,hq,fun i hi=>?_⟩
 obtain⟨sa,sn,sc,hs⟩:=hc i hi
 exact⟨sa,sn,sc,(h.cell (p:=⟨g,off+i*3,none⟩) hlt (hm g hq)).trans hs.c0,(h.cell (p:=⟨g,off+i*3+1,none⟩) hlt (hm g hq)).trans hs.c1,(h.cell (p:=⟨g,off+i*3+2,none⟩) hlt (hm g hq)).trans hs.c2,h.sets hs.ok.sets hm,hs.ok.kb,hs.ok.qb,hs.ok.caps⟩
theorem kept_drew (g:Nat) (w:World):Kept g w w.drew:=⟨rfl,rfl,rfl,rfl,fun _ _=>rfl⟩
/-- what New answers -/
def RetNw (base:Nat) (e:Ending) (w:World) (n:Nat) (l:List TenE):Prop:=
 ∃ (g c:Nat) (ta:Option Addr) (tn tc:Nat),e=.returned (.tuple #[.agg #[.slice (some ⟨g,0,none⟩) n c,.slice ta tn tc],.int .i64 0])∧base≤g∧g<w.heap.size∧Blocks (fun b=>base≤b) w g 0 n (fun _=>Blk.zero)∧TensAt (fun b=>base≤b) w ta tn l∧tn≤tc
theorem make_2 (w:World):(Instr.makeSlice 25 (.int .i64 2) (.int .i64 2)).run Tryz.prog w=.ok (.slice (some ⟨w.heap.size,0,none⟩) 2 2) (w.alloc (.cells #[.int .i64 0,.int .i64 0,.slice none 0 0,.int .i64 0,.int .i64 0,.slice none 0 0] 64)):=by
 obtain⟨i0,hi,hz0,hz1,hz2⟩:=info_parts Tryz.infoTn
 rw[run_makeSlice (P:=Tryz.prog) w 25 64 i0 _ Tryz.underlying25 hi hz0 .i64 .i64 2 2 (by omega) (by omega) (by rw[hz1]; decide) (by rw[hz2]; decide) (by decide),hz1]
 have e:madeCells (Value.agg #[.int .i64 0,.int .i64 0,.slice none 0 0]).cells (Int.toNat 2*3)=#[.int .i64 0,.int .i64 0,.slice none 0 0,.int .i64 0,.int .i64 0,.slice none 0 0]:=by
  first
  | rfl
  | simp[madeCells,Value.cells,Array.range_succ,Array.range_zero']
  | kernel_rfl
 rw[e]
 rfl
set_option maxHeartbeats 4000000 in
set_option maxRecDepth 100000 in
theorem new2_any (n:Nat) (k0 k1 q0 q1:Int) (kb qb:Nat) (w:World) (hn:n≤400) (hk:CellsAt w kb #[.int .i64 k0,.int .i64 k1] 3) (hq:CellsAt w qb #[.int .i64 q0,.int .i64 q1] 3) (hb:(-9223372036854775808≤k0∧k0≤9223372036854775807)∧(-9223372036854775808≤k1∧k1≤9223372036854775807)∧(-9223372036854775808≤q0∧q0≤9223372036854775807)∧(-9223372036854775808≤q1∧q1≤9223372036854775807)) (hok:PoolOk n (fun _=>Blk.zero) [⟨k0,q0,[]⟩,⟨k1,q1,[]⟩]):
 Calls Tryz.prog 30 #[.int .i64 n,.slice (some ⟨kb,0,none⟩) 2 2,.slice (some ⟨qb,0,none⟩) 2 2] w fun e w'=>RetNw w.heap.size e w' n [⟨k0,q0,[]⟩,⟨k1,q1,[]⟩]∧Below w.heap.size w w':=by
 have hmk:=make_2
 have b0:=hid (below_alloc w (.cells #[.slice none 0 0,.slice none 0 0] 27))
 have kB:Hid (CellsAt _ w.heap.size #[.slice none 0 0,.slice none 0 0] 27):=hid (cellsAt_alloc w _ _)
 have hkl:=hk.lt
 have hql:=hq.lt
 replace hk:=hid (hk.below b0.out)
 replace hq:=hid (hq.below b0.out)
 replace hok:=hid hok
 have hszw:Hid ((w.alloc (.cells #[.slice none 0 0,.slice none 0 0] 27)).heap.size=w.heap.size+1):=hid (by simp)
 go_enter Tryz.func30,Tryz.ntmps30
 go_upto_region 1 with fail
 generalize w.alloc (.cells #[.slice none 0 0,.slice none 0 0] 27)=w0 at *
 go_wp2_with fail
 refine(storeNew_ok n w0 hn).mono ?_
 rintro e w1 ⟨⟨g,c,rfl,hg,hgl,hBl⟩,b1⟩
 replace hk:=hid (hk.out.below b1)
 replace hq:=hid (hq.out.below b1)
 replace kB:=hid (kB.out.below b1)
 replace b0:=hid (Below.tr b0.out b1)
 clear b1
 have bS:=hid (below_alloc w1 (.cells #[.slice (some ⟨g,0,none⟩) n c] 24))
 have kS:Hid (CellsAt _ w1.heap.size #[.slice (some ⟨g,0,none⟩) n c] 24):=hid (cellsAt_alloc w1 _ _)
 replace hBl:=hid hBl
 go_wp2_with fail
 go_cut [10] from 28 (fun v10 wc=>∃ pb tb,v10=.pointer (some ⟨pb,0,none⟩)∧CellsAt wc pb #[.slice (some ⟨g,0,none⟩) n c,.slice (some ⟨tb,0,none⟩) 2 2] 27∧CellsAt wc tb #[.int .i64 0,.int .i64 0,.slice none 0 0,.int .i64 0,.int .i64 0,.slice none 0 0] 64∧Below w1.heap.size w1 wc∧pb≠tb∧w1.heap.size≤pb∧w1.heap.size≤tb)
 case first=>
  go_region
  all_goals (go_wp2_with fail; go_meet)
  ·exact⟨w1.heap.size+1+1,w1.heap.size+1,rfl,(cellsAt_alloc3 w1 _ _ _ _).below (below_drew _ _),((cellsAt_alloc2 w1 _ _ _).below (below_alloc _ _)).below (below_drew _ _),(((below_alloc w1 _).alloc (by simp) _).alloc (by simp; omega) _).drew,by omega,by omega,by omega⟩
  ·exact⟨w1.heap.size+1,w1.heap.size+1+1,rfl,((cellsAt_alloc2 w1 _ _ _).below (below_alloc _ _)).below (below_drew _ _),(cellsAt_alloc3 w1 _ _ _ _).below (below_drew _ _),(((below_alloc w1 _).alloc (by simp) _).alloc (by simp; omega) _).drew,by omega,by omega,by omega⟩
 case rest=>
  obtain⟨pb,tb,rfl,hp,ht,bc,hne,hpb,htb⟩:=hcut
  clear kS bS
  have hs0:=b0.out.size
  have hkd:kb≠tb:=by omega
  have hqd:qb≠tb:=by omega
  have hpl:=hp.lt
  have d0:=hp.cell 0
  have d1:=hp.cell 1
  simp at d0 d1
  replace hp:=hid hp
  replace ht:=hid ht
  go_wp2_with fail
  clear d0 d1
  go_loopw [36] (fun v wr=>∃ j:Nat,v=.int .i64 j∧Kept tb wc wr∧((j=0∧CellsAt wr tb #[.int .i64 0,.int .i64 0,.slice none 0 0,.int .i64 0,.int .i64 0,.slice none 0 0] 64)∨(j=1∧CellsAt wr tb #[.int .i64 k0,.int .i64 q0,.slice none 0 0,.int .i64 0,.int .i64 0,.slice none 0 0] 64)∨(j=2∧CellsAt wr tb #[.int .i64 k0,.int .i64 q0,.slice none 0 0,.int .i64 k1,.int .i64 q1,.slice none 0 0] 64))) (fun v _=>2-(Go.RowKit.intOf v).toNat)
  case atStart=>exact⟨0,rfl,Kept.refl _ _,.inl ⟨rfl,ht.out⟩⟩
  case round=>
   clear ht
   obtain⟨j,rfl,hkp,hst⟩:=hrel
   have hpw:=(Only.of_kept (M:=fun k=>k=tb) hkp rfl).cells hp.out hne
   have p0:=hpw.cell 0
   have p1:=hpw.cell 1
   simp at p0 p1
   have hkw:=(Only.of_kept (M:=fun k=>k=tb) hkp rfl).cells (hk.out.below bc) hkd
   have hqw:=(Only.of_kept (M:=fun k=>k=tb) hkp rfl).cells (hq.out.below bc) hqd
   replace hpw:=hid hpw
   rcases hst with⟨rfl,ht⟩ | ⟨rfl,ht⟩ | ⟨rfl,ht⟩
   ·have y0:=ht.cell 0
    have y1:=ht.cell 1
    have y2:=ht.cell 2
    have z0:=ht.frozen 0
    have z1:=ht.frozen 1
    have z2:=ht.frozen 2
    have x0:=hkw.cell 0
    have x1:=hqw.cell 0
    simp at y0 y1 y2 x0 x1
    have ht2:=((ht.set 0 (.int .i64 k0)).set 1 (.int .i64 q0)).set 2 (.slice none 0 0)
    simp only[List.setIfInBounds_toArray,List.set_cons_succ,List.set_cons_zero] at ht2
    replace ht2:=hid ht2
    have hk2:=hid (hkp.trans (Kept.setCell (g:=tb) (Kept.setCell (g:=tb) (Kept.setCell (g:=tb) (Kept.refl _ wr) (p:=⟨tb,0,none⟩) rfl (.int .i64 k0)) (p:=⟨tb,1,none⟩) rfl (.int .i64 q0)) (p:=⟨tb,2,none⟩) rfl (.slice none 0 0)))
    clear ht
    go_wp2_with fail
    go_region
    all_goals (go_wp2_with fail; go_roundw)
    all_goals first
     | exact⟨1,by go_num,hk2.out.trans (kept_drew _ _),.inr (.inl ⟨rfl,ht2.out.below (below_drew _ _)⟩)⟩
     | (simp[Go.RowKit.intOf])
   ·have y0:=ht.cell 3
    have y1:=ht.cell 4
    have y2:=ht.cell 5
    have z0:=ht.frozen 3
    have z1:=ht.frozen 4
    have z2:=ht.frozen 5
    have x0:=hkw.cell 1
    have x1:=hqw.cell 1
    simp at y0 y1 y2 x0 x1
    have ht2:=((ht.set 3 (.int .i64 k1)).set 4 (.int .i64 q1)).set 5 (.slice none 0 0)
    simp only[List.setIfInBounds_toArray,List.set_cons_succ,List.set_cons_zero] at ht2
    replace ht2:=hid ht2
    have hk2:=hid (hkp.trans (Kept.setCell (g:=tb) (Kept.setCell (g:=tb) (Kept.setCell (g:=tb) (Kept.refl _ wr) (p:=⟨tb,3,none⟩) rfl (.int .i64 k1)) (p:=⟨tb,4,none⟩) rfl (.int .i64 q1)) (p:=⟨tb,5,none⟩) rfl (.slice none 0 0)))
    clear ht
    go_wp2_with fail
    go_region
    all_goals (go_wp2_with fail; go_roundw)
    all_goals first
     | exact⟨2,by go_num,hk2.out.trans (kept_drew _ _),.inr (.inr (⟨rfl,ht2.out.below (below_drew _ _)⟩))⟩
     | (simp[Go.RowKit.intOf])
   ·replace hkw:=hid hkw
    replace hqw:=hid hqw
    have hgt:g≠tb:=by omega
    have hw0:Hid (w.heap.size<w0.heap.size):=hid (by have:=hszw.out; omega)
    have hBw:=Blocks.kept (g:=tb) ((Blocks.weaken hBl.out (R:=fun b=>w0.heap.size≤b∧b<w1.heap.size) (fun b hb q=>⟨q,hb⟩)).below bc) hgt (fun b hb e=>by omega) hkp
    have hSt:StoreAt wr (some ⟨g,0,none⟩) n (fun _=>Blk.zero):=fun _=>⟨g,0,rfl,by rw[hkp.size]; have:=bc.size; omega,Blocks.weaken hBw (fun _ _ _=>trivial)⟩
    have hTn:TensAt (fun b=>w1.heap.size≤b) wr (some ⟨tb,0,none⟩) 2 [⟨k0,q0,[]⟩,⟨k1,q1,[]⟩]:=⟨rfl,fun _=>⟨tb,0,rfl,ht.lt,htb,fun i hi=>by
     rcases(by omega:i=0∨i=1) with rfl | rfl
     ·exact⟨none,0,0,ht.cell 0,ht.cell 1,ht.cell 2,setsAt_nil _ _ _,hb.1,hb.2.2.1,Nat.le_refl _⟩
     ·exact⟨none,0,0,ht.cell 3,ht.cell 4,ht.cell 5,setsAt_nil _ _ _,hb.2.1,hb.2.2.2,Nat.le_refl _⟩⟩⟩
    have bT:=hid (b0.out.trans ((bc.trans (hkp.below htb)).mono hs0))
    have hP:Hid (PoolAt (fun _=>True) wr (some ⟨g,0,none⟩) n (fun _=>Blk.zero) (some ⟨tb,0,none⟩) 2 [⟨k0,q0,[]⟩,⟨k1,q1,[]⟩]):=hid ⟨hSt,hTn.weaken (fun _ _ _=>trivial)⟩
    have hBw':=hid hBw
    have hTn':=hid hTn
    clear ht hSt hTn hBw
    go_wp2_with fail
    refine(poolCheck_any (fun _=>True) (some ⟨g,0,none⟩) n c (fun _=>Blk.zero) (some ⟨tb,0,none⟩) 2 2 [⟨k0,q0,[]⟩,⟨k1,q1,[]⟩] wr hP.out).mono ?_
    rintro e w4 ⟨⟨e4,rfl,he4⟩,b4⟩
    obtain rfl:e4=0:=he4.2 hok.out
    have hp4:=hpw.out.below b4
    have kB4:=((Only.of_kept (M:=fun k=>k=tb) hkp rfl).cells (kB.out.below bc) (by have:=kB.out.lt; omega)).below b4
    have r0:=hp4.cell 0
    have r1:=hp4.cell 1
    have s0:=kB4.cell 0
    have s1:=kB4.cell 1
    have s2:=kB4.frozen 0
    have s3:=kB4.frozen 1
    simp at r0 r1 s0 s1
    have kf:=kept_put2p w4 w.heap.size (.slice (some ⟨g,0,none⟩) n c) (.slice (some ⟨tb,0,none⟩) 2 2)
    have bF:=hid ((Below.tr bT.out b4).trans (kf.below (Nat.le_refl _)))
    have hBf:=hid (Blocks.kept (g:=w.heap.size) (hBw'.out.below b4) (by have:=hw0.out; omega) (fun b hb e=>by have:=hw0.out; omega) kf)
    have hTf:=hid ((Only.of_kept (M:=fun k=>k=w.heap.size) kf rfl).tens (hTn'.out.below b4) (fun b hb e=>by have:=hw0.out; omega))
    have hgF:Hid (g<(put2p w4 w.heap.size (.slice (some ⟨g,0,none⟩) n c) (.slice (some ⟨tb,0,none⟩) 2 2)).heap.size):=hid (by rw[kf.size]; have:=b4.size; have:=bc.size; rw[hkp.size] at *; omega)
    have cF:=hid (cells_put2p (.slice (some ⟨g,0,none⟩) n c) (.slice (some ⟨tb,0,none⟩) 2 2) kB4)
    clear he4 hp4 kB4 kf b4 p0 p1
    unfold put2p at bF hBf hTf hgF cF
    go_wp2_with fail
    have c0:=cF.out.cell 0
    have c1:=cF.out.cell 1
    simp only[List.getElem?_toArray,List.getElem?_cons_zero,List.getElem?_cons_succ] at c0 c1
    refine bodyPost_ret (v:=.tuple #[.agg #[.slice (some ⟨g,0,none⟩) n c,.slice (some ⟨tb,0,none⟩) 2 2],.int .i64 0]) (by rw[results_cell_tmp rfl]; go_simp) rfl ⟨⟨g,c,_,2,2,rfl,by have:=hw0.out; omega,hgF.out,Blocks.weaken hBf.out (fun b _ hb=>by have:=hw0.out; omega),hTf.out.weaken (fun b _ hb=>by have:=hw0.out; omega),Nat.le_refl _⟩,bF.out⟩
end Go.Proofs.YtjafgnohlkkopaaGreatDoor

namespace Go.Proofs.YtjafgnohlkkopaaGreatDoor
open Go.RowKit
def RetTwo (q:Int) (e:Ending) (w:World):Prop:=∃ (a:Option Addr) (c:Nat) (ta:Option Addr) (tc:Nat),e=.returned (.tuple #[.agg #[.slice a 110 c,.slice ta 2 tc],.bool true])∧PoolAt (fun _=>True) w a 110 B0 ta 2 (l0 q)
set_option maxHeartbeats 4000000 in
set_option maxRecDepth 100000 in
theorem twoOf_any (q:Int) (hq0:0≤q) (hq1:q≤10) (w:World):Calls Tryz.prog 17 #[.int .i64 q] w fun e w'=>RetTwo q e w'∧Below w.heap.size w w':=by
 have h0:=cellsAt_alloc w #[.slice none 0 0,.slice none 0 0] 27
 have h1:=cellsAt_alloc (w.alloc (.cells #[.slice none 0 0,.slice none 0 0] 27)) #[.int .i64 1,.int .i64 2] 3
 have h2:=cellsAt_alloc ((w.alloc (.cells #[.slice none 0 0,.slice none 0 0] 27)).alloc (.cells #[.int .i64 1,.int .i64 2] 3)) #[.int .i64 q,.int .i64 10] 3
 simp only[szB] at h1 h2
 have b0:=hid (Below.tr (Below.tr (below_alloc w (.cells #[.slice none 0 0,.slice none 0 0] 27)) (below_alloc _ (.cells #[.int .i64 1,.int .i64 2] 3))) (below_alloc _ (.cells #[.int .i64 q,.int .i64 10] 3)))
 replace h0:=hid ((h0.below (below_alloc _ (.cells #[.int .i64 1,.int .i64 2] 3))).below (below_alloc _ (.cells #[.int .i64 q,.int .i64 10] 3)))
 replace h1:=hid (h1.below (below_alloc _ (.cells #[.int .i64 q,.int .i64 10] 3)))
 replace h2:=hid h2
 go_enter Tryz.func17,Tryz.ntmps17
 go_wp2_with fail
 generalize ((w.alloc (.cells #[.slice none 0 0,.slice none 0 0] 27)).alloc (.cells #[.int .i64 1,.int .i64 2] 3)).alloc (.cells #[.int .i64 q,.int .i64 10] 3)=w0 at *
 refine(new2_any 110 1 2 q 10 (w.heap.size+1) (w.heap.size+1+1) w0 (by omega) h1.out h2.out (by omega) (ok_l0 hq0 hq1)).mono ?_
 rintro e w1 ⟨⟨g,c,ta,tn,tc,rfl,hg,hgl,hBk,hTs,htc⟩,b1⟩
 obtain rfl:tn=2:=hTs.1.symm
 have bA:=hid (below_alloc w1 (.cells #[.slice (some ⟨g,0,none⟩) 110 c,.slice ta 2 tc] 27))
 have kA:Hid (CellsAt _ w1.heap.size #[.slice (some ⟨g,0,none⟩) 110 c,.slice ta 2 tc] 27):=hid (cellsAt_alloc w1 _ _)
 have hlt0:=h0.out.lt
 have hg1:=hid (Nat.lt_of_lt_of_le hgl bA.out.size)
 replace hBk:=hid (hBk.below bA.out)
 replace hTs:=hid (hTs.below bA.out)
 have hsz1:=b1.size
 have hgw:Hid (w0.heap.size≤g):=hid hg
 replace b0:=hid (Below.tr (Below.tr b0.out b1) bA.out)
 replace h0:=hid ((h0.out.below b1).below bA.out)
 clear h1 h2
 have hne:w.heap.size≠w1.heap.size:=by omega
 have hn0:=hid hlt0
 clear b1 hsz1 hlt0 hg hgl
 go_upto_region 2 with fail
 generalize w1.alloc (.cells #[.slice (some ⟨g,0,none⟩) 110 c,.slice ta 2 tc] 27)=w2 at *
 have p0:=kA.out.cell 0
 have p1:=kA.out.cell 1
 have r0:=h0.out.cell 0
 have r1:=h0.out.cell 1
 have z0:=h0.out.frozen 0
 have z1:=h0.out.frozen 1
 simp only[List.getElem?_toArray,List.getElem?_cons_zero,List.getElem?_cons_succ] at p0 p1 r0 r1
 have hne':=hne.symm
 have hfin:Hid (RetTwo q (.returned (.tuple #[.agg #[.slice (some ⟨g,0,none⟩) 110 c,.slice ta 2 tc],.bool true])) (put2p w2 w.heap.size (.slice (some ⟨g,0,none⟩) 110 c) (.slice ta 2 tc)).drew∧Below w.heap.size w (put2p w2 w.heap.size (.slice (some ⟨g,0,none⟩) 110 c) (.slice ta 2 tc)).drew):=by
  refine hid ⟨⟨_,c,ta,tc,rfl,?_⟩,?_⟩
  ·have kk:=kept_put2p w2 w.heap.size (.slice (some ⟨g,0,none⟩) 110 c) (.slice ta 2 tc)
   have on:=Only.of_kept (M:=fun b=>b=w.heap.size) kk rfl
   have hn0':=hn0.out
   have hgw':=hgw.out
   refine PoolAt.below (w:=put2p w2 w.heap.size (.slice (some ⟨g,0,none⟩) 110 c) (.slice ta 2 tc)) ⟨fun _=>⟨g,0,rfl,Nat.lt_of_lt_of_le hg1.out on.size,(on.blocks hBk.out (fun e=>by omega) hg1.out (fun b hb e=>by omega)).weaken (fun _ _ _=>trivial)⟩,(on.tens hTs.out (fun b hb e=>by omega)).weaken (fun _ _ _=>trivial)⟩ (below_drew _ _)
  ·exact(b0.out.trans ((kept_put2p _ _ _ _).below (Nat.le_refl _))).trans (below_drew _ _)
 go_region
 go_wp2_with fail
 refine bodyPost_ret (v:=.tuple #[.agg #[.slice (some ⟨g,0,none⟩) 110 c,.slice ta 2 tc],.bool true]) (by rw[results_cell_tmp rfl]; go_simp) rfl ?_
 exact hfin.out
theorem okA (k p u:Int) (f:ByteArray) {bs:List Int} (h1:f.size≤1) (h2:0≤k∧k≤100) (h3:0≤p∧p≤100) (h4:0≤u∧u≤100) (h5:nA.size≤1):AskE.ok ⟨k,nA,f,⟨#[]⟩,p,u,bs⟩:=by
 have hm:(1:Nat)≤maxLen:=by unfold maxLen; omega
 exact⟨⟨Nat.le_trans h5 hm,Nat.le_trans h1 hm,Nat.zero_le _⟩,by show _≤k∧k≤_; omega,by show _≤p∧p≤_; omega,by show _≤u∧u≤_; omega⟩
end Go.Proofs.YtjafgnohlkkopaaGreatDoor

namespace Go.Proofs.YtjafgnohlkkopaaGreatDoor
open Go.RowKit
def N1:List Int:=overL ((zeros 256).take 0) 2 [97,98,99]
def N2:List Int:=overL ((padTo N1).take 5) 4 [120,121]
theorem NumsAt.out {Q:Nat→Prop} {k:IntKind} {w w':World} {a:Option Addr} {n q:Nat} {l:List Int} (h:NumsAt Q k w a n l) (hq:∀ b,Q b→b≠q) (ho:Out q w w'):NumsAt Q k w' a n l:=by
 refine⟨h.1,h.2.1,fun hn=>?_⟩
 obtain⟨b,off,rfl,hlt,qb,hc⟩:=h.2.2 hn
 exact⟨b,off,rfl,Nat.lt_of_lt_of_le hlt ho.size,qb,fun i hi=>(ho.cell (p:=⟨b,off+i,none⟩) hlt (hq b qb)).trans (hc i hi)⟩
theorem Own.out {w w':World} {g n q:Nat} {B:Nat→Blk} (h:Own w g n B) (hq:q<g) (ho:Out q w w'):Own w' g n B:=by
 have hlt:=h.lt
 refine⟨Nat.lt_of_lt_of_le h.lt ho.size,fun i hi=>?_,fun i hi=>?_⟩
 ·obtain⟨ka,kn,kc,ba,bn,bc,b⟩:=h.blocks i hi
  exact⟨ka,kn,kc,ba,bn,bc,(ho.cell (p:=⟨g,_,none⟩) hlt (by show g≠q; omega)).trans b.c0,(ho.cell (p:=⟨g,_,none⟩) hlt (by show g≠q; omega)).trans b.c1,(ho.cell (p:=⟨g,_,none⟩) hlt (by show g≠q; omega)).trans b.c2,(ho.cell (p:=⟨g,_,none⟩) hlt (by show g≠q; omega)).trans b.c3,b.kids.out (fun _ h=>by omega) ho,b.bytes.out (fun _ h=>by omega) ho,b.refs,b.level,b.caps⟩
 ·have e:w'.frozen? ⟨g,i,none⟩=w.frozen? ⟨g,i,none⟩:=World.frozen?_of_block (w:=w) (ho.block g hlt (by omega))
  exact e.trans (h.free i hi)
theorem CellsAt.out {w w':World} {g q:Nat} {cs:Array Value} {t:TypeId} (h:CellsAt w g cs t) (hq:g≠q) (ho:Out q w w'):CellsAt w' g cs t:=by
 unfold CellsAt
 rw[ho.block g h.lt hq]
 exact h
theorem lit_mark (w:World) (xs:List Int) (t:TypeId) (fr:Nat×Nat) (hw:∀ x∈xs,(Lit.int .u8 x).wf=true):NumsAt (fun _=>True) .u8 (w.alloc (.cells (xs.map (Value.int .u8)).toArray t fr)) (some ⟨w.heap.size,0,none⟩) xs.length xs:=by
 refine⟨rfl,hw,fun _=>⟨w.heap.size,0,rfl,by simp,trivial,fun i hi=>?_⟩⟩
 rw[Nat.zero_add,World.cell?_alloc_mark]
 simp[List.getD,hi]
end Go.Proofs.YtjafgnohlkkopaaGreatDoor

namespace Go.Proofs.YtjafgnohlkkopaaGreatDoor
open Go.ChangeShapes Go.WideShapes Go.RowKit Go.Deep
section
variable {H:Type} {enc:TypeId×Value→H} {W:World}
theorem addr_none {W:World} {a:Addr} {v:Value} (h:W.cell? a=some v):a=⟨a.block,a.off,none⟩:=by
 obtain⟨b,off,spot⟩:=a
 have hspot:spot=none:=World.cell?_spot h
 subst hspot
 rfl
theorem add_none (b off i:Nat):(⟨b,off,none⟩:Addr).add i=⟨b,off+i,none⟩:=by unfold Addr.add; split<;>simp_all
theorem add_zero' (a:Addr):a.add 0=a:=by unfold Addr.add; simp
theorem nums_open {t e:TypeId} {k:IntKind} {m:Nat} {v:Value} {y:DataW H×List MemPlace} (ht:Tryz.prog.underlying t=some (.slice e)) (he:Tryz.prog.underlying e=some (.int k)) (hc:Tryz.prog.cellsOf e=1)
 (h:DataW.trod enc Tryz.prog W 0 (fun _=>true) true m t [v]=some y):∃ a len cap l,v=.slice a len cap∧len≤cap∧cap≤maxLen∧NumsAt (fun _=>True) k W a len l:=by
 rcases open_ints ht he hc h with⟨hcs,_⟩ | ⟨x,len,cap,zs,hcs,_,hl,hm,hz,_,hcell,hwz⟩
 ·exact⟨none,0,0,[],by simpa using hcs,Nat.le_refl _,Nat.zero_le _,numsAt_nil _ _ _ _⟩
 ·simp only[if_true] at hz
  refine⟨some x,len,cap,zs.take len,by simpa using hcs,hl,hm,by simp; omega,fun y hy=>hwz y (List.mem_of_mem_take hy),fun hp=>?_⟩
  have h0:=hcell 0 (by omega)
  rw[add_zero'] at h0
  have hx:=addr_none h0
  obtain⟨b,off,spot⟩:=x
  simp only[Addr.mk.injEq,true_and] at hx
  subst hx
  refine⟨b,off,rfl,cell_lt h0,trivial,fun i hi=>?_⟩
  have:=hcell i (by omega)
  rw[add_none] at this
  rw[this]
  simp[List.getD,hi]
set_option maxRecDepth 100000 in
theorem blk_open {m:Nat} {cs:List Value} {y:DataW H×List MemPlace} (h:DataW.trod enc Tryz.prog W 0 (fun _=>true) true m 135 cs=some y):
 ∃ (r lv:Int) (ka:Option Addr) (kn kc:Nat) (ba:Option Addr) (bn bc:Nat) (ks bs:List Int),cs=[.int .i64 r,.int .i64 lv,.slice ka kn kc,.slice ba bn bc]∧
  (-9223372036854775808≤r∧r≤9223372036854775807)∧(-9223372036854775808≤lv∧lv≤9223372036854775807)∧(kn≤kc∧bn≤bc)∧NumsAt (fun _=>True) .i64 W ka kn ks∧NumsAt (fun _=>True) .u8 W ba bn bs:=by
 obtain⟨y0,y1,y2,y3,n,_,hl,h0,h1,h2,h3⟩:=Go.Joins.trod_struct4 Tryz.underlying135 h
 have hl4:cs.length=4:=hl.trans (by kernel_rfl)
 match cs,hl4 with
 | [c0,c1,c2,c3],_=>
   have e1:Tryz.prog.cellsOf 3=1:=by kernel_rfl
   have e2:Tryz.prog.cellsOf 36=1:=by kernel_rfl
   have e3:Tryz.prog.cellsOf 28=1:=by kernel_rfl
   simp[e1,e2,e3] at h0 h1 h2 h3
   obtain⟨r,hr,_,wr⟩:=DataW.trod_int Tryz.underlying3 h0
   obtain⟨lv,hlv,_,wl⟩:=DataW.trod_int Tryz.underlying3 h1
   obtain⟨ka,kn,kc,ks,rfl,hk,_,hK⟩:=nums_open Tryz.underlying36 Tryz.underlying3 (by kernel_rfl) h2
   obtain⟨ba,bn,bc,bs,rfl,hb,_,hB⟩:=nums_open Tryz.underlying28 Tryz.underlying5 (by kernel_rfl) h3
   simp at hr hlv
   subst hr hlv
   have:=bounds_i64 wr
   have:=bounds_i64 wl
   exact⟨r,lv,ka,kn,kc,ba,bn,bc,ks,bs,rfl,by omega,by omega,⟨hk,hb⟩,hK,hB⟩
end
end Go.Proofs.YtjafgnohlkkopaaGreatDoor

namespace Go.Proofs.YtjafgnohlkkopaaGreatDoor
open Go.ChangeShapes Go.WideShapes Go.RowKit Go.Deep
section
variable {H:Type} {enc:TypeId×Value→H} {W:World}
end
end Go.Proofs.YtjafgnohlkkopaaGreatDoor

namespace Go.Proofs.YtjafgnohlkkopaaGreatDoor
open Go.ChangeShapes Go.WideShapes Go.RowKit Go.Deep
section
variable {H:Type} {enc:TypeId×Value→H} {W:World}
theorem range_getD {α:Type} (f:Nat→α) (n i:Nat) (d:α) (h:i<n):((List.range n).map f).getD i d=f i:=by
 simp[List.getD,h]
set_option maxRecDepth 100000 in
theorem ent_open {m:Nat} {cs:List Value} {y:DataW H×List MemPlace} (h:DataW.trod enc Tryz.prog W 0 (fun _=>true) true m 106 cs=some y):
 ∃ x:Ent,cs=[.string x.name,.int .i64 x.root,.int .i64 x.size]∧x.ok:=by
 obtain⟨y0,y1,n,_,hl,h0,h1⟩:=trod_struct2 Tryz.underlying106 h
 have hl3:cs.length=3:=hl.trans (by kernel_rfl)
 match cs,hl3 with
 | [c0,c1,c2],_=>
   have e0:Tryz.prog.cellsOf 9=1:=by kernel_rfl
   have e1:Tryz.prog.cellsOf 3=1:=by kernel_rfl
   have e2:Tryz.prog.cellsOf 104=2:=by kernel_rfl
   simp[e0,e2] at h0 h1
   obtain⟨s,hs,_,ws⟩:=DataW.trod_string Tryz.underlying9 h0
   obtain⟨z0,z1,n', _,_,g0,g1⟩:=trod_struct2 Tryz.underlying104 h1
   simp[e1] at g0 g1
   obtain⟨r,hr,_,wr⟩:=DataW.trod_int Tryz.underlying3 g0
   obtain⟨z,hz,_,wz⟩:=DataW.trod_int Tryz.underlying3 g1
   simp at hs hr hz
   subst hs hr hz
   have b1:=bounds_i64 wr
   have b2:=bounds_i64 wz
   have b1':-9223372036854775808≤r∧r≤9223372036854775807:=by omega
   have b2':-9223372036854775808≤z∧z≤9223372036854775807:=by omega
   exact⟨⟨s,r,z⟩,rfl,ws,b1', b2'⟩
set_option maxRecDepth 100000 in
theorem ents_open {m:Nat} {v:Value} {y:DataW H×List MemPlace} (h:DataW.trod enc Tryz.prog W 0 (fun _=>true) true m 81 [v]=some y):
 ∃ a n c l,v=.slice a n c∧n≤c∧n≤maxLen∧EntsAt (fun _=>True) W a n l:=by
 have e3:Tryz.prog.cellsOf 106=3:=by kernel_rfl
 rcases open_slice Tryz.underlying81 h with⟨hcs,_⟩ | ⟨a,len,cap,m,n', D,Pl,hcs,_,hl,hm,hmm,_,hx⟩
 ·exact⟨none,0,0,[],by simpa using hcs,Nat.le_refl _,Nat.zero_le _,entsAt_nil _ _ _⟩
 ·simp at hcs
  subst hcs
  simp only[if_true] at hmm
  subst hmm
  have hone:∀ i,i<len→∃ x:Ent,W.cell? (a.add (i*3))=some (.string x.name)∧W.cell? ((a.add (i*3)).add 1)=some (.int .i64 x.root)∧W.cell? ((a.add (i*3)).add 2)=some (.int .i64 x.size)∧x.ok:=by
   intro i hi
   obtain⟨cs', h1,h2⟩:=hx i (by omega)
   rw[e3] at h1
   obtain⟨x,rfl,hok⟩:=ent_open h2
   obtain⟨_,_,hc⟩:=World.cells?_some h1
   have c0:=hc 0 (by omega)
   have c1:=hc 1 (by omega)
   have c2:=hc 2 (by omega)
   have ez:(a.add (i*3)).add 0=a.add (i*3):=add_zero' _
   rw[ez] at c0
   exact⟨x,c0,c1,c2,hok⟩
  obtain⟨X,hX⟩:=choose_lt hone
  refine⟨some a,len,m,(List.range len).map X,rfl,hl,by omega,by simp,fun x hx=>?_,fun hp=>?_⟩
  ·obtain⟨i,hi,rfl⟩:=List.mem_map.1 hx
   exact(hX i (List.mem_range.1 hi)).2.2.2
  ·obtain⟨h0', _⟩:=hX 0 (by omega)
   rw[Nat.zero_mul,add_zero'] at h0'
   have hx0:=addr_none h0'
   obtain⟨b,off,spot⟩:=a
   simp only[Addr.mk.injEq,true_and] at hx0
   subst hx0
   refine⟨b,off,rfl,cell_lt h0', trivial,fun i hi=>?_⟩
   obtain⟨c0,c1,c2,_⟩:=hX i hi
   rw[add_none] at c0 c1 c2
   rw[add_none] at c1 c2
   rw[range_getD _ _ _ _ hi]
   exact⟨c0,c1,c2⟩
set_option maxRecDepth 100000 in
theorem snap_open {m:Nat} {cs:List Value} {y:DataW H×List MemPlace} (h:DataW.trod enc Tryz.prog W 0 (fun _=>true) true m 113 cs=some y):
 ∃ (x:SnapE) (fa:Option Addr) (fn fc:Nat),cs=[.string x.name,.slice fa fn fc]∧x.name.size≤maxLen∧fn≤fc∧EntsAt (fun _=>True) W fa fn x.files:=by
 obtain⟨y0,y1,n,_,hl,h0,h1⟩:=trod_struct2 Tryz.underlying113 h
 have hl2:cs.length=2:=hl.trans (by kernel_rfl)
 match cs,hl2 with
 | [c0,c1],_=>
   have e0:Tryz.prog.cellsOf 9=1:=by kernel_rfl
   have e1:Tryz.prog.cellsOf 81=1:=by kernel_rfl
   simp[e0,e1] at h0 h1
   obtain⟨s,hs,_,ws⟩:=DataW.trod_string Tryz.underlying9 h0
   obtain⟨fa,fn,fc,l,rfl,hc,_,hE⟩:=ents_open h1
   simp at hs
   subst hs
   exact⟨⟨s,l⟩,fa,fn,fc,rfl,ws,hc,hE⟩
set_option maxRecDepth 100000 in
theorem snaps_open {m:Nat} {v:Value} {y:DataW H×List MemPlace} (h:DataW.trod enc Tryz.prog W 0 (fun _=>true) true m 82 [v]=some y):
 ∃ a n c l,v=.slice a n c∧n≤c∧n≤maxLen∧SnapsAt (fun _=>True) W a n l:=by
 have e3:Tryz.prog.cellsOf 113=2:=by kernel_rfl
 rcases open_slice Tryz.underlying82 h with⟨hcs,_⟩ | ⟨a,len,cap,m,n', D,Pl,hcs,_,hl,hm,hmm,_,hx⟩
 ·exact⟨none,0,0,[],by simpa using hcs,Nat.le_refl _,Nat.zero_le _,snapsAt_nil _ _ _⟩
 ·simp at hcs
  subst hcs
  simp only[if_true] at hmm
  subst hmm
  have hone:∀ i,i<len→∃ x:SnapE,∃ fa fn fc,W.cell? (a.add (i*2))=some (.string x.name)∧W.cell? ((a.add (i*2)).add 1)=some (.slice fa fn fc)∧x.name.size≤maxLen∧fn≤fc∧EntsAt (fun _=>True) W fa fn x.files:=by
   intro i hi
   obtain⟨cs', h1,h2⟩:=hx i (by omega)
   rw[e3] at h1
   obtain⟨x,fa,fn,fc,rfl,hs,hcp,hE⟩:=snap_open h2
   obtain⟨_,_,hc⟩:=World.cells?_some h1
   have c0:=hc 0 (by omega)
   have c1:=hc 1 (by omega)
   have ez:(a.add (i*2)).add 0=a.add (i*2):=add_zero' _
   rw[ez] at c0
   exact⟨x,fa,fn,fc,c0,c1,hs,hcp,hE⟩
  obtain⟨X,hX⟩:=choose_lt hone
  refine⟨some a,len,m,(List.range len).map X,rfl,hl,by omega,by simp,fun hp=>?_⟩
  obtain⟨_,_,_,h0', _⟩:=hX 0 (by omega)
  rw[Nat.zero_mul,add_zero'] at h0'
  have hx0:=addr_none h0'
  obtain⟨b,off,spot⟩:=a
  simp only[Addr.mk.injEq,true_and] at hx0
  subst hx0
  refine⟨b,off,rfl,cell_lt h0', trivial,fun i hi=>?_⟩
  obtain⟨fa,fn,fc,c0,c1,hs,hcp,hE⟩:=hX i hi
  rw[add_none] at c0 c1
  rw[add_none] at c1
  rw[range_getD _ _ _ _ hi]
  exact⟨fa,fn,fc,c0,c1,hE,hs,hcp⟩
set_option maxRecDepth 100000 in
theorem ask_open {m:Nat} {cs:List Value} {y:DataW H×List MemPlace} (h:DataW.trod enc Tryz.prog W 0 (fun _=>true) true m 30 cs=some y):
 ∃ (x:AskE) (ba:Option Addr) (bn bc:Nat),cs=[.int .i64 x.kind,.string x.set,.string x.file,.string x.to,.int .i64 x.pos,.int .i64 x.num,.slice ba bn bc]∧x.ok∧bn≤bc∧NumsAt (fun _=>True) .u8 W ba bn x.bytes:=by
 obtain⟨xs,n,_,rfl,hl,hlen,hf⟩:=DataW.trod_struct Tryz.underlying30 h
 have hl7:cs.length=7:=hl.trans (by kernel_rfl)
 match xs,hlen,cs,hl7 with
 | [y0,y1,y2,y3,y4,y5,y6],_,[c0,c1,c2,c3,c4,c5,c6],_=>
   have e0:Tryz.prog.cellsOf 9=1:=by kernel_rfl
   have e1:Tryz.prog.cellsOf 3=1:=by kernel_rfl
   have e2:Tryz.prog.cellsOf 28=1:=by kernel_rfl
   have h0:=hf 0 _ rfl
   have h1:=hf 1 _ rfl
   have h2:=hf 2 _ rfl
   have h3:=hf 3 _ rfl
   have h4:=hf 4 _ rfl
   have h5:=hf 5 _ rfl
   have h6:=hf 6 _ rfl
   simp[e0,e1,e2] at h0 h1 h2 h3 h4 h5 h6
   obtain⟨k,hk,_,wk⟩:=DataW.trod_int Tryz.underlying3 h0
   obtain⟨s1,hs1,_,ws1⟩:=DataW.trod_string Tryz.underlying9 h1
   obtain⟨s2,hs2,_,ws2⟩:=DataW.trod_string Tryz.underlying9 h2
   obtain⟨s3,hs3,_,ws3⟩:=DataW.trod_string Tryz.underlying9 h3
   obtain⟨q,hq,_,wq⟩:=DataW.trod_int Tryz.underlying3 h4
   obtain⟨u,hu,_,wu⟩:=DataW.trod_int Tryz.underlying3 h5
   obtain⟨ba,bn,bc,bs,rfl,hb,_,hB⟩:=nums_open Tryz.underlying28 Tryz.underlying5 (by kernel_rfl) h6
   simp at hk hs1 hs2 hs3 hq hu
   subst hk hs1 hs2 hs3 hq hu
   have b1:=bounds_i64 wk
   have b2:=bounds_i64 wq
   have b3:=bounds_i64 wu
   have b1':-9223372036854775808≤k∧k≤9223372036854775807:=by omega
   have b2':-9223372036854775808≤q∧q≤9223372036854775807:=by omega
   have b3':-9223372036854775808≤u∧u≤9223372036854775807:=by omega
   exact⟨⟨k,s1,s2,s3,q,u,bs⟩,ba,bn,bc,rfl,⟨⟨ws1,ws2,ws3⟩,b1', b2', b3'⟩,hb,hB⟩
end
end Go.Proofs.YtjafgnohlkkopaaGreatDoor

namespace Go.Proofs.YtjafgnohlkkopaaGreatDoor
open Go.ChangeShapes Go.WideShapes Go.RowKit Go.Deep
section
variable {H:Type} {enc:TypeId×Value→H} {W:World}
set_option maxRecDepth 100000 in
theorem store_cells {m:Nat} {c0:Value} {y:DataW H×List MemPlace} (hf:DataW.trod enc Tryz.prog W 0 (fun _=>true) true m 24 [c0]=some y):
 ∃ a n c B,c0=.slice a n c∧StoreAt W a n B:=by
 obtain⟨y0,n,_,_,h0⟩:=trod_struct1 Tryz.underlying24 hf
 have e1:Tryz.prog.cellsOf 22=1:=by kernel_rfl
 have e4:Tryz.prog.cellsOf 135=4:=by kernel_rfl
 simp[e1] at h0
 rcases open_slice Tryz.underlying22 h0 with⟨hcs,_⟩ | ⟨a,len,cap,m,n', D,Pl,hcs,_,hl,hm,hmm,_,hx⟩
 ·simp at hcs
  subst hcs
  exact⟨none,0,0,fun _=>Blk.zero,rfl,fun hp=>absurd hp (by omega)⟩
 ·simp at hcs
  subst hcs
  simp only[if_true] at hmm
  subst hmm
  have hone:∀ i,i<len→∃ K:Blk,∃ ka kn kc ba bn bc,W.cell? (a.add (i*4))=some (.int .i64 K.refs)∧W.cell? ((a.add (i*4)).add 1)=some (.int .i64 K.level)∧W.cell? ((a.add (i*4)).add 2)=some (.slice ka kn kc)∧W.cell? ((a.add (i*4)).add 3)=some (.slice ba bn bc)∧
   NumsAt (fun _=>True) .i64 W ka kn K.kids∧NumsAt (fun _=>True) .u8 W ba bn K.bytes∧(-9223372036854775808≤K.refs∧K.refs≤9223372036854775807)∧(-9223372036854775808≤K.level∧K.level≤9223372036854775807)∧(kn≤kc∧bn≤bc):=by
   intro i hi
   obtain⟨cs', h1,h2⟩:=hx i (by omega)
   rw[e4] at h1
   obtain⟨r,lv,ka,kn,kc,ba,bn,bc,ks,bs,rfl,b1,b2,b3,b4,b5⟩:=blk_open h2
   obtain⟨_,_,hc⟩:=World.cells?_some h1
   have c0:=hc 0 (by omega)
   have c1:=hc 1 (by omega)
   have c2:=hc 2 (by omega)
   have c3:=hc 3 (by omega)
   have ez:(a.add (i*4)).add 0=a.add (i*4):=add_zero' _
   rw[ez] at c0
   exact⟨⟨r,lv,ks,bs⟩,ka,kn,kc,ba,bn,bc,c0,c1,c2,c3,b4,b5,b1,b2,b3⟩
  have:Inhabited Blk:=⟨Blk.zero⟩
  obtain⟨B,hB⟩:=choose_lt hone
  refine⟨some a,len,m,B,rfl,fun hp=>?_⟩
  obtain⟨_,_,_,_,_,_,h0', _⟩:=hB 0 (by omega)
  rw[Nat.zero_mul,add_zero'] at h0'
  have hx0:=addr_none h0'
  obtain⟨b,off,spot⟩:=a
  simp only[Addr.mk.injEq,true_and] at hx0
  subst hx0
  refine⟨b,off,rfl,cell_lt h0', fun i hi=>?_⟩
  obtain⟨ka,kn,kc,ba,bn,bc,c0,c1,c2,c3,k1,k2,k3,k4,k5⟩:=hB i hi
  rw[add_none] at c0 c1 c2 c3
  rw[add_none] at c1 c2 c3
  exact⟨ka,kn,kc,ba,bn,bc,c0,c1,c2,c3,k1,k2,k3,k4,k5⟩
set_option maxRecDepth 100000 in
theorem set_cells {m:Nat} {cs:List Value} {y:DataW H×List MemPlace} (h:DataW.trod enc Tryz.prog W 0 (fun _=>true) true m 84 cs=some y):
 ∃ (x:SetE) (V:SetV),cs=[.string V.name,.slice V.fa V.fn V.fc,.slice V.sa V.sn V.sc]∧SetAt (fun _=>True) W V x:=by
 obtain⟨y0,y1,y2,n,_,hl,h0,h1,h2⟩:=trod_struct3 Tryz.underlying84 h
 have hl3:cs.length=3:=hl.trans (by kernel_rfl)
 match cs,hl3 with
 | [c0,c1,c2],_=>
   have e0:Tryz.prog.cellsOf 9=1:=by kernel_rfl
   have e1:Tryz.prog.cellsOf 81=1:=by kernel_rfl
   have e2:Tryz.prog.cellsOf 82=1:=by kernel_rfl
   simp[e0,e1,e2] at h0 h1 h2
   obtain⟨s,hs,_,ws⟩:=DataW.trod_string Tryz.underlying9 h0
   obtain⟨fa,fn,fc,fl,rfl,hfc,hfm,hE⟩:=ents_open h1
   obtain⟨sa,sn,sc,sl,rfl,hsc,hsm,hS⟩:=snaps_open h2
   simp at hs
   subst hs
   exact⟨⟨s,fl,sl⟩,⟨s,fa,fn,fc,sa,sn,sc⟩,rfl,⟨rfl,ws,hE,hS,hfc,hsc⟩⟩
set_option maxRecDepth 100000 in
theorem sets_open {m:Nat} {v:Value} {y:DataW H×List MemPlace} (h:DataW.trod enc Tryz.prog W 0 (fun _=>true) true m 62 [v]=some y):
 ∃ a n c l,v=.slice a n c∧n≤c∧SetsAt (fun _=>True) W a n l:=by
 have e3:Tryz.prog.cellsOf 84=3:=by kernel_rfl
 rcases open_slice Tryz.underlying62 h with⟨hcs,_⟩ | ⟨a,len,cap,m,n', D,Pl,hcs,_,hl,hm,hmm,_,hx⟩
 ·exact⟨none,0,0,[],by simpa using hcs,Nat.le_refl _,setsAt_nil _ _ _⟩
 ·simp at hcs
  subst hcs
  simp only[if_true] at hmm
  subst hmm
  have hone:∀ i,i<len→∃ x:SetE,∃ V:SetV,W.cell? (a.add (i*3))=some (.string V.name)∧W.cell? ((a.add (i*3)).add 1)=some (.slice V.fa V.fn V.fc)∧W.cell? ((a.add (i*3)).add 2)=some (.slice V.sa V.sn V.sc)∧SetAt (fun _=>True) W V x:=by
   intro i hi
   obtain⟨cs', h1,h2⟩:=hx i (by omega)
   rw[e3] at h1
   obtain⟨x,V,rfl,hX⟩:=set_cells h2
   obtain⟨_,_,hc⟩:=World.cells?_some h1
   have c0:=hc 0 (by omega)
   have c1:=hc 1 (by omega)
   have c2:=hc 2 (by omega)
   have ez:(a.add (i*3)).add 0=a.add (i*3):=add_zero' _
   rw[ez] at c0
   exact⟨x,V,c0,c1,c2,hX⟩
  obtain⟨X,hX⟩:=choose_lt hone
  refine⟨some a,len,m,(List.range len).map X,rfl,hl,by simp,fun hp=>?_⟩
  obtain⟨_,h0', _⟩:=hX 0 (by omega)
  rw[Nat.zero_mul,add_zero'] at h0'
  have hx0:=addr_none h0'
  obtain⟨b,off,spot⟩:=a
  simp only[Addr.mk.injEq,true_and] at hx0
  subst hx0
  refine⟨b,off,rfl,cell_lt h0', trivial,fun i hi=>?_⟩
  obtain⟨V,c0,c1,c2,hS⟩:=hX i hi
  rw[add_none] at c0 c1 c2
  rw[add_none] at c1 c2
  rw[range_getD _ _ _ _ hi]
  exact⟨V,c0,c1,c2,hS⟩
set_option maxRecDepth 100000 in
theorem ten_cells {m:Nat} {cs:List Value} {y:DataW H×List MemPlace} (h:DataW.trod enc Tryz.prog W 0 (fun _=>true) true m 64 cs=some y):
 ∃ (t:TenE) (sa:Option Addr) (sn sc:Nat),cs=[.int .i64 t.key,.int .i64 t.quota,.slice sa sn sc]∧TenAt (fun _=>True) W t sa sn sc:=by
 obtain⟨y0,y1,y2,n,_,hl,h0,h1,h2⟩:=trod_struct3 Tryz.underlying64 h
 have hl3:cs.length=3:=hl.trans (by kernel_rfl)
 match cs,hl3 with
 | [c0,c1,c2],_=>
   have e0:Tryz.prog.cellsOf 3=1:=by kernel_rfl
   have e2:Tryz.prog.cellsOf 62=1:=by kernel_rfl
   simp[e0,e2] at h0 h1 h2
   obtain⟨k,hk,_,wk⟩:=DataW.trod_int Tryz.underlying3 h0
   obtain⟨q,hq,_,wq⟩:=DataW.trod_int Tryz.underlying3 h1
   obtain⟨sa,sn,sc,sl,rfl,hsc,hS⟩:=sets_open h2
   simp at hk hq
   subst hk hq
   have b1:=bounds_i64 wk
   have b2:=bounds_i64 wq
   exact⟨⟨k,q,sl⟩,sa,sn,sc,rfl,⟨hS,by simp only; omega,by simp only; omega,hsc⟩⟩
set_option maxRecDepth 100000 in
theorem tens_open {m:Nat} {v:Value} {y:DataW H×List MemPlace} (h:DataW.trod enc Tryz.prog W 0 (fun _=>true) true m 25 [v]=some y):
 ∃ a n c l,v=.slice a n c∧n≤c∧TensAt (fun _=>True) W a n l:=by
 have e3:Tryz.prog.cellsOf 64=3:=by kernel_rfl
 rcases open_slice Tryz.underlying25 h with⟨hcs,_⟩ | ⟨a,len,cap,m,n', D,Pl,hcs,_,hl,hm,hmm,_,hx⟩
 ·exact⟨none,0,0,[],by simpa using hcs,Nat.le_refl _,tensAt_nil _ _ _⟩
 ·simp at hcs
  subst hcs
  simp only[if_true] at hmm
  subst hmm
  have hone:∀ i,i<len→∃ t:TenE,∃ sa sn sc,W.cell? (a.add (i*3))=some (.int .i64 t.key)∧W.cell? ((a.add (i*3)).add 1)=some (.int .i64 t.quota)∧W.cell? ((a.add (i*3)).add 2)=some (.slice sa sn sc)∧TenAt (fun _=>True) W t sa sn sc:=by
   intro i hi
   obtain⟨cs', h1,h2⟩:=hx i (by omega)
   rw[e3] at h1
   obtain⟨t,sa,sn,sc,rfl,hT⟩:=ten_cells h2
   obtain⟨_,_,hc⟩:=World.cells?_some h1
   have c0:=hc 0 (by omega)
   have c1:=hc 1 (by omega)
   have c2:=hc 2 (by omega)
   have ez:(a.add (i*3)).add 0=a.add (i*3):=add_zero' _
   rw[ez] at c0
   exact⟨t,sa,sn,sc,c0,c1,c2,hT⟩
  obtain⟨X,hX⟩:=choose_lt hone
  refine⟨some a,len,m,(List.range len).map X,rfl,hl,by simp,fun hp=>?_⟩
  obtain⟨_,_,_,h0', _⟩:=hX 0 (by omega)
  rw[Nat.zero_mul,add_zero'] at h0'
  have hx0:=addr_none h0'
  obtain⟨b,off,spot⟩:=a
  simp only[Addr.mk.injEq,true_and] at hx0
  subst hx0
  refine⟨b,off,rfl,cell_lt h0', trivial,fun i hi=>?_⟩
  obtain⟨sa,sn,sc,c0,c1,c2,hT⟩:=hX i hi
  rw[add_none] at c0 c1 c2
  rw[add_none] at c1 c2
  rw[range_getD _ _ _ _ hi]
  exact⟨sa,sn,sc,c0,c1,c2,hT⟩
set_option maxRecDepth 100000 in
theorem pool_open {r:Reach} {b0:Nat} {v:Value} {d:DataW H} {p:List MemPlace} (hv:Value.okWide Tryz.prog W r b0 27 v) (h:DataW.Trod enc Tryz.prog W 0 (fun _=>true) true 27 v d p):
 ∃ a n c B ta tn tc l,v=.agg #[.slice a n c,.slice ta tn tc]∧PoolAt (fun _=>True) W a n B ta tn l:=by
 obtain⟨cs,rfl,hsz⟩:=okWide_struct Tryz.underlying27 hv
 have hsz2:cs.size=2:=hsz.trans (by kernel_rfl)
 obtain⟨l⟩:=cs
 match l,hsz2 with
 | [c0,c1],_=>
   obtain⟨fuel,hf⟩:=h
   obtain⟨y0,y1,n,_,_,h0,h1⟩:=trod_struct2 Tryz.underlying27 hf
   have e0:Tryz.prog.cellsOf 24=1:=by kernel_rfl
   have e1:Tryz.prog.cellsOf 25=1:=by kernel_rfl
   simp[Value.cells,e0,e1] at h0 h1
   obtain⟨a,n,c,B,rfl,hS⟩:=store_cells h0
   obtain⟨ta,tn,tc,tl,rfl,_,hT⟩:=tens_open h1
   exact⟨a,n,c,B,ta,tn,tc,tl,rfl,hS,hT⟩
end
end Go.Proofs.YtjafgnohlkkopaaGreatDoor
