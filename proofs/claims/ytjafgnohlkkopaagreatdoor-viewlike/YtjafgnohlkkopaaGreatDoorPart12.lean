/-
  SetH, SetI, PoolA, PoolB in one text. Nothing here is trusted.
-/
import Derived.Test.YtjafgnohlkkopaaGreatDoorPart11
import Derived.Test.YtjafgnohlkkopaaGreatDoorPart04
import Derived.Laws.AppendOwnNone
import Derived.Lib.AppendZeros
import Derived.Deep.DeepAppendRoom
set_option linter.unusedVariables false
namespace Go.Proofs.YtjafgnohlkkopaaGreatDoor
open Go.RowKit
theorem row_below {w w':World} {base:Nat} {e:TypeId} {size:Nat} {v:Value} {n:Nat} {xs:List Value} (h:w.ownsRow base e size v n xs) (b:Below w.heap.size w w'):w'.ownsRow base e size v n xs:=(Only.of_below (M:=fun _=>False) b).row h (fun _ _ m=>m)
set_option maxHeartbeats 1000000 in
set_option maxRecDepth 100000 in
theorem rootsOf_any (Q:Nat→Prop) (fa:Option Addr) (fn fc:Nat) (l:List Ent) (w:World) (hfn:fn≤1000) (hE:EntsAt Q w fa fn l):
 Calls Tryz.prog 112 #[.slice fa fn fc] w fun e w'=>Below w.heap.size w w'∧e=.returned (.slice (some ⟨w.heap.size,0,none⟩) fn fn)∧w'.ownsRow w.heap.size 3 1 (.slice (some ⟨w.heap.size,0,none⟩) fn fn) fn ((rootsE l).map (Value.int .i64)):=by
 obtain⟨i0,hi,hz0,hz1,hz2⟩:=info_parts Tryz.infoInt
 have hl:=hid hE.1
 replace hE:=hid hE
 go_enter Tryz.func112,Tryz.ntmps112
 go_wp2_with (at_make; refine wpList_make_full _ rfl (.tmp 7) (.tmp 7) 36 rfl w.heap.size 3 i0 (.int .i64 0) 1 Tryz.underlying36 hi hz0 hz1 .i64 .i64 fn fn fn rfl rfl rfl rfl (by rw[hz2]; omega) (by unfold maxLen; omega) (by simp) ?_; intro w2 hown hgr; have hb2:Below w.heap.size w w2:=(Below.refl _ _).grown hgr (by simp) (by simp))
 rw[made_ints] at hown
 go_loopw [11] (fun v wr=>∃ i:Nat,i≤fn∧v=.int .i64 i∧Row wr w.heap.size w.heap.size fn (fun k=>if k<i then (l.getD k Ent.zero).root else 0)∧Below w.heap.size w wr) (fun v _=>fn-(Go.RowKit.intOf v).toNat)
 case atStart=>exact⟨0,Nat.zero_le _,rfl,Row.congr (f:=fun _=>0) hown (fun k _=>by simp),hb2⟩
 case round=>
  clear hown hgr hb2
  obtain⟨i,hin,rfl,hrow,hbel⟩:=hrel
  by_cases hlt:i<fn
  ·have hE':=hE.out.below hbel
   obtain⟨eb,off,rfl⟩:∃ b off,fa=some ⟨b,off,none⟩:=by
    obtain⟨b,off,e,_⟩:=hE'.2.2 (by omega)
    exact⟨b,off,e⟩
   have hA:=hE'.ent hlt
   have c0:=hA.c0
   have c1:=hA.c1
   have c2:=hA.c2
   clear hA hE'
   generalize hx:l.getD i Ent.zero=x at *
   replace hx:=hid hx
   have r0:=hrow.cell hlt
   have r1:=hrow.frozen i
   have hlt1:=hrow.lt.2
   have b1:=below_alloc (wr.setCell ⟨w.heap.size,i,none⟩ (.int .i64 x.root)) (.cells #[.string x.name,.int .i64 x.root,.int .i64 x.size] 106)
   have hrow2:Hid (Row _ w.heap.size w.heap.size fn _):=hid (row_below (hrow.set i x.root) b1)
   have hbel2:=hid (Below.tr (hbel.trans ((Kept.setCell (g:=w.heap.size) (Kept.refl _ wr) (p:=⟨w.heap.size,i,none⟩) rfl (.int .i64 x.root)).below (Nat.le_refl _))) b1)
   clear hrow b1
   go_wp2_with fail
   clear c0 c1 c2 r0 r1
   go_roundw
   case rel=>
    refine⟨i+1,by omega,by go_num,hrow2.out.congr (fun k hk=>?_),hbel2.out⟩
    by_cases e:k=i
    ·subst e
     show (if k=k then x.root else _)=if k<k+1 then (l.getD k Ent.zero).root else 0
     rw[if_pos rfl,if_pos (by omega),hx.out]
    ·by_cases e2:k<i
     ·simp[e,e2,show k<i+1 by omega]
     ·simp[e,e2,show ¬k<i+1 by omega]
   case measure=>simp[Go.RowKit.intOf]; omega
  ·obtain rfl:i=fn:=by omega
   have hfin:wr.ownsRow w.heap.size 3 1 (.slice (some ⟨w.heap.size,0,none⟩) i i) i ((rootsE l).map (Value.int .i64)):=by
    have e:(rootsE l).map (Value.int .i64)=(List.range i).map fun k=>Value.int .i64 (if k<i then (l.getD k Ent.zero).root else 0):=by
     apply List.ext_getElem
     ·simp[rootsE,hl.out]
     ·intro k h1 h2
      have hk:k<l.length:=by simpa [rootsE] using h1
      have hki:k<i:=by rw[←hl.out]; exact hk
      simp[rootsE,List.getD,hk,hki]
    rw[e]
    exact hrow
   replace hfin:=hid hfin
   clear hrow
   go_wp2_with fail
   go_ret
   exact⟨hbel,rfl,hfin.out⟩
theorem root_wf {l:List Ent} (h:∀ x∈l,x.ok):∀ r∈rootsE l,(Lit.int .i64 r).wf=true:=fun r hr=>by
 obtain⟨f,hf,rfl⟩:=mem_rootsE.1 hr
 exact WalkArith.wf_i64 (h f hf).2.1
theorem rootsS_take {l:List SnapE} {j:Nat} {x:SnapE} (hx:l[j]? =some x):rootsS (l.take (j+1))=rootsS (l.take j)++rootsE x.files:=by
 rw[take_next hx,rootsS_append]
 simp[rootsS]
def RetRo (base:Nat) (e:Ending) (w:World) (R:List Int):Prop:=∃ a c,e=.returned (.slice a R.length c)∧w.ownsRow base 3 1 (.slice a R.length c) R.length (R.map (Value.int .i64))∧∀ r∈R,(Lit.int .i64 r).wf=true
set_option maxHeartbeats 2000000 in
set_option maxRecDepth 100000 in
theorem roots_any (Q:Nat→Prop) (v:SetV) (x:SetE) (w:World) (hX:SetAt Q w v x) (h6:x.files.length≤6) (h3:x.snaps.length≤3) (hs6:∀ s∈x.snaps,s.files.length≤6):
 Calls Tryz.prog 84 #[v.val] w fun e w'=>RetRo w.heap.size e w' (rootsX x)∧Below w.heap.size w w':=by
 obtain⟨i0,hi,hz0,hz1,hz2⟩:=info_parts Tryz.infoInt
 obtain⟨vn,fa,fn,fc,sa,sn,sc⟩:=v
 obtain⟨hnm,hsm,hFi,hSn,hcap⟩:=hX
 simp only at hnm hFi hSn
 subst hnm
 unfold SetV.val
 simp only
 have b0:=below_alloc w (.cells #[.string x.name,.slice fa fn fc,.slice sa sn sc] 84)
 have k1:CellsAt _ w.heap.size #[.string x.name,.slice fa fn fc,.slice sa sn sc] 84:=cellsAt_alloc w _ _
 have hfl:=hid hFi.1
 have hsl:=hid hSn.1
 have hwf:=hid (root_wf hFi.2.1)
 replace hFi:=hid (hFi.below b0)
 replace hSn:=hid (hSn.below b0)
 replace k1:=hid k1
 have hfn:fn≤6:=by rw[←hFi.out.1]; exact h6
 have hsn:sn≤3:=by rw[←hSn.out.1]; exact h3
 replace hs6:=hid hs6
 clear hcap h6 h3
 go_enter Tryz.func84,Tryz.ntmps84
 go_wp2_with fail
 generalize w.alloc (.cells #[.string x.name,.slice fa fn fc,.slice sa sn sc] 84)=w0 at *
 refine(rootsOf_any Q fa fn fc x.files w0 (by omega) hFi.out).mono ?_
 rintro e w1 ⟨b1,rfl,ho⟩
 have x2:=(b1.cell (p:=⟨w.heap.size,2,none⟩) k1.out.lt).trans (k1.out.cell 2)
 simp at x2
 replace ho:=hid ho
 clear hFi
 go_wp2_with fail
 clear x2
 go_loopw [3,12] (fun u v wr=>∃ (j k:Nat) (xs:List Int),j≤sn∧v=.int .i64 j∧Below w0.heap.size w0 wr∧k≤fn+j*6∧xs=rootsE x.files++rootsS (x.snaps.take j)∧xs.length=k∧(∃ a c,u=.slice a k c)∧wr.ownsRow w0.heap.size 3 1 u k (xs.map (Value.int .i64))∧∀ r∈xs,(Lit.int .i64 r).wf=true) (fun _ v _=>sn-(Go.RowKit.intOf v).toNat)
 case atStart=>exact⟨0,fn,rootsE x.files,Nat.zero_le _,rfl,b1,by omega,by simp[rootsS],by simp[rootsE,hfl.out],⟨_,_,rfl⟩,ho.out,hwf.out⟩
 case round=>
  clear ho b1
  obtain⟨j,k,xs,hj,rfl,hb,hk,hxs,hxl,⟨ua,uc,rfl⟩,hown,hw⟩:=hrel
  replace hxs:=hid hxs
  replace hxl:=hid hxl
  replace hw:=hid hw
  by_cases hlt:j<sn
  ·have hjl:j<x.snaps.length:=by rw[hsl.out]; exact hlt
   have hE':=hSn.out.below hb
   obtain⟨eb,off,rfl⟩:∃ b off,sa=some ⟨b,off,none⟩:=by
    obtain⟨b,off,e,_⟩:=hE'.2 (by omega)
    exact⟨b,off,e⟩
   have hx:x.snaps[j]? =some (x.snaps.getD j SnapE.zero):=by rw[List.getElem?_eq_getElem hjl]; simp[List.getD,hjl]
   obtain⟨ga,gn,gc,hA⟩:=hE'.snap hlt
   have c0:=hA.c0
   have c1:=hA.c1
   have hGf:=hA.files
   have hg6:gn≤6:=by rw[←hGf.1]; exact hs6.out _ (List.mem_of_getElem? hx)
   have hgw:=hid (root_wf hGf.2.1)
   have hgl:=hid hGf.1
   replace hx:=hid hx
   clear hA hE' hjl
   generalize x.snaps.getD j SnapE.zero=y at *
   replace hown:=hid hown
   replace hGf:=hid hGf
   go_wp2_with fail
   have ba:=below_alloc wr (.cells #[.string y.name,.slice ga gn gc] 113)
   clear c0 c1
   replace hGf:=hGf.out.below ba
   replace hown:=row_below hown.out ba
   replace hb:=Below.tr hb ba
   clear ba
   generalize wr.alloc (.cells #[.string y.name,.slice ga gn gc] 113)=w5 at *
   refine(rootsOf_any Q ga gn gc y.files w5 (by omega) hGf).mono ?_
   rintro e w6 ⟨b6,rfl,ho6⟩
   have hown6:=hid (row_below hown b6)
   have hsrc:Hid (∀ j u,((rootsE y.files).map (Value.int .i64))[j]? =some u→w6.cell? ((⟨w5.heap.size,0,none⟩:Addr).add j)=some u):=hid (ho6.cells rfl)
   have hb6:Hid (w0.heap.size≤w6.heap.size):=hid (Nat.le_trans hb.size b6.size)
   replace hb:=Below.tr hb b6
   have hnl:Hid (((rootsE y.files).map (Value.int .i64)).length=gn*1):=hid (by simp[rootsE,hgl.out])
   clear hown b6 ho6 hGf
   go_wp2_with (at_builtin; refine wpList_append_own _ rfl _ _ 36 rfl w0.heap.size 3 i0 (.int .i64 0) 1 8 Tryz.underlying36 hi hz0 hz1 hz2 rfl (by decide) _ _ _ rfl hown6.out ⟨w5.heap.size,0,none⟩ gn gn ((rootsE y.files).map (Value.int .i64)) rfl hnl.out hsrc.out (by intro u hu; simp at hu; obtain⟨_,_,rfl⟩:=hu; rfl) (by unfold maxLen; omega) (by omega) hb6.out ?_)
   intro v' w7 hown7 hgrow hnil
   have b7:Below w0.heap.size w0 w7:=hb.grown hgrow hb6.out (fun i hi=>(hown6.out.lt i hi).1)
   rw[←List.map_append] at hown7
   obtain⟨a', c', rfl⟩:∃ a' c', v'=.slice a' (k+gn) c':=by
    rcases hown7.2 with⟨hv,h0⟩ | ⟨g,cap,cur,hv,_⟩
    ·exact⟨none,0,by rw[hv,h0]⟩
    ·exact⟨_,_,hv⟩
   have hw7:∀ r∈xs++rootsE y.files,(Lit.int .i64 r).wf=true:=fun r hr=>by
    rcases List.mem_append.1 hr with h | h
    ·exact hw.out r h
    ·exact hgw.out r h
   have hl7:(xs++rootsE y.files).length=k+gn:=by rw[List.length_append,hxl.out]; simp[rootsE,hgl.out]
   have hx7:xs++rootsE y.files=rootsE x.files++rootsS (x.snaps.take (j+1)):=by rw[hxs.out,rootsS_take hx.out,List.append_assoc]
   replace hown7:=hid hown7
   replace hw7:=hid hw7
   replace hl7:=hid hl7
   replace hx7:=hid hx7
   clear hown6 hgrow hnil hsrc hnl hb
   go_wp2_with fail
   go_roundw
   case rel=>exact⟨j+1,k+gn,xs++rootsE y.files,by omega,by go_num,b7,by omega,hx7.out,hl7.out,⟨_,_,rfl⟩,hown7.out,hw7.out⟩
   case measure=>simp[Go.RowKit.intOf]; omega
  ·obtain rfl:j=sn:=by omega
   have e1:x.snaps.take j=x.snaps:=List.take_of_length_le (by rw[hsl.out]; exact Nat.le_refl _)
   have hxs':Hid (xs=rootsX x):=hid (by rw[hxs.out,e1]; rfl)
   have J:Hid (RetRo w.heap.size (.returned (.slice ua k uc)) wr (rootsX x)):=hid (by
    rw[←hxs'.out]
    exact⟨ua,uc,by rw[hxl.out],by rw[hxl.out]; exact ownsRow_base b0.size hown,hw.out⟩)
   clear hown
   go_wp2_with fail
   go_ret
   exact⟨J.out,Below.tr b0 hb⟩
end Go.Proofs.YtjafgnohlkkopaaGreatDoor

namespace Go.Proofs.YtjafgnohlkkopaaGreatDoor
open Go.RowKit
theorem rootsS_len:∀ l:List SnapE,(∀ s∈l,s.files.length≤6)→(rootsS l).length≤l.length*6
 | [],_=>by simp[rootsS]
 | s::l,hl=>by
   have e:rootsS (s::l)=rootsE s.files++rootsS l:=rfl
   rw[e,List.length_append,List.length_cons]
   have h3:=hl s (by simp)
   have h4:=rootsS_len l (fun t ht=>hl t (by simp[ht]))
   have h5:(rootsE s.files).length=s.files.length:=by simp[rootsE]
   omega
theorem shape_len {x:SetE} (h:Shape x):(rootsX x).length≤24:=by
 unfold rootsX
 rw[List.length_append]
 have h1:(rootsE x.files).length≤6:=by unfold rootsE; rw[List.length_map]; exact h.few
 have h6:=rootsS_len x.snaps (fun s hs=>(h.filesS s hs).1)
 have:=h.fewS
 omega
theorem rootsX_len {n:Nat} {B:Nat→Blk} {key:Int} {x:SetE} (h:SetOk n B key x):(rootsX x).length≤24:=shape_len h.shape
theorem count_next {R:List Int} {j:Nat} {r:Int} (hr:R[j]? =some r) (k:Int):(R.take (j+1)).count k=(R.take j).count k+if r=k then 1 else 0:=by
 rw[take_next hr,List.count_append]
 by_cases e:r=k
 ·subst e; simp
 ·rw[List.count_cons_of_ne e]; simp[e]
theorem count_take_le (R:List Int) (j:Nat) (k:Int):(R.take j).count k≤R.count k:=(List.take_sublist j R).count_le k
set_option maxHeartbeats 4000000 in
set_option maxRecDepth 100000 in
theorem held_full (Q:Nat→Prop) (a:Option Addr) (n c:Nat) (B:Nat→Blk) (key:Int) (v:SetV) (x:SetE) (w:World) (h:StoreAt w a n B) (hX:SetAt Q w v x) (hok:SetOk n B key x):
 Calls Tryz.prog 116 #[.agg #[.slice a n c],v.val] w fun e w'=>(RetE e (HeldR n B (rootsX x))∧(e=.returned (.int .i64 0)∨e=.returned (.int .i64 7)))∧Below w.heap.size w w':=by
 have hbd:=hid hok.rootBd
 have hR:=hid hok.right
 have hn:=hok.right.small
 have h24:=rootsX_len hok
 have hc6:=hid (show x.files.length≤6∧x.snaps.length≤3∧∀ s∈x.snaps,s.files.length≤6 from⟨hok.files.few,hok.fewS,fun s hs=>(hok.filesS s hs).few⟩)
 clear hok
 obtain⟨vn,fa,fn,fc,sa,sn,sc⟩:=v
 have hnm:=hX.name
 simp only at hnm
 subst hnm
 unfold SetV.val
 simp only
 have b0:=below_two w (.cells #[.slice a n c] 24) (.cells #[.string x.name,.slice fa fn fc,.slice sa sn sc] 84)
 have k0:CellsAt _ w.heap.size #[.slice a n c] 24:=(cellsAt_alloc w _ _).below (below_alloc _ (.cells #[.string x.name,.slice fa fn fc,.slice sa sn sc] 84))
 have k1:=cellsAt_alloc2 w (.cells #[.slice a n c] 24) #[.string x.name,.slice fa fn fc,.slice sa sn sc] 84
 replace h:=hid (h.below b0)
 replace hX:=hid (hX.below b0)
 replace k0:=hid k0
 replace k1:=hid k1
 go_enter Tryz.func116,Tryz.ntmps116
 go_wp2_with fail
 generalize (w.alloc (.cells #[.slice a n c] 24)).alloc (.cells #[.string x.name,.slice fa fn fc,.slice sa sn sc] 84)=w0 at *
 have s0:=k0.out.cell 0
 simp at s0
 refine(outside_any ⟨w.heap.size,0,none⟩ a n c B w0 ⟨k0.out.lt,s0,h.out⟩).mono ?_
 rintro e w1 ⟨b1,⟨e', rfl,he,hno⟩ | ⟨_,g,rfl,hrow⟩⟩
 ·exact absurd hR.out hno
 have x0:=(b1.cell (p:=⟨w.heap.size+1,0,none⟩) k1.out.lt).trans (k1.out.cell 0)
 have x1:=(b1.cell (p:=⟨w.heap.size+1,1,none⟩) k1.out.lt).trans (k1.out.cell 1)
 have x2:=(b1.cell (p:=⟨w.heap.size+1,2,none⟩) k1.out.lt).trans (k1.out.cell 2)
 simp at x0 x1 x2
 have hglt:=hrow.lt
 replace hrow:=hid hrow
 clear s0
 go_wp2_with fail
 refine(roots_any Q ⟨x.name,fa,fn,fc,sa,sn,sc⟩ x w1 (hX.out.below b1) hc6.out.1 hc6.out.2.1 hc6.out.2.2).mono ?_
 rintro e w2 ⟨⟨ra,rc,rfl,hro,hrw⟩,b2⟩
 obtain⟨ra', rc', hv,hrc,hN⟩:=numsAt_own hrw hro
 simp only[Value.slice.injEq,true_and] at hv
 obtain⟨rfl,rfl⟩:=hv
 have hrow2:Row w2 w0.heap.size g n (outs n B):=row_below hrow.out b2
 replace hrow2:=hid hrow2
 replace hN:=hid hN
 have hb2:=hid (Below.tr b1 b2)
 clear hrow hro b1 b2 x0 x1 x2 hrw hX h k0 k1
 obtain⟨rn,hrn⟩:∃ rn,rn=(rootsX x).length:=⟨_,rfl⟩
 rw[←hrn] at hN h24
 simp only[←hrn]
 have hrn':=hid hrn.symm
 clear hrn
 generalize hRR:rootsX x=R at *
 go_wp2_with fail
 go_loopw [19] (fun v wr=>∃ j:Nat,j≤rn∧v=.int .i64 j∧Kept g w2 wr∧Row wr w0.heap.size g n (fun k=>outs n B k-((R.take j).count ((k:Int)+1):Int))∧∀ k,k<n→((R.take j).count ((k:Int)+1):Int)≤outs n B k) (fun v _=>rn-(Go.RowKit.intOf v).toNat)
 case atStart=>exact⟨0,Nat.zero_le _,rfl,Kept.refl _ _,hrow2.out.congr (fun k _=>by simp),fun k hk=>by simp; have:=hR.out.held k hk; simp at this; unfold outs; omega⟩
 case round=>
  clear hrow2
  obtain⟨j,hj,rfl,hkp,hrow,hle⟩:=hrel
  replace hle:=hid hle
  by_cases hlt:j<rn
  ·have hjl:j<R.length:=by rw[hrn'.out]; exact hlt
   obtain⟨kb,ko,rfl,hkb,hgk,hcc⟩:=hN.out.2.2 (by omega)
   have hck:wr.cell? ⟨kb,ko+j,none⟩=some (.int .i64 (R.getD j 0)):=(hkp.cell (p:=⟨kb,ko+j,none⟩) (by simp; omega)).trans (hcc j hlt)
   have hx:R[j]? =some (R.getD j 0):=by rw[List.getElem?_eq_getElem hjl]; simp[List.getD,hjl]
   have hmem:=hbd.out _ (List.mem_of_getElem? hx)
   replace hx:=hid hx
   clear hcc hjl
   generalize R.getD j 0=r at *
   by_cases h0:r=0
   ·subst h0
    have hrow':Hid (Row wr w0.heap.size g n (fun k=>outs n B k-((R.take (j+1)).count ((k:Int)+1):Int))):=hid (hrow.congr (fun k hk=>by rw[count_next hx.out,if_neg (by omega)]; simp))
    have hle':Hid (∀ k,k<n→((R.take (j+1)).count ((k:Int)+1):Int)≤outs n B k):=hid (fun k hk=>by have:=hle.out k hk; rw[count_next hx.out,if_neg (by omega)]; simpa using this)
    clear hrow
    go_wp2_with fail
    go_roundw
    case rel=>exact⟨j+1,by omega,by go_num,hkp,hrow'.out,hle'.out⟩
    case measure=>simp[Go.RowKit.intOf]; omega
   ·obtain⟨m,rfl⟩:∃ m:Nat,r=(m:Int)+1:=⟨(r-1).toNat,by omega⟩
    have hmn:m<n:=by omega
    have hr1:¬((m:Int)+1<1):=by omega
    have hr2:¬((n:Int)<(m:Int)+1):=by omega
    have r0:=hrow.cell hmn
    have r1:=hrow.frozen m
    have hle0:=hle.out m hmn
    have hbb:=(hR.out.one m hmn).bounds
    have hob:outs n B m≤1000000:=by unfold outs; omega
    have hrow':Hid (Row (wr.setCell ⟨g,m,none⟩ (.int .i64 (outs n B m-((R.take j).count ((m:Int)+1):Int)-1))) w0.heap.size g n (fun k=>outs n B k-((R.take (j+1)).count ((k:Int)+1):Int))):=hid ((hrow.set m _).congr (fun k hk=>by
     rw[count_next hx.out]
     by_cases e:k=m
     ·subst e; simp; omega
     ·rw[if_neg e,if_neg (by omega)]; simp))
    have hkp':Hid (Kept g w2 (wr.setCell ⟨g,m,none⟩ (.int .i64 (outs n B m-((R.take j).count ((m:Int)+1):Int)-1)))):=hid (hkp.trans (Kept.setCell (g:=g) (Kept.refl _ _) (p:=⟨g,m,none⟩) rfl _))
    have hcn:Hid (((R.take (j+1)).count ((m:Int)+1):Int)=((R.take j).count ((m:Int)+1):Int)+1):=hid (by rw[count_next hx.out,if_pos rfl]; simp)
    have hcq:Hid (∀ k:Nat,k≠m→(R.take (j+1)).count ((k:Int)+1)=(R.take j).count ((k:Int)+1)):=hid (fun k hk=>by rw[count_next hx.out,if_neg (by omega)]; rfl)
    clear hrow hbb
    generalize hd:outs n B m-((R.take j).count ((m:Int)+1):Int)=d at *
    replace hd:=hid hd
    have hd0:(0:Int)≤d:=by rw[←hd.out]; omega
    have hd1:d≤1000000:=by rw[←hd.out]; omega
    by_cases hneg:d-1<0
    ·have hneg':decide (d-1<0)=true:=by simp[hneg]
     go_wp2_with fail
     go_ret
     refine⟨⟨retE_no 7 (by omega) (fun f=>?_),.inr rfl⟩,Below.tr b0 (hb2.out.trans (hkp'.out.below (by omega)))⟩
     have h1:=f m hmn
     have h2:=count_take_le R (j+1) ((m:Int)+1)
     have h3:=hcn.out
     have h4:=hd.out
     omega
    ·have hneg':decide (d-1<0)=false:=by simp[hneg]
     have hle':Hid (∀ k,k<n→((R.take (j+1)).count ((k:Int)+1):Int)≤outs n B k):=hid (fun k hk=>by
      by_cases e:k=m
      ·subst e; have h3:=hcn.out; have h4:=hd.out; omega
      ·rw[hcq.out k e]; exact hle.out k hk)
     go_wp2_with fail
     go_roundw
     case rel=>exact⟨j+1,by omega,by go_num,hkp'.out,hrow'.out,hle'.out⟩
     case measure=>simp[Go.RowKit.intOf]; omega
  ·obtain rfl:j=rn:=by omega
   have e1:R.take j=R:=List.take_of_length_le (by rw[hrn'.out]; exact Nat.le_refl _)
   have hfin:Hid (HeldR n B R):=hid (fun k hk=>by have:=hle.out k hk; rwa [e1] at this)
   clear hrow e1
   go_wp2_with fail
   go_ret
   exact⟨⟨retE_yes (hRR▸hfin.out),.inl rfl⟩,Below.tr b0 (hb2.out.trans (hkp.below (by omega)))⟩
theorem held_any (Q:Nat→Prop) (a:Option Addr) (n c:Nat) (B:Nat→Blk) (key:Int) (v:SetV) (x:SetE) (w:World) (h:StoreAt w a n B) (hX:SetAt Q w v x) (hok:SetOk n B key x):
 Calls Tryz.prog 116 #[.agg #[.slice a n c],v.val] w fun e w'=>RetE e (HeldR n B (rootsX x))∧Below w.heap.size w w':=
 (held_full Q a n c B key v x w h hX hok).mono (fun _ _ h=>⟨h.1.1,h.2⟩)
theorem checkHeld_any (Q:Nat→Prop) (a:Option Addr) (n c:Nat) (B:Nat→Blk) (key:Int) (v:SetV) (x:SetE) (w:World) (h:StoreAt w a n B) (hX:SetAt Q w v x):
 Calls Tryz.prog 94 #[.agg #[.slice a n c],.int .i64 key,v.val] w fun e w'=>RetE e (SetOk n B key x∧HeldR n B (rootsX x))∧Below w.heap.size w w':=by
 obtain⟨vn,fa,fn,fc,sa,sn,sc⟩:=v
 have hnm:=hX.name
 simp only at hnm
 subst hnm
 unfold SetV.val
 simp only
 have b0:=below_two w (.cells #[.slice a n c] 24) (.cells #[.string x.name,.slice fa fn fc,.slice sa sn sc] 84)
 have k0:CellsAt _ w.heap.size #[.slice a n c] 24:=(cellsAt_alloc w _ _).below (below_alloc _ (.cells #[.string x.name,.slice fa fn fc,.slice sa sn sc] 84))
 have k1:=cellsAt_alloc2 w (.cells #[.slice a n c] 24) #[.string x.name,.slice fa fn fc,.slice sa sn sc] 84
 replace h:=hid (h.below b0)
 replace hX:=hid (hX.below b0)
 replace k0:=hid k0
 replace k1:=hid k1
 go_enter Tryz.func94,Tryz.ntmps94
 go_wp2_with fail
 generalize (w.alloc (.cells #[.slice a n c] 24)).alloc (.cells #[.string x.name,.slice fa fn fc,.slice sa sn sc] 84)=w0 at *
 refine(setCheck_any Q a n c B key ⟨x.name,fa,fn,fc,sa,sn,sc⟩ x w0 h.out hX.out).mono ?_
 rintro e w1 ⟨⟨e', rfl,he⟩,b1⟩
 replace he:=hid he
 have s0:=(b1.cell (p:=⟨w.heap.size,0,none⟩) k0.out.lt).trans (k0.out.cell 0)
 have x0:=(b1.cell (p:=⟨w.heap.size+1,0,none⟩) k1.out.lt).trans (k1.out.cell 0)
 have x1:=(b1.cell (p:=⟨w.heap.size+1,1,none⟩) k1.out.lt).trans (k1.out.cell 1)
 have x2:=(b1.cell (p:=⟨w.heap.size+1,2,none⟩) k1.out.lt).trans (k1.out.cell 2)
 simp at s0 x0 x1 x2
 by_cases h0:e'=0
 ·have h0':(e' == 0)=true:=by simp[h0]
  have hok:=hid (he.out.1 h0)
  go_wp2_with fail
  refine(held_any Q a n c B key ⟨x.name,fa,fn,fc,sa,sn,sc⟩ x w1 (h.out.below b1) (hX.out.below b1) hok.out).mono ?_
  rintro e w2 ⟨⟨e2,rfl,he2⟩,b2⟩
  replace he2:=hid he2
  replace b1:=Below.tr (Below.tr b0 b1) b2
  clear s0 x0 x1 x2 b2
  go_wp2_with fail
  go_ret
  exact⟨⟨e2,rfl,fun f=>⟨hok.out,he2.out.1 f⟩,fun f=>he2.out.2 f.2⟩,b1⟩
 ·have h0':(e' == 0)=false:=by simp[h0]
  go_wp2_with fail
  go_ret
  exact⟨retE_no e' h0 (fun f=>h0 (he.out.2 f.1)),Below.tr b0 b1⟩
end Go.Proofs.YtjafgnohlkkopaaGreatDoor

namespace Go.Proofs.YtjafgnohlkkopaaGreatDoor
open Go.RowKit
def SetE.zero:SetE:=⟨ByteArray.empty,[],[]⟩
instance : Inhabited SetE:=⟨SetE.zero⟩
def SetE.nm (x:SetE):List UInt8:=x.name.data.toList
structure SetIn (Q:Nat→Prop) (w:World) (b off:Nat) (x:SetE) (v:SetV):Prop where
 c0:w.cell? ⟨b,off,none⟩=some (.string v.name)
 c1:w.cell? ⟨b,off+1,none⟩=some (.slice v.fa v.fn v.fc)
 c2:w.cell? ⟨b,off+2,none⟩=some (.slice v.sa v.sn v.sc)
 ok:SetAt Q w v x
theorem SetIn.below {Q:Nat→Prop} {w w':World} {b off:Nat} {x:SetE} {v:SetV} (h:SetIn Q w b off x v) (hb:Below w.heap.size w w'):SetIn Q w' b off x v:=by
 have hlt:=cell_lt h.c0
 exact⟨(hb.cell (p:=⟨b,off,none⟩) hlt).trans h.c0,(hb.cell (p:=⟨b,off+1,none⟩) hlt).trans h.c1,(hb.cell (p:=⟨b,off+2,none⟩) hlt).trans h.c2,h.ok.below hb⟩
theorem SetIn.weaken {Q R:Nat→Prop} {w:World} {b off:Nat} {x:SetE} {v:SetV} (h:SetIn Q w b off x v) (hq:∀ b,b<w.heap.size→Q b→R b):SetIn R w b off x v:=⟨h.c0,h.c1,h.c2,h.ok.weaken hq⟩
def SetsAt (Q:Nat→Prop) (w:World) (a:Option Addr) (n:Nat) (l:List SetE):Prop:=
 l.length=n∧(0<n→∃ b off,a=some ⟨b,off,none⟩∧b<w.heap.size∧Q b∧∀ i,i<n→∃ v,SetIn Q w b (off+i*3) (l.getD i SetE.zero) v)
theorem setsAt_nil (Q:Nat→Prop) (w:World) (a:Option Addr):SetsAt Q w a 0 []:=⟨rfl,fun h=>absurd h (by omega)⟩
theorem SetsAt.below {Q:Nat→Prop} {w w':World} {a:Option Addr} {n:Nat} {l:List SetE} (h:SetsAt Q w a n l) (hb:Below w.heap.size w w'):SetsAt Q w' a n l:=by
 refine⟨h.1,fun hn=>?_⟩
 obtain⟨b,off,rfl,hlt,hq,hc⟩:=h.2 hn
 refine⟨b,off,rfl,Nat.lt_of_lt_of_le hlt hb.size,hq,fun i hi=>?_⟩
 obtain⟨v,hs⟩:=hc i hi
 exact⟨v,hs.below hb⟩
theorem SetsAt.weaken {Q R:Nat→Prop} {w:World} {a:Option Addr} {n:Nat} {l:List SetE} (h:SetsAt Q w a n l) (hq:∀ b,b<w.heap.size→Q b→R b):SetsAt R w a n l:=by
 refine⟨h.1,fun hn=>?_⟩
 obtain⟨b,off,rfl,hlt,q,hc⟩:=h.2 hn
 refine⟨b,off,rfl,hlt,hq b hlt q,fun i hi=>?_⟩
 obtain⟨v,hs⟩:=hc i hi
 exact⟨v,hs.weaken hq⟩
theorem SetsAt.set {Q:Nat→Prop} {w:World} {b off n:Nat} {l:List SetE} (h:SetsAt Q w (some ⟨b,off,none⟩) n l) {i:Nat} (hi:i<n):∃ v,SetIn Q w b (off+i*3) (l.getD i SetE.zero) v:=by
 obtain⟨b', off', e,_,_,hc⟩:=h.2 (by omega)
 simp only[Option.some.injEq,Addr.mk.injEq,and_true] at e
 obtain⟨rfl,rfl⟩:=e
 exact hc i hi
structure TenE where
 key:Int
 quota:Int
 sets:List SetE
def TenE.zero:TenE:=⟨0,0,[]⟩
instance : Inhabited TenE:=⟨TenE.zero⟩
def TenE.val (t:TenE) (sa:Option Addr) (sn sc:Nat):Value:=.agg #[.int .i64 t.key,.int .i64 t.quota,.slice sa sn sc]
structure TenAt (Q:Nat→Prop) (w:World) (t:TenE) (sa:Option Addr) (sn sc:Nat):Prop where
 sets:SetsAt Q w sa sn t.sets
 kb:-9223372036854775808≤t.key∧t.key≤9223372036854775807
 qb:-9223372036854775808≤t.quota∧t.quota≤9223372036854775807
 caps:sn≤sc
theorem TenAt.below {Q:Nat→Prop} {w w':World} {t:TenE} {sa:Option Addr} {sn sc:Nat} (h:TenAt Q w t sa sn sc) (hb:Below w.heap.size w w'):TenAt Q w' t sa sn sc:=⟨h.sets.below hb,h.kb,h.qb,h.caps⟩
theorem TenAt.weaken {Q R:Nat→Prop} {w:World} {t:TenE} {sa:Option Addr} {sn sc:Nat} (h:TenAt Q w t sa sn sc) (hq:∀ b,b<w.heap.size→Q b→R b):TenAt R w t sa sn sc:=⟨h.sets.weaken hq,h.kb,h.qb,h.caps⟩
structure TenIn (Q:Nat→Prop) (w:World) (b off:Nat) (t:TenE) (sa:Option Addr) (sn sc:Nat):Prop where
 c0:w.cell? ⟨b,off,none⟩=some (.int .i64 t.key)
 c1:w.cell? ⟨b,off+1,none⟩=some (.int .i64 t.quota)
 c2:w.cell? ⟨b,off+2,none⟩=some (.slice sa sn sc)
 ok:TenAt Q w t sa sn sc
theorem TenIn.below {Q:Nat→Prop} {w w':World} {b off:Nat} {t:TenE} {sa:Option Addr} {sn sc:Nat} (h:TenIn Q w b off t sa sn sc) (hb:Below w.heap.size w w'):TenIn Q w' b off t sa sn sc:=by
 have hlt:=cell_lt h.c0
 exact⟨(hb.cell (p:=⟨b,off,none⟩) hlt).trans h.c0,(hb.cell (p:=⟨b,off+1,none⟩) hlt).trans h.c1,(hb.cell (p:=⟨b,off+2,none⟩) hlt).trans h.c2,h.ok.below hb⟩
theorem TenIn.weaken {Q R:Nat→Prop} {w:World} {b off:Nat} {t:TenE} {sa:Option Addr} {sn sc:Nat} (h:TenIn Q w b off t sa sn sc) (hq:∀ b,b<w.heap.size→Q b→R b):TenIn R w b off t sa sn sc:=⟨h.c0,h.c1,h.c2,h.ok.weaken hq⟩
def TensAt (Q:Nat→Prop) (w:World) (a:Option Addr) (n:Nat) (l:List TenE):Prop:=
 l.length=n∧(0<n→∃ b off,a=some ⟨b,off,none⟩∧b<w.heap.size∧Q b∧∀ i,i<n→∃ sa sn sc,TenIn Q w b (off+i*3) (l.getD i TenE.zero) sa sn sc)
theorem tensAt_nil (Q:Nat→Prop) (w:World) (a:Option Addr):TensAt Q w a 0 []:=⟨rfl,fun h=>absurd h (by omega)⟩
theorem TensAt.below {Q:Nat→Prop} {w w':World} {a:Option Addr} {n:Nat} {l:List TenE} (h:TensAt Q w a n l) (hb:Below w.heap.size w w'):TensAt Q w' a n l:=by
 refine⟨h.1,fun hn=>?_⟩
 obtain⟨b,off,rfl,hlt,hq,hc⟩:=h.2 hn
 refine⟨b,off,rfl,Nat.lt_of_lt_of_le hlt hb.size,hq,fun i hi=>?_⟩
 obtain⟨sa,sn,sc,hs⟩:=hc i hi
 exact⟨sa,sn,sc,hs.below hb⟩
theorem TensAt.weaken {Q R:Nat→Prop} {w:World} {a:Option Addr} {n:Nat} {l:List TenE} (h:TensAt Q w a n l) (hq:∀ b,b<w.heap.size→Q b→R b):TensAt R w a n l:=by
 refine⟨h.1,fun hn=>?_⟩
 obtain⟨b,off,rfl,hlt,q,hc⟩:=h.2 hn
 refine⟨b,off,rfl,hlt,hq b hlt q,fun i hi=>?_⟩
 obtain⟨sa,sn,sc,hs⟩:=hc i hi
 exact⟨sa,sn,sc,hs.weaken hq⟩
theorem TensAt.ten {Q:Nat→Prop} {w:World} {b off n:Nat} {l:List TenE} (h:TensAt Q w (some ⟨b,off,none⟩) n l) {i:Nat} (hi:i<n):∃ sa sn sc,TenIn Q w b (off+i*3) (l.getD i TenE.zero) sa sn sc:=by
 obtain⟨b', off', e,_,_,hc⟩:=h.2 (by omega)
 simp only[Option.some.injEq,Addr.mk.injEq,and_true] at e
 obtain⟨rfl,rfl⟩:=e
 exact hc i hi
def rootsL (l:List SetE):List Int:=l.flatMap rootsX
def rootsT (t:TenE):List Int:=rootsL t.sets
def rootsP (l:List TenE):List Int:=l.flatMap rootsT
structure TenOk (n:Nat) (B:Nat→Blk) (t:TenE):Prop where
 kb:0≤t.key∧t.key≤1000
 qb:0≤t.quota∧t.quota≤400
 few:t.sets.length≤3
 sets:∀ x∈t.sets,SetOk n B t.key x
 order:t.sets.Pairwise fun a b=>a.nm<b.nm
def Uses (B:Nat→Blk) (R:List Int) (m:Int):Prop:=∃ L:List Int,Rising L∧(∀ x,x∈L↔Clo B R x)∧(L.length:Int)=m
def sumQ (l:List TenE):Int:=(l.map (·.quota)).sum
structure PoolOk (n:Nat) (B:Nat→Blk) (l:List TenE):Prop where
 right:Right n B
 few:l.length≤3
 tens:∀ t∈l,TenOk n B t
 room:0<l.length→sumQ l+90≤n
 uses:∀ t∈l,∃ m,Uses B (rootsT t) m∧m≤t.quota
 apart:l.Pairwise fun t u=>∀ x,Clo B (rootsT t) x→¬Clo B (rootsT u) x
 held:∀ k,k<n→outs n B k=((rootsP l).count ((k:Int)+1):Int)
theorem rootsL_take {l:List SetE} {j:Nat} {x:SetE} (hx:l[j]? =some x):rootsL (l.take (j+1))=rootsL (l.take j)++rootsX x:=by
 unfold rootsL
 rw[take_next hx,List.flatMap_append]
 simp
theorem TenOk.rootBd {n:Nat} {B:Nat→Blk} {t:TenE} (h:TenOk n B t):∀ r∈rootsT t,r=0∨(1≤r∧r≤n):=fun r hr=>by
 obtain⟨x,hx,hr⟩:=List.mem_flatMap.1 hr
 exact(h.sets x hx).rootBd r hr
theorem rootsL_len:∀ (l:List SetE),(∀ x∈l,Shape x)→(rootsL l).length≤l.length*24
 | [],_=>by simp[rootsL]
 | x::l,h=>by
   have h1:=shape_len (h x (by simp))
   have h2:=rootsL_len l (fun y hy=>h y (by simp[hy]))
   simp only[rootsL,List.flatMap_cons,List.length_append,List.length_cons] at *
   omega
theorem TenOk.shapes {n:Nat} {B:Nat→Blk} {t:TenE} (h:TenOk n B t):∀ x∈t.sets,Shape x:=fun x hx=>(h.sets x hx).shape
theorem rootsT_len {n:Nat} {B:Nat→Blk} {t:TenE} (h:TenOk n B t):(rootsT t).length≤72:=by
 have h1:=rootsL_len t.sets h.shapes
 have:=h.few
 unfold rootsT
 omega
theorem run_append_i64 (w:World) (base:Nat) (ty:TypeId) (v:Value) (k:Nat) (xs:List Value) (hv:w.ownsRow base 3 1 v k xs) (xa:Option Addr) (m c:Nat) (ys:List Int) (hN:NumsAt (fun _=>True) .i64 w xa m ys)
 (hx:xa=none→m=0∧c=0) (hbase:base≤w.heap.size) (hk:k≤100000) (hm:m≤100000):
 ∃ v' w', (Builtin.append_ #[36,36] ty #[v,.slice xa m c]).run Tryz.prog w=.ok v' w'∧w'.ownsRow base 3 1 v' (k+m) (xs++ys.map (Value.int .i64))∧w.grownBy w' v.ownBlock:=by
 obtain⟨i0,hi,hz0,hz1,hz2⟩:=info_parts Tryz.infoInt
 cases xa with
 | none=>
   obtain⟨rfl,rfl⟩:=hx rfl
   obtain rfl:ys=[]:=List.eq_nil_of_length_eq_zero hN.1
   exact⟨v,w,run_append_owned_none (P:=Tryz.prog) (w:=w) base 36 ty 3 i0 1 Tryz.underlying36 hi v k xs hv,by simpa using hv,⟨rfl,rfl,rfl,Nat.le_refl _,fun _ _ _=>rfl⟩⟩
 | some a=>
   have hl:(ys.map (Value.int .i64)).length=m*1:=by simp[hN.1]
   have hnews:∀ j u,(ys.map (Value.int .i64))[j]? =some u→w.cell? (a.add j)=some u:=by
    intro j u hj
    obtain⟨hj1,hj2⟩:=List.getElem?_eq_some_iff.1 hj
    have hjm:j<m:=by simpa [hN.1] using hj1
    obtain⟨b,off,ha,_,_,hc⟩:=hN.2.2 (by omega)
    cases ha
    have:=hc j hjm
    have hjy:j<ys.length:=by rw[hN.1]; exact hjm
    rw[show ((⟨b,off,none⟩:Addr).add j)=⟨b,off+j,none⟩ by simp[Addr.add],this,←hj2]
    simp[List.getD,hjy]
   have h1:∀ u∈ys.map (Value.int .i64),u.oneCell'=true:=by
    intro u hu
    obtain⟨y,_,rfl⟩:=List.mem_map.1 hu
    rfl
   obtain⟨v', w', hr,ho,hg,hn⟩:=run_append_own (P:=Tryz.prog) w base 36 ty 3 i0 (.int .i64 0) 1 8 Tryz.underlying36 hi hz0 hz1 hz2 rfl (by decide) _ k xs hv a m c _ hl hnews h1 (by unfold maxLen; omega) (by omega) hbase
   exact⟨v', w', hr,ho,hg⟩
theorem row_nums {w:World} {lo:Nat} {a:Option Addr} {c:Nat} {R:List Int} (hr:w.ownsRow lo 3 1 (.slice a R.length c) R.length (R.map (Value.int .i64))) (hw:∀ r∈R,(Lit.int .i64 r).wf=true):NumsAt (fun b=>lo≤b) .i64 w a R.length R:=by
 obtain⟨a', c', hv,_,hN⟩:=numsAt_own hw hr
 simp only[Value.slice.injEq] at hv
 obtain⟨rfl,_,rfl⟩:=hv
 exact hN
theorem row_none {w:World} {base:Nat} {e:TypeId} {size n c m:Nat} {a:Option Addr} {xs:List Value} (h:w.ownsRow base e size (.slice a n c) m xs):a=none→n=0∧c=0:=by
 intro ha
 rcases h.2 with⟨hv,h0⟩ | ⟨g,cap,cur,hv,_⟩
 ·simp only[Value.slice.injEq] at hv
  exact⟨hv.2.1,hv.2.2⟩
 ·simp only[Value.slice.injEq] at hv
  rw[ha] at hv
  cases hv.1
set_option maxHeartbeats 2000000 in
set_option maxRecDepth 100000 in
theorem poolRoots_any (Q:Nat→Prop) (t:TenE) (sa:Option Addr) (sn sc:Nat) (w:World) (hT:TenAt Q w t sa sn sc) (hsh:∀ x∈t.sets,Shape x) (h3:t.sets.length≤3):
 Calls Tryz.prog 54 #[t.val sa sn sc] w fun e w'=>RetRo w.heap.size e w' (rootsT t)∧Below w.heap.size w w':=by
 obtain⟨i0,hi,hz0,hz1,hz2⟩:=info_parts Tryz.infoInt
 unfold TenE.val
 have b0:=below_alloc w (.cells #[.int .i64 t.key,.int .i64 t.quota,.slice sa sn sc] 64)
 have k1:CellsAt _ w.heap.size #[.int .i64 t.key,.int .i64 t.quota,.slice sa sn sc] 64:=cellsAt_alloc w _ _
 have hsl:=hid hT.sets.1
 have hS:=hid (hT.sets.below b0)
 replace k1:=hid k1
 have hsn:sn≤3:=by rw[←hT.sets.1]; exact h3
 replace hsh:=hid hsh
 clear hT h3
 go_enter Tryz.func54,Tryz.ntmps54
 go_wp2_with fail
 generalize w.alloc (.cells #[.int .i64 t.key,.int .i64 t.quota,.slice sa sn sc] 64)=w0 at *
 go_loopw [3,9] (fun u v wr=>∃ (j k:Nat) (xs:List Int),j≤sn∧v=.int .i64 j∧Below w0.heap.size w0 wr∧k≤j*24∧xs=rootsL (t.sets.take j)∧xs.length=k∧(∃ a c,u=.slice a k c)∧wr.ownsRow w0.heap.size 3 1 u k (xs.map (Value.int .i64))∧∀ r∈xs,(Lit.int .i64 r).wf=true) (fun _ v _=>sn-(Go.RowKit.intOf v).toNat)
 case atStart=>exact⟨0,0,[],Nat.zero_le _,rfl,Below.refl _ _,by omega,by simp[rootsL],rfl,⟨_,_,rfl⟩,World.ownsRow_nil _ _ _ _,by simp⟩
 case round=>
  obtain⟨j,k,xs,hj,rfl,hb,hk,hxs,hxl,⟨ua,uc,rfl⟩,hown,hw⟩:=hrel
  replace hxs:=hid hxs
  replace hxl:=hid hxl
  replace hw:=hid hw
  by_cases hlt:j<sn
  ·have hjl:j<t.sets.length:=by rw[hsl.out]; exact hlt
   have hE':=hS.out.below hb
   obtain⟨eb,off,rfl⟩:∃ b off,sa=some ⟨b,off,none⟩:=by
    obtain⟨b,off,e,_⟩:=hE'.2 (by omega)
    exact⟨b,off,e⟩
   have hx:t.sets[j]? =some (t.sets.getD j SetE.zero):=by rw[List.getElem?_eq_getElem hjl]; simp[List.getD,hjl]
   obtain⟨v,hA⟩:=hE'.set hlt
   have c0:=hA.c0
   have c1:=hA.c1
   have c2:=hA.c2
   have hXa:=hA.ok
   have hShx:=hid (hsh.out _ (List.mem_of_getElem? hx))
   replace hx:=hid hx
   clear hA hE' hjl
   generalize t.sets.getD j SetE.zero=y at *
   replace hown:=hid hown
   replace hXa:=hid hXa
   go_wp2_with fail
   have ba:=below_alloc wr (.cells #[.string v.name,.slice v.fa v.fn v.fc,.slice v.sa v.sn v.sc] 84)
   clear c0 c1 c2
   replace hXa:=hXa.out.below ba
   replace hown:=row_below hown.out ba
   replace hb:=Below.tr hb ba
   clear ba
   generalize wr.alloc (.cells #[.string v.name,.slice v.fa v.fn v.fc,.slice v.sa v.sn v.sc] 84)=w5 at *
   refine(roots_any Q v y w5 hXa hShx.out.few hShx.out.fewS (fun s hs=>(hShx.out.filesS s hs).1)).mono ?_
   rintro e w6 ⟨⟨ra,rc,rfl,ho6,hrw6⟩,b6⟩
   have hown6:=hid (row_below hown b6)
   obtain⟨rn,hrn⟩:∃ rn,rn=(rootsX y).length:=⟨_,rfl⟩
   have h24:rn≤24:=by rw[hrn]; exact shape_len hShx.out
   obtain⟨ra', rc', hv,hrc,hN6⟩:=numsAt_own hrw6 ho6
   simp only[Value.slice.injEq,true_and] at hv
   obtain⟨rfl,rfl⟩:=hv
   have ho6':=ho6
   rw[←hrn] at hN6 ho6'
   simp only[←hrn]
   have hrn':=hid hrn
   have hb6:Hid (w0.heap.size≤w6.heap.size):=hid (Nat.le_trans hb.size b6.size)
   replace hb:=Below.tr hb b6
   replace hrw6:=hid hrw6
   replace hN6:=hid hN6
   clear hown b6 ho6 hXa hrn
   have hnone:=row_none ho6'
   have hw7:∀ r∈xs++rootsX y,(Lit.int .i64 r).wf=true:=fun r hr=>by
    rcases List.mem_append.1 hr with h | h
    ·exact hw.out r h
    ·exact hrw6.out r h
   have hl7:(xs++rootsX y).length=k+rn:=by rw[List.length_append,hxl.out,hrn'.out]
   have hx7:xs++rootsX y=rootsL (t.sets.take (j+1)):=by rw[hxs.out,rootsL_take hx.out]
   obtain⟨v', w7,hrun,hown7,hgrow⟩:=run_append_i64 w6 w0.heap.size 36 (.slice ua k uc) k _ hown6.out ra rn rc (rootsX y) (hN6.out.weaken fun _ _ _=>trivial) hnone hb6.out (by omega) (by omega)
   have b7:Below w0.heap.size w0 w7:=hb.grown hgrow hb6.out (fun i hi=>(hown6.out.lt i hi).1)
   rw[←List.map_append] at hown7
   obtain⟨a', c', rfl⟩:∃ a' c', v'=.slice a' (k+rn) c':=by
    rcases hown7.2 with⟨hv,h0⟩ | ⟨g,cap,cur,hv,_⟩
    ·exact⟨none,0,by rw[hv,h0]⟩
    ·exact⟨_,_,hv⟩
   replace hown7:=hid hown7
   replace hw7:=hid hw7
   replace hl7:=hid hl7
   replace hx7:=hid hx7
   replace hnone:=hid hnone
   clear hown6 hgrow hb ho6'
   go_wp2_with (at_builtin; refine Lib.wpList_append_run _ rfl _ _ _ _ rfl _ _ rfl rfl _ _ hrun ?_)
   go_roundw
   case rel=>exact⟨j+1,k+rn,xs++rootsX y,by omega,by go_num,b7,by omega,hx7.out,hl7.out,⟨_,_,rfl⟩,hown7.out,hw7.out⟩
   case measure=>simp[Go.RowKit.intOf]; omega
  ·obtain rfl:j=sn:=by omega
   have e1:t.sets.take j=t.sets:=List.take_of_length_le (by rw[hsl.out]; exact Nat.le_refl _)
   have hxs':Hid (xs=rootsT t):=hid (by rw[hxs.out,e1]; rfl)
   have J:Hid (RetRo w.heap.size (.returned (.slice ua k uc)) wr (rootsT t)):=hid (by
    rw[←hxs'.out]
    exact⟨ua,uc,by rw[hxl.out],by rw[hxl.out]; exact ownsRow_base b0.size hown,hw.out⟩)
   clear hown
   go_wp2_with fail
   go_ret
   exact⟨J.out,Below.tr b0 hb⟩
end Go.Proofs.YtjafgnohlkkopaaGreatDoor

namespace Go.Proofs.YtjafgnohlkkopaaGreatDoor
open Go.RowKit
theorem FileOk.rootOk {n:Nat} {B:Nat→Blk} {key r s:Int} (h:FileOk n B key r s):r=0∨There n B r:=by
 rcases h.rooted with h | h
 ·exact .inl h
 ·exact .inr h.1
theorem SetOk.rootsOk {n:Nat} {B:Nat→Blk} {key:Int} {x:SetE} (h:SetOk n B key x):RootsOk n B (rootsX x):=fun r hr=>by
 rw[rootsX_eq] at hr
 obtain⟨e,he,rfl⟩:=mem_rootsE.1 hr
 exact(h.ents e he).rootOk
theorem TenOk.rootsOk {n:Nat} {B:Nat→Blk} {t:TenE} (h:TenOk n B t):RootsOk n B (rootsT t):=fun r hr=>by
 obtain⟨x,hx,hr⟩:=List.mem_flatMap.1 hr
 exact(h.sets x hx).rootsOk r hr
def RetRe (base:Nat) (e:Ending) (w:World) (B:Nat→Blk) (R:List Int):Prop:=∃ (a:Option Addr) (ln c:Nat) (L:List Int),e=.returned (.slice a ln c)∧NumsAt (fun b=>base≤b) .i64 w a ln L∧Rising L∧∀ x,x∈L↔Clo B R x
set_option maxHeartbeats 2000000 in
set_option maxRecDepth 100000 in
theorem poolReach_any (Q:Nat→Prop) (a:Option Addr) (n c:Nat) (B:Nat→Blk) (t:TenE) (sa:Option Addr) (sn sc:Nat) (w:World) (h:StoreAt w a n B) (hT:TenAt Q w t sa sn sc) (hR:Right n B) (hok:TenOk n B t):
 Calls Tryz.prog 26 #[.agg #[.slice a n c],t.val sa sn sc] w fun e w'=>RetRe w.heap.size e w' B (rootsT t)∧Below w.heap.size w w':=by
 have b0:=below_two w (.cells #[.slice a n c] 24) (.cells #[.int .i64 t.key,.int .i64 t.quota,.slice sa sn sc] 64)
 have k0:CellsAt _ w.heap.size #[.slice a n c] 24:=(cellsAt_alloc w _ _).below (below_alloc _ (.cells #[.int .i64 t.key,.int .i64 t.quota,.slice sa sn sc] 64))
 have k1:=cellsAt_alloc2 w (.cells #[.slice a n c] 24) #[.int .i64 t.key,.int .i64 t.quota,.slice sa sn sc] 64
 replace h:=hid (h.below b0)
 replace hT:=hid (hT.below b0)
 have hsh:=hid hok.shapes
 have h3:=hid hok.few
 have h72:=hid (rootsT_len hok)
 have hro:=hid hok.rootsOk
 replace hR:=hid hR
 replace hok:=hid hok
 replace k0:=hid k0
 replace k1:=hid k1
 unfold TenE.val
 go_enter Tryz.func26,Tryz.ntmps26
 go_wp2_with fail
 generalize (w.alloc (.cells #[.slice a n c] 24)).alloc (.cells #[.int .i64 t.key,.int .i64 t.quota,.slice sa sn sc] 64)=w0 at *
 have s0:=k0.out.cell 0
 have x0:=k1.out.cell 0
 have x1:=k1.out.cell 1
 have x2:=k1.out.cell 2
 simp at s0 x0 x1 x2
 go_region_with (first | (go_at_call 54; refine Calls.mono (poolRoots_any Q t sa sn sc _ ?_ hsh.out h3.out) ?_; exact hT.out.below (below_drew _ _); rintro e w2 ⟨⟨ra,rc,rfl,hrow,hrw⟩,b2⟩; have b12:=hid (Below.tr (below_drew _ w0) b2); have s2:=(b12.out.cell (p:=⟨w.heap.size,0,none⟩) k0.out.lt).trans s0; have hN2:=hid (row_nums hrow hrw); clear b2 hrow hrw) | (go_at_call 53; refine Calls.mono (storeReach_any a n c B ra _ rc (rootsT t) _ ?_ ?_ ?_) ?_; exact h.out.below b12.out; exact hN2.out.weaken (fun _ _ _=>trivial); (have:=h72.out; omega); rintro e w3 ⟨hRR,b3⟩; have b13:=hid (Below.tr b12.out b3); rcases hRR with⟨e', rfl,he,hno⟩ | ⟨_,v,L,rfl,hL,hri,hm⟩; (exact absurd ⟨hR.out,hro.out⟩ hno); obtain⟨la,lc,rfl,_,hNL⟩:=numsAt_own hL.2 hL.1; replace hNL:=hid hNL; replace hri:=hid hri; replace hm:=hid hm; clear hL b3))
 all_goals (clear s0 x0 x1 x2; go_wp2_with fail; go_ret; exact⟨⟨la,_,lc,L,rfl,hNL.out.weaken (fun b _ q=>by have:=b0.size; have:=b12.out.size; omega),hri.out,hm.out⟩,Below.tr b0 b13.out⟩)
structure SetsTo (n:Nat) (B:Nat→Blk) (key:Int) (l:List SetE) (j:Nat):Prop where
 sets:∀ x∈l.take j,SetOk n B key x
 order:(l.take j).Pairwise fun a b=>a.nm<b.nm
theorem SetsTo.next {n:Nat} {B:Nat→Blk} {key:Int} {l:List SetE} {j:Nat} {x:SetE} {s:List UInt8} (h:SetsTo n B key l j) (hx:l[j]? =some x) (ha:Ahead SetE.nm l j s) (hs:SetOk n B key x) (hn:s<x.nm):SetsTo n B key l (j+1):=by
 refine⟨fun y hy=>?_,order_next hx h.order ha hn⟩
 rw[take_next hx] at hy
 rcases List.mem_append.1 hy with hy | hy
 ·exact h.sets y hy
 ·rw[List.mem_singleton.1 hy]; exact hs
set_option maxHeartbeats 4000000 in
set_option maxRecDepth 100000 in
theorem checkTenant_any (Q:Nat→Prop) (a:Option Addr) (n c:Nat) (B:Nat→Blk) (t:TenE) (sa:Option Addr) (sn sc:Nat) (w:World) (h:StoreAt w a n B) (hT:TenAt Q w t sa sn sc):
 Calls Tryz.prog 25 #[.agg #[.slice a n c],t.val sa sn sc] w fun e w'=>RetE e (TenOk n B t)∧Below w.heap.size w w':=by
 unfold TenE.val
 have b0:=below_two w (.cells #[.slice a n c] 24) (.cells #[.int .i64 t.key,.int .i64 t.quota,.slice sa sn sc] 64)
 have k0:CellsAt _ w.heap.size #[.slice a n c] 24:=(cellsAt_alloc w _ _).below (below_alloc _ (.cells #[.int .i64 t.key,.int .i64 t.quota,.slice sa sn sc] 64))
 have k1:=cellsAt_alloc2 w (.cells #[.slice a n c] 24) #[.int .i64 t.key,.int .i64 t.quota,.slice sa sn sc] 64
 have hsl:=hid hT.sets.1
 replace h:=hid (h.below b0)
 have hqb:=hT.qb
 have hS:=hid (hT.sets.below b0)
 clear hT
 replace k0:=hid k0
 replace k1:=hid k1
 obtain⟨key,quota,sets⟩:=t
 simp only at *
 go_enter Tryz.func25,Tryz.ntmps25
 go_wp2_with fail
 generalize (w.alloc (.cells #[.slice a n c] 24)).alloc (.cells #[.int .i64 key,.int .i64 quota,.slice sa sn sc] 64)=w0 at *
 have s0:=k0.out.cell 0
 have x0:=k1.out.cell 0
 have x1:=k1.out.cell 1
 have x2:=k1.out.cell 2
 simp at s0 x0 x1 x2
 by_cases hk:keyB key 0=true
 ·have hkb:=keyB_true hk
  refine(check_ok key 0 w0 hk).mono ?_
  rintro e w1 ⟨rfl,rfl⟩
  clear hk
  by_cases hq1:quota<0
  ·go_wp2_with fail
   go_ret
   exact⟨retE_no 3 (by omega) (fun f=>by have:=f.qb.1; simp only at this; omega),b0⟩
  ·by_cases hq2:400<quota
   ·go_wp2_with fail
    go_ret
    exact⟨retE_no 3 (by omega) (fun f=>by have:=f.qb.2; simp only at this; omega),b0⟩
   ·by_cases h3:(3:Int)<(sn:Int)
    ·go_wp2_with fail
     go_ret
     exact⟨retE_no 2 (by omega) (fun f=>by have:=f.few; simp only at this; rw[hsl.out] at this; omega),b0⟩
    ·go_wp2_with fail
     clear x1 x2
     go_loopw [6,31] (fun u v wr=>∃ (j:Nat) (s:ByteArray),j≤sn∧v=.int .i64 j∧u=.string s∧Below w1.heap.size w1 wr∧Ahead SetE.nm sets j s.data.toList∧SetsTo n B key sets j) (fun _ v _=>sn-(Go.RowKit.intOf v).toNat)
     case atStart=>exact⟨0,⟨#[]⟩,Nat.zero_le _,rfl,rfl,Below.refl _ _,.inl ⟨rfl,rfl⟩,by simp,by simp⟩
     case round=>
      obtain⟨j,s,hj,rfl,rfl,hb,ha,hF⟩:=hrel
      replace ha:=hid ha
      replace hF:=hid hF
      by_cases hlt:j<sn
      ·have hjl:j<sets.length:=by rw[hsl.out]; exact hlt
       have hE':=hS.out.below hb
       obtain⟨eb,off,rfl⟩:∃ b off,sa=some ⟨b,off,none⟩:=by
            obtain⟨b,off,e,_⟩:=hE'.2 (by omega)
            exact⟨b,off,e⟩
       have hx:sets[j]? =some (sets.getD j SetE.zero):=by rw[List.getElem?_eq_getElem hjl]; simp[List.getD,hjl]
       obtain⟨v,hA⟩:=hE'.set hlt
       have c0:=hA.c0
       have c1:=hA.c1
       have c2:=hA.c2
       have hXa:=hid hA.ok
       replace hx:=hid hx
       clear hA hE' hjl
       generalize sets.getD j SetE.zero=y at *
       have x0':=(hb.cell (p:=⟨w.heap.size+1,0,none⟩) k1.out.lt).trans x0
       have s0':=(hb.cell (p:=⟨w.heap.size,0,none⟩) k0.out.lt).trans s0
       have lt1:=Nat.lt_of_lt_of_le k1.out.lt hb.size
       have lt0:=Nat.lt_of_lt_of_le k0.out.lt hb.size
       have b1:=below_alloc wr (.cells #[.string v.name,.slice v.fa v.fn v.fc,.slice v.sa v.sn v.sc] 84)
       have k2:CellsAt _ wr.heap.size #[.string v.name,.slice v.fa v.fn v.fc,.slice v.sa v.sn v.sc] 84:=cellsAt_alloc wr _ _
       have hbA:=Below.tr hb b1
       have x0A:=(b1.cell (p:=⟨w.heap.size+1,0,none⟩) lt1).trans x0'
       have s0A:=(b1.cell (p:=⟨w.heap.size,0,none⟩) lt0).trans s0'
       replace hXa:=hid (hXa.out.below b1)
       replace hb:=hid hb
       replace k2:=hid k2
       replace b1:=hid b1
       go_upto_region 12 with fail
       clear c0 c1 c2 x0' s0'
       generalize wr.alloc (.cells #[.string v.name,.slice v.fa v.fn v.fc,.slice v.sa v.sn v.sc] 84)=w5 at *
       have q0:=k2.out.cell 0
       have q1:=k2.out.cell 1
       have q2:=k2.out.cell 2
       simp at q0 q1 q2
       go_wp2_with fail
       refine(setCheck_any Q a n c B key v y w5 (h.out.below hbA) hXa.out).mono ?_
       rintro e w6 ⟨⟨e3,rfl,he3⟩,b6⟩
       have q3:=(b6.cell (p:=⟨wr.heap.size,0,none⟩) k2.out.lt).trans q0
       replace he3:=hid he3
       have hb6:=hid (Below.tr hbA b6)
       have hnm:=hid hXa.out.name
       clear q0 q1 q2 x0A s0A b6 hbA
       by_cases h5:e3=0
       ·have h5':(e3 == 0)=true:=by simp[h5]
        have hOk:=hid (he3.out.1 h5)
        have hle:=fun w=>str_leq (P:=Tryz.prog) 9 v.name s w
        by_cases hls:s.data.toList<v.name.data.toList
        ·have hd:decide (s.data.toList<v.name.data.toList)=true:=by simp[hls]
         rw[hd] at hle
         have hls':Hid (s.data.toList<y.nm):=hid (by unfold SetE.nm; rw[←hnm.out]; exact hls)
         clear hd hls
         go_wp2_with fail
         go_roundw
         case rel=>exact⟨j+1,v.name,by omega,by go_num,rfl,hb6.out,(by rw[hnm.out]; exact ahead_next (f:=SetE.nm) hx.out),hF.out.next hx.out ha.out hOk.out hls'.out⟩
         case measure=>simp[Go.RowKit.intOf]; omega
        ·have hd:decide (s.data.toList<v.name.data.toList)=false:=by simp[hls]
         rw[hd] at hle
         have hls':Hid (¬s.data.toList<y.nm):=hid (by unfold SetE.nm; rw[←hnm.out]; exact hls)
         clear hd hls
         go_wp2_with fail
         go_ret
         exact⟨retE_no 6 (by omega) (fun f=>hls'.out (order_ahead (f:=SetE.nm) hx.out f.order ha.out hOk.out.name.1)),Below.tr b0 hb6.out⟩
       ·have h5':(e3 == 0)=false:=by simp[h5]
        go_wp2_with fail
        go_ret
        exact⟨retE_no e3 h5 (fun f=>h5 (he3.out.2 (f.sets y (List.mem_of_getElem? hx.out)))),Below.tr b0 hb6.out⟩
      ·obtain rfl:j=sn:=by omega
       have e1:sets.take j=sets:=List.take_of_length_le (by rw[hsl.out]; exact Nat.le_refl _)
       have hTo:=hF.out
       go_wp2_with fail
       go_ret
       refine⟨retE_yes ⟨⟨hkb.1,hkb.2.1⟩,⟨by simp only; omega,by simp only; omega⟩,by simp only; rw[hsl.out]; omega,?_,?_⟩,Below.tr b0 hb⟩
       ·have:=hTo.sets; rwa [e1] at this
       ·have:=hTo.order; rwa [e1] at this
 ·have hk':keyB key 0=false:=by simpa using hk
  have hno:=keyB_false hk'
  refine(check_no key 0 w0 hk').mono ?_
  rintro e w1 ⟨rfl,rfl⟩
  replace hno:=hid hno
  clear hk hk'
  go_wp2_with fail
  go_ret
  exact⟨retE_no 3 (by omega) (fun f=>hno.out ⟨f.kb.1,f.kb.2,by omega,by omega⟩),b0⟩
end Go.Proofs.YtjafgnohlkkopaaGreatDoor
