/-
  PoolZB, PoolDA, PoolDB in one text. Nothing here is trusted.
-/
import Derived.Test.YtjafgnohlkkopaaGreatDoorPart33
import Derived.Test.YtjafgnohlkkopaaGreatDoorPart31
import Derived.Test.YtjafgnohlkkopaaGreatDoorPart28
import Derived.Test.YtjafgnohlkkopaaGreatDoorPart13
import Derived.Test.YtjafgnohlkkopaaGreatDoorPart16
set_option linter.unusedVariables false
namespace Go.Proofs.YtjafgnohlkkopaaGreatDoor
open Go.RowKit
set_option maxHeartbeats 8000000 in
set_option maxRecDepth 100000 in
theorem doFind_any (H:Nat) (X:Nat→Prop) (ob g n:Nat) (B:Nat→Blk) (tb tn tc:Nat) (L:List TenM) (i:Nat) (m:TenM) (a:AskE) (ba:Option Addr) (bn bc:Nat) (w:World) (h:PSt H X w ob g n B (some ⟨tb,0,none⟩) tn tc L) (hm:L[i]? =some m) (hok:PoolOk n B (L.map TenM.e)) (hao:a.ok) (hB:NumsAt (fun _=>True) .u8 w ba bn a.bytes) (hk1:a.kind≠1) (hk13:a.kind≠13):
 Calls Tryz.prog 20 #[.pointer (some ⟨ob,0,none⟩),.pointer (some ⟨tb,i*3,none⟩),.agg #[.int .i64 a.kind,.string a.set,.string a.file,.string a.to,.int .i64 a.pos,.int .i64 a.num,.slice ba bn bc]] w fun e w'=>RetPDo H X w ob n B tb tn tc L i m a e w':=by
 have hob:=ob_enter w a ba bn bc
 have hmT:m.e∈L.map TenM.e:=List.mem_map.2 ⟨m,List.mem_of_getElem? hm,rfl⟩
 have hmI:(L.map TenM.e)[i]? =some m.e:=by rw[List.getElem?_map,hm]; rfl
 have hT:=hok.tens _ hmT
 have hml:(m.ms.map (·.x)).length=m.sn:=(h.sets hm).1
 have h3:m.sn≤3:=by have:=hT.few; rw[←hml]; exact this
 have ho:(m.ms.map (·.x)).Pairwise fun a b=>a.nm<b.nm:=hT.order
 have hH:=h.mine.sz
 have hby:Hid (Bytes a.bytes):=hid hB.bytes
 have h0:=hid (h.boxed hob)
 obtain⟨hi,hmi⟩:=List.getElem?_eq_some_iff.1 hm
 have hl:=h.mine.len
 have hcaps:=row_caps (h.mine.own i m hm (by omega))
 have hnm:=h.mine.nums m (List.mem_of_getElem? hm)
 unfold objA objW at hob
 replace hob:=hid hob
 replace h:=hid h
 replace ho:=hid ho
 replace hml:=hid hml
 replace hm:=hid hm
 replace hT:=hid hT
 replace hok:=hid hok
 replace hmI:=hid hmI
 replace hB:=hid hB
 replace hmi:=hid hmi
 replace hl:=hid hl
 replace hi:=hid hi
 replace hcaps:=hid hcaps
 replace hnm:=hid hnm
 clear hmT
 have hka:(a.kind == 1)=false:=by simp[hk1]
 have hkb:(a.kind == 13)=false:=by simp[hk13]
 replace hk1:=hid hk1
 replace hk13:=hid hk13
 go_enter Tryz.func20,Tryz.ntmps20
 go_upto_region 1 with fail
 generalize (w.alloc (.cells #[.int .i64 a.kind,.string a.set,.string a.file,.string a.to,.int .i64 a.pos,.int .i64 a.num,.slice ba bn bc] 30)).alloc (.cells #[.int .i64 0,.int .i64 0,.slice none 0 0,.slice none 0 0] 41)=w0 at *
 have a0:=hob.out.bA.cell 0
 have a1:=hob.out.bA.cell 1
 simp only[List.getElem?_toArray,List.getElem?_cons_zero,List.getElem?_cons_succ] at a0 a1
 have o0:=h0.out.box.cell 0
 simp at o0
 have lo:=h0.out.box.lt
 obtain⟨t0,t1,t2,tf,lt⟩:=h0.out.ten hm.out
 have la:=hob.out.bA.lt
 have hss:Hid (SetsAt (fun _=>True) w0.drew m.sa m.sn (m.ms.map (·.x))):=hid ((h0.out.sets hm.out).below (below_drew _ _))
 go_upto_region 6 with fail
 go_region_held3 (fun w'=>w'.cell? ⟨tb,i*3+2,none⟩=some (.slice m.sa m.sn m.sc)∧w'.cell? ⟨w.heap.size,1,none⟩=some (.string a.set)) (first | go_keep | assumption) (first | (go_at_call 36; refine Calls.mono (findT_any (fun _=>True) m.sa m.sn m.sc (m.ms.map (·.x)) a.set _ (by omega) hss.out ho.out) ?_; rintro e w2 ⟨⟨p,b,rfl,hF⟩,b2⟩; replace b2:Below w0.heap.size w0 w2:=(below_drew _ _).trans b2; have y2:=(b2.cell (p:=⟨tb,i*3+2,none⟩) lt).trans t2; have a3:=(b2.cell (p:=⟨w.heap.size,1,none⟩) la).trans a1; replace hF:=hid hF))
 clear a0 a1 o0 t0 t1 t2 tf lt la lo y2 a3 hss
 have b02:=hid b2
 have hob2:=hid (hob.out.below b2)
 have h2:=hid (h0.out.below b2)
 have hB2:=hid ((hB.out.below hob.out.bel).below b2)
 clear b2 h0
 have hon:Hid (Only (PM ob tb tn tc L) w w2):=hid (Only.of_below hob2.out.bel)
 have hbH:Hid (Below H w w2):=hid (hob2.out.bel.mono hH)
 cases b
 ·have hno:Hid (¬∃ x∈m.ms.map (·.x),x.nm=a.set.data.toList):=hid (fun f=>by have:=(found_some ho.out hF.out).2 f; cases this)
  have q0:=hob2.out.bR.cell 0
  have q1:=hob2.out.bR.cell 1
  have q2:=hob2.out.bR.cell 2
  have q3:=hob2.out.bR.cell 3
  have z0:=hob2.out.bR.frozen 0
  have z1:=hob2.out.bR.frozen 1
  have z2:=hob2.out.bR.frozen 2
  have z3:=hob2.out.bR.frozen 3
  simp only[List.getElem?_toArray,List.getElem?_cons_zero,List.getElem?_cons_succ] at q0 q1 q2 q3
  go_wp2_with fail
  refine bodyPost_ret (v:=.agg #[.int .i64 5,.int .i64 0,.slice none 0 0,.slice none 0 0]) (results_cell_row rfl _ _ (w.heap.size+1) _ _ _ _ rfl (cells_putQ hob2.out.bR 5 0 none 0 0 none 0 0) Tryz.underlying41 rfl (by kernel_rfl)) rfl ?_
  exact do_fin h.out h2.out hbH.out hon.out hob2.out.bR (.missing hk1.out hk13.out hno.out) (ansIn_missing hno.out) (.inl ⟨rfl,rfl⟩)
 obtain⟨hpl,hpn⟩:=found_at hF.out
 have hpm:p<m.ms.length:=by simpa using hpl
 obtain⟨s,hs⟩:∃ s,m.ms[p]? =some s:=⟨_,List.getElem?_eq_getElem hpm⟩
 have hsx:m.e.sets[p]? =some s.x:=by show (m.ms.map (·.x))[p]? =_; rw[List.getElem?_map,hs]; rfl
 have hsn:s.x.nm=a.set.data.toList:=by
  rw[←hpn]
  congr 1
  have:=List.getElem?_eq_getElem hpl
  rw[List.getElem?_map,hs] at this
  simpa using this
 obtain⟨hxok,hxh,_⟩:=hok.out.heldX hmI.out (List.mem_of_getElem? hsx)
 replace hs:=hid hs
 replace hsx:=hid hsx
 replace hsn:=hid hsn
 replace hxok:=hid hxok
 replace hxh:=hid hxh
 clear hpn hpl hpm
 have a0:=hob2.out.bA.cell 0
 have a1:=hob2.out.bA.cell 1
 have a2:=hob2.out.bA.cell 2
 have a3:=hob2.out.bA.cell 3
 have a4:=hob2.out.bA.cell 4
 have a5:=hob2.out.bA.cell 5
 have a6:=hob2.out.bA.cell 6
 simp only[List.getElem?_toArray,List.getElem?_cons_zero,List.getElem?_cons_succ] at a0 a1 a2 a3 a4 a5 a6
 have la:=hob2.out.bA.lt
 have n0:ob≠w.heap.size+1:=by have:=h.out.box.lt; omega
 have n0':=n0.symm
 have n1:tb≠w.heap.size+1:=by have:=(h.out.mine.row.lt tb rfl).2; omega
 have n1':=n1.symm
 have n2:w.heap.size≠w.heap.size+1:=by omega
 have n2':=n2.symm
 by_cases hlk:a.kind=11∨a.kind=12
 ·have hlook:((a.kind == 11)=true)∨((a.kind == 11)=false∧(a.kind == 12)=true):=by
   rcases hlk with f | f
   ·exact .inl (by simp[f])
   ·exact .inr ⟨by simp[f],by simp[f]⟩
  have o0:=h2.out.box.cell 0
  simp at o0
  have lo:=h2.out.box.lt
  obtain⟨t0,t1,t2,tf,lt⟩:=h2.out.ten hm.out
  have hst:Hid (StoreAt w2.drew (some ⟨g,0,none⟩) n B):=hid (h2.out.own.store.below (below_drew _ _))
  obtain⟨SL,hSL⟩:∃ SL,SL=m.ms.map (·.x):=⟨_,rfl⟩
  have hss:Hid (SetsAt (fun _=>True) w2.drew m.sa m.sn SL):=hid (by rw[hSL]; exact(h2.out.sets hm.out).below (below_drew _ _))
  have hsxL:Hid (SL[p]? =some s.x):=hid (by rw[hSL]; exact hsx.out)
  have hxokL:Hid (SetOk n B (TenE.mk m.key m.quota SL).key s.x):=hid hxok.out
  replace hSL:=hid hSL
  have hbel:Hid (∀ w', Below w2.heap.size w2 w'→OB w w' a ba bn bc):=hid (fun w' b=>hob2.out.below b)
  have hsz2:Hid (w.heap.size+2≤w2.heap.size):=hid (by have:=hob2.out.bR.lt; omega)
  replace hlk:=hid hlk
  rcases hlook with hl1 | ⟨hl1,hl2⟩
  all_goals (
   go_upto_region 12 with fail
   go_region_held3 (fun w'=>w'.cell? ⟨ob,0,none⟩=some (.slice (some ⟨g,0,none⟩) n n)∧w'.cell? ⟨tb,i*3,none⟩=some (.int .i64 m.key)∧w'.cell? ⟨tb,i*3+1,none⟩=some (.int .i64 m.quota)∧w'.cell? ⟨tb,i*3+2,none⟩=some (.slice m.sa m.sn m.sc)∧w'.cell? ⟨w.heap.size,0,none⟩=some (.int .i64 a.kind)∧w'.cell? ⟨w.heap.size,1,none⟩=some (.string a.set)∧w'.cell? ⟨w.heap.size,2,none⟩=some (.string a.file)∧w'.cell? ⟨w.heap.size,3,none⟩=some (.string a.to)∧w'.cell? ⟨w.heap.size,4,none⟩=some (.int .i64 a.pos)∧w'.cell? ⟨w.heap.size,5,none⟩=some (.int .i64 a.num)∧w'.cell? ⟨w.heap.size,6,none⟩=some (.slice ba bn bc)) (first | go_keep | assumption) (first | (go_at_call 37; refine Calls.mono (poolLook_any (some ⟨g,0,none⟩) n n B ⟨m.key,m.quota,SL⟩ m.sa m.sn m.sc p s.x a ba bn bc _ hst.out hss.out hsxL.out hxokL.out) ?_; rintro e w8 ⟨⟨e8,N8,ya8,yn8,yc8,y8,ln8,lc8,rfl,hrd⟩,b8⟩; replace b8:Below w2.heap.size w2 w8:=(below_drew _ _).trans b8; have s0:=(b8.cell (p:=⟨ob,0,none⟩) lo).trans o0; have s1:=(b8.cell (p:=⟨tb,i*3,none⟩) lt).trans t0; have s2:=(b8.cell (p:=⟨tb,i*3+1,none⟩) lt).trans t1; have s3:=(b8.cell (p:=⟨tb,i*3+2,none⟩) lt).trans t2; have v0:=(b8.cell (p:=⟨w.heap.size,0,none⟩) la).trans a0; have v1:=(b8.cell (p:=⟨w.heap.size,1,none⟩) la).trans a1; have v2:=(b8.cell (p:=⟨w.heap.size,2,none⟩) la).trans a2; have v3:=(b8.cell (p:=⟨w.heap.size,3,none⟩) la).trans a3; have v4:=(b8.cell (p:=⟨w.heap.size,4,none⟩) la).trans a4; have v5:=(b8.cell (p:=⟨w.heap.size,5,none⟩) la).trans a5; have v6:=(b8.cell (p:=⟨w.heap.size,6,none⟩) la).trans a6; have hob8:=hbel.out w8 b8; have q0:=hob8.bR.cell 0; have q1:=hob8.bR.cell 1; have q2:=hob8.bR.cell 2; have q3:=hob8.bR.cell 3; have z0:=hob8.bR.frozen 0; have z1:=hob8.bR.frozen 1; have z2:=hob8.bR.frozen 2; have z3:=hob8.bR.frozen 3; simp only[List.getElem?_toArray,List.getElem?_cons_zero,List.getElem?_cons_succ] at q0 q1 q2 q3; replace hob8:=hid hob8; replace b8:=hid b8; replace hrd:=hid hrd))
   all_goals (
    go_wp2_with fail
    refine bodyPost_ret (v:=.agg #[.int .i64 e8,.int .i64 N8,.slice ya8 yn8 yc8,.slice y8 ln8 lc8]) (results_cell_row rfl _ _ (w.heap.size+1) _ _ _ _ rfl (cells_putQ hob8.out.bR e8 N8 ya8 yn8 yc8 y8 ln8 lc8) Tryz.underlying41 rfl (by kernel_rfl)) rfl ?_
    have hLk:=hrd.out hlk.out
    exact do_fin h.out (h2.out.below b8.out) (hob8.out.bel.mono hH) (Only.of_below hob8.out.bel) hob8.out.bR (.look p s.x e8 N8 hsx.out hsn.out hlk.out hLk.e hLk.n) ((ansIn_look (t:=m.e) hlk.out (setOf_some ho.out (List.mem_of_getElem? hsx.out) hsn.out) hLk).weaken (fun b _ q=>by have:=hsz2.out; have:w2.drew.heap.size≤b:=q; have:w2.heap.size≤b:=this; omega)) (.inr (h.out.clear hob8.out.bel (fun b y=>y) (.inl h.out.hx)))))
 by_cases hk2:a.kind=2
 ·have hl1:(a.kind == 11)=false:=by simp[hk2]
  have hl2:(a.kind == 12)=false:=by simp[hk2]
  have hl3:(a.kind == 2)=true:=by simp[hk2]
  replace hk2:=hid hk2
  go_wp2_with fail
  refine(poolDestroy_any H (YB X (w.heap.size+1)) ob g n B tb tn tc L i p m s w2 h2.out hm.out hs.out h3 hxok.out hxh.out).mono ?_
  rintro e w3 ⟨rfl,bH3,on3,g', D,hRD,hFD,hPS⟩
  have hnr:¬PM ob tb tn tc L (w.heap.size+1):=fun f=>by
   rcases f with f | f
   ·have:=h.out.box.lt; omega
   ·have:=(h.out.mine.ge f).2; omega
  have kR:=on3.cells hob2.out.bR hnr
  have q0:=kR.cell 0
  have q1:=kR.cell 1
  have q2:=kR.cell 2
  have q3:=kR.cell 3
  have z0:=kR.frozen 0
  have z1:=kR.frozen 1
  have z2:=kR.frozen 2
  have z3:=kR.frozen 3
  simp only[List.getElem?_toArray,List.getElem?_cons_zero,List.getElem?_cons_succ] at q0 q1 q2 q3
  replace hPS:=hid hPS
  replace hRD:=hid hRD
  replace hFD:=hid hFD
  replace kR:=hid kR
  replace on3:=hid on3
  replace bH3:=hid bH3
  clear hnr a0 a1 a2 a3 a4 a5 a6
  go_wp2_with fail
  refine bodyPost_ret (v:=.agg #[.int .i64 0,.int .i64 0,.slice none 0 0,.slice none 0 0]) (results_cell_row rfl _ _ (w.heap.size+1) _ _ _ _ rfl (cells_putQ kR.out 0 0 none 0 0 none 0 0) Tryz.underlying41 rfl (by kernel_rfl)) rfl ?_
  refine do_fin h.out hPS.out (hbH.out.trans bH3.out) (hon.out.trans on3.out) kR.out ?_ (ansIn_no hlk) (.inl ⟨rfl,rfl⟩)
  rw[map_set_e]
  have e:TenM.e { m with sn:=m.sn-1,ms:=m.ms.eraseIdx p }=⟨m.e.key,m.e.quota,m.e.sets.eraseIdx p⟩:=by simp[TenM.e,List.eraseIdx_eq_take_drop_succ,List.map_take,List.map_drop]
  rw[e]
  exact .destroy p s.x D hsx.out hsn.out hk2.out hRD.out hFD.out
 by_cases hk10:a.kind=10
 ·have hl1:(a.kind == 11)=false:=by simp[hk10]
  have hl2:(a.kind == 12)=false:=by simp[hk10]
  have hl3:(a.kind == 2)=false:=by simp[hk10]
  have hl4:(a.kind == 10)=true:=by simp[hk10]
  replace hk10:=hid hk10
  replace hk2:=hid hk2
  go_wp2_with fail
  refine(poolClone_any H (YB X (w.heap.size+1)) ob g n B tb tn tc L i p m s a ba bn bc 2000 w2 h2.out hm.out hs.out h3 hao hok.out.refs (by decide) ho.out).mono ?_
  rintro e w3 (⟨e', rfl,he,b3,hcn⟩ | ⟨rfl,bH3,on3,g', C,y,u,a', c', q,⟨_,_,K,_,_,hyok,_,hcf⟩,hNm,hlt3,hFq,hPS⟩)
  ·have hob3:=hob2.out.below b3
   replace hcn:=hid (hcn hxok.out hxh.out)
   have q0:=hob3.bR.cell 0
   have q1:=hob3.bR.cell 1
   have q2:=hob3.bR.cell 2
   have q3:=hob3.bR.cell 3
   have z0:=hob3.bR.frozen 0
   have z1:=hob3.bR.frozen 1
   have z2:=hob3.bR.frozen 2
   have z3:=hob3.bR.frozen 3
   simp only[List.getElem?_toArray,List.getElem?_cons_zero,List.getElem?_cons_succ] at q0 q1 q2 q3
   replace hob3:=hid hob3
   replace b3:=hid b3
   clear a0 a1 a2 a3 a4 a5 a6
   go_wp2_with fail
   refine bodyPost_ret (v:=.agg #[.int .i64 e', .int .i64 0,.slice none 0 0,.slice none 0 0]) (results_cell_row rfl _ _ (w.heap.size+1) _ _ _ _ rfl (cells_putQ hob3.out.bR e' 0 none 0 0 none 0 0) Tryz.underlying41 rfl (by kernel_rfl)) rfl ?_
   exact do_fin h.out (h2.out.below b3.out) (hob3.out.bel.mono hH) (Only.of_below hob3.out.bel) hob3.out.bR (.noclone p s.x e' hsx.out hsn.out hk10.out he hcn.out) (ansIn_no hlk) (.inl ⟨rfl,rfl⟩)
  ·have hnr:¬PM ob tb tn tc L (w.heap.size+1):=fun f=>by
    rcases f with f | f
    ·have:=h.out.box.lt; omega
    ·have:=(h.out.mine.ge f).2; omega
   have kR:=on3.cells hob2.out.bR hnr
   have q0:=kR.cell 0
   have q1:=kR.cell 1
   have q2:=kR.cell 2
   have q3:=kR.cell 3
   have z0:=kR.frozen 0
   have z1:=kR.frozen 1
   have z2:=kR.frozen 2
   have z3:=kR.frozen 3
   simp only[List.getElem?_toArray,List.getElem?_cons_zero,List.getElem?_cons_succ] at q0 q1 q2 q3
   replace hPS:=hid hPS
   replace hyok:=hid hyok
   replace hcf:=hid hcf
   replace hFq:=hid hFq
   replace kR:=hid kR
   replace on3:=hid on3
   replace bH3:=hid bH3
   clear hnr a0 a1 a2 a3 a4 a5 a6
   go_wp2_with fail
   refine bodyPost_ret (v:=.agg #[.int .i64 0,.int .i64 0,.slice none 0 0,.slice none 0 0]) (results_cell_row rfl _ _ (w.heap.size+1) _ _ _ _ rfl (cells_putQ kR.out 0 0 none 0 0 none 0 0) Tryz.underlying41 rfl (by kernel_rfl)) rfl ?_
   refine do_fin h.out hPS.out (hbH.out.trans bH3.out) (hon.out.trans on3.out) kR.out ?_ (ansIn_no hlk) (.inl ⟨rfl,rfl⟩)
   rw[map_set_e]
   have e:TenM.e { m with sa:=a', sn:=m.sn+1,sc:=c', ms:=m.ms.take q++⟨u,y⟩::m.ms.drop q }=⟨m.e.key,m.e.quota,m.e.sets.take q++y::m.e.sets.drop q⟩:=by
    simp[TenM.e,List.map_take,List.map_drop]
   rw[e]
   exact .clone p s.x C y q hsx.out hsn.out hk10.out hyok.out hcf.out (by show (m.ms.map (·.x)).length<3; rw[hml.out]; exact hlt3) hFq.out
 have hl1:(a.kind == 11)=false:=by simp; exact fun f=>hlk (.inl f)
 have hl2:(a.kind == 12)=false:=by simp; exact fun f=>hlk (.inr f)
 have hl3:(a.kind == 2)=false:=by simp[hk2]
 have hl4:(a.kind == 10)=false:=by simp[hk10]
 have hoth:Hid (Other a):=hid ⟨hk1.out,hk13.out,fun f=>hlk (.inl f),fun f=>hlk (.inr f),hk2,hk10⟩
 have hpure:Hid (∀ D y,SetOk n B m.key s.x∧HeldR n B (rootsX s.x)∧Did n B m.key s.x a 2000 D y→Right n D∧TenOk n D ⟨m.key,m.quota,(m.ms.map (·.x)).set p y⟩):=hid (fun D y f=>by
  have:=hok.out.changed hmI.out hsx.out hby.out hok.out.refs (more_le a) f.2.2
  exact⟨this.1,this.2.1⟩)
 have hq400:m.quota≤400:=hT.out.qb.2
 replace hk2:=hid hk2
 replace hk10:=hid hk10
 go_wp2_with fail
 refine(poolChange_any H (YB X (w.heap.size+1)) ob g n B tb tn tc L i p m s a ba bn bc 2000 w2 h2.out hm.out hs.out h3 hao hok.out.refs hB2.out (by decide) (more_le a) hq400 hpure.out).mono ?_
 have hnr:Hid (¬PM ob tb tn tc L (w.heap.size+1)):=hid (fun f=>by
  rcases f with f | f
  ·have:=h.out.box.lt; omega
  ·have:=(h.out.mine.ge f).2; omega)
 rintro e w3 (⟨e', L', rfl,he,bH3,on3,hPS,hLe,hwhy⟩ | ⟨rfl,bH3,on3,g', D,y,u,⟨_,_,hDid⟩,⟨q,hU,hq⟩,hPS⟩)
 ·have kR:=on3.cells hob2.out.bR hnr.out
  have q0:=kR.cell 0
  have q1:=kR.cell 1
  have q2:=kR.cell 2
  have q3:=kR.cell 3
  have z0:=kR.frozen 0
  have z1:=kR.frozen 1
  have z2:=kR.frozen 2
  have z3:=kR.frozen 3
  simp only[List.getElem?_toArray,List.getElem?_cons_zero,List.getElem?_cons_succ] at q0 q1 q2 q3
  replace hPS:=hid hPS
  replace hLe:=hid hLe
  replace hwhy:=hid hwhy
  replace kR:=hid kR
  replace on3:=hid on3
  replace bH3:=hid bH3
  clear a0 a1 a2 a3 a4 a5 a6
  go_wp2_with fail
  refine bodyPost_ret (v:=.agg #[.int .i64 e', .int .i64 0,.slice none 0 0,.slice none 0 0]) (results_cell_row rfl _ _ (w.heap.size+1) _ _ _ _ rfl (cells_putQ kR.out e' 0 none 0 0 none 0 0) Tryz.underlying41 rfl (by kernel_rfl)) rfl ?_
  refine do_fin h.out hPS.out (hbH.out.trans bH3.out) (hon.out.trans on3.out) kR.out ?_ (ansIn_no hlk) (.inl ⟨rfl,rfl⟩)
  rw[hLe.out]
  refine .nochange p s.x e' hsx.out hsn.out hoth.out he ?_
  rcases hwhy.out with f | ⟨f,D,y,q,⟨_,_,f1⟩,f2,f3⟩
  ·exact .inl (f hxok.out hxh.out)
  ·exact .inr ⟨f,D,y,q,f1,f2,f3⟩
 ·have kR:=on3.cells hob2.out.bR hnr.out
  have q0:=kR.cell 0
  have q1:=kR.cell 1
  have q2:=kR.cell 2
  have q3:=kR.cell 3
  have z0:=kR.frozen 0
  have z1:=kR.frozen 1
  have z2:=kR.frozen 2
  have z3:=kR.frozen 3
  simp only[List.getElem?_toArray,List.getElem?_cons_zero,List.getElem?_cons_succ] at q0 q1 q2 q3
  replace hPS:=hid hPS
  replace hDid:=hid hDid
  replace hU:=hid hU
  replace kR:=hid kR
  replace on3:=hid on3
  replace bH3:=hid bH3
  clear a0 a1 a2 a3 a4 a5 a6
  go_wp2_with fail
  refine bodyPost_ret (v:=.agg #[.int .i64 0,.int .i64 0,.slice none 0 0,.slice none 0 0]) (results_cell_row rfl _ _ (w.heap.size+1) _ _ _ _ rfl (cells_putQ kR.out 0 0 none 0 0 none 0 0) Tryz.underlying41 rfl (by kernel_rfl)) rfl ?_
  refine do_fin h.out hPS.out (hbH.out.trans bH3.out) (hon.out.trans on3.out) kR.out ?_ (ansIn_no hlk) (.inl ⟨rfl,rfl⟩)
  rw[map_set_e]
  have e:TenM.e { m with ms:=m.ms.set p ⟨u,y⟩ }=⟨m.e.key,m.e.quota,m.e.sets.set p y⟩:=by simp[TenM.e,List.map_set]
  rw[e]
  exact .change p s.x D y q hsx.out hsn.out hoth.out hDid.out hU.out hq
theorem poolDo_any (H:Nat) (X:Nat→Prop) (ob g n:Nat) (B:Nat→Blk) (tb tn tc:Nat) (L:List TenM) (i:Nat) (m:TenM) (a:AskE) (ba:Option Addr) (bn bc:Nat) (w:World) (h:PSt H X w ob g n B (some ⟨tb,0,none⟩) tn tc L) (hm:L[i]? =some m) (hok:PoolOk n B (L.map TenM.e)) (hao:a.ok) (hB:NumsAt (fun _=>True) .u8 w ba bn a.bytes):
 Calls Tryz.prog 20 #[.pointer (some ⟨ob,0,none⟩),.pointer (some ⟨tb,i*3,none⟩),.agg #[.int .i64 a.kind,.string a.set,.string a.file,.string a.to,.int .i64 a.pos,.int .i64 a.num,.slice ba bn bc]] w fun e w'=>RetPDo H X w ob n B tb tn tc L i m a e w':=by
 by_cases h1:a.kind=1
 ·exact poolMk_any H X ob g n B tb tn tc L i m a ba bn bc w h hm hok hao h1
 ·by_cases h13:a.kind=13
  ·exact doUses_any H X ob g n B tb tn tc L i m a ba bn bc w h hm hok hao hB h13
  ·exact doFind_any H X ob g n B tb tn tc L i m a ba bn bc w h hm hok hao hB h1 h13
end Go.Proofs.YtjafgnohlkkopaaGreatDoor

namespace Go.Proofs.YtjafgnohlkkopaaGreatDoor
open Go.RowKit
set_option maxHeartbeats 400000 in
theorem pthere_any (a:Option Addr) (n c:Nat) (ta:Option Addr) (tn tc:Nat) (i:Int) (w:World):
 Calls Tryz.prog 19 #[.agg #[.slice a n c,.slice ta tn tc],.int .i64 i] w fun e w'=>RetB e (0≤i∧i<(tn:Int))∧Below w.heap.size w w':=by
 have b0:=hid (below_alloc w (.cells #[.slice a n c,.slice ta tn tc] 27))
 have k0:CellsAt _ w.heap.size #[.slice a n c,.slice ta tn tc] 27:=cellsAt_alloc w _ _
 go_enter Tryz.func19,Tryz.ntmps19
 go_upto_region 1 with fail
 generalize w.alloc (.cells #[.slice a n c,.slice ta tn tc] 27)=w0 at *
 have p1:=k0.cell 1
 simp at p1
 replace k0:=hid k0
 by_cases h0:0≤i
 ·go_wp2_with fail
  go_ret
  exact⟨⟨_,rfl,by simp[h0]⟩,b0.out⟩
 ·go_wp2_with fail
  go_ret
  exact⟨⟨_,rfl,by simp; omega⟩,b0.out⟩
theorem pst_copy {K:Nat} {W w6:World} {g n:Nat} {B:Nat→Blk} {ta:Option Addr} {tn tc:Nat} {L:List TenM} (hg:W.heap.size≤g) (hO:Own w6 g n B) (hM:MineP W.heap.size (fun b=>K≤b∧b<W.heap.size) w6 ta tn tc L tn) (hr:∀ b,RowsP (.slice ta tn tc) L tn b→b<g):
 PSt W.heap.size (fun b=>(K≤b∧b<W.heap.size)∨b=w6.heap.size) (w6.alloc (.cells #[.slice (some ⟨g,0,none⟩) n n,.slice ta tn tc] 27)) w6.heap.size g n B ta tn tc L:=by
 have bA:=below_alloc w6 (.cells #[.slice (some ⟨g,0,none⟩) n n,.slice ta tn tc] 27)
 have hO7:=hO.below bA
 have hlt:=hO.lt
 have hs7:(w6.alloc (.cells #[.slice (some ⟨g,0,none⟩) n n,.slice ta tn tc] 27)).heap.size=w6.heap.size+1:=by simp
 refine⟨cellsAt_alloc w6 _ _,hO7.lt,?_,hO7.free,⟨fun f=>?_,fun f=>by omega⟩,hM.clear bA (fun b y=>?_),hM.sz,.inr rfl⟩
 ·exact((hO.blocks.weaken (R:=fun b=>g<b∧b<w6.heap.size) (fun b hb q=>⟨q,hb⟩)).below bA).weaken (fun b _ q=>⟨q.1,fun f=>by have:=hr b f; omega,fun f=>by omega⟩)
 ·have:=hr _ f; omega
 ·rcases y with y | y
  ·exact .inl y
  ·exact .inr ⟨by omega,by omega⟩
theorem row_tb {H:Nat} {X:Nat→Prop} {w:World} {ta:Option Addr} {tn tc:Nat} {L:List TenM} (h:MineP H X w ta tn tc L tn) (h0:0<tn):∃ tb,ta=some ⟨tb,0,none⟩:=by
 rcases h.row.2 with⟨h1,h2⟩ | ⟨q,cap,cur,h1,_⟩
 ·omega
 ·simp only[Value.slice.injEq] at h1
  exact⟨q,h1.1⟩
theorem PSt.pool {H:Nat} {X:Nat→Prop} {w:World} {ob g n:Nat} {B:Nat→Blk} {ta:Option Addr} {tn tc:Nat} {L:List TenM} (h:PSt H X w ob g n B ta tn tc L):PoolAt (fun _=>True) w (some ⟨g,0,none⟩) n B ta tn (L.map TenM.e):=⟨h.own.store,h.mine.tens⟩
end Go.Proofs.YtjafgnohlkkopaaGreatDoor

namespace Go.Proofs.YtjafgnohlkkopaaGreatDoor
open Go.RowKit
def RetPD (e:Ending) (w:World) (n:Nat) (B:Nat→Blk) (tn:Nat) (l:List TenE) (i:Int) (a:AskE):Prop:=
 (∃ e':Int,e=.returned (.tuple #[.agg #[.slice none 0 0,.slice none 0 0],.agg #[.int .i64 0,.int .i64 0,.slice none 0 0,.slice none 0 0],.int .i64 e'])∧e'≠0∧¬(PoolOk n B l∧0≤i∧i<(tn:Int)))∨
 (PoolOk n B l∧∃ (k:Nat) (t:TenE),i=(k:Int)∧l[k]? =some t∧∃ (e1 N:Int) (ya:Option Addr) (yn yc:Nat) (y:Option Addr) (ln lc g:Nat) (D:Nat→Blk) (l':List TenE) (ta:Option Addr) (tc:Nat),e=.returned (.tuple #[.agg #[.slice (some ⟨g,0,none⟩) n n,.slice ta tn tc],.agg #[.int .i64 e1,.int .i64 N,.slice ya yn yc,.slice y ln lc],.int .i64 0])∧DoCase n B l k t a D l' e1 N∧PoolAt (fun _=>True) w (some ⟨g,0,none⟩) n D ta tn l')
def GotDo (K H:Nat) (W wc:World) (ob n:Nat) (B:Nat→Blk) (tb tn tc:Nat) (L:List TenM) (i:Nat) (m:TenM) (a:AskE) (v11:Value):Prop:=
 ∃ (q:Nat) (e1 N:Int) (ya:Option Addr) (yn yc:Nat) (y:Option Addr) (ln lc g':Nat) (D:Nat→Blk) (L':List TenM) (X:Nat→Prop),v11=.pointer (some ⟨q,0,none⟩)∧CellsAt wc q #[.int .i64 e1,.int .i64 N,.slice ya yn yc,.slice y ln lc] 41∧W.heap.size≤q∧Below H W wc∧(∀ b,K≤b∧b<H→X b)∧PSt H X wc ob g' n D (some ⟨tb,0,none⟩) tn tc L'∧DoCase n B (L.map TenM.e) i m.e a D (L'.map TenM.e) e1 N
theorem gotDo_ca {K H:Nat} {X:Nat→Prop} {W w8:World} {ob n g':Nat} {B D:Nat→Blk} {tb tn tc:Nat} {L L':List TenM} {i:Nat} {m:TenM} {a:AskE} {e1 N:Int} {ya:Option Addr} {yn yc:Nat} {y:Option Addr} {ln lc:Nat} (hH:H≤W.heap.size) (bH:Below H W w8) (hX:∀ b,K≤b∧b<H→X b) (hP:PSt H X w8 ob g' n D (some ⟨tb,0,none⟩) tn tc L') (hc:DoCase n B (L.map TenM.e) i m.e a D (L'.map TenM.e) e1 N):GotDo K H W (w8.alloc (.cells #[.int .i64 e1,.int .i64 N,.slice ya yn yc,.slice y ln lc] 41)) ob n B tb tn tc L i m a (.pointer (some ⟨w8.heap.size,0,none⟩)):=
 ⟨_,e1,N,ya,yn,yc,y,ln,lc,g', D,L', X,rfl,cellsAt_alloc w8 _ _,bH.size,bH.trans ((below_alloc w8 _).mono (Nat.le_trans hH bH.size)),hX,hP.below (below_alloc _ _),hc⟩
theorem gotDo_ac {K H:Nat} {X:Nat→Prop} {W w8:World} {ob n g' q:Nat} {B D:Nat→Blk} {tb tn tc:Nat} {L L':List TenM} {i:Nat} {m:TenM} {a:AskE} {e1 N:Int} {ya:Option Addr} {yn yc:Nat} {y:Option Addr} {ln lc:Nat} {c0 c1 c2 c3:Value} (ka:CellsAt w8 q #[c0,c1,c2,c3] 41) (hq:X q) (hqo:q≠ob) (hqW:W.heap.size≤q) (hH:H≤W.heap.size) (bH:Below H W w8) (hX:∀ b,K≤b∧b<H→X b) (hP:PSt H X w8 ob g' n D (some ⟨tb,0,none⟩) tn tc L') (hc:DoCase n B (L.map TenM.e) i m.e a D (L'.map TenM.e) e1 N):GotDo K H W (putQ w8 q e1 N ya yn yc y ln lc) ob n B tb tn tc L i m a (.pointer (some ⟨q,0,none⟩)):=
 ⟨q,e1,N,ya,yn,yc,y,ln,lc,g', D,L', X,rfl,cells_putQ ka e1 N ya yn yc y ln lc,hqW,bH.trans ((kept_putQ _ _ _ _ _ _ _ _ _ _).below (by omega)),hX,hP.kept (kept_putQ _ _ _ _ _ _ _ _ _ _) hq hqo,hc⟩
abbrev put2p (w:World) (g:Nat) (v0 v1:Value):World:=(w.setCell ⟨g,0,none⟩ v0).setCell ⟨g,1,none⟩ v1
theorem kept_put2p (w:World) (g:Nat) (v0 v1:Value):Kept g w (put2p w g v0 v1):=
 Kept.setCell (g:=g) (Kept.setCell (g:=g) (Kept.refl _ _) (p:=⟨g,0,none⟩) rfl _) (p:=⟨g,1,none⟩) rfl _
theorem cells_put2p {w:World} {g:Nat} {t:TypeId} {c0 c1:Value} (v0 v1:Value) (h:CellsAt w g #[c0,c1] t):CellsAt (put2p w g v0 v1) g #[v0,v1] t:=by
 have k:=(h.set 0 v0).set 1 v1
 simp only[List.setIfInBounds_toArray,List.set_cons_succ,List.set_cons_zero] at k
 exact k
abbrev objP0:Obj:=.cells #[.slice none 0 0,.slice none 0 0] 27
structure PB (W w:World) (pa:Option Addr) (n c:Nat) (ta:Option Addr) (tn tc:Nat) (a:AskE) (ba:Option Addr) (bn bc:Nat):Prop where
 bel:Below W.heap.size W w
 bP:CellsAt w W.heap.size #[.slice pa n c,.slice ta tn tc] 27
 bA:CellsAt w (W.heap.size+1) #[.int .i64 a.kind,.string a.set,.string a.file,.string a.to,.int .i64 a.pos,.int .i64 a.num,.slice ba bn bc] 30
 r6:CellsAt w (W.heap.size+1+1) #[.slice none 0 0,.slice none 0 0] 27
 r7:CellsAt w (W.heap.size+1+1+1) #[.int .i64 0,.int .i64 0,.slice none 0 0,.slice none 0 0] 41
theorem PB.below {W w w':World} {pa:Option Addr} {n c:Nat} {ta:Option Addr} {tn tc:Nat} {a:AskE} {ba:Option Addr} {bn bc:Nat} (h:PB W w pa n c ta tn tc a ba bn bc) (b:Below w.heap.size w w'):PB W w' pa n c ta tn tc a ba bn bc:=⟨Below.tr h.bel b,h.bP.below b,h.bA.below b,h.r6.below b,h.r7.below b⟩
theorem szB (w:World) (o:Obj):(w.alloc o).heap.size=w.heap.size+1:=by simp
theorem pb_enter (w:World) (pa:Option Addr) (n c:Nat) (ta:Option Addr) (tn tc:Nat) (a:AskE) (ba:Option Addr) (bn bc:Nat):PB w ((((w.alloc (.cells #[.slice pa n c,.slice ta tn tc] 27)).alloc (objA a ba bn bc)).alloc objP0).alloc objW) pa n c ta tn tc a ba bn bc:=by
 have h1:=cellsAt_alloc w #[.slice pa n c,.slice ta tn tc] 27
 have h2:=cellsAt_alloc (w.alloc (.cells #[.slice pa n c,.slice ta tn tc] 27)) #[.int .i64 a.kind,.string a.set,.string a.file,.string a.to,.int .i64 a.pos,.int .i64 a.num,.slice ba bn bc] 30
 have h3:=cellsAt_alloc ((w.alloc (.cells #[.slice pa n c,.slice ta tn tc] 27)).alloc (objA a ba bn bc)) #[.slice none 0 0,.slice none 0 0] 27
 have h4:=cellsAt_alloc (((w.alloc (.cells #[.slice pa n c,.slice ta tn tc] 27)).alloc (objA a ba bn bc)).alloc objP0) #[.int .i64 0,.int .i64 0,.slice none 0 0,.slice none 0 0] 41
 simp only[szB] at h2 h3 h4
 exact⟨Below.tr (Below.tr (Below.tr (below_alloc _ _) (below_alloc _ _)) (below_alloc _ _)) (below_alloc _ _),((h1.below (below_alloc _ _)).below (below_alloc _ _)).below (below_alloc _ _),(h2.below (below_alloc _ _)).below (below_alloc _ _),h3.below (below_alloc _ _),h4⟩
set_option maxHeartbeats 8000000 in
set_option maxRecDepth 100000 in
theorem pdo_any (Q:Nat→Prop) (pa:Option Addr) (n c:Nat) (B:Nat→Blk) (ta:Option Addr) (tn tc:Nat) (l:List TenE) (i:Int) (a:AskE) (ba:Option Addr) (bn bc:Nat) (w:World) (hP:PoolAt Q w pa n B ta tn l) (hao:a.ok) (hB:NumsAt (fun _=>True) .u8 w ba bn a.bytes):
 Calls Tryz.prog 13 #[.agg #[.slice pa n c,.slice ta tn tc],.int .i64 i,.agg #[.int .i64 a.kind,.string a.set,.string a.file,.string a.to,.int .i64 a.pos,.int .i64 a.num,.slice ba bn bc]] w fun e w'=>RetPD e w' n B tn l i a∧Below w.heap.size w w':=by
 have hpb:=pb_enter w pa n c ta tn tc a ba bn bc
 unfold objA objP0 objW at hpb
 have hPK:Hid (PoolAt (fun b=>b<w.heap.size) w pa n B ta tn l):=hid ⟨hP.store,hP.tens.weaken (fun b hb _=>hb)⟩
 replace hpb:=hid hpb
 replace hB:=hid hB
 have hP0:=hid (hP.below hpb.out.bel)
 clear hP
 go_enter Tryz.func13,Tryz.ntmps13
 go_upto_region 1 with fail
 generalize (((w.alloc (.cells #[.slice pa n c,.slice ta tn tc] 27)).alloc (.cells #[.int .i64 a.kind,.string a.set,.string a.file,.string a.to,.int .i64 a.pos,.int .i64 a.num,.slice ba bn bc] 30)).alloc (.cells #[.slice none 0 0,.slice none 0 0] 27)).alloc (.cells #[.int .i64 0,.int .i64 0,.slice none 0 0,.slice none 0 0] 41)=w0 at *
 have p0:=hpb.out.bP.cell 0
 have p1:=hpb.out.bP.cell 1
 simp only[List.getElem?_toArray,List.getElem?_cons_zero,List.getElem?_cons_succ] at p0 p1
 go_wp2_with fail
 refine(poolCheck_any Q pa n c B ta tn tc l w0 hP0.out).mono ?_
 rintro e w1 ⟨⟨e1,rfl,he1⟩,b1⟩
 replace hpb:=hid (hpb.out.below b1)
 replace he1:=hid he1
 clear b1 p0 p1 hP0
 have hbad:Hid (∀ (wx:World) (e':Int),PB w wx pa n c ta tn tc a ba bn bc→e'≠0→¬(PoolOk n B l∧0≤i∧i<(tn:Int))→RetPD (.returned (.tuple #[.agg #[.slice none 0 0,.slice none 0 0],.agg #[.int .i64 0,.int .i64 0,.slice none 0 0,.slice none 0 0],.int .i64 e'])) (putQ (put2p wx (w.heap.size+1+1) (.slice none 0 0) (.slice none 0 0)) (w.heap.size+1+1+1) 0 0 none 0 0 none 0 0) n B tn l i a∧Below w.heap.size w (putQ (put2p wx (w.heap.size+1+1) (.slice none 0 0) (.slice none 0 0)) (w.heap.size+1+1+1) 0 0 none 0 0 none 0 0)):=hid (fun wx e' hx he hno=>⟨.inl ⟨e', rfl,he,hno⟩,(hx.bel.trans ((kept_put2p _ _ _ _).below (by omega))).trans ((kept_putQ _ _ _ _ _ _ _ _ _ _).below (by omega))⟩)
 have hQ:Hid (∀ wx,PB w wx pa n c ta tn tc a ba bn bc→(wx.cell? ⟨w.heap.size+1+1,0,none⟩=some (.slice none 0 0)∧wx.cell? ⟨w.heap.size+1+1,1,none⟩=some (.slice none 0 0)∧wx.frozen? ⟨w.heap.size+1+1,0,none⟩=false∧wx.frozen? ⟨w.heap.size+1+1,1,none⟩=false)∧(wx.cell? ⟨w.heap.size+1+1+1,0,none⟩=some (.int .i64 0)∧wx.cell? ⟨w.heap.size+1+1+1,1,none⟩=some (.int .i64 0)∧wx.cell? ⟨w.heap.size+1+1+1,2,none⟩=some (.slice none 0 0)∧wx.cell? ⟨w.heap.size+1+1+1,3,none⟩=some (.slice none 0 0))∧(wx.frozen? ⟨w.heap.size+1+1+1,0,none⟩=false∧wx.frozen? ⟨w.heap.size+1+1+1,1,none⟩=false∧wx.frozen? ⟨w.heap.size+1+1+1,2,none⟩=false∧wx.frozen? ⟨w.heap.size+1+1+1,3,none⟩=false)):=hid (fun wx hx=>by
  have q0:=hx.r6.cell 0
  have q1:=hx.r6.cell 1
  have y0:=hx.r7.cell 0
  have y1:=hx.r7.cell 1
  have y2:=hx.r7.cell 2
  have y3:=hx.r7.cell 3
  simp only[List.getElem?_toArray,List.getElem?_cons_zero,List.getElem?_cons_succ] at q0 q1 y0 y1 y2 y3
  exact⟨⟨q0,q1,hx.r6.frozen 0,hx.r6.frozen 1⟩,⟨y0,y1,y2,y3⟩,hx.r7.frozen 0,hx.r7.frozen 1,hx.r7.frozen 2,hx.r7.frozen 3⟩)
 have n67:w.heap.size+1+1≠w.heap.size+1+1+1:=by omega
 have n76:=n67.symm
 by_cases hz:e1=0
 case neg=>
  obtain⟨⟨q0,q1,z0,z1⟩,⟨y0,y1,y2,y3⟩,x0,x1,x2,x3⟩:=hQ.out w1 hpb.out
  have hze:(e1 != 0)=true:=by simp[hz]
  go_wp2_with fail
  refine bodyPost_ret (v:=.tuple #[.agg #[.slice none 0 0,.slice none 0 0],.agg #[.int .i64 0,.int .i64 0,.slice none 0 0,.slice none 0 0],.int .i64 e1]) (by rw[results_cells2 rfl]; go_simp) rfl ?_
  exact hbad.out w1 e1 hpb.out hz (fun f=>hz (he1.out.2 f.1))
 subst hz
 have hok:Hid (PoolOk n B l):=hid (he1.out.1 rfl)
 have p0:=hpb.out.bP.cell 0
 have p1:=hpb.out.bP.cell 1
 simp only[List.getElem?_toArray,List.getElem?_cons_zero,List.getElem?_cons_succ] at p0 p1
 go_wp2_with fail
 refine(pthere_any pa n c ta tn tc i w1).mono ?_
 rintro e w2 ⟨⟨bb,rfl,hbb⟩,b2⟩
 replace hpb:=hid (hpb.out.below b2)
 clear b2 p0 p1
 cases bb
 case false=>
  have hno:Hid (¬(0≤i∧i<(tn:Int))):=hid (by simpa using hbb)
  obtain⟨⟨q0,q1,z0,z1⟩,⟨y0,y1,y2,y3⟩,x0,x1,x2,x3⟩:=hQ.out w2 hpb.out
  clear hbb
  go_wp2_with fail
  refine bodyPost_ret (v:=.tuple #[.agg #[.slice none 0 0,.slice none 0 0],.agg #[.int .i64 0,.int .i64 0,.slice none 0 0,.slice none 0 0],.int .i64 5]) (by rw[results_cells2 rfl]; go_simp) rfl ?_
  exact hbad.out w2 5 hpb.out (by omega) (fun f=>hno.out f.2)
 have hyes:0≤i∧i<(tn:Int):=by simpa using hbb
 obtain⟨k,rfl⟩:∃ k:Nat,i=(k:Int):=⟨i.toNat,by omega⟩
 have hkt:Hid (k<tn):=hid (by omega)
 clear hyes hbb hbad
 have p0:=hpb.out.bP.cell 0
 have p1:=hpb.out.bP.cell 1
 simp only[List.getElem?_toArray,List.getElem?_cons_zero,List.getElem?_cons_succ] at p0 p1
 go_wp2_with fail
 refine(copyPool_any w.heap.size pa n c B ta tn tc l w2 hpb.out.bel.size (hPK.out.below hpb.out.bel) hok.out).mono ?_
 rintro e w3 ⟨⟨g,ta', tc', L,rfl,hg,hO,hM,hL,hr⟩,b3⟩
 replace b3:=hid b3
 replace hg:=hid hg
 replace hO:=hid hO
 replace hM:=hid hM
 replace hL:=hid hL
 replace hr:=hid hr
 clear p0 p1
 go_upto_region 7 with fail
 have hz7:(w3.alloc (.cells #[.slice (some ⟨g,0,none⟩) n n,.slice ta' tn tc'] 27)).heap.size=w3.heap.size+1:=by simp
 obtain⟨tb,rfl⟩:=row_tb hM.out (by have:=hkt.out; omega)
 have hPS:=hid (pst_copy hg.out hO.out hM.out hr.out)
 have hB7:=hid (below_alloc w3 (.cells #[.slice (some ⟨g,0,none⟩) n n,.slice (some ⟨tb,0,none⟩) tn tc'] 27))
 generalize w3.alloc (.cells #[.slice (some ⟨g,0,none⟩) n n,.slice (some ⟨tb,0,none⟩) tn tc'] 27)=w7 at *
 have hpb3:=hid (hpb.out.below b3.out)
 have hpb7:=hid (hpb3.out.below hB7.out)
 obtain⟨m,hm⟩:∃ m,L[k]? =some m:=by
  have hlen:=hM.out.len
  exact⟨_,List.getElem?_eq_getElem (by have:=hkt.out; omega)⟩
 replace hm:=hid hm
 have hok':Hid (PoolOk n B (L.map TenM.e)):=hid (by rw[hL.out]; exact hok.out)
 have l23:=hid b3.out.size
 have o1:=hPS.out.box.cell 1
 have lo:=hPS.out.box.lt
 have a0:=hpb7.out.bA.cell 0
 have a1:=hpb7.out.bA.cell 1
 have a2:=hpb7.out.bA.cell 2
 have a3:=hpb7.out.bA.cell 3
 have a4:=hpb7.out.bA.cell 4
 have a5:=hpb7.out.bA.cell 5
 have a6:=hpb7.out.bA.cell 6
 simp only[List.getElem?_toArray,List.getElem?_cons_zero,List.getElem?_cons_succ] at o1 a0 a1 a2 a3 a4 a5 a6
 have la:w.heap.size+1<w2.heap.size:=hpb.out.bA.lt
 have n0:w3.heap.size≠w7.heap.size:=by omega
 have n0':=n0.symm
 have n1:w.heap.size+1≠w7.heap.size:=by have:=l23.out; omega
 have n1':=n1.symm
 have hk0:(0:Int)≤(k:Int):=by omega
 have hkI:(k:Int)<(tn:Int):=by have:=hkt.out; omega
 have bA7:=below_alloc w7 objW
 have Hb7:Hid (∀ wx,Below w7.heap.size w7 wx→Below w2.heap.size w7 wx):=hid (fun wx b=>b.mono (by have:=l23.out; omega))
 have HBa:Hid (Below w7.heap.size w7 w7.drew):=hid (below_drew _ _)
 have HBb:Hid (Below w7.heap.size w7 (w7.alloc (.cells #[.int .i64 0,.int .i64 0,.slice none 0 0,.slice none 0 0] 41)).drew):=hid (Below.tr (below_alloc _ _) (below_drew _ _))
 have HPa:=hid (hPS.out.below HBa.out)
 have HPb:=hid (hPS.out.clear (Y:=fun b=>((w.heap.size≤b∧b<w2.heap.size)∨b=w3.heap.size)∨b=w7.heap.size) HBb.out (fun b y=>y.elim .inl (fun y=>.inr ⟨by omega,by show b<(w7.alloc _).heap.size; rw[szB]; omega⟩)) (.inl (.inr rfl)))
 have hN7:=(hB.out.below hpb7.out.bel)
 have HNa:=hid (hN7.below HBa.out)
 have HNb:=hid (hN7.below HBb.out)
 have Ka:Hid (CellsAt (w7.alloc (.cells #[.int .i64 0,.int .i64 0,.slice none 0 0,.slice none 0 0] 41)).drew w7.heap.size #[.int .i64 0,.int .i64 0,.slice none 0 0,.slice none 0 0] 41):=hid ((cellsAt_alloc w7 _ _).below (below_drew _ _))
 have HnP:Hid (¬PM w3.heap.size tb tn tc' L w7.heap.size):=hid (fun f=>by
  rcases f with f | f
  ·exact n0 f.symm
  ·exact HPb.out.mine.rx _ f (.inr rfl))
 have Lb7:Hid (w.heap.size+1<w7.heap.size):=hid (by have:=l23.out; omega)
 replace hz7:=hid hz7
 have Hs:Hid (w2.heap.size≤w7.heap.size):=hid (by have:=l23.out; have:=hz7.out; omega)
 clear hN7 bA7
 replace la:=hid la
 go_cut [11] from 34 (fun v11 wc=>GotDo w.heap.size w2.heap.size w7 wc w3.heap.size n B tb tn tc' L k m a v11)
 case first=>
  replace la:=la.out
  go_region_held3 (fun w'=>w'.cell? ⟨w3.heap.size,1,none⟩=some (.slice (some ⟨tb,0,none⟩) tn tc')∧w'.cell? ⟨w.heap.size+1,0,none⟩=some (.int .i64 a.kind)∧w'.cell? ⟨w.heap.size+1,1,none⟩=some (.string a.set)∧w'.cell? ⟨w.heap.size+1,2,none⟩=some (.string a.file)∧w'.cell? ⟨w.heap.size+1,3,none⟩=some (.string a.to)∧w'.cell? ⟨w.heap.size+1,4,none⟩=some (.int .i64 a.pos)∧w'.cell? ⟨w.heap.size+1,5,none⟩=some (.int .i64 a.num)∧w'.cell? ⟨w.heap.size+1,6,none⟩=some (.slice ba bn bc)) (first | go_keep | assumption) (first | (go_at_call 20; with_reducible refine Calls.mono (poolDo_any w2.heap.size (fun b=>(w.heap.size≤b∧b<w2.heap.size)∨b=w3.heap.size) w3.heap.size g n B tb tn tc' L k m a ba bn bc (w7.drew) HPa.out hm.out hok'.out hao HNa.out) ?_; rintro e w8 hret; unfold RetPDo at hret; obtain⟨e1,N,ya,yn,yc,y,ln,lc,g', D,L', rfl,bH,on,hP8,hc,_⟩:=hret; replace bH:Below w2.heap.size w7 w8:=(Hb7.out _ HBa.out).trans bH; have o1:=hP8.box.cell 1; simp only[List.getElem?_toArray,List.getElem?_cons_zero,List.getElem?_cons_succ] at o1; have s0:=(bH.cell (p:=⟨w.heap.size+1,0,none⟩) la).trans a0; have s1:=(bH.cell (p:=⟨w.heap.size+1,1,none⟩) la).trans a1; have s2:=(bH.cell (p:=⟨w.heap.size+1,2,none⟩) la).trans a2; have s3:=(bH.cell (p:=⟨w.heap.size+1,3,none⟩) la).trans a3; have s4:=(bH.cell (p:=⟨w.heap.size+1,4,none⟩) la).trans a4; have s5:=(bH.cell (p:=⟨w.heap.size+1,5,none⟩) la).trans a5; have s6:=(bH.cell (p:=⟨w.heap.size+1,6,none⟩) la).trans a6; have m0:w3.heap.size≠w8.heap.size:=Nat.ne_of_lt hP8.box.lt; have m0':=m0.symm; have m1:w.heap.size+1≠w8.heap.size:=Nat.ne_of_lt (Nat.lt_of_lt_of_le Lb7.out bH.size); have m1':=m1.symm; clear on; replace bH:=hid bH; replace hP8:=hid hP8; replace hc:=hid hc) | (go_at_call 20; with_reducible refine Calls.mono (poolDo_any w2.heap.size (fun b=>((w.heap.size≤b∧b<w2.heap.size)∨b=w3.heap.size)∨b=w7.heap.size) w3.heap.size g n B tb tn tc' L k m a ba bn bc ((w7.alloc (.cells #[.int .i64 0,.int .i64 0,.slice none 0 0,.slice none 0 0] 41)).drew) HPb.out hm.out hok'.out hao HNb.out) ?_; rintro e w8 hret; unfold RetPDo at hret; obtain⟨e1,N,ya,yn,yc,y,ln,lc,g', D,L', rfl,bH,on,hP8,hc,_⟩:=hret; replace bH:Below w2.heap.size w7 w8:=(Hb7.out _ HBb.out).trans bH; have o1:=hP8.box.cell 1; simp only[List.getElem?_toArray,List.getElem?_cons_zero,List.getElem?_cons_succ] at o1; have s0:=(bH.cell (p:=⟨w.heap.size+1,0,none⟩) la).trans a0; have s1:=(bH.cell (p:=⟨w.heap.size+1,1,none⟩) la).trans a1; have s2:=(bH.cell (p:=⟨w.heap.size+1,2,none⟩) la).trans a2; have s3:=(bH.cell (p:=⟨w.heap.size+1,3,none⟩) la).trans a3; have s4:=(bH.cell (p:=⟨w.heap.size+1,4,none⟩) la).trans a4; have s5:=(bH.cell (p:=⟨w.heap.size+1,5,none⟩) la).trans a5; have s6:=(bH.cell (p:=⟨w.heap.size+1,6,none⟩) la).trans a6; have ka:=on.cells Ka.out HnP.out; have t0:=ka.cell 0; have t1:=ka.cell 1; have t2:=ka.cell 2; have t3:=ka.cell 3; simp only[List.getElem?_toArray,List.getElem?_cons_zero,List.getElem?_cons_succ] at t0 t1 t2 t3; have f0:=ka.frozen 0; have f1:=ka.frozen 1; have f2:=ka.frozen 2; have f3:=ka.frozen 3; replace ka:=hid ka; have m0:w3.heap.size≠w8.heap.size:=Nat.ne_of_lt hP8.box.lt; have m0':=m0.symm; have m1:w.heap.size+1≠w8.heap.size:=Nat.ne_of_lt (Nat.lt_of_lt_of_le Lb7.out bH.size); have m1':=m1.symm; clear on; replace bH:=hid bH; replace hP8:=hid hP8; replace hc:=hid hc))
  all_goals (go_wp2_with fail; go_meet; first
   | with_reducible exact gotDo_ca Hs.out bH.out (fun b y=>.inl y) hP8.out hc.out
   | with_reducible exact gotDo_ac ka.out (.inr rfl) n0' (Nat.le_refl _) Hs.out bH.out (fun b y=>.inl (.inl y)) hP8.out hc.out)
 case rest=>
  have hcut':=hcut
  clear hcut
  unfold GotDo at hcut'
  obtain⟨q,e1,N,ya,yn,yc,y,ln,lc,g', D,L', X,rfl,kq,hqW,bC,hX,hP,hc⟩:=hcut'
  have hpbC:=hid (hpb.out.below (b3.out.trans ((hB7.out.mono l23.out).trans bC)))
  obtain⟨⟨q0,q1,z0,z1⟩,⟨y0,y1,y2,y3⟩,x0,x1,x2,x3⟩:=hQ.out wc hpbC.out
  have c0:=hP.box.cell 0
  have c1:=hP.box.cell 1
  have t0:=kq.cell 0
  have t1:=kq.cell 1
  have t2:=kq.cell 2
  have t3:=kq.cell 3
  simp only[List.getElem?_toArray,List.getElem?_cons_zero,List.getElem?_cons_succ] at c0 c1 t0 t1 t2 t3
  have l6:w.heap.size+1+1+1<w2.heap.size:=hpb.out.r7.lt
  have e1a:w.heap.size+1+1≠w3.heap.size:=by have:=l23.out; omega
  have e1b:=e1a.symm
  have e2a:w.heap.size+1+1+1≠w3.heap.size:=by have:=l23.out; omega
  have e2b:=e2a.symm
  have e3a:w.heap.size+1+1≠q:=by have:=l23.out; have:=hz7.out; omega
  have e3b:=e3a.symm
  have e4a:w.heap.size+1+1+1≠q:=by have:=l23.out; have:=hz7.out; omega
  have e4b:=e4a.symm
  have hX6:Hid (X (w.heap.size+1+1)):=hid (hX _ (by omega))
  have hX7:Hid (X (w.heap.size+1+1+1)):=hid (hX _ (by omega))
  have hfin:Hid (∀ wx,PSt w2.heap.size X wx w3.heap.size g' n D (some ⟨tb,0,none⟩) tn tc' L'→Below w.heap.size w wx→RetPD (.returned (.tuple #[.agg #[.slice (some ⟨g', 0,none⟩) n n,.slice (some ⟨tb,0,none⟩) tn tc'],.agg #[.int .i64 e1,.int .i64 N,.slice ya yn yc,.slice y ln lc],.int .i64 0])) wx n B tn l k a∧Below w.heap.size w wx):=hid (fun wx hPx bx=>⟨.inr ⟨hok.out,k,m.e,rfl,by rw[←hL.out,List.getElem?_map,hm.out]; rfl,e1,N,ya,yn,yc,y,ln,lc,g', D,L'.map TenM.e,_,tc', rfl,by have:=hc; rw[hL.out] at this; exact this,hPx.pool⟩,bx⟩)
  replace hP:=hid hP
  replace kq:=hid kq
  replace bC:=hid bC
  replace hX:=hid hX
  replace hc:=hid hc
  replace hqW:=hid hqW
  replace l6:=hid l6
  clear hQ
  go_upto_region 8 with fail
  go_region
  go_wp2_with fail
  refine bodyPost_ret (v:=.tuple #[.agg #[.slice (some ⟨g', 0,none⟩) n n,.slice (some ⟨tb,0,none⟩) tn tc'],.agg #[.int .i64 e1,.int .i64 N,.slice ya yn yc,.slice y ln lc],.int .i64 0]) (by rw[results_cells2 rfl]; go_simp) rfl ?_
  exact hfin.out (putQ (put2p wc (w.heap.size+1+1) _ _) (w.heap.size+1+1+1) e1 N ya yn yc y ln lc).drew (((hP.out.kept (kept_put2p _ _ _ _) hX6.out e1a).kept (kept_putQ _ _ _ _ _ _ _ _ _ _) hX7.out e2a).below (below_drew _ _)) (((hpbC.out.bel.trans ((kept_put2p _ _ _ _).below (by omega))).trans ((kept_putQ _ _ _ _ _ _ _ _ _ _).below (by omega))).trans (below_drew _ _))
end Go.Proofs.YtjafgnohlkkopaaGreatDoor
