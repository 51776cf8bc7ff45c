import Derived.Test.YtjafgnohlkkopaaGreatDoorPart27
import Derived.Test.YtjafgnohlkkopaaGreatDoorPart28
import Derived.Test.YtjafgnohlkkopaaGreatDoorPart24
import Derived.Test.YtjafgnohlkkopaaGreatDoorPart11
import Derived.Test.YtjafgnohlkkopaaGreatDoorPart14
set_option linter.unusedVariables false
set_option maxHeartbeats 8000000
set_option maxRecDepth 100000
namespace Go.Proofs.YtjafgnohlkkopaaGreatDoor
open Go.RowKit
def cO7 (n:Nat)(B:Nat->Blk)(i k:Nat)(m:aY)(s:iR)(a:aM)(cc e':Int):Prop:=
 (bD n B m.key s.x->dY n B (aG s.x)->zO n B m.key s.x a/\lW n B m.key e' s.x a)\/(e'=8/\∃ D y q,(bD n B m.key s.x/\dY n B (aG s.x)/\Did n B m.key s.x a cc D y)/\sI D (cK ((m.ms.map (·.x)).set k y)) q/\m.quota<q)
def cP1 (H:Nat)(X:Nat->Prop)(w:World)(ob g n:Nat)(B:Nat->Blk)(tb tn tc:Nat)(L:List aY)(i k:Nat)(m:aY)(s:iR)(a:aM)(cc:Int)(e:Ending)(w':World):Prop:=
 (∃ (e':Int) (L':List aY),e=.returned (.int .i64 e')/\e'≠0/\Below H w w'/\Only (PM ob tb tn tc L) w w'/\PSt H X w' ob g n B (some ⟨tb,0,none⟩) tn tc L'/\L'.map aY.e=L.map aY.e/\cO7 n B i k m s a cc e')\/
 (e=.returned (.int .i64 0)/\Below H w w'/\Only (PM ob tb tn tc L) w w'/\∃ g' D y u,(bD n B m.key s.x/\dY n B (aG s.x)/\Did n B m.key s.x a cc D y)/\(∃ q,sI D (cK ((m.ms.map (·.x)).set k y)) q/\q<=m.quota)/\PSt H X w' ob g' n D (some ⟨tb,0,none⟩) tn tc (L.set i { m with ms:=m.ms.set k ⟨u,y⟩ }))
theorem PSt.back {H:Nat}{X:Nat->Prop}{w wf:World}{ob g n:Nat}{B:Nat->Blk}{ta:Option Addr}{tn tc:Nat}{L:List aY}{i rb:Nat}{m:aY}(h:PSt H X w ob g n B ta tn tc L)(hm:L[i]? =some m)(ha:m.sa=some ⟨rb,0,none⟩)(on:Only (fun b=>b=rb) w wf)(hset:wf.ownsRow H 84 3 (.slice m.sa m.sn m.sc) m.sn (setCells m.ms)):PSt H X wf ob g n B ta tn tc L:=by
 obtain⟨hi,hmi⟩:=List.getElem?_eq_some_iff.1 hm
 have hl:=h.mine.len
 have hin:i<tn:=by omega
 have hself:L.set i m=L:=by rw[<-hmi,List.set_getElem_self]
 have hmine:=h.mine.step (w':=wf) (m':=m) hm (.inl ⟨hin,rfl⟩) on (fun b e=>.inr ⟨hin,by subst e; rw[ha]; rfl⟩) (by
  rw[hself]
  exact on.row h.mine.row (fun b hb e=>by subst e; exact h.mine.top i m hm hin b (by rw[ha]; rfl) hb)) hset (fun b hb=>.inl ⟨hin,hb⟩) (fun s hs=>.inl hs) ⟨rfl,rfl⟩
 rw[hself] at hmine
 exact h.step on (fun b e=>.inr ⟨i,m,hin,hm,by subst e; rw[ha]; rfl⟩) hmine (fun b f=>.inl f)
theorem zI (H:Nat)(X:Nat->Prop)(ob g n:Nat)(B:Nat->Blk)(tb tn tc:Nat)(L:List aY)(i k:Nat)(m:aY)(s:iR)(a:aM)(ba:Option Addr)(bn bc:Nat)(cc:Int)(w:World)(h:PSt H X w ob g n B (some ⟨tb,0,none⟩) tn tc L)(hm:L[i]? =some m)(hs:m.ms[k]? =some s)(h3:m.sn<=3)(hao:a.ok)(hc:∀ k,k<n->(B k).refs<=cc)(hB:aI (fun _=>True) .u8 w ba bn a.bytes)(h64:64<=cc)(hcc:cc+iN a+24<=1000000)(hq:m.quota<=400)(hpure:∀ D y,bD n B m.key s.x/\dY n B (aG s.x)/\Did n B m.key s.x a cc D y->Right n D/\lD n D ⟨m.key,m.quota,(m.ms.map (·.x)).set k y⟩):
 Calls Tryz.prog 40 #[.pointer (some ⟨ob,0,none⟩),.pointer (some ⟨tb,i*3,none⟩),.int .i64 k,.agg #[.int .i64 a.kind,.string a.set,.string a.file,.string a.to,.int .i64 a.pos,.int .i64 a.num,.slice ba bn bc]] w fun e w'=>cP1 H X w ob g n B tb tn tc L i k m s a cc e w':=by
 have b0:=aA w (.cells #[.int .i64 a.kind,.string a.set,.string a.file,.string a.to,.int .i64 a.pos,.int .i64 a.num,.slice ba bn bc] 30)
 have kA:aC _ w.heap.size #[.int .i64 a.kind,.string a.set,.string a.file,.string a.to,.int .i64 a.pos,.int .i64 a.num,.slice ba bn bc] 30:=aB w _ _
 have hsz:=h.mine.sz
 replace h:=h.below b0
 replace b0:=hid b0
 replace kA:=hid kA
 replace h:=hid h
 replace hc:=hid hc
 replace hB:=hid (hB.below b0.out)
 replace hpure:=hid hpure
 go_enter Tryz.func40,Tryz.ntmps40
 go_upto_region 1 with fail
 generalize w.alloc (.cells #[.int .i64 a.kind,.string a.set,.string a.file,.string a.to,.int .i64 a.pos,.int .i64 a.num,.slice ba bn bc] 30)=w0 at *
 obtain⟨hk,hsk⟩:=List.getElem?_eq_some_iff.1 hs
 have hml:m.ms.length=m.sn:=by have:=(h.out.sets hm).1; simpa using this
 have hks:k<m.sn:=by omega
 obtain⟨hi,hmi⟩:=List.getElem?_eq_some_iff.1 hm
 have hl:=h.out.mine.len
 have hown:=h.out.mine.own i m hm (by omega)
 obtain⟨rb,hrb⟩:∃ rb,m.sa=some ⟨rb,0,none⟩:=by
  rcases hown.2 with⟨h0,h1⟩ | ⟨q,cap,cur,h0,_⟩
  ·omega
  ·simp only[Value.slice.injEq] at h0; exact⟨q,h0.1⟩
 have hse:Hid (∀ w', Below w0.heap.size w0 w'->dN (fun _=>True) w' s.v s.x):=hid (fun w' b=>((h.out.mine.lists m (List.mem_of_getElem? hm) s (List.mem_of_getElem? hs)).weaken (fun _ _ _=>trivial)).below b)
 have hby:Hid (∀ w', Below w0.heap.size w0 w'->aI (fun _=>True) .u8 w' ba bn a.bytes):=hid (fun w' b=>hB.out.below b)
 have hst:Hid (∀ w', Below w0.heap.size w0 w'->aO w' (some ⟨g,0,none⟩) n B):=hid (fun w' b=>h.out.own.store.below b)
 obtain⟨t0,t1,t2,tf,lt⟩:=h.out.ten hm
 have hrow:=hown
 rw[hrb] at hrow t2
 have lr:=(hrow.lt rb rfl).2
 have r0:w0.cell? ⟨rb,k*3,none⟩=some (.string s.v.name):=(hrow.cellAt (k*3) (by omega)).trans ((flat_get iR.cells_len m.ms k 0 hk (by omega)).trans (by rw[hsk]; rfl))
 have r1:w0.cell? ⟨rb,k*3+1,none⟩=some (.slice s.v.fa s.v.fn s.v.fc):=(hrow.cellAt (k*3+1) (by omega)).trans ((flat_get iR.cells_len m.ms k 1 hk (by omega)).trans (by rw[hsk]; rfl))
 have r2:w0.cell? ⟨rb,k*3+2,none⟩=some (.slice s.v.sa s.v.sn s.v.sc):=(hrow.cellAt (k*3+2) (by omega)).trans ((flat_get iR.cells_len m.ms k 2 hk (by omega)).trans (by rw[hsk]; rfl))
 have o0:=h.out.box.cell 0
 have lo:=h.out.box.lt
 have la:=kA.out.lt
 have a0:=kA.out.cell 0
 have a1:=kA.out.cell 1
 have a2:=kA.out.cell 2
 have a3:=kA.out.cell 3
 have a4:=kA.out.cell 4
 have a5:=kA.out.cell 5
 have a6:=kA.out.cell 6
 simp at a0 a1 a2 a3 a4 a5 a6
 simp at o0
 have HB1:=hid (bDr (Below.refl _ w0))
 have HB2:=hid (bDr (bAl (Below.refl _ w0) dG))
 have HB3:=hid (bDr (bAl (Below.refl _ w0) iF))
 have HB4:=hid (bDr (bAl (bAl (Below.refl _ w0) dG) iF))
 have HB5:=hid (bDr (bAl (bAl (Below.refl _ w0) iF) dG))
 have HZ2:Hid ((w0.alloc dG).drew.heap.size=w0.heap.size+1):=hid (by show (w0.alloc dG).heap.size=_; simp)
 have HZ3:Hid ((w0.alloc iF).drew.heap.size=w0.heap.size+1):=hid (by show (w0.alloc iF).heap.size=_; simp)
 have HZ4:Hid (((w0.alloc dG).alloc iF).drew.heap.size=w0.heap.size+2):=hid (by show ((w0.alloc dG).alloc iF).heap.size=_; simp)
 have HZ5:Hid (((w0.alloc iF).alloc dG).drew.heap.size=w0.heap.size+2):=hid (by show ((w0.alloc iF).alloc dG).heap.size=_; simp)
 have ka2:=hid ((aB w0 #[.slice none 0 0] 24).below (aD _ _))
 have kb3:=hid ((aB w0 #[.string (ByteArray.mk #[]),.slice none 0 0,.slice none 0 0] 84).below (aD _ _))
 have ka4:=hid (((aB w0 #[.slice none 0 0] 24).below (aA _ iF)).below (aD _ _))
 have kb4:=hid ((aF w0 dG #[.string (ByteArray.mk #[]),.slice none 0 0,.slice none 0 0] 84).below (aD _ _))
 have kb5:=hid (((aB w0 #[.string (ByteArray.mk #[]),.slice none 0 0,.slice none 0 0] 84).below (aA _ dG)).below (aD _ _))
 have ka5:=hid ((aF w0 iF #[.slice none 0 0] 24).below (aD _ _))
 have n0:ob≠w0.heap.size:=by omega
 have n0':=n0.symm
 have q0:ob≠w0.heap.size+1:=by omega
 have q0':=q0.symm
 have n1:tb≠w0.heap.size:=by omega
 have n1':=n1.symm
 have q1:tb≠w0.heap.size+1:=by omega
 have q1':=q1.symm
 have n2:rb≠w0.heap.size:=by omega
 have n2':=n2.symm
 have q2:rb≠w0.heap.size+1:=by omega
 have q2':=q2.symm
 have n3:w.heap.size≠w0.heap.size:=by omega
 have n3':=n3.symm
 have q3:w.heap.size≠w0.heap.size+1:=by omega
 have q3':=q3.symm
 have hk0:(0:Int)<=(k:Int):=by omega
 have hksI:(k:Int)<(m.sn:Int):=by omega
 replace hm:=hid hm
 replace hs:=hid hs
 clear hrow hown hsk t1 tf hmi
 replace hrb:=hid hrb
 go_cut [9,10,11] from 33 (fun v9 v10 v11 wc=>cL3 w0 wc n (fun e'=>bD n B m.key s.x->dY n B (aG s.x)->zO n B m.key s.x a/\lW n B m.key e' s.x a) (fun D y=>bD n B m.key s.x/\dY n B (aG s.x)/\Did n B m.key s.x a cc D y) v9 v10 v11)
 case first=>
  go_region_held3 (fun w'=>w'.cell? ⟨ob,0,none⟩=some (.slice (some ⟨g,0,none⟩) n n)/\w'.cell? ⟨tb,i*3,none⟩=some (.int .i64 m.key)/\w'.cell? ⟨tb,i*3+2,none⟩=some (.slice (some ⟨rb,0,none⟩) m.sn m.sc)/\w'.cell? ⟨rb,k*3,none⟩=some (.string s.v.name)/\w'.cell? ⟨rb,k*3+1,none⟩=some (.slice s.v.fa s.v.fn s.v.fc)/\w'.cell? ⟨rb,k*3+2,none⟩=some (.slice s.v.sa s.v.sn s.v.sc)/\w'.cell? ⟨w.heap.size,0,none⟩=some (.int .i64 a.kind)/\w'.cell? ⟨w.heap.size,1,none⟩=some (.string a.set)/\w'.cell? ⟨w.heap.size,2,none⟩=some (.string a.file)/\w'.cell? ⟨w.heap.size,3,none⟩=some (.string a.to)/\w'.cell? ⟨w.heap.size,4,none⟩=some (.int .i64 a.pos)/\w'.cell? ⟨w.heap.size,5,none⟩=some (.int .i64 a.num)/\w'.cell? ⟨w.heap.size,6,none⟩=some (.slice ba bn bc)) (first | go_keep | assumption) (first | (go_at_call 73; refine Calls.mono (cO3 (fun _=>True) (some ⟨g,0,none⟩) n n B m.key s.v s.x a ba bn bc cc _ ?_ ?_ ?_ hao h64 hc.out hcc) ?_; (first | with_reducible exact hst.out _ HB1.out | with_reducible exact hst.out _ HB2.out | with_reducible exact hst.out _ HB3.out | with_reducible exact hst.out _ HB4.out | with_reducible exact hst.out _ HB5.out); (first | with_reducible exact hse.out _ HB1.out | with_reducible exact hse.out _ HB2.out | with_reducible exact hse.out _ HB3.out | with_reducible exact hse.out _ HB4.out | with_reducible exact hse.out _ HB5.out); (first | with_reducible exact hby.out _ HB1.out | with_reducible exact hby.out _ HB2.out | with_reducible exact hby.out _ HB3.out | with_reducible exact hby.out _ HB4.out | with_reducible exact hby.out _ HB5.out); rintro e w6 hret; have hr6:=uS.case hret; clear hret; obtain⟨b6,sx,ln,lc,u,e', rfl,hcase⟩:=hr6; (first | (with_reducible have bb:=hid (Below.tr HB1.out b6); have hw:=hid (uC.only (base':=w0.heap.size) hcase (Only.refl (fun _=>False) _) (fun _ f=>f.elim) (Nat.le_refl _))) | (with_reducible have bb:=hid (Below.tr HB2.out b6); have ka:=hid (ka2.out.below b6); rw[HZ2.out] at hcase; have hw:=hid hcase) | (with_reducible have bb:=hid (Below.tr HB3.out b6); have kb:=hid (kb3.out.below b6); rw[HZ3.out] at hcase; have hw:=hid hcase) | (with_reducible have bb:=hid (Below.tr HB4.out b6); have ka:=hid (ka4.out.below b6); have kb:=hid (kb4.out.below b6); rw[HZ4.out] at hcase; have hw:=hid hcase) | (with_reducible have bb:=hid (Below.tr HB5.out b6); have ka:=hid (ka5.out.below b6); have kb:=hid (kb5.out.below b6); rw[HZ5.out] at hcase; have hw:=hid hcase)); have z0:=(bb.out.cell (p:=⟨ob,0,none⟩) lo).trans o0; have z1:=(bb.out.cell (p:=⟨tb,i*3,none⟩) lt).trans t0; have z2:=(bb.out.cell (p:=⟨tb,i*3+2,none⟩) lt).trans t2; have z3:=(bb.out.cell (p:=⟨rb,k*3,none⟩) lr).trans r0; have z4:=(bb.out.cell (p:=⟨rb,k*3+1,none⟩) lr).trans r1; have z5:=(bb.out.cell (p:=⟨rb,k*3+2,none⟩) lr).trans r2; have z6:=(bb.out.cell (p:=⟨w.heap.size,0,none⟩) la).trans a0; have z7:=(bb.out.cell (p:=⟨w.heap.size,1,none⟩) la).trans a1; have z8:=(bb.out.cell (p:=⟨w.heap.size,2,none⟩) la).trans a2; have z9:=(bb.out.cell (p:=⟨w.heap.size,3,none⟩) la).trans a3; have z10:=(bb.out.cell (p:=⟨w.heap.size,4,none⟩) la).trans a4; have z11:=(bb.out.cell (p:=⟨w.heap.size,5,none⟩) la).trans a5; have z12:=(bb.out.cell (p:=⟨w.heap.size,6,none⟩) la).trans a6; have hs6:=bb.out.size; have m0:ob≠w6.heap.size:=(by omega); have m0':=m0.symm; have p0:ob≠w6.heap.size+1:=(by omega); have p0':=p0.symm; have m1:tb≠w6.heap.size:=(by omega); have m1':=m1.symm; have p1:tb≠w6.heap.size+1:=(by omega); have p1':=p1.symm; have m2:rb≠w6.heap.size:=(by omega); have m2':=m2.symm; have p2:rb≠w6.heap.size+1:=(by omega); have p2':=p2.symm; have m3:w.heap.size≠w6.heap.size:=(by omega); have m3':=m3.symm; have p3:w.heap.size≠w6.heap.size+1:=(by omega); have p3':=p3.symm; (try (have lka:=ka.out.lt; have nka:=Nat.ne_of_lt lka; have nka':=nka.symm; have cka:=ka.out.cell 0; have fka:=ka.out.frozen 0; simp only[List.getElem?_toArray,List.getElem?_cons_zero] at cka)); (try (have lkb:=kb.out.lt; have nkb:=Nat.ne_of_lt lkb; have nkb':=nkb.symm; have ckb0:=kb.out.cell 0; have ckb1:=kb.out.cell 1; have ckb2:=kb.out.cell 2; have fkb0:=kb.out.frozen 0; have fkb1:=kb.out.frozen 1; have fkb2:=kb.out.frozen 2; simp only[List.getElem?_toArray,List.getElem?_cons_zero,List.getElem?_cons_succ] at ckb0 ckb1 ckb2)); clear hcase; replace b6:=hid b6))
  all_goals (go_wp2_with fail; go_meet; first
   | exact bB5 bb.out hw.out (Nat.le_refl _)
   | exact bB4 bb.out hw.out (Nat.le_refl _)
   | exact bB7 (a:=w0.heap.size) (Nat.le_refl _) (Nat.lt_succ_self _) ka.out bb.out hw.out (Nat.le_succ _)
   | exact bB6 (a:=w0.heap.size) (Nat.le_refl _) (Nat.lt_succ_self _) kb.out bb.out hw.out (Nat.le_succ _)
   | exact vM (a:=w0.heap.size) (b:=w0.heap.size+1) (Nat.le_refl _) (Nat.le_succ _) (by omega) (by omega) (by omega) ka.out kb.out bb.out hw.out (by omega)
   | exact vM (a:=w0.heap.size+1) (b:=w0.heap.size) (Nat.le_succ _) (Nat.le_refl _) (by omega) (by omega) (by omega) ka.out kb.out bb.out hw.out (by omega))
 case rest=>
  obtain⟨a9,a10,sx,ln,lc,u,e', rfl,rfl,rfl,k9,k10,bC,h9,h10,hCs⟩:=hcut
  clear HB1 HB2 HB3 HB4 HB5 HZ2 HZ3 HZ4 HZ5 ka2 kb3 ka4 kb4 kb5 ka5 hst hse hby n0 n1 n2 n3 n0' n1' n2' n3' q0 q1 q2 q3 q0' q1' q2' q3'
  replace k9:=hid k9
  replace k10:=hid k10
  replace bC:=hid bC
  clear o0 t0 t2 r0 r1 r2 a0 a1 a2 a3 a4 a5 a6
  rcases hCs with⟨he,hN⟩ | ⟨rfl,g', D,y,rfl,e1,e2,hP,hg', hO,hY⟩
  ·have he':(e' == 0)=false:=by simp[he]
   replace hN:=hid hN
   go_wp2_with fail
   go_ret
   exact .inl ⟨e', L,rfl,he,(b0.out.mono hsz).trans (bC.out.mono (by have:=b0.out.size; omega)),(Only.of_below b0.out).trans (Only.of_below bC.out),h.out.below bC.out,rfl,.inl hN.out⟩
  ·obtain rfl:=e1.symm
   obtain rfl:=e2.symm
   have hwc:=h.out.below bC.out
   obtain⟨t0,t1,t2,tf,_⟩:=hwc.ten hm.out
   rw[hrb.out] at t2
   have hown:=hwc.mine.own i m hm.out (by omega)
   have hrow:=hown
   rw[hrb.out] at hrow
   obtain⟨_,hsk⟩:=List.getElem?_eq_some_iff.1 hs.out
   have r0:wc.cell? ⟨rb,k*3,none⟩=some (.string s.v.name):=(hrow.cellAt (k*3) (by omega)).trans ((flat_get iR.cells_len m.ms k 0 hk (by omega)).trans (by rw[hsk]; rfl))
   have r1:wc.cell? ⟨rb,k*3+1,none⟩=some (.slice s.v.fa s.v.fn s.v.fc):=(hrow.cellAt (k*3+1) (by omega)).trans ((flat_get iR.cells_len m.ms k 1 hk (by omega)).trans (by rw[hsk]; rfl))
   have r2:wc.cell? ⟨rb,k*3+2,none⟩=some (.slice s.v.sa s.v.sn s.v.sc):=(hrow.cellAt (k*3+2) (by omega)).trans ((flat_get iR.cells_len m.ms k 2 hk (by omega)).trans (by rw[hsk]; rfl))
   have b5:=aA wc (.cells #[.string s.v.name,.slice s.v.fa s.v.fn s.v.fc,.slice s.v.sa s.v.sn s.v.sc] 84)
   have k12:aC _ wc.heap.size #[.string s.v.name,.slice s.v.fa s.v.fn s.v.fc,.slice s.v.sa s.v.sn s.v.sc] 84:=aB wc _ _
   replace hP:=hid hP
   replace hO:=hid hO
   replace hwc:=hid hwc
   replace hY:=hid hY
   replace b5:=hid b5
   replace k12:=hid k12
   clear hrow hown hsk t1 tf
   go_upto_region 5 with fail
   clear r0 r1 r2 t0 t2
   have hz5:(wc.alloc (.cells #[.string s.v.name,.slice s.v.fa s.v.fn s.v.fc,.slice s.v.sa s.v.sn s.v.sc] 84)).heap.size=wc.heap.size+1:=by simp
   generalize wc.alloc (.cells #[.string s.v.name,.slice s.v.fa s.v.fn s.v.fc,.slice s.v.sa s.v.sn s.v.sc] 84)=w5 at *
   have h5:=hwc.out.below b5.out
   obtain⟨t0,t1,t2,tf,lt5⟩:=h5.ten hm.out
   rw[hrb.out] at t2
   have hrow:=h5.mine.own i m hm.out (by omega)
   rw[hrb.out] at hrow
   have hlk:(setCells m.ms).length=m.sn*3:=by rw[fV]; omega
   have r0:=hrow.cellAt (k*3) (by omega)
   have r1:=hrow.cellAt (k*3+1) (by omega)
   have r2:=hrow.cellAt (k*3+2) (by omega)
   rw[List.getElem?_eq_getElem (by omega)] at r0 r1 r2
   generalize (setCells m.ms)[k*3]=y0 at *
   generalize (setCells m.ms)[k*3+1]=y1 at *
   generalize (setCells m.ms)[k*3+2]=y2 at *
   have f0:=hrow.frozenAt (k*3)
   have f1:=hrow.frozenAt (k*3+1)
   have f2:=hrow.frozenAt (k*3+2)
   have k105:=k10.out.below b5.out
   have c0:=k105.cell 0
   have c1:=k105.cell 1
   have c2:=k105.cell 2
   simp at c0 c1 c2
   replace h5:=hid h5
   replace k105:=hid k105
   clear hrow
   go_region
   clear r0 r1 r2 f0 f1 f2 c0 c1 c2 t0 t1 t2 tf
   have kk:=nV w5 rb (k*3) u
   have hYk:dN (fun b=>w0.heap.size<=b) w5 u y:=hY.out.below b5.out
   have b05:Below w0.heap.size w0 w5:=Below.tr bC.out b5.out
   have hP6:=(h.out.lay (x:=y) hm.out hrb.out hk b05 hYk).below (aD _ (aU1 w5 rb (k*3) u))
   have hO6:=((hO.out.below b5.out).kept (show rb<g' by omega) kk).below (aD _ (aU1 w5 rb (k*3) u))
   have on6:Only (fun b=>b=rb) w5 (aU1 w5 rb (k*3) u).drew:=(Only.of_kept (M:=fun b=>b=rb) kk rfl).trans (Only.of_below (aD _ _))
   have k96:=on6.cells (k9.out.below b5.out) (show a9≠rb by omega)
   have k126:=on6.cells k12.out (show wc.heap.size≠rb by have:=b05.size; have:=bC.out.size; omega)
   have bH6:Below H w (aU1 w5 rb (k*3) u).drew:=((b0.out.mono hsz).trans (b05.mono (by have:=b0.out.size; omega))).trans ((kk.below (by have:=(h.out.mine.own i m hm.out (by omega)).lt rb (by rw[hrb.out]; rfl); omega)).trans (aD _ _))
   replace hP6:=hid hP6
   replace hO6:=hid hO6
   replace on6:=hid on6
   replace bH6:=hid bH6
   have hsz6:=hP6.out.box.lt
   clear kk hYk
   unfold aU1 at *
   generalize (((w5.setCell ⟨rb,k*3,none⟩ (.string u.name)).setCell ⟨rb,k*3+1,none⟩ (.slice u.fa u.fn u.fc)).setCell ⟨rb,k*3+2,none⟩ (.slice u.sa u.sn u.sc)).drew=w6 at *
   have hm6:(L.set i { m with ms:=m.ms.set k ⟨u,y⟩ })[i]? =some { m with ms:=m.ms.set k ⟨u,y⟩ }:=List.getElem?_set_self hi
   obtain⟨t0,t1,t2,tf,lt6⟩:=hP6.out.ten hm6
   have hs6:=hP6.out.sets hm6
   simp only at t0 t1 t2 hs6
   have hTen:Hid (sK (fun _=>True) w6 ⟨m.key,m.quota,(m.ms.map (·.x)).set k y⟩ m.sa m.sn m.sc):=hid (by
    have hnm:=hP6.out.mine.nums _ (List.mem_of_getElem? hm6)
    refine⟨?_,hnm.1,hnm.2,?_⟩
    ·rw[List.map_set] at hs6
     exact hs6
    ·exact oK (h.out.mine.own i m hm.out (by omega)))
   have hpu:=hpure.out D y hP.out
   have c9:=k96.cell 0
   simp at c9
   have la9:=k96.lt
   rw[hrb.out] at t2
   replace hpu:=hid hpu
   replace k96:=hid k96
   replace k126:=hid k126
   replace hm6:=hid hm6
   clear hs6
   go_upto_region 6 with fail
   go_region_held3 (fun w'=>w'.cell? ⟨a9,0,none⟩=some (.slice (some ⟨g', 0,none⟩) n n)/\w'.cell? ⟨tb,i*3,none⟩=some (.int .i64 m.key)/\w'.cell? ⟨tb,i*3+1,none⟩=some (.int .i64 m.quota)/\w'.cell? ⟨tb,i*3+2,none⟩=some (.slice (some ⟨rb,0,none⟩) m.sn m.sc)) (first | go_keep | assumption) (first | (go_at_call 26; rw[<-hrb.out]; refine Calls.mono (mX (fun _=>True) (some ⟨g', 0,none⟩) n n D ⟨m.key,m.quota,(m.ms.map (·.x)).set k y⟩ m.sa m.sn m.sc _ (hO6.out.store.below (aD _ _)) (hTen.out.below (aD _ _)) hpu.out.1 hpu.out.2) ?_; rintro e w8 ⟨⟨xa,xn,xc,xl,rfl,hN8,hRi,hmem⟩,b8⟩; replace b8:Below w6.heap.size w6 w8:=(aD _ _).trans b8; have z0:=(b8.cell (p:=⟨a9,0,none⟩) la9).trans c9; have z1:=(b8.cell (p:=⟨tb,i*3,none⟩) lt6).trans t0; have z2:=(b8.cell (p:=⟨tb,i*3+1,none⟩) lt6).trans t1; have z3:=(b8.cell (p:=⟨tb,i*3+2,none⟩) lt6).trans t2; replace hN8:=hid hN8; replace hRi:=hid hRi; replace hmem:=hid hmem))
   clear c9 t0 t1 t2 tf
   have hxl:=hid hN8.out.1
   have b8h:=hid b8
   clear b8
   by_cases hgt:m.quota<(xn:Int)
   ·have hP8:=hP6.out.below b8h.out
    have hrow8:=hP8.mine.own i _ hm6.out (by omega)
    simp only[hrb.out] at hrow8
    have hlk8:(setCells (m.ms.set k ⟨u,y⟩)).length=m.sn*3:=by rw[fV,List.length_set]; omega
    have r0:=hrow8.cellAt (k*3) (by omega)
    have r1:=hrow8.cellAt (k*3+1) (by omega)
    have r2:=hrow8.cellAt (k*3+2) (by omega)
    rw[List.getElem?_eq_getElem (by omega)] at r0 r1 r2
    generalize (setCells (m.ms.set k ⟨u,y⟩))[k*3]=x0 at *
    generalize (setCells (m.ms.set k ⟨u,y⟩))[k*3+1]=x1 at *
    generalize (setCells (m.ms.set k ⟨u,y⟩))[k*3+2]=x2 at *
    have f0:=hrow8.frozenAt (k*3)
    have f1:=hrow8.frozenAt (k*3+1)
    have f2:=hrow8.frozenAt (k*3+2)
    have k128:=k126.out.below b8h.out
    have d0:=k128.cell 0
    have d1:=k128.cell 1
    have d2:=k128.cell 2
    simp at d0 d1 d2
    have hrb8:=hrow8.lt rb rfl
    replace hrow8:=hid hrow8
    replace k128:=hid k128
    replace hP8:=hid hP8
    go_upto_region 7 with fail
    go_region
    go_wp2_with fail
    go_ret
    have kk:=nV w8 rb (k*3) s.v
    have hset:=aZ4 hrow8.out (k:=k) (by rw[List.length_set]; exact hk) s.v s.x
    rw[List.set_set] at hset
    have hself:m.ms.set k ⟨s.v,s.x⟩=m.ms:=by
     obtain⟨_,hsk⟩:=List.getElem?_eq_some_iff.1 hs.out
     rw[show (⟨s.v,s.x⟩:iR)=m.ms[k] from hsk.symm,List.set_getElem_self]
    rw[hself] at hset
    have on8:Only (fun b=>b=rb) w0 (aU1 w8 rb (k*3) s.v).drew:=((((Only.of_below b05).trans on6.out).trans (Only.of_below b8h.out)).trans (Only.of_kept kk rfl)).trans (Only.of_below (aD _ _))
    refine .inl ⟨8,L,rfl,by decide,bH6.out.trans ((b8h.out.mono (by have:=bH6.out.size; omega)).trans ((kk.below (by omega)).trans (aD _ _))),(Only.of_below b0.out).trans (on8.mono (fun b _ q=>.inr (.inr ⟨i,m,by omega,hm.out,by rw[hrb.out,q]; rfl⟩))),h.out.back hm.out hrb.out on8 ?_,rfl,.inr ⟨rfl,D,y,(xn:Int),hP.out,⟨xl,hRi.out,hmem.out,by rw[hxl.out]⟩,hgt⟩⟩
    rw[hrb.out]
    exact bI hset (aD _ _)
   ·have hP8:=hP6.out.below b8h.out
    have x0:=hP8.box.cell 0
    have xf:=hP8.box.frozen 0
    simp at x0
    replace hP8:=hid hP8
    go_wp2_with fail
    go_ret
    have kk:Kept ob w8 (w8.setCell ⟨ob,0,none⟩ (.slice (some ⟨g', 0,none⟩) n n)):=Kept.setCell (g:=ob) (Kept.refl _ _) (p:=⟨ob,0,none⟩) rfl _
    refine .inr ⟨rfl,bH6.out.trans ((b8h.out.mono (by have:=bH6.out.size; omega)).trans (kk.below hP8.out.hob)),((((Only.of_below b0.out).trans (Only.of_below b05)).trans (on6.out.mono (fun b _ q=>.inr (.inr ⟨i,m,by omega,hm.out,by rw[hrb.out,q]; rfl⟩)))).trans (Only.of_below b8h.out)).trans (Only.of_kept kk (.inl rfl)),g', D,y,u,hP.out,⟨(xn:Int),⟨xl,hRi.out,hmem.out,by rw[hxl.out]⟩,by omega⟩,hP8.out.swap2 (hO6.out.below b8h.out) (fun b f=>?_) (fun b x=>by have:=h.out.mine.xlt b x; omega)⟩
    rcases aZ3 (K:=b+1) (m':={ m with ms:=m.ms.set k ⟨u,y⟩ }) hm.out (fun b f=>.inl f) b f with f | f
    ·have:=(h.out.mine.ge f).2; omega
    ·omega
theorem bI4 (H:Nat)(X:Nat->Prop)(ob g n:Nat)(B:Nat->Blk)(tb tn tc:Nat)(L:List aY)(i:Nat)(m:aY)(a:aM)(ba:Option Addr)(bn bc:Nat)(w:World)(h:PSt H X w ob g n B (some ⟨tb,0,none⟩) tn tc L)(hm:L[i]? =some m)(hok:aR n B (L.map aY.e))(hao:a.ok)(hB:aI (fun _=>True) .u8 w ba bn a.bytes)(hk1:a.kind≠1)(hk13:a.kind≠13):
 Calls Tryz.prog 20 #[.pointer (some ⟨ob,0,none⟩),.pointer (some ⟨tb,i*3,none⟩),.agg #[.int .i64 a.kind,.string a.set,.string a.file,.string a.to,.int .i64 a.pos,.int .i64 a.num,.slice ba bn bc]] w fun e w'=>uR H X w ob n B tb tn tc L i m a e w':=by
 have hob:=aE6 w a ba bn bc
 have hmT:m.e∈L.map aY.e:=List.mem_map.2 ⟨m,List.mem_of_getElem? hm,rfl⟩
 have hmI:(L.map aY.e)[i]? =some m.e:=by rw[List.getElem?_map,hm]; rfl
 have hT:=hok.tens _ hmT
 have hml:(m.ms.map (·.x)).length=m.sn:=(h.sets hm).1
 have h3:m.sn<=3:=by have:=hT.few; rw[<-hml]; exact this
 have ho:(m.ms.map (·.x)).Pairwise fun a b=>a.nm<b.nm:=hT.order
 have hH:=h.mine.sz
 have hby:Hid (Bytes a.bytes):=hid hB.bytes
 have h0:=hid (h.boxed hob)
 obtain⟨hi,hmi⟩:=List.getElem?_eq_some_iff.1 hm
 have hl:=h.mine.len
 have hcaps:=oK (h.mine.own i m hm (by omega))
 have hnm:=h.mine.nums m (List.mem_of_getElem? hm)
 unfold bY6 cI5 at hob
 replace hob:=hid hob
 replace h:=hid h
 replace ho:=hid ho
 replace hml:=hid hml
 replace hm:=hid hm
 replace hT:=hid hT
 replace hok:=hid hok
 replace hmI:=hid hmI
 replace hB:=hid hB
 replace hmi:=hid hmi
 replace hl:=hid hl
 replace hi:=hid hi
 replace hcaps:=hid hcaps
 replace hnm:=hid hnm
 clear hmT
 have hka:(a.kind == 1)=false:=by simp[hk1]
 have hkb:(a.kind == 13)=false:=by simp[hk13]
 replace hk1:=hid hk1
 replace hk13:=hid hk13
 go_enter Tryz.func20,Tryz.ntmps20
 go_upto_region 1 with fail
 generalize (w.alloc (.cells #[.int .i64 a.kind,.string a.set,.string a.file,.string a.to,.int .i64 a.pos,.int .i64 a.num,.slice ba bn bc] 30)).alloc (.cells #[.int .i64 0,.int .i64 0,.slice none 0 0,.slice none 0 0] 41)=w0 at *
 have a0:=hob.out.bA.cell 0
 have a1:=hob.out.bA.cell 1
 simp only[List.getElem?_toArray,List.getElem?_cons_zero,List.getElem?_cons_succ] at a0 a1
 have o0:=h0.out.box.cell 0
 simp at o0
 have lo:=h0.out.box.lt
 obtain⟨t0,t1,t2,tf,lt⟩:=h0.out.ten hm.out
 have la:=hob.out.bA.lt
 have hss:Hid (fQ (fun _=>True) w0.drew m.sa m.sn (m.ms.map (·.x))):=hid ((h0.out.sets hm.out).below (aD _ _))
 go_upto_region 6 with fail
 go_region_held3 (fun w'=>w'.cell? ⟨tb,i*3+2,none⟩=some (.slice m.sa m.sn m.sc)/\w'.cell? ⟨w.heap.size,1,none⟩=some (.string a.set)) (first | go_keep | assumption) (first | (go_at_call 36; refine Calls.mono (aO2 (fun _=>True) m.sa m.sn m.sc (m.ms.map (·.x)) a.set _ (by omega) hss.out ho.out) ?_; rintro e w2 ⟨⟨p,b,rfl,hF⟩,b2⟩; replace b2:Below w0.heap.size w0 w2:=(aD _ _).trans b2; have y2:=(b2.cell (p:=⟨tb,i*3+2,none⟩) lt).trans t2; have a3:=(b2.cell (p:=⟨w.heap.size,1,none⟩) la).trans a1; replace hF:=hid hF))
 clear a0 a1 o0 t0 t1 t2 tf lt la lo y2 a3 hss
 have b02:=hid b2
 have hob2:=hid (hob.out.below b2)
 have h2:=hid (h0.out.below b2)
 have hB2:=hid ((hB.out.below hob.out.bel).below b2)
 clear b2 h0
 have hon:Hid (Only (PM ob tb tn tc L) w w2):=hid (Only.of_below hob2.out.bel)
 have hbH:Hid (Below H w w2):=hid (hob2.out.bel.mono hH)
 cases b
 ·have hno:Hid (¬∃ x∈m.ms.map (·.x),x.nm=a.set.data.toList):=hid (fun f=>by have:=(dJ ho.out hF.out).2 f; cases this)
  have q0:=hob2.out.bR.cell 0
  have q1:=hob2.out.bR.cell 1
  have q2:=hob2.out.bR.cell 2
  have q3:=hob2.out.bR.cell 3
  have z0:=hob2.out.bR.frozen 0
  have z1:=hob2.out.bR.frozen 1
  have z2:=hob2.out.bR.frozen 2
  have z3:=hob2.out.bR.frozen 3
  simp only[List.getElem?_toArray,List.getElem?_cons_zero,List.getElem?_cons_succ] at q0 q1 q2 q3
  go_wp2_with fail
  refine bodyPost_ret (v:=.agg #[.int .i64 5,.int .i64 0,.slice none 0 0,.slice none 0 0]) (results_cell_row rfl _ _ (w.heap.size+1) _ _ _ _ rfl (dM hob2.out.bR 5 0 none 0 0 none 0 0) Tryz.underlying41 rfl (by kernel_rfl)) rfl ?_
  exact pU h.out h2.out hbH.out hon.out hob2.out.bR (.missing hk1.out hk13.out hno.out) (aH4 hno.out) (.inl ⟨rfl,rfl⟩)
 obtain⟨hpl,hpn⟩:=jR hF.out
 have hpm:p<m.ms.length:=by simpa using hpl
 obtain⟨s,hs⟩:∃ s,m.ms[p]? =some s:=⟨_,List.getElem?_eq_getElem hpm⟩
 have hsx:m.e.sets[p]? =some s.x:=by show (m.ms.map (·.x))[p]? =_; rw[List.getElem?_map,hs]; rfl
 have hsn:s.x.nm=a.set.data.toList:=by
  rw[<-hpn]
  congr 1
  have:=List.getElem?_eq_getElem hpl
  rw[List.getElem?_map,hs] at this
  simpa using this
 obtain⟨hxok,hxh,_⟩:=hok.out.heldX hmI.out (List.mem_of_getElem? hsx)
 replace hs:=hid hs
 replace hsx:=hid hsx
 replace hsn:=hid hsn
 replace hxok:=hid hxok
 replace hxh:=hid hxh
 clear hpn hpl hpm
 have a0:=hob2.out.bA.cell 0
 have a1:=hob2.out.bA.cell 1
 have a2:=hob2.out.bA.cell 2
 have a3:=hob2.out.bA.cell 3
 have a4:=hob2.out.bA.cell 4
 have a5:=hob2.out.bA.cell 5
 have a6:=hob2.out.bA.cell 6
 simp only[List.getElem?_toArray,List.getElem?_cons_zero,List.getElem?_cons_succ] at a0 a1 a2 a3 a4 a5 a6
 have la:=hob2.out.bA.lt
 have n0:ob≠w.heap.size+1:=by have:=h.out.box.lt; omega
 have n0':=n0.symm
 have n1:tb≠w.heap.size+1:=by have:=(h.out.mine.row.lt tb rfl).2; omega
 have n1':=n1.symm
 have n2:w.heap.size≠w.heap.size+1:=by omega
 have n2':=n2.symm
 by_cases hlk:a.kind=11\/a.kind=12
 ·have hlook:((a.kind == 11)=true)\/((a.kind == 11)=false/\(a.kind == 12)=true):=by
   rcases hlk with f | f
   ·exact .inl (by simp[f])
   ·exact .inr ⟨by simp[f],by simp[f]⟩
  have o0:=h2.out.box.cell 0
  simp at o0
  have lo:=h2.out.box.lt
  obtain⟨t0,t1,t2,tf,lt⟩:=h2.out.ten hm.out
  have hst:Hid (aO w2.drew (some ⟨g,0,none⟩) n B):=hid (h2.out.own.store.below (aD _ _))
  obtain⟨SL,hSL⟩:∃ SL,SL=m.ms.map (·.x):=⟨_,rfl⟩
  have hss:Hid (fQ (fun _=>True) w2.drew m.sa m.sn SL):=hid (by rw[hSL]; exact(h2.out.sets hm.out).below (aD _ _))
  have hsxL:Hid (SL[p]? =some s.x):=hid (by rw[hSL]; exact hsx.out)
  have hxokL:Hid (bD n B (aP.mk m.key m.quota SL).key s.x):=hid hxok.out
  replace hSL:=hid hSL
  have hbel:Hid (∀ w', Below w2.heap.size w2 w'->OB w w' a ba bn bc):=hid (fun w' b=>hob2.out.below b)
  have hsz2:Hid (w.heap.size+2<=w2.heap.size):=hid (by have:=hob2.out.bR.lt; omega)
  replace hlk:=hid hlk
  rcases hlook with hl1 | ⟨hl1,hl2⟩
  all_goals (
   go_upto_region 12 with fail
   go_region_held3 (fun w'=>w'.cell? ⟨ob,0,none⟩=some (.slice (some ⟨g,0,none⟩) n n)/\w'.cell? ⟨tb,i*3,none⟩=some (.int .i64 m.key)/\w'.cell? ⟨tb,i*3+1,none⟩=some (.int .i64 m.quota)/\w'.cell? ⟨tb,i*3+2,none⟩=some (.slice m.sa m.sn m.sc)/\w'.cell? ⟨w.heap.size,0,none⟩=some (.int .i64 a.kind)/\w'.cell? ⟨w.heap.size,1,none⟩=some (.string a.set)/\w'.cell? ⟨w.heap.size,2,none⟩=some (.string a.file)/\w'.cell? ⟨w.heap.size,3,none⟩=some (.string a.to)/\w'.cell? ⟨w.heap.size,4,none⟩=some (.int .i64 a.pos)/\w'.cell? ⟨w.heap.size,5,none⟩=some (.int .i64 a.num)/\w'.cell? ⟨w.heap.size,6,none⟩=some (.slice ba bn bc)) (first | go_keep | assumption) (first | (go_at_call 37; refine Calls.mono (aL0 (some ⟨g,0,none⟩) n n B ⟨m.key,m.quota,SL⟩ m.sa m.sn m.sc p s.x a ba bn bc _ hst.out hss.out hsxL.out hxokL.out) ?_; rintro e w8 ⟨⟨e8,N8,ya8,yn8,yc8,y8,ln8,lc8,rfl,hrd⟩,b8⟩; replace b8:Below w2.heap.size w2 w8:=(aD _ _).trans b8; have s0:=(b8.cell (p:=⟨ob,0,none⟩) lo).trans o0; have s1:=(b8.cell (p:=⟨tb,i*3,none⟩) lt).trans t0; have s2:=(b8.cell (p:=⟨tb,i*3+1,none⟩) lt).trans t1; have s3:=(b8.cell (p:=⟨tb,i*3+2,none⟩) lt).trans t2; have v0:=(b8.cell (p:=⟨w.heap.size,0,none⟩) la).trans a0; have v1:=(b8.cell (p:=⟨w.heap.size,1,none⟩) la).trans a1; have v2:=(b8.cell (p:=⟨w.heap.size,2,none⟩) la).trans a2; have v3:=(b8.cell (p:=⟨w.heap.size,3,none⟩) la).trans a3; have v4:=(b8.cell (p:=⟨w.heap.size,4,none⟩) la).trans a4; have v5:=(b8.cell (p:=⟨w.heap.size,5,none⟩) la).trans a5; have v6:=(b8.cell (p:=⟨w.heap.size,6,none⟩) la).trans a6; have hob8:=hbel.out w8 b8; have q0:=hob8.bR.cell 0; have q1:=hob8.bR.cell 1; have q2:=hob8.bR.cell 2; have q3:=hob8.bR.cell 3; have z0:=hob8.bR.frozen 0; have z1:=hob8.bR.frozen 1; have z2:=hob8.bR.frozen 2; have z3:=hob8.bR.frozen 3; simp only[List.getElem?_toArray,List.getElem?_cons_zero,List.getElem?_cons_succ] at q0 q1 q2 q3; replace hob8:=hid hob8; replace b8:=hid b8; replace hrd:=hid hrd))
   all_goals (
    go_wp2_with fail
    refine bodyPost_ret (v:=.agg #[.int .i64 e8,.int .i64 N8,.slice ya8 yn8 yc8,.slice y8 ln8 lc8]) (results_cell_row rfl _ _ (w.heap.size+1) _ _ _ _ rfl (dM hob8.out.bR e8 N8 ya8 yn8 yc8 y8 ln8 lc8) Tryz.underlying41 rfl (by kernel_rfl)) rfl ?_
    have hLk:=hrd.out hlk.out
    exact pU h.out (h2.out.below b8.out) (hob8.out.bel.mono hH) (Only.of_below hob8.out.bel) hob8.out.bR (.look p s.x e8 N8 hsx.out hsn.out hlk.out hLk.e hLk.n) ((bJ8 (t:=m.e) hlk.out (bE4 ho.out (List.mem_of_getElem? hsx.out) hsn.out) hLk).weaken (fun b _ q=>by have:=hsz2.out; have:w2.drew.heap.size<=b:=q; have:w2.heap.size<=b:=this; omega)) (.inr (h.out.clear hob8.out.bel (fun b y=>y) (.inl h.out.hx)))))
 by_cases hk2:a.kind=2
 ·have hl1:(a.kind == 11)=false:=by simp[hk2]
  have hl2:(a.kind == 12)=false:=by simp[hk2]
  have hl3:(a.kind == 2)=true:=by simp[hk2]
  replace hk2:=hid hk2
  go_wp2_with fail
  refine(wZ H (YB X (w.heap.size+1)) ob g n B tb tn tc L i p m s w2 h2.out hm.out hs.out h3 hxok.out hxh.out).mono ?_
  rintro e w3 ⟨rfl,bH3,on3,g', D,hRD,hFD,hPS⟩
  have hnr:¬PM ob tb tn tc L (w.heap.size+1):=fun f=>by
   rcases f with f | f
   ·have:=h.out.box.lt; omega
   ·have:=(h.out.mine.ge f).2; omega
  have kR:=on3.cells hob2.out.bR hnr
  have q0:=kR.cell 0
  have q1:=kR.cell 1
  have q2:=kR.cell 2
  have q3:=kR.cell 3
  have z0:=kR.frozen 0
  have z1:=kR.frozen 1
  have z2:=kR.frozen 2
  have z3:=kR.frozen 3
  simp only[List.getElem?_toArray,List.getElem?_cons_zero,List.getElem?_cons_succ] at q0 q1 q2 q3
  replace hPS:=hid hPS
  replace hRD:=hid hRD
  replace hFD:=hid hFD
  replace kR:=hid kR
  replace on3:=hid on3
  replace bH3:=hid bH3
  clear hnr a0 a1 a2 a3 a4 a5 a6
  go_wp2_with fail
  refine bodyPost_ret (v:=.agg #[.int .i64 0,.int .i64 0,.slice none 0 0,.slice none 0 0]) (results_cell_row rfl _ _ (w.heap.size+1) _ _ _ _ rfl (dM kR.out 0 0 none 0 0 none 0 0) Tryz.underlying41 rfl (by kernel_rfl)) rfl ?_
  refine pU h.out hPS.out (hbH.out.trans bH3.out) (hon.out.trans on3.out) kR.out ?_ (lM hlk) (.inl ⟨rfl,rfl⟩)
  rw[rO]
  have e:aY.e { m with sn:=m.sn-1,ms:=m.ms.eraseIdx p }=⟨m.e.key,m.e.quota,m.e.sets.eraseIdx p⟩:=by simp[aY.e,List.eraseIdx_eq_take_drop_succ,List.map_take,List.map_drop]
  rw[e]
  exact .destroy p s.x D hsx.out hsn.out hk2.out hRD.out hFD.out
 by_cases hk10:a.kind=10
 ·have hl1:(a.kind == 11)=false:=by simp[hk10]
  have hl2:(a.kind == 12)=false:=by simp[hk10]
  have hl3:(a.kind == 2)=false:=by simp[hk10]
  have hl4:(a.kind == 10)=true:=by simp[hk10]
  replace hk10:=hid hk10
  replace hk2:=hid hk2
  go_wp2_with fail
  refine(aE1 H (YB X (w.heap.size+1)) ob g n B tb tn tc L i p m s a ba bn bc 2000 w2 h2.out hm.out hs.out h3 hao hok.out.refs (by decide) ho.out).mono ?_
  rintro e w3 (⟨e', rfl,he,b3,hcn⟩ | ⟨rfl,bH3,on3,g', C,y,u,a', c', q,⟨_,_,K,_,_,hyok,_,hcf⟩,hNm,hlt3,hFq,hPS⟩)
  ·have hob3:=hob2.out.below b3
   replace hcn:=hid (hcn hxok.out hxh.out)
   have q0:=hob3.bR.cell 0
   have q1:=hob3.bR.cell 1
   have q2:=hob3.bR.cell 2
   have q3:=hob3.bR.cell 3
   have z0:=hob3.bR.frozen 0
   have z1:=hob3.bR.frozen 1
   have z2:=hob3.bR.frozen 2
   have z3:=hob3.bR.frozen 3
   simp only[List.getElem?_toArray,List.getElem?_cons_zero,List.getElem?_cons_succ] at q0 q1 q2 q3
   replace hob3:=hid hob3
   replace b3:=hid b3
   clear a0 a1 a2 a3 a4 a5 a6
   go_wp2_with fail
   refine bodyPost_ret (v:=.agg #[.int .i64 e', .int .i64 0,.slice none 0 0,.slice none 0 0]) (results_cell_row rfl _ _ (w.heap.size+1) _ _ _ _ rfl (dM hob3.out.bR e' 0 none 0 0 none 0 0) Tryz.underlying41 rfl (by kernel_rfl)) rfl ?_
   exact pU h.out (h2.out.below b3.out) (hob3.out.bel.mono hH) (Only.of_below hob3.out.bel) hob3.out.bR (.noclone p s.x e' hsx.out hsn.out hk10.out he hcn.out) (lM hlk) (.inl ⟨rfl,rfl⟩)
  ·have hnr:¬PM ob tb tn tc L (w.heap.size+1):=fun f=>by
    rcases f with f | f
    ·have:=h.out.box.lt; omega
    ·have:=(h.out.mine.ge f).2; omega
   have kR:=on3.cells hob2.out.bR hnr
   have q0:=kR.cell 0
   have q1:=kR.cell 1
   have q2:=kR.cell 2
   have q3:=kR.cell 3
   have z0:=kR.frozen 0
   have z1:=kR.frozen 1
   have z2:=kR.frozen 2
   have z3:=kR.frozen 3
   simp only[List.getElem?_toArray,List.getElem?_cons_zero,List.getElem?_cons_succ] at q0 q1 q2 q3
   replace hPS:=hid hPS
   replace hyok:=hid hyok
   replace hcf:=hid hcf
   replace hFq:=hid hFq
   replace kR:=hid kR
   replace on3:=hid on3
   replace bH3:=hid bH3
   clear hnr a0 a1 a2 a3 a4 a5 a6
   go_wp2_with fail
   refine bodyPost_ret (v:=.agg #[.int .i64 0,.int .i64 0,.slice none 0 0,.slice none 0 0]) (results_cell_row rfl _ _ (w.heap.size+1) _ _ _ _ rfl (dM kR.out 0 0 none 0 0 none 0 0) Tryz.underlying41 rfl (by kernel_rfl)) rfl ?_
   refine pU h.out hPS.out (hbH.out.trans bH3.out) (hon.out.trans on3.out) kR.out ?_ (lM hlk) (.inl ⟨rfl,rfl⟩)
   rw[rO]
   have e:aY.e { m with sa:=a', sn:=m.sn+1,sc:=c', ms:=m.ms.take q++⟨u,y⟩::m.ms.drop q }=⟨m.e.key,m.e.quota,m.e.sets.take q++y::m.e.sets.drop q⟩:=by
    simp[aY.e,List.map_take,List.map_drop]
   rw[e]
   exact .clone p s.x C y q hsx.out hsn.out hk10.out hyok.out hcf.out (by show (m.ms.map (·.x)).length<3; rw[hml.out]; exact hlt3) hFq.out
 have hl1:(a.kind == 11)=false:=by simp; exact fun f=>hlk (.inl f)
 have hl2:(a.kind == 12)=false:=by simp; exact fun f=>hlk (.inr f)
 have hl3:(a.kind == 2)=false:=by simp[hk2]
 have hl4:(a.kind == 10)=false:=by simp[hk10]
 have hoth:Hid (bK1 a):=hid ⟨hk1.out,hk13.out,fun f=>hlk (.inl f),fun f=>hlk (.inr f),hk2,hk10⟩
 have hpure:Hid (∀ D y,bD n B m.key s.x/\dY n B (aG s.x)/\Did n B m.key s.x a 2000 D y->Right n D/\lD n D ⟨m.key,m.quota,(m.ms.map (·.x)).set p y⟩):=hid (fun D y f=>by
  have:=hok.out.changed hmI.out hsx.out hby.out hok.out.refs (tC a) f.2.2
  exact⟨this.1,this.2.1⟩)
 have hq400:m.quota<=400:=hT.out.qb.2
 replace hk2:=hid hk2
 replace hk10:=hid hk10
 go_wp2_with fail
 refine(zI H (YB X (w.heap.size+1)) ob g n B tb tn tc L i p m s a ba bn bc 2000 w2 h2.out hm.out hs.out h3 hao hok.out.refs hB2.out (by decide) (tC a) hq400 hpure.out).mono ?_
 have hnr:Hid (¬PM ob tb tn tc L (w.heap.size+1)):=hid (fun f=>by
  rcases f with f | f
  ·have:=h.out.box.lt; omega
  ·have:=(h.out.mine.ge f).2; omega)
 rintro e w3 (⟨e', L', rfl,he,bH3,on3,hPS,hLe,hwhy⟩ | ⟨rfl,bH3,on3,g', D,y,u,⟨_,_,hDid⟩,⟨q,hU,hq⟩,hPS⟩)
 ·have kR:=on3.cells hob2.out.bR hnr.out
  have q0:=kR.cell 0
  have q1:=kR.cell 1
  have q2:=kR.cell 2
  have q3:=kR.cell 3
  have z0:=kR.frozen 0
  have z1:=kR.frozen 1
  have z2:=kR.frozen 2
  have z3:=kR.frozen 3
  simp only[List.getElem?_toArray,List.getElem?_cons_zero,List.getElem?_cons_succ] at q0 q1 q2 q3
  replace hPS:=hid hPS
  replace hLe:=hid hLe
  replace hwhy:=hid hwhy
  replace kR:=hid kR
  replace on3:=hid on3
  replace bH3:=hid bH3
  clear a0 a1 a2 a3 a4 a5 a6
  go_wp2_with fail
  refine bodyPost_ret (v:=.agg #[.int .i64 e', .int .i64 0,.slice none 0 0,.slice none 0 0]) (results_cell_row rfl _ _ (w.heap.size+1) _ _ _ _ rfl (dM kR.out e' 0 none 0 0 none 0 0) Tryz.underlying41 rfl (by kernel_rfl)) rfl ?_
  refine pU h.out hPS.out (hbH.out.trans bH3.out) (hon.out.trans on3.out) kR.out ?_ (lM hlk) (.inl ⟨rfl,rfl⟩)
  rw[hLe.out]
  refine .nochange p s.x e' hsx.out hsn.out hoth.out he ?_
  rcases hwhy.out with f | ⟨f,D,y,q,⟨_,_,f1⟩,f2,f3⟩
  ·exact .inl (f hxok.out hxh.out)
  ·exact .inr ⟨f,D,y,q,f1,f2,f3⟩
 ·have kR:=on3.cells hob2.out.bR hnr.out
  have q0:=kR.cell 0
  have q1:=kR.cell 1
  have q2:=kR.cell 2
  have q3:=kR.cell 3
  have z0:=kR.frozen 0
  have z1:=kR.frozen 1
  have z2:=kR.frozen 2
  have z3:=kR.frozen 3
  simp only[List.getElem?_toArray,List.getElem?_cons_zero,List.getElem?_cons_succ] at q0 q1 q2 q3
  replace hPS:=hid hPS
  replace hDid:=hid hDid
  replace hU:=hid hU
  replace kR:=hid kR
  replace on3:=hid on3
  replace bH3:=hid bH3
  clear a0 a1 a2 a3 a4 a5 a6
  go_wp2_with fail
  refine bodyPost_ret (v:=.agg #[.int .i64 0,.int .i64 0,.slice none 0 0,.slice none 0 0]) (results_cell_row rfl _ _ (w.heap.size+1) _ _ _ _ rfl (dM kR.out 0 0 none 0 0 none 0 0) Tryz.underlying41 rfl (by kernel_rfl)) rfl ?_
  refine pU h.out hPS.out (hbH.out.trans bH3.out) (hon.out.trans on3.out) kR.out ?_ (lM hlk) (.inl ⟨rfl,rfl⟩)
  rw[rO]
  have e:aY.e { m with ms:=m.ms.set p ⟨u,y⟩ }=⟨m.e.key,m.e.quota,m.e.sets.set p y⟩:=by simp[aY.e,List.map_set]
  rw[e]
  exact .change p s.x D y q hsx.out hsn.out hoth.out hDid.out hU.out hq
theorem sU (H:Nat)(X:Nat->Prop)(ob g n:Nat)(B:Nat->Blk)(tb tn tc:Nat)(L:List aY)(i:Nat)(m:aY)(a:aM)(ba:Option Addr)(bn bc:Nat)(w:World)(h:PSt H X w ob g n B (some ⟨tb,0,none⟩) tn tc L)(hm:L[i]? =some m)(hok:aR n B (L.map aY.e))(hao:a.ok)(hB:aI (fun _=>True) .u8 w ba bn a.bytes):
 Calls Tryz.prog 20 #[.pointer (some ⟨ob,0,none⟩),.pointer (some ⟨tb,i*3,none⟩),.agg #[.int .i64 a.kind,.string a.set,.string a.file,.string a.to,.int .i64 a.pos,.int .i64 a.num,.slice ba bn bc]] w fun e w'=>uR H X w ob n B tb tn tc L i m a e w':=by
 by_cases h1:a.kind=1
 ·exact bG2 H X ob g n B tb tn tc L i m a ba bn bc w h hm hok hao h1
 ·by_cases h13:a.kind=13
  ·exact bI3 H X ob g n B tb tn tc L i m a ba bn bc w h hm hok hao hB h13
  ·exact bI4 H X ob g n B tb tn tc L i m a ba bn bc w h hm hok hao hB h1 h13
theorem aA5 (a:Option Addr)(n c:Nat)(ta:Option Addr)(tn tc:Nat)(i:Int)(w:World):
 Calls Tryz.prog 19 #[.agg #[.slice a n c,.slice ta tn tc],.int .i64 i] w fun e w'=>cQ6 e (0<=i/\i<(tn:Int))/\Below w.heap.size w w':=by
 have b0:=hid (aA w (.cells #[.slice a n c,.slice ta tn tc] 27))
 have k0:aC _ w.heap.size #[.slice a n c,.slice ta tn tc] 27:=aB w _ _
 go_enter Tryz.func19,Tryz.ntmps19
 go_upto_region 1 with fail
 generalize w.alloc (.cells #[.slice a n c,.slice ta tn tc] 27)=w0 at *
 have p1:=k0.cell 1
 simp at p1
 replace k0:=hid k0
 by_cases h0:0<=i
 ·go_wp2_with fail
  go_ret
  exact⟨⟨_,rfl,by simp[h0]⟩,b0.out⟩
 ·go_wp2_with fail
  go_ret
  exact⟨⟨_,rfl,by simp; omega⟩,b0.out⟩
theorem aZ7 {K:Nat}{W w6:World}{g n:Nat}{B:Nat->Blk}{ta:Option Addr}{tn tc:Nat}{L:List aY}(hg:W.heap.size<=g)(hO:Own w6 g n B)(hM:iH W.heap.size (fun b=>K<=b/\b<W.heap.size) w6 ta tn tc L tn)(hr:∀ b,fC (.slice ta tn tc) L tn b->b<g):
 PSt W.heap.size (fun b=>(K<=b/\b<W.heap.size)\/b=w6.heap.size) (w6.alloc (.cells #[.slice (some ⟨g,0,none⟩) n n,.slice ta tn tc] 27)) w6.heap.size g n B ta tn tc L:=by
 have bA:=aA w6 (.cells #[.slice (some ⟨g,0,none⟩) n n,.slice ta tn tc] 27)
 have hO7:=hO.below bA
 have hlt:=hO.lt
 have hs7:(w6.alloc (.cells #[.slice (some ⟨g,0,none⟩) n n,.slice ta tn tc] 27)).heap.size=w6.heap.size+1:=by simp
 refine⟨aB w6 _ _,hO7.lt,?_,hO7.free,⟨fun f=>?_,fun f=>by omega⟩,hM.clear bA (fun b y=>?_),hM.sz,.inr rfl⟩
 ·exact((hO.blocks.weaken (R:=fun b=>g<b/\b<w6.heap.size) (fun b hb q=>⟨q,hb⟩)).below bA).weaken (fun b _ q=>⟨q.1,fun f=>by have:=hr b f; omega,fun f=>by omega⟩)
 ·have:=hr _ f; omega
 ·rcases y with y | y
  ·exact .inl y
  ·exact .inr ⟨by omega,by omega⟩
theorem cF5 {H:Nat}{X:Nat->Prop}{w:World}{ta:Option Addr}{tn tc:Nat}{L:List aY}(h:iH H X w ta tn tc L tn)(h0:0<tn):∃ tb,ta=some ⟨tb,0,none⟩:=by
 rcases h.row.2 with⟨h1,h2⟩ | ⟨q,cap,cur,h1,_⟩
 ·omega
 ·simp only[Value.slice.injEq] at h1
  exact⟨q,h1.1⟩
theorem PSt.pool {H:Nat}{X:Nat->Prop}{w:World}{ob g n:Nat}{B:Nat->Blk}{ta:Option Addr}{tn tc:Nat}{L:List aY}(h:PSt H X w ob g n B ta tn tc L):fU (fun _=>True) w (some ⟨g,0,none⟩) n B ta tn (L.map aY.e):=⟨h.own.store,h.mine.tens⟩
end Go.Proofs.YtjafgnohlkkopaaGreatDoor
