import Derived.Test.YtjafgnohlkkopaaGreatDoorPart30
import Derived.Test.YtjafgnohlkkopaaGreatDoorPart22
import Derived.Deep.RegionHeld3
import Derived.Test.YtjafgnohlkkopaaGreatDoorPart27
import Derived.Test.YtjafgnohlkkopaaGreatDoorPart29
import Derived.Test.YtjafgnohlkkopaaGreatDoorPart26
import Derived.Test.YtjafgnohlkkopaaGreatDoorPart23
import Derived.Test.YtjafgnohlkkopaaGreatDoorPart14
set_option linter.unusedVariables false
set_option maxHeartbeats 8000000
set_option maxRecDepth 100000
namespace Go.Proofs.YtjafgnohlkkopaaGreatDoor
open Go.RowKit
theorem bJ4 (H:Nat)(X:Nat->Prop)(ob g n:Nat)(B:Nat->Blk)(tb tn tc:Nat)(L:List aY)(i:Nat)(m:aY)(a:aP)(ba:Option Addr)(bn bc:Nat)(w:World)(h:PSt H X w ob g n B (some ⟨tb,0,none⟩) tn tc L)(hm:L[i]? =some m)(hok:aQ n B (L.map aY.e))(hao:a.ok)(hB:aI (fun _=>True) .u8 w ba bn a.bytes)(hk:a.kind=13):
 Calls Tryz.prog 20 #[.pointer (some ⟨ob,0,none⟩),.pointer (some ⟨tb,i*3,none⟩),.agg #[.int .i64 a.kind,.string a.set,.string a.file,.string a.to,.int .i64 a.pos,.int .i64 a.num,.slice ba bn bc]] w fun e w'=>uU H X w ob n B tb tn tc L i m a e w':=by
 have hob:=aF2 w a ba bn bc
 have hmT:m.e∈L.map aY.e:=List.mem_map.2 ⟨m,List.mem_of_getElem? hm,rfl⟩
 have hmI:(L.map aY.e)[i]? =some m.e:=by rw[List.getElem?_map,hm]; rfl
 have hT:=hok.tens _ hmT
 have hml:(m.ms.map (·.x)).length=m.sn:=(h.sets hm).1
 have h3:m.sn<=3:=by have:=hT.few; rw[<-hml]; exact this
 have ho:(m.ms.map (·.x)).Pairwise fun a b=>a.nm<b.nm:=hT.order
 have hH:=h.mine.sz
 have hby:Hid (Bytes a.bytes):=hid hB.bytes
 have h0:=hid (h.boxed hob)
 obtain⟨hi,hmi⟩:=List.getElem?_eq_some_iff.1 hm
 have hl:=h.mine.len
 have hcaps:=oL (h.mine.own i m hm (by omega))
 have hnm:=h.mine.nums m (List.mem_of_getElem? hm)
 unfold cA5 cK3 at hob
 replace hob:=hid hob
 replace h:=hid h
 replace ho:=hid ho
 replace hml:=hid hml
 replace hm:=hid hm
 replace hT:=hid hT
 replace hok:=hid hok
 replace hmI:=hid hmI
 replace hB:=hid hB
 replace hmi:=hid hmi
 replace hl:=hid hl
 replace hi:=hid hi
 replace hcaps:=hid hcaps
 replace hnm:=hid hnm
 clear hmT
 have hka:(a.kind == 1)=false:=by simp[hk]
 have hkb:(a.kind == 13)=true:=by simp[hk]
 replace hk:=hid hk
 go_enter Tryz.func20,Tryz.ntmps20
 go_upto_region 1 with fail
 generalize (w.alloc (.cells #[.int .i64 a.kind,.string a.set,.string a.file,.string a.to,.int .i64 a.pos,.int .i64 a.num,.slice ba bn bc] 30)).alloc (.cells #[.int .i64 0,.int .i64 0,.slice none 0 0,.slice none 0 0] 41)=w0 at *
 have a0:=hob.out.bA.cell 0
 have a1:=hob.out.bA.cell 1
 simp only[List.getElem?_toArray,List.getElem?_cons_zero,List.getElem?_cons_succ] at a0 a1
 have o0:=h0.out.box.cell 0
 simp at o0
 have lo:=h0.out.box.lt
 obtain⟨t0,t1,t2,tf,lt⟩:=h0.out.ten hm.out
 have la:=hob.out.bA.lt
 have n0:ob≠w.heap.size+1:=by have:=h.out.box.lt; omega
 have n0':=n0.symm
 have n1:tb≠w.heap.size+1:=by have:=(h.out.mine.row.lt tb rfl).2; omega
 have n1':=n1.symm
 have n2:w.heap.size≠w.heap.size+1:=by omega
 have n2':=n2.symm
 obtain⟨SL,hSL⟩:∃ SL,SL=m.ms.map (·.x):=⟨_,rfl⟩
 have hTok:Hid (jK n B ⟨m.key,m.quota,SL⟩):=hid (by rw[hSL]; exact hT.out)
 have hst:Hid (aN w0.drew (some ⟨g,0,none⟩) n B):=hid (h0.out.own.store.below (aD _ _))
 have hTen:Hid (sI (fun _=>True) w0.drew ⟨m.key,m.quota,SL⟩ m.sa m.sn m.sc):=hid ⟨by rw[hSL]; exact(h0.out.sets hm.out).below (aD _ _),hnm.out.1,hnm.out.2,hcaps.out⟩
 replace hSL:=hid hSL
 have hbel:Hid (∀ w', Below w0.heap.size w0 w'->OB w w' a ba bn bc):=hid (fun w' b=>hob.out.below b)
 go_upto_region 5 with fail
 go_region_held3 (fun w'=>w'.cell? ⟨ob,0,none⟩=some (.slice (some ⟨g,0,none⟩) n n)/\w'.cell? ⟨tb,i*3,none⟩=some (.int .i64 m.key)/\w'.cell? ⟨tb,i*3+1,none⟩=some (.int .i64 m.quota)/\w'.cell? ⟨tb,i*3+2,none⟩=some (.slice m.sa m.sn m.sc)) (first | go_keep | assumption) (first | (go_at_call 26; refine Calls.mono (mW (fun _=>True) (some ⟨g,0,none⟩) n n B ⟨m.key,m.quota,SL⟩ m.sa m.sn m.sc _ hst.out hTen.out hok.out.right hTok.out) ?_; rintro e w8 ⟨⟨xa,xn,xc,xl,rfl,hN8,hRi,hmem⟩,b8⟩; replace b8:Below w0.heap.size w0 w8:=(aD _ _).trans b8; have s0:=(b8.cell (p:=⟨ob,0,none⟩) lo).trans o0; have s1:=(b8.cell (p:=⟨tb,i*3,none⟩) lt).trans t0; have s2:=(b8.cell (p:=⟨tb,i*3+1,none⟩) lt).trans t1; have s3:=(b8.cell (p:=⟨tb,i*3+2,none⟩) lt).trans t2; have hob8:=hbel.out w8 b8; have q0:=hob8.bR.cell 0; have q1:=hob8.bR.cell 1; have q2:=hob8.bR.cell 2; have q3:=hob8.bR.cell 3; have z0:=hob8.bR.frozen 0; have z1:=hob8.bR.frozen 1; have z2:=hob8.bR.frozen 2; have z3:=hob8.bR.frozen 3; simp only[List.getElem?_toArray,List.getElem?_cons_zero,List.getElem?_cons_succ] at q0 q1 q2 q3; replace hN8:=hid hN8; replace hRi:=hid hRi; replace hmem:=hid hmem; replace hob8:=hid hob8; replace b8:=hid b8))
 all_goals (
  have hxl:=hid hN8.out.1
  go_wp2_with fail
  refine bodyPost_ret (v:=.agg #[.int .i64 0,.int .i64 xn,.slice none 0 0,.slice none 0 0]) (results_cell_row rfl _ _ (w.heap.size+1) _ _ _ _ rfl (dN hob8.out.bR 0 xn none 0 0 none 0 0) Tryz.underlying41 rfl (by kernel_rfl)) rfl ?_
  exact pX h.out (h0.out.below b8.out) (hob8.out.bel.mono hH) (Only.of_below hob8.out.bel) hob8.out.bR (.uses (xn:Int) hk.out ⟨xl,hRi.out,by have:=hmem.out; rw[hSL.out] at this; exact this,by rw[hxl.out]⟩) (lK (by have:=hk.out; omega)) (.inl ⟨rfl,rfl⟩))
def cN4 (W wc:World)(B:Nat->Blk)(key:Int)(x:aK)(a:aP)(v9 v10:Value):Prop:=∃ (a9:Nat) (e1 N:Int) (ya:Option Addr) (yn yc:Nat) (y:Option Addr) (ln lc:Nat) (e':Int),v9=.pointer (some ⟨a9,0,none⟩)/\v10=.int .i64 e'/\aC wc a9 #[.int .i64 e1,.int .i64 N,.slice ya yn yc,.slice y ln lc] 41/\Below W.heap.size W wc/\W.heap.size<=a9/\((a.kind=11\/a.kind=12)->e'=0/\aD1 W.heap.size wc B key x a e1 N ya yn yc y ln lc)
theorem cC9 {W w6:World}{B:Nat->Blk}{key:Int}{x:aK}{a:aP}{e1 N:Int}{ya:Option Addr}{yn yc:Nat}{y:Option Addr}{ln lc:Nat}{e':Int}{base:Nat}(bb:Below W.heap.size W w6)(hr:(a.kind=11\/a.kind=12)->e'=0/\aD1 base w6 B key x a e1 N ya yn yc y ln lc)(hb:W.heap.size<=base):cN4 W (w6.alloc (.cells #[.int .i64 e1,.int .i64 N,.slice ya yn yc,.slice y ln lc] 41)) B key x a (.pointer (some ⟨w6.heap.size,0,none⟩)) (.int .i64 e'):=
 ⟨_,e1,N,ya,yn,yc,y,ln,lc,e', rfl,rfl,aB w6 _ _,Below.tr bb (aA _ _),bb.size,fun f=>⟨(hr f).1,(hr f).2.below (aA _ _) hb⟩⟩
theorem cD0 {W w6:World}{B:Nat->Blk}{key:Int}{x:aK}{a:aP}{e1 N:Int}{ya:Option Addr}{yn yc:Nat}{y:Option Addr}{ln lc:Nat}{e':Int}{g base:Nat}{c0 c1 c2 c3:Value}(ka:aC w6 g #[c0,c1,c2,c3] 41)(ha:W.heap.size<=g)(hgb:g<base)(bb:Below W.heap.size W w6)(hr:(a.kind=11\/a.kind=12)->e'=0/\aD1 base w6 B key x a e1 N ya yn yc y ln lc):cN4 W (cH0 w6 g e1 N ya yn yc y ln lc) B key x a (.pointer (some ⟨g,0,none⟩)) (.int .i64 e'):=
 ⟨g,e1,N,ya,yn,yc,y,ln,lc,e', rfl,rfl,dN ka e1 N ya yn yc y ln lc,bb.trans ((dM _ _ _ _ _ _ _ _ _ _).below ha),ha,fun f=>⟨(hr f).1,(hr f).2.kept (dM _ _ _ _ _ _ _ _ _ _) hgb (by omega)⟩⟩
abbrev bQ3:Obj:=.cells #[.int .i64 0,.int .i64 0,.slice none 0 0,.slice none 0 0] 41
abbrev cH9 (w:World)(sa:Option Addr)(n sc:Nat)(key quota:Int)(ta:Option Addr)(tn tc:Nat)(a:aP)(ba:Option Addr)(bn bc:Nat):World:=
 (((w.alloc (.cells #[.slice sa n sc] 24)).alloc (.cells #[.int .i64 key,.int .i64 quota,.slice ta tn tc] 64)).alloc (.cells #[.int .i64 a.kind,.string a.set,.string a.file,.string a.to,.int .i64 a.pos,.int .i64 a.num,.slice ba bn bc] 30)).alloc bQ3
structure KB (W wr:World)(sa:Option Addr)(n sc:Nat)(key quota:Int)(ta:Option Addr)(tn tc:Nat)(a:aP)(ba:Option Addr)(bn bc:Nat):Prop where
 bel:Below W.heap.size W wr
 bS:aC wr W.heap.size #[.slice sa n sc] 24
 bT:aC wr (W.heap.size+1) #[.int .i64 key,.int .i64 quota,.slice ta tn tc] 64
 bA:aC wr (W.heap.size+1+1) #[.int .i64 a.kind,.string a.set,.string a.file,.string a.to,.int .i64 a.pos,.int .i64 a.num,.slice ba bn bc] 30
 r8:aC wr (W.heap.size+1+1+1) #[.int .i64 0,.int .i64 0,.slice none 0 0,.slice none 0 0] 41
theorem KB.below {W wr w':World}{sa:Option Addr}{n sc:Nat}{key quota:Int}{ta:Option Addr}{tn tc:Nat}{a:aP}{ba:Option Addr}{bn bc:Nat}(h:KB W wr sa n sc key quota ta tn tc a ba bn bc)(b:Below wr.heap.size wr w'):KB W w' sa n sc key quota ta tn tc a ba bn bc:=⟨Below.tr h.bel b,h.bS.below b,h.bT.below b,h.bA.below b,h.r8.below b⟩
theorem cC5 (w:World)(sa:Option Addr)(n sc:Nat)(key quota:Int)(ta:Option Addr)(tn tc:Nat)(a:aP)(ba:Option Addr)(bn bc:Nat):KB w (cH9 w sa n sc key quota ta tn tc a ba bn bc) sa n sc key quota ta tn tc a ba bn bc:=by
 have h1:=aB w #[.slice sa n sc] 24
 have h2:=aB (w.alloc (.cells #[.slice sa n sc] 24)) #[.int .i64 key,.int .i64 quota,.slice ta tn tc] 64
 have h3:=aB ((w.alloc (.cells #[.slice sa n sc] 24)).alloc (.cells #[.int .i64 key,.int .i64 quota,.slice ta tn tc] 64)) #[.int .i64 a.kind,.string a.set,.string a.file,.string a.to,.int .i64 a.pos,.int .i64 a.num,.slice ba bn bc] 30
 have h4:=aB (((w.alloc (.cells #[.slice sa n sc] 24)).alloc (.cells #[.int .i64 key,.int .i64 quota,.slice ta tn tc] 64)).alloc (.cells #[.int .i64 a.kind,.string a.set,.string a.file,.string a.to,.int .i64 a.pos,.int .i64 a.num,.slice ba bn bc] 30)) #[.int .i64 0,.int .i64 0,.slice none 0 0,.slice none 0 0] 41
 simp only[aJ3] at h2 h3 h4
 exact⟨bAl (bAl (bAl (bAl (Below.refl _ w) _) _) _) _,((h1.below (aA _ _)).below (aA _ _)).below (aA _ _),(h2.below (aA _ _)).below (aA _ _),h3.below (aA _ _),h4⟩
def cM9 (base:Nat)(w:World)(B:Nat->Blk)(key:Int)(x:aK)(a:aP)(e:Ending):Prop:=∃ (e' N:Int) (ya:Option Addr) (yn yc:Nat) (y:Option Addr) (ln lc:Nat),e=.returned (.agg #[.int .i64 e', .int .i64 N,.slice ya yn yc,.slice y ln lc])/\((a.kind=11\/a.kind=12)->aD1 base w B key x a e' N ya yn yc y ln lc)
theorem aL1 (sa:Option Addr)(n sc:Nat)(B:Nat->Blk)(t:aO)(ta:Option Addr)(tn tc k:Nat)(x:aK)(a:aP)(ba:Option Addr)(bn bc:Nat)(w:World)(hs:aN w sa n B)(hT:fP (fun _=>True) w ta tn t.sets)(hk:t.sets[k]? =some x)(hx:aV n B t.key x):
 Calls Tryz.prog 37 #[.agg #[.slice sa n sc],.agg #[.int .i64 t.key,.int .i64 t.quota,.slice ta tn tc],.int .i64 k,.agg #[.int .i64 a.kind,.string a.set,.string a.file,.string a.to,.int .i64 a.pos,.int .i64 a.num,.slice ba bn bc]] w fun e w'=>cM9 w.heap.size w' B t.key x a e/\Below w.heap.size w w':=by
 have hkb:=cC5 w sa n sc t.key t.quota ta tn tc a ba bn bc
 unfold cH9 bQ3 at hkb
 obtain⟨hkl,hkx⟩:=List.getElem?_eq_some_iff.1 hk
 have hks:k<tn:=by rw[<-hT.1]; exact hkl
 replace hkb:=hid hkb
 replace hs:=hid hs
 replace hT:=hid hT
 replace hx:=hid hx
 go_enter Tryz.func37,Tryz.ntmps37
 go_upto_region 1 with fail
 generalize (((w.alloc (.cells #[.slice sa n sc] 24)).alloc (.cells #[.int .i64 t.key,.int .i64 t.quota,.slice ta tn tc] 64)).alloc (.cells #[.int .i64 a.kind,.string a.set,.string a.file,.string a.to,.int .i64 a.pos,.int .i64 a.num,.slice ba bn bc] 30)).alloc (.cells #[.int .i64 0,.int .i64 0,.slice none 0 0,.slice none 0 0] 41)=w0 at *
 have hT0:=hT.out.below hkb.out.bel
 obtain⟨rb,ro,hta⟩:∃ b off,ta=some ⟨b,off,none⟩:=by
  obtain⟨b,off,e,_⟩:=hT0.2 (by omega)
  exact⟨b,off,e⟩
 subst hta
 obtain⟨v,hI⟩:=hT0.set hks
 have hgd:t.sets.getD k aK.zero=x:=by rw[<-hkx]; simp[List.getD,hkl]
 rw[hgd] at hI
 have r0:=hI.c0
 have r1:=hI.c1
 have r2:=hI.c2
 have lr:rb<w0.heap.size:=fC r0
 have hse:Hid (∀ w', Below w0.heap.size w0 w'->dK (fun _=>True) w' v x):=hid (fun w' b=>hI.ok.below b)
 have hst:Hid (∀ w', Below w0.heap.size w0 w'->aN w' sa n B):=hid (fun w' b=>(hs.out.below hkb.out.bel).below b)
 have o0:=hkb.out.bS.cell 0
 have t0:=hkb.out.bT.cell 0
 have t2:=hkb.out.bT.cell 2
 have a0:=hkb.out.bA.cell 0
 have a1:=hkb.out.bA.cell 1
 have a2:=hkb.out.bA.cell 2
 have a3:=hkb.out.bA.cell 3
 have a4:=hkb.out.bA.cell 4
 have a5:=hkb.out.bA.cell 5
 have a6:=hkb.out.bA.cell 6
 simp at o0 t0 t2 a0 a1 a2 a3 a4 a5 a6
 have lo:=hkb.out.bS.lt
 have lt:=hkb.out.bT.lt
 have la:=hkb.out.bA.lt
 have HB1:=hid (bDr (Below.refl _ w0))
 have HB2:=hid (bDr (bAl (Below.refl _ w0) bQ3))
 have HZ2:Hid ((w0.alloc bQ3).drew.heap.size=w0.heap.size+1):=hid (by show (w0.alloc bQ3).heap.size=_; simp)
 have ka2:=hid ((aB w0 #[.int .i64 0,.int .i64 0,.slice none 0 0,.slice none 0 0] 41).below (aD _ _))
 have n0:=Nat.ne_of_lt lo
 have n1:=Nat.ne_of_lt lt
 have n2:=Nat.ne_of_lt la
 have n3:=Nat.ne_of_lt lr
 have n0':=n0.symm
 have n1':=n1.symm
 have n2':=n2.symm
 have n3':=n3.symm
 have hk0:(0:Int)<=(k:Int):=by omega
 have hksI:(k:Int)<(tn:Int):=by omega
 clear hT0 hI hgd hkx hk
 go_cut [9,10] from 24 (fun v9 v10 wc=>cN4 w0 wc B t.key x a v9 v10)
 case first=>
  go_region_held3 (fun w'=>w'.cell? ⟨w.heap.size,0,none⟩=some (.slice sa n sc)/\w'.cell? ⟨w.heap.size+1,0,none⟩=some (.int .i64 t.key)/\w'.cell? ⟨w.heap.size+1,2,none⟩=some (.slice (some ⟨rb,ro,none⟩) tn tc)/\w'.cell? ⟨rb,ro+k*3,none⟩=some (.string v.name)/\w'.cell? ⟨rb,ro+k*3+1,none⟩=some (.slice v.fa v.fn v.fc)/\w'.cell? ⟨rb,ro+k*3+2,none⟩=some (.slice v.sa v.sn v.sc)/\w'.cell? ⟨w.heap.size+1+1,0,none⟩=some (.int .i64 a.kind)/\w'.cell? ⟨w.heap.size+1+1,1,none⟩=some (.string a.set)/\w'.cell? ⟨w.heap.size+1+1,2,none⟩=some (.string a.file)/\w'.cell? ⟨w.heap.size+1+1,3,none⟩=some (.string a.to)/\w'.cell? ⟨w.heap.size+1+1,4,none⟩=some (.int .i64 a.pos)/\w'.cell? ⟨w.heap.size+1+1,5,none⟩=some (.int .i64 a.num)/\w'.cell? ⟨w.heap.size+1+1,6,none⟩=some (.slice ba bn bc)) (first | go_keep | assumption) (first | (go_at_call 69; refine Calls.mono (cC0 (fun _=>True) sa n sc B t.key v x a ba bn bc _ ?_ ?_ hx.out) ?_; (first | with_reducible exact hst.out _ HB1.out | with_reducible exact hst.out _ HB2.out); (first | with_reducible exact hse.out _ HB1.out | with_reducible exact hse.out _ HB2.out); rintro e w6 ⟨⟨e1,N,ya,yn,yc,y,ln,lc,e', rfl,h6r⟩,b6⟩; (first | (with_reducible have bb:=hid (Below.tr HB1.out b6)) | (with_reducible have bb:=hid (Below.tr HB2.out b6); have ka:=hid (ka2.out.below b6); rw[HZ2.out] at h6r; have cka0:=ka.out.cell 0; have cka1:=ka.out.cell 1; have cka2:=ka.out.cell 2; have cka3:=ka.out.cell 3; have fka0:=ka.out.frozen 0; have fka1:=ka.out.frozen 1; have fka2:=ka.out.frozen 2; have fka3:=ka.out.frozen 3; simp at cka0 cka1 cka2 cka3)); have z0:=(bb.out.cell (p:=⟨w.heap.size,0,none⟩) lo).trans o0; have z1:=(bb.out.cell (p:=⟨w.heap.size+1,0,none⟩) lt).trans t0; have z2:=(bb.out.cell (p:=⟨w.heap.size+1,2,none⟩) lt).trans t2; have z3:=(bb.out.cell (p:=⟨rb,ro+k*3,none⟩) lr).trans r0; have z4:=(bb.out.cell (p:=⟨rb,ro+k*3+1,none⟩) lr).trans r1; have z5:=(bb.out.cell (p:=⟨rb,ro+k*3+2,none⟩) lr).trans r2; have y0:=(bb.out.cell (p:=⟨w.heap.size+1+1,0,none⟩) la).trans a0; have y1:=(bb.out.cell (p:=⟨w.heap.size+1+1,1,none⟩) la).trans a1; have y2:=(bb.out.cell (p:=⟨w.heap.size+1+1,2,none⟩) la).trans a2; have y3:=(bb.out.cell (p:=⟨w.heap.size+1+1,3,none⟩) la).trans a3; have y4:=(bb.out.cell (p:=⟨w.heap.size+1+1,4,none⟩) la).trans a4; have y5:=(bb.out.cell (p:=⟨w.heap.size+1+1,5,none⟩) la).trans a5; have y6:=(bb.out.cell (p:=⟨w.heap.size+1+1,6,none⟩) la).trans a6; replace b6:=hid b6; replace h6r:=hid h6r))
  all_goals (go_wp2_with fail; go_meet; first
   | exact cC9 bb.out h6r.out (by first | exact Nat.le_refl _ | exact Nat.le_succ _)
   | exact cD0 (g:=w0.heap.size) ka.out (Nat.le_refl _) (Nat.lt_succ_self _) bb.out h6r.out)
 case rest=>
  obtain⟨a9,e1,N,ya,yn,yc,y,ln,lc,e', rfl,rfl,k9,bC,h9,h6r⟩:=hcut
  replace h6r:=hid h6r
  have hsw0:Hid (w.heap.size+1+1+1<w0.heap.size):=hid hkb.out.r8.lt
  replace hkb:=hid (hkb.out.below bC)
  clear o0 t0 t2 a0 a1 a2 a3 a4 a5 a6 r0 r1 r2 HB1 HB2 ka2 hse hst n0 n1 n2 n3 n0' n1' n2' n3' bC
  have q0:=hkb.out.r8.cell 0
  have q1:=hkb.out.r8.cell 1
  have q2:=hkb.out.r8.cell 2
  have q3:=hkb.out.r8.cell 3
  have z0:=hkb.out.r8.frozen 0
  have z1:=hkb.out.r8.frozen 1
  have z2:=hkb.out.r8.frozen 2
  have z3:=hkb.out.r8.frozen 3
  have c0:=k9.cell 0
  have c1:=k9.cell 1
  have c2:=k9.cell 2
  have c3:=k9.cell 3
  simp at q0 q1 q2 q3 c0 c1 c2 c3
  by_cases he:e'=0
  ·have he':(e' == 0)=true:=by simp[he]
   replace he:=hid he
   go_wp2_with fail
   refine bodyPost_ret (v:=.agg #[.int .i64 e1,.int .i64 N,.slice ya yn yc,.slice y ln lc]) ?_ rfl ?_
   ·exact results_cell_row rfl _ _ (w.heap.size+1+1+1) _ _ _ _ rfl (dN hkb.out.r8 e1 N ya yn yc y ln lc) Tryz.underlying41 rfl (by kernel_rfl)
   ·exact⟨⟨_,_,_,_,_,_,_,_,rfl,fun f=>(h6r.out f).2.kept (dM _ _ _ _ _ _ _ _ _ _) (by have:=hsw0.out; omega) (by have:=hsw0.out; omega)⟩,hkb.out.bel.trans ((dM _ _ _ _ _ _ _ _ _ _).below (by omega))⟩
  ·have he':(e' == 0)=false:=by simp[he]
   go_wp2_with fail
   refine bodyPost_ret (v:=.agg #[.int .i64 e', .int .i64 0,.slice none 0 0,.slice none 0 0]) ?_ rfl ?_
   ·exact results_cell_row rfl _ _ (w.heap.size+1+1+1) _ _ _ _ rfl (dN hkb.out.r8 e' 0 none 0 0 none 0 0) Tryz.underlying41 rfl (by kernel_rfl)
   ·exact⟨⟨_,_,_,_,_,_,_,_,rfl,fun f=>absurd (h6r.out f).1 he⟩,hkb.out.bel.trans ((dM _ _ _ _ _ _ _ _ _ _).below (by omega))⟩
def cR1 (n:Nat)(B:Nat->Blk)(i k:Nat)(m:aY)(s:iV)(a:aP)(cc e':Int):Prop:=
 (aV n B m.key s.x->dY n B (aG s.x)->zN n B m.key s.x a/\lQ n B m.key e' s.x a)\/(e'=8/\∃ D y q,(aV n B m.key s.x/\dY n B (aG s.x)/\Did n B m.key s.x a cc D y)/\qU D (cZ ((m.ms.map (·.x)).set k y)) q/\m.quota<q)
def cR5 (H:Nat)(X:Nat->Prop)(w:World)(ob g n:Nat)(B:Nat->Blk)(tb tn tc:Nat)(L:List aY)(i k:Nat)(m:aY)(s:iV)(a:aP)(cc:Int)(e:Ending)(w':World):Prop:=
 (∃ (e':Int) (L':List aY),e=.returned (.int .i64 e')/\e'≠0/\Below H w w'/\Only (PM ob tb tn tc L) w w'/\PSt H X w' ob g n B (some ⟨tb,0,none⟩) tn tc L'/\L'.map aY.e=L.map aY.e/\cR1 n B i k m s a cc e')\/
 (e=.returned (.int .i64 0)/\Below H w w'/\Only (PM ob tb tn tc L) w w'/\∃ g' D y u,(aV n B m.key s.x/\dY n B (aG s.x)/\Did n B m.key s.x a cc D y)/\(∃ q,qU D (cZ ((m.ms.map (·.x)).set k y)) q/\q<=m.quota)/\PSt H X w' ob g' n D (some ⟨tb,0,none⟩) tn tc (L.set i { m with ms:=m.ms.set k ⟨u,y⟩ }))
theorem PSt.back {H:Nat}{X:Nat->Prop}{w wf:World}{ob g n:Nat}{B:Nat->Blk}{ta:Option Addr}{tn tc:Nat}{L:List aY}{i rb:Nat}{m:aY}(h:PSt H X w ob g n B ta tn tc L)(hm:L[i]? =some m)(ha:m.sa=some ⟨rb,0,none⟩)(on:Only (fun b=>b=rb) w wf)(hset:wf.ownsRow H 84 3 (.slice m.sa m.sn m.sc) m.sn (setCells m.ms)):PSt H X wf ob g n B ta tn tc L:=by
 obtain⟨hi,hmi⟩:=List.getElem?_eq_some_iff.1 hm
 have hl:=h.mine.len
 have hin:i<tn:=by omega
 have hself:L.set i m=L:=by rw[<-hmi,List.set_getElem_self]
 have hmine:=h.mine.step (w':=wf) (m':=m) hm (.inl ⟨hin,rfl⟩) on (fun b e=>.inr ⟨hin,by subst e; rw[ha]; rfl⟩) (by
  rw[hself]
  exact on.row h.mine.row (fun b hb e=>by subst e; exact h.mine.top i m hm hin b (by rw[ha]; rfl) hb)) hset (fun b hb=>.inl ⟨hin,hb⟩) (fun s hs=>.inl hs) ⟨rfl,rfl⟩
 rw[hself] at hmine
 exact h.step on (fun b e=>.inr ⟨i,m,hin,hm,by subst e; rw[ha]; rfl⟩) hmine (fun b f=>.inl f)
theorem zH (H:Nat)(X:Nat->Prop)(ob g n:Nat)(B:Nat->Blk)(tb tn tc:Nat)(L:List aY)(i k:Nat)(m:aY)(s:iV)(a:aP)(ba:Option Addr)(bn bc:Nat)(cc:Int)(w:World)(h:PSt H X w ob g n B (some ⟨tb,0,none⟩) tn tc L)(hm:L[i]? =some m)(hs:m.ms[k]? =some s)(h3:m.sn<=3)(hao:a.ok)(hc:∀ k,k<n->(B k).refs<=cc)(hB:aI (fun _=>True) .u8 w ba bn a.bytes)(h64:64<=cc)(hcc:cc+iP a+24<=1000000)(hq:m.quota<=400)(hpure:∀ D y,aV n B m.key s.x/\dY n B (aG s.x)/\Did n B m.key s.x a cc D y->Right n D/\jK n D ⟨m.key,m.quota,(m.ms.map (·.x)).set k y⟩):
 Calls Tryz.prog 40 #[.pointer (some ⟨ob,0,none⟩),.pointer (some ⟨tb,i*3,none⟩),.int .i64 k,.agg #[.int .i64 a.kind,.string a.set,.string a.file,.string a.to,.int .i64 a.pos,.int .i64 a.num,.slice ba bn bc]] w fun e w'=>cR5 H X w ob g n B tb tn tc L i k m s a cc e w':=by
 have b0:=aA w (.cells #[.int .i64 a.kind,.string a.set,.string a.file,.string a.to,.int .i64 a.pos,.int .i64 a.num,.slice ba bn bc] 30)
 have kA:aC _ w.heap.size #[.int .i64 a.kind,.string a.set,.string a.file,.string a.to,.int .i64 a.pos,.int .i64 a.num,.slice ba bn bc] 30:=aB w _ _
 have hsz:=h.mine.sz
 replace h:=h.below b0
 replace b0:=hid b0
 replace kA:=hid kA
 replace h:=hid h
 replace hc:=hid hc
 replace hB:=hid (hB.below b0.out)
 replace hpure:=hid hpure
 go_enter Tryz.func40,Tryz.ntmps40
 go_upto_region 1 with fail
 generalize w.alloc (.cells #[.int .i64 a.kind,.string a.set,.string a.file,.string a.to,.int .i64 a.pos,.int .i64 a.num,.slice ba bn bc] 30)=w0 at *
 obtain⟨hk,hsk⟩:=List.getElem?_eq_some_iff.1 hs
 have hml:m.ms.length=m.sn:=by have:=(h.out.sets hm).1; simpa using this
 have hks:k<m.sn:=by omega
 obtain⟨hi,hmi⟩:=List.getElem?_eq_some_iff.1 hm
 have hl:=h.out.mine.len
 have hown:=h.out.mine.own i m hm (by omega)
 obtain⟨rb,hrb⟩:∃ rb,m.sa=some ⟨rb,0,none⟩:=by
  rcases hown.2 with⟨h0,h1⟩ | ⟨q,cap,cur,h0,_⟩
  ·omega
  ·simp only[Value.slice.injEq] at h0; exact⟨q,h0.1⟩
 have hse:Hid (∀ w', Below w0.heap.size w0 w'->dK (fun _=>True) w' s.v s.x):=hid (fun w' b=>((h.out.mine.lists m (List.mem_of_getElem? hm) s (List.mem_of_getElem? hs)).weaken (fun _ _ _=>trivial)).below b)
 have hby:Hid (∀ w', Below w0.heap.size w0 w'->aI (fun _=>True) .u8 w' ba bn a.bytes):=hid (fun w' b=>hB.out.below b)
 have hst:Hid (∀ w', Below w0.heap.size w0 w'->aN w' (some ⟨g,0,none⟩) n B):=hid (fun w' b=>h.out.own.store.below b)
 obtain⟨t0,t1,t2,tf,lt⟩:=h.out.ten hm
 have hrow:=hown
 rw[hrb] at hrow t2
 have lr:=(hrow.lt rb rfl).2
 have r0:w0.cell? ⟨rb,k*3,none⟩=some (.string s.v.name):=(hrow.cellAt (k*3) (by omega)).trans ((flat_get iV.cells_len m.ms k 0 hk (by omega)).trans (by rw[hsk]; rfl))
 have r1:w0.cell? ⟨rb,k*3+1,none⟩=some (.slice s.v.fa s.v.fn s.v.fc):=(hrow.cellAt (k*3+1) (by omega)).trans ((flat_get iV.cells_len m.ms k 1 hk (by omega)).trans (by rw[hsk]; rfl))
 have r2:w0.cell? ⟨rb,k*3+2,none⟩=some (.slice s.v.sa s.v.sn s.v.sc):=(hrow.cellAt (k*3+2) (by omega)).trans ((flat_get iV.cells_len m.ms k 2 hk (by omega)).trans (by rw[hsk]; rfl))
 have o0:=h.out.box.cell 0
 have lo:=h.out.box.lt
 have la:=kA.out.lt
 have a0:=kA.out.cell 0
 have a1:=kA.out.cell 1
 have a2:=kA.out.cell 2
 have a3:=kA.out.cell 3
 have a4:=kA.out.cell 4
 have a5:=kA.out.cell 5
 have a6:=kA.out.cell 6
 simp at a0 a1 a2 a3 a4 a5 a6
 simp at o0
 have HB1:=hid (bDr (Below.refl _ w0))
 have HB2:=hid (bDr (bAl (Below.refl _ w0) dG))
 have HB3:=hid (bDr (bAl (Below.refl _ w0) iF))
 have HB4:=hid (bDr (bAl (bAl (Below.refl _ w0) dG) iF))
 have HB5:=hid (bDr (bAl (bAl (Below.refl _ w0) iF) dG))
 have HZ2:Hid ((w0.alloc dG).drew.heap.size=w0.heap.size+1):=hid (by show (w0.alloc dG).heap.size=_; simp)
 have HZ3:Hid ((w0.alloc iF).drew.heap.size=w0.heap.size+1):=hid (by show (w0.alloc iF).heap.size=_; simp)
 have HZ4:Hid (((w0.alloc dG).alloc iF).drew.heap.size=w0.heap.size+2):=hid (by show ((w0.alloc dG).alloc iF).heap.size=_; simp)
 have HZ5:Hid (((w0.alloc iF).alloc dG).drew.heap.size=w0.heap.size+2):=hid (by show ((w0.alloc iF).alloc dG).heap.size=_; simp)
 have ka2:=hid ((aB w0 #[.slice none 0 0] 24).below (aD _ _))
 have kb3:=hid ((aB w0 #[.string (ByteArray.mk #[]),.slice none 0 0,.slice none 0 0] 84).below (aD _ _))
 have ka4:=hid (((aB w0 #[.slice none 0 0] 24).below (aA _ iF)).below (aD _ _))
 have kb4:=hid ((aF w0 dG #[.string (ByteArray.mk #[]),.slice none 0 0,.slice none 0 0] 84).below (aD _ _))
 have kb5:=hid (((aB w0 #[.string (ByteArray.mk #[]),.slice none 0 0,.slice none 0 0] 84).below (aA _ dG)).below (aD _ _))
 have ka5:=hid ((aF w0 iF #[.slice none 0 0] 24).below (aD _ _))
 have n0:ob≠w0.heap.size:=by omega
 have n0':=n0.symm
 have q0:ob≠w0.heap.size+1:=by omega
 have q0':=q0.symm
 have n1:tb≠w0.heap.size:=by omega
 have n1':=n1.symm
 have q1:tb≠w0.heap.size+1:=by omega
 have q1':=q1.symm
 have n2:rb≠w0.heap.size:=by omega
 have n2':=n2.symm
 have q2:rb≠w0.heap.size+1:=by omega
 have q2':=q2.symm
 have n3:w.heap.size≠w0.heap.size:=by omega
 have n3':=n3.symm
 have q3:w.heap.size≠w0.heap.size+1:=by omega
 have q3':=q3.symm
 have hk0:(0:Int)<=(k:Int):=by omega
 have hksI:(k:Int)<(m.sn:Int):=by omega
 replace hm:=hid hm
 replace hs:=hid hs
 clear hrow hown hsk t1 tf hmi
 replace hrb:=hid hrb
 go_cut [9,10,11] from 33 (fun v9 v10 v11 wc=>cN3 w0 wc n (fun e'=>aV n B m.key s.x->dY n B (aG s.x)->zN n B m.key s.x a/\lQ n B m.key e' s.x a) (fun D y=>aV n B m.key s.x/\dY n B (aG s.x)/\Did n B m.key s.x a cc D y) v9 v10 v11)
 case first=>
  go_region_held3 (fun w'=>w'.cell? ⟨ob,0,none⟩=some (.slice (some ⟨g,0,none⟩) n n)/\w'.cell? ⟨tb,i*3,none⟩=some (.int .i64 m.key)/\w'.cell? ⟨tb,i*3+2,none⟩=some (.slice (some ⟨rb,0,none⟩) m.sn m.sc)/\w'.cell? ⟨rb,k*3,none⟩=some (.string s.v.name)/\w'.cell? ⟨rb,k*3+1,none⟩=some (.slice s.v.fa s.v.fn s.v.fc)/\w'.cell? ⟨rb,k*3+2,none⟩=some (.slice s.v.sa s.v.sn s.v.sc)/\w'.cell? ⟨w.heap.size,0,none⟩=some (.int .i64 a.kind)/\w'.cell? ⟨w.heap.size,1,none⟩=some (.string a.set)/\w'.cell? ⟨w.heap.size,2,none⟩=some (.string a.file)/\w'.cell? ⟨w.heap.size,3,none⟩=some (.string a.to)/\w'.cell? ⟨w.heap.size,4,none⟩=some (.int .i64 a.pos)/\w'.cell? ⟨w.heap.size,5,none⟩=some (.int .i64 a.num)/\w'.cell? ⟨w.heap.size,6,none⟩=some (.slice ba bn bc)) (first | go_keep | assumption) (first | (go_at_call 73; refine Calls.mono (cQ6 (fun _=>True) (some ⟨g,0,none⟩) n n B m.key s.v s.x a ba bn bc cc _ ?_ ?_ ?_ hao h64 hc.out hcc) ?_; (first | with_reducible exact hst.out _ HB1.out | with_reducible exact hst.out _ HB2.out | with_reducible exact hst.out _ HB3.out | with_reducible exact hst.out _ HB4.out | with_reducible exact hst.out _ HB5.out); (first | with_reducible exact hse.out _ HB1.out | with_reducible exact hse.out _ HB2.out | with_reducible exact hse.out _ HB3.out | with_reducible exact hse.out _ HB4.out | with_reducible exact hse.out _ HB5.out); (first | with_reducible exact hby.out _ HB1.out | with_reducible exact hby.out _ HB2.out | with_reducible exact hby.out _ HB3.out | with_reducible exact hby.out _ HB4.out | with_reducible exact hby.out _ HB5.out); rintro e w6 hret; have hr6:=uV.case hret; clear hret; obtain⟨b6,sx,ln,lc,u,e', rfl,hcase⟩:=hr6; (first | (with_reducible have bb:=hid (Below.tr HB1.out b6); have hw:=hid (uC.only (base':=w0.heap.size) hcase (Only.refl (fun _=>False) _) (fun _ f=>f.elim) (Nat.le_refl _))) | (with_reducible have bb:=hid (Below.tr HB2.out b6); have ka:=hid (ka2.out.below b6); rw[HZ2.out] at hcase; have hw:=hid hcase) | (with_reducible have bb:=hid (Below.tr HB3.out b6); have kb:=hid (kb3.out.below b6); rw[HZ3.out] at hcase; have hw:=hid hcase) | (with_reducible have bb:=hid (Below.tr HB4.out b6); have ka:=hid (ka4.out.below b6); have kb:=hid (kb4.out.below b6); rw[HZ4.out] at hcase; have hw:=hid hcase) | (with_reducible have bb:=hid (Below.tr HB5.out b6); have ka:=hid (ka5.out.below b6); have kb:=hid (kb5.out.below b6); rw[HZ5.out] at hcase; have hw:=hid hcase)); have z0:=(bb.out.cell (p:=⟨ob,0,none⟩) lo).trans o0; have z1:=(bb.out.cell (p:=⟨tb,i*3,none⟩) lt).trans t0; have z2:=(bb.out.cell (p:=⟨tb,i*3+2,none⟩) lt).trans t2; have z3:=(bb.out.cell (p:=⟨rb,k*3,none⟩) lr).trans r0; have z4:=(bb.out.cell (p:=⟨rb,k*3+1,none⟩) lr).trans r1; have z5:=(bb.out.cell (p:=⟨rb,k*3+2,none⟩) lr).trans r2; have z6:=(bb.out.cell (p:=⟨w.heap.size,0,none⟩) la).trans a0; have z7:=(bb.out.cell (p:=⟨w.heap.size,1,none⟩) la).trans a1; have z8:=(bb.out.cell (p:=⟨w.heap.size,2,none⟩) la).trans a2; have z9:=(bb.out.cell (p:=⟨w.heap.size,3,none⟩) la).trans a3; have z10:=(bb.out.cell (p:=⟨w.heap.size,4,none⟩) la).trans a4; have z11:=(bb.out.cell (p:=⟨w.heap.size,5,none⟩) la).trans a5; have z12:=(bb.out.cell (p:=⟨w.heap.size,6,none⟩) la).trans a6; have hs6:=bb.out.size; have m0:ob≠w6.heap.size:=(by omega); have m0':=m0.symm; have p0:ob≠w6.heap.size+1:=(by omega); have p0':=p0.symm; have m1:tb≠w6.heap.size:=(by omega); have m1':=m1.symm; have p1:tb≠w6.heap.size+1:=(by omega); have p1':=p1.symm; have m2:rb≠w6.heap.size:=(by omega); have m2':=m2.symm; have p2:rb≠w6.heap.size+1:=(by omega); have p2':=p2.symm; have m3:w.heap.size≠w6.heap.size:=(by omega); have m3':=m3.symm; have p3:w.heap.size≠w6.heap.size+1:=(by omega); have p3':=p3.symm; (try (have lka:=ka.out.lt; have nka:=Nat.ne_of_lt lka; have nka':=nka.symm; have cka:=ka.out.cell 0; have fka:=ka.out.frozen 0; simp only[List.getElem?_toArray,List.getElem?_cons_zero] at cka)); (try (have lkb:=kb.out.lt; have nkb:=Nat.ne_of_lt lkb; have nkb':=nkb.symm; have ckb0:=kb.out.cell 0; have ckb1:=kb.out.cell 1; have ckb2:=kb.out.cell 2; have fkb0:=kb.out.frozen 0; have fkb1:=kb.out.frozen 1; have fkb2:=kb.out.frozen 2; simp only[List.getElem?_toArray,List.getElem?_cons_zero,List.getElem?_cons_succ] at ckb0 ckb1 ckb2)); clear hcase; replace b6:=hid b6))
  all_goals (go_wp2_with fail; go_meet; first
   | exact bC5 bb.out hw.out (Nat.le_refl _)
   | exact bC4 bb.out hw.out (Nat.le_refl _)
   | exact bC7 (a:=w0.heap.size) (Nat.le_refl _) (Nat.lt_succ_self _) ka.out bb.out hw.out (Nat.le_succ _)
   | exact bC6 (a:=w0.heap.size) (Nat.le_refl _) (Nat.lt_succ_self _) kb.out bb.out hw.out (Nat.le_succ _)
   | exact vO (a:=w0.heap.size) (b:=w0.heap.size+1) (Nat.le_refl _) (Nat.le_succ _) (by omega) (by omega) (by omega) ka.out kb.out bb.out hw.out (by omega)
   | exact vO (a:=w0.heap.size+1) (b:=w0.heap.size) (Nat.le_succ _) (Nat.le_refl _) (by omega) (by omega) (by omega) ka.out kb.out bb.out hw.out (by omega))
 case rest=>
  obtain⟨a9,a10,sx,ln,lc,u,e', rfl,rfl,rfl,k9,k10,bC,h9,h10,hCs⟩:=hcut
  clear HB1 HB2 HB3 HB4 HB5 HZ2 HZ3 HZ4 HZ5 ka2 kb3 ka4 kb4 kb5 ka5 hst hse hby n0 n1 n2 n3 n0' n1' n2' n3' q0 q1 q2 q3 q0' q1' q2' q3'
  replace k9:=hid k9
  replace k10:=hid k10
  replace bC:=hid bC
  clear o0 t0 t2 r0 r1 r2 a0 a1 a2 a3 a4 a5 a6
  rcases hCs with⟨he,hN⟩ | ⟨rfl,g', D,y,rfl,e1,e2,hP,hg', hO,hY⟩
  ·have he':(e' == 0)=false:=by simp[he]
   replace hN:=hid hN
   go_wp2_with fail
   go_ret
   exact .inl ⟨e', L,rfl,he,(b0.out.mono hsz).trans (bC.out.mono (by have:=b0.out.size; omega)),(Only.of_below b0.out).trans (Only.of_below bC.out),h.out.below bC.out,rfl,.inl hN.out⟩
  ·obtain rfl:=e1.symm
   obtain rfl:=e2.symm
   have hwc:=h.out.below bC.out
   obtain⟨t0,t1,t2,tf,_⟩:=hwc.ten hm.out
   rw[hrb.out] at t2
   have hown:=hwc.mine.own i m hm.out (by omega)
   have hrow:=hown
   rw[hrb.out] at hrow
   obtain⟨_,hsk⟩:=List.getElem?_eq_some_iff.1 hs.out
   have r0:wc.cell? ⟨rb,k*3,none⟩=some (.string s.v.name):=(hrow.cellAt (k*3) (by omega)).trans ((flat_get iV.cells_len m.ms k 0 hk (by omega)).trans (by rw[hsk]; rfl))
   have r1:wc.cell? ⟨rb,k*3+1,none⟩=some (.slice s.v.fa s.v.fn s.v.fc):=(hrow.cellAt (k*3+1) (by omega)).trans ((flat_get iV.cells_len m.ms k 1 hk (by omega)).trans (by rw[hsk]; rfl))
   have r2:wc.cell? ⟨rb,k*3+2,none⟩=some (.slice s.v.sa s.v.sn s.v.sc):=(hrow.cellAt (k*3+2) (by omega)).trans ((flat_get iV.cells_len m.ms k 2 hk (by omega)).trans (by rw[hsk]; rfl))
   have b5:=aA wc (.cells #[.string s.v.name,.slice s.v.fa s.v.fn s.v.fc,.slice s.v.sa s.v.sn s.v.sc] 84)
   have k12:aC _ wc.heap.size #[.string s.v.name,.slice s.v.fa s.v.fn s.v.fc,.slice s.v.sa s.v.sn s.v.sc] 84:=aB wc _ _
   replace hP:=hid hP
   replace hO:=hid hO
   replace hwc:=hid hwc
   replace hY:=hid hY
   replace b5:=hid b5
   replace k12:=hid k12
   clear hrow hown hsk t1 tf
   go_upto_region 5 with fail
   clear r0 r1 r2 t0 t2
   have hz5:(wc.alloc (.cells #[.string s.v.name,.slice s.v.fa s.v.fn s.v.fc,.slice s.v.sa s.v.sn s.v.sc] 84)).heap.size=wc.heap.size+1:=by simp
   generalize wc.alloc (.cells #[.string s.v.name,.slice s.v.fa s.v.fn s.v.fc,.slice s.v.sa s.v.sn s.v.sc] 84)=w5 at *
   have h5:=hwc.out.below b5.out
   obtain⟨t0,t1,t2,tf,lt5⟩:=h5.ten hm.out
   rw[hrb.out] at t2
   have hrow:=h5.mine.own i m hm.out (by omega)
   rw[hrb.out] at hrow
   have hlk:(setCells m.ms).length=m.sn*3:=by rw[fT]; omega
   have r0:=hrow.cellAt (k*3) (by omega)
   have r1:=hrow.cellAt (k*3+1) (by omega)
   have r2:=hrow.cellAt (k*3+2) (by omega)
   rw[List.getElem?_eq_getElem (by omega)] at r0 r1 r2
   generalize (setCells m.ms)[k*3]=y0 at *
   generalize (setCells m.ms)[k*3+1]=y1 at *
   generalize (setCells m.ms)[k*3+2]=y2 at *
   have f0:=hrow.frozenAt (k*3)
   have f1:=hrow.frozenAt (k*3+1)
   have f2:=hrow.frozenAt (k*3+2)
   have k105:=k10.out.below b5.out
   have c0:=k105.cell 0
   have c1:=k105.cell 1
   have c2:=k105.cell 2
   simp at c0 c1 c2
   replace h5:=hid h5
   replace k105:=hid k105
   clear hrow
   go_region
   clear r0 r1 r2 f0 f1 f2 c0 c1 c2 t0 t1 t2 tf
   have kk:=nY w5 rb (k*3) u
   have hYk:dK (fun b=>w0.heap.size<=b) w5 u y:=hY.out.below b5.out
   have b05:Below w0.heap.size w0 w5:=Below.tr bC.out b5.out
   have hP6:=(h.out.lay (x:=y) hm.out hrb.out hk b05 hYk).below (aD _ (aT8 w5 rb (k*3) u))
   have hO6:=((hO.out.below b5.out).kept (show rb<g' by omega) kk).below (aD _ (aT8 w5 rb (k*3) u))
   have on6:Only (fun b=>b=rb) w5 (aT8 w5 rb (k*3) u).drew:=(Only.of_kept (M:=fun b=>b=rb) kk rfl).trans (Only.of_below (aD _ _))
   have k96:=on6.cells (k9.out.below b5.out) (show a9≠rb by omega)
   have k126:=on6.cells k12.out (show wc.heap.size≠rb by have:=b05.size; have:=bC.out.size; omega)
   have bH6:Below H w (aT8 w5 rb (k*3) u).drew:=((b0.out.mono hsz).trans (b05.mono (by have:=b0.out.size; omega))).trans ((kk.below (by have:=(h.out.mine.own i m hm.out (by omega)).lt rb (by rw[hrb.out]; rfl); omega)).trans (aD _ _))
   replace hP6:=hid hP6
   replace hO6:=hid hO6
   replace on6:=hid on6
   replace bH6:=hid bH6
   have hsz6:=hP6.out.box.lt
   clear kk hYk
   unfold aT8 at *
   generalize (((w5.setCell ⟨rb,k*3,none⟩ (.string u.name)).setCell ⟨rb,k*3+1,none⟩ (.slice u.fa u.fn u.fc)).setCell ⟨rb,k*3+2,none⟩ (.slice u.sa u.sn u.sc)).drew=w6 at *
   have hm6:(L.set i { m with ms:=m.ms.set k ⟨u,y⟩ })[i]? =some { m with ms:=m.ms.set k ⟨u,y⟩ }:=List.getElem?_set_self hi
   obtain⟨t0,t1,t2,tf,lt6⟩:=hP6.out.ten hm6
   have hs6:=hP6.out.sets hm6
   simp only at t0 t1 t2 hs6
   have hTen:Hid (sI (fun _=>True) w6 ⟨m.key,m.quota,(m.ms.map (·.x)).set k y⟩ m.sa m.sn m.sc):=hid (by
    have hnm:=hP6.out.mine.nums _ (List.mem_of_getElem? hm6)
    refine⟨?_,hnm.1,hnm.2,?_⟩
    ·rw[List.map_set] at hs6
     exact hs6
    ·exact oL (h.out.mine.own i m hm.out (by omega)))
   have hpu:=hpure.out D y hP.out
   have c9:=k96.cell 0
   simp at c9
   have la9:=k96.lt
   rw[hrb.out] at t2
   replace hpu:=hid hpu
   replace k96:=hid k96
   replace k126:=hid k126
   replace hm6:=hid hm6
   clear hs6
   go_upto_region 6 with fail
   go_region_held3 (fun w'=>w'.cell? ⟨a9,0,none⟩=some (.slice (some ⟨g', 0,none⟩) n n)/\w'.cell? ⟨tb,i*3,none⟩=some (.int .i64 m.key)/\w'.cell? ⟨tb,i*3+1,none⟩=some (.int .i64 m.quota)/\w'.cell? ⟨tb,i*3+2,none⟩=some (.slice (some ⟨rb,0,none⟩) m.sn m.sc)) (first | go_keep | assumption) (first | (go_at_call 26; rw[<-hrb.out]; refine Calls.mono (mW (fun _=>True) (some ⟨g', 0,none⟩) n n D ⟨m.key,m.quota,(m.ms.map (·.x)).set k y⟩ m.sa m.sn m.sc _ (hO6.out.store.below (aD _ _)) (hTen.out.below (aD _ _)) hpu.out.1 hpu.out.2) ?_; rintro e w8 ⟨⟨xa,xn,xc,xl,rfl,hN8,hRi,hmem⟩,b8⟩; replace b8:Below w6.heap.size w6 w8:=(aD _ _).trans b8; have z0:=(b8.cell (p:=⟨a9,0,none⟩) la9).trans c9; have z1:=(b8.cell (p:=⟨tb,i*3,none⟩) lt6).trans t0; have z2:=(b8.cell (p:=⟨tb,i*3+1,none⟩) lt6).trans t1; have z3:=(b8.cell (p:=⟨tb,i*3+2,none⟩) lt6).trans t2; replace hN8:=hid hN8; replace hRi:=hid hRi; replace hmem:=hid hmem))
   clear c9 t0 t1 t2 tf
   have hxl:=hid hN8.out.1
   have b8h:=hid b8
   clear b8
   by_cases hgt:m.quota<(xn:Int)
   ·have hP8:=hP6.out.below b8h.out
    have hrow8:=hP8.mine.own i _ hm6.out (by omega)
    simp only[hrb.out] at hrow8
    have hlk8:(setCells (m.ms.set k ⟨u,y⟩)).length=m.sn*3:=by rw[fT,List.length_set]; omega
    have r0:=hrow8.cellAt (k*3) (by omega)
    have r1:=hrow8.cellAt (k*3+1) (by omega)
    have r2:=hrow8.cellAt (k*3+2) (by omega)
    rw[List.getElem?_eq_getElem (by omega)] at r0 r1 r2
    generalize (setCells (m.ms.set k ⟨u,y⟩))[k*3]=x0 at *
    generalize (setCells (m.ms.set k ⟨u,y⟩))[k*3+1]=x1 at *
    generalize (setCells (m.ms.set k ⟨u,y⟩))[k*3+2]=x2 at *
    have f0:=hrow8.frozenAt (k*3)
    have f1:=hrow8.frozenAt (k*3+1)
    have f2:=hrow8.frozenAt (k*3+2)
    have k128:=k126.out.below b8h.out
    have d0:=k128.cell 0
    have d1:=k128.cell 1
    have d2:=k128.cell 2
    simp at d0 d1 d2
    have hrb8:=hrow8.lt rb rfl
    replace hrow8:=hid hrow8
    replace k128:=hid k128
    replace hP8:=hid hP8
    go_upto_region 7 with fail
    go_region
    go_wp2_with fail
    go_ret
    have kk:=nY w8 rb (k*3) s.v
    have hset:=bA2 hrow8.out (k:=k) (by rw[List.length_set]; exact hk) s.v s.x
    rw[List.set_set] at hset
    have hself:m.ms.set k ⟨s.v,s.x⟩=m.ms:=by
     obtain⟨_,hsk⟩:=List.getElem?_eq_some_iff.1 hs.out
     rw[show (⟨s.v,s.x⟩:iV)=m.ms[k] from hsk.symm,List.set_getElem_self]
    rw[hself] at hset
    have on8:Only (fun b=>b=rb) w0 (aT8 w8 rb (k*3) s.v).drew:=((((Only.of_below b05).trans on6.out).trans (Only.of_below b8h.out)).trans (Only.of_kept kk rfl)).trans (Only.of_below (aD _ _))
    refine .inl ⟨8,L,rfl,by decide,bH6.out.trans ((b8h.out.mono (by have:=bH6.out.size; omega)).trans ((kk.below (by omega)).trans (aD _ _))),(Only.of_below b0.out).trans (on8.mono (fun b _ q=>.inr (.inr ⟨i,m,by omega,hm.out,by rw[hrb.out,q]; rfl⟩))),h.out.back hm.out hrb.out on8 ?_,rfl,.inr ⟨rfl,D,y,(xn:Int),hP.out,⟨xl,hRi.out,hmem.out,by rw[hxl.out]⟩,hgt⟩⟩
    rw[hrb.out]
    exact bY hset (aD _ _)
   ·have hP8:=hP6.out.below b8h.out
    have x0:=hP8.box.cell 0
    have xf:=hP8.box.frozen 0
    simp at x0
    replace hP8:=hid hP8
    go_wp2_with fail
    go_ret
    have kk:Kept ob w8 (w8.setCell ⟨ob,0,none⟩ (.slice (some ⟨g', 0,none⟩) n n)):=Kept.setCell (g:=ob) (Kept.refl _ _) (p:=⟨ob,0,none⟩) rfl _
    refine .inr ⟨rfl,bH6.out.trans ((b8h.out.mono (by have:=bH6.out.size; omega)).trans (kk.below hP8.out.hob)),((((Only.of_below b0.out).trans (Only.of_below b05)).trans (on6.out.mono (fun b _ q=>.inr (.inr ⟨i,m,by omega,hm.out,by rw[hrb.out,q]; rfl⟩)))).trans (Only.of_below b8h.out)).trans (Only.of_kept kk (.inl rfl)),g', D,y,u,hP.out,⟨(xn:Int),⟨xl,hRi.out,hmem.out,by rw[hxl.out]⟩,by omega⟩,hP8.out.swap2 (hO6.out.below b8h.out) (fun b f=>?_) (fun b x=>by have:=h.out.mine.xlt b x; omega)⟩
    rcases bA1 (K:=b+1) (m':={ m with ms:=m.ms.set k ⟨u,y⟩ }) hm.out (fun b f=>.inl f) b f with f | f
    ·have:=(h.out.mine.ge f).2; omega
    ·omega
theorem bJ5 (H:Nat)(X:Nat->Prop)(ob g n:Nat)(B:Nat->Blk)(tb tn tc:Nat)(L:List aY)(i:Nat)(m:aY)(a:aP)(ba:Option Addr)(bn bc:Nat)(w:World)(h:PSt H X w ob g n B (some ⟨tb,0,none⟩) tn tc L)(hm:L[i]? =some m)(hok:aQ n B (L.map aY.e))(hao:a.ok)(hB:aI (fun _=>True) .u8 w ba bn a.bytes)(hk1:a.kind≠1)(hk13:a.kind≠13):
 Calls Tryz.prog 20 #[.pointer (some ⟨ob,0,none⟩),.pointer (some ⟨tb,i*3,none⟩),.agg #[.int .i64 a.kind,.string a.set,.string a.file,.string a.to,.int .i64 a.pos,.int .i64 a.num,.slice ba bn bc]] w fun e w'=>uU H X w ob n B tb tn tc L i m a e w':=by
 have hob:=aF2 w a ba bn bc
 have hmT:m.e∈L.map aY.e:=List.mem_map.2 ⟨m,List.mem_of_getElem? hm,rfl⟩
 have hmI:(L.map aY.e)[i]? =some m.e:=by rw[List.getElem?_map,hm]; rfl
 have hT:=hok.tens _ hmT
 have hml:(m.ms.map (·.x)).length=m.sn:=(h.sets hm).1
 have h3:m.sn<=3:=by have:=hT.few; rw[<-hml]; exact this
 have ho:(m.ms.map (·.x)).Pairwise fun a b=>a.nm<b.nm:=hT.order
 have hH:=h.mine.sz
 have hby:Hid (Bytes a.bytes):=hid hB.bytes
 have h0:=hid (h.boxed hob)
 obtain⟨hi,hmi⟩:=List.getElem?_eq_some_iff.1 hm
 have hl:=h.mine.len
 have hcaps:=oL (h.mine.own i m hm (by omega))
 have hnm:=h.mine.nums m (List.mem_of_getElem? hm)
 unfold cA5 cK3 at hob
 replace hob:=hid hob
 replace h:=hid h
 replace ho:=hid ho
 replace hml:=hid hml
 replace hm:=hid hm
 replace hT:=hid hT
 replace hok:=hid hok
 replace hmI:=hid hmI
 replace hB:=hid hB
 replace hmi:=hid hmi
 replace hl:=hid hl
 replace hi:=hid hi
 replace hcaps:=hid hcaps
 replace hnm:=hid hnm
 clear hmT
 have hka:(a.kind == 1)=false:=by simp[hk1]
 have hkb:(a.kind == 13)=false:=by simp[hk13]
 replace hk1:=hid hk1
 replace hk13:=hid hk13
 go_enter Tryz.func20,Tryz.ntmps20
 go_upto_region 1 with fail
 generalize (w.alloc (.cells #[.int .i64 a.kind,.string a.set,.string a.file,.string a.to,.int .i64 a.pos,.int .i64 a.num,.slice ba bn bc] 30)).alloc (.cells #[.int .i64 0,.int .i64 0,.slice none 0 0,.slice none 0 0] 41)=w0 at *
 have a0:=hob.out.bA.cell 0
 have a1:=hob.out.bA.cell 1
 simp only[List.getElem?_toArray,List.getElem?_cons_zero,List.getElem?_cons_succ] at a0 a1
 have o0:=h0.out.box.cell 0
 simp at o0
 have lo:=h0.out.box.lt
 obtain⟨t0,t1,t2,tf,lt⟩:=h0.out.ten hm.out
 have la:=hob.out.bA.lt
 have hss:Hid (fP (fun _=>True) w0.drew m.sa m.sn (m.ms.map (·.x))):=hid ((h0.out.sets hm.out).below (aD _ _))
 go_upto_region 6 with fail
 go_region_held3 (fun w'=>w'.cell? ⟨tb,i*3+2,none⟩=some (.slice m.sa m.sn m.sc)/\w'.cell? ⟨w.heap.size,1,none⟩=some (.string a.set)) (first | go_keep | assumption) (first | (go_at_call 36; refine Calls.mono (aO5 (fun _=>True) m.sa m.sn m.sc (m.ms.map (·.x)) a.set _ (by omega) hss.out ho.out) ?_; rintro e w2 ⟨⟨p,b,rfl,hF⟩,b2⟩; replace b2:Below w0.heap.size w0 w2:=(aD _ _).trans b2; have y2:=(b2.cell (p:=⟨tb,i*3+2,none⟩) lt).trans t2; have a3:=(b2.cell (p:=⟨w.heap.size,1,none⟩) la).trans a1; replace hF:=hid hF))
 clear a0 a1 o0 t0 t1 t2 tf lt la lo y2 a3 hss
 have b02:=hid b2
 have hob2:=hid (hob.out.below b2)
 have h2:=hid (h0.out.below b2)
 have hB2:=hid ((hB.out.below hob.out.bel).below b2)
 clear b2 h0
 have hon:Hid (Only (PM ob tb tn tc L) w w2):=hid (Only.of_below hob2.out.bel)
 have hbH:Hid (Below H w w2):=hid (hob2.out.bel.mono hH)
 cases b
 ·have hno:Hid (¬∃ x∈m.ms.map (·.x),x.nm=a.set.data.toList):=hid (fun f=>by have:=(dI ho.out hF.out).2 f; cases this)
  have q0:=hob2.out.bR.cell 0
  have q1:=hob2.out.bR.cell 1
  have q2:=hob2.out.bR.cell 2
  have q3:=hob2.out.bR.cell 3
  have z0:=hob2.out.bR.frozen 0
  have z1:=hob2.out.bR.frozen 1
  have z2:=hob2.out.bR.frozen 2
  have z3:=hob2.out.bR.frozen 3
  simp only[List.getElem?_toArray,List.getElem?_cons_zero,List.getElem?_cons_succ] at q0 q1 q2 q3
  go_wp2_with fail
  refine bodyPost_ret (v:=.agg #[.int .i64 5,.int .i64 0,.slice none 0 0,.slice none 0 0]) (results_cell_row rfl _ _ (w.heap.size+1) _ _ _ _ rfl (dN hob2.out.bR 5 0 none 0 0 none 0 0) Tryz.underlying41 rfl (by kernel_rfl)) rfl ?_
  exact pX h.out h2.out hbH.out hon.out hob2.out.bR (.missing hk1.out hk13.out hno.out) (aH8 hno.out) (.inl ⟨rfl,rfl⟩)
 obtain⟨hpl,hpn⟩:=jR hF.out
 have hpm:p<m.ms.length:=by simpa using hpl
 obtain⟨s,hs⟩:∃ s,m.ms[p]? =some s:=⟨_,List.getElem?_eq_getElem hpm⟩
 have hsx:m.e.sets[p]? =some s.x:=by show (m.ms.map (·.x))[p]? =_; rw[List.getElem?_map,hs]; rfl
 have hsn:s.x.nm=a.set.data.toList:=by
  rw[<-hpn]
  congr 1
  have:=List.getElem?_eq_getElem hpl
  rw[List.getElem?_map,hs] at this
  simpa using this
 obtain⟨hxok,hxh,_⟩:=hok.out.heldX hmI.out (List.mem_of_getElem? hsx)
 replace hs:=hid hs
 replace hsx:=hid hsx
 replace hsn:=hid hsn
 replace hxok:=hid hxok
 replace hxh:=hid hxh
 clear hpn hpl hpm
 have a0:=hob2.out.bA.cell 0
 have a1:=hob2.out.bA.cell 1
 have a2:=hob2.out.bA.cell 2
 have a3:=hob2.out.bA.cell 3
 have a4:=hob2.out.bA.cell 4
 have a5:=hob2.out.bA.cell 5
 have a6:=hob2.out.bA.cell 6
 simp only[List.getElem?_toArray,List.getElem?_cons_zero,List.getElem?_cons_succ] at a0 a1 a2 a3 a4 a5 a6
 have la:=hob2.out.bA.lt
 have n0:ob≠w.heap.size+1:=by have:=h.out.box.lt; omega
 have n0':=n0.symm
 have n1:tb≠w.heap.size+1:=by have:=(h.out.mine.row.lt tb rfl).2; omega
 have n1':=n1.symm
 have n2:w.heap.size≠w.heap.size+1:=by omega
 have n2':=n2.symm
 by_cases hlk:a.kind=11\/a.kind=12
 ·have hlook:((a.kind == 11)=true)\/((a.kind == 11)=false/\(a.kind == 12)=true):=by
   rcases hlk with f | f
   ·exact .inl (by simp[f])
   ·exact .inr ⟨by simp[f],by simp[f]⟩
  have o0:=h2.out.box.cell 0
  simp at o0
  have lo:=h2.out.box.lt
  obtain⟨t0,t1,t2,tf,lt⟩:=h2.out.ten hm.out
  have hst:Hid (aN w2.drew (some ⟨g,0,none⟩) n B):=hid (h2.out.own.store.below (aD _ _))
  obtain⟨SL,hSL⟩:∃ SL,SL=m.ms.map (·.x):=⟨_,rfl⟩
  have hss:Hid (fP (fun _=>True) w2.drew m.sa m.sn SL):=hid (by rw[hSL]; exact(h2.out.sets hm.out).below (aD _ _))
  have hsxL:Hid (SL[p]? =some s.x):=hid (by rw[hSL]; exact hsx.out)
  have hxokL:Hid (aV n B (aO.mk m.key m.quota SL).key s.x):=hid hxok.out
  replace hSL:=hid hSL
  have hbel:Hid (∀ w', Below w2.heap.size w2 w'->OB w w' a ba bn bc):=hid (fun w' b=>hob2.out.below b)
  have hsz2:Hid (w.heap.size+2<=w2.heap.size):=hid (by have:=hob2.out.bR.lt; omega)
  replace hlk:=hid hlk
  rcases hlook with hl1 | ⟨hl1,hl2⟩
  all_goals (
   go_upto_region 12 with fail
   go_region_held3 (fun w'=>w'.cell? ⟨ob,0,none⟩=some (.slice (some ⟨g,0,none⟩) n n)/\w'.cell? ⟨tb,i*3,none⟩=some (.int .i64 m.key)/\w'.cell? ⟨tb,i*3+1,none⟩=some (.int .i64 m.quota)/\w'.cell? ⟨tb,i*3+2,none⟩=some (.slice m.sa m.sn m.sc)/\w'.cell? ⟨w.heap.size,0,none⟩=some (.int .i64 a.kind)/\w'.cell? ⟨w.heap.size,1,none⟩=some (.string a.set)/\w'.cell? ⟨w.heap.size,2,none⟩=some (.string a.file)/\w'.cell? ⟨w.heap.size,3,none⟩=some (.string a.to)/\w'.cell? ⟨w.heap.size,4,none⟩=some (.int .i64 a.pos)/\w'.cell? ⟨w.heap.size,5,none⟩=some (.int .i64 a.num)/\w'.cell? ⟨w.heap.size,6,none⟩=some (.slice ba bn bc)) (first | go_keep | assumption) (first | (go_at_call 37; refine Calls.mono (aL1 (some ⟨g,0,none⟩) n n B ⟨m.key,m.quota,SL⟩ m.sa m.sn m.sc p s.x a ba bn bc _ hst.out hss.out hsxL.out hxokL.out) ?_; rintro e w8 ⟨⟨e8,N8,ya8,yn8,yc8,y8,ln8,lc8,rfl,hrd⟩,b8⟩; replace b8:Below w2.heap.size w2 w8:=(aD _ _).trans b8; have s0:=(b8.cell (p:=⟨ob,0,none⟩) lo).trans o0; have s1:=(b8.cell (p:=⟨tb,i*3,none⟩) lt).trans t0; have s2:=(b8.cell (p:=⟨tb,i*3+1,none⟩) lt).trans t1; have s3:=(b8.cell (p:=⟨tb,i*3+2,none⟩) lt).trans t2; have v0:=(b8.cell (p:=⟨w.heap.size,0,none⟩) la).trans a0; have v1:=(b8.cell (p:=⟨w.heap.size,1,none⟩) la).trans a1; have v2:=(b8.cell (p:=⟨w.heap.size,2,none⟩) la).trans a2; have v3:=(b8.cell (p:=⟨w.heap.size,3,none⟩) la).trans a3; have v4:=(b8.cell (p:=⟨w.heap.size,4,none⟩) la).trans a4; have v5:=(b8.cell (p:=⟨w.heap.size,5,none⟩) la).trans a5; have v6:=(b8.cell (p:=⟨w.heap.size,6,none⟩) la).trans a6; have hob8:=hbel.out w8 b8; have q0:=hob8.bR.cell 0; have q1:=hob8.bR.cell 1; have q2:=hob8.bR.cell 2; have q3:=hob8.bR.cell 3; have z0:=hob8.bR.frozen 0; have z1:=hob8.bR.frozen 1; have z2:=hob8.bR.frozen 2; have z3:=hob8.bR.frozen 3; simp only[List.getElem?_toArray,List.getElem?_cons_zero,List.getElem?_cons_succ] at q0 q1 q2 q3; replace hob8:=hid hob8; replace b8:=hid b8; replace hrd:=hid hrd))
   all_goals (
    go_wp2_with fail
    refine bodyPost_ret (v:=.agg #[.int .i64 e8,.int .i64 N8,.slice ya8 yn8 yc8,.slice y8 ln8 lc8]) (results_cell_row rfl _ _ (w.heap.size+1) _ _ _ _ rfl (dN hob8.out.bR e8 N8 ya8 yn8 yc8 y8 ln8 lc8) Tryz.underlying41 rfl (by kernel_rfl)) rfl ?_
    have hLk:=hrd.out hlk.out
    exact pX h.out (h2.out.below b8.out) (hob8.out.bel.mono hH) (Only.of_below hob8.out.bel) hob8.out.bR (.look p s.x e8 N8 hsx.out hsn.out hlk.out hLk.e hLk.n) ((bK9 (t:=m.e) hlk.out (bF4 ho.out (List.mem_of_getElem? hsx.out) hsn.out) hLk).weaken (fun b _ q=>by have:=hsz2.out; have:w2.drew.heap.size<=b:=q; have:w2.heap.size<=b:=this; omega)) (.inr (h.out.clear hob8.out.bel (fun b y=>y) (.inl h.out.hx)))))
 by_cases hk2:a.kind=2
 ·have hl1:(a.kind == 11)=false:=by simp[hk2]
  have hl2:(a.kind == 12)=false:=by simp[hk2]
  have hl3:(a.kind == 2)=true:=by simp[hk2]
  replace hk2:=hid hk2
  go_wp2_with fail
  refine(wZ H (YB X (w.heap.size+1)) ob g n B tb tn tc L i p m s w2 h2.out hm.out hs.out h3 hxok.out hxh.out).mono ?_
  rintro e w3 ⟨rfl,bH3,on3,g', D,hRD,hFD,hPS⟩
  have hnr:¬PM ob tb tn tc L (w.heap.size+1):=fun f=>by
   rcases f with f | f
   ·have:=h.out.box.lt; omega
   ·have:=(h.out.mine.ge f).2; omega
  have kR:=on3.cells hob2.out.bR hnr
  have q0:=kR.cell 0
  have q1:=kR.cell 1
  have q2:=kR.cell 2
  have q3:=kR.cell 3
  have z0:=kR.frozen 0
  have z1:=kR.frozen 1
  have z2:=kR.frozen 2
  have z3:=kR.frozen 3
  simp only[List.getElem?_toArray,List.getElem?_cons_zero,List.getElem?_cons_succ] at q0 q1 q2 q3
  replace hPS:=hid hPS
  replace hRD:=hid hRD
  replace hFD:=hid hFD
  replace kR:=hid kR
  replace on3:=hid on3
  replace bH3:=hid bH3
  clear hnr a0 a1 a2 a3 a4 a5 a6
  go_wp2_with fail
  refine bodyPost_ret (v:=.agg #[.int .i64 0,.int .i64 0,.slice none 0 0,.slice none 0 0]) (results_cell_row rfl _ _ (w.heap.size+1) _ _ _ _ rfl (dN kR.out 0 0 none 0 0 none 0 0) Tryz.underlying41 rfl (by kernel_rfl)) rfl ?_
  refine pX h.out hPS.out (hbH.out.trans bH3.out) (hon.out.trans on3.out) kR.out ?_ (lK hlk) (.inl ⟨rfl,rfl⟩)
  rw[rP]
  have e:aY.e { m with sn:=m.sn-1,ms:=m.ms.eraseIdx p }=⟨m.e.key,m.e.quota,m.e.sets.eraseIdx p⟩:=by simp[aY.e,List.eraseIdx_eq_take_drop_succ,List.map_take,List.map_drop]
  rw[e]
  exact .destroy p s.x D hsx.out hsn.out hk2.out hRD.out hFD.out
 by_cases hk10:a.kind=10
 ·have hl1:(a.kind == 11)=false:=by simp[hk10]
  have hl2:(a.kind == 12)=false:=by simp[hk10]
  have hl3:(a.kind == 2)=false:=by simp[hk10]
  have hl4:(a.kind == 10)=true:=by simp[hk10]
  replace hk10:=hid hk10
  replace hk2:=hid hk2
  go_wp2_with fail
  refine(aE6 H (YB X (w.heap.size+1)) ob g n B tb tn tc L i p m s a ba bn bc 2000 w2 h2.out hm.out hs.out h3 hao hok.out.refs (by decide) ho.out).mono ?_
  rintro e w3 (⟨e', rfl,he,b3,hcn⟩ | ⟨rfl,bH3,on3,g', C,y,u,a', c', q,⟨_,_,K,_,_,hyok,_,hcf⟩,hNm,hlt3,hFq,hPS⟩)
  ·have hob3:=hob2.out.below b3
   replace hcn:=hid (hcn hxok.out hxh.out)
   have q0:=hob3.bR.cell 0
   have q1:=hob3.bR.cell 1
   have q2:=hob3.bR.cell 2
   have q3:=hob3.bR.cell 3
   have z0:=hob3.bR.frozen 0
   have z1:=hob3.bR.frozen 1
   have z2:=hob3.bR.frozen 2
   have z3:=hob3.bR.frozen 3
   simp only[List.getElem?_toArray,List.getElem?_cons_zero,List.getElem?_cons_succ] at q0 q1 q2 q3
   replace hob3:=hid hob3
   replace b3:=hid b3
   clear a0 a1 a2 a3 a4 a5 a6
   go_wp2_with fail
   refine bodyPost_ret (v:=.agg #[.int .i64 e', .int .i64 0,.slice none 0 0,.slice none 0 0]) (results_cell_row rfl _ _ (w.heap.size+1) _ _ _ _ rfl (dN hob3.out.bR e' 0 none 0 0 none 0 0) Tryz.underlying41 rfl (by kernel_rfl)) rfl ?_
   exact pX h.out (h2.out.below b3.out) (hob3.out.bel.mono hH) (Only.of_below hob3.out.bel) hob3.out.bR (.noclone p s.x e' hsx.out hsn.out hk10.out he hcn.out) (lK hlk) (.inl ⟨rfl,rfl⟩)
  ·have hnr:¬PM ob tb tn tc L (w.heap.size+1):=fun f=>by
    rcases f with f | f
    ·have:=h.out.box.lt; omega
    ·have:=(h.out.mine.ge f).2; omega
   have kR:=on3.cells hob2.out.bR hnr
   have q0:=kR.cell 0
   have q1:=kR.cell 1
   have q2:=kR.cell 2
   have q3:=kR.cell 3
   have z0:=kR.frozen 0
   have z1:=kR.frozen 1
   have z2:=kR.frozen 2
   have z3:=kR.frozen 3
   simp only[List.getElem?_toArray,List.getElem?_cons_zero,List.getElem?_cons_succ] at q0 q1 q2 q3
   replace hPS:=hid hPS
   replace hyok:=hid hyok
   replace hcf:=hid hcf
   replace hFq:=hid hFq
   replace kR:=hid kR
   replace on3:=hid on3
   replace bH3:=hid bH3
   clear hnr a0 a1 a2 a3 a4 a5 a6
   go_wp2_with fail
   refine bodyPost_ret (v:=.agg #[.int .i64 0,.int .i64 0,.slice none 0 0,.slice none 0 0]) (results_cell_row rfl _ _ (w.heap.size+1) _ _ _ _ rfl (dN kR.out 0 0 none 0 0 none 0 0) Tryz.underlying41 rfl (by kernel_rfl)) rfl ?_
   refine pX h.out hPS.out (hbH.out.trans bH3.out) (hon.out.trans on3.out) kR.out ?_ (lK hlk) (.inl ⟨rfl,rfl⟩)
   rw[rP]
   have e:aY.e { m with sa:=a', sn:=m.sn+1,sc:=c', ms:=m.ms.take q++⟨u,y⟩::m.ms.drop q }=⟨m.e.key,m.e.quota,m.e.sets.take q++y::m.e.sets.drop q⟩:=by
    simp[aY.e,List.map_take,List.map_drop]
   rw[e]
   exact .clone p s.x C y q hsx.out hsn.out hk10.out hyok.out hcf.out (by show (m.ms.map (·.x)).length<3; rw[hml.out]; exact hlt3) hFq.out
 have hl1:(a.kind == 11)=false:=by simp; exact fun f=>hlk (.inl f)
 have hl2:(a.kind == 12)=false:=by simp; exact fun f=>hlk (.inr f)
 have hl3:(a.kind == 2)=false:=by simp[hk2]
 have hl4:(a.kind == 10)=false:=by simp[hk10]
 have hoth:Hid (bL1 a):=hid ⟨hk1.out,hk13.out,fun f=>hlk (.inl f),fun f=>hlk (.inr f),hk2,hk10⟩
 have hpure:Hid (∀ D y,aV n B m.key s.x/\dY n B (aG s.x)/\Did n B m.key s.x a 2000 D y->Right n D/\jK n D ⟨m.key,m.quota,(m.ms.map (·.x)).set p y⟩):=hid (fun D y f=>by
  have:=hok.out.changed hmI.out hsx.out hby.out hok.out.refs (qJ a) f.2.2
  exact⟨this.1,this.2.1⟩)
 have hq400:m.quota<=400:=hT.out.qb.2
 replace hk2:=hid hk2
 replace hk10:=hid hk10
 go_wp2_with fail
 refine(zH H (YB X (w.heap.size+1)) ob g n B tb tn tc L i p m s a ba bn bc 2000 w2 h2.out hm.out hs.out h3 hao hok.out.refs hB2.out (by decide) (qJ a) hq400 hpure.out).mono ?_
 have hnr:Hid (¬PM ob tb tn tc L (w.heap.size+1)):=hid (fun f=>by
  rcases f with f | f
  ·have:=h.out.box.lt; omega
  ·have:=(h.out.mine.ge f).2; omega)
 rintro e w3 (⟨e', L', rfl,he,bH3,on3,hPS,hLe,hwhy⟩ | ⟨rfl,bH3,on3,g', D,y,u,⟨_,_,hDid⟩,⟨q,hU,hq⟩,hPS⟩)
 ·have kR:=on3.cells hob2.out.bR hnr.out
  have q0:=kR.cell 0
  have q1:=kR.cell 1
  have q2:=kR.cell 2
  have q3:=kR.cell 3
  have z0:=kR.frozen 0
  have z1:=kR.frozen 1
  have z2:=kR.frozen 2
  have z3:=kR.frozen 3
  simp only[List.getElem?_toArray,List.getElem?_cons_zero,List.getElem?_cons_succ] at q0 q1 q2 q3
  replace hPS:=hid hPS
  replace hLe:=hid hLe
  replace hwhy:=hid hwhy
  replace kR:=hid kR
  replace on3:=hid on3
  replace bH3:=hid bH3
  clear a0 a1 a2 a3 a4 a5 a6
  go_wp2_with fail
  refine bodyPost_ret (v:=.agg #[.int .i64 e', .int .i64 0,.slice none 0 0,.slice none 0 0]) (results_cell_row rfl _ _ (w.heap.size+1) _ _ _ _ rfl (dN kR.out e' 0 none 0 0 none 0 0) Tryz.underlying41 rfl (by kernel_rfl)) rfl ?_
  refine pX h.out hPS.out (hbH.out.trans bH3.out) (hon.out.trans on3.out) kR.out ?_ (lK hlk) (.inl ⟨rfl,rfl⟩)
  rw[hLe.out]
  refine .nochange p s.x e' hsx.out hsn.out hoth.out he ?_
  rcases hwhy.out with f | ⟨f,D,y,q,⟨_,_,f1⟩,f2,f3⟩
  ·exact .inl (f hxok.out hxh.out)
  ·exact .inr ⟨f,D,y,q,f1,f2,f3⟩
 ·have kR:=on3.cells hob2.out.bR hnr.out
  have q0:=kR.cell 0
  have q1:=kR.cell 1
  have q2:=kR.cell 2
  have q3:=kR.cell 3
  have z0:=kR.frozen 0
  have z1:=kR.frozen 1
  have z2:=kR.frozen 2
  have z3:=kR.frozen 3
  simp only[List.getElem?_toArray,List.getElem?_cons_zero,List.getElem?_cons_succ] at q0 q1 q2 q3
  replace hPS:=hid hPS
  replace hDid:=hid hDid
  replace hU:=hid hU
  replace kR:=hid kR
  replace on3:=hid on3
  replace bH3:=hid bH3
  clear a0 a1 a2 a3 a4 a5 a6
  go_wp2_with fail
  refine bodyPost_ret (v:=.agg #[.int .i64 0,.int .i64 0,.slice none 0 0,.slice none 0 0]) (results_cell_row rfl _ _ (w.heap.size+1) _ _ _ _ rfl (dN kR.out 0 0 none 0 0 none 0 0) Tryz.underlying41 rfl (by kernel_rfl)) rfl ?_
  refine pX h.out hPS.out (hbH.out.trans bH3.out) (hon.out.trans on3.out) kR.out ?_ (lK hlk) (.inl ⟨rfl,rfl⟩)
  rw[rP]
  have e:aY.e { m with ms:=m.ms.set p ⟨u,y⟩ }=⟨m.e.key,m.e.quota,m.e.sets.set p y⟩:=by simp[aY.e,List.map_set]
  rw[e]
  exact .change p s.x D y q hsx.out hsn.out hoth.out hDid.out hU.out hq
theorem sP (H:Nat)(X:Nat->Prop)(ob g n:Nat)(B:Nat->Blk)(tb tn tc:Nat)(L:List aY)(i:Nat)(m:aY)(a:aP)(ba:Option Addr)(bn bc:Nat)(w:World)(h:PSt H X w ob g n B (some ⟨tb,0,none⟩) tn tc L)(hm:L[i]? =some m)(hok:aQ n B (L.map aY.e))(hao:a.ok)(hB:aI (fun _=>True) .u8 w ba bn a.bytes):
 Calls Tryz.prog 20 #[.pointer (some ⟨ob,0,none⟩),.pointer (some ⟨tb,i*3,none⟩),.agg #[.int .i64 a.kind,.string a.set,.string a.file,.string a.to,.int .i64 a.pos,.int .i64 a.num,.slice ba bn bc]] w fun e w'=>uU H X w ob n B tb tn tc L i m a e w':=by
 by_cases h1:a.kind=1
 ·exact bH2 H X ob g n B tb tn tc L i m a ba bn bc w h hm hok hao h1
 ·by_cases h13:a.kind=13
  ·exact bJ4 H X ob g n B tb tn tc L i m a ba bn bc w h hm hok hao hB h13
  ·exact bJ5 H X ob g n B tb tn tc L i m a ba bn bc w h hm hok hao hB h1 h13
theorem aA3 (a:Option Addr)(n c:Nat)(ta:Option Addr)(tn tc:Nat)(i:Int)(w:World):
 Calls Tryz.prog 19 #[.agg #[.slice a n c,.slice ta tn tc],.int .i64 i] w fun e w'=>cT2 e (0<=i/\i<(tn:Int))/\Below w.heap.size w w':=by
 have b0:=hid (aA w (.cells #[.slice a n c,.slice ta tn tc] 27))
 have k0:aC _ w.heap.size #[.slice a n c,.slice ta tn tc] 27:=aB w _ _
 go_enter Tryz.func19,Tryz.ntmps19
 go_upto_region 1 with fail
 generalize w.alloc (.cells #[.slice a n c,.slice ta tn tc] 27)=w0 at *
 have p1:=k0.cell 1
 simp at p1
 replace k0:=hid k0
 by_cases h0:0<=i
 ·go_wp2_with fail
  go_ret
  exact⟨⟨_,rfl,by simp[h0]⟩,b0.out⟩
 ·go_wp2_with fail
  go_ret
  exact⟨⟨_,rfl,by simp; omega⟩,b0.out⟩
theorem bA6 {K:Nat}{W w6:World}{g n:Nat}{B:Nat->Blk}{ta:Option Addr}{tn tc:Nat}{L:List aY}(hg:W.heap.size<=g)(hO:Own w6 g n B)(hM:iH W.heap.size (fun b=>K<=b/\b<W.heap.size) w6 ta tn tc L tn)(hr:∀ b,fD (.slice ta tn tc) L tn b->b<g):
 PSt W.heap.size (fun b=>(K<=b/\b<W.heap.size)\/b=w6.heap.size) (w6.alloc (.cells #[.slice (some ⟨g,0,none⟩) n n,.slice ta tn tc] 27)) w6.heap.size g n B ta tn tc L:=by
 have bA:=aA w6 (.cells #[.slice (some ⟨g,0,none⟩) n n,.slice ta tn tc] 27)
 have hO7:=hO.below bA
 have hlt:=hO.lt
 have hs7:(w6.alloc (.cells #[.slice (some ⟨g,0,none⟩) n n,.slice ta tn tc] 27)).heap.size=w6.heap.size+1:=by simp
 refine⟨aB w6 _ _,hO7.lt,?_,hO7.free,⟨fun f=>?_,fun f=>by omega⟩,hM.clear bA (fun b y=>?_),hM.sz,.inr rfl⟩
 ·exact((hO.blocks.weaken (R:=fun b=>g<b/\b<w6.heap.size) (fun b hb q=>⟨q,hb⟩)).below bA).weaken (fun b _ q=>⟨q.1,fun f=>by have:=hr b f; omega,fun f=>by omega⟩)
 ·have:=hr _ f; omega
 ·rcases y with y | y
  ·exact .inl y
  ·exact .inr ⟨by omega,by omega⟩
theorem cG9 {H:Nat}{X:Nat->Prop}{w:World}{ta:Option Addr}{tn tc:Nat}{L:List aY}(h:iH H X w ta tn tc L tn)(h0:0<tn):∃ tb,ta=some ⟨tb,0,none⟩:=by
 rcases h.row.2 with⟨h1,h2⟩ | ⟨q,cap,cur,h1,_⟩
 ·omega
 ·simp only[Value.slice.injEq] at h1
  exact⟨q,h1.1⟩
theorem PSt.pool {H:Nat}{X:Nat->Prop}{w:World}{ob g n:Nat}{B:Nat->Blk}{ta:Option Addr}{tn tc:Nat}{L:List aY}(h:PSt H X w ob g n B ta tn tc L):fE (fun _=>True) w (some ⟨g,0,none⟩) n B ta tn (L.map aY.e):=⟨h.own.store,h.mine.tens⟩
end Go.Proofs.YtjafgnohlkkopaaGreatDoor
