import Derived.Test.YtjafgnohlkkopaaGreatDoorPart29
import Derived.Maps.AppendAt
import Derived.Test.YtjafgnohlkkopaaGreatDoorPart08
set_option linter.unusedVariables false
set_option maxHeartbeats 8000000
set_option maxRecDepth 100000
namespace Go.Proofs.YtjafgnohlkkopaaGreatDoor
open Go.RowKit
def cE7 (e:Ending)(w:World)(n:Nat)(B:Nat->Blk)(tn:Nat)(l:List aP)(i:Int)(a:aM):Prop:=
 (∃ e':Int,e=.returned (.tuple #[.agg #[.slice none 0 0,.slice none 0 0],.agg #[.int .i64 0,.int .i64 0,.slice none 0 0,.slice none 0 0],.int .i64 e'])/\e'≠0/\¬(aR n B l/\0<=i/\i<(tn:Int)))\/
 (aR n B l/\∃ (k:Nat) (t:aP),i=(k:Int)/\l[k]? =some t/\∃ (e1 N:Int) (ya:Option Addr) (yn yc:Nat) (y:Option Addr) (ln lc g:Nat) (D:Nat->Blk) (l':List aP) (ta:Option Addr) (tc:Nat),e=.returned (.tuple #[.agg #[.slice (some ⟨g,0,none⟩) n n,.slice ta tn tc],.agg #[.int .i64 e1,.int .i64 N,.slice ya yn yc,.slice y ln lc],.int .i64 0])/\dU n B l k t a D l' e1 N/\fU (fun _=>True) w (some ⟨g,0,none⟩) n D ta tn l')
def cF1 (K H:Nat)(W wc:World)(ob n:Nat)(B:Nat->Blk)(tb tn tc:Nat)(L:List aY)(i:Nat)(m:aY)(a:aM)(v11:Value):Prop:=
 ∃ (q:Nat) (e1 N:Int) (ya:Option Addr) (yn yc:Nat) (y:Option Addr) (ln lc g':Nat) (D:Nat->Blk) (L':List aY) (X:Nat->Prop),v11=.pointer (some ⟨q,0,none⟩)/\aC wc q #[.int .i64 e1,.int .i64 N,.slice ya yn yc,.slice y ln lc] 41/\W.heap.size<=q/\Below H W wc/\(∀ b,K<=b/\b<H->X b)/\PSt H X wc ob g' n D (some ⟨tb,0,none⟩) tn tc L'/\dU n B (L.map aY.e) i m.e a D (L'.map aY.e) e1 N
theorem cB8 {K H:Nat}{X:Nat->Prop}{W w8:World}{ob n g':Nat}{B D:Nat->Blk}{tb tn tc:Nat}{L L':List aY}{i:Nat}{m:aY}{a:aM}{e1 N:Int}{ya:Option Addr}{yn yc:Nat}{y:Option Addr}{ln lc:Nat}(hH:H<=W.heap.size)(bH:Below H W w8)(hX:∀ b,K<=b/\b<H->X b)(hP:PSt H X w8 ob g' n D (some ⟨tb,0,none⟩) tn tc L')(hc:dU n B (L.map aY.e) i m.e a D (L'.map aY.e) e1 N):cF1 K H W (w8.alloc (.cells #[.int .i64 e1,.int .i64 N,.slice ya yn yc,.slice y ln lc] 41)) ob n B tb tn tc L i m a (.pointer (some ⟨w8.heap.size,0,none⟩)):=
 ⟨_,e1,N,ya,yn,yc,y,ln,lc,g', D,L', X,rfl,aB w8 _ _,bH.size,bH.trans ((aA w8 _).mono (Nat.le_trans hH bH.size)),hX,hP.below (aA _ _),hc⟩
theorem cB9 {K H:Nat}{X:Nat->Prop}{W w8:World}{ob n g' q:Nat}{B D:Nat->Blk}{tb tn tc:Nat}{L L':List aY}{i:Nat}{m:aY}{a:aM}{e1 N:Int}{ya:Option Addr}{yn yc:Nat}{y:Option Addr}{ln lc:Nat}{c0 c1 c2 c3:Value}(ka:aC w8 q #[c0,c1,c2,c3] 41)(hq:X q)(hqo:q≠ob)(hqW:W.heap.size<=q)(hH:H<=W.heap.size)(bH:Below H W w8)(hX:∀ b,K<=b/\b<H->X b)(hP:PSt H X w8 ob g' n D (some ⟨tb,0,none⟩) tn tc L')(hc:dU n B (L.map aY.e) i m.e a D (L'.map aY.e) e1 N):cF1 K H W (cF6 w8 q e1 N ya yn yc y ln lc) ob n B tb tn tc L i m a (.pointer (some ⟨q,0,none⟩)):=
 ⟨q,e1,N,ya,yn,yc,y,ln,lc,g', D,L', X,rfl,dM ka e1 N ya yn yc y ln lc,hqW,bH.trans ((dL _ _ _ _ _ _ _ _ _ _).below (by omega)),hX,hP.kept (dL _ _ _ _ _ _ _ _ _ _) hq hqo,hc⟩
abbrev qI (w:World)(g:Nat)(v0 v1:Value):World:=(w.setCell ⟨g,0,none⟩ v0).setCell ⟨g,1,none⟩ v1
theorem fP (w:World)(g:Nat)(v0 v1:Value):Kept g w (qI w g v0 v1):=
 Kept.setCell (g:=g) (Kept.setCell (g:=g) (Kept.refl _ _) (p:=⟨g,0,none⟩) rfl _) (p:=⟨g,1,none⟩) rfl _
theorem yN {w:World}{g:Nat}{t:TypeId}{c0 c1:Value}(v0 v1:Value)(h:aC w g #[c0,c1] t):aC (qI w g v0 v1) g #[v0,v1] t:=by
 have k:=(h.set 0 v0).set 1 v1
 simp only[List.setIfInBounds_toArray,List.set_cons_succ,List.set_cons_zero] at k
 exact k
abbrev cI6:Obj:=.cells #[.slice none 0 0,.slice none 0 0] 27
structure PB (W w:World)(pa:Option Addr)(n c:Nat)(ta:Option Addr)(tn tc:Nat)(a:aM)(ba:Option Addr)(bn bc:Nat):Prop where
 bel:Below W.heap.size W w
 bP:aC w W.heap.size #[.slice pa n c,.slice ta tn tc] 27
 bA:aC w (W.heap.size+1) #[.int .i64 a.kind,.string a.set,.string a.file,.string a.to,.int .i64 a.pos,.int .i64 a.num,.slice ba bn bc] 30
 r6:aC w (W.heap.size+1+1) #[.slice none 0 0,.slice none 0 0] 27
 r7:aC w (W.heap.size+1+1+1) #[.int .i64 0,.int .i64 0,.slice none 0 0,.slice none 0 0] 41
theorem PB.below {W w w':World}{pa:Option Addr}{n c:Nat}{ta:Option Addr}{tn tc:Nat}{a:aM}{ba:Option Addr}{bn bc:Nat}(h:PB W w pa n c ta tn tc a ba bn bc)(b:Below w.heap.size w w'):PB W w' pa n c ta tn tc a ba bn bc:=⟨Below.tr h.bel b,h.bP.below b,h.bA.below b,h.r6.below b,h.r7.below b⟩
theorem szB (w:World)(o:Obj):(w.alloc o).heap.size=w.heap.size+1:=by simp
theorem bY1 (w:World)(pa:Option Addr)(n c:Nat)(ta:Option Addr)(tn tc:Nat)(a:aM)(ba:Option Addr)(bn bc:Nat):PB w ((((w.alloc (.cells #[.slice pa n c,.slice ta tn tc] 27)).alloc (bY6 a ba bn bc)).alloc cI6).alloc cI5) pa n c ta tn tc a ba bn bc:=by
 have h1:=aB w #[.slice pa n c,.slice ta tn tc] 27
 have h2:=aB (w.alloc (.cells #[.slice pa n c,.slice ta tn tc] 27)) #[.int .i64 a.kind,.string a.set,.string a.file,.string a.to,.int .i64 a.pos,.int .i64 a.num,.slice ba bn bc] 30
 have h3:=aB ((w.alloc (.cells #[.slice pa n c,.slice ta tn tc] 27)).alloc (bY6 a ba bn bc)) #[.slice none 0 0,.slice none 0 0] 27
 have h4:=aB (((w.alloc (.cells #[.slice pa n c,.slice ta tn tc] 27)).alloc (bY6 a ba bn bc)).alloc cI6) #[.int .i64 0,.int .i64 0,.slice none 0 0,.slice none 0 0] 41
 simp only[szB] at h2 h3 h4
 exact⟨Below.tr (Below.tr (Below.tr (aA _ _) (aA _ _)) (aA _ _)) (aA _ _),((h1.below (aA _ _)).below (aA _ _)).below (aA _ _),(h2.below (aA _ _)).below (aA _ _),h3.below (aA _ _),h4⟩
theorem cI3 (Q:Nat->Prop)(pa:Option Addr)(n c:Nat)(B:Nat->Blk)(ta:Option Addr)(tn tc:Nat)(l:List aP)(i:Int)(a:aM)(ba:Option Addr)(bn bc:Nat)(w:World)(hP:fU Q w pa n B ta tn l)(hao:a.ok)(hB:aI (fun _=>True) .u8 w ba bn a.bytes):
 Calls Tryz.prog 13 #[.agg #[.slice pa n c,.slice ta tn tc],.int .i64 i,.agg #[.int .i64 a.kind,.string a.set,.string a.file,.string a.to,.int .i64 a.pos,.int .i64 a.num,.slice ba bn bc]] w fun e w'=>cE7 e w' n B tn l i a/\Below w.heap.size w w':=by
 have hpb:=bY1 w pa n c ta tn tc a ba bn bc
 unfold bY6 cI6 cI5 at hpb
 have hPK:Hid (fU (fun b=>b<w.heap.size) w pa n B ta tn l):=hid ⟨hP.store,hP.tens.weaken (fun b hb _=>hb)⟩
 replace hpb:=hid hpb
 replace hB:=hid hB
 have hP0:=hid (hP.below hpb.out.bel)
 clear hP
 go_enter Tryz.func13,Tryz.ntmps13
 go_upto_region 1 with fail
 generalize (((w.alloc (.cells #[.slice pa n c,.slice ta tn tc] 27)).alloc (.cells #[.int .i64 a.kind,.string a.set,.string a.file,.string a.to,.int .i64 a.pos,.int .i64 a.num,.slice ba bn bc] 30)).alloc (.cells #[.slice none 0 0,.slice none 0 0] 27)).alloc (.cells #[.int .i64 0,.int .i64 0,.slice none 0 0,.slice none 0 0] 41)=w0 at *
 have p0:=hpb.out.bP.cell 0
 have p1:=hpb.out.bP.cell 1
 simp only[List.getElem?_toArray,List.getElem?_cons_zero,List.getElem?_cons_succ] at p0 p1
 go_wp2_with fail
 refine(jN Q pa n c B ta tn tc l w0 hP0.out).mono ?_
 rintro e w1 ⟨⟨e1,rfl,he1⟩,b1⟩
 replace hpb:=hid (hpb.out.below b1)
 replace he1:=hid he1
 clear b1 p0 p1 hP0
 have hbad:Hid (∀ (wx:World) (e':Int),PB w wx pa n c ta tn tc a ba bn bc->e'≠0->¬(aR n B l/\0<=i/\i<(tn:Int))->cE7 (.returned (.tuple #[.agg #[.slice none 0 0,.slice none 0 0],.agg #[.int .i64 0,.int .i64 0,.slice none 0 0,.slice none 0 0],.int .i64 e'])) (cF6 (qI wx (w.heap.size+1+1) (.slice none 0 0) (.slice none 0 0)) (w.heap.size+1+1+1) 0 0 none 0 0 none 0 0) n B tn l i a/\Below w.heap.size w (cF6 (qI wx (w.heap.size+1+1) (.slice none 0 0) (.slice none 0 0)) (w.heap.size+1+1+1) 0 0 none 0 0 none 0 0)):=hid (fun wx e' hx he hno=>⟨.inl ⟨e', rfl,he,hno⟩,(hx.bel.trans ((fP _ _ _ _).below (by omega))).trans ((dL _ _ _ _ _ _ _ _ _ _).below (by omega))⟩)
 have hQ:Hid (∀ wx,PB w wx pa n c ta tn tc a ba bn bc->(wx.cell? ⟨w.heap.size+1+1,0,none⟩=some (.slice none 0 0)/\wx.cell? ⟨w.heap.size+1+1,1,none⟩=some (.slice none 0 0)/\wx.frozen? ⟨w.heap.size+1+1,0,none⟩=false/\wx.frozen? ⟨w.heap.size+1+1,1,none⟩=false)/\(wx.cell? ⟨w.heap.size+1+1+1,0,none⟩=some (.int .i64 0)/\wx.cell? ⟨w.heap.size+1+1+1,1,none⟩=some (.int .i64 0)/\wx.cell? ⟨w.heap.size+1+1+1,2,none⟩=some (.slice none 0 0)/\wx.cell? ⟨w.heap.size+1+1+1,3,none⟩=some (.slice none 0 0))/\(wx.frozen? ⟨w.heap.size+1+1+1,0,none⟩=false/\wx.frozen? ⟨w.heap.size+1+1+1,1,none⟩=false/\wx.frozen? ⟨w.heap.size+1+1+1,2,none⟩=false/\wx.frozen? ⟨w.heap.size+1+1+1,3,none⟩=false)):=hid (fun wx hx=>by
  have q0:=hx.r6.cell 0
  have q1:=hx.r6.cell 1
  have y0:=hx.r7.cell 0
  have y1:=hx.r7.cell 1
  have y2:=hx.r7.cell 2
  have y3:=hx.r7.cell 3
  simp only[List.getElem?_toArray,List.getElem?_cons_zero,List.getElem?_cons_succ] at q0 q1 y0 y1 y2 y3
  exact⟨⟨q0,q1,hx.r6.frozen 0,hx.r6.frozen 1⟩,⟨y0,y1,y2,y3⟩,hx.r7.frozen 0,hx.r7.frozen 1,hx.r7.frozen 2,hx.r7.frozen 3⟩)
 have n67:w.heap.size+1+1≠w.heap.size+1+1+1:=by omega
 have n76:=n67.symm
 by_cases hz:e1=0
 case neg=>
  obtain⟨⟨q0,q1,z0,z1⟩,⟨y0,y1,y2,y3⟩,x0,x1,x2,x3⟩:=hQ.out w1 hpb.out
  have hze:(e1 != 0)=true:=by simp[hz]
  go_wp2_with fail
  refine bodyPost_ret (v:=.tuple #[.agg #[.slice none 0 0,.slice none 0 0],.agg #[.int .i64 0,.int .i64 0,.slice none 0 0,.slice none 0 0],.int .i64 e1]) (by rw[aQ rfl]; go_simp) rfl ?_
  exact hbad.out w1 e1 hpb.out hz (fun f=>hz (he1.out.2 f.1))
 subst hz
 have hok:Hid (aR n B l):=hid (he1.out.1 rfl)
 have p0:=hpb.out.bP.cell 0
 have p1:=hpb.out.bP.cell 1
 simp only[List.getElem?_toArray,List.getElem?_cons_zero,List.getElem?_cons_succ] at p0 p1
 go_wp2_with fail
 refine(aA5 pa n c ta tn tc i w1).mono ?_
 rintro e w2 ⟨⟨bb,rfl,hbb⟩,b2⟩
 replace hpb:=hid (hpb.out.below b2)
 clear b2 p0 p1
 cases bb
 case false=>
  have hno:Hid (¬(0<=i/\i<(tn:Int))):=hid (by simpa using hbb)
  obtain⟨⟨q0,q1,z0,z1⟩,⟨y0,y1,y2,y3⟩,x0,x1,x2,x3⟩:=hQ.out w2 hpb.out
  clear hbb
  go_wp2_with fail
  refine bodyPost_ret (v:=.tuple #[.agg #[.slice none 0 0,.slice none 0 0],.agg #[.int .i64 0,.int .i64 0,.slice none 0 0,.slice none 0 0],.int .i64 5]) (by rw[aQ rfl]; go_simp) rfl ?_
  exact hbad.out w2 5 hpb.out (by omega) (fun f=>hno.out f.2)
 have hyes:0<=i/\i<(tn:Int):=by simpa using hbb
 obtain⟨k,rfl⟩:∃ k:Nat,i=(k:Int):=⟨i.toNat,by omega⟩
 have hkt:Hid (k<tn):=hid (by omega)
 clear hyes hbb hbad
 have p0:=hpb.out.bP.cell 0
 have p1:=hpb.out.bP.cell 1
 simp only[List.getElem?_toArray,List.getElem?_cons_zero,List.getElem?_cons_succ] at p0 p1
 go_wp2_with fail
 refine(uO w.heap.size pa n c B ta tn tc l w2 hpb.out.bel.size (hPK.out.below hpb.out.bel) hok.out).mono ?_
 rintro e w3 ⟨⟨g,ta', tc', L,rfl,hg,hO,hM,hL,hr⟩,b3⟩
 replace b3:=hid b3
 replace hg:=hid hg
 replace hO:=hid hO
 replace hM:=hid hM
 replace hL:=hid hL
 replace hr:=hid hr
 clear p0 p1
 go_upto_region 7 with fail
 have hz7:(w3.alloc (.cells #[.slice (some ⟨g,0,none⟩) n n,.slice ta' tn tc'] 27)).heap.size=w3.heap.size+1:=by simp
 obtain⟨tb,rfl⟩:=cF5 hM.out (by have:=hkt.out; omega)
 have hPS:=hid (aZ7 hg.out hO.out hM.out hr.out)
 have hB7:=hid (aA w3 (.cells #[.slice (some ⟨g,0,none⟩) n n,.slice (some ⟨tb,0,none⟩) tn tc'] 27))
 generalize w3.alloc (.cells #[.slice (some ⟨g,0,none⟩) n n,.slice (some ⟨tb,0,none⟩) tn tc'] 27)=w7 at *
 have hpb3:=hid (hpb.out.below b3.out)
 have hpb7:=hid (hpb3.out.below hB7.out)
 obtain⟨m,hm⟩:∃ m,L[k]? =some m:=by
  have hlen:=hM.out.len
  exact⟨_,List.getElem?_eq_getElem (by have:=hkt.out; omega)⟩
 replace hm:=hid hm
 have hok':Hid (aR n B (L.map aY.e)):=hid (by rw[hL.out]; exact hok.out)
 have l23:=hid b3.out.size
 have o1:=hPS.out.box.cell 1
 have lo:=hPS.out.box.lt
 have a0:=hpb7.out.bA.cell 0
 have a1:=hpb7.out.bA.cell 1
 have a2:=hpb7.out.bA.cell 2
 have a3:=hpb7.out.bA.cell 3
 have a4:=hpb7.out.bA.cell 4
 have a5:=hpb7.out.bA.cell 5
 have a6:=hpb7.out.bA.cell 6
 simp only[List.getElem?_toArray,List.getElem?_cons_zero,List.getElem?_cons_succ] at o1 a0 a1 a2 a3 a4 a5 a6
 have la:w.heap.size+1<w2.heap.size:=hpb.out.bA.lt
 have n0:w3.heap.size≠w7.heap.size:=by omega
 have n0':=n0.symm
 have n1:w.heap.size+1≠w7.heap.size:=by have:=l23.out; omega
 have n1':=n1.symm
 have hk0:(0:Int)<=(k:Int):=by omega
 have hkI:(k:Int)<(tn:Int):=by have:=hkt.out; omega
 have bA7:=aA w7 cI5
 have Hb7:Hid (∀ wx,Below w7.heap.size w7 wx->Below w2.heap.size w7 wx):=hid (fun wx b=>b.mono (by have:=l23.out; omega))
 have HBa:Hid (Below w7.heap.size w7 w7.drew):=hid (aD _ _)
 have HBb:Hid (Below w7.heap.size w7 (w7.alloc (.cells #[.int .i64 0,.int .i64 0,.slice none 0 0,.slice none 0 0] 41)).drew):=hid (Below.tr (aA _ _) (aD _ _))
 have HPa:=hid (hPS.out.below HBa.out)
 have HPb:=hid (hPS.out.clear (Y:=fun b=>((w.heap.size<=b/\b<w2.heap.size)\/b=w3.heap.size)\/b=w7.heap.size) HBb.out (fun b y=>y.elim .inl (fun y=>.inr ⟨by omega,by show b<(w7.alloc _).heap.size; rw[szB]; omega⟩)) (.inl (.inr rfl)))
 have hN7:=(hB.out.below hpb7.out.bel)
 have HNa:=hid (hN7.below HBa.out)
 have HNb:=hid (hN7.below HBb.out)
 have Ka:Hid (aC (w7.alloc (.cells #[.int .i64 0,.int .i64 0,.slice none 0 0,.slice none 0 0] 41)).drew w7.heap.size #[.int .i64 0,.int .i64 0,.slice none 0 0,.slice none 0 0] 41):=hid ((aB w7 _ _).below (aD _ _))
 have HnP:Hid (¬PM w3.heap.size tb tn tc' L w7.heap.size):=hid (fun f=>by
  rcases f with f | f
  ·exact n0 f.symm
  ·exact HPb.out.mine.rx _ f (.inr rfl))
 have Lb7:Hid (w.heap.size+1<w7.heap.size):=hid (by have:=l23.out; omega)
 replace hz7:=hid hz7
 have Hs:Hid (w2.heap.size<=w7.heap.size):=hid (by have:=l23.out; have:=hz7.out; omega)
 clear hN7 bA7
 replace la:=hid la
 go_cut [11] from 34 (fun v11 wc=>cF1 w.heap.size w2.heap.size w7 wc w3.heap.size n B tb tn tc' L k m a v11)
 case first=>
  replace la:=la.out
  go_region_held3 (fun w'=>w'.cell? ⟨w3.heap.size,1,none⟩=some (.slice (some ⟨tb,0,none⟩) tn tc')/\w'.cell? ⟨w.heap.size+1,0,none⟩=some (.int .i64 a.kind)/\w'.cell? ⟨w.heap.size+1,1,none⟩=some (.string a.set)/\w'.cell? ⟨w.heap.size+1,2,none⟩=some (.string a.file)/\w'.cell? ⟨w.heap.size+1,3,none⟩=some (.string a.to)/\w'.cell? ⟨w.heap.size+1,4,none⟩=some (.int .i64 a.pos)/\w'.cell? ⟨w.heap.size+1,5,none⟩=some (.int .i64 a.num)/\w'.cell? ⟨w.heap.size+1,6,none⟩=some (.slice ba bn bc)) (first | go_keep | assumption) (first | (go_at_call 20; with_reducible refine Calls.mono (sU w2.heap.size (fun b=>(w.heap.size<=b/\b<w2.heap.size)\/b=w3.heap.size) w3.heap.size g n B tb tn tc' L k m a ba bn bc (w7.drew) HPa.out hm.out hok'.out hao HNa.out) ?_; rintro e w8 hret; unfold uR at hret; obtain⟨e1,N,ya,yn,yc,y,ln,lc,g', D,L', rfl,bH,on,hP8,hc,_⟩:=hret; replace bH:Below w2.heap.size w7 w8:=(Hb7.out _ HBa.out).trans bH; have o1:=hP8.box.cell 1; simp only[List.getElem?_toArray,List.getElem?_cons_zero,List.getElem?_cons_succ] at o1; have s0:=(bH.cell (p:=⟨w.heap.size+1,0,none⟩) la).trans a0; have s1:=(bH.cell (p:=⟨w.heap.size+1,1,none⟩) la).trans a1; have s2:=(bH.cell (p:=⟨w.heap.size+1,2,none⟩) la).trans a2; have s3:=(bH.cell (p:=⟨w.heap.size+1,3,none⟩) la).trans a3; have s4:=(bH.cell (p:=⟨w.heap.size+1,4,none⟩) la).trans a4; have s5:=(bH.cell (p:=⟨w.heap.size+1,5,none⟩) la).trans a5; have s6:=(bH.cell (p:=⟨w.heap.size+1,6,none⟩) la).trans a6; have m0:w3.heap.size≠w8.heap.size:=Nat.ne_of_lt hP8.box.lt; have m0':=m0.symm; have m1:w.heap.size+1≠w8.heap.size:=Nat.ne_of_lt (Nat.lt_of_lt_of_le Lb7.out bH.size); have m1':=m1.symm; clear on; replace bH:=hid bH; replace hP8:=hid hP8; replace hc:=hid hc) | (go_at_call 20; with_reducible refine Calls.mono (sU w2.heap.size (fun b=>((w.heap.size<=b/\b<w2.heap.size)\/b=w3.heap.size)\/b=w7.heap.size) w3.heap.size g n B tb tn tc' L k m a ba bn bc ((w7.alloc (.cells #[.int .i64 0,.int .i64 0,.slice none 0 0,.slice none 0 0] 41)).drew) HPb.out hm.out hok'.out hao HNb.out) ?_; rintro e w8 hret; unfold uR at hret; obtain⟨e1,N,ya,yn,yc,y,ln,lc,g', D,L', rfl,bH,on,hP8,hc,_⟩:=hret; replace bH:Below w2.heap.size w7 w8:=(Hb7.out _ HBb.out).trans bH; have o1:=hP8.box.cell 1; simp only[List.getElem?_toArray,List.getElem?_cons_zero,List.getElem?_cons_succ] at o1; have s0:=(bH.cell (p:=⟨w.heap.size+1,0,none⟩) la).trans a0; have s1:=(bH.cell (p:=⟨w.heap.size+1,1,none⟩) la).trans a1; have s2:=(bH.cell (p:=⟨w.heap.size+1,2,none⟩) la).trans a2; have s3:=(bH.cell (p:=⟨w.heap.size+1,3,none⟩) la).trans a3; have s4:=(bH.cell (p:=⟨w.heap.size+1,4,none⟩) la).trans a4; have s5:=(bH.cell (p:=⟨w.heap.size+1,5,none⟩) la).trans a5; have s6:=(bH.cell (p:=⟨w.heap.size+1,6,none⟩) la).trans a6; have ka:=on.cells Ka.out HnP.out; have t0:=ka.cell 0; have t1:=ka.cell 1; have t2:=ka.cell 2; have t3:=ka.cell 3; simp only[List.getElem?_toArray,List.getElem?_cons_zero,List.getElem?_cons_succ] at t0 t1 t2 t3; have f0:=ka.frozen 0; have f1:=ka.frozen 1; have f2:=ka.frozen 2; have f3:=ka.frozen 3; replace ka:=hid ka; have m0:w3.heap.size≠w8.heap.size:=Nat.ne_of_lt hP8.box.lt; have m0':=m0.symm; have m1:w.heap.size+1≠w8.heap.size:=Nat.ne_of_lt (Nat.lt_of_lt_of_le Lb7.out bH.size); have m1':=m1.symm; clear on; replace bH:=hid bH; replace hP8:=hid hP8; replace hc:=hid hc))
  all_goals (go_wp2_with fail; go_meet; first
   | with_reducible exact cB8 Hs.out bH.out (fun b y=>.inl y) hP8.out hc.out
   | with_reducible exact cB9 ka.out (.inr rfl) n0' (Nat.le_refl _) Hs.out bH.out (fun b y=>.inl (.inl y)) hP8.out hc.out)
 case rest=>
  have hcut':=hcut
  clear hcut
  unfold cF1 at hcut'
  obtain⟨q,e1,N,ya,yn,yc,y,ln,lc,g', D,L', X,rfl,kq,hqW,bC,hX,hP,hc⟩:=hcut'
  have hpbC:=hid (hpb.out.below (b3.out.trans ((hB7.out.mono l23.out).trans bC)))
  obtain⟨⟨q0,q1,z0,z1⟩,⟨y0,y1,y2,y3⟩,x0,x1,x2,x3⟩:=hQ.out wc hpbC.out
  have c0:=hP.box.cell 0
  have c1:=hP.box.cell 1
  have t0:=kq.cell 0
  have t1:=kq.cell 1
  have t2:=kq.cell 2
  have t3:=kq.cell 3
  simp only[List.getElem?_toArray,List.getElem?_cons_zero,List.getElem?_cons_succ] at c0 c1 t0 t1 t2 t3
  have l6:w.heap.size+1+1+1<w2.heap.size:=hpb.out.r7.lt
  have e1a:w.heap.size+1+1≠w3.heap.size:=by have:=l23.out; omega
  have e1b:=e1a.symm
  have e2a:w.heap.size+1+1+1≠w3.heap.size:=by have:=l23.out; omega
  have e2b:=e2a.symm
  have e3a:w.heap.size+1+1≠q:=by have:=l23.out; have:=hz7.out; omega
  have e3b:=e3a.symm
  have e4a:w.heap.size+1+1+1≠q:=by have:=l23.out; have:=hz7.out; omega
  have e4b:=e4a.symm
  have hX6:Hid (X (w.heap.size+1+1)):=hid (hX _ (by omega))
  have hX7:Hid (X (w.heap.size+1+1+1)):=hid (hX _ (by omega))
  have hfin:Hid (∀ wx,PSt w2.heap.size X wx w3.heap.size g' n D (some ⟨tb,0,none⟩) tn tc' L'->Below w.heap.size w wx->cE7 (.returned (.tuple #[.agg #[.slice (some ⟨g', 0,none⟩) n n,.slice (some ⟨tb,0,none⟩) tn tc'],.agg #[.int .i64 e1,.int .i64 N,.slice ya yn yc,.slice y ln lc],.int .i64 0])) wx n B tn l k a/\Below w.heap.size w wx):=hid (fun wx hPx bx=>⟨.inr ⟨hok.out,k,m.e,rfl,by rw[<-hL.out,List.getElem?_map,hm.out]; rfl,e1,N,ya,yn,yc,y,ln,lc,g', D,L'.map aY.e,_,tc', rfl,by have:=hc; rw[hL.out] at this; exact this,hPx.pool⟩,bx⟩)
  replace hP:=hid hP
  replace kq:=hid kq
  replace bC:=hid bC
  replace hX:=hid hX
  replace hc:=hid hc
  replace hqW:=hid hqW
  replace l6:=hid l6
  clear hQ
  go_upto_region 8 with fail
  go_region
  go_wp2_with fail
  refine bodyPost_ret (v:=.tuple #[.agg #[.slice (some ⟨g', 0,none⟩) n n,.slice (some ⟨tb,0,none⟩) tn tc'],.agg #[.int .i64 e1,.int .i64 N,.slice ya yn yc,.slice y ln lc],.int .i64 0]) (by rw[aQ rfl]; go_simp) rfl ?_
  exact hfin.out (cF6 (qI wc (w.heap.size+1+1) _ _) (w.heap.size+1+1+1) e1 N ya yn yc y ln lc).drew (((hP.out.kept (fP _ _ _ _) hX6.out e1a).kept (dL _ _ _ _ _ _ _ _ _ _) hX7.out e2a).below (aD _ _)) (((hpbC.out.bel.trans ((fP _ _ _ _).below (by omega))).trans ((dL _ _ _ _ _ _ _ _ _ _).below (by omega))).trans (aD _ _))
structure lG where
 e:Int
 N:Int
 ya:Option Addr
 yn:Nat
 yc:Nat
 y:Option Addr
 ln:Nat
 lc:Nat
def lG.zero:lG:=⟨0,0,none,0,0,none,0,0⟩
def lH (w:World)(rb n:Nat)(v:Nat->lG):Prop:=
 ∃ cs:Array Value,aC w rb cs 41/\cs.size=n*4/\∀ i,i<n->cs[i*4]? =some (.int .i64 (v i).e)/\cs[i*4+1]? =some (.int .i64 (v i).N)/\cs[i*4+2]? =some (.slice (v i).ya (v i).yn (v i).yc)/\cs[i*4+3]? =some (.slice (v i).y (v i).ln (v i).lc)
theorem lH.lt {w:World}{rb n:Nat}{v:Nat->lG}(h:lH w rb n v):rb<w.heap.size:=by
 obtain⟨cs,k,_⟩:=h
 exact k.lt
theorem lH.below {w w':World}{rb n:Nat}{v:Nat->lG}(h:lH w rb n v)(b:Below w.heap.size w w'):lH w' rb n v:=by
 obtain⟨cs,k,h1,h2⟩:=h
 exact⟨cs,k.below b,h1,h2⟩
theorem lH.only {M:Nat->Prop}{w w':World}{rb n:Nat}{v:Nat->lG}(h:lH w rb n v)(on:Only M w w')(hm:¬M rb):lH w' rb n v:=by
 obtain⟨cs,k,h1,h2⟩:=h
 exact⟨cs,on.cells k hm,h1,h2⟩
theorem lH.cells {w:World}{rb n:Nat}{v:Nat->lG}(h:lH w rb n v){i:Nat}(hi:i<n):w.cell? ⟨rb,i*4,none⟩=some (.int .i64 (v i).e)/\w.cell? ⟨rb,i*4+1,none⟩=some (.int .i64 (v i).N)/\w.cell? ⟨rb,i*4+2,none⟩=some (.slice (v i).ya (v i).yn (v i).yc)/\w.cell? ⟨rb,i*4+3,none⟩=some (.slice (v i).y (v i).ln (v i).lc):=by
 obtain⟨cs,k,h1,h2⟩:=h
 obtain⟨a,b,c,d⟩:=h2 i hi
 exact⟨(k.cell _).trans a,(k.cell _).trans b,(k.cell _).trans c,(k.cell _).trans d⟩
theorem lH.free {w:World}{rb n:Nat}{v:Nat->lG}(h:lH w rb n v)(i:Nat):w.frozen? ⟨rb,i,none⟩=false:=by
 obtain⟨cs,k,h1,h2⟩:=h
 exact k.frozen i
abbrev cQ8 (w:World)(rb i:Nat)(e1 N:Int)(ya:Option Addr)(yn yc:Nat)(y:Option Addr)(ln lc:Nat):World:=(((w.setCell ⟨rb,i*4,none⟩ (.int .i64 e1)).setCell ⟨rb,i*4+1,none⟩ (.int .i64 N)).setCell ⟨rb,i*4+2,none⟩ (.slice ya yn yc)).setCell ⟨rb,i*4+3,none⟩ (.slice y ln lc)
theorem bR7 (w:World)(rb i:Nat)(e1 N:Int)(ya:Option Addr)(yn yc:Nat)(y:Option Addr)(ln lc:Nat):Kept rb w (cQ8 w rb i e1 N ya yn yc y ln lc):=
 Kept.setCell (g:=rb) (Kept.setCell (g:=rb) (Kept.setCell (g:=rb) (Kept.setCell (g:=rb) (Kept.refl _ _) (p:=⟨rb,i*4,none⟩) rfl _) (p:=⟨rb,i*4+1,none⟩) rfl _) (p:=⟨rb,i*4+2,none⟩) rfl _) (p:=⟨rb,i*4+3,none⟩) rfl _
def bN8 (v:Nat->lG)(i:Nat)(x:lG):Nat->lG:=fun j=>if j=i then x else v j
theorem jZ (v:Nat->lG)(i:Nat)(x:lG):bN8 v i x i=x:=by simp[bN8]
theorem kD (v:Nat->lG){i j:Nat}(x:lG)(h:j≠i):bN8 v i x j=v j:=by simp[bN8,h]
theorem lH.put {w:World}{rb n:Nat}{v:Nat->lG}(h:lH w rb n v){i:Nat}(hi:i<n)(e1 N:Int)(ya:Option Addr)(yn yc:Nat)(y:Option Addr)(ln lc:Nat):lH (cQ8 w rb i e1 N ya yn yc y ln lc) rb n (bN8 v i ⟨e1,N,ya,yn,yc,y,ln,lc⟩):=by
 obtain⟨cs,k,h1,h2⟩:=h
 have k':=(((k.set (i*4) (.int .i64 e1)).set (i*4+1) (.int .i64 N)).set (i*4+2) (.slice ya yn yc)).set (i*4+3) (.slice y ln lc)
 refine⟨_,k', by simp[h1],fun j hj=>?_⟩
 by_cases e:j=i
 ·subst e
  rw[jZ]
  simp only[Array.getElem?_setIfInBounds,Array.size_setIfInBounds]
  refine⟨?_,?_,?_,?_⟩<;>(simp; omega)
 ·rw[kD v _ e]
  obtain⟨a,b,c,d⟩:=h2 j hj
  simp only[Array.getElem?_setIfInBounds,Array.size_setIfInBounds]
  refine⟨?_,?_,?_,?_⟩
  ·rw[if_neg (by omega),if_neg (by omega),if_neg (by omega),if_neg (by omega)]; exact a
  ·rw[if_neg (by omega),if_neg (by omega),if_neg (by omega),if_neg (by omega)]; exact b
  ·rw[if_neg (by omega),if_neg (by omega),if_neg (by omega),if_neg (by omega)]; exact c
  ·rw[if_neg (by omega),if_neg (by omega),if_neg (by omega),if_neg (by omega)]; exact d
theorem lH.putE {w:World}{rb n:Nat}{v:Nat->lG}(h:lH w rb n v){i:Nat}(hi:i<n)(e1:Int):lH (w.setCell ⟨rb,i*4,none⟩ (.int .i64 e1)) rb n (bN8 v i { v i with e:=e1 }):=by
 obtain⟨cs,k,h1,h2⟩:=h
 have k':=(k.set (i*4) (.int .i64 e1))
 refine⟨_,k', by simp[h1],fun j hj=>?_⟩
 by_cases e:j=i
 ·subst e
  rw[jZ]
  obtain⟨a,b,c,d⟩:=h2 j hj
  simp only[Array.getElem?_setIfInBounds]
  refine⟨by simp; omega,?_,?_,?_⟩
  ·rw[if_neg (by omega)]; exact b
  ·rw[if_neg (by omega)]; exact c
  ·rw[if_neg (by omega)]; exact d
 ·rw[kD v _ e]
  obtain⟨a,b,c,d⟩:=h2 j hj
  simp only[Array.getElem?_setIfInBounds]
  refine⟨?_,?_,?_,?_⟩
  ·rw[if_neg (by omega)]; exact a
  ·rw[if_neg (by omega)]; exact b
  ·rw[if_neg (by omega)]; exact c
  ·rw[if_neg (by omega)]; exact d
structure jJ where
 e:Int
 N:Int
 S:List ByteArray
 b:List Int
def jJ.zero:jJ:=⟨0,0,[],[]⟩
def lG.has (x:lG)(b:Nat):Prop:=(0<x.yn/\∃ off,x.ya=some ⟨b,off,none⟩)\/(0<x.ln/\∃ off,x.y=some ⟨b,off,none⟩)
structure kY (Q:Nat->Prop)(w:World)(x:lG)(d:jJ):Prop where
 e:x.e=d.e
 n:x.N=d.N
 lists:mQ Q w d.S d.b x.ya x.yn x.yc x.y x.ln x.lc
theorem kY.self {Q:Nat->Prop}{w:World}{x:lG}{d:jJ}(h:kY Q w x d):kY (fun b=>Q b/\x.has b) w x d:=by
 refine⟨h.e,h.n,⟨h.lists.names.1,fun h0=>?_⟩,⟨h.lists.bytes.1,h.lists.bytes.2.1,fun h0=>?_⟩,h.lists.caps⟩
 ·obtain⟨b,off,e,h1,h2,h3⟩:=h.lists.names.2 h0
  exact⟨b,off,e,h1,⟨h2,.inl ⟨h0,off,e⟩⟩,h3⟩
 ·obtain⟨b,off,e,h1,h2,h3⟩:=h.lists.bytes.2.2 h0
  exact⟨b,off,e,h1,⟨h2,.inr ⟨h0,off,e⟩⟩,h3⟩
theorem kY.where {Q:Nat->Prop}{w:World}{x:lG}{d:jJ}(h:kY Q w x d){b:Nat}(hb:x.has b):Q b/\b<w.heap.size:=by
 rcases hb with⟨h0,off,e⟩ | ⟨h0,off,e⟩
 ·obtain⟨c,o,e2,h1,h2,h3⟩:=h.lists.names.2 h0
  rw[e] at e2
  simp only[Option.some.injEq,Addr.mk.injEq] at e2
  obtain⟨rfl,_⟩:=e2
  exact⟨h2,h1⟩
 ·obtain⟨c,o,e2,h1,h2,h3⟩:=h.lists.bytes.2.2 h0
  rw[e] at e2
  simp only[Option.some.injEq,Addr.mk.injEq] at e2
  obtain⟨rfl,_⟩:=e2
  exact⟨h2,h1⟩
theorem kY.weaken {Q R:Nat->Prop}{w:World}{x:lG}{d:jJ}(h:kY Q w x d)(hq:∀ b,b<w.heap.size->Q b->R b):kY R w x d:=⟨h.e,h.n,h.lists.weaken hq⟩
theorem kY.below {Q:Nat->Prop}{w w':World}{x:lG}{d:jJ}(h:kY Q w x d)(b:Below w.heap.size w w'):kY Q w' x d:=⟨h.e,h.n,h.lists.below b⟩
theorem kY.kept {Q:Nat->Prop}{w w':World}{x:lG}{d:jJ}{g:Nat}(h:kY Q w x d)(hq:∀ b,Q b->b≠g)(k:Kept g w w'):kY Q w' x d:=⟨h.e,h.n,h.lists.kept hq k⟩
theorem kY.only {M Q:Nat->Prop}{w w':World}{x:lG}{d:jJ}(h:kY Q w x d)(on:Only M w w')(hq:∀ b,Q b->¬M b):kY Q w' x d:=⟨h.e,h.n,h.lists.only on hq⟩
theorem vD {b:Nat}(h:lG.zero.has b):False:=by
 rcases h with⟨h,_⟩ | ⟨h,_⟩<;>exact absurd h (by decide)
inductive gN (n:Nat)(B:Nat->Blk)(l:List aP):List (Int×aM)->(Nat->Blk)->List aP->List jJ->Prop
 | nil:gN n B l [] B l []
 | miss (xs:List (Int×aM)) (D:Nat->Blk) (m:List aP) (ys:List jJ) (i:Int) (a:aM):gN n B l xs D m ys->¬(0<=i/\i<(m.length:Int))->gN n B l (xs++[(i,a)]) D m (ys++[⟨5,0,[],[]⟩])
 | step (xs:List (Int×aM)) (D:Nat->Blk) (m:List aP) (ys:List jJ) (k:Nat) (a:aM) (t:aP) (D':Nat->Blk) (m':List aP) (e1 N:Int):gN n B l xs D m ys->m[k]? =some t->Bytes a.bytes->dU n D m k t a D' m' e1 N->gN n B l (xs++[((k:Int),a)]) D' m' (ys++[⟨e1,N,aH3 t a,aQ3 D t a⟩])
abbrev XR (X:Nat->Prop)(v:Nat->lG):Nat->Prop:=fun b=>X b\/∃ i,(v i).has b
structure bV8 (H:Nat)(X:Nat->Prop)(W w:World)(ob rb n q:Nat)(B:Nat->Blk)(l:List aP)(xs:List (Int×aM))(ta:Option Addr)(tn tc:Nat)(k g:Nat)(D:Nat->Blk)(L:List aY)(v:Nat->lG)(ys:List jJ):Prop where
 bel:Below H W w
 st:PSt H (XR X v) w ob g n D ta tn tc L
 ans:lH w rb q v
 todo:∀ i,k<=i->v i=lG.zero
 ok:aR n D (L.map aY.e)
 runs:gN n B l (xs.take k) D (L.map aY.e) ys
 len:ys.length=k
 told:∀ i,i<k->kY (fun b=>rb<b) w (v i) (ys.getD i jJ.zero)
 xrb:X rb/\ob<rb/\H<=rb
theorem bV8.below {H:Nat}{X:Nat->Prop}{W w w':World}{ob rb n q:Nat}{B:Nat->Blk}{l:List aP}{xs:List (Int×aM)}{ta:Option Addr}{tn tc k g:Nat}{D:Nat->Blk}{L:List aY}{v:Nat->lG}{ys:List jJ}(h:bV8 H X W w ob rb n q B l xs ta tn tc k g D L v ys)(b:Below w.heap.size w w'):bV8 H X W w' ob rb n q B l xs ta tn tc k g D L v ys:=
 ⟨h.bel.trans (b.mono h.st.mine.sz),h.st.below b,h.ans.below b,h.todo,h.ok,h.runs,h.len,fun i hi=>(h.told i hi).below b,h.xrb⟩
theorem aY4 {xs:List (Int×aM)}{k:Nat}{x:Int×aM}(h:xs[k]? =some x):xs.take (k+1)=xs.take k++[x]:=by
 obtain⟨h1,rfl⟩:=List.getElem?_eq_some_iff.1 h
 rw[List.take_add_one,List.getElem?_eq_getElem h1]
 rfl
theorem aN8 {ys:List jJ}{k i:Nat}(d:jJ)(hl:ys.length=k):(ys++[d]).getD i jJ.zero=if i=k then d else ys.getD i jJ.zero:=by
 subst hl
 by_cases e:i=ys.length
 ·subst e; simp[List.getD]
 ·rw[if_neg e]
  rcases Nat.lt_or_ge i ys.length with h | h
  ·simp[List.getD,List.getElem?_append_left h]
  ·have h1:(ys++[d])[i]? =none:=List.getElem?_eq_none (by simp; omega)
   have h2:ys[i]? =none:=List.getElem?_eq_none h
   simp[List.getD,h1,h2]
theorem bV8.miss {H:Nat}{X:Nat->Prop}{W w:World}{ob rb n q:Nat}{B:Nat->Blk}{l:List aP}{xs:List (Int×aM)}{ta:Option Addr}{tn tc k g:Nat}{D:Nat->Blk}{L:List aY}{v:Nat->lG}{ys:List jJ}{i:Int}{a:aM}(h:bV8 H X W w ob rb n q B l xs ta tn tc k g D L v ys)(hk:k<q)(hx:xs[k]? =some (i,a))(hno:¬(0<=i/\i<(tn:Int))):bV8 H X W (w.setCell ⟨rb,k*4,none⟩ (.int .i64 5)) ob rb n q B l xs ta tn tc (k+1) g D L (bN8 v k { v k with e:=5 }) (ys++[⟨5,0,[],[]⟩]):=by
 have kk:Kept rb w (w.setCell ⟨rb,k*4,none⟩ (.int .i64 5)):=Kept.setCell (g:=rb) (Kept.refl _ _) (p:=⟨rb,k*4,none⟩) rfl _
 have hlen:=h.st.mine.len
 have hz:=h.todo k (Nat.le_refl _)
 have hst:=(h.st.kept kk (.inl h.xrb.1) (by have:=h.xrb.2.1; omega)).clear (Y:=XR X (bN8 v k { v k with e:=5 })) (Below.refl _ _) (fun b y=>by
  rcases y with y | ⟨i,y⟩
  ·exact .inl (.inl y)
  ·by_cases e:i=k
   ·subst e
    rw[jZ,hz] at y
    exact(vD y).elim
   ·rw[kD v _ e] at y
    exact .inl (.inr ⟨i,y⟩)) (h.st.hx.imp id (fun⟨i,y⟩=>⟨i,by
  by_cases e:i=k
  ·subst e
   rw[hz] at y
   exact(vD y).elim
  ·rw[kD v _ e]; exact y⟩))
 refine⟨h.bel.trans (kk.below h.xrb.2.2),hst,h.ans.putE hk 5,fun i hi=>?_,h.ok,?_,by rw[List.length_append,h.len]; rfl,fun i hi=>?_,h.xrb⟩
 ·rw[kD v _ (by omega)]; exact h.todo i (by omega)
 ·rw[aY4 hx]
  exact .miss _ _ _ _ _ _ h.runs (by rw[List.length_map,hlen]; exact hno)
 ·rw[aN8 _ h.len]
  by_cases e:i=k
  ·subst e
   rw[jZ,if_pos rfl,hz]
   exact⟨rfl,rfl,yU _ _⟩
  ·rw[kD v _ e,if_neg e]
   exact(h.told i (by omega)).kept (fun b q=>by omega) kk
theorem bV8.step {H:Nat}{X:Nat->Prop}{W w w':World}{ob rb n q:Nat}{B:Nat->Blk}{l:List aP}{xs:List (Int×aM)}{tb tn tc k g g':Nat}{D D':Nat->Blk}{L L':List aY}{v:Nat->lG}{ys:List jJ}{i:Nat}{a:aM}{m:aY}{e1 N:Int}{ya:Option Addr}{yn yc:Nat}{y:Option Addr}{ln lc:Nat}(h:bV8 H X W w ob rb n q B l xs (some ⟨tb,0,none⟩) tn tc k g D L v ys)(hk:k<q)(hx:xs[k]? =some ((i:Int),a))(hm:L[i]? =some m)(hb:Bytes a.bytes)
 (bH:Below H w w') (on:Only (PM ob tb tn tc L) w w') (hP:PSt H (XR X v) w' ob g' n D' (some ⟨tb,0,none⟩) tn tc L') (hc:dU n D (L.map aY.e) i m.e a D' (L'.map aY.e) e1 N) (hA:mQ (fun b=>w.heap.size<=b) w' (aH3 m.e a) (aQ3 D m.e a) ya yn yc y ln lc) (hf:(yn=0/\ln=0)\/PSt H (fun b=>XR X v b\/(w.heap.size<=b/\b<w'.heap.size)) w' ob g' n D' (some ⟨tb,0,none⟩) tn tc L'):
 bV8 H X W (cQ8 w' rb k e1 N ya yn yc y ln lc) ob rb n q B l xs (some ⟨tb,0,none⟩) tn tc (k+1) g' D' L' (bN8 v k ⟨e1,N,ya,yn,yc,y,ln,lc⟩) (ys++[⟨e1,N,aH3 m.e a,aQ3 D m.e a⟩]):=by
 have kk:=bR7 w' rb k e1 N ya yn yc y ln lc
 have hrl:=h.ans.lt
 have hmI:(L.map aY.e)[i]? =some m.e:=by rw[List.getElem?_map,hm]; rfl
 have hI:=hc.is h.ok hmI hb
 have hz:=h.todo k (Nat.le_refl _)
 have hnm:¬PM ob tb tn tc L rb:=fun f=>by
  rcases f with f | f
  ·have:=h.xrb.2.1; omega
  ·exact h.st.mine.rx _ f (.inl h.xrb.1)
 have hAo:kY (fun b=>w.heap.size<=b) w' ⟨e1,N,ya,yn,yc,y,ln,lc⟩ ⟨e1,N,aH3 m.e a,aQ3 D m.e a⟩:=⟨rfl,rfl,hA⟩
 have hxo:XR X (bN8 v k ⟨e1,N,ya,yn,yc,y,ln,lc⟩) ob:=by
  rcases h.st.hx with x | ⟨j,x⟩
  ·exact .inl x
  ·refine .inr ⟨j,?_⟩
   by_cases e:j=k
   ·subst e
    rw[hz] at x
    exact(vD x).elim
   ·rw[kD v _ e]; exact x
 have hst:PSt H (XR X (bN8 v k ⟨e1,N,ya,yn,yc,y,ln,lc⟩)) w' ob g' n D' (some ⟨tb,0,none⟩) tn tc L':=by
  rcases hf with⟨h1,h2⟩ | hf
  ·refine hP.clear (Below.refl _ _) (fun b x=>?_) hxo
   rcases x with x | ⟨j,x⟩
   ·exact .inl (.inl x)
   ·by_cases e:j=k
    ·subst e
     rw[jZ] at x
     rcases x with⟨x,_⟩ | ⟨x,_⟩
     ·exact absurd x (by show ¬0<yn; omega)
     ·exact absurd x (by show ¬0<ln; omega)
    ·rw[kD v _ e] at x
     exact .inl (.inr ⟨j,x⟩)
  ·refine hf.clear (Below.refl _ _) (fun b x=>?_) hxo
   rcases x with x | ⟨j,x⟩
   ·exact .inl (.inl (.inl x))
   ·by_cases e:j=k
    ·subst e
     rw[jZ] at x
     have:=hAo.where x
     exact .inl (.inr this)
    ·rw[kD v _ e] at x
     exact .inl (.inl (.inr ⟨j,x⟩))
 refine⟨(h.bel.trans bH).trans (kk.below h.xrb.2.2),hst.kept kk (.inl h.xrb.1) (by have:=h.xrb.2.1; omega),(h.ans.only on hnm).put hk _ _ _ _ _ _ _ _,fun j hj=>?_,hI.ok,?_,by rw[List.length_append,h.len]; rfl,fun j hj=>?_,h.xrb⟩
 ·rw[kD v _ (by omega)]; exact h.todo j (by omega)
 ·rw[aY4 hx]
  exact .step _ _ _ _ _ _ _ _ _ _ _ h.runs hmI hb hc
 ·rw[aN8 _ h.len]
  by_cases e:j=k
  ·subst e
   rw[jZ,if_pos rfl]
   exact(hAo.weaken (fun b _ q=>by omega)).kept (fun b q=>by omega) kk
  ·rw[kD v _ e,if_neg e]
   refine(((h.told j (by omega)).self.only on (fun b q f=>?_)).weaken (fun b _ q=>q.1)).kept (fun b q=>by omega) kk
   rcases f with f | f
   ·have:=h.xrb.2.1; have:=q.1; omega
   ·exact h.st.mine.rx _ f (.inr ⟨j,q.2⟩)
theorem Tryz.infoAns:(Tryz.prog.info? 41).map (fun i=>(i.zero,i.size,i.bytes))=some (some (.agg #[.int .i64 0,.int .i64 0,.slice none 0 0,.slice none 0 0]),4,64):=by kernel_rfl
theorem bZ7 (n:Nat)(hn:n<=60)(w:World):∃ cs:Array Value,(Instr.makeSlice 32 (.int .i64 n) (.int .i64 n)).run Tryz.prog w=.ok (.slice (some ⟨w.heap.size,0,none⟩) n n) (w.alloc (.cells cs 41))/\lH (w.alloc (.cells cs 41)) w.heap.size n (fun _=>lG.zero):=by
 obtain⟨i0,hi,hz0,hz1,hz2⟩:=info_parts Tryz.infoAns
 refine⟨madeCells (Value.agg #[.int .i64 0,.int .i64 0,.slice none 0 0,.slice none 0 0]).cells (n*4),?_,?_⟩
 ·rw[run_makeSlice (P:=Tryz.prog) w 32 41 i0 _ Tryz.underlying32 hi hz0 .i64 .i64 n n (by omega) (by omega) (by rw[hz1]; omega) (by rw[hz2]; omega) (by omega),hz1]
  simp
 ·refine⟨_,aB w _ _,by simp[madeCells],fun i hi=>?_⟩
  have h:=fun k hk=>aM2 n i k hi hk
  have h0:=h 0 (by omega)
  have h1:=h 1 (by omega)
  have h2:=h 2 (by omega)
  have h3:=h 3 (by omega)
  simp only[Array.getElem?_toList] at h0 h1 h2 h3
  exact⟨h0,h1,h2,h3⟩
structure vB where
 a:aM
 ba:Option Addr
 bn:Nat
 bc:Nat
abbrev vB.cells (m:vB):List Value:=[.int .i64 m.a.kind,.string m.a.set,.string m.a.file,.string m.a.to,.int .i64 m.a.pos,.int .i64 m.a.num,.slice m.ba m.bn m.bc]
structure vB.At (m:vB)(Q:Nat->Prop)(w:World):Prop where
 nums:aI Q .u8 w m.ba m.bn m.a.bytes
 ok:m.a.ok
 cap:m.bn<=m.bc
theorem vB.At.weaken {m:vB}{Q R:Nat->Prop}{w:World}(h:m.At Q w)(hq:∀ b,b<w.heap.size->Q b->R b):m.At R w:=⟨h.nums.weaken hq,h.ok,h.cap⟩
theorem vB.At.below {m:vB}{Q:Nat->Prop}{w w':World}(h:m.At Q w)(b:Below w.heap.size w w'):m.At Q w':=⟨h.nums.below b,h.ok,h.cap⟩
theorem vB.At.only {m:vB}{M Q:Nat->Prop}{w w':World}(h:m.At Q w)(on:Only M w w')(hq:∀ b,Q b->¬M b):m.At Q w':=⟨on.nums h.nums hq,h.ok,h.cap⟩
def pF (ms:List vB):List Value:=ms.flatMap vB.cells
theorem aQ1 (m:vB):∀ u∈m.cells,u.oneCell'=true:=by
 intro u hu
 simp only[vB.cells,List.mem_cons,List.not_mem_nil,or_false] at hu
 rcases hu with rfl | rfl | rfl | rfl | rfl | rfl | rfl<;>rfl
theorem aQ2 {ms:List vB}{i:Nat}{m:vB}(h:ms[i]? =some m){k:Nat}(hk:k<7):(pF ms)[i*7+k]? =m.cells[k]? :=by
 induction ms generalizing i with
 | nil=>simp at h
 | cons x l ih=>
   unfold pF
   rw[List.flatMap_cons]
   match i with
   | 0=>
     obtain rfl:x=m:=by simpa using h
     rw[Nat.zero_mul,Nat.zero_add,List.getElem?_append_left (by simp; omega)]
   | i+1=>
     have h':l[i]? =some m:=by simpa using h
     have:=ih h'
     rw[show (i+1)*7+k=x.cells.length+(i*7+k) by simp; omega,List.getElem?_append_right (by omega),Nat.add_sub_cancel_left]
     exact this
structure Rws (base:Nat)(w:World)(v u:Value)(ms:List vB)(l:List Int):Prop where
 arow:w.ownsRow base 30 7 v ms.length (pF ms)
 irow:w.ownsRow base 3 1 u l.length (l.map (Value.int .i64))
 apart:∀ b,v.ownBlock=some b->u.ownBlock≠some b
 els:∀ m∈ms,m.At (fun b=>v.ownBlock≠some b/\u.ownBlock≠some b) w
 wf:∀ x∈l,(Lit.int .i64 x).wf=true
theorem bM7 (base:Nat)(w:World):Rws base w (.slice none 0 0) (.slice none 0 0) [] []:=⟨World.ownsRow_nil _ _ _ _,World.ownsRow_nil _ _ _ _,fun b h=>(by cases h),fun m h=>(by cases h),fun m h=>(by cases h)⟩
theorem Rws.below {base:Nat}{w w':World}{v u:Value}{ms:List vB}{l:List Int}(h:Rws base w v u ms l)(b:Below w.heap.size w w'):Rws base w' v u ms l:=⟨bI h.arow b,bI h.irow b,h.apart,fun m hm=>(h.els m hm).below b,h.wf⟩
theorem Rws.asks {base:Nat}{w:World}{v u:Value}{ms:List vB}{l:List Int}(h:Rws base w v u ms l):∃ a c,v=.slice a ms.length c/\ms.length<=c/\kW w a ms.length (ms.map (·.a)):=by
 rcases h.arow.2 with⟨rfl,h0⟩ | ⟨g,cap,cur,rfl,_,hg,hnc,_,hsz,hcs⟩
 ·obtain rfl:ms=[]:=List.eq_nil_of_length_eq_zero h0
  exact⟨none,0,rfl,Nat.le_refl _,rfl,fun f=>absurd f (by simp)⟩
 ·refine⟨_,cap,rfl,hnc,by simp,fun hn=>⟨g,0,rfl,(h.arow.lt g rfl).2,fun i hi=>?_⟩⟩
  have hm:ms[i]? =some ms[i]:=List.getElem?_eq_getElem hi
  have hc:∀ k,k<7->w.cell? ⟨g,i*7+k,none⟩=ms[i].cells[k]? :=fun k hk=>(h.arow.cellAt _ (by omega)).trans (aQ2 hm hk)
  have he:=h.els ms[i] (List.getElem_mem hi)
  have ed:(ms.map (·.a)).getD i aM.zero=ms[i].a:=by simp[List.getD,hi]
  rw[ed,Nat.zero_add]
  exact⟨_,_,_,hc 0 (by omega),hc 1 (by omega),hc 2 (by omega),hc 3 (by omega),hc 4 (by omega),hc 5 (by omega),hc 6 (by omega),he.nums.weaken (fun _ _ _=>trivial),he.ok,he.cap⟩
theorem Rws.nums {base:Nat}{w:World}{v u:Value}{ms:List vB}{l:List Int}(h:Rws base w v u ms l):∃ a c,u=.slice a l.length c/\l.length<=c/\aI (fun _=>True) .i64 w a l.length l:=by
 rcases h.irow.2 with⟨rfl,h0⟩ | ⟨g,cap,cur,rfl,_,hg,hnc,_,hsz,hcs⟩
 ·obtain rfl:l=[]:=List.eq_nil_of_length_eq_zero h0
  exact⟨none,0,rfl,Nat.le_refl _,rfl,h.wf,fun f=>absurd f (by simp)⟩
 ·refine⟨_,cap,rfl,hnc,rfl,h.wf,fun hn=>⟨g,0,rfl,(h.irow.lt g rfl).2,trivial,fun i hi=>?_⟩⟩
  rw[Nat.zero_add,h.irow.cellAt i (by omega)]
  simp[hi,List.getD]
theorem Tryz.infoAsk:(Tryz.prog.info? 30).map (fun i=>(i.zero,i.size,i.bytes))=some (some (.agg #[.int .i64 0,.string ⟨#[]⟩,.string ⟨#[]⟩,.string ⟨#[]⟩,.int .i64 0,.int .i64 0,.slice none 0 0]),7,96):=by kernel_rfl
theorem Rws.push {base:Nat}{w:World}{v u:Value}{ms:List vB}{l:List Int}(h:Rws base w v u ms l)(hb:base<=w.heap.size)(m:vB)(hm:m.At (fun b=>v.ownBlock≠some b/\u.ownBlock≠some b) w)(x:Int)(hx:(Lit.int .i64 x).wf=true)(h1:ms.length<=100)(h2:l.length<=100):
 ∃ v' w2 u' w4,(∀ ty,(Builtin.append_ #[37,37] ty #[v,.slice (some ⟨w.heap.size,0,none⟩) 1 1]).run Tryz.prog (w.alloc (.cells m.cells.toArray 30))=.ok v' w2)/\
  (∀ ty,(Builtin.append_ #[36,36] ty #[u,.slice (some ⟨w2.heap.size,0,none⟩) 1 1]).run Tryz.prog (w2.alloc (.cells #[.int .i64 x] 3))=.ok u' w4)/\Rws base w4 v' u' (ms++[m]) (l++[x])/\Below base w w4:=by
 have b1:=aA w (.cells m.cells.toArray 30)
 have k1:=aB w m.cells.toArray 30
 have sz1:(w.alloc (.cells m.cells.toArray 30)).heap.size=w.heap.size+1:=by simp
 have hR1:=h.below b1
 have hm1:=hm.below b1
 generalize w.alloc (.cells m.cells.toArray 30)=w1 at *
 obtain⟨i0,hi,hz0,hz1,hz2⟩:=info_parts Tryz.infoAsk
 have A:=fun ty=>run_append_own_at (P:=Tryz.prog) w1 base 37 ty 30 i0 _ 7 96 Tryz.underlying37 hi hz0 hz1 hz2 rfl (by decide) v ms.length _ hR1.arow ⟨w.heap.size,0,none⟩ 1 1 m.cells rfl (fun j q hj=>by
  have hadd:(⟨w.heap.size,0,none⟩:Addr).add j=⟨w.heap.size,j,none⟩:=by unfold Addr.add; split<;>simp_all
  rw[hadd,k1.cell j]
  simpa using hj) (aQ1 m) (by unfold maxLen; omega) (by omega) (by omega)
 obtain⟨v', w2,hr,ho,hg,_,hat⟩:=A 0
 have hr':∀ ty,(Builtin.append_ #[37,37] ty #[v,.slice (some ⟨w.heap.size,0,none⟩) 1 1]).run Tryz.prog w1=.ok v' w2:=fun ty=>by
  have:(Builtin.append_ #[37,37] ty #[v,.slice (some ⟨w.heap.size,0,none⟩) 1 1])=(Builtin.append_ #[37,37] 0 #[v,.slice (some ⟨w.heap.size,0,none⟩) 1 1]):=rfl
  rw[this]; exact hr
 have on1:Only (fun b=>v.ownBlock=some b) w1 w2:=mE hg (fun k hk=>hk)
 have bB1:Below base w w2:=(b1.mono hb).trans (on1.below (fun k hk=>(h.arow.lt k hk).1) (by omega))
 have irow2:w2.ownsRow base 3 1 u l.length (l.map (Value.int .i64)):=on1.row hR1.irow (fun k hk f=>h.apart k f hk)
 have hnew1:∀ b,b<w1.heap.size->v.ownBlock≠some b->v'.ownBlock≠some b:=fun b hb hn e=>by
  rcases hat with h1 | h1
  ·exact hn (by rw[<-h1]; exact e)
  ·rw[h1] at e; cases e; omega
 have lift1:∀ y:vB,y.At (fun b=>v.ownBlock≠some b/\u.ownBlock≠some b) w1->y.At (fun b=>v'.ownBlock≠some b/\u.ownBlock≠some b) w2:=fun y h5=>by
  have h7:=h5.weaken (R:=fun b=>(v.ownBlock≠some b/\u.ownBlock≠some b)/\b<w1.heap.size) (fun b hb q=>⟨q,hb⟩)
  exact(h7.only on1 (fun b q e=>q.1.1 e)).weaken (fun b _ q=>⟨hnew1 b q.2 q.1.1,q.1.2⟩)
 have hu1:∀ b,u.ownBlock=some b->b<w1.heap.size:=fun b hb=>(hR1.irow.lt b hb).2
 have apart1:∀ b,v'.ownBlock=some b->u.ownBlock≠some b:=fun b e f=>hnew1 b (hu1 b f) (fun e2=>h.apart b e2 f) e
 have els1:∀ y∈ms++[m],y.At (fun b=>v'.ownBlock≠some b/\u.ownBlock≠some b) w2:=fun y hy=>by
  rcases List.mem_append.1 hy with hy | hy
  ·exact lift1 y (hR1.els y hy)
  ·rw[List.mem_singleton.1 hy]; exact lift1 m hm1
 have row1:w2.ownsRow base 30 7 v' (ms++[m]).length (pF (ms++[m])):=by
  rw[List.length_append]
  unfold pF
  rw[List.flatMap_append]
  simpa [pF] using ho
 have hb2:base<=w2.heap.size:=Nat.le_trans hb bB1.size
 have b3:=aA w2 (.cells #[.int .i64 x] 3)
 have k3:=aB w2 #[.int .i64 x] 3
 have sz3:(w2.alloc (.cells #[.int .i64 x] 3)).heap.size=w2.heap.size+1:=by simp
 have irow3:=bI irow2 b3
 have arow3:=bI row1 b3
 have els3:=fun y hy=>(els1 y hy).below b3
 refine⟨v', w2,?_⟩
 generalize w2.alloc (.cells #[.int .i64 x] 3)=w3 at *
 obtain⟨i1,gi,gz0,gz1,gz2⟩:=info_parts Tryz.infoInt
 have C:=fun ty=>run_append_own_at (P:=Tryz.prog) w3 base 36 ty 3 i1 _ 1 8 Tryz.underlying36 gi gz0 gz1 gz2 rfl (by decide) u l.length _ irow3 ⟨w2.heap.size,0,none⟩ 1 1 [.int .i64 x] rfl (fun j q hj=>by
  have hadd:(⟨w2.heap.size,0,none⟩:Addr).add j=⟨w2.heap.size,j,none⟩:=by unfold Addr.add; split<;>simp_all
  rw[hadd,k3.cell j]
  simpa using hj) (fun q hq=>by rw[List.mem_singleton.1 hq]; rfl) (by unfold maxLen; omega) (by omega) (by omega)
 obtain⟨u', w4,gr,go,gg,_,gat⟩:=C 0
 have on2:Only (fun b=>u.ownBlock=some b) w3 w4:=mE gg (fun k hk=>hk)
 have hnew2:∀ b,b<w3.heap.size->u.ownBlock≠some b->u'.ownBlock≠some b:=fun b hb hn e=>by
  rcases gat with h1 | h1
  ·exact hn (by rw[<-h1]; exact e)
  ·rw[h1] at e; cases e; omega
 refine⟨u', w4,hr', fun ty=>?_,⟨on2.row arow3 (fun k hk f=>apart1 k hk f),?_,fun b e f=>?_,fun y hy=>?_,fun y hy=>?_⟩,?_⟩
 ·have:(Builtin.append_ #[36,36] ty #[u,.slice (some ⟨w2.heap.size,0,none⟩) 1 1])=(Builtin.append_ #[36,36] 0 #[u,.slice (some ⟨w2.heap.size,0,none⟩) 1 1]):=rfl
  rw[this]; exact gr
 ·rw[List.length_append,List.map_append]
  exact go
 ·exact hnew2 b (arow3.lt b e).2 (fun f2=>apart1 b e f2) f
 ·have h7:=(els3 y hy).weaken (R:=fun b=>(v'.ownBlock≠some b/\u.ownBlock≠some b)/\b<w3.heap.size) (fun b hb q=>⟨q,hb⟩)
  exact(h7.only on2 (fun b q e=>q.1.2 e)).weaken (fun b _ q=>⟨q.1.1,hnew2 b q.2 q.1.2⟩)
 ·rcases List.mem_append.1 hy with hy | hy
  ·exact h.wf y hy
  ·rw[List.mem_singleton.1 hy]; exact hx
 ·exact bB1.trans ((b3.mono hb2).trans (on2.below (fun k hk=>(irow3.lt k hk).1) (by omega)))
end Go.Proofs.YtjafgnohlkkopaaGreatDoor
namespace Go.Proofs.YtjafgnohlkkopaaGreatDoor
theorem Clo.ne {B:Nat->Blk}{l:List Int}{x:Int}(h:Clo B l x):x≠0:=h (fun y=>y≠0) (fun _ _ h=>h) fun _ _ _ _ h=>h
def eH (B C:Nat->Blk)(R:List Int):Prop:=∀ x,Clo B R x->(C (x-1).toNat).level=(B (x-1).toNat).level/\(C (x-1).toNat).kids=(B (x-1).toNat).kids/\(C (x-1).toNat).bytes=(B (x-1).toNat).bytes
theorem eH.refl (B:Nat->Blk)(R:List Int):eH B B R:=fun x _=>⟨rfl,rfl,rfl⟩
theorem eH.clo {B C:Nat->Blk}{R:List Int}(h:eH B C R)(x:Int):Clo C R x↔Clo B R x:=by
 constructor
 ·intro hx
  exact hx (Clo B R) (fun r hr h0=>Clo.root hr h0) fun y hy k hk h0=>hy.kid (by rw[<-(h y hy).2.1]; exact hk) h0
 ·intro hx
  refine(hx (fun y=>Clo B R y/\Clo C R y) (fun r hr h0=>⟨Clo.root hr h0,Clo.root hr h0⟩) fun y hy k hk h0=>⟨hy.1.kid hk h0,hy.2.kid (by rw[(h y hy.1).2.1]; exact hk) h0⟩).2
theorem eH.symm {B C:Nat->Blk}{R:List Int}(h:eH B C R):eH C B R:=fun x hx=>by
 obtain⟨h1,h2,h3⟩:=h x ((h.clo x).1 hx)
 exact⟨h1.symm,h2.symm,h3.symm⟩
theorem eH.trans {B C D:Nat->Blk}{R:List Int}(h:eH B C R)(k:eH C D R):eH B D R:=fun x hx=>by
 obtain⟨h1,h2,h3⟩:=h x hx
 obtain⟨k1,k2,k3⟩:=k x ((h.clo x).2 hx)
 exact⟨by rw[k1,h1],by rw[k2,h2],by rw[k3,h3]⟩
theorem eH.sub {B C:Nat->Blk}{R S:List Int}(h:eH B C R)(hs:∀ r∈S,r≠0->Clo B R r):eH B C S:=fun x hx=>h x (hx.mono hs)
theorem Ext.sameOn {n:Nat}{B C:Nat->Blk}{R:List Int}(h:Ext n B C)(hR:Right n B)(hr:bE n B R):eH B C R:=fun x hx=>by
 obtain⟨h1,h2,h3⟩:=hx.there hR hr
 obtain⟨_,a2,a3,a4⟩:=h.keep _ (ix h1 h2).1 h3
 exact⟨a2,a3,a4⟩
structure Iso (f:Int->Int)(B:Nat->Blk)(R:List Int)(D:Nat->Blk):Prop where
 zero:f 0=0
 pos:∀ x,Clo B R x->f x≠0
 inj:∀ x y,Clo B R x->Clo B R y->f x=f y->x=y
 lev:∀ x,Clo B R x->(D (f x-1).toNat).level=(B (x-1).toNat).level
 kids:∀ x,Clo B R x->(D (f x-1).toNat).kids=(B (x-1).toNat).kids.map f
 bytes:∀ x,Clo B R x->(D (f x-1).toNat).bytes=(B (x-1).toNat).bytes
theorem Iso.refl (B:Nat->Blk)(R:List Int):Iso id B R B:=⟨rfl,fun x h=>h.ne,fun _ _ _ _ h=>h,fun _ _=>rfl,fun _ _=>(List.map_id _).symm,fun _ _=>rfl⟩
theorem Iso.clo {f:Int->Int}{B D:Nat->Blk}{R:List Int}(h:Iso f B R D){x:Int}(hx:Clo B R x):Clo D (R.map f) (f x):=by
 refine(hx (fun y=>Clo B R y/\Clo D (R.map f) (f y)) (fun r hr h0=>⟨Clo.root hr h0,Clo.root (List.mem_map_of_mem hr) (h.pos r (Clo.root hr h0))⟩) fun y hy k hk h0=>⟨hy.1.kid hk h0,hy.2.kid ?_ (h.pos k (hy.1.kid hk h0))⟩).2
 rw[h.kids y hy.1]
 exact List.mem_map_of_mem hk
theorem Iso.onto {f:Int->Int}{B D:Nat->Blk}{R:List Int}(h:Iso f B R D){z:Int}(hz:Clo D (R.map f) z):∃ x,Clo B R x/\f x=z:=by
 refine hz (fun z=>∃ x,Clo B R x/\f x=z) (fun r hr h0=>?_) fun y hy k hk h0=>?_
 ·obtain⟨s,hs,rfl⟩:=List.mem_map.1 hr
  have:s≠0:=fun e=>h0 (by rw[e,h.zero])
  exact⟨s,Clo.root hs this,rfl⟩
 ·obtain⟨x,hx,rfl⟩:=hy
  rw[h.kids x hx] at hk
  obtain⟨s,hs,rfl⟩:=List.mem_map.1 hk
  have:s≠0:=fun e=>h0 (by rw[e,h.zero])
  exact⟨s,hx.kid hs this,rfl⟩
theorem xL:∀ {L M:List Int},L.Nodup->(∀ x∈L,x∈M)->L.length<=M.length
 | [],_,_,_=>by simp
 | x::L,M,hn,h=>by
   have hx:=h x (by simp)
   have:=xL (L:=L) (M:=M.erase x) (List.nodup_cons.1 hn).2 (fun y hy=>(List.mem_erase_of_ne (fun (e:y=x)=>(List.nodup_cons.1 hn).1 (by rw[<-e]; exact hy))).2 (h y (by simp[hy])))
   have e:=List.length_erase_of_mem hx
   have:0<M.length:=List.length_pos_of_mem hx
   simp only[List.length_cons]
   omega
theorem jE.nodup {L:List Int}(h:jE L):L.Nodup:=h.imp fun h=>Int.ne_of_lt h
theorem aL7 {f:Int->Int}:∀ {L:List Int},L.Nodup->(∀ x∈L,∀ y∈L,f x=f y->x=y)->(L.map f).Nodup
 | [],_,_=>by simp
 | x::L,hn,h=>by
   rw[List.map_cons,List.nodup_cons]
   refine⟨fun hm=>?_,aL7 (List.nodup_cons.1 hn).2 fun y hy z hz=>h y (by simp[hy]) z (by simp[hz])⟩
   obtain⟨y,hy,e⟩:=List.mem_map.1 hm
   have:=h y (by simp[hy]) x (by simp) e
   exact(List.nodup_cons.1 hn).1 (this▸hy)
theorem Iso.many {f:Int->Int}{B D:Nat->Blk}{R:List Int}(h:Iso f B R D){L M:List Int}(h1:jE L)(h2:∀ x,x∈L↔Clo B R x)(k1:jE M)(k2:∀ x,x∈M↔Clo D (R.map f) x):L.length=M.length:=by
 have hn:(L.map f).Nodup:=aL7 h1.nodup fun x hx y hy=>h.inj x y ((h2 x).1 hx) ((h2 y).1 hy)
 have a1:=xL hn (M:=M) fun z hz=>by
  obtain⟨x,hx,rfl⟩:=List.mem_map.1 hz
  exact(k2 _).2 (h.clo ((h2 x).1 hx))
 have a2:=xL k1.nodup (M:=L.map f) fun z hz=>by
  obtain⟨x,hx,rfl⟩:=h.onto ((k2 z).1 hz)
  exact List.mem_map_of_mem ((h2 x).2 hx)
 rw[List.length_map] at a1 a2
 omega
theorem Iso.keep {f:Int->Int}{B B' D D':Nat->Blk}{R:List Int}(h:Iso f B R D)(hB:eH B B' R)(hD:eH D D' (R.map f)):Iso f B' R D':=by
 refine⟨h.zero,fun x hx=>h.pos x ((hB.clo x).1 hx),fun x y hx hy=>h.inj x y ((hB.clo x).1 hx) ((hB.clo y).1 hy),fun x hx=>?_,fun x hx=>?_,fun x hx=>?_⟩
 ·have hb:=(hB.clo x).1 hx
  rw[(hD _ (h.clo hb)).1,(hB x hb).1,h.lev x hb]
 ·have hb:=(hB.clo x).1 hx
  rw[(hD _ (h.clo hb)).2.1,(hB x hb).2.1,h.kids x hb]
 ·have hb:=(hB.clo x).1 hx
  rw[(hD _ (h.clo hb)).2.2,(hB x hb).2.2,h.bytes x hb]
theorem Iso.sub {f:Int->Int}{B D:Nat->Blk}{R S:List Int}(h:Iso f B R D)(hs:∀ r∈S,r≠0->Clo B R r):Iso f B S D:=
 ⟨h.zero,fun x hx=>h.pos x (hx.mono hs),fun x y hx hy=>h.inj x y (hx.mono hs) (hy.mono hs),fun x hx=>h.lev x (hx.mono hs),fun x hx=>h.kids x (hx.mono hs),fun x hx=>h.bytes x (hx.mono hs)⟩
theorem Iso.congr {f g:Int->Int}{B D:Nat->Blk}{R:List Int}(h:Iso f B R D)(e:∀ x,x=0\/Clo B R x->g x=f x):Iso g B R D:=by
 refine⟨by rw[e 0 (.inl rfl),h.zero],fun x hx=>by rw[e x (.inr hx)]; exact h.pos x hx,fun x y hx hy=>by rw[e x (.inr hx),e y (.inr hy)]; exact h.inj x y hx hy,fun x hx=>by rw[e x (.inr hx)]; exact h.lev x hx,fun x hx=>?_,fun x hx=>by rw[e x (.inr hx)]; exact h.bytes x hx⟩
 rw[e x (.inr hx),h.kids x hx]
 refine List.map_congr_left fun k hk=>?_
 by_cases h0:k=0
 ·rw[e k (.inl h0)]
 ·rw[e k (.inr (hx.kid hk h0))]
theorem Iso.trans {f g:Int->Int}{B D E:Nat->Blk}{R:List Int}(h:Iso f B R D)(k:Iso g D (R.map f) E):Iso (g ∘ f) B R E:=by
 refine⟨by show g (f 0)=0; rw[h.zero,k.zero],fun x hx=>k.pos _ (h.clo hx),fun x y hx hy e=>h.inj x y hx hy (k.inj _ _ (h.clo hx) (h.clo hy) e),fun x hx=>?_,fun x hx=>?_,fun x hx=>?_⟩
 ·show (E (g (f x)-1).toNat).level=_
  rw[k.lev _ (h.clo hx),h.lev x hx]
 ·show (E (g (f x)-1).toNat).kids=_
  rw[k.kids _ (h.clo hx),h.kids x hx,List.map_map]
 ·show (E (g (f x)-1).toNat).bytes=_
  rw[k.bytes _ (h.clo hx),h.bytes x hx]
theorem Iso.add {f:Int->Int}{B D B' D':Nat->Blk}{R:List Int}(h:Iso f B R D){a d:Int}(ha:¬Clo B R a)(hd:¬Clo D (R.map f) d)(ha0:a≠0)(hd0:d≠0)(hB:eH B B' R)(hD:eH D D' (R.map f))(hl:(D' (d-1).toNat).level=(B' (a-1).toNat).level)(hk:(D' (d-1).toNat).kids=(B' (a-1).toNat).kids.map f)(hb:(D' (d-1).toNat).bytes=(B' (a-1).toNat).bytes)(hin:∀ k∈(B' (a-1).toNat).kids,k≠0->Clo B R k):
 Iso (fun x=>if x=a then d else f x) B' (a::R) D':=by
 have hi:=h.keep hB hD
 have hcl:∀ x,Clo B' (a::R) x->x=a\/Clo B R x:=fun x hx=>by
  refine hx (fun y=>y=a\/Clo B R y) (fun r hr h0=>?_) fun y hy k hk' h0=>?_
  ·rcases List.mem_cons.1 hr with h | h
   ·exact .inl h
   ·exact .inr (Clo.root h h0)
  ·rcases hy with e | hy
   ·rw[e] at hk'; exact .inr (hin k hk' h0)
   ·exact .inr (hy.kid (by rw[<-(hB y hy).2.1]; exact hk') h0)
 have hne:∀ x,Clo B R x->x≠a:=fun x hx (e:x=a)=>ha (by rw[<-e]; exact hx)
 have mapf:∀ l:List Int,(∀ k∈l,k≠0->Clo B R k)->l.map (fun x=>if x=a then d else f x)=l.map f:=fun l hl=>List.map_congr_left fun k hk=>by
  by_cases h0:k=0
  ·show (if k=a then d else f k)=f k
   rw[if_neg (fun (e:k=a)=>ha0 (by rw[<-e]; exact h0))]
  ·show (if k=a then d else f k)=f k
   rw[if_neg (hne k (hl k hk h0))]
 refine⟨?_,fun x hx=>?_,fun x y hx hy e=>?_,fun x hx=>?_,fun x hx=>?_,fun x hx=>?_⟩
 ·show (if (0:Int)=a then d else f 0)=0
  rw[if_neg (Ne.symm ha0),h.zero]
 ·show (if x=a then d else f x)≠0
  rcases hcl x hx with rfl | hx
  ·rw[if_pos rfl]; exact hd0
  ·rw[if_neg (hne x hx)]; exact h.pos x hx
 ·have e:(if x=a then d else f x)=(if y=a then d else f y):=e
  rcases hcl x hx with hxa | hx
  ·rcases hcl y hy with hya | hy
   ·rw[hxa,hya]
   ·rw[if_pos hxa,if_neg (hne y hy)] at e
    exact absurd (by rw[e]; exact h.clo hy) hd
  ·rcases hcl y hy with hya | hy
   ·rw[if_pos hya,if_neg (hne x hx)] at e
    exact absurd (by rw[<-e]; exact h.clo hx) hd
   ·rw[if_neg (hne x hx),if_neg (hne y hy)] at e
    exact h.inj x y hx hy e
 ·show (D' ((if x=a then d else f x)-1).toNat).level=_
  rcases hcl x hx with rfl | hx
  ·rw[if_pos rfl]; exact hl
  ·rw[if_neg (hne x hx)]; exact hi.lev x ((hB.clo x).2 hx)
 ·show (D' ((if x=a then d else f x)-1).toNat).kids=_
  rcases hcl x hx with rfl | hx
  ·rw[if_pos rfl,hk,mapf _ hin]
  ·rw[if_neg (hne x hx),hi.kids x ((hB.clo x).2 hx),mapf]
   intro k hk h0
   rw[(hB x hx).2.1] at hk
   exact hx.kid hk h0
 ·show (D' ((if x=a then d else f x)-1).toNat).bytes=_
  rcases hcl x hx with rfl | hx
  ·rw[if_pos rfl]; exact hb
  ·rw[if_neg (hne x hx)]; exact hi.bytes x ((hB.clo x).2 hx)
theorem Iso.kidsL {f:Int->Int}{B D:Nat->Blk}{R:List Int}(h:Iso f B R D){a:Int}(ha:a=0\/Clo B R a):kidsL D (f a)=(kidsL B a).map f:=by
 unfold Go.Proofs.YtjafgnohlkkopaaGreatDoor.kidsL
 rcases ha with rfl | ha
 ·rw[if_pos h.zero,if_pos rfl]; simp[h.zero]
 ·rw[if_neg (h.pos a ha),if_neg ha.ne,h.kids a ha]
theorem Iso.bytesL {f:Int->Int}{B D:Nat->Blk}{R:List Int}(h:Iso f B R D){a:Int}(ha:a=0\/Clo B R a):bytesL D (f a)=bytesL B a:=by
 unfold Go.Proofs.YtjafgnohlkkopaaGreatDoor.bytesL
 rcases ha with rfl | ha
 ·rw[if_pos h.zero,if_pos rfl]
 ·rw[if_neg (h.pos a ha),if_neg ha.ne,h.bytes a ha]
theorem getD_map {f:Int->Int}(h0:f 0=0)(l:List Int)(j:Nat):(l.map f).getD j 0=f (l.getD j 0):=by
 rw[List.getD_eq_getElem?_getD,List.getD_eq_getElem?_getD,List.getElem?_map]
 cases l[j]? <;>simp[h0]
theorem bS1 (l:List Int)(j:Nat):l.getD j 0=0\/l.getD j 0∈l:=by
 by_cases h:j<l.length
 ·exact .inr (aG3 h)
 ·left
  rw[List.getD_eq_getElem?_getD,List.getElem?_eq_none (by omega)]; rfl
theorem xY {B:Nat->Blk}{R:List Int}{a:Int}(ha:a=0\/Clo B R a){k:Int}(hk:k∈kidsL B a):k=0\/Clo B R k:=by
 by_cases h0:k=0
 ·exact .inl h0
 ·rcases ha with rfl | ha
  ·simp[kidsL] at hk; exact absurd hk h0
  ·unfold kidsL at hk
   rw[if_neg ha.ne] at hk
   exact .inr (ha.kid hk h0)
theorem aM9 {B:Nat->Blk}{R:List Int}{a:Int}(ha:a=0\/Clo B R a)(j:Nat):(kidsL B a).getD j 0=0\/Clo B R ((kidsL B a).getD j 0):=by
 rcases bS1 (kidsL B a) j with h | h
 ·exact .inl h
 ·exact xY ha h
theorem Iso.leaf {f:Int->Int}{B D:Nat->Blk}{R:List Int}(h:Iso f B R D):∀ (l:Nat) (a:Int),(a=0\/Clo B R a)->∀ i,aH D l (f a) i=aH B l a i
 | 0,a,ha,i=>h.bytesL ha
 | l+1,a,ha,i=>by
   simp only[aH]
   rw[h.kidsL ha,getD_map h.zero]
   exact Iso.leaf h l _ (aM9 ha _) _
end Go.Proofs.YtjafgnohlkkopaaGreatDoor
