import Derived.Test.YtjafgnohlkkopaaGreatDoorPart31
import Derived.Shelf.Strings.OnBuilder
import Derived.Shelf.Strings.BuilderK
import Derived.Shelf.LaysM
import Derived.Shelf.Strconv.Itoa3
import Derived.Test.YtjafgnohlkkopaaGreatDoorRows
import Derived.Test.YtjafgnohlkkopaaGreatDoorPart05
import Derived.Test.YtjafgnohlkkopaaGreatDoorPart09
import Derived.Test.YtjafgnohlkkopaaGreatDoorPart10
import Derived.Lib.SmallJoins
set_option linter.unusedVariables false
set_option maxHeartbeats 8000000
set_option maxRecDepth 100000
namespace Go.Proofs.YtjafgnohlkkopaaGreatDoor
open Go.RowKit
def cG2 (e:Ending)(w:World)(n:Nat)(B:Nat->Blk)(tn:Nat)(l:List aO)(i:Int)(a:aP):Prop:=
 (∃ e':Int,e=.returned (.tuple #[.agg #[.slice none 0 0,.slice none 0 0],.agg #[.int .i64 0,.int .i64 0,.slice none 0 0,.slice none 0 0],.int .i64 e'])/\e'≠0/\¬(aQ n B l/\0<=i/\i<(tn:Int)))\/
 (aQ n B l/\∃ (k:Nat) (t:aO),i=(k:Int)/\l[k]? =some t/\∃ (e1 N:Int) (ya:Option Addr) (yn yc:Nat) (y:Option Addr) (ln lc g:Nat) (D:Nat->Blk) (l':List aO) (ta:Option Addr) (tc:Nat),e=.returned (.tuple #[.agg #[.slice (some ⟨g,0,none⟩) n n,.slice ta tn tc],.agg #[.int .i64 e1,.int .i64 N,.slice ya yn yc,.slice y ln lc],.int .i64 0])/\dQ n B l k t a D l' e1 N/\fE (fun _=>True) w (some ⟨g,0,none⟩) n D ta tn l')
def cG5 (K H:Nat)(W wc:World)(ob n:Nat)(B:Nat->Blk)(tb tn tc:Nat)(L:List aY)(i:Nat)(m:aY)(a:aP)(v11:Value):Prop:=
 ∃ (q:Nat) (e1 N:Int) (ya:Option Addr) (yn yc:Nat) (y:Option Addr) (ln lc g':Nat) (D:Nat->Blk) (L':List aY) (X:Nat->Prop),v11=.pointer (some ⟨q,0,none⟩)/\aC wc q #[.int .i64 e1,.int .i64 N,.slice ya yn yc,.slice y ln lc] 41/\W.heap.size<=q/\Below H W wc/\(∀ b,K<=b/\b<H->X b)/\PSt H X wc ob g' n D (some ⟨tb,0,none⟩) tn tc L'/\dQ n B (L.map aY.e) i m.e a D (L'.map aY.e) e1 N
theorem cD3 {K H:Nat}{X:Nat->Prop}{W w8:World}{ob n g':Nat}{B D:Nat->Blk}{tb tn tc:Nat}{L L':List aY}{i:Nat}{m:aY}{a:aP}{e1 N:Int}{ya:Option Addr}{yn yc:Nat}{y:Option Addr}{ln lc:Nat}(hH:H<=W.heap.size)(bH:Below H W w8)(hX:∀ b,K<=b/\b<H->X b)(hP:PSt H X w8 ob g' n D (some ⟨tb,0,none⟩) tn tc L')(hc:dQ n B (L.map aY.e) i m.e a D (L'.map aY.e) e1 N):cG5 K H W (w8.alloc (.cells #[.int .i64 e1,.int .i64 N,.slice ya yn yc,.slice y ln lc] 41)) ob n B tb tn tc L i m a (.pointer (some ⟨w8.heap.size,0,none⟩)):=
 ⟨_,e1,N,ya,yn,yc,y,ln,lc,g', D,L', X,rfl,aB w8 _ _,bH.size,bH.trans ((aA w8 _).mono (Nat.le_trans hH bH.size)),hX,hP.below (aA _ _),hc⟩
theorem cD4 {K H:Nat}{X:Nat->Prop}{W w8:World}{ob n g' q:Nat}{B D:Nat->Blk}{tb tn tc:Nat}{L L':List aY}{i:Nat}{m:aY}{a:aP}{e1 N:Int}{ya:Option Addr}{yn yc:Nat}{y:Option Addr}{ln lc:Nat}{c0 c1 c2 c3:Value}(ka:aC w8 q #[c0,c1,c2,c3] 41)(hq:X q)(hqo:q≠ob)(hqW:W.heap.size<=q)(hH:H<=W.heap.size)(bH:Below H W w8)(hX:∀ b,K<=b/\b<H->X b)(hP:PSt H X w8 ob g' n D (some ⟨tb,0,none⟩) tn tc L')(hc:dQ n B (L.map aY.e) i m.e a D (L'.map aY.e) e1 N):cG5 K H W (cH0 w8 q e1 N ya yn yc y ln lc) ob n B tb tn tc L i m a (.pointer (some ⟨q,0,none⟩)):=
 ⟨q,e1,N,ya,yn,yc,y,ln,lc,g', D,L', X,rfl,dN ka e1 N ya yn yc y ln lc,hqW,bH.trans ((dM _ _ _ _ _ _ _ _ _ _).below (by omega)),hX,hP.kept (dM _ _ _ _ _ _ _ _ _ _) hq hqo,hc⟩
abbrev uZ (w:World)(g:Nat)(v0 v1:Value):World:=(w.setCell ⟨g,0,none⟩ v0).setCell ⟨g,1,none⟩ v1
theorem iD (w:World)(g:Nat)(v0 v1:Value):Kept g w (uZ w g v0 v1):=
 Kept.setCell (g:=g) (Kept.setCell (g:=g) (Kept.refl _ _) (p:=⟨g,0,none⟩) rfl _) (p:=⟨g,1,none⟩) rfl _
theorem aX8 {w:World}{g:Nat}{t:TypeId}{c0 c1:Value}(v0 v1:Value)(h:aC w g #[c0,c1] t):aC (uZ w g v0 v1) g #[v0,v1] t:=by
 have k:=(h.set 0 v0).set 1 v1
 simp only[List.setIfInBounds_toArray,List.set_cons_succ,List.set_cons_zero] at k
 exact k
abbrev cK4:Obj:=.cells #[.slice none 0 0,.slice none 0 0] 27
structure PB (W w:World)(pa:Option Addr)(n c:Nat)(ta:Option Addr)(tn tc:Nat)(a:aP)(ba:Option Addr)(bn bc:Nat):Prop where
 bel:Below W.heap.size W w
 bP:aC w W.heap.size #[.slice pa n c,.slice ta tn tc] 27
 bA:aC w (W.heap.size+1) #[.int .i64 a.kind,.string a.set,.string a.file,.string a.to,.int .i64 a.pos,.int .i64 a.num,.slice ba bn bc] 30
 r6:aC w (W.heap.size+1+1) #[.slice none 0 0,.slice none 0 0] 27
 r7:aC w (W.heap.size+1+1+1) #[.int .i64 0,.int .i64 0,.slice none 0 0,.slice none 0 0] 41
theorem PB.below {W w w':World}{pa:Option Addr}{n c:Nat}{ta:Option Addr}{tn tc:Nat}{a:aP}{ba:Option Addr}{bn bc:Nat}(h:PB W w pa n c ta tn tc a ba bn bc)(b:Below w.heap.size w w'):PB W w' pa n c ta tn tc a ba bn bc:=⟨Below.tr h.bel b,h.bP.below b,h.bA.below b,h.r6.below b,h.r7.below b⟩
theorem szB (w:World)(o:Obj):(w.alloc o).heap.size=w.heap.size+1:=by simp
theorem cA1 (w:World)(pa:Option Addr)(n c:Nat)(ta:Option Addr)(tn tc:Nat)(a:aP)(ba:Option Addr)(bn bc:Nat):PB w ((((w.alloc (.cells #[.slice pa n c,.slice ta tn tc] 27)).alloc (cA5 a ba bn bc)).alloc cK4).alloc cK3) pa n c ta tn tc a ba bn bc:=by
 have h1:=aB w #[.slice pa n c,.slice ta tn tc] 27
 have h2:=aB (w.alloc (.cells #[.slice pa n c,.slice ta tn tc] 27)) #[.int .i64 a.kind,.string a.set,.string a.file,.string a.to,.int .i64 a.pos,.int .i64 a.num,.slice ba bn bc] 30
 have h3:=aB ((w.alloc (.cells #[.slice pa n c,.slice ta tn tc] 27)).alloc (cA5 a ba bn bc)) #[.slice none 0 0,.slice none 0 0] 27
 have h4:=aB (((w.alloc (.cells #[.slice pa n c,.slice ta tn tc] 27)).alloc (cA5 a ba bn bc)).alloc cK4) #[.int .i64 0,.int .i64 0,.slice none 0 0,.slice none 0 0] 41
 simp only[szB] at h2 h3 h4
 exact⟨Below.tr (Below.tr (Below.tr (aA _ _) (aA _ _)) (aA _ _)) (aA _ _),((h1.below (aA _ _)).below (aA _ _)).below (aA _ _),(h2.below (aA _ _)).below (aA _ _),h3.below (aA _ _),h4⟩
theorem cK1 (Q:Nat->Prop)(pa:Option Addr)(n c:Nat)(B:Nat->Blk)(ta:Option Addr)(tn tc:Nat)(l:List aO)(i:Int)(a:aP)(ba:Option Addr)(bn bc:Nat)(w:World)(hP:fE Q w pa n B ta tn l)(hao:a.ok)(hB:aI (fun _=>True) .u8 w ba bn a.bytes):
 Calls Tryz.prog 13 #[.agg #[.slice pa n c,.slice ta tn tc],.int .i64 i,.agg #[.int .i64 a.kind,.string a.set,.string a.file,.string a.to,.int .i64 a.pos,.int .i64 a.num,.slice ba bn bc]] w fun e w'=>cG2 e w' n B tn l i a/\Below w.heap.size w w':=by
 have hpb:=cA1 w pa n c ta tn tc a ba bn bc
 unfold cA5 cK4 cK3 at hpb
 have hPK:Hid (fE (fun b=>b<w.heap.size) w pa n B ta tn l):=hid ⟨hP.store,hP.tens.weaken (fun b hb _=>hb)⟩
 replace hpb:=hid hpb
 replace hB:=hid hB
 have hP0:=hid (hP.below hpb.out.bel)
 clear hP
 go_enter Tryz.func13,Tryz.ntmps13
 go_upto_region 1 with fail
 generalize (((w.alloc (.cells #[.slice pa n c,.slice ta tn tc] 27)).alloc (.cells #[.int .i64 a.kind,.string a.set,.string a.file,.string a.to,.int .i64 a.pos,.int .i64 a.num,.slice ba bn bc] 30)).alloc (.cells #[.slice none 0 0,.slice none 0 0] 27)).alloc (.cells #[.int .i64 0,.int .i64 0,.slice none 0 0,.slice none 0 0] 41)=w0 at *
 have p0:=hpb.out.bP.cell 0
 have p1:=hpb.out.bP.cell 1
 simp only[List.getElem?_toArray,List.getElem?_cons_zero,List.getElem?_cons_succ] at p0 p1
 go_wp2_with fail
 refine(jN Q pa n c B ta tn tc l w0 hP0.out).mono ?_
 rintro e w1 ⟨⟨e1,rfl,he1⟩,b1⟩
 replace hpb:=hid (hpb.out.below b1)
 replace he1:=hid he1
 clear b1 p0 p1 hP0
 have hbad:Hid (∀ (wx:World) (e':Int),PB w wx pa n c ta tn tc a ba bn bc->e'≠0->¬(aQ n B l/\0<=i/\i<(tn:Int))->cG2 (.returned (.tuple #[.agg #[.slice none 0 0,.slice none 0 0],.agg #[.int .i64 0,.int .i64 0,.slice none 0 0,.slice none 0 0],.int .i64 e'])) (cH0 (uZ wx (w.heap.size+1+1) (.slice none 0 0) (.slice none 0 0)) (w.heap.size+1+1+1) 0 0 none 0 0 none 0 0) n B tn l i a/\Below w.heap.size w (cH0 (uZ wx (w.heap.size+1+1) (.slice none 0 0) (.slice none 0 0)) (w.heap.size+1+1+1) 0 0 none 0 0 none 0 0)):=hid (fun wx e' hx he hno=>⟨.inl ⟨e', rfl,he,hno⟩,(hx.bel.trans ((iD _ _ _ _).below (by omega))).trans ((dM _ _ _ _ _ _ _ _ _ _).below (by omega))⟩)
 have hQ:Hid (∀ wx,PB w wx pa n c ta tn tc a ba bn bc->(wx.cell? ⟨w.heap.size+1+1,0,none⟩=some (.slice none 0 0)/\wx.cell? ⟨w.heap.size+1+1,1,none⟩=some (.slice none 0 0)/\wx.frozen? ⟨w.heap.size+1+1,0,none⟩=false/\wx.frozen? ⟨w.heap.size+1+1,1,none⟩=false)/\(wx.cell? ⟨w.heap.size+1+1+1,0,none⟩=some (.int .i64 0)/\wx.cell? ⟨w.heap.size+1+1+1,1,none⟩=some (.int .i64 0)/\wx.cell? ⟨w.heap.size+1+1+1,2,none⟩=some (.slice none 0 0)/\wx.cell? ⟨w.heap.size+1+1+1,3,none⟩=some (.slice none 0 0))/\(wx.frozen? ⟨w.heap.size+1+1+1,0,none⟩=false/\wx.frozen? ⟨w.heap.size+1+1+1,1,none⟩=false/\wx.frozen? ⟨w.heap.size+1+1+1,2,none⟩=false/\wx.frozen? ⟨w.heap.size+1+1+1,3,none⟩=false)):=hid (fun wx hx=>by
  have q0:=hx.r6.cell 0
  have q1:=hx.r6.cell 1
  have y0:=hx.r7.cell 0
  have y1:=hx.r7.cell 1
  have y2:=hx.r7.cell 2
  have y3:=hx.r7.cell 3
  simp only[List.getElem?_toArray,List.getElem?_cons_zero,List.getElem?_cons_succ] at q0 q1 y0 y1 y2 y3
  exact⟨⟨q0,q1,hx.r6.frozen 0,hx.r6.frozen 1⟩,⟨y0,y1,y2,y3⟩,hx.r7.frozen 0,hx.r7.frozen 1,hx.r7.frozen 2,hx.r7.frozen 3⟩)
 have n67:w.heap.size+1+1≠w.heap.size+1+1+1:=by omega
 have n76:=n67.symm
 by_cases hz:e1=0
 case neg=>
  obtain⟨⟨q0,q1,z0,z1⟩,⟨y0,y1,y2,y3⟩,x0,x1,x2,x3⟩:=hQ.out w1 hpb.out
  have hze:(e1 != 0)=true:=by simp[hz]
  go_wp2_with fail
  refine bodyPost_ret (v:=.tuple #[.agg #[.slice none 0 0,.slice none 0 0],.agg #[.int .i64 0,.int .i64 0,.slice none 0 0,.slice none 0 0],.int .i64 e1]) (by rw[aS rfl]; go_simp) rfl ?_
  exact hbad.out w1 e1 hpb.out hz (fun f=>hz (he1.out.2 f.1))
 subst hz
 have hok:Hid (aQ n B l):=hid (he1.out.1 rfl)
 have p0:=hpb.out.bP.cell 0
 have p1:=hpb.out.bP.cell 1
 simp only[List.getElem?_toArray,List.getElem?_cons_zero,List.getElem?_cons_succ] at p0 p1
 go_wp2_with fail
 refine(aA3 pa n c ta tn tc i w1).mono ?_
 rintro e w2 ⟨⟨bb,rfl,hbb⟩,b2⟩
 replace hpb:=hid (hpb.out.below b2)
 clear b2 p0 p1
 cases bb
 case false=>
  have hno:Hid (¬(0<=i/\i<(tn:Int))):=hid (by simpa using hbb)
  obtain⟨⟨q0,q1,z0,z1⟩,⟨y0,y1,y2,y3⟩,x0,x1,x2,x3⟩:=hQ.out w2 hpb.out
  clear hbb
  go_wp2_with fail
  refine bodyPost_ret (v:=.tuple #[.agg #[.slice none 0 0,.slice none 0 0],.agg #[.int .i64 0,.int .i64 0,.slice none 0 0,.slice none 0 0],.int .i64 5]) (by rw[aS rfl]; go_simp) rfl ?_
  exact hbad.out w2 5 hpb.out (by omega) (fun f=>hno.out f.2)
 have hyes:0<=i/\i<(tn:Int):=by simpa using hbb
 obtain⟨k,rfl⟩:∃ k:Nat,i=(k:Int):=⟨i.toNat,by omega⟩
 have hkt:Hid (k<tn):=hid (by omega)
 clear hyes hbb hbad
 have p0:=hpb.out.bP.cell 0
 have p1:=hpb.out.bP.cell 1
 simp only[List.getElem?_toArray,List.getElem?_cons_zero,List.getElem?_cons_succ] at p0 p1
 go_wp2_with fail
 refine(uQ w.heap.size pa n c B ta tn tc l w2 hpb.out.bel.size (hPK.out.below hpb.out.bel) hok.out).mono ?_
 rintro e w3 ⟨⟨g,ta', tc', L,rfl,hg,hO,hM,hL,hr⟩,b3⟩
 replace b3:=hid b3
 replace hg:=hid hg
 replace hO:=hid hO
 replace hM:=hid hM
 replace hL:=hid hL
 replace hr:=hid hr
 clear p0 p1
 go_upto_region 7 with fail
 have hz7:(w3.alloc (.cells #[.slice (some ⟨g,0,none⟩) n n,.slice ta' tn tc'] 27)).heap.size=w3.heap.size+1:=by simp
 obtain⟨tb,rfl⟩:=cG9 hM.out (by have:=hkt.out; omega)
 have hPS:=hid (bA6 hg.out hO.out hM.out hr.out)
 have hB7:=hid (aA w3 (.cells #[.slice (some ⟨g,0,none⟩) n n,.slice (some ⟨tb,0,none⟩) tn tc'] 27))
 generalize w3.alloc (.cells #[.slice (some ⟨g,0,none⟩) n n,.slice (some ⟨tb,0,none⟩) tn tc'] 27)=w7 at *
 have hpb3:=hid (hpb.out.below b3.out)
 have hpb7:=hid (hpb3.out.below hB7.out)
 obtain⟨m,hm⟩:∃ m,L[k]? =some m:=by
  have hlen:=hM.out.len
  exact⟨_,List.getElem?_eq_getElem (by have:=hkt.out; omega)⟩
 replace hm:=hid hm
 have hok':Hid (aQ n B (L.map aY.e)):=hid (by rw[hL.out]; exact hok.out)
 have l23:=hid b3.out.size
 have o1:=hPS.out.box.cell 1
 have lo:=hPS.out.box.lt
 have a0:=hpb7.out.bA.cell 0
 have a1:=hpb7.out.bA.cell 1
 have a2:=hpb7.out.bA.cell 2
 have a3:=hpb7.out.bA.cell 3
 have a4:=hpb7.out.bA.cell 4
 have a5:=hpb7.out.bA.cell 5
 have a6:=hpb7.out.bA.cell 6
 simp only[List.getElem?_toArray,List.getElem?_cons_zero,List.getElem?_cons_succ] at o1 a0 a1 a2 a3 a4 a5 a6
 have la:w.heap.size+1<w2.heap.size:=hpb.out.bA.lt
 have n0:w3.heap.size≠w7.heap.size:=by omega
 have n0':=n0.symm
 have n1:w.heap.size+1≠w7.heap.size:=by have:=l23.out; omega
 have n1':=n1.symm
 have hk0:(0:Int)<=(k:Int):=by omega
 have hkI:(k:Int)<(tn:Int):=by have:=hkt.out; omega
 have bA7:=aA w7 cK3
 have Hb7:Hid (∀ wx,Below w7.heap.size w7 wx->Below w2.heap.size w7 wx):=hid (fun wx b=>b.mono (by have:=l23.out; omega))
 have HBa:Hid (Below w7.heap.size w7 w7.drew):=hid (aD _ _)
 have HBb:Hid (Below w7.heap.size w7 (w7.alloc (.cells #[.int .i64 0,.int .i64 0,.slice none 0 0,.slice none 0 0] 41)).drew):=hid (Below.tr (aA _ _) (aD _ _))
 have HPa:=hid (hPS.out.below HBa.out)
 have HPb:=hid (hPS.out.clear (Y:=fun b=>((w.heap.size<=b/\b<w2.heap.size)\/b=w3.heap.size)\/b=w7.heap.size) HBb.out (fun b y=>y.elim .inl (fun y=>.inr ⟨by omega,by show b<(w7.alloc _).heap.size; rw[szB]; omega⟩)) (.inl (.inr rfl)))
 have hN7:=(hB.out.below hpb7.out.bel)
 have HNa:=hid (hN7.below HBa.out)
 have HNb:=hid (hN7.below HBb.out)
 have Ka:Hid (aC (w7.alloc (.cells #[.int .i64 0,.int .i64 0,.slice none 0 0,.slice none 0 0] 41)).drew w7.heap.size #[.int .i64 0,.int .i64 0,.slice none 0 0,.slice none 0 0] 41):=hid ((aB w7 _ _).below (aD _ _))
 have HnP:Hid (¬PM w3.heap.size tb tn tc' L w7.heap.size):=hid (fun f=>by
  rcases f with f | f
  ·exact n0 f.symm
  ·exact HPb.out.mine.rx _ f (.inr rfl))
 have Lb7:Hid (w.heap.size+1<w7.heap.size):=hid (by have:=l23.out; omega)
 replace hz7:=hid hz7
 have Hs:Hid (w2.heap.size<=w7.heap.size):=hid (by have:=l23.out; have:=hz7.out; omega)
 clear hN7 bA7
 replace la:=hid la
 go_cut [11] from 34 (fun v11 wc=>cG5 w.heap.size w2.heap.size w7 wc w3.heap.size n B tb tn tc' L k m a v11)
 case first=>
  replace la:=la.out
  go_region_held3 (fun w'=>w'.cell? ⟨w3.heap.size,1,none⟩=some (.slice (some ⟨tb,0,none⟩) tn tc')/\w'.cell? ⟨w.heap.size+1,0,none⟩=some (.int .i64 a.kind)/\w'.cell? ⟨w.heap.size+1,1,none⟩=some (.string a.set)/\w'.cell? ⟨w.heap.size+1,2,none⟩=some (.string a.file)/\w'.cell? ⟨w.heap.size+1,3,none⟩=some (.string a.to)/\w'.cell? ⟨w.heap.size+1,4,none⟩=some (.int .i64 a.pos)/\w'.cell? ⟨w.heap.size+1,5,none⟩=some (.int .i64 a.num)/\w'.cell? ⟨w.heap.size+1,6,none⟩=some (.slice ba bn bc)) (first | go_keep | assumption) (first | (go_at_call 20; with_reducible refine Calls.mono (sP w2.heap.size (fun b=>(w.heap.size<=b/\b<w2.heap.size)\/b=w3.heap.size) w3.heap.size g n B tb tn tc' L k m a ba bn bc (w7.drew) HPa.out hm.out hok'.out hao HNa.out) ?_; rintro e w8 hret; unfold uU at hret; obtain⟨e1,N,ya,yn,yc,y,ln,lc,g', D,L', rfl,bH,on,hP8,hc,_⟩:=hret; replace bH:Below w2.heap.size w7 w8:=(Hb7.out _ HBa.out).trans bH; have o1:=hP8.box.cell 1; simp only[List.getElem?_toArray,List.getElem?_cons_zero,List.getElem?_cons_succ] at o1; have s0:=(bH.cell (p:=⟨w.heap.size+1,0,none⟩) la).trans a0; have s1:=(bH.cell (p:=⟨w.heap.size+1,1,none⟩) la).trans a1; have s2:=(bH.cell (p:=⟨w.heap.size+1,2,none⟩) la).trans a2; have s3:=(bH.cell (p:=⟨w.heap.size+1,3,none⟩) la).trans a3; have s4:=(bH.cell (p:=⟨w.heap.size+1,4,none⟩) la).trans a4; have s5:=(bH.cell (p:=⟨w.heap.size+1,5,none⟩) la).trans a5; have s6:=(bH.cell (p:=⟨w.heap.size+1,6,none⟩) la).trans a6; have m0:w3.heap.size≠w8.heap.size:=Nat.ne_of_lt hP8.box.lt; have m0':=m0.symm; have m1:w.heap.size+1≠w8.heap.size:=Nat.ne_of_lt (Nat.lt_of_lt_of_le Lb7.out bH.size); have m1':=m1.symm; clear on; replace bH:=hid bH; replace hP8:=hid hP8; replace hc:=hid hc) | (go_at_call 20; with_reducible refine Calls.mono (sP w2.heap.size (fun b=>((w.heap.size<=b/\b<w2.heap.size)\/b=w3.heap.size)\/b=w7.heap.size) w3.heap.size g n B tb tn tc' L k m a ba bn bc ((w7.alloc (.cells #[.int .i64 0,.int .i64 0,.slice none 0 0,.slice none 0 0] 41)).drew) HPb.out hm.out hok'.out hao HNb.out) ?_; rintro e w8 hret; unfold uU at hret; obtain⟨e1,N,ya,yn,yc,y,ln,lc,g', D,L', rfl,bH,on,hP8,hc,_⟩:=hret; replace bH:Below w2.heap.size w7 w8:=(Hb7.out _ HBb.out).trans bH; have o1:=hP8.box.cell 1; simp only[List.getElem?_toArray,List.getElem?_cons_zero,List.getElem?_cons_succ] at o1; have s0:=(bH.cell (p:=⟨w.heap.size+1,0,none⟩) la).trans a0; have s1:=(bH.cell (p:=⟨w.heap.size+1,1,none⟩) la).trans a1; have s2:=(bH.cell (p:=⟨w.heap.size+1,2,none⟩) la).trans a2; have s3:=(bH.cell (p:=⟨w.heap.size+1,3,none⟩) la).trans a3; have s4:=(bH.cell (p:=⟨w.heap.size+1,4,none⟩) la).trans a4; have s5:=(bH.cell (p:=⟨w.heap.size+1,5,none⟩) la).trans a5; have s6:=(bH.cell (p:=⟨w.heap.size+1,6,none⟩) la).trans a6; have ka:=on.cells Ka.out HnP.out; have t0:=ka.cell 0; have t1:=ka.cell 1; have t2:=ka.cell 2; have t3:=ka.cell 3; simp only[List.getElem?_toArray,List.getElem?_cons_zero,List.getElem?_cons_succ] at t0 t1 t2 t3; have f0:=ka.frozen 0; have f1:=ka.frozen 1; have f2:=ka.frozen 2; have f3:=ka.frozen 3; replace ka:=hid ka; have m0:w3.heap.size≠w8.heap.size:=Nat.ne_of_lt hP8.box.lt; have m0':=m0.symm; have m1:w.heap.size+1≠w8.heap.size:=Nat.ne_of_lt (Nat.lt_of_lt_of_le Lb7.out bH.size); have m1':=m1.symm; clear on; replace bH:=hid bH; replace hP8:=hid hP8; replace hc:=hid hc))
  all_goals (go_wp2_with fail; go_meet; first
   | with_reducible exact cD3 Hs.out bH.out (fun b y=>.inl y) hP8.out hc.out
   | with_reducible exact cD4 ka.out (.inr rfl) n0' (Nat.le_refl _) Hs.out bH.out (fun b y=>.inl (.inl y)) hP8.out hc.out)
 case rest=>
  have hcut':=hcut
  clear hcut
  unfold cG5 at hcut'
  obtain⟨q,e1,N,ya,yn,yc,y,ln,lc,g', D,L', X,rfl,kq,hqW,bC,hX,hP,hc⟩:=hcut'
  have hpbC:=hid (hpb.out.below (b3.out.trans ((hB7.out.mono l23.out).trans bC)))
  obtain⟨⟨q0,q1,z0,z1⟩,⟨y0,y1,y2,y3⟩,x0,x1,x2,x3⟩:=hQ.out wc hpbC.out
  have c0:=hP.box.cell 0
  have c1:=hP.box.cell 1
  have t0:=kq.cell 0
  have t1:=kq.cell 1
  have t2:=kq.cell 2
  have t3:=kq.cell 3
  simp only[List.getElem?_toArray,List.getElem?_cons_zero,List.getElem?_cons_succ] at c0 c1 t0 t1 t2 t3
  have l6:w.heap.size+1+1+1<w2.heap.size:=hpb.out.r7.lt
  have e1a:w.heap.size+1+1≠w3.heap.size:=by have:=l23.out; omega
  have e1b:=e1a.symm
  have e2a:w.heap.size+1+1+1≠w3.heap.size:=by have:=l23.out; omega
  have e2b:=e2a.symm
  have e3a:w.heap.size+1+1≠q:=by have:=l23.out; have:=hz7.out; omega
  have e3b:=e3a.symm
  have e4a:w.heap.size+1+1+1≠q:=by have:=l23.out; have:=hz7.out; omega
  have e4b:=e4a.symm
  have hX6:Hid (X (w.heap.size+1+1)):=hid (hX _ (by omega))
  have hX7:Hid (X (w.heap.size+1+1+1)):=hid (hX _ (by omega))
  have hfin:Hid (∀ wx,PSt w2.heap.size X wx w3.heap.size g' n D (some ⟨tb,0,none⟩) tn tc' L'->Below w.heap.size w wx->cG2 (.returned (.tuple #[.agg #[.slice (some ⟨g', 0,none⟩) n n,.slice (some ⟨tb,0,none⟩) tn tc'],.agg #[.int .i64 e1,.int .i64 N,.slice ya yn yc,.slice y ln lc],.int .i64 0])) wx n B tn l k a/\Below w.heap.size w wx):=hid (fun wx hPx bx=>⟨.inr ⟨hok.out,k,m.e,rfl,by rw[<-hL.out,List.getElem?_map,hm.out]; rfl,e1,N,ya,yn,yc,y,ln,lc,g', D,L'.map aY.e,_,tc', rfl,by have:=hc; rw[hL.out] at this; exact this,hPx.pool⟩,bx⟩)
  replace hP:=hid hP
  replace kq:=hid kq
  replace bC:=hid bC
  replace hX:=hid hX
  replace hc:=hid hc
  replace hqW:=hid hqW
  replace l6:=hid l6
  clear hQ
  go_upto_region 8 with fail
  go_region
  go_wp2_with fail
  refine bodyPost_ret (v:=.tuple #[.agg #[.slice (some ⟨g', 0,none⟩) n n,.slice (some ⟨tb,0,none⟩) tn tc'],.agg #[.int .i64 e1,.int .i64 N,.slice ya yn yc,.slice y ln lc],.int .i64 0]) (by rw[aS rfl]; go_simp) rfl ?_
  exact hfin.out (cH0 (uZ wc (w.heap.size+1+1) _ _) (w.heap.size+1+1+1) e1 N ya yn yc y ln lc).drew (((hP.out.kept (iD _ _ _ _) hX6.out e1a).kept (dM _ _ _ _ _ _ _ _ _ _) hX7.out e2a).below (aD _ _)) (((hpbC.out.bel.trans ((iD _ _ _ _).below (by omega))).trans ((dM _ _ _ _ _ _ _ _ _ _).below (by omega))).trans (aD _ _))
structure kY where
 e:Int
 N:Int
 ya:Option Addr
 yn:Nat
 yc:Nat
 y:Option Addr
 ln:Nat
 lc:Nat
def kY.zero:kY:=⟨0,0,none,0,0,none,0,0⟩
def lC (w:World)(rb n:Nat)(v:Nat->kY):Prop:=
 ∃ cs:Array Value,aC w rb cs 41/\cs.size=n*4/\∀ i,i<n->cs[i*4]? =some (.int .i64 (v i).e)/\cs[i*4+1]? =some (.int .i64 (v i).N)/\cs[i*4+2]? =some (.slice (v i).ya (v i).yn (v i).yc)/\cs[i*4+3]? =some (.slice (v i).y (v i).ln (v i).lc)
theorem lC.lt {w:World}{rb n:Nat}{v:Nat->kY}(h:lC w rb n v):rb<w.heap.size:=by
 obtain⟨cs,k,_⟩:=h
 exact k.lt
theorem lC.below {w w':World}{rb n:Nat}{v:Nat->kY}(h:lC w rb n v)(b:Below w.heap.size w w'):lC w' rb n v:=by
 obtain⟨cs,k,h1,h2⟩:=h
 exact⟨cs,k.below b,h1,h2⟩
theorem lC.only {M:Nat->Prop}{w w':World}{rb n:Nat}{v:Nat->kY}(h:lC w rb n v)(on:Only M w w')(hm:¬M rb):lC w' rb n v:=by
 obtain⟨cs,k,h1,h2⟩:=h
 exact⟨cs,on.cells k hm,h1,h2⟩
theorem lC.cells {w:World}{rb n:Nat}{v:Nat->kY}(h:lC w rb n v){i:Nat}(hi:i<n):w.cell? ⟨rb,i*4,none⟩=some (.int .i64 (v i).e)/\w.cell? ⟨rb,i*4+1,none⟩=some (.int .i64 (v i).N)/\w.cell? ⟨rb,i*4+2,none⟩=some (.slice (v i).ya (v i).yn (v i).yc)/\w.cell? ⟨rb,i*4+3,none⟩=some (.slice (v i).y (v i).ln (v i).lc):=by
 obtain⟨cs,k,h1,h2⟩:=h
 obtain⟨a,b,c,d⟩:=h2 i hi
 exact⟨(k.cell _).trans a,(k.cell _).trans b,(k.cell _).trans c,(k.cell _).trans d⟩
theorem lC.free {w:World}{rb n:Nat}{v:Nat->kY}(h:lC w rb n v)(i:Nat):w.frozen? ⟨rb,i,none⟩=false:=by
 obtain⟨cs,k,h1,h2⟩:=h
 exact k.frozen i
abbrev cT4 (w:World)(rb i:Nat)(e1 N:Int)(ya:Option Addr)(yn yc:Nat)(y:Option Addr)(ln lc:Nat):World:=(((w.setCell ⟨rb,i*4,none⟩ (.int .i64 e1)).setCell ⟨rb,i*4+1,none⟩ (.int .i64 N)).setCell ⟨rb,i*4+2,none⟩ (.slice ya yn yc)).setCell ⟨rb,i*4+3,none⟩ (.slice y ln lc)
theorem bT3 (w:World)(rb i:Nat)(e1 N:Int)(ya:Option Addr)(yn yc:Nat)(y:Option Addr)(ln lc:Nat):Kept rb w (cT4 w rb i e1 N ya yn yc y ln lc):=
 Kept.setCell (g:=rb) (Kept.setCell (g:=rb) (Kept.setCell (g:=rb) (Kept.setCell (g:=rb) (Kept.refl _ _) (p:=⟨rb,i*4,none⟩) rfl _) (p:=⟨rb,i*4+1,none⟩) rfl _) (p:=⟨rb,i*4+2,none⟩) rfl _) (p:=⟨rb,i*4+3,none⟩) rfl _
def bP1 (v:Nat->kY)(i:Nat)(x:kY):Nat->kY:=fun j=>if j=i then x else v j
theorem jZ (v:Nat->kY)(i:Nat)(x:kY):bP1 v i x i=x:=by simp[bP1]
theorem kD (v:Nat->kY){i j:Nat}(x:kY)(h:j≠i):bP1 v i x j=v j:=by simp[bP1,h]
theorem lC.put {w:World}{rb n:Nat}{v:Nat->kY}(h:lC w rb n v){i:Nat}(hi:i<n)(e1 N:Int)(ya:Option Addr)(yn yc:Nat)(y:Option Addr)(ln lc:Nat):lC (cT4 w rb i e1 N ya yn yc y ln lc) rb n (bP1 v i ⟨e1,N,ya,yn,yc,y,ln,lc⟩):=by
 obtain⟨cs,k,h1,h2⟩:=h
 have k':=(((k.set (i*4) (.int .i64 e1)).set (i*4+1) (.int .i64 N)).set (i*4+2) (.slice ya yn yc)).set (i*4+3) (.slice y ln lc)
 refine⟨_,k', by simp[h1],fun j hj=>?_⟩
 by_cases e:j=i
 ·subst e
  rw[jZ]
  simp only[Array.getElem?_setIfInBounds,Array.size_setIfInBounds]
  refine⟨?_,?_,?_,?_⟩<;>(simp; omega)
 ·rw[kD v _ e]
  obtain⟨a,b,c,d⟩:=h2 j hj
  simp only[Array.getElem?_setIfInBounds,Array.size_setIfInBounds]
  refine⟨?_,?_,?_,?_⟩
  ·rw[if_neg (by omega),if_neg (by omega),if_neg (by omega),if_neg (by omega)]; exact a
  ·rw[if_neg (by omega),if_neg (by omega),if_neg (by omega),if_neg (by omega)]; exact b
  ·rw[if_neg (by omega),if_neg (by omega),if_neg (by omega),if_neg (by omega)]; exact c
  ·rw[if_neg (by omega),if_neg (by omega),if_neg (by omega),if_neg (by omega)]; exact d
theorem lC.putE {w:World}{rb n:Nat}{v:Nat->kY}(h:lC w rb n v){i:Nat}(hi:i<n)(e1:Int):lC (w.setCell ⟨rb,i*4,none⟩ (.int .i64 e1)) rb n (bP1 v i { v i with e:=e1 }):=by
 obtain⟨cs,k,h1,h2⟩:=h
 have k':=(k.set (i*4) (.int .i64 e1))
 refine⟨_,k', by simp[h1],fun j hj=>?_⟩
 by_cases e:j=i
 ·subst e
  rw[jZ]
  obtain⟨a,b,c,d⟩:=h2 j hj
  simp only[Array.getElem?_setIfInBounds]
  refine⟨by simp; omega,?_,?_,?_⟩
  ·rw[if_neg (by omega)]; exact b
  ·rw[if_neg (by omega)]; exact c
  ·rw[if_neg (by omega)]; exact d
 ·rw[kD v _ e]
  obtain⟨a,b,c,d⟩:=h2 j hj
  simp only[Array.getElem?_setIfInBounds]
  refine⟨?_,?_,?_,?_⟩
  ·rw[if_neg (by omega)]; exact a
  ·rw[if_neg (by omega)]; exact b
  ·rw[if_neg (by omega)]; exact c
  ·rw[if_neg (by omega)]; exact d
structure iX where
 e:Int
 N:Int
 S:List ByteArray
 b:List Int
def iX.zero:iX:=⟨0,0,[],[]⟩
def kY.has (x:kY)(b:Nat):Prop:=(0<x.yn/\∃ off,x.ya=some ⟨b,off,none⟩)\/(0<x.ln/\∃ off,x.y=some ⟨b,off,none⟩)
structure kW (Q:Nat->Prop)(w:World)(x:kY)(d:iX):Prop where
 e:x.e=d.e
 n:x.N=d.N
 lists:mO Q w d.S d.b x.ya x.yn x.yc x.y x.ln x.lc
theorem kW.self {Q:Nat->Prop}{w:World}{x:kY}{d:iX}(h:kW Q w x d):kW (fun b=>Q b/\x.has b) w x d:=by
 refine⟨h.e,h.n,⟨h.lists.names.1,fun h0=>?_⟩,⟨h.lists.bytes.1,h.lists.bytes.2.1,fun h0=>?_⟩,h.lists.caps⟩
 ·obtain⟨b,off,e,h1,h2,h3⟩:=h.lists.names.2 h0
  exact⟨b,off,e,h1,⟨h2,.inl ⟨h0,off,e⟩⟩,h3⟩
 ·obtain⟨b,off,e,h1,h2,h3⟩:=h.lists.bytes.2.2 h0
  exact⟨b,off,e,h1,⟨h2,.inr ⟨h0,off,e⟩⟩,h3⟩
theorem kW.where {Q:Nat->Prop}{w:World}{x:kY}{d:iX}(h:kW Q w x d){b:Nat}(hb:x.has b):Q b/\b<w.heap.size:=by
 rcases hb with⟨h0,off,e⟩ | ⟨h0,off,e⟩
 ·obtain⟨c,o,e2,h1,h2,h3⟩:=h.lists.names.2 h0
  rw[e] at e2
  simp only[Option.some.injEq,Addr.mk.injEq] at e2
  obtain⟨rfl,_⟩:=e2
  exact⟨h2,h1⟩
 ·obtain⟨c,o,e2,h1,h2,h3⟩:=h.lists.bytes.2.2 h0
  rw[e] at e2
  simp only[Option.some.injEq,Addr.mk.injEq] at e2
  obtain⟨rfl,_⟩:=e2
  exact⟨h2,h1⟩
theorem kW.weaken {Q R:Nat->Prop}{w:World}{x:kY}{d:iX}(h:kW Q w x d)(hq:∀ b,b<w.heap.size->Q b->R b):kW R w x d:=⟨h.e,h.n,h.lists.weaken hq⟩
theorem kW.below {Q:Nat->Prop}{w w':World}{x:kY}{d:iX}(h:kW Q w x d)(b:Below w.heap.size w w'):kW Q w' x d:=⟨h.e,h.n,h.lists.below b⟩
theorem kW.kept {Q:Nat->Prop}{w w':World}{x:kY}{d:iX}{g:Nat}(h:kW Q w x d)(hq:∀ b,Q b->b≠g)(k:Kept g w w'):kW Q w' x d:=⟨h.e,h.n,h.lists.kept hq k⟩
theorem kW.only {M Q:Nat->Prop}{w w':World}{x:kY}{d:iX}(h:kW Q w x d)(on:Only M w w')(hq:∀ b,Q b->¬M b):kW Q w' x d:=⟨h.e,h.n,h.lists.only on hq⟩
theorem vG {b:Nat}(h:kY.zero.has b):False:=by
 rcases h with⟨h,_⟩ | ⟨h,_⟩<;>exact absurd h (by decide)
inductive eU (n:Nat)(B:Nat->Blk)(l:List aO):List (Int×aP)->(Nat->Blk)->List aO->List iX->Prop
 | nil:eU n B l [] B l []
 | miss (xs:List (Int×aP)) (D:Nat->Blk) (m:List aO) (ys:List iX) (i:Int) (a:aP):eU n B l xs D m ys->¬(0<=i/\i<(m.length:Int))->eU n B l (xs++[(i,a)]) D m (ys++[⟨5,0,[],[]⟩])
 | step (xs:List (Int×aP)) (D:Nat->Blk) (m:List aO) (ys:List iX) (k:Nat) (a:aP) (t:aO) (D':Nat->Blk) (m':List aO) (e1 N:Int):eU n B l xs D m ys->m[k]? =some t->Bytes a.bytes->dQ n D m k t a D' m' e1 N->eU n B l (xs++[((k:Int),a)]) D' m' (ys++[⟨e1,N,aH7 t a,aH9 D t a⟩])
abbrev XR (X:Nat->Prop)(v:Nat->kY):Nat->Prop:=fun b=>X b\/∃ i,(v i).has b
structure bX6 (H:Nat)(X:Nat->Prop)(W w:World)(ob rb n q:Nat)(B:Nat->Blk)(l:List aO)(xs:List (Int×aP))(ta:Option Addr)(tn tc:Nat)(k g:Nat)(D:Nat->Blk)(L:List aY)(v:Nat->kY)(ys:List iX):Prop where
 bel:Below H W w
 st:PSt H (XR X v) w ob g n D ta tn tc L
 ans:lC w rb q v
 todo:∀ i,k<=i->v i=kY.zero
 ok:aQ n D (L.map aY.e)
 runs:eU n B l (xs.take k) D (L.map aY.e) ys
 len:ys.length=k
 told:∀ i,i<k->kW (fun b=>rb<b) w (v i) (ys.getD i iX.zero)
 xrb:X rb/\ob<rb/\H<=rb
theorem bX6.below {H:Nat}{X:Nat->Prop}{W w w':World}{ob rb n q:Nat}{B:Nat->Blk}{l:List aO}{xs:List (Int×aP)}{ta:Option Addr}{tn tc k g:Nat}{D:Nat->Blk}{L:List aY}{v:Nat->kY}{ys:List iX}(h:bX6 H X W w ob rb n q B l xs ta tn tc k g D L v ys)(b:Below w.heap.size w w'):bX6 H X W w' ob rb n q B l xs ta tn tc k g D L v ys:=
 ⟨h.bel.trans (b.mono h.st.mine.sz),h.st.below b,h.ans.below b,h.todo,h.ok,h.runs,h.len,fun i hi=>(h.told i hi).below b,h.xrb⟩
theorem aZ0 {xs:List (Int×aP)}{k:Nat}{x:Int×aP}(h:xs[k]? =some x):xs.take (k+1)=xs.take k++[x]:=by
 obtain⟨h1,rfl⟩:=List.getElem?_eq_some_iff.1 h
 rw[List.take_add_one,List.getElem?_eq_getElem h1]
 rfl
theorem aO1 {ys:List iX}{k i:Nat}(d:iX)(hl:ys.length=k):(ys++[d]).getD i iX.zero=if i=k then d else ys.getD i iX.zero:=by
 subst hl
 by_cases e:i=ys.length
 ·subst e; simp[List.getD]
 ·rw[if_neg e]
  rcases Nat.lt_or_ge i ys.length with h | h
  ·simp[List.getD,List.getElem?_append_left h]
  ·have h1:(ys++[d])[i]? =none:=List.getElem?_eq_none (by simp; omega)
   have h2:ys[i]? =none:=List.getElem?_eq_none h
   simp[List.getD,h1,h2]
theorem bX6.miss {H:Nat}{X:Nat->Prop}{W w:World}{ob rb n q:Nat}{B:Nat->Blk}{l:List aO}{xs:List (Int×aP)}{ta:Option Addr}{tn tc k g:Nat}{D:Nat->Blk}{L:List aY}{v:Nat->kY}{ys:List iX}{i:Int}{a:aP}(h:bX6 H X W w ob rb n q B l xs ta tn tc k g D L v ys)(hk:k<q)(hx:xs[k]? =some (i,a))(hno:¬(0<=i/\i<(tn:Int))):bX6 H X W (w.setCell ⟨rb,k*4,none⟩ (.int .i64 5)) ob rb n q B l xs ta tn tc (k+1) g D L (bP1 v k { v k with e:=5 }) (ys++[⟨5,0,[],[]⟩]):=by
 have kk:Kept rb w (w.setCell ⟨rb,k*4,none⟩ (.int .i64 5)):=Kept.setCell (g:=rb) (Kept.refl _ _) (p:=⟨rb,k*4,none⟩) rfl _
 have hlen:=h.st.mine.len
 have hz:=h.todo k (Nat.le_refl _)
 have hst:=(h.st.kept kk (.inl h.xrb.1) (by have:=h.xrb.2.1; omega)).clear (Y:=XR X (bP1 v k { v k with e:=5 })) (Below.refl _ _) (fun b y=>by
  rcases y with y | ⟨i,y⟩
  ·exact .inl (.inl y)
  ·by_cases e:i=k
   ·subst e
    rw[jZ,hz] at y
    exact(vG y).elim
   ·rw[kD v _ e] at y
    exact .inl (.inr ⟨i,y⟩)) (h.st.hx.imp id (fun⟨i,y⟩=>⟨i,by
  by_cases e:i=k
  ·subst e
   rw[hz] at y
   exact(vG y).elim
  ·rw[kD v _ e]; exact y⟩))
 refine⟨h.bel.trans (kk.below h.xrb.2.2),hst,h.ans.putE hk 5,fun i hi=>?_,h.ok,?_,by rw[List.length_append,h.len]; rfl,fun i hi=>?_,h.xrb⟩
 ·rw[kD v _ (by omega)]; exact h.todo i (by omega)
 ·rw[aZ0 hx]
  exact .miss _ _ _ _ _ _ h.runs (by rw[List.length_map,hlen]; exact hno)
 ·rw[aO1 _ h.len]
  by_cases e:i=k
  ·subst e
   rw[jZ,if_pos rfl,hz]
   exact⟨rfl,rfl,yS _ _⟩
  ·rw[kD v _ e,if_neg e]
   exact(h.told i (by omega)).kept (fun b q=>by omega) kk
theorem bX6.step {H:Nat}{X:Nat->Prop}{W w w':World}{ob rb n q:Nat}{B:Nat->Blk}{l:List aO}{xs:List (Int×aP)}{tb tn tc k g g':Nat}{D D':Nat->Blk}{L L':List aY}{v:Nat->kY}{ys:List iX}{i:Nat}{a:aP}{m:aY}{e1 N:Int}{ya:Option Addr}{yn yc:Nat}{y:Option Addr}{ln lc:Nat}(h:bX6 H X W w ob rb n q B l xs (some ⟨tb,0,none⟩) tn tc k g D L v ys)(hk:k<q)(hx:xs[k]? =some ((i:Int),a))(hm:L[i]? =some m)(hb:Bytes a.bytes)
 (bH:Below H w w') (on:Only (PM ob tb tn tc L) w w') (hP:PSt H (XR X v) w' ob g' n D' (some ⟨tb,0,none⟩) tn tc L') (hc:dQ n D (L.map aY.e) i m.e a D' (L'.map aY.e) e1 N) (hA:mO (fun b=>w.heap.size<=b) w' (aH7 m.e a) (aH9 D m.e a) ya yn yc y ln lc) (hf:(yn=0/\ln=0)\/PSt H (fun b=>XR X v b\/(w.heap.size<=b/\b<w'.heap.size)) w' ob g' n D' (some ⟨tb,0,none⟩) tn tc L'):
 bX6 H X W (cT4 w' rb k e1 N ya yn yc y ln lc) ob rb n q B l xs (some ⟨tb,0,none⟩) tn tc (k+1) g' D' L' (bP1 v k ⟨e1,N,ya,yn,yc,y,ln,lc⟩) (ys++[⟨e1,N,aH7 m.e a,aH9 D m.e a⟩]):=by
 have kk:=bT3 w' rb k e1 N ya yn yc y ln lc
 have hrl:=h.ans.lt
 have hmI:(L.map aY.e)[i]? =some m.e:=by rw[List.getElem?_map,hm]; rfl
 have hI:=hc.is h.ok hmI hb
 have hz:=h.todo k (Nat.le_refl _)
 have hnm:¬PM ob tb tn tc L rb:=fun f=>by
  rcases f with f | f
  ·have:=h.xrb.2.1; omega
  ·exact h.st.mine.rx _ f (.inl h.xrb.1)
 have hAo:kW (fun b=>w.heap.size<=b) w' ⟨e1,N,ya,yn,yc,y,ln,lc⟩ ⟨e1,N,aH7 m.e a,aH9 D m.e a⟩:=⟨rfl,rfl,hA⟩
 have hxo:XR X (bP1 v k ⟨e1,N,ya,yn,yc,y,ln,lc⟩) ob:=by
  rcases h.st.hx with x | ⟨j,x⟩
  ·exact .inl x
  ·refine .inr ⟨j,?_⟩
   by_cases e:j=k
   ·subst e
    rw[hz] at x
    exact(vG x).elim
   ·rw[kD v _ e]; exact x
 have hst:PSt H (XR X (bP1 v k ⟨e1,N,ya,yn,yc,y,ln,lc⟩)) w' ob g' n D' (some ⟨tb,0,none⟩) tn tc L':=by
  rcases hf with⟨h1,h2⟩ | hf
  ·refine hP.clear (Below.refl _ _) (fun b x=>?_) hxo
   rcases x with x | ⟨j,x⟩
   ·exact .inl (.inl x)
   ·by_cases e:j=k
    ·subst e
     rw[jZ] at x
     rcases x with⟨x,_⟩ | ⟨x,_⟩
     ·exact absurd x (by show ¬0<yn; omega)
     ·exact absurd x (by show ¬0<ln; omega)
    ·rw[kD v _ e] at x
     exact .inl (.inr ⟨j,x⟩)
  ·refine hf.clear (Below.refl _ _) (fun b x=>?_) hxo
   rcases x with x | ⟨j,x⟩
   ·exact .inl (.inl (.inl x))
   ·by_cases e:j=k
    ·subst e
     rw[jZ] at x
     have:=hAo.where x
     exact .inl (.inr this)
    ·rw[kD v _ e] at x
     exact .inl (.inl (.inr ⟨j,x⟩))
 refine⟨(h.bel.trans bH).trans (kk.below h.xrb.2.2),hst.kept kk (.inl h.xrb.1) (by have:=h.xrb.2.1; omega),(h.ans.only on hnm).put hk _ _ _ _ _ _ _ _,fun j hj=>?_,hI.ok,?_,by rw[List.length_append,h.len]; rfl,fun j hj=>?_,h.xrb⟩
 ·rw[kD v _ (by omega)]; exact h.todo j (by omega)
 ·rw[aZ0 hx]
  exact .step _ _ _ _ _ _ _ _ _ _ _ h.runs hmI hb hc
 ·rw[aO1 _ h.len]
  by_cases e:j=k
  ·subst e
   rw[jZ,if_pos rfl]
   exact(hAo.weaken (fun b _ q=>by omega)).kept (fun b q=>by omega) kk
  ·rw[kD v _ e,if_neg e]
   refine(((h.told j (by omega)).self.only on (fun b q f=>?_)).weaken (fun b _ q=>q.1)).kept (fun b q=>by omega) kk
   rcases f with f | f
   ·have:=h.xrb.2.1; have:=q.1; omega
   ·exact h.st.mine.rx _ f (.inr ⟨j,q.2⟩)
theorem Tryz.infoAns:(Tryz.prog.info? 41).map (fun i=>(i.zero,i.size,i.bytes))=some (some (.agg #[.int .i64 0,.int .i64 0,.slice none 0 0,.slice none 0 0]),4,64):=by kernel_rfl
theorem cB9 (n:Nat)(hn:n<=60)(w:World):∃ cs:Array Value,(Instr.makeSlice 32 (.int .i64 n) (.int .i64 n)).run Tryz.prog w=.ok (.slice (some ⟨w.heap.size,0,none⟩) n n) (w.alloc (.cells cs 41))/\lC (w.alloc (.cells cs 41)) w.heap.size n (fun _=>kY.zero):=by
 obtain⟨i0,hi,hz0,hz1,hz2⟩:=info_parts Tryz.infoAns
 refine⟨madeCells (Value.agg #[.int .i64 0,.int .i64 0,.slice none 0 0,.slice none 0 0]).cells (n*4),?_,?_⟩
 ·rw[run_makeSlice (P:=Tryz.prog) w 32 41 i0 _ Tryz.underlying32 hi hz0 .i64 .i64 n n (by omega) (by omega) (by rw[hz1]; omega) (by rw[hz2]; omega) (by omega),hz1]
  simp
 ·refine⟨_,aB w _ _,by simp[madeCells],fun i hi=>?_⟩
  have h:=fun k hk=>aM5 n i k hi hk
  have h0:=h 0 (by omega)
  have h1:=h 1 (by omega)
  have h2:=h 2 (by omega)
  have h3:=h 3 (by omega)
  simp only[Array.getElem?_toList] at h0 h1 h2 h3
  exact⟨h0,h1,h2,h3⟩
end Go.Proofs.YtjafgnohlkkopaaGreatDoor
namespace Go.Proofs.YtjafgnohlkkopaaGreatDoor
open Go.RowKit Go.Shelf
abbrev tabN : String := Rows.viewLikeRow.named.headD default
def Tryz.lays156_ren : Go.Shelf.Ren := ⟨fun | 156 => 43 | 165 => 75 | 166 => 42 | 169 => 49 | 240 => 74 | 241 => 99 | 276 => 98 | 277 => 127 | n => n, fun | 31 => 39 | 9 => 9 | 3 => 3 | 4 => 4 | 0 => 0 | 20 => 20 | 72 => 95 | 76 => 98 | 70 => 93 | 37 => 28 | 75 => 97 | 127 => 151 | 164 => 172 | 5 => 5 | 80 => 114 | n => n, fun | n => n⟩
theorem Tryz.lays156 : Go.Proofs.Lays.n156 Tryz.prog Tryz.lays156_ren := {
  mixed := by kernel_rfl
  f156 := Tryz.func43.trans (congrArg some (by kernel_rfl))
  f165 := Tryz.func75.trans (congrArg some (by kernel_rfl))
  f166 := Tryz.func42.trans (congrArg some (by kernel_rfl))
  f169 := Tryz.func49.trans (congrArg some (by kernel_rfl))
  f240 := Tryz.func74.trans (congrArg some (by kernel_rfl))
  f241 := Tryz.func99.trans (congrArg some (by kernel_rfl))
  f276 := Tryz.func98.trans (congrArg some (by kernel_rfl))
  f277 := Tryz.func127.trans (congrArg some (by kernel_rfl))
  t0 := Tryz.underlying0
  a0 := Tryz.isAgg0
  z0 := Tryz.sizeOf0
  v0 := Tryz.zeroValue0
  t3 := Tryz.underlying3
  a3 := Tryz.isAgg3
  z3 := Tryz.sizeOf3
  v3 := Tryz.zeroValue3
  t4 := Tryz.underlying4
  a4 := Tryz.isAgg4
  z4 := Tryz.sizeOf4
  v4 := Tryz.zeroValue4
  t9 := Tryz.underlying9
  a9 := Tryz.isAgg9
  z9 := Tryz.sizeOf9
  v9 := Tryz.zeroValue9
  t20 := Tryz.underlying20
  a20 := Tryz.isAgg20
  z20 := Tryz.sizeOf20
  v20 := Tryz.zeroValue20
  t31 := Tryz.underlying39
  a31 := Tryz.isAgg39
  z31 := Tryz.sizeOf39
  v31 := Tryz.zeroValue39
  t37 := Tryz.underlying28
  a37 := Tryz.isAgg28
  z37 := Tryz.sizeOf28
  v37 := Tryz.zeroValue28
  t70 := Tryz.underlying93
  a70 := Tryz.isAgg93
  z70 := Tryz.sizeOf93
  v70 := Tryz.zeroValue93
  t72 := Tryz.underlying95
  a72 := Tryz.isAgg95
  z72 := Tryz.sizeOf95
  v72 := Tryz.zeroValue95
  t75 := Tryz.underlying97
  a75 := Tryz.isAgg97
  z75 := Tryz.sizeOf97
  v75 := Tryz.zeroValue97
  t76 := Tryz.underlying98
  a76 := Tryz.isAgg98
  z76 := Tryz.sizeOf98
  v76 := Tryz.zeroValue98
  t127 := Tryz.underlying151
  a127 := Tryz.isAgg151
  z127 := Tryz.sizeOf151
  v127 := Tryz.zeroValue151
  t164 := Tryz.underlying172
  a164 := Tryz.isAgg172
  z164 := Tryz.sizeOf172
  v164 := Tryz.zeroValue172 }
theorem Tryz.Builder_Extra_156 : Builder.Extra Tryz.prog Tryz.lays156_ren := {
  sizeBuilder := by kernel_rfl
  liesBuilder := by kernel_rfl
  t5 := Tryz.underlying5
  a5 := Tryz.isAgg5
  z5 := Tryz.sizeOf5
  v5 := Tryz.zeroValue5
  infoByte := by kernel_rfl
  cellsByte := by kernel_rfl
  sizeByte := by kernel_rfl
  neB5 := by decide }
open Go.RowKit in
theorem Tryz.strings_Join (bk o c : Nat) (xs : List ByteArray) (sep : ByteArray) (w : World) (hcells : ∀ (j : Nat) x, xs[j]? = some x → w.cell? ⟨bk, o + j, none⟩ = some (.string x)) (hbk : bk < w.heap.size) (hN : xs.length ≤ 140737488355328) (hcap : xs.length ≤ c) (hlen : (Lib.join (xs.map (·.data.toList)) sep.data.toList).length ≤ 140737488355328) :
    Calls Tryz.prog 43 #[.slice (some ⟨bk, o, none⟩) xs.length c, .string sep] w fun e w' => e = .returned (.string ⟨(Lib.join (xs.map (·.data.toList)) sep.data.toList).toArray⟩) ∧ Below w.heap.size w w' := Any.strings_Join Tryz.lays156 Tryz.Builder_Extra_156 bk o c xs sep w hcells hbk hN hcap hlen
def Tryz.lays169_ren : Go.Shelf.Ren := ⟨fun | 169 => 49 | n => n, fun | 70 => 93 | 9 => 9 | 0 => 0 | 72 => 95 | 37 => 28 | 127 => 151 | 3 => 3 | 5 => 5 | n => n, fun | n => n⟩
theorem Tryz.lays169 : Go.Proofs.Lays.n169 Tryz.prog Tryz.lays169_ren := {
  mixed := by kernel_rfl
  f169 := Tryz.func49.trans (congrArg some (by kernel_rfl))
  t0 := Tryz.underlying0
  a0 := Tryz.isAgg0
  z0 := Tryz.sizeOf0
  v0 := Tryz.zeroValue0
  t3 := Tryz.underlying3
  a3 := Tryz.isAgg3
  z3 := Tryz.sizeOf3
  v3 := Tryz.zeroValue3
  t9 := Tryz.underlying9
  a9 := Tryz.isAgg9
  z9 := Tryz.sizeOf9
  v9 := Tryz.zeroValue9
  t37 := Tryz.underlying28
  a37 := Tryz.isAgg28
  z37 := Tryz.sizeOf28
  v37 := Tryz.zeroValue28
  t70 := Tryz.underlying93
  a70 := Tryz.isAgg93
  z70 := Tryz.sizeOf93
  v70 := Tryz.zeroValue93
  t72 := Tryz.underlying95
  a72 := Tryz.isAgg95
  z72 := Tryz.sizeOf95
  v72 := Tryz.zeroValue95
  t127 := Tryz.underlying151
  a127 := Tryz.isAgg151
  z127 := Tryz.sizeOf151
  v127 := Tryz.zeroValue151 }
theorem Tryz.Builder_Extra_169 : Builder.Extra Tryz.prog Tryz.lays169_ren := {
  sizeBuilder := by kernel_rfl
  liesBuilder := by kernel_rfl
  t5 := Tryz.underlying5
  a5 := Tryz.isAgg5
  z5 := Tryz.sizeOf5
  v5 := Tryz.zeroValue5
  infoByte := by kernel_rfl
  cellsByte := by kernel_rfl
  sizeByte := by kernel_rfl
  neB5 := by decide }
open Go.RowKit in
theorem Tryz.Builder_String_any_k (B b : Nat) (l : List UInt8) (w : World) (h : Lib.IsBuilderF 95 5 B b (Lib.byteCells l) w) (hBw : B ≤ w.heap.size) :
    Calls Tryz.prog 49 #[.pointer (some ⟨b, 0, none⟩)] w fun e w' => e = .returned (.string ⟨l.toArray⟩) ∧ (Lib.IsBuilderF 95 5 B b (Lib.byteCells l) w' ∧ Below B w w' ∧ Lib.OthersKept 5 (some b) w w') := Any.Builder_String_any_k Tryz.lays169 Tryz.Builder_Extra_169 B b l w h hBw
def Tryz.laysM171_ren : Go.Shelf.Ren := ⟨fun | 171 => 47 | 243 => 78 | 246 => 103 | 283 => 137 | 284 => 138 | 285 => 139 | 286 => 140 | 129 => 159 | 317 => 158 | 318 => 160 | 319 => 161 | 320 => 162 | 337 => 173 | 338 => 174 | n => n, fun | 3 => 3 | 9 => 9 | 2 => 2 | 4 => 4 | 171 => 207 | 0 => 0 | 53 => 127 | 37 => 28 | 5 => 5 | 173 => 210 | 212 => 228 | 51 => 124 | 20 => 20 | 213 => 229 | 46 => 73 | 232 => 251 | 233 => 252 | n => n, fun | 17 => 1 | 18 => 2 | 19 => 3 | n => n⟩
theorem Tryz.laysM171 : Go.Proofs.LaysM.n171 Tryz.prog Tryz.laysM171_ren := {
  mixed := by kernel_rfl
  f129 := Tryz.func159.trans (congrArg some (by kernel_rfl))
  f171 := Tryz.func47.trans (congrArg some (by kernel_rfl))
  f243 := Tryz.func78.trans (congrArg some (by kernel_rfl))
  f246 := Tryz.func103.trans (congrArg some (by kernel_rfl))
  f283 := Tryz.func137.trans (congrArg some (by kernel_rfl))
  f284 := Tryz.func138.trans (congrArg some (by kernel_rfl))
  f285 := Tryz.func139.trans (congrArg some (by kernel_rfl))
  f286 := Tryz.func140.trans (congrArg some (by kernel_rfl))
  f317 := Tryz.func158.trans (congrArg some (by kernel_rfl))
  f318 := Tryz.func160.trans (congrArg some (by kernel_rfl))
  f319 := Tryz.func161.trans (congrArg some (by kernel_rfl))
  f320 := Tryz.func162.trans (congrArg some (by kernel_rfl))
  f337 := Tryz.func173.trans (congrArg some (by kernel_rfl))
  f338 := Tryz.func174.trans (congrArg some (by kernel_rfl))
  t0 := Tryz.underlying0
  a0 := Tryz.isAgg0
  z0 := Tryz.sizeOf0
  v0 := Tryz.zeroValue0
  t2 := Tryz.underlying2
  a2 := Tryz.isAgg2
  z2 := Tryz.sizeOf2
  v2 := Tryz.zeroValue2
  t3 := Tryz.underlying3
  a3 := Tryz.isAgg3
  z3 := Tryz.sizeOf3
  v3 := Tryz.zeroValue3
  t4 := Tryz.underlying4
  a4 := Tryz.isAgg4
  z4 := Tryz.sizeOf4
  v4 := Tryz.zeroValue4
  t5 := Tryz.underlying5
  a5 := Tryz.isAgg5
  z5 := Tryz.sizeOf5
  v5 := Tryz.zeroValue5
  t9 := Tryz.underlying9
  a9 := Tryz.isAgg9
  z9 := Tryz.sizeOf9
  v9 := Tryz.zeroValue9
  t20 := Tryz.underlying20
  a20 := Tryz.isAgg20
  z20 := Tryz.sizeOf20
  v20 := Tryz.zeroValue20
  t37 := Tryz.underlying28
  a37 := Tryz.isAgg28
  z37 := Tryz.sizeOf28
  v37 := Tryz.zeroValue28
  t46 := Tryz.underlying73
  a46 := Tryz.isAgg73
  z46 := Tryz.sizeOf73
  v46 := Tryz.zeroValue73
  t51 := Tryz.underlying124
  a51 := Tryz.isAgg124
  z51 := Tryz.sizeOf124
  v51 := Tryz.zeroValue124
  t53 := Tryz.underlying127
  a53 := Tryz.isAgg127
  z53 := Tryz.sizeOf127
  v53 := Tryz.zeroValue127
  t171 := Tryz.underlying207
  a171 := Tryz.isAgg207
  z171 := Tryz.sizeOf207
  v171 := Tryz.zeroValue207
  t173 := Tryz.underlying210
  a173 := Tryz.isAgg210
  z173 := Tryz.sizeOf210
  v173 := Tryz.zeroValue210
  t212 := Tryz.underlying228
  a212 := Tryz.isAgg228
  z212 := Tryz.sizeOf228
  v212 := Tryz.zeroValue228
  t213 := Tryz.underlying229
  a213 := Tryz.isAgg229
  z213 := Tryz.sizeOf229
  t232 := Tryz.underlying251
  a232 := Tryz.isAgg251
  z232 := Tryz.sizeOf251
  v232 := Tryz.zeroValue251
  t233 := Tryz.underlying252
  a233 := Tryz.isAgg252
  z233 := Tryz.sizeOf252
  v233 := Tryz.zeroValue252
  g17 := by kernel_rfl
  g18 := by kernel_rfl
  g19 := by kernel_rfl
  i0 := by kernel_rfl
  i2 := by kernel_rfl
  i3 := by kernel_rfl
  i4 := by kernel_rfl
  i5 := by kernel_rfl
  i9 := by kernel_rfl
  i20 := by kernel_rfl
  i37 := by kernel_rfl
  i46 := by kernel_rfl
  i51 := by kernel_rfl
  i53 := by kernel_rfl
  i171 := by kernel_rfl
  i173 := by kernel_rfl
  i212 := by kernel_rfl
  i232 := by kernel_rfl
  i233 := by kernel_rfl
  m17 := by kernel_rfl
  m18 := by kernel_rfl
  m19 := by kernel_rfl }
open Go.RowKit Go.Sort Go.Lib in
theorem Tryz.strconv_Itoa (n : Int) (h0 : -9223372036854775808 ≤ n) (h1 : n ≤ 9223372036854775807) (w : World) (htab : Lib.TabIs Tryz.prog w tabN .u64 Lib.pow10Tab) :
    Calls Tryz.prog 47 #[.int .i64 n] w fun e w' => e = .returned (.string ⟨(Lib.itoa n).toArray⟩) ∧ ∃ k os, w' = grow (w.drewN k) os := Any.strconv_Itoa Tryz.laysM171 n h0 h1 w htab
def Tryz.lays167_ren : Go.Shelf.Ren := ⟨fun | 167 => 44 | 240 => 74 | 276 => 98 | n => n, fun | 31 => 39 | 9 => 9 | 3 => 3 | 4 => 4 | 0 => 0 | 20 => 20 | 72 => 95 | 76 => 98 | 70 => 93 | 37 => 28 | 75 => 97 | 127 => 151 | 164 => 172 | 5 => 5 | 80 => 114 | n => n, fun | n => n⟩
theorem Tryz.lays167 : Go.Proofs.Lays.n167 Tryz.prog Tryz.lays167_ren := {
  mixed := by kernel_rfl
  f167 := Tryz.func44.trans (congrArg some (by kernel_rfl))
  f240 := Tryz.func74.trans (congrArg some (by kernel_rfl))
  f276 := Tryz.func98.trans (congrArg some (by kernel_rfl))
  t0 := Tryz.underlying0
  a0 := Tryz.isAgg0
  z0 := Tryz.sizeOf0
  v0 := Tryz.zeroValue0
  t4 := Tryz.underlying4
  a4 := Tryz.isAgg4
  z4 := Tryz.sizeOf4
  v4 := Tryz.zeroValue4
  t5 := Tryz.underlying5
  a5 := Tryz.isAgg5
  z5 := Tryz.sizeOf5
  v5 := Tryz.zeroValue5
  t9 := Tryz.underlying9
  a9 := Tryz.isAgg9
  z9 := Tryz.sizeOf9
  v9 := Tryz.zeroValue9
  t20 := Tryz.underlying20
  a20 := Tryz.isAgg20
  z20 := Tryz.sizeOf20
  v20 := Tryz.zeroValue20
  t37 := Tryz.underlying28
  a37 := Tryz.isAgg28
  z37 := Tryz.sizeOf28
  v37 := Tryz.zeroValue28
  t70 := Tryz.underlying93
  a70 := Tryz.isAgg93
  z70 := Tryz.sizeOf93
  v70 := Tryz.zeroValue93
  t72 := Tryz.underlying95
  a72 := Tryz.isAgg95
  z72 := Tryz.sizeOf95
  v72 := Tryz.zeroValue95
  t75 := Tryz.underlying97
  a75 := Tryz.isAgg97
  z75 := Tryz.sizeOf97
  v75 := Tryz.zeroValue97
  t164 := Tryz.underlying172
  a164 := Tryz.isAgg172
  z164 := Tryz.sizeOf172
  v164 := Tryz.zeroValue172
}
theorem Tryz.Builder_Extra_167 : Builder.Extra Tryz.prog Tryz.lays167_ren := {
  sizeBuilder := by kernel_rfl
  liesBuilder := by kernel_rfl
  t5 := Tryz.underlying5
  a5 := Tryz.isAgg5
  z5 := Tryz.sizeOf5
  v5 := Tryz.zeroValue5
  infoByte := by kernel_rfl
  cellsByte := by kernel_rfl
  sizeByte := by kernel_rfl
  neB5 := by decide }
theorem Tryz.Builder_WriteByte_k (B b : Nat) (bs : List Value) (c : Int) (w : World) (h : Lib.IsBuilderF 95 5 B b bs w) (hlen : bs.length + 1 ≤ 140737488355328) (hBw : B ≤ w.heap.size) :
    Calls Tryz.prog 44 #[.pointer (some ⟨b, 0, none⟩), .int .u8 c] w fun e w' => e = .returned .nilIface ∧ (Lib.BuilderAtF 95 5 B b (.pointer (some ⟨b, 0, none⟩)) (bs ++ [.int .u8 c]) w' ∧ Below B w w' ∧ Lib.OthersKept 5 (some b) w w') := Any.Builder_WriteByte_k Tryz.lays167 Tryz.Builder_Extra_167 B b bs c w h hlen hBw
theorem Tryz.Builder_WriteString_k (B b : Nat) (bs : List Value) (s : ByteArray) (w : World) (h : Lib.IsBuilderF 95 5 B b bs w) (hlen : bs.length + s.size ≤ 140737488355328) (hBw : B ≤ w.heap.size) :
    Calls Tryz.prog 42 #[.pointer (some ⟨b, 0, none⟩), .string s] w fun e w' => e = .returned (.tuple #[.int .i64 s.size, .nilIface]) ∧ (Lib.BuilderAtF 95 5 B b (.pointer (some ⟨b, 0, none⟩)) (bs ++ Lib.strCells s) w' ∧ Below B w w' ∧ Lib.OthersKept 5 (some b) w w') := Any.Builder_WriteString_k { Tryz.lays156 with } Tryz.Builder_Extra_156 B b bs s w h hlen hBw
end Go.Proofs.YtjafgnohlkkopaaGreatDoor
namespace Go.Proofs.YtjafgnohlkkopaaGreatDoor
open Go.RowKit
theorem aG5 {w:World}{k:Nat}{o:Obj}(h:w.heap[k]? =some o):k<w.heap.size:=(Array.getElem?_eq_some_iff.1 h).1
def Bld (B b:Nat)(l:List UInt8)(w:World):Prop:=Lib.IsBuilderF 95 5 B b (Lib.byteCells l) w
theorem bF7 {w w':World}{base:Nat}{e:TypeId}{size:Nat}{v:Value}{n:Nat}{xs:List Value}(h:w.ownsRowF base e size v n xs)(hb:Below w.heap.size w w'):w'.ownsRowF base e size v n xs:=by
 refine⟨h.1,?_⟩
 rcases h.2 with h | ⟨g,cap,cur,fz,h1,h2,h3,h4,h5,h6,h7,h8⟩
 ·exact .inl h
 ·refine .inr ⟨g,cap,cur,fz,h1,h2,?_,h4,h5,h6,h7,h8⟩
  rw[hb.block g (aG5 h3)]; exact h3
theorem yQ {T e:TypeId}{B b:Nat}{p:Value}{bs:List Value}{w w':World}(h:Lib.BuilderAtF T e B b p bs w)(hb:Below w.heap.size w w'):Lib.BuilderAtF T e B b p bs w':=by
 obtain⟨h1,v,h2,h3,h4⟩:=h
 exact⟨h1,v,by rw[hb.block b (aG5 h2)]; exact h2,bF7 h3 hb,h4⟩
theorem Bld.below {B b:Nat}{l:List UInt8}{w w':World}(h:Bld B b l w)(hb:Below w.heap.size w w'):Bld B b l w':=h.imp (yQ · hb) (yQ · hb)
theorem fU {e:TypeId}{b:Option Nat}{w w':World}(hb:Below w.heap.size w w'):Lib.OthersKept e b w w':=fun k o hk _ _=>by rw[hb.block k (aG5 hk)]; exact hk
theorem eP {e t:TypeId}{b g:Nat}{w w':World}{cs:Array Value}(h:Lib.OthersKept e (some b) w w')(hc:aC w g cs t)(hg:g≠b)(ht:t≠e):aC w' g cs t:=
 h g _ hc (by simpa using hg) (fun c fz h=>by simp at h; exact ht h.2.1)
def bX8 (n:Nat):UInt8:=[48,49,50,51,52,53,54,55,56,57,97,98,99,100,101,102].getD n 0
def aI5 (l:List Int):List UInt8:=l.flatMap fun x=>[bX8 (x.toNat / 16),bX8 (x.toNat%16)]
theorem yC (l:List Int):(aI5 l).length=2*l.length:=by
 unfold aI5
 induction l with
 | nil=>rfl
 | cons x l ih=>rw[List.flatMap_cons,List.length_append,ih,List.length_cons]; simp; omega
theorem bT5 (l:List Int)(x:Int):aI5 (l++[x])=aI5 l++[bX8 (x.toNat / 16),bX8 (x.toNat%16)]:=by simp[aI5]
theorem aN8 (k:Nat)(hk:k<16)(w:World):(Instr.index 9 (.string { data:=#[48,49,50,51,52,53,54,55,56,57,97,98,99,100,101,102] }) (.int .u8 (k:Int))).run Tryz.prog w=.ok (.int .u8 ((bX8 k).toNat:Int)) w:=by
 rw[run_index_string (P:=Tryz.prog) (w:=w) 9 _ .u8 (k:Int) Tryz.underlying9,dif_pos ⟨by omega,by show (k:Int)<16; omega⟩]
 have key:∀ k (h:k<16),(#[48,49,50,51,52,53,54,55,56,57,97,98,99,100,101,102]:Array UInt8)[k]'(by simpa using h)=bX8 k:=by decide
 have e:=key k hk
 congr 3
 rw[<-e]
 simp only[Int.toNat_natCast]
 rfl
theorem cB8 (n:Nat)(hn:n<=256)(w:World):∃ w', (Instr.makeSlice 28 (.int .i64 0) (.int .i64 (2*(n:Int)))).run Tryz.prog w=.ok (.slice (some ⟨w.heap.size,0,none⟩) 0 (2*n)) w'/\w'.ownsRow w.heap.size 5 1 (.slice (some ⟨w.heap.size,0,none⟩) 0 (2*n)) 0 []/\w.grownBy w' none:=by
 obtain⟨i0,hi,hz0,hz1,hz2⟩:=info_parts Tryz.infoByte
 have:=run_makeSlice_owned (P:=Tryz.prog) (w:=w) w.heap.size 28 5 i0 _ 1 Tryz.underlying28 hi hz0 hz1 .i64 .i64 (2*n) (by omega) (by rw[hz2]; omega) (by unfold maxLen; omega) (Nat.le_refl _)
 simpa using this
theorem cA6 (w:World)(u v:Value)(t:TypeId):∀ j x,([u,v]:List Value)[j]? =some x->(w.alloc (.cells #[u,v] t)).cell? ((⟨w.heap.size,0,none⟩:Addr).add j)=some x:=by
 intro j x hj
 match j,hj with
 | 0,hj=>simp at hj; subst hj; exact(aB w #[u,v] t).cell 0
 | 1,hj=>simp at hj; subst hj; exact(aB w #[u,v] t).cell 1
 | j+2,hj=>simp at hj
theorem bJ6 (Q:Nat->Prop)(a:Option Addr)(n c:Nat)(l:List Int)(w:World)(hn:n<=256)(hN:aI Q .u8 w a n l):
 Calls Tryz.prog 48 #[.slice a n c] w fun e w'=>e=.returned (.string ⟨(aI5 l).toArray⟩)/\Below w.heap.size w w':=by
 obtain⟨i0,hi0,hz0,hz1,hz2⟩:=info_parts Tryz.infoByte
 obtain⟨w1,hmk,hrow,hg⟩:=cB8 n hn w
 have hb1:=hid (Below.grown (Below.refl w.heap.size w) hg (Nat.le_refl _) (fun k hk=>by cases hk))
 have hw2:IntKind.i64.wrap (2*(n:Int))=2*(n:Int):=Go.IntWalk.i64_in _ (by omega)
 replace hN:=hid hN
 replace hrow:=hid hrow
 replace hg:=hid hg
 go_enter Tryz.func48,Tryz.ntmps48
 go_wp2_with fail
 clear hmk
 go_loopw [3,12] (fun u v wr=>∃ j:Nat,j<=n/\u=.slice (some ⟨w.heap.size,0,none⟩) (2*j) (2*n)/\v=.int .i64 j/\Below w.heap.size w wr/\wr.ownsRow w.heap.size 5 1 (.slice (some ⟨w.heap.size,0,none⟩) (2*j) (2*n)) (2*j) (Lib.byteCells (aI5 (l.take j)))) (fun _ v _=>n-(Go.RowKit.intOf v).toNat)
 case atStart=>exact⟨0,Nat.zero_le _,rfl,rfl,hb1.out,hrow.out⟩
 case round=>
  clear hrow hg hb1
  obtain⟨j,hj,rfl,rfl,hb,hr⟩:=hrel
  by_cases hlt:j<n
  ·obtain⟨kb,ko,rfl,hkb,_,hc⟩:=hN.out.2.2 (by omega)
   have hck:wr.cell? ⟨kb,ko+j,none⟩=some (.int .u8 (l.getD j 0)):=(hb.cell (p:=⟨kb,ko+j,none⟩) hkb).trans (hc j hlt)
   have hjl:j<l.length:=by rw[hN.out.1]; exact hlt
   have hby:=hN.out.bytes (l.getD j 0) (hN.out.getD hlt)
   have htk:Hid (aI5 (l.take (j+1))=aI5 (l.take j)++[bX8 ((l.getD j 0).toNat / 16),bX8 ((l.getD j 0).toNat%16)]):=hid (by
    rw[fJ hjl,bT5]
    )
   clear hc hjl
   generalize l.getD j 0=x at *
   obtain⟨k,rfl⟩:∃ k:Nat,x=(k:Int):=⟨x.toNat,by omega⟩
   have hk:k<256:=by omega
   obtain⟨p,hp⟩:∃ p:Nat,p=k / 16:=⟨_,rfl⟩
   obtain⟨q,hq⟩:∃ q:Nat,q=k%16:=⟨_,rfl⟩
   have hq1:IntKind.u8.wrap ((k:Int) / 16)=(p:Int):=by rw[IntKind.wrap_u8]; omega
   have hq2:(k:Int).tmod 16=(q:Int):=by rw[Int.tmod_eq_emod_of_nonneg (by omega)]; omega
   have hi1:=aN8 p (by omega)
   have hi2:=aN8 q (by omega)
   obtain⟨d1,hd1⟩:∃ d:Int,d=((bX8 p).toNat:Int):=⟨_,rfl⟩
   obtain⟨d2,hd2⟩:∃ d:Int,d=((bX8 q).toNat:Int):=⟨_,rfl⟩
   rw[<-hd1] at hi1
   rw[<-hd2] at hi2
   have bz:=aA wr (.cells #[.int .u8 d1,.int .u8 d2] 5)
   obtain⟨w3,hrun,hrow3,hg3⟩:=run_append_own_spare (P:=Tryz.prog) (wr.alloc (.cells #[.int .u8 d1,.int .u8 d2] 5)).drew w.heap.size 28 28 5 i0 1 Tryz.underlying28 hi0 hz1 w.heap.size (2*j) (2*n) _ (bY (bY hr bz) (aD _ _)) ⟨wr.heap.size,0,none⟩ 2 2 [.int .u8 d1,.int .u8 d2] rfl (cA6 _ _ _ _) (fun u hu=>by simp at hu; rcases hu with rfl | rfl<;>rfl) (by omega)
   have hfin:Hid (Below w.heap.size w w3/\w3.ownsRow w.heap.size 5 1 (.slice (some ⟨w.heap.size,0,none⟩) (2*(j+1)) (2*n)) (2*(j+1)) (Lib.byteCells (aI5 (l.take (j+1))))):=hid (by
    refine⟨(((hb.trans (bz.mono hb.size)).trans (aD _ _ |>.mono (by have:=hb.size; have:=bz.size; omega))).grown hg3 (by have:=hb.size; have:=bz.size; show _<=(wr.alloc _).heap.size; omega) (fun k hk=>by cases hk; exact Nat.le_refl _)),?_⟩
    rw[htk.out]
    have e:2*(j+1)=2*j+2:=by omega
    rw[e]
    have:=hrow3
    rw[hd1,hd2] at this
    simp only[Int.toNat_natCast,<-hp,<-hq]
    simpa [Lib.byteCells] using this)
   replace hb:=hid hb
   replace hr:=hid hr
   replace hd1:=hid hd1
   replace hd2:=hid hd2
   replace hp:=hid hp
   replace hq:=hid hq
   clear hrow3 hg3 bz hk hby
   go_upto_region 5 with fail
   go_region_law (refine nO rfl (.tmp 16) (.tmp 23) 28 rfl _ _ _ w3 rfl rfl hrun ?_)
   all_goals (
    go_wp2_with fail
    go_roundw
    case rel=>exact⟨j+1,by omega,by first | rfl | (congr 1),by go_num,hfin.out.1,hfin.out.2⟩
    case measure=>simp[Go.RowKit.intOf]; omega)
  ·obtain rfl:j=n:=by omega
   have hcv:(convert 28 9 (.slice (some ⟨w.heap.size,0,none⟩) (2*j) (2*j))).run Tryz.prog wr=.ok (.string ⟨(aI5 l).toArray⟩) wr:=by
    have hl:(aI5 l).length=2*j:=by rw[yC,hN.out.1]
    have ht:l.take j=l:=List.take_of_length_le (by rw[hN.out.1]; omega)
    rw[ht] at hr
    have:=run_convert_bytes_back (P:=Tryz.prog) wr 28 9 5 ⟨w.heap.size,0,none⟩ (2*j) (aI5 l) Tryz.underlying28 Tryz.underlying5 Tryz.underlying9 (fun q hq=>by
     have h2:=hr.cellAt q (by omega)
     rw[Lib.add_plain,Nat.zero_add,h2]
     simp[Lib.byteCells,hq])
    rw[hl] at this
    exact this
   replace hr:=hid hr
   go_wp2_with fail
   go_ret
   exact⟨rfl,hb⟩
def gP (xs:List ByteArray):List UInt8:=Lib.join (xs.map (·.data.toList)) [32]++[10]
theorem aJ6 (l:List UInt8):Lib.strCells ⟨l.toArray⟩=Lib.byteCells l:=by simp[Lib.strCells,Lib.byteCells]
theorem aF7 (B b:Nat)(l:List UInt8)(bk o c:Nat)(xs:List ByteArray)(w:World)(hb:Bld B b l w)(hBw:B<=w.heap.size)(hcells:∀ (j:Nat) x,xs[j]? =some x->w.cell? ⟨bk,o+j,none⟩=some (.string x))(hbk:bk<w.heap.size)(hcap:xs.length<=c)(hN:xs.length<=100)(hlen:l.length+(gP xs).length<=1000000000):
 Calls Tryz.prog 41 #[.slice (some ⟨bk,o,none⟩) xs.length c,.pointer (some ⟨b,0,none⟩)] w fun e w'=>e=.returned (.tuple #[])/\Bld B b (l++gP xs) w'/\Below B w w'/\Lib.OthersKept 5 (some b) w w':=by
 have hl2:l.length+(Lib.join (xs.map (·.data.toList)) [32]).length+1<=1000000000:=by
  unfold gP at hlen
  rw[List.length_append,List.length_singleton] at hlen
  omega
 replace hb:=hid hb
 replace hlen:=hid hlen
 replace hcells:=hid hcells
 replace hl2:=hid hl2
 go_enter Tryz.func41,Tryz.ntmps41
 go_wp2_with fail
 refine(Tryz.strings_Join bk o c xs (ByteArray.mk #[32]) w hcells.out hbk (by omega) hcap (by have:=hl2.out; show (Lib.join (xs.map (·.data.toList)) [32]).length<=_; omega)).mono ?_
 rintro e w1 ⟨rfl,b1⟩
 have hb1:=hid (hb.out.below b1)
 replace b1:=hid b1
 go_wp2_with fail
 refine(Tryz.Builder_WriteString_k B b (Lib.byteCells l) _ w1 hb1.out (by have:=hl2.out; rw[Lib.byteCells_length]; show _+(Lib.join (xs.map (·.data.toList)) [32]).toArray.size<=_; rw[List.size_toArray]; omega) (Nat.le_trans hBw b1.out.size)).mono ?_
 rintro e w2 ⟨rfl,h2,b2,o2⟩
 have h2':Hid (Bld B b (l++Lib.join (xs.map (·.data.toList)) [32]) w2):=hid (.inr (by
  rw[aJ6,<-Lib.byteCells_append] at h2
  exact h2))
 replace b2:=hid b2
 replace o2:=hid o2
 clear h2
 go_wp2_with fail
 refine(Tryz.Builder_WriteByte_k B b _ 10 w2 h2'.out (by have:=hl2.out; rw[Lib.byteCells_length,List.length_append]; omega) (Nat.le_trans (Nat.le_trans hBw b1.out.size) b2.out.size)).mono ?_
 rintro e w3 ⟨rfl,h3,b3,o3⟩
 replace h3:=hid h3
 replace o3:=hid o3
 go_wp2_with fail
 go_end0
 refine⟨rfl,.inr ?_,((b1.out.mono hBw).trans b2.out).trans b3,((fU b1.out).trans o2.out).trans o3.out⟩
 have e:Lib.byteCells (l++gP xs)=Lib.byteCells (l++Lib.join (xs.map (·.data.toList)) [32])++[.int .u8 10]:=by
  simp[gP,Lib.byteCells]
 rw[e]
 exact h3.out
end Go.Proofs.YtjafgnohlkkopaaGreatDoor
