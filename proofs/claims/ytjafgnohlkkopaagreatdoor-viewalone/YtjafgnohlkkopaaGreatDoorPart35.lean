import Derived.Test.YtjafgnohlkkopaaGreatDoorPart34
import Derived.Test.YtjafgnohlkkopaaGreatDoorPart33
import Derived.Deep.RegionHeld3
import Derived.Test.YtjafgnohlkkopaaGreatDoorPart01
import Derived.WalkKit
import Derived.ProofKit
import Derived.OpenShut
import Derived.Deep.Slices
import Derived.Lib.SmallJoins
import Derived.Test.YtjafgnohlkkopaaGreatDoorPart08
import Derived.Deep.Strs
import Derived.Test.YtjafgnohlkkopaaGreatDoorPart11
import Derived.Test.YtjafgnohlkkopaaGreatDoorPart32
import Derived.Stop.LaidErr
import Derived.LaidLaws
import Derived.SizedLaws
set_option linter.unusedVariables false
set_option maxHeartbeats 8000000
set_option maxRecDepth 100000
namespace Go.Proofs.YtjafgnohlkkopaaGreatDoor
open Go.RowKit
abbrev cQ7 (h:Nat):Array Value:=#[.int .i64 1,.string ⟨#[97]⟩,.string ⟨#[]⟩,.string ⟨#[]⟩,.int .i64 0,.int .i64 0,.slice none 0 0,.int .i64 3,.string ⟨#[97]⟩,.string ⟨#[102]⟩,.string ⟨#[]⟩,.int .i64 0,.int .i64 0,.slice (some ⟨h+1,0,none⟩) 2 2]
abbrev cL9 (w:World):World:=((w.alloc (.cells #[.int .i64 0,.int .i64 0] 3)).alloc (.cells #[.int .u8 104,.int .u8 105] 5 (2,3))).alloc (.cells (cQ7 w.heap.size) 30)
theorem cR4 (w:World):aI (fun _=>True) .i64 (cL9 w) (some ⟨w.heap.size,0,none⟩) 2 [0,0]/\kW (cL9 w) (some ⟨w.heap.size+1+1,0,none⟩) 2 [bW2,yT hi]/\Below w.heap.size w (cL9 w):=by
 have ba:=aA w (.cells #[.int .i64 0,.int .i64 0] 3)
 have bb:=aA (w.alloc (.cells #[.int .i64 0,.int .i64 0] 3)) (.cells #[.int .u8 104,.int .u8 105] 5 (2,3))
 have bd:=aA ((w.alloc (.cells #[.int .i64 0,.int .i64 0] 3)).alloc (.cells #[.int .u8 104,.int .u8 105] 5 (2,3))) (.cells (cQ7 w.heap.size) 30)
 have k0:=((aB w #[.int .i64 0,.int .i64 0] 3).below bb).below bd
 have n1:=(bZ9 (w.alloc (.cells #[.int .i64 0,.int .i64 0] 3)) [104,105] 5 (2,3) (by decide)).below bd
 have k3:=aB ((w.alloc (.cells #[.int .i64 0,.int .i64 0] 3)).alloc (.cells #[.int .u8 104,.int .u8 105] 5 (2,3))) (cQ7 w.heap.size) 30
 simp only[szB,List.length_cons,List.length_nil] at n1 k3
 have nz:aI (fun _=>True) .u8 (cL9 w) none 0 []:=⟨rfl,fun x hx=>(by cases hx),fun h=>absurd h (by omega)⟩
 refine⟨⟨rfl,fun x hx=>?_,fun _=>⟨w.heap.size,0,rfl,k0.lt,trivial,fun i hi=>?_⟩⟩,⟨rfl,fun _=>⟨w.heap.size+1+1,0,rfl,k3.lt,fun i hi=>?_⟩⟩,Below.tr (Below.tr ba bb) bd⟩
 ·simp only[List.mem_cons,List.not_mem_nil,or_false] at hx
  rcases hx with rfl | rfl<;>decide
 ·match i,hi with
  | 0,_=>exact k0.cell 0
  | 1,_=>exact k0.cell 1
 ·match i,hi with
  | 0,_=>exact⟨none,0,0,k3.cell 0,k3.cell 1,k3.cell 2,k3.cell 3,k3.cell 4,k3.cell 5,k3.cell 6,nz,okA _ _ _ _ (by decide) (by decide) (by decide) (by decide) (by decide),Nat.le_refl _⟩
  | 1,_=>exact⟨_,2,2,k3.cell 7,k3.cell 8,k3.cell 9,k3.cell 10,k3.cell 11,k3.cell 12,k3.cell 13,n1,okA _ _ _ _ (by decide) (by decide) (by decide) (by decide) (by decide),Nat.le_refl _⟩
theorem zQ (w:World)(htab:Lib.TabIs Tryz.prog w tabN .u64 Lib.pow10Tab):Calls Tryz.prog 11 #[] w fun e w'=>e=.returned (.bool true)/\Below w.heap.size w w':=by
 replace htab:=hid htab
 go_enter Tryz.func11,Tryz.ntmps11
 go_wp2_with fail
 refine(bL2 8 (by decide) (by decide) w).mono ?_
 rintro e w1 ⟨⟨a,c,ta,tc,rfl,hP⟩,b1⟩
 have bA:=hid (aA w1 (.cells #[.slice a 110 c,.slice ta 2 tc] 27))
 have kA:Hid (aC _ w1.heap.size #[.slice a 110 c,.slice ta 2 tc] 27):=hid (aB w1 _ _)
 replace hP:=hid (hP.below bA.out)
 replace b1:=hid (Below.tr b1 bA.out)
 go_upto_region 4 with fail
 generalize w1.alloc (.cells #[.slice a 110 c,.slice ta 2 tc] 27)=w2 at *
 have p0:=kA.out.cell 0
 have p1:=kA.out.cell 1
 simp only[List.getElem?_toArray,List.getElem?_cons_zero,List.getElem?_cons_succ] at p0 p1
 have kc:=Joins.run_convert_bytes_const_at (P:=Tryz.prog) (w2.alloc (.cells #[.int .i64 0,.int .i64 0] 3)) 28 5 #[.int .u8 104,.int .u8 105] 2 2 (w2.heap.size+1) (by simp) Tryz.underlying28 Tryz.underlying5
 go_wp2_with fail
 obtain⟨hW,hA,b5⟩:=cR4 w2
 have hok0:aR 110 B0 (l0 8):=cM4 (by decide) (by decide)
 refine(qZ (fun _=>True) a 110 c B0 ta 2 tc (l0 8) _ 2 [0,0] _ 2 2 [bW2,yT hi] (cL9 w2) (hP.out.below b5) hok0 hW hA (by omega)).mono ?_
 rintro e w6 ⟨hret,b6⟩
 unfold aQ7 at hret
 obtain⟨g,ta', tc', rb,D,l', v,ys,rfl,hPR,hAns,hokR,hruns,_,_⟩:=hret
 obtain⟨_,hu4,r,N1,N2,rfl,hfile,_⟩:=cT4 hiS (by decide) hok0 D l' ys hruns
 have bB:=hid (aA w6 (.cells #[.slice (some ⟨g,0,none⟩) 110 110,.slice ta' 2 tc'] 27))
 have kB:Hid (aC _ w6.heap.size #[.slice (some ⟨g,0,none⟩) 110 110,.slice ta' 2 tc'] 27):=hid (aB w6 _ _)
 have b26:=hid (Below.tr (Below.tr b5 b6) bB.out)
 replace hPR:=hid (hPR.below bB.out)
 replace hP:=hid (hP.out.below b26.out)
 replace kA:=hid (kA.out.below b26.out)
 replace b1:=hid (Below.tr b1.out b26.out)
 replace hokR:=hid hokR
 replace hfile:=hid hfile
 replace hu4:=hid hu4
 clear hruns hAns hW hA b5 b6 kc p0 p1 bA
 go_upto_region 5 with fail
 generalize w6.alloc (.cells #[.slice (some ⟨g,0,none⟩) 110 110,.slice ta' 2 tc'] 27)=w7 at *
 have q0:=kB.out.cell 0
 have q1:=kB.out.cell 1
 simp only[List.getElem?_toArray,List.getElem?_cons_zero,List.getElem?_cons_succ] at q0 q1
 go_wp2_with fail
 refine(wW (fun _=>True) (some ⟨g,0,none⟩) 110 110 D ta' 2 tc' (l2 8 r hi.length) 0 w7 hPR.out (eP htab.out b1.out)).mono ?_
 rintro e w8 ⟨hret,b8⟩
 unfold cE6 at hret
 rcases hret with⟨e', _,_,hno⟩ | ⟨k,t,N,hk,ht,_,hU,rfl⟩
 ·exact absurd ⟨hokR.out,by decide,by decide⟩ hno
 obtain rfl:k=0:=by omega
 obtain rfl:t=⟨1,8,[x1 r hi.length]⟩:=by simpa using ht.symm
 obtain rfl:N=4:=aI6 hokR.out hfile.out hu4.out hU
 rw[aZ8 hfile.out]
 replace hPR:=hid (hPR.out.below b8)
 replace hP:=hid (hP.out.below b8)
 replace kA:=hid (kA.out.below b8)
 replace kB:=hid (kB.out.below b8)
 replace b1:=hid (Below.tr b1.out b8)
 clear b8 q0 q1 ht hk
 have q0:=kB.out.cell 0
 have q1:=kB.out.cell 1
 have p0:=kA.out.cell 0
 have p1:=kA.out.cell 1
 simp only[List.getElem?_toArray,List.getElem?_cons_zero,List.getElem?_cons_succ] at q0 q1 p0 p1
 go_wp2_with fail
 refine(yZ (fun _=>True) (fun _=>True) a 110 c B0 ta 2 tc (l0 8) (some ⟨g,0,none⟩) 110 110 D ta' 2 tc' (l2 8 r hi.length) 1 w8 hP.out hPR.out (eP htab.out b1.out)).mono ?_
 rintro e w9 ⟨hret,b9⟩
 unfold cE8 at hret
 rcases hret with⟨e', _,_,hno⟩ | ⟨k,t,u,N,M,hk,ht,hu,_,_,hU1,hU2,rfl⟩
 ·exact absurd ⟨⟨hok0,by decide,by decide⟩,⟨hokR.out,by decide,by decide⟩⟩ hno
 obtain rfl:k=1:=by omega
 obtain rfl:t=⟨2,10,[]⟩:=by simpa using ht.symm
 obtain rfl:u=⟨2,10,[]⟩:=by simpa using hu.symm
 obtain rfl:=aI4 hU1
 obtain rfl:=aI4 hU2
 have hd:decide (jK B0 ⟨2,10,[]⟩ 0=jK D ⟨2,10,[]⟩ 0)=true:=decide_eq_true rfl
 rw[hd]
 replace hPR:=hid (hPR.out.below b9)
 replace hP:=hid (hP.out.below b9)
 replace kA:=hid (kA.out.below b9)
 replace kB:=hid (kB.out.below b9)
 replace b1:=hid (Below.tr b1.out b9)
 clear b9 q0 q1 p0 p1 ht hu hk hd hU1 hU2
 have q0:=kB.out.cell 0
 have q1:=kB.out.cell 1
 have p0:=kA.out.cell 0
 have p1:=kA.out.cell 1
 simp only[List.getElem?_toArray,List.getElem?_cons_zero,List.getElem?_cons_succ] at q0 q1 p0 p1
 go_wp2_with fail
 refine(yZ (fun _=>True) (fun _=>True) a 110 c B0 ta 2 tc (l0 8) (some ⟨g,0,none⟩) 110 110 D ta' 2 tc' (l2 8 r hi.length) 0 w9 hP.out hPR.out (eP htab.out b1.out)).mono ?_
 rintro e w10 ⟨hret,b10⟩
 unfold cE8 at hret
 rcases hret with⟨e', _,_,hno⟩ | ⟨k,t,u,N,M,hk,ht,hu,_,_,hU1,hU2,rfl⟩
 ·exact absurd ⟨⟨hok0,by decide,by decide⟩,⟨hokR.out,by decide,by decide⟩⟩ hno
 obtain rfl:k=0:=by omega
 obtain rfl:t=⟨1,8,[]⟩:=by simpa using ht.symm
 obtain rfl:u=⟨1,8,[x1 r hi.length]⟩:=by simpa using hu.symm
 obtain rfl:M=4:=aI6 hokR.out hfile.out hu4.out hU2
 have hd:decide (jK B0 ⟨1,8,[]⟩ N=jK D ⟨1,8,[x1 r hi.length]⟩ 4)=false:=decide_eq_false (by
  obtain⟨l,e⟩:=cI2 (D:=B0) (k:=1) (q:=8) (N:=N)
  rw[e,aZ8 hfile.out]
  intro f
  simp at f)
 rw[hd]
 replace b1:=hid (Below.tr b1.out b10)
 clear b10 q0 q1 p0 p1 ht hu hk hd hU1 hU2
 have hse:((ByteArray.mk ([115,101,116,32,97,10,32,102,32,50,32,54,56,54,57,10,117,115,101,115,32,52,32,111,102,32,56,10]:List UInt8).toArray).toList == (ByteArray.mk #[115,101,116,32,97,10,32,102,32,50,32,54,56,54,57,10,117,115,101,115,32,52,32,111,102,32,56,10]).toList)=true:=by simp
 go_wp2_with fail
 go_ret
 refine⟨?_,b1.out⟩
 first | rfl | simp
end Go.Proofs.YtjafgnohlkkopaaGreatDoor
namespace Go.Proofs.YtjafgnohlkkopaaGreatDoor
open Go.RowKit Go.Deep
theorem viewAlone_walk (pa:Option Addr)(n c:Nat)(B:Nat->Blk)(ta:Option Addr)(tn tc:Nat)(l:List aP)(wa:Option Addr)(wn wc:Nat)(who:List Int)(qa:Option Addr)(q qc:Nat)(ql:List aM)(i:Int)(w:World)(hP:fU (fun _=>True) w pa n B ta tn l)(hcw:wn<=wc)(hmw:wn<=maxLen)(hwho:aI (fun _=>True) .i64 w wa wn who)(hcq:q<=qc)(hmq:q<=maxLen)(hq:kW w qa q ql)(hbig:∀ x∈ql,x.bytes.length<=140737488351232)(hib:-9223372036854775808<=i/\i<=9223372036854775807)(htab:Lib.TabIs Tryz.prog w tabN .u64 Lib.pow10Tab):
 Calls Tryz.prog 6 #[.agg #[.slice pa n c,.slice ta tn tc],.slice wa wn wc,.slice qa q qc,.int .i64 i] w fun e w'=>e=.returned (.bool true)/\Below w.heap.size w w':=by
 have b0:=hid (aA w (.cells #[.slice pa n c,.slice ta tn tc] 27))
 have k0:Hid (aC _ w.heap.size #[.slice pa n c,.slice ta tn tc] 27):=hid (aB w _ _)
 replace hP:=hid hP
 replace hwho:=hid hwho
 replace hq:=hid hq
 replace hbig:=hid hbig
 replace htab:=hid htab
 replace hib:=hid hib
 clear hcw hcq
 go_enter Tryz.func6,Tryz.ntmps6
 go_upto_region 1 with fail
 generalize w.alloc (.cells #[.slice pa n c,.slice ta tn tc] 27)=w0 at *
 have p0:=k0.out.cell 0
 have p1:=k0.out.cell 1
 simp only[List.getElem?_toArray,List.getElem?_cons_zero,List.getElem?_cons_succ] at p0 p1
 go_wp2_with fail
 refine(bN9 (fun _=>True) pa n c B ta tn tc l wa wn wc who qa q qc ql w0 (hP.out.below b0.out) (hwho.out.below b0.out) (hq.out.below b0.out)).mono ?_
 rintro e w1 ⟨hr1,b1⟩
 obtain⟨xa,xn,xc,ya,yn,yc,za,zn,zc,e1,rfl,h1⟩:=hr1.uni
 clear hr1
 have bA:=aA w1 (.cells #[.slice xa xn xc,.slice ya yn yc] 27)
 have kA:Hid (aC _ w1.heap.size #[.slice xa xn xc,.slice ya yn yc] 27):=hid (aB w1 _ _)
 replace h1:Hid (e1=0->aR n B l/\wn=q/\q<=60/\∃ g rb D l' v ys,xa=some ⟨g,0,none⟩/\n=xn/\n=xc/\tn=yn/\za=some ⟨rb,0,none⟩/\q=zn/\q=zc/\RG _ n B tn l q (who.zip ql) g ya rb D l' v ys):=hid fun f=>by
  obtain⟨t1,t2,t3,g,rb,D,l', v,ys,r1,r2,r3,r4,r5,r6,r7,hR⟩:=h1 f
  exact⟨t1,t2,t3,g,rb,D,l', v,ys,r1,r2,r3,r4,r5,r6,r7,hR.below bA⟩
 replace k0:=hid ((k0.out.below b1).below bA)
 replace b0:=hid (Below.tr b0.out (Below.tr b1 bA))
 clear b1 bA p0 p1
 go_upto_region 2 with fail
 generalize w1.alloc (.cells #[.slice xa xn xc,.slice ya yn yc] 27)=w2 at *
 go_wp2_with fail
 refine(bV5 wa wn wc who qa q qc ql i w2 hmw hmq (hwho.out.below b0.out) (hq.out.below b0.out) hbig.out).mono ?_
 rintro e w3 ⟨hr3,b3⟩
 obtain⟨ra,rc,pl,pc,m,e2,rfl,h2⟩:=hr3.uni
 clear hr3
 replace h2:=hid h2
 replace h1:Hid (e1=0->aR n B l/\wn=q/\q<=60/\∃ g rb D l' v ys,xa=some ⟨g,0,none⟩/\n=xn/\n=xc/\tn=yn/\za=some ⟨rb,0,none⟩/\q=zn/\q=zc/\RG w3 n B tn l q (who.zip ql) g ya rb D l' v ys):=hid fun f=>by
  obtain⟨t1,t2,t3,g,rb,D,l', v,ys,r1,r2,r3,r4,r5,r6,r7,hR⟩:=h1.out f
  exact⟨t1,t2,t3,g,rb,D,l', v,ys,r1,r2,r3,r4,r5,r6,r7,hR.below b3⟩
 replace k0:=hid (k0.out.below b3)
 replace kA:=hid (kA.out.below b3)
 replace b0:=hid (Below.tr b0.out b3)
 clear b3
 go_wp2_with fail
 refine(zQ w3 (eP htab.out b0.out)).mono ?_
 rintro e w4 ⟨rfl,b4⟩
 replace k0:=hid (k0.out.below b4)
 replace kA:=hid (kA.out.below b4)
 replace b0:=hid (Below.tr b0.out b4)
 have p1:=k0.out.cell 1
 simp only[List.getElem?_toArray,List.getElem?_cons_zero,List.getElem?_cons_succ] at p1
 have hend:Hid (Calls Tryz.prog 11 #[] w4 fun e w'=>e=.returned (.bool true)/\Below w4.heap.size w4 w'):=hid (zQ w4 (eP htab.out b0.out))
 by_cases he1:e1=0
 case neg=>
  clear b4
  go_wp2_with fail
  refine hend.out.mono ?_
  rintro e w5 ⟨rfl,b5⟩
  go_wp2_with fail
  go_ret
  exact⟨rfl,Below.tr b0.out b5⟩
 by_cases he2:e2=0
 case neg=>
  clear b4
  subst he1
  go_wp2_with fail
  refine hend.out.mono ?_
  rintro e w5 ⟨rfl,b5⟩
  go_wp2_with fail
  go_ret
  exact⟨rfl,Below.tr b0.out b5⟩
 subst he1 he2
 by_cases hneg:i<0
 ·clear b4
  have d1:decide (i<0)=true:=decide_eq_true hneg
  go_wp2_with fail
  refine hend.out.mono ?_
  rintro e w5 ⟨rfl,b5⟩
  go_wp2_with fail
  go_ret
  exact⟨rfl,Below.tr b0.out b5⟩
 have d1:decide (i<0)=false:=decide_eq_false hneg
 by_cases hge:(tn:Int)<=i
 ·clear b4
  have d2:decide ((tn:Int)<=i)=true:=decide_eq_true hge
  go_wp2_with fail
  refine hend.out.mono ?_
  rintro e w5 ⟨rfl,b5⟩
  go_wp2_with fail
  go_ret
  exact⟨rfl,Below.tr b0.out b5⟩
 have d2:decide ((tn:Int)<=i)=false:=decide_eq_false hge
 obtain⟨t,rfl⟩:∃ t:Nat,i=(t:Int):=⟨i.toNat,by omega⟩
 have htl:Hid (t<tn):=hid (by omega)
 have d3:¬(tn<=t):=by omega
 have d4:decide (tn<=t)=false:=decide_eq_false d3
 obtain⟨hok,rfl,h60,g,rb,D,l', v,ys,rfl,rfl,rfl,rfl,rfl,rfl,rfl,hR⟩:=h1.out rfl
 obtain⟨_,_,hmr,hmq2,hpl,hAs,hPl⟩:=h2.out rfl
 have htn:=hid hP.out.tens.1
 replace hR:=hid (hR.below b4)
 replace hAs:=hid (hAs.below b4)
 replace hPl:=hid (hPl.below b4)
 have hpl':=hid hpl
 replace hok:=hid hok
 have h60':=hid h60
 have hm60:Hid (m<=60):=hid (by omega)
 clear h1 h2 b4 hend hpl hmr hge hneg
 have p0:=k0.out.cell 0
 simp only[List.getElem?_toArray,List.getElem?_cons_zero] at p0
 have l0:w.heap.size<w4.heap.size:=k0.out.lt
 have n0:w.heap.size≠w4.heap.size:=by omega
 have n0':=n0.symm
 have n1:w.heap.size≠w4.heap.size+1:=by omega
 have n1':=n1.symm
 have hmA:Hid ((jG (t:Int) (who.zip ql)).length=m):=hid hAs.out.1
 have hfacts:=hid (fun us E k=>bK0 (i:=t) (us:=us) (E:=E) (k:=k) (M:=m) hok.out (by have:=htn.out; have:=htl.out; omega) hwho.out.1 hq.out.1 hR.out.runs)
 generalize jG (t:Int) (who.zip ql)=AS at *
 have hP':Hid (∀ w', Below w4.heap.size w4 w'->fU (fun _=>True) w' pa n B ta tn l):=hid fun w' h=>hP.out.below (Below.tr b0.out h)
 have hA':Hid (∀ w', Below w4.heap.size w4 w'->kW w' ra m AS):=hid fun w' h=>hAs.out.below h
 have H1:Hid (Below w4.heap.size w4 ((w4.alloc (.cells #[.int .i64 (t:Int)] 3)).drew)):=hid (bDr (bAl (Below.refl _ _) _))
 have H2:Hid (Below w4.heap.size w4 (((w4.alloc (.cells #[.int .i64 (t:Int)] 3)).alloc (.cells #[.slice none 0 0,.slice none 0 0] 27)).drew)):=hid (bDr (bAl (bAl (Below.refl _ _) _) _))
 have H3:Hid (Below w4.heap.size w4 (((w4.alloc (.cells #[.slice none 0 0,.slice none 0 0] 27)).alloc (.cells #[.int .i64 (t:Int)] 3)).drew)):=hid (bDr (bAl (bAl (Below.refl _ _) _) _))
 have S1:aC ((w4.alloc (.cells #[.int .i64 (t:Int)] 3)).drew) w4.heap.size #[.int .i64 (t:Int)] 3:=(aB w4 _ _).below (aD _ _)
 have S2:aC (((w4.alloc (.cells #[.int .i64 (t:Int)] 3)).alloc (.cells #[.slice none 0 0,.slice none 0 0] 27)).drew) w4.heap.size #[.int .i64 (t:Int)] 3:=((aB w4 #[.int .i64 (t:Int)] 3).below (aA _ (.cells #[.slice none 0 0,.slice none 0 0] 27))).below (aD _ _)
 have S3:aC (((w4.alloc (.cells #[.slice none 0 0,.slice none 0 0] 27)).alloc (.cells #[.int .i64 (t:Int)] 3)).drew) (w4.heap.size+1) #[.int .i64 (t:Int)] 3:=(aF w4 (.cells #[.slice none 0 0,.slice none 0 0] 27) _ _).below (aD _ _)
 have K2:Hid (aC (((w4.alloc (.cells #[.int .i64 (t:Int)] 3)).alloc (.cells #[.slice none 0 0,.slice none 0 0] 27)).drew) (w4.heap.size+1) #[.slice none 0 0,.slice none 0 0] 27):=hid ((aF w4 (.cells #[.int .i64 (t:Int)] 3) _ _).below (aD _ _))
 have K3:Hid (aC (((w4.alloc (.cells #[.slice none 0 0,.slice none 0 0] 27)).alloc (.cells #[.int .i64 (t:Int)] 3)).drew) w4.heap.size #[.slice none 0 0,.slice none 0 0] 27):=hid (((aB w4 #[.slice none 0 0,.slice none 0 0] 27).below (aA _ (.cells #[.int .i64 (t:Int)] 3))).below (aD _ _))
 have X1:=S1.lt
 have X2:=S2.lt
 have X3:=S3.lt
 have C1:=S1.cell 0
 have C2:=S2.cell 0
 have C3:=S3.cell 0
 simp only[List.getElem?_toArray,List.getElem?_cons_zero] at C1 C2 C3
 replace X1:=hid X1
 replace X2:=hid X2
 replace X3:=hid X3
 replace C1:=hid C1
 replace C2:=hid C2
 replace C3:=hid C3
 clear S1 S2 S3
 go_wp2_with fail
 go_cut [11,15,16] from 58 (fun v11 v15 v16 wx=>cS8 w4 wx n B tn l m ((List.replicate m (t:Int)).zip AS) v11 v15 v16)
 case first=>
  go_region_held3 (fun w'=>w'.cell? ⟨w.heap.size,0,none⟩=some (.slice pa n c)/\w'.cell? ⟨w.heap.size,1,none⟩=some (.slice ta tn tc)) (first | go_keep | assumption) (first | (go_at_call 15; with_reducible refine Calls.mono (sS w4.heap.size 0 1 m (t:Int) ((w4.alloc (.cells #[.int .i64 (t:Int)] 3)).drew) hm60.out X1.out C1.out hib.out) ?_; rintro e wR ⟨⟨gR,rfl,hNR⟩,bR⟩; have bbR:=hid (Below.tr H1.out bR); have r0:=(bbR.out.cell (p:=⟨w.heap.size,0,none⟩) l0).trans p0; have r1:=(bbR.out.cell (p:=⟨w.heap.size,1,none⟩) l0).trans p1; have hsR:=bbR.out.size; have nR:w.heap.size≠wR.heap.size:=(by omega); have nR':=nR.symm; replace hNR:=hid hNR; clear bR) | (go_at_call 15; with_reducible refine Calls.mono (sS w4.heap.size 0 1 m (t:Int) (((w4.alloc (.cells #[.int .i64 (t:Int)] 3)).alloc (.cells #[.slice none 0 0,.slice none 0 0] 27)).drew) hm60.out X2.out C2.out hib.out) ?_; rintro e wR ⟨⟨gR,rfl,hNR⟩,bR⟩; have bbR:=hid (Below.tr H2.out bR); have r0:=(bbR.out.cell (p:=⟨w.heap.size,0,none⟩) l0).trans p0; have r1:=(bbR.out.cell (p:=⟨w.heap.size,1,none⟩) l0).trans p1; have hsR:=bbR.out.size; have nR:w.heap.size≠wR.heap.size:=(by omega); have nR':=nR.symm; have kaR:=hid (K2.out.below bR); replace hNR:=hid hNR; clear bR) | (go_at_call 15; with_reducible refine Calls.mono (sS (w4.heap.size+1) 0 1 m (t:Int) (((w4.alloc (.cells #[.slice none 0 0,.slice none 0 0] 27)).alloc (.cells #[.int .i64 (t:Int)] 3)).drew) hm60.out X3.out C3.out hib.out) ?_; rintro e wR ⟨⟨gR,rfl,hNR⟩,bR⟩; have bbR:=hid (Below.tr H3.out bR); have r0:=(bbR.out.cell (p:=⟨w.heap.size,0,none⟩) l0).trans p0; have r1:=(bbR.out.cell (p:=⟨w.heap.size,1,none⟩) l0).trans p1; have hsR:=bbR.out.size; have nR:w.heap.size≠wR.heap.size:=(by omega); have nR':=nR.symm; have kaR:=hid (K3.out.below bR); replace hNR:=hid hNR; clear bR) | (go_at_call 8; with_reducible refine Calls.mono (qZ (fun _=>True) pa n c B ta tn tc l (some ⟨gR,0,none⟩) m (List.replicate m (t:Int)) ra m rc AS wR (hP'.out _ bbR.out) hok.out hNR.out (hA'.out _ bbR.out) hm60.out) ?_; rintro e w6 ⟨hret,b6⟩; obtain⟨g2,ta2,tc2,rb2,D2,l2,v2,ys2,rfl,hG⟩:=rg_of hret; have bb6:=hid (Below.tr bbR.out b6); have s0:=(bb6.out.cell (p:=⟨w.heap.size,0,none⟩) l0).trans p0; have s1:=(bb6.out.cell (p:=⟨w.heap.size,1,none⟩) l0).trans p1; have hs6:=bb6.out.size; have n6:w.heap.size≠w6.heap.size:=(by omega); have n6':=n6.symm; have ka6:=hid (kaR.out.below b6); have cka0:=ka6.out.cell 0; have cka1:=ka6.out.cell 1; have fka0:=ka6.out.frozen 0; have fka1:=ka6.out.frozen 1; simp only[List.getElem?_toArray,List.getElem?_cons_zero,List.getElem?_cons_succ] at cka0 cka1; replace hG:=hid hG; clear hret b6) | (go_at_call 8; with_reducible refine Calls.mono (qZ (fun _=>True) pa n c B ta tn tc l (some ⟨gR,0,none⟩) m (List.replicate m (t:Int)) ra m rc AS wR (hP'.out _ bbR.out) hok.out hNR.out (hA'.out _ bbR.out) hm60.out) ?_; rintro e w6 ⟨hret,b6⟩; obtain⟨g2,ta2,tc2,rb2,D2,l2,v2,ys2,rfl,hG⟩:=rg_of hret; have bb6:=hid (Below.tr bbR.out b6); have s0:=(bb6.out.cell (p:=⟨w.heap.size,0,none⟩) l0).trans p0; have s1:=(bb6.out.cell (p:=⟨w.heap.size,1,none⟩) l0).trans p1; have hs6:=bb6.out.size; have n6:w.heap.size≠w6.heap.size:=(by omega); have n6':=n6.symm; replace hG:=hid hG; clear hret b6) | (go_at_call 8; with_reducible refine Calls.mono (qZ (fun _=>True) pa n c B ta tn tc l (some ⟨gR,0,none⟩) m (List.replicate m (t:Int)) ra m rc AS (wR.alloc (.cells #[.slice none 0 0,.slice none 0 0] 27)) (hP'.out _ (bAl bbR.out _)) hok.out (hNR.out.below (aA _ _)) (hA'.out _ (bAl bbR.out _)) hm60.out) ?_; rintro e w6 ⟨hret,b6⟩; obtain⟨g2,ta2,tc2,rb2,D2,l2,v2,ys2,rfl,hG⟩:=rg_of hret; have bb6:=hid (Below.tr (bAl bbR.out _) b6); have s0:=(bb6.out.cell (p:=⟨w.heap.size,0,none⟩) l0).trans p0; have s1:=(bb6.out.cell (p:=⟨w.heap.size,1,none⟩) l0).trans p1; have hs6:=bb6.out.size; have n6:w.heap.size≠w6.heap.size:=(by omega); have n6':=n6.symm; have ka6:=hid ((aB wR #[.slice none 0 0,.slice none 0 0] 27).below b6); have cka0:=ka6.out.cell 0; have cka1:=ka6.out.cell 1; have fka0:=ka6.out.frozen 0; have fka1:=ka6.out.frozen 1; simp only[List.getElem?_toArray,List.getElem?_cons_zero,List.getElem?_cons_succ] at cka0 cka1; replace hG:=hid hG; clear hret b6))
  all_goals (go_wp2_with fail; go_meet; first
   | exact cN2 bb6.out hG.out
   | exact cN3 ka6.out (by first | exact Nat.le_refl _ | exact Nat.le_succ _ | exact bbR.out.size) bb6.out hG.out)
 case rest=>
  obtain⟨kb,g2,ta2,tc2,rb2,D2,l2,v2,ys2,rfl,rfl,rfl,kT,bT,hG⟩:=hcut
  obtain⟨hAt,htold⟩:=hfacts.out ys2 D2 l2 hG.runs hmA.out
  replace hAt:=hid hAt
  replace htold:=hid htold
  replace kA:=hid (kA.out.below bT)
  replace hR:=hid (hR.out.below bT)
  replace hPl:=hid (hPl.out.below bT)
  replace b0:=hid (Below.tr b0.out bT)
  replace kT:=hid kT
  replace hG:=hid hG
  clear H1 H2 H3 K2 K3 X1 X2 X3 C1 C2 C3 hP' hA' hfacts hAs k0 p0 p1 l0 n0 n0' n1 n1' bT hmA
  have hm':=hm60.out
  go_wp2_with fail
  go_loopw [95] (fun u wr=>∃ j:Nat,j<=m/\u=.int .i64 j/\Below wc.heap.size wc wr) (fun u _=>m-(intOf u).toNat)
  case atStart=>exact⟨0,Nat.zero_le _,rfl,Below.refl _ _⟩
  case round=>
   obtain⟨j,hj,rfl,bel⟩:=hrel
   by_cases hlt:j<m
   ·obtain⟨p,hp,e1,e2,e3⟩:=htold.out j hlt
    obtain⟨plb,plo,rfl,hplb,_,hpc⟩:=(hPl.out.below bel).2.2 (by omega)
    have g0:=hpc j hlt
    rw[e1] at g0
    have hR2:=hR.out.below bel
    have hG2:=hG.out.below bel
    obtain⟨x0,x1,x2,x3⟩:=hR2.ans.cells hp
    obtain⟨y0,y1,y2,y3⟩:=hG2.ans.cells hlt
    have hX:=hR2.told p hp
    have hZ:=hG2.told j hlt
    rw[e2] at hZ
    have hSA:Hid (∀ W', Below wr.heap.size wr W'->Calls Tryz.prog 9 #[.agg #[.int .i64 (v p).e,.int .i64 (v p).N,.slice (v p).ya (v p).yn (v p).yc,.slice (v p).y (v p).ln (v p).lc],.agg #[.int .i64 (v2 j).e,.int .i64 (v2 j).N,.slice (v2 j).ya (v2 j).yn (v2 j).yc,.slice (v2 j).y (v2 j).ln (v2 j).lc]] W' fun e w'=>e=.returned (.bool true)/\Below W'.heap.size W' w'):=hid fun W' h=>by
     have:=aT4 (v p) (v2 j) _ _ _ W' (hX.below h) (hZ.below h) e3
     unfold lG.val at this
     exact this
    have lx:rb<wr.heap.size:=hR2.ans.lt
    have ly:rb2<wr.heap.size:=hG2.ans.lt
    replace bel:=hid bel
    have dp1:¬((p:Int)<0):=by omega
    have dp2:decide ((p:Int)<0)=false:=decide_eq_false dp1
    have dp3:¬((wn:Int)<=(p:Int)):=by omega
    have dp4:decide ((wn:Int)<=(p:Int))=false:=decide_eq_false dp3
    have dp5:¬(wn<=p):=by omega
    have dp6:decide (wn<=p)=false:=decide_eq_false dp5
    clear hX hZ hR2 hG2 hpc e1 e2 e3
    generalize v p=vp at *
    generalize v2 j=vj at *
    go_wp2_with fail
    go_region_held3 (fun w'=>w'.cell? ⟨rb,p*4,none⟩=some (.int .i64 vp.e)/\w'.cell? ⟨rb,p*4+1,none⟩=some (.int .i64 vp.N)/\w'.cell? ⟨rb,p*4+2,none⟩=some (.slice vp.ya vp.yn vp.yc)/\w'.cell? ⟨rb,p*4+3,none⟩=some (.slice vp.y vp.ln vp.lc)/\w'.cell? ⟨rb2,j*4,none⟩=some (.int .i64 vj.e)/\w'.cell? ⟨rb2,j*4+1,none⟩=some (.int .i64 vj.N)/\w'.cell? ⟨rb2,j*4+2,none⟩=some (.slice vj.ya vj.yn vj.yc)/\w'.cell? ⟨rb2,j*4+3,none⟩=some (.slice vj.y vj.ln vj.lc)) (first | go_keep | assumption) (first | (go_at_call 9; refine Calls.mono (hSA.out _ (aD _ _)) ?_; rintro e w6 ⟨rfl,b6⟩; replace b6:Below wr.heap.size wr w6:=(aD _ _).trans b6; have s0:=(b6.cell (p:=⟨rb,p*4,none⟩) lx).trans x0; have s1:=(b6.cell (p:=⟨rb,p*4+1,none⟩) lx).trans x1; have s2:=(b6.cell (p:=⟨rb,p*4+2,none⟩) lx).trans x2; have s3:=(b6.cell (p:=⟨rb,p*4+3,none⟩) lx).trans x3; have t0:=(b6.cell (p:=⟨rb2,j*4,none⟩) ly).trans y0; have t1:=(b6.cell (p:=⟨rb2,j*4+1,none⟩) ly).trans y1; have t2:=(b6.cell (p:=⟨rb2,j*4+2,none⟩) ly).trans y2; have t3:=(b6.cell (p:=⟨rb2,j*4+3,none⟩) ly).trans y3; replace b6:=hid b6))
    go_wp2_with fail
    go_roundw
    case rel=>exact⟨j+1,hlt,by go_num,bel.out.trans (b6.out.mono bel.out.size)⟩
    case measure=>simp[intOf]; omega
   ·obtain rfl:j=m:=by omega
    have q0:=(kA.out.below bel).cell 0
    have q1:=(kA.out.below bel).cell 1
    have r0:=(kT.out.below bel).cell 0
    have r1:=(kT.out.below bel).cell 1
    simp only[List.getElem?_toArray,List.getElem?_cons_zero,List.getElem?_cons_succ] at q0 q1 r0 r1
    have hPA:=hid (hR.out.pool.below bel)
    have hPB:=hid (hG.out.pool.below bel)
    replace bel:=hid bel
    go_wp2_with fail
    refine(yZ (fun _=>True) (fun _=>True) (some ⟨g,0,none⟩) n n D ya tn yc l' (some ⟨g2,0,none⟩) n n D2 ta2 tn tc2 l2 (t:Int) wr hPA.out hPB.out (eP htab.out (Below.tr b0.out bel.out))).mono ?_
    rintro e w9 ⟨hr4,b9⟩
    have hbel:=hid (Below.tr (Below.tr b0.out bel.out) b9)
    clear b9 q0 q1 r0 r1
    obtain⟨u1,u2,a1,a2,a3⟩:=hAt.out
    unfold cE8 at hr4
    rcases hr4 with⟨e', _,_,hno⟩ | ⟨k2,t2,t3,N2,M2,hk2,ht2,hu2,_,_,hN2,hM2,rfl⟩
    ·exact absurd ⟨aG2 hPA.out hR.out.ok a1,aG2 hPB.out hG.out.ok a2⟩ hno
    obtain rfl:t=k2:=by omega
    rw[a1] at ht2
    rw[a2] at hu2
    cases ht2
    cases hu2
    have hd:decide (jK D u1 N2=jK D2 u2 M2)=true:=decide_eq_true (bO0 a3 hN2 hM2).symm
    rw[hd]
    clear hd hk2
    go_wp2_with fail
    go_ret
    exact⟨rfl,hbel.out⟩
end Go.Proofs.YtjafgnohlkkopaaGreatDoor
namespace Go.Proofs.YtjafgnohlkkopaaGreatDoor
open Go.ChangeShapes Go.WideShapes Go.RowKit Go.Deep
section
variable {H:Type} {enc:TypeId×Value->H} {W:World}
theorem kP {W:World}{a:Addr}{v:Value}(h:W.cell? a=some v):a=⟨a.block,a.off,none⟩:=by
 obtain⟨b,off,spot⟩:=a
 have hspot:spot=none:=World.cell?_spot h
 subst hspot
 rfl
theorem fH (b off i:Nat):(⟨b,off,none⟩:Addr).add i=⟨b,off+i,none⟩:=by unfold Addr.add; split<;>simp_all
theorem add_zero' (a:Addr):a.add 0=a:=by unfold Addr.add; simp
theorem nums_open {t e:TypeId}{k:IntKind}{m:Nat}{v:Value}{y:DataW H×List MemPlace}(ht:Tryz.prog.underlying t=some (.slice e))(he:Tryz.prog.underlying e=some (.int k))(hc:Tryz.prog.cellsOf e=1)
 (h:DataW.trod enc Tryz.prog W 0 (fun _=>true) true m t [v]=some y):∃ a len cap l,v=.slice a len cap/\len<=cap/\cap<=maxLen/\aI (fun _=>True) k W a len l:=by
 rcases open_ints ht he hc h with⟨hcs,_⟩ | ⟨x,len,cap,zs,hcs,_,hl,hm,hz,_,hcell,hwz⟩
 ·exact⟨none,0,0,[],by simpa using hcs,Nat.le_refl _,Nat.zero_le _,dH _ _ _ _⟩
 ·simp only[if_true] at hz
  refine⟨some x,len,cap,zs.take len,by simpa using hcs,hl,hm,by simp; omega,fun y hy=>hwz y (List.mem_of_mem_take hy),fun hp=>?_⟩
  have h0:=hcell 0 (by omega)
  rw[add_zero'] at h0
  have hx:=kP h0
  obtain⟨b,off,spot⟩:=x
  simp only[Addr.mk.injEq,true_and] at hx
  subst hx
  refine⟨b,off,rfl,eZ h0,trivial,fun i hi=>?_⟩
  have:=hcell i (by omega)
  rw[fH] at this
  rw[this]
  simp[List.getD,hi]
theorem cD4 {m:Nat}{cs:List Value}{y:DataW H×List MemPlace}(h:DataW.trod enc Tryz.prog W 0 (fun _=>true) true m 135 cs=some y):
 ∃ (r lv:Int) (ka:Option Addr) (kn kc:Nat) (ba:Option Addr) (bn bc:Nat) (ks bs:List Int),cs=[.int .i64 r,.int .i64 lv,.slice ka kn kc,.slice ba bn bc]/\
  (-9223372036854775808<=r/\r<=9223372036854775807)/\(-9223372036854775808<=lv/\lv<=9223372036854775807)/\(kn<=kc/\bn<=bc)/\aI (fun _=>True) .i64 W ka kn ks/\aI (fun _=>True) .u8 W ba bn bs:=by
 obtain⟨y0,y1,y2,y3,n,_,hl,h0,h1,h2,h3⟩:=Go.Joins.trod_struct4 Tryz.underlying135 h
 have hl4:cs.length=4:=hl.trans (by kernel_rfl)
 match cs,hl4 with
 | [c0,c1,c2,c3],_=>
   have e1:Tryz.prog.cellsOf 3=1:=by kernel_rfl
   have e2:Tryz.prog.cellsOf 36=1:=by kernel_rfl
   have e3:Tryz.prog.cellsOf 28=1:=by kernel_rfl
   simp[e1,e2,e3] at h0 h1 h2 h3
   obtain⟨r,hr,_,wr⟩:=DataW.trod_int Tryz.underlying3 h0
   obtain⟨lv,hlv,_,wl⟩:=DataW.trod_int Tryz.underlying3 h1
   obtain⟨ka,kn,kc,ks,rfl,hk,_,hK⟩:=nums_open Tryz.underlying36 Tryz.underlying3 (by kernel_rfl) h2
   obtain⟨ba,bn,bc,bs,rfl,hb,_,hB⟩:=nums_open Tryz.underlying28 Tryz.underlying5 (by kernel_rfl) h3
   simp at hr hlv
   subst hr hlv
   have:=bounds_i64 wr
   have:=bounds_i64 wl
   exact⟨r,lv,ka,kn,kc,ba,bn,bc,ks,bs,rfl,by omega,by omega,⟨hk,hb⟩,hK,hB⟩
end
section
variable {H:Type} {enc:TypeId×Value->H} {W:World}
end
section
variable {H:Type} {enc:TypeId×Value->H} {W:World}
theorem lZ {α:Type}(f:Nat->α)(n i:Nat)(d:α)(h:i<n):((List.range n).map f).getD i d=f i:=by
 simp[List.getD,h]
theorem cC1 {m:Nat}{cs:List Value}{y:DataW H×List MemPlace}(h:DataW.trod enc Tryz.prog W 0 (fun _=>true) true m 106 cs=some y):
 ∃ x:Ent,cs=[.string x.name,.int .i64 x.root,.int .i64 x.size]/\x.ok:=by
 obtain⟨y0,y1,n,_,hl,h0,h1⟩:=trod_struct2 Tryz.underlying106 h
 have hl3:cs.length=3:=hl.trans (by kernel_rfl)
 match cs,hl3 with
 | [c0,c1,c2],_=>
   have e0:Tryz.prog.cellsOf 9=1:=by kernel_rfl
   have e1:Tryz.prog.cellsOf 3=1:=by kernel_rfl
   have e2:Tryz.prog.cellsOf 104=2:=by kernel_rfl
   simp[e0,e2] at h0 h1
   obtain⟨s,hs,_,ws⟩:=DataW.trod_string Tryz.underlying9 h0
   obtain⟨z0,z1,n', _,_,g0,g1⟩:=trod_struct2 Tryz.underlying104 h1
   simp[e1] at g0 g1
   obtain⟨r,hr,_,wr⟩:=DataW.trod_int Tryz.underlying3 g0
   obtain⟨z,hz,_,wz⟩:=DataW.trod_int Tryz.underlying3 g1
   simp at hs hr hz
   subst hs hr hz
   have b1:=bounds_i64 wr
   have b2:=bounds_i64 wz
   have b1':-9223372036854775808<=r/\r<=9223372036854775807:=by omega
   have b2':-9223372036854775808<=z/\z<=9223372036854775807:=by omega
   exact⟨⟨s,r,z⟩,rfl,ws,b1', b2'⟩
theorem aO8 {m:Nat}{v:Value}{y:DataW H×List MemPlace}(h:DataW.trod enc Tryz.prog W 0 (fun _=>true) true m 81 [v]=some y):
 ∃ a n c l,v=.slice a n c/\n<=c/\n<=maxLen/\dS (fun _=>True) W a n l:=by
 have e3:Tryz.prog.cellsOf 106=3:=by kernel_rfl
 rcases open_slice Tryz.underlying81 h with⟨hcs,_⟩ | ⟨a,len,cap,m,n', D,Pl,hcs,_,hl,hm,hmm,_,hx⟩
 ·exact⟨none,0,0,[],by simpa using hcs,Nat.le_refl _,Nat.zero_le _,aC4 _ _ _⟩
 ·simp at hcs
  subst hcs
  simp only[if_true] at hmm
  subst hmm
  have hone:∀ i,i<len->∃ x:Ent,W.cell? (a.add (i*3))=some (.string x.name)/\W.cell? ((a.add (i*3)).add 1)=some (.int .i64 x.root)/\W.cell? ((a.add (i*3)).add 2)=some (.int .i64 x.size)/\x.ok:=by
   intro i hi
   obtain⟨cs', h1,h2⟩:=hx i (by omega)
   rw[e3] at h1
   obtain⟨x,rfl,hok⟩:=cC1 h2
   obtain⟨_,_,hc⟩:=World.cells?_some h1
   have c0:=hc 0 (by omega)
   have c1:=hc 1 (by omega)
   have c2:=hc 2 (by omega)
   have ez:(a.add (i*3)).add 0=a.add (i*3):=add_zero' _
   rw[ez] at c0
   exact⟨x,c0,c1,c2,hok⟩
  obtain⟨X,hX⟩:=choose_lt hone
  refine⟨some a,len,m,(List.range len).map X,rfl,hl,by omega,by simp,fun x hx=>?_,fun hp=>?_⟩
  ·obtain⟨i,hi,rfl⟩:=List.mem_map.1 hx
   exact(hX i (List.mem_range.1 hi)).2.2.2
  ·obtain⟨h0', _⟩:=hX 0 (by omega)
   rw[Nat.zero_mul,add_zero'] at h0'
   have hx0:=kP h0'
   obtain⟨b,off,spot⟩:=a
   simp only[Addr.mk.injEq,true_and] at hx0
   subst hx0
   refine⟨b,off,rfl,eZ h0', trivial,fun i hi=>?_⟩
   obtain⟨c0,c1,c2,_⟩:=hX i hi
   rw[fH] at c0 c1 c2
   rw[fH] at c1 c2
   rw[lZ _ _ _ _ hi]
   exact⟨c0,c1,c2⟩
theorem bM1 {m:Nat}{cs:List Value}{y:DataW H×List MemPlace}(h:DataW.trod enc Tryz.prog W 0 (fun _=>true) true m 113 cs=some y):
 ∃ (x:bQ) (fa:Option Addr) (fn fc:Nat),cs=[.string x.name,.slice fa fn fc]/\x.name.size<=maxLen/\fn<=fc/\dS (fun _=>True) W fa fn x.files:=by
 obtain⟨y0,y1,n,_,hl,h0,h1⟩:=trod_struct2 Tryz.underlying113 h
 have hl2:cs.length=2:=hl.trans (by kernel_rfl)
 match cs,hl2 with
 | [c0,c1],_=>
   have e0:Tryz.prog.cellsOf 9=1:=by kernel_rfl
   have e1:Tryz.prog.cellsOf 81=1:=by kernel_rfl
   simp[e0,e1] at h0 h1
   obtain⟨s,hs,_,ws⟩:=DataW.trod_string Tryz.underlying9 h0
   obtain⟨fa,fn,fc,l,rfl,hc,_,hE⟩:=aO8 h1
   simp at hs
   subst hs
   exact⟨⟨s,l⟩,fa,fn,fc,rfl,ws,hc,hE⟩
theorem bE3 {m:Nat}{v:Value}{y:DataW H×List MemPlace}(h:DataW.trod enc Tryz.prog W 0 (fun _=>true) true m 82 [v]=some y):
 ∃ a n c l,v=.slice a n c/\n<=c/\n<=maxLen/\dV (fun _=>True) W a n l:=by
 have e3:Tryz.prog.cellsOf 113=2:=by kernel_rfl
 rcases open_slice Tryz.underlying82 h with⟨hcs,_⟩ | ⟨a,len,cap,m,n', D,Pl,hcs,_,hl,hm,hmm,_,hx⟩
 ·exact⟨none,0,0,[],by simpa using hcs,Nat.le_refl _,Nat.zero_le _,wJ _ _ _⟩
 ·simp at hcs
  subst hcs
  simp only[if_true] at hmm
  subst hmm
  have hone:∀ i,i<len->∃ x:bQ,∃ fa fn fc,W.cell? (a.add (i*2))=some (.string x.name)/\W.cell? ((a.add (i*2)).add 1)=some (.slice fa fn fc)/\x.name.size<=maxLen/\fn<=fc/\dS (fun _=>True) W fa fn x.files:=by
   intro i hi
   obtain⟨cs', h1,h2⟩:=hx i (by omega)
   rw[e3] at h1
   obtain⟨x,fa,fn,fc,rfl,hs,hcp,hE⟩:=bM1 h2
   obtain⟨_,_,hc⟩:=World.cells?_some h1
   have c0:=hc 0 (by omega)
   have c1:=hc 1 (by omega)
   have ez:(a.add (i*2)).add 0=a.add (i*2):=add_zero' _
   rw[ez] at c0
   exact⟨x,fa,fn,fc,c0,c1,hs,hcp,hE⟩
  obtain⟨X,hX⟩:=choose_lt hone
  refine⟨some a,len,m,(List.range len).map X,rfl,hl,by omega,by simp,fun hp=>?_⟩
  obtain⟨_,_,_,h0', _⟩:=hX 0 (by omega)
  rw[Nat.zero_mul,add_zero'] at h0'
  have hx0:=kP h0'
  obtain⟨b,off,spot⟩:=a
  simp only[Addr.mk.injEq,true_and] at hx0
  subst hx0
  refine⟨b,off,rfl,eZ h0', trivial,fun i hi=>?_⟩
  obtain⟨fa,fn,fc,c0,c1,hs,hcp,hE⟩:=hX i hi
  rw[fH] at c0 c1
  rw[fH] at c1
  rw[lZ _ _ _ _ hi]
  exact⟨fa,fn,fc,c0,c1,hE,hs,hcp⟩
theorem cD6 {m:Nat}{cs:List Value}{y:DataW H×List MemPlace}(h:DataW.trod enc Tryz.prog W 0 (fun _=>true) true m 30 cs=some y):
 ∃ (x:aM) (ba:Option Addr) (bn bc:Nat),cs=[.int .i64 x.kind,.string x.set,.string x.file,.string x.to,.int .i64 x.pos,.int .i64 x.num,.slice ba bn bc]/\x.ok/\bn<=bc/\aI (fun _=>True) .u8 W ba bn x.bytes:=by
 obtain⟨xs,n,_,rfl,hl,hlen,hf⟩:=DataW.trod_struct Tryz.underlying30 h
 have hl7:cs.length=7:=hl.trans (by kernel_rfl)
 match xs,hlen,cs,hl7 with
 | [y0,y1,y2,y3,y4,y5,y6],_,[c0,c1,c2,c3,c4,c5,c6],_=>
   have e0:Tryz.prog.cellsOf 9=1:=by kernel_rfl
   have e1:Tryz.prog.cellsOf 3=1:=by kernel_rfl
   have e2:Tryz.prog.cellsOf 28=1:=by kernel_rfl
   have h0:=hf 0 _ rfl
   have h1:=hf 1 _ rfl
   have h2:=hf 2 _ rfl
   have h3:=hf 3 _ rfl
   have h4:=hf 4 _ rfl
   have h5:=hf 5 _ rfl
   have h6:=hf 6 _ rfl
   simp[e0,e1,e2] at h0 h1 h2 h3 h4 h5 h6
   obtain⟨k,hk,_,wk⟩:=DataW.trod_int Tryz.underlying3 h0
   obtain⟨s1,hs1,_,ws1⟩:=DataW.trod_string Tryz.underlying9 h1
   obtain⟨s2,hs2,_,ws2⟩:=DataW.trod_string Tryz.underlying9 h2
   obtain⟨s3,hs3,_,ws3⟩:=DataW.trod_string Tryz.underlying9 h3
   obtain⟨q,hq,_,wq⟩:=DataW.trod_int Tryz.underlying3 h4
   obtain⟨u,hu,_,wu⟩:=DataW.trod_int Tryz.underlying3 h5
   obtain⟨ba,bn,bc,bs,rfl,hb,_,hB⟩:=nums_open Tryz.underlying28 Tryz.underlying5 (by kernel_rfl) h6
   simp at hk hs1 hs2 hs3 hq hu
   subst hk hs1 hs2 hs3 hq hu
   have b1:=bounds_i64 wk
   have b2:=bounds_i64 wq
   have b3:=bounds_i64 wu
   have b1':-9223372036854775808<=k/\k<=9223372036854775807:=by omega
   have b2':-9223372036854775808<=q/\q<=9223372036854775807:=by omega
   have b3':-9223372036854775808<=u/\u<=9223372036854775807:=by omega
   exact⟨⟨k,s1,s2,s3,q,u,bs⟩,ba,bn,bc,rfl,⟨⟨ws1,ws2,ws3⟩,b1', b2', b3'⟩,hb,hB⟩
theorem asks_open {r:Reach}{b0:Nat}{v:Value}{d:DataW H}{p:List MemPlace}(hv:Value.okWide Tryz.prog W r b0 37 v)(h:DataW.Trod enc Tryz.prog W 0 (fun _=>true) true 37 v d p):
 ∃ a n c l,v=.slice a n c/\n<=c/\n<=maxLen/\kW W a n l:=by
 obtain⟨a,n,c,rfl⟩:=okWide_slice Tryz.underlying37 hv
 obtain⟨fuel,hf⟩:=h
 have e3:Tryz.prog.cellsOf 30=7:=by kernel_rfl
 simp[Value.cells] at hf
 rcases open_slice Tryz.underlying37 hf with⟨hcs,_⟩ | ⟨a,len,cap,m,n', D,Pl,hcs,_,hl,hm,hmm,_,hx⟩
 ·simp at hcs
  obtain⟨rfl,rfl,rfl⟩:=hcs
  exact⟨none,0,0,[],rfl,Nat.le_refl _,Nat.zero_le _,rfl,fun h=>absurd h (by omega)⟩
 ·simp at hcs
  obtain⟨rfl,rfl,rfl⟩:=hcs
  simp only[if_true] at hmm
  subst hmm
  have hone:∀ i,i<n->∃ x:aM,∃ ba bn bc,(W.cell? (a.add (i*7))=some (.int .i64 x.kind)/\W.cell? ((a.add (i*7)).add 1)=some (.string x.set)/\W.cell? ((a.add (i*7)).add 2)=some (.string x.file)/\W.cell? ((a.add (i*7)).add 3)=some (.string x.to)/\
   W.cell? ((a.add (i*7)).add 4)=some (.int .i64 x.pos)/\W.cell? ((a.add (i*7)).add 5)=some (.int .i64 x.num)/\W.cell? ((a.add (i*7)).add 6)=some (.slice ba bn bc))/\x.ok/\bn<=bc/\aI (fun _=>True) .u8 W ba bn x.bytes:=by
   intro i hi
   obtain⟨cs', h1,h2⟩:=hx i (by omega)
   rw[e3] at h1
   obtain⟨x,ba,bn,bc,rfl,hok,hcp,hB⟩:=cD6 h2
   obtain⟨_,_,hc⟩:=World.cells?_some h1
   have c0:=hc 0 (by omega)
   have c1:=hc 1 (by omega)
   have c2:=hc 2 (by omega)
   have c3:=hc 3 (by omega)
   have c4:=hc 4 (by omega)
   have c5:=hc 5 (by omega)
   have c6:=hc 6 (by omega)
   have ez:(a.add (i*7)).add 0=a.add (i*7):=add_zero' _
   rw[ez] at c0
   exact⟨x,ba,bn,bc,⟨c0,c1,c2,c3,c4,c5,c6⟩,hok,hcp,hB⟩
  obtain⟨X,hX⟩:=choose_lt hone
  refine⟨some a,n,m,(List.range n).map X,rfl,hl,by omega,by simp,fun hp=>?_⟩
  obtain⟨_,_,_,⟨h0', _⟩,_⟩:=hX 0 (by omega)
  rw[Nat.zero_mul,add_zero'] at h0'
  have hx0:=kP h0'
  obtain⟨b,off,spot⟩:=a
  simp only[Addr.mk.injEq,true_and] at hx0
  subst hx0
  refine⟨b,off,rfl,eZ h0', fun i hi=>?_⟩
  obtain⟨ba,bn,bc,⟨c0,c1,c2,c3,c4,c5,c6⟩,hok,hcp,hB⟩:=hX i hi
  rw[fH] at c0 c1 c2 c3 c4 c5 c6
  rw[fH] at c1 c2 c3 c4 c5 c6
  rw[lZ _ _ _ _ hi]
  exact⟨ba,bn,bc,c0,c1,c2,c3,c4,c5,c6,hB,hok,hcp⟩
end
section
variable {H:Type} {enc:TypeId×Value->H} {W:World}
theorem aS4 {m:Nat}{c0:Value}{y:DataW H×List MemPlace}(hf:DataW.trod enc Tryz.prog W 0 (fun _=>true) true m 24 [c0]=some y):
 ∃ a n c B,c0=.slice a n c/\aO W a n B:=by
 obtain⟨y0,n,_,_,h0⟩:=trod_struct1 Tryz.underlying24 hf
 have e1:Tryz.prog.cellsOf 22=1:=by kernel_rfl
 have e4:Tryz.prog.cellsOf 135=4:=by kernel_rfl
 simp[e1] at h0
 rcases open_slice Tryz.underlying22 h0 with⟨hcs,_⟩ | ⟨a,len,cap,m,n', D,Pl,hcs,_,hl,hm,hmm,_,hx⟩
 ·simp at hcs
  subst hcs
  exact⟨none,0,0,fun _=>Blk.zero,rfl,fun hp=>absurd hp (by omega)⟩
 ·simp at hcs
  subst hcs
  simp only[if_true] at hmm
  subst hmm
  have hone:∀ i,i<len->∃ K:Blk,∃ ka kn kc ba bn bc,W.cell? (a.add (i*4))=some (.int .i64 K.refs)/\W.cell? ((a.add (i*4)).add 1)=some (.int .i64 K.level)/\W.cell? ((a.add (i*4)).add 2)=some (.slice ka kn kc)/\W.cell? ((a.add (i*4)).add 3)=some (.slice ba bn bc)/\
   aI (fun _=>True) .i64 W ka kn K.kids/\aI (fun _=>True) .u8 W ba bn K.bytes/\(-9223372036854775808<=K.refs/\K.refs<=9223372036854775807)/\(-9223372036854775808<=K.level/\K.level<=9223372036854775807)/\(kn<=kc/\bn<=bc):=by
   intro i hi
   obtain⟨cs', h1,h2⟩:=hx i (by omega)
   rw[e4] at h1
   obtain⟨r,lv,ka,kn,kc,ba,bn,bc,ks,bs,rfl,b1,b2,b3,b4,b5⟩:=cD4 h2
   obtain⟨_,_,hc⟩:=World.cells?_some h1
   have c0:=hc 0 (by omega)
   have c1:=hc 1 (by omega)
   have c2:=hc 2 (by omega)
   have c3:=hc 3 (by omega)
   have ez:(a.add (i*4)).add 0=a.add (i*4):=add_zero' _
   rw[ez] at c0
   exact⟨⟨r,lv,ks,bs⟩,ka,kn,kc,ba,bn,bc,c0,c1,c2,c3,b4,b5,b1,b2,b3⟩
  have:Inhabited Blk:=⟨Blk.zero⟩
  obtain⟨B,hB⟩:=choose_lt hone
  refine⟨some a,len,m,B,rfl,fun hp=>?_⟩
  obtain⟨_,_,_,_,_,_,h0', _⟩:=hB 0 (by omega)
  rw[Nat.zero_mul,add_zero'] at h0'
  have hx0:=kP h0'
  obtain⟨b,off,spot⟩:=a
  simp only[Addr.mk.injEq,true_and] at hx0
  subst hx0
  refine⟨b,off,rfl,eZ h0', fun i hi=>?_⟩
  obtain⟨ka,kn,kc,ba,bn,bc,c0,c1,c2,c3,k1,k2,k3,k4,k5⟩:=hB i hi
  rw[fH] at c0 c1 c2 c3
  rw[fH] at c1 c2 c3
  exact⟨ka,kn,kc,ba,bn,bc,c0,c1,c2,c3,k1,k2,k3,k4,k5⟩
theorem bM5 {m:Nat}{cs:List Value}{y:DataW H×List MemPlace}(h:DataW.trod enc Tryz.prog W 0 (fun _=>true) true m 84 cs=some y):
 ∃ (x:aK) (V:cB),cs=[.string V.name,.slice V.fa V.fn V.fc,.slice V.sa V.sn V.sc]/\dN (fun _=>True) W V x:=by
 obtain⟨y0,y1,y2,n,_,hl,h0,h1,h2⟩:=trod_struct3 Tryz.underlying84 h
 have hl3:cs.length=3:=hl.trans (by kernel_rfl)
 match cs,hl3 with
 | [c0,c1,c2],_=>
   have e0:Tryz.prog.cellsOf 9=1:=by kernel_rfl
   have e1:Tryz.prog.cellsOf 81=1:=by kernel_rfl
   have e2:Tryz.prog.cellsOf 82=1:=by kernel_rfl
   simp[e0,e1,e2] at h0 h1 h2
   obtain⟨s,hs,_,ws⟩:=DataW.trod_string Tryz.underlying9 h0
   obtain⟨fa,fn,fc,fl,rfl,hfc,hfm,hE⟩:=aO8 h1
   obtain⟨sa,sn,sc,sl,rfl,hsc,hsm,hS⟩:=bE3 h2
   simp at hs
   subst hs
   exact⟨⟨s,fl,sl⟩,⟨s,fa,fn,fc,sa,sn,sc⟩,rfl,⟨rfl,ws,hE,hS,hfc,hsc⟩⟩
theorem bM4 {m:Nat}{v:Value}{y:DataW H×List MemPlace}(h:DataW.trod enc Tryz.prog W 0 (fun _=>true) true m 62 [v]=some y):
 ∃ a n c l,v=.slice a n c/\n<=c/\fQ (fun _=>True) W a n l:=by
 have e3:Tryz.prog.cellsOf 84=3:=by kernel_rfl
 rcases open_slice Tryz.underlying62 h with⟨hcs,_⟩ | ⟨a,len,cap,m,n', D,Pl,hcs,_,hl,hm,hmm,_,hx⟩
 ·exact⟨none,0,0,[],by simpa using hcs,Nat.le_refl _,sO _ _ _⟩
 ·simp at hcs
  subst hcs
  simp only[if_true] at hmm
  subst hmm
  have hone:∀ i,i<len->∃ x:aK,∃ V:cB,W.cell? (a.add (i*3))=some (.string V.name)/\W.cell? ((a.add (i*3)).add 1)=some (.slice V.fa V.fn V.fc)/\W.cell? ((a.add (i*3)).add 2)=some (.slice V.sa V.sn V.sc)/\dN (fun _=>True) W V x:=by
   intro i hi
   obtain⟨cs', h1,h2⟩:=hx i (by omega)
   rw[e3] at h1
   obtain⟨x,V,rfl,hX⟩:=bM5 h2
   obtain⟨_,_,hc⟩:=World.cells?_some h1
   have c0:=hc 0 (by omega)
   have c1:=hc 1 (by omega)
   have c2:=hc 2 (by omega)
   have ez:(a.add (i*3)).add 0=a.add (i*3):=add_zero' _
   rw[ez] at c0
   exact⟨x,V,c0,c1,c2,hX⟩
  obtain⟨X,hX⟩:=choose_lt hone
  refine⟨some a,len,m,(List.range len).map X,rfl,hl,by simp,fun hp=>?_⟩
  obtain⟨_,h0', _⟩:=hX 0 (by omega)
  rw[Nat.zero_mul,add_zero'] at h0'
  have hx0:=kP h0'
  obtain⟨b,off,spot⟩:=a
  simp only[Addr.mk.injEq,true_and] at hx0
  subst hx0
  refine⟨b,off,rfl,eZ h0', trivial,fun i hi=>?_⟩
  obtain⟨V,c0,c1,c2,hS⟩:=hX i hi
  rw[fH] at c0 c1 c2
  rw[fH] at c1 c2
  rw[lZ _ _ _ _ hi]
  exact⟨V,c0,c1,c2,hS⟩
theorem bL5 {m:Nat}{cs:List Value}{y:DataW H×List MemPlace}(h:DataW.trod enc Tryz.prog W 0 (fun _=>true) true m 64 cs=some y):
 ∃ (t:aP) (sa:Option Addr) (sn sc:Nat),cs=[.int .i64 t.key,.int .i64 t.quota,.slice sa sn sc]/\sK (fun _=>True) W t sa sn sc:=by
 obtain⟨y0,y1,y2,n,_,hl,h0,h1,h2⟩:=trod_struct3 Tryz.underlying64 h
 have hl3:cs.length=3:=hl.trans (by kernel_rfl)
 match cs,hl3 with
 | [c0,c1,c2],_=>
   have e0:Tryz.prog.cellsOf 3=1:=by kernel_rfl
   have e2:Tryz.prog.cellsOf 62=1:=by kernel_rfl
   simp[e0,e2] at h0 h1 h2
   obtain⟨k,hk,_,wk⟩:=DataW.trod_int Tryz.underlying3 h0
   obtain⟨q,hq,_,wq⟩:=DataW.trod_int Tryz.underlying3 h1
   obtain⟨sa,sn,sc,sl,rfl,hsc,hS⟩:=bM4 h2
   simp at hk hq
   subst hk hq
   have b1:=bounds_i64 wk
   have b2:=bounds_i64 wq
   exact⟨⟨k,q,sl⟩,sa,sn,sc,rfl,⟨hS,by simp only; omega,by simp only; omega,hsc⟩⟩
theorem bL4 {m:Nat}{v:Value}{y:DataW H×List MemPlace}(h:DataW.trod enc Tryz.prog W 0 (fun _=>true) true m 25 [v]=some y):
 ∃ a n c l,v=.slice a n c/\n<=c/\iA (fun _=>True) W a n l:=by
 have e3:Tryz.prog.cellsOf 64=3:=by kernel_rfl
 rcases open_slice Tryz.underlying25 h with⟨hcs,_⟩ | ⟨a,len,cap,m,n', D,Pl,hcs,_,hl,hm,hmm,_,hx⟩
 ·exact⟨none,0,0,[],by simpa using hcs,Nat.le_refl _,bD9 _ _ _⟩
 ·simp at hcs
  subst hcs
  simp only[if_true] at hmm
  subst hmm
  have hone:∀ i,i<len->∃ t:aP,∃ sa sn sc,W.cell? (a.add (i*3))=some (.int .i64 t.key)/\W.cell? ((a.add (i*3)).add 1)=some (.int .i64 t.quota)/\W.cell? ((a.add (i*3)).add 2)=some (.slice sa sn sc)/\sK (fun _=>True) W t sa sn sc:=by
   intro i hi
   obtain⟨cs', h1,h2⟩:=hx i (by omega)
   rw[e3] at h1
   obtain⟨t,sa,sn,sc,rfl,hT⟩:=bL5 h2
   obtain⟨_,_,hc⟩:=World.cells?_some h1
   have c0:=hc 0 (by omega)
   have c1:=hc 1 (by omega)
   have c2:=hc 2 (by omega)
   have ez:(a.add (i*3)).add 0=a.add (i*3):=add_zero' _
   rw[ez] at c0
   exact⟨t,sa,sn,sc,c0,c1,c2,hT⟩
  obtain⟨X,hX⟩:=choose_lt hone
  refine⟨some a,len,m,(List.range len).map X,rfl,hl,by simp,fun hp=>?_⟩
  obtain⟨_,_,_,h0', _⟩:=hX 0 (by omega)
  rw[Nat.zero_mul,add_zero'] at h0'
  have hx0:=kP h0'
  obtain⟨b,off,spot⟩:=a
  simp only[Addr.mk.injEq,true_and] at hx0
  subst hx0
  refine⟨b,off,rfl,eZ h0', trivial,fun i hi=>?_⟩
  obtain⟨sa,sn,sc,c0,c1,c2,hT⟩:=hX i hi
  rw[fH] at c0 c1 c2
  rw[fH] at c1 c2
  rw[lZ _ _ _ _ hi]
  exact⟨sa,sn,sc,c0,c1,c2,hT⟩
theorem pool_open {r:Reach}{b0:Nat}{v:Value}{d:DataW H}{p:List MemPlace}(hv:Value.okWide Tryz.prog W r b0 27 v)(h:DataW.Trod enc Tryz.prog W 0 (fun _=>true) true 27 v d p):
 ∃ a n c B ta tn tc l,v=.agg #[.slice a n c,.slice ta tn tc]/\fU (fun _=>True) W a n B ta tn l:=by
 obtain⟨cs,rfl,hsz⟩:=okWide_struct Tryz.underlying27 hv
 have hsz2:cs.size=2:=hsz.trans (by kernel_rfl)
 obtain⟨l⟩:=cs
 match l,hsz2 with
 | [c0,c1],_=>
   obtain⟨fuel,hf⟩:=h
   obtain⟨y0,y1,n,_,_,h0,h1⟩:=trod_struct2 Tryz.underlying27 hf
   have e0:Tryz.prog.cellsOf 24=1:=by kernel_rfl
   have e1:Tryz.prog.cellsOf 25=1:=by kernel_rfl
   simp[Value.cells,e0,e1] at h0 h1
   obtain⟨a,n,c,B,rfl,hS⟩:=aS4 h0
   obtain⟨ta,tn,tc,tl,rfl,_,hT⟩:=bL4 h1
   exact⟨a,n,c,B,ta,tn,tc,tl,rfl,hS,hT⟩
end
section
variable {H:Type} {enc:TypeId×Value->H} {W:World}
end
def cA0 (d:DataW Unit):Array Value:=match d with | .agg l=>(l.map fun | .lit (.int k z)=>.int k z | _=>Value.int .i64 0).toArray | _=>#[]
def bR4 (d:DataW Unit):Obj->Obj
 | .cells _ t frozen=>.cells (cA0 d) t frozen
 | o=>o
noncomputable def laidWorld (os:Os):World:=
 { World.holding Tryz.prog os ⟨#[],#[],[]⟩ with heap:=(((World.holding Tryz.prog os ⟨#[],#[],[]⟩).heap.modify 1 (bR4 Rows.laid_internal_strconv_uint64pow10)).modify 2 (bR4 Rows.laid_math_bits_deBruijn32tab)).modify 3 (bR4 Rows.laid_math_bits_deBruijn64tab) }
theorem laid_met (os:Os)(args:Array Value):laidMet Tryz.prog Rows.viewLikeRow.laid ((laidWorld os).forCall (fun _ _=>0) ⟨#[],args,[]⟩).memory:=
 laidMet_of_run' 8 (by kernel_rfl) (by kernel_rfl)
theorem tab_of {W:World}(h:laidMet Tryz.prog Rows.viewLikeRow.laid W):Lib.TabIs Tryz.prog W tabN .u64 Lib.pow10Tab:=by
 have h2:=h.tail.tail
 have e:(Rows.laid_internal_strconv_uint64pow10:DataW Unit)=Lib.tabData .u64 Lib.pow10Tab:=by kernel_rfl
 rw[e] at h2
 exact Lib.tabIs_of_head (P:=Tryz.prog) (g:=1) (by kernel_rfl) (by kernel_rfl) Tryz.underlying228 Tryz.underlying127 (by kernel_rfl) (by kernel_rfl) h2
end Go.Proofs.YtjafgnohlkkopaaGreatDoor
namespace Go.Proofs.YtjafgnohlkkopaaGreatDoor
open Go.ChangeShapes Go.WideShapes Go.ChangeAt Go.RowKit Go.Deep
section
variable {H:Type} {enc:TypeId×Value->H} {W:World}
theorem vZ {P:Program}{e:TypeId}:∀ {l:List (DataW H)} {d:DataW H},d∈l->∀ n∈d.weights P e,n∈DataW.weightsAll P e l
 | d'::r,d,hd,n,hn=>by
   simp only[DataW.weightsAll,List.mem_append]
   rcases List.mem_cons.1 hd with rfl | h
   ·exact Or.inl hn
   ·exact Or.inr (vZ h n hn)
theorem bV2 {m:Nat}{cs:List Value}{y:DataW H×List MemPlace}(h:DataW.trod enc Tryz.prog W 0 (fun _=>true) true m 30 cs=some y)(hw:∀ k∈y.1.weights Tryz.prog 30,k<=reachBytes){ba:Option Addr}{bn bc:Nat}(hc:cs[6]? =some (.slice ba bn bc)):bn<=reachBytes:=by
 obtain⟨xs,n,_,rfl,hl,hlen,hf⟩:=DataW.trod_struct Tryz.underlying30 h
 have hl7:cs.length=7:=hl.trans (by kernel_rfl)
 match xs,hlen,cs,hl7 with
 | [y0,y1,y2,y3,y4,y5,y6],_,[c0,c1,c2,c3,c4,c5,c6],_=>
   have e2:Tryz.prog.cellsOf 28=1:=by kernel_rfl
   have h6:=hf 6 _ rfl
   simp[e2] at h6
   simp at hc
   subst hc
   rcases open_ints Tryz.underlying28 Tryz.underlying5 (by kernel_rfl) h6 with⟨hcs,_⟩ | ⟨a,len,cap,zs,hcs,_,hlc,_,hz,rfl,_⟩
   ·simp at hcs
    omega
   ·simp at hcs
    obtain⟨rfl,rfl,rfl⟩:=hcs
    simp only[if_true] at hz
    have hm:((lits (H:=H) .u8 (zs.take bn)).length+(lits (H:=H) .u8 (zs.drop bn)).length)*Tryz.prog.bytesOf 5<=reachBytes:=by
     refine hw _ ?_
     simp only[DataW.weights,Tryz.underlying30]
     exact DataW.weights_mem_each (j:=6) (t:=28) rfl rfl _ (by simp[DataW.weights,Tryz.underlying28])
    have e1:Tryz.prog.bytesOf 5=1:=by kernel_rfl
    rw[e1] at hm
    simp[lits] at hm
    omega
theorem asks_reach {a:Option Addr}{n c:Nat}{l:List aM}{d:DataW H}{p:List MemPlace}(h:DataW.Trod enc Tryz.prog W 0 (fun _=>true) true 37 (.slice a n c) d p)(hw:∀ k∈d.weights Tryz.prog 37,k<=reachBytes)(hA:kW W a n l):∀ x∈l,x.bytes.length<=140737488351232:=by
 intro x hx
 obtain⟨i,hi,rfl⟩:=List.mem_iff_getElem.1 hx
 rw[hA.1] at hi
 obtain⟨b,off,rfl,_,hc⟩:=hA.2 (by omega)
 obtain⟨ba,bn,bc,hk⟩:=hc i hi
 obtain⟨fuel,hf⟩:=h
 have e3:Tryz.prog.cellsOf 30=7:=by kernel_rfl
 simp[Value.cells] at hf
 rcases open_slice Tryz.underlying37 hf with⟨hcs,_⟩ | ⟨a,len,cap,m,n', D,Pl,hcs,_,hl,hm,hmm,hd,hx⟩
 ·simp at hcs
 ·simp at hcs
  obtain⟨rfl,rfl,rfl⟩:=hcs
  simp only[if_true] at hmm
  subst hmm
  simp only[Prod.mk.injEq] at hd
  obtain⟨rfl,_⟩:=hd
  obtain⟨cs', h1,h2⟩:=hx i (by omega)
  rw[e3] at h1
  obtain⟨_,hlen,hcc⟩:=World.cells?_some h1
  have c6:=hcc 6 (by omega)
  rw[fH,fH,Nat.add_assoc] at c6
  have e6:=hk.c6
  have hgd:l.getD i aM.zero=l[i]:=by simp[List.getD,show i<l.length by rw[hA.1]; exact hi]
  have hb:=hk.bytes.1
  rw[hgd] at hb
  have hr:=bV2 h2 (fun k hk2=>hw k (by
   simp only[DataW.weights,Tryz.underlying37,List.mem_cons,List.mem_append]
   exact Or.inr (Or.inl (vZ (List.mem_map.2 ⟨i,List.mem_range.2 hi,rfl⟩) k hk2)))) (ba:=ba) (bn:=bn) (bc:=bc) (by rw[<-c6,<-Nat.add_assoc]; exact e6)
  rw[hb]
  exact hr
end
end Go.Proofs.YtjafgnohlkkopaaGreatDoor
