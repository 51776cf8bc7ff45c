import Derived.Test.YtjafgnohlkkopaaGreatDoorPart08
import Derived.Test.YtjafgnohlkkopaaGreatDoorPart35
import Derived.Deep.Strs
import Derived.Test.YtjafgnohlkkopaaGreatDoorPart23
import Derived.Test.YtjafgnohlkkopaaGreatDoorPart33
import Derived.Stop.LaidErr
import Derived.LaidLaws
set_option linter.unusedVariables false
set_option maxHeartbeats 8000000
set_option maxRecDepth 100000
namespace Go.Proofs.YtjafgnohlkkopaaGreatDoor
open Go.ChangeShapes Go.WideShapes Go.RowKit Go.Deep
section
variable {H:Type} {enc:TypeId×Value->H} {W:World}
theorem oN {α:Type}(f:Nat->α)(n i:Nat)(d:α)(h:i<n):((List.range n).map f).getD i d=f i:=by
 simp[List.getD,h]
theorem cD6 {m:Nat}{cs:List Value}{y:DataW H×List MemPlace}(h:DataW.trod enc Tryz.prog W 0 (fun _=>true) true m 106 cs=some y):
 ∃ x:Ent,cs=[.string x.name,.int .i64 x.root,.int .i64 x.size]/\x.ok:=by
 obtain⟨y0,y1,n,_,hl,h0,h1⟩:=trod_struct2 Tryz.underlying106 h
 have hl3:cs.length=3:=hl.trans (by kernel_rfl)
 match cs,hl3 with
 | [c0,c1,c2],_=>
   have e0:Tryz.prog.cellsOf 9=1:=by kernel_rfl
   have e1:Tryz.prog.cellsOf 3=1:=by kernel_rfl
   have e2:Tryz.prog.cellsOf 104=2:=by kernel_rfl
   simp[e0,e2] at h0 h1
   obtain⟨s,hs,_,ws⟩:=DataW.trod_string Tryz.underlying9 h0
   obtain⟨z0,z1,n', _,_,g0,g1⟩:=trod_struct2 Tryz.underlying104 h1
   simp[e1] at g0 g1
   obtain⟨r,hr,_,wr⟩:=DataW.trod_int Tryz.underlying3 g0
   obtain⟨z,hz,_,wz⟩:=DataW.trod_int Tryz.underlying3 g1
   simp at hs hr hz
   subst hs hr hz
   have b1:=bounds_i64 wr
   have b2:=bounds_i64 wz
   have b1':-9223372036854775808<=r/\r<=9223372036854775807:=by omega
   have b2':-9223372036854775808<=z/\z<=9223372036854775807:=by omega
   exact⟨⟨s,r,z⟩,rfl,ws,b1', b2'⟩
theorem aP0 {m:Nat}{v:Value}{y:DataW H×List MemPlace}(h:DataW.trod enc Tryz.prog W 0 (fun _=>true) true m 81 [v]=some y):
 ∃ a n c l,v=.slice a n c/\n<=c/\n<=maxLen/\dU (fun _=>True) W a n l:=by
 have e3:Tryz.prog.cellsOf 106=3:=by kernel_rfl
 rcases open_slice Tryz.underlying81 h with⟨hcs,_⟩ | ⟨a,len,cap,m,n', D,Pl,hcs,_,hl,hm,hmm,_,hx⟩
 ·exact⟨none,0,0,[],by simpa using hcs,Nat.le_refl _,Nat.zero_le _,aC2 _ _ _⟩
 ·simp at hcs
  subst hcs
  simp only[if_true] at hmm
  subst hmm
  have hone:∀ i,i<len->∃ x:Ent,W.cell? (a.add (i*3))=some (.string x.name)/\W.cell? ((a.add (i*3)).add 1)=some (.int .i64 x.root)/\W.cell? ((a.add (i*3)).add 2)=some (.int .i64 x.size)/\x.ok:=by
   intro i hi
   obtain⟨cs', h1,h2⟩:=hx i (by omega)
   rw[e3] at h1
   obtain⟨x,rfl,hok⟩:=cD6 h2
   obtain⟨_,_,hc⟩:=World.cells?_some h1
   have c0:=hc 0 (by omega)
   have c1:=hc 1 (by omega)
   have c2:=hc 2 (by omega)
   have ez:(a.add (i*3)).add 0=a.add (i*3):=add_zero' _
   rw[ez] at c0
   exact⟨x,c0,c1,c2,hok⟩
  obtain⟨X,hX⟩:=choose_lt hone
  refine⟨some a,len,m,(List.range len).map X,rfl,hl,by omega,by simp,fun x hx=>?_,fun hp=>?_⟩
  ·obtain⟨i,hi,rfl⟩:=List.mem_map.1 hx
   exact(hX i (List.mem_range.1 hi)).2.2.2
  ·obtain⟨h0', _⟩:=hX 0 (by omega)
   rw[Nat.zero_mul,add_zero'] at h0'
   have hx0:=mI h0'
   obtain⟨b,off,spot⟩:=a
   simp only[Addr.mk.injEq,true_and] at hx0
   subst hx0
   refine⟨b,off,rfl,fC h0', trivial,fun i hi=>?_⟩
   obtain⟨c0,c1,c2,_⟩:=hX i hi
   rw[iT] at c0 c1 c2
   rw[iT] at c1 c2
   rw[oN _ _ _ _ hi]
   exact⟨c0,c1,c2⟩
theorem bN5 {m:Nat}{cs:List Value}{y:DataW H×List MemPlace}(h:DataW.trod enc Tryz.prog W 0 (fun _=>true) true m 113 cs=some y):
 ∃ (x:bD) (fa:Option Addr) (fn fc:Nat),cs=[.string x.name,.slice fa fn fc]/\x.name.size<=maxLen/\fn<=fc/\dU (fun _=>True) W fa fn x.files:=by
 obtain⟨y0,y1,n,_,hl,h0,h1⟩:=trod_struct2 Tryz.underlying113 h
 have hl2:cs.length=2:=hl.trans (by kernel_rfl)
 match cs,hl2 with
 | [c0,c1],_=>
   have e0:Tryz.prog.cellsOf 9=1:=by kernel_rfl
   have e1:Tryz.prog.cellsOf 81=1:=by kernel_rfl
   simp[e0,e1] at h0 h1
   obtain⟨s,hs,_,ws⟩:=DataW.trod_string Tryz.underlying9 h0
   obtain⟨fa,fn,fc,l,rfl,hc,_,hE⟩:=aP0 h1
   simp at hs
   subst hs
   exact⟨⟨s,l⟩,fa,fn,fc,rfl,ws,hc,hE⟩
theorem bF3 {m:Nat}{v:Value}{y:DataW H×List MemPlace}(h:DataW.trod enc Tryz.prog W 0 (fun _=>true) true m 82 [v]=some y):
 ∃ a n c l,v=.slice a n c/\n<=c/\n<=maxLen/\dV (fun _=>True) W a n l:=by
 have e3:Tryz.prog.cellsOf 113=2:=by kernel_rfl
 rcases open_slice Tryz.underlying82 h with⟨hcs,_⟩ | ⟨a,len,cap,m,n', D,Pl,hcs,_,hl,hm,hmm,_,hx⟩
 ·exact⟨none,0,0,[],by simpa using hcs,Nat.le_refl _,Nat.zero_le _,wK _ _ _⟩
 ·simp at hcs
  subst hcs
  simp only[if_true] at hmm
  subst hmm
  have hone:∀ i,i<len->∃ x:bD,∃ fa fn fc,W.cell? (a.add (i*2))=some (.string x.name)/\W.cell? ((a.add (i*2)).add 1)=some (.slice fa fn fc)/\x.name.size<=maxLen/\fn<=fc/\dU (fun _=>True) W fa fn x.files:=by
   intro i hi
   obtain⟨cs', h1,h2⟩:=hx i (by omega)
   rw[e3] at h1
   obtain⟨x,fa,fn,fc,rfl,hs,hcp,hE⟩:=bN5 h2
   obtain⟨_,_,hc⟩:=World.cells?_some h1
   have c0:=hc 0 (by omega)
   have c1:=hc 1 (by omega)
   have ez:(a.add (i*2)).add 0=a.add (i*2):=add_zero' _
   rw[ez] at c0
   exact⟨x,fa,fn,fc,c0,c1,hs,hcp,hE⟩
  obtain⟨X,hX⟩:=choose_lt hone
  refine⟨some a,len,m,(List.range len).map X,rfl,hl,by omega,by simp,fun hp=>?_⟩
  obtain⟨_,_,_,h0', _⟩:=hX 0 (by omega)
  rw[Nat.zero_mul,add_zero'] at h0'
  have hx0:=mI h0'
  obtain⟨b,off,spot⟩:=a
  simp only[Addr.mk.injEq,true_and] at hx0
  subst hx0
  refine⟨b,off,rfl,fC h0', trivial,fun i hi=>?_⟩
  obtain⟨fa,fn,fc,c0,c1,hs,hcp,hE⟩:=hX i hi
  rw[iT] at c0 c1
  rw[iT] at c1
  rw[oN _ _ _ _ hi]
  exact⟨fa,fn,fc,c0,c1,hE,hs,hcp⟩
theorem cF3 {m:Nat}{cs:List Value}{y:DataW H×List MemPlace}(h:DataW.trod enc Tryz.prog W 0 (fun _=>true) true m 30 cs=some y):
 ∃ (x:aP) (ba:Option Addr) (bn bc:Nat),cs=[.int .i64 x.kind,.string x.set,.string x.file,.string x.to,.int .i64 x.pos,.int .i64 x.num,.slice ba bn bc]/\x.ok/\bn<=bc/\aI (fun _=>True) .u8 W ba bn x.bytes:=by
 obtain⟨xs,n,_,rfl,hl,hlen,hf⟩:=DataW.trod_struct Tryz.underlying30 h
 have hl7:cs.length=7:=hl.trans (by kernel_rfl)
 match xs,hlen,cs,hl7 with
 | [y0,y1,y2,y3,y4,y5,y6],_,[c0,c1,c2,c3,c4,c5,c6],_=>
   have e0:Tryz.prog.cellsOf 9=1:=by kernel_rfl
   have e1:Tryz.prog.cellsOf 3=1:=by kernel_rfl
   have e2:Tryz.prog.cellsOf 28=1:=by kernel_rfl
   have h0:=hf 0 _ rfl
   have h1:=hf 1 _ rfl
   have h2:=hf 2 _ rfl
   have h3:=hf 3 _ rfl
   have h4:=hf 4 _ rfl
   have h5:=hf 5 _ rfl
   have h6:=hf 6 _ rfl
   simp[e0,e1,e2] at h0 h1 h2 h3 h4 h5 h6
   obtain⟨k,hk,_,wk⟩:=DataW.trod_int Tryz.underlying3 h0
   obtain⟨s1,hs1,_,ws1⟩:=DataW.trod_string Tryz.underlying9 h1
   obtain⟨s2,hs2,_,ws2⟩:=DataW.trod_string Tryz.underlying9 h2
   obtain⟨s3,hs3,_,ws3⟩:=DataW.trod_string Tryz.underlying9 h3
   obtain⟨q,hq,_,wq⟩:=DataW.trod_int Tryz.underlying3 h4
   obtain⟨u,hu,_,wu⟩:=DataW.trod_int Tryz.underlying3 h5
   obtain⟨ba,bn,bc,bs,rfl,hb,_,hB⟩:=xK Tryz.underlying28 Tryz.underlying5 (by kernel_rfl) h6
   simp at hk hs1 hs2 hs3 hq hu
   subst hk hs1 hs2 hs3 hq hu
   have b1:=bounds_i64 wk
   have b2:=bounds_i64 wq
   have b3:=bounds_i64 wu
   have b1':-9223372036854775808<=k/\k<=9223372036854775807:=by omega
   have b2':-9223372036854775808<=q/\q<=9223372036854775807:=by omega
   have b3':-9223372036854775808<=u/\u<=9223372036854775807:=by omega
   exact⟨⟨k,s1,s2,s3,q,u,bs⟩,ba,bn,bc,rfl,⟨⟨ws1,ws2,ws3⟩,b1', b2', b3'⟩,hb,hB⟩
end
section
variable {H:Type} {enc:TypeId×Value->H} {W:World}
theorem aS2 {m:Nat}{c0:Value}{y:DataW H×List MemPlace}(hf:DataW.trod enc Tryz.prog W 0 (fun _=>true) true m 24 [c0]=some y):
 ∃ a n c B,c0=.slice a n c/\aN W a n B:=by
 obtain⟨y0,n,_,_,h0⟩:=trod_struct1 Tryz.underlying24 hf
 have e1:Tryz.prog.cellsOf 22=1:=by kernel_rfl
 have e4:Tryz.prog.cellsOf 135=4:=by kernel_rfl
 simp[e1] at h0
 rcases open_slice Tryz.underlying22 h0 with⟨hcs,_⟩ | ⟨a,len,cap,m,n', D,Pl,hcs,_,hl,hm,hmm,_,hx⟩
 ·simp at hcs
  subst hcs
  exact⟨none,0,0,fun _=>Blk.zero,rfl,fun hp=>absurd hp (by omega)⟩
 ·simp at hcs
  subst hcs
  simp only[if_true] at hmm
  subst hmm
  have hone:∀ i,i<len->∃ K:Blk,∃ ka kn kc ba bn bc,W.cell? (a.add (i*4))=some (.int .i64 K.refs)/\W.cell? ((a.add (i*4)).add 1)=some (.int .i64 K.level)/\W.cell? ((a.add (i*4)).add 2)=some (.slice ka kn kc)/\W.cell? ((a.add (i*4)).add 3)=some (.slice ba bn bc)/\
   aI (fun _=>True) .i64 W ka kn K.kids/\aI (fun _=>True) .u8 W ba bn K.bytes/\(-9223372036854775808<=K.refs/\K.refs<=9223372036854775807)/\(-9223372036854775808<=K.level/\K.level<=9223372036854775807)/\(kn<=kc/\bn<=bc):=by
   intro i hi
   obtain⟨cs', h1,h2⟩:=hx i (by omega)
   rw[e4] at h1
   obtain⟨r,lv,ka,kn,kc,ba,bn,bc,ks,bs,rfl,b1,b2,b3,b4,b5⟩:=cF0 h2
   obtain⟨_,_,hc⟩:=World.cells?_some h1
   have c0:=hc 0 (by omega)
   have c1:=hc 1 (by omega)
   have c2:=hc 2 (by omega)
   have c3:=hc 3 (by omega)
   have ez:(a.add (i*4)).add 0=a.add (i*4):=add_zero' _
   rw[ez] at c0
   exact⟨⟨r,lv,ks,bs⟩,ka,kn,kc,ba,bn,bc,c0,c1,c2,c3,b4,b5,b1,b2,b3⟩
  have:Inhabited Blk:=⟨Blk.zero⟩
  obtain⟨B,hB⟩:=choose_lt hone
  refine⟨some a,len,m,B,rfl,fun hp=>?_⟩
  obtain⟨_,_,_,_,_,_,h0', _⟩:=hB 0 (by omega)
  rw[Nat.zero_mul,add_zero'] at h0'
  have hx0:=mI h0'
  obtain⟨b,off,spot⟩:=a
  simp only[Addr.mk.injEq,true_and] at hx0
  subst hx0
  refine⟨b,off,rfl,fC h0', fun i hi=>?_⟩
  obtain⟨ka,kn,kc,ba,bn,bc,c0,c1,c2,c3,k1,k2,k3,k4,k5⟩:=hB i hi
  rw[iT] at c0 c1 c2 c3
  rw[iT] at c1 c2 c3
  exact⟨ka,kn,kc,ba,bn,bc,c0,c1,c2,c3,k1,k2,k3,k4,k5⟩
theorem bN9 {m:Nat}{cs:List Value}{y:DataW H×List MemPlace}(h:DataW.trod enc Tryz.prog W 0 (fun _=>true) true m 84 cs=some y):
 ∃ (x:aK) (V:cB),cs=[.string V.name,.slice V.fa V.fn V.fc,.slice V.sa V.sn V.sc]/\dK (fun _=>True) W V x:=by
 obtain⟨y0,y1,y2,n,_,hl,h0,h1,h2⟩:=trod_struct3 Tryz.underlying84 h
 have hl3:cs.length=3:=hl.trans (by kernel_rfl)
 match cs,hl3 with
 | [c0,c1,c2],_=>
   have e0:Tryz.prog.cellsOf 9=1:=by kernel_rfl
   have e1:Tryz.prog.cellsOf 81=1:=by kernel_rfl
   have e2:Tryz.prog.cellsOf 82=1:=by kernel_rfl
   simp[e0,e1,e2] at h0 h1 h2
   obtain⟨s,hs,_,ws⟩:=DataW.trod_string Tryz.underlying9 h0
   obtain⟨fa,fn,fc,fl,rfl,hfc,hfm,hE⟩:=aP0 h1
   obtain⟨sa,sn,sc,sl,rfl,hsc,hsm,hS⟩:=bF3 h2
   simp at hs
   subst hs
   exact⟨⟨s,fl,sl⟩,⟨s,fa,fn,fc,sa,sn,sc⟩,rfl,⟨rfl,ws,hE,hS,hfc,hsc⟩⟩
theorem bN8 {m:Nat}{v:Value}{y:DataW H×List MemPlace}(h:DataW.trod enc Tryz.prog W 0 (fun _=>true) true m 62 [v]=some y):
 ∃ a n c l,v=.slice a n c/\n<=c/\fP (fun _=>True) W a n l:=by
 have e3:Tryz.prog.cellsOf 84=3:=by kernel_rfl
 rcases open_slice Tryz.underlying62 h with⟨hcs,_⟩ | ⟨a,len,cap,m,n', D,Pl,hcs,_,hl,hm,hmm,_,hx⟩
 ·exact⟨none,0,0,[],by simpa using hcs,Nat.le_refl _,sM _ _ _⟩
 ·simp at hcs
  subst hcs
  simp only[if_true] at hmm
  subst hmm
  have hone:∀ i,i<len->∃ x:aK,∃ V:cB,W.cell? (a.add (i*3))=some (.string V.name)/\W.cell? ((a.add (i*3)).add 1)=some (.slice V.fa V.fn V.fc)/\W.cell? ((a.add (i*3)).add 2)=some (.slice V.sa V.sn V.sc)/\dK (fun _=>True) W V x:=by
   intro i hi
   obtain⟨cs', h1,h2⟩:=hx i (by omega)
   rw[e3] at h1
   obtain⟨x,V,rfl,hX⟩:=bN9 h2
   obtain⟨_,_,hc⟩:=World.cells?_some h1
   have c0:=hc 0 (by omega)
   have c1:=hc 1 (by omega)
   have c2:=hc 2 (by omega)
   have ez:(a.add (i*3)).add 0=a.add (i*3):=add_zero' _
   rw[ez] at c0
   exact⟨x,V,c0,c1,c2,hX⟩
  obtain⟨X,hX⟩:=choose_lt hone
  refine⟨some a,len,m,(List.range len).map X,rfl,hl,by simp,fun hp=>?_⟩
  obtain⟨_,h0', _⟩:=hX 0 (by omega)
  rw[Nat.zero_mul,add_zero'] at h0'
  have hx0:=mI h0'
  obtain⟨b,off,spot⟩:=a
  simp only[Addr.mk.injEq,true_and] at hx0
  subst hx0
  refine⟨b,off,rfl,fC h0', trivial,fun i hi=>?_⟩
  obtain⟨V,c0,c1,c2,hS⟩:=hX i hi
  rw[iT] at c0 c1 c2
  rw[iT] at c1 c2
  rw[oN _ _ _ _ hi]
  exact⟨V,c0,c1,c2,hS⟩
theorem bM8 {m:Nat}{cs:List Value}{y:DataW H×List MemPlace}(h:DataW.trod enc Tryz.prog W 0 (fun _=>true) true m 64 cs=some y):
 ∃ (t:aO) (sa:Option Addr) (sn sc:Nat),cs=[.int .i64 t.key,.int .i64 t.quota,.slice sa sn sc]/\sI (fun _=>True) W t sa sn sc:=by
 obtain⟨y0,y1,y2,n,_,hl,h0,h1,h2⟩:=trod_struct3 Tryz.underlying64 h
 have hl3:cs.length=3:=hl.trans (by kernel_rfl)
 match cs,hl3 with
 | [c0,c1,c2],_=>
   have e0:Tryz.prog.cellsOf 3=1:=by kernel_rfl
   have e2:Tryz.prog.cellsOf 62=1:=by kernel_rfl
   simp[e0,e2] at h0 h1 h2
   obtain⟨k,hk,_,wk⟩:=DataW.trod_int Tryz.underlying3 h0
   obtain⟨q,hq,_,wq⟩:=DataW.trod_int Tryz.underlying3 h1
   obtain⟨sa,sn,sc,sl,rfl,hsc,hS⟩:=bN8 h2
   simp at hk hq
   subst hk hq
   have b1:=bounds_i64 wk
   have b2:=bounds_i64 wq
   exact⟨⟨k,q,sl⟩,sa,sn,sc,rfl,⟨hS,by simp only; omega,by simp only; omega,hsc⟩⟩
theorem bM7 {m:Nat}{v:Value}{y:DataW H×List MemPlace}(h:DataW.trod enc Tryz.prog W 0 (fun _=>true) true m 25 [v]=some y):
 ∃ a n c l,v=.slice a n c/\n<=c/\gU (fun _=>True) W a n l:=by
 have e3:Tryz.prog.cellsOf 64=3:=by kernel_rfl
 rcases open_slice Tryz.underlying25 h with⟨hcs,_⟩ | ⟨a,len,cap,m,n', D,Pl,hcs,_,hl,hm,hmm,_,hx⟩
 ·exact⟨none,0,0,[],by simpa using hcs,Nat.le_refl _,bF0 _ _ _⟩
 ·simp at hcs
  subst hcs
  simp only[if_true] at hmm
  subst hmm
  have hone:∀ i,i<len->∃ t:aO,∃ sa sn sc,W.cell? (a.add (i*3))=some (.int .i64 t.key)/\W.cell? ((a.add (i*3)).add 1)=some (.int .i64 t.quota)/\W.cell? ((a.add (i*3)).add 2)=some (.slice sa sn sc)/\sI (fun _=>True) W t sa sn sc:=by
   intro i hi
   obtain⟨cs', h1,h2⟩:=hx i (by omega)
   rw[e3] at h1
   obtain⟨t,sa,sn,sc,rfl,hT⟩:=bM8 h2
   obtain⟨_,_,hc⟩:=World.cells?_some h1
   have c0:=hc 0 (by omega)
   have c1:=hc 1 (by omega)
   have c2:=hc 2 (by omega)
   have ez:(a.add (i*3)).add 0=a.add (i*3):=add_zero' _
   rw[ez] at c0
   exact⟨t,sa,sn,sc,c0,c1,c2,hT⟩
  obtain⟨X,hX⟩:=choose_lt hone
  refine⟨some a,len,m,(List.range len).map X,rfl,hl,by simp,fun hp=>?_⟩
  obtain⟨_,_,_,h0', _⟩:=hX 0 (by omega)
  rw[Nat.zero_mul,add_zero'] at h0'
  have hx0:=mI h0'
  obtain⟨b,off,spot⟩:=a
  simp only[Addr.mk.injEq,true_and] at hx0
  subst hx0
  refine⟨b,off,rfl,fC h0', trivial,fun i hi=>?_⟩
  obtain⟨sa,sn,sc,c0,c1,c2,hT⟩:=hX i hi
  rw[iT] at c0 c1 c2
  rw[iT] at c1 c2
  rw[oN _ _ _ _ hi]
  exact⟨sa,sn,sc,c0,c1,c2,hT⟩
theorem pool_open {r:Reach}{b0:Nat}{v:Value}{d:DataW H}{p:List MemPlace}(hv:Value.okWide Tryz.prog W r b0 27 v)(h:DataW.Trod enc Tryz.prog W 0 (fun _=>true) true 27 v d p):
 ∃ a n c B ta tn tc l,v=.agg #[.slice a n c,.slice ta tn tc]/\fE (fun _=>True) W a n B ta tn l:=by
 obtain⟨cs,rfl,hsz⟩:=okWide_struct Tryz.underlying27 hv
 have hsz2:cs.size=2:=hsz.trans (by kernel_rfl)
 obtain⟨l⟩:=cs
 match l,hsz2 with
 | [c0,c1],_=>
   obtain⟨fuel,hf⟩:=h
   obtain⟨y0,y1,n,_,_,h0,h1⟩:=trod_struct2 Tryz.underlying27 hf
   have e0:Tryz.prog.cellsOf 24=1:=by kernel_rfl
   have e1:Tryz.prog.cellsOf 25=1:=by kernel_rfl
   simp[Value.cells,e0,e1] at h0 h1
   obtain⟨a,n,c,B,rfl,hS⟩:=aS2 h0
   obtain⟨ta,tn,tc,tl,rfl,_,hT⟩:=bM7 h1
   exact⟨a,n,c,B,ta,tn,tc,tl,rfl,hS,hT⟩
end
section
variable {H:Type} {enc:TypeId×Value->H} {W:World}
theorem ask_full {r:Reach}{b0:Nat}{v:Value}{d:DataW H}{p:List MemPlace}(hv:Value.okWide Tryz.prog W r b0 30 v)(h:DataW.Trod enc Tryz.prog W 0 (fun _=>true) true 30 v d p):
 ∃ (x:aP) (ba:Option Addr) (bn bc:Nat),v=.agg #[.int .i64 x.kind,.string x.set,.string x.file,.string x.to,.int .i64 x.pos,.int .i64 x.num,.slice ba bn bc]/\x.ok/\aI (fun _=>True) .u8 W ba bn x.bytes/\bn<=bc:=by
 obtain⟨cs,rfl,hsz⟩:=okWide_struct Tryz.underlying30 hv
 obtain⟨fuel,hf⟩:=h
 have hsz7:cs.size=7:=hsz.trans (by kernel_rfl)
 obtain⟨l⟩:=cs
 simp only[Value.cells] at hf
 obtain⟨x,ba,bn,bc,e,hok,hcp,hN⟩:=cF3 hf
 refine⟨x,ba,bn,bc,?_,hok,hN,hcp⟩
 congr 1
 match l,hsz7 with
 | [c0,c1,c2,c3,c4,c5,c6],_=>
   simp at e
   obtain⟨rfl,rfl,rfl,rfl,rfl,rfl,rfl⟩:=e
   rfl
end
def cC1 (d:DataW Unit):Array Value:=match d with | .agg l=>(l.map fun | .lit (.int k z)=>.int k z | _=>Value.int .i64 0).toArray | _=>#[]
def bS8 (d:DataW Unit):Obj->Obj
 | .cells _ t frozen=>.cells (cC1 d) t frozen
 | o=>o
noncomputable def laidWorld (os:Os):World:=
 { World.holding Tryz.prog os ⟨#[],#[],[]⟩ with heap:=(((World.holding Tryz.prog os ⟨#[],#[],[]⟩).heap.modify 1 (bS8 Rows.laid_internal_strconv_uint64pow10)).modify 2 (bS8 Rows.laid_math_bits_deBruijn32tab)).modify 3 (bS8 Rows.laid_math_bits_deBruijn64tab) }
theorem laid_met (os:Os)(args:Array Value):laidMet Tryz.prog Rows.viewLikeRow.laid ((laidWorld os).forCall (fun _ _=>0) ⟨#[],args,[]⟩).memory:=
 laidMet_of_run' 8 (by kernel_rfl) (by kernel_rfl)
theorem tab_of {W:World}(h:laidMet Tryz.prog Rows.viewLikeRow.laid W):Lib.TabIs Tryz.prog W tabN .u64 Lib.pow10Tab:=by
 have h2:=h.tail.tail
 have e:(Rows.laid_internal_strconv_uint64pow10:DataW Unit)=Lib.tabData .u64 Lib.pow10Tab:=by kernel_rfl
 rw[e] at h2
 exact Lib.tabIs_of_head (P:=Tryz.prog) (g:=1) (by kernel_rfl) (by kernel_rfl) Tryz.underlying228 Tryz.underlying127 (by kernel_rfl) (by kernel_rfl) h2
end Go.Proofs.YtjafgnohlkkopaaGreatDoor
