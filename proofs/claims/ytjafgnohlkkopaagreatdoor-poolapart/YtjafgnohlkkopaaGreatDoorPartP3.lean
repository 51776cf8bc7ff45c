import Derived.Test.YtjafgnohlkkopaaGreatDoorPart01
import Derived.WalkKit
import Derived.ProofKit
import Derived.OpenShut
import Derived.Deep.Slices
import Derived.Lib.SmallJoins
import Derived.Test.YtjafgnohlkkopaaGreatDoorPart08
import Derived.Deep.Strs
import Derived.Test.YtjafgnohlkkopaaGreatDoorPart11
import Derived.Test.YtjafgnohlkkopaaGreatDoorPart32
import Derived.Stop.LaidErr
import Derived.LaidLaws
set_option linter.unusedVariables false
set_option maxHeartbeats 8000000
set_option maxRecDepth 100000
namespace Go.Proofs.YtjafgnohlkkopaaGreatDoor
open Go.ChangeShapes Go.WideShapes Go.RowKit Go.Deep
section
variable {H:Type} {enc:TypeId×Value->H} {W:World}
theorem kP {W:World} {a:Addr} {v:Value} (h:W.cell? a=some v):a=⟨a.block,a.off,none⟩:=by
 obtain⟨b,off,spot⟩:=a
 have hspot:spot=none:=World.cell?_spot h
 subst hspot
 rfl
theorem fH (b off i:Nat):(⟨b,off,none⟩:Addr).add i=⟨b,off+i,none⟩:=by unfold Addr.add; split<;>simp_all
theorem add_zero' (a:Addr):a.add 0=a:=by unfold Addr.add; simp
theorem nums_open {t e:TypeId} {k:IntKind} {m:Nat} {v:Value} {y:DataW H×List MemPlace} (ht:Tryz.prog.underlying t=some (.slice e)) (he:Tryz.prog.underlying e=some (.int k)) (hc:Tryz.prog.cellsOf e=1)
 (h:DataW.trod enc Tryz.prog W 0 (fun _=>true) true m t [v]=some y):∃ a len cap l,v=.slice a len cap/\len<=cap/\cap<=maxLen/\aI (fun _=>True) k W a len l:=by
 rcases open_ints ht he hc h with⟨hcs,_⟩ | ⟨x,len,cap,zs,hcs,_,hl,hm,hz,_,hcell,hwz⟩
 ·exact⟨none,0,0,[],by simpa using hcs,Nat.le_refl _,Nat.zero_le _,dH _ _ _ _⟩
 ·simp only[if_true] at hz
  refine⟨some x,len,cap,zs.take len,by simpa using hcs,hl,hm,by simp; omega,fun y hy=>hwz y (List.mem_of_mem_take hy),fun hp=>?_⟩
  have h0:=hcell 0 (by omega)
  rw[add_zero'] at h0
  have hx:=kP h0
  obtain⟨b,off,spot⟩:=x
  simp only[Addr.mk.injEq,true_and] at hx
  subst hx
  refine⟨b,off,rfl,eZ h0,trivial,fun i hi=>?_⟩
  have:=hcell i (by omega)
  rw[fH] at this
  rw[this]
  simp[List.getD,hi]
theorem cD4 {m:Nat} {cs:List Value} {y:DataW H×List MemPlace} (h:DataW.trod enc Tryz.prog W 0 (fun _=>true) true m 135 cs=some y):
 ∃ (r lv:Int) (ka:Option Addr) (kn kc:Nat) (ba:Option Addr) (bn bc:Nat) (ks bs:List Int),cs=[.int .i64 r,.int .i64 lv,.slice ka kn kc,.slice ba bn bc]/\
  (-9223372036854775808<=r/\r<=9223372036854775807)/\(-9223372036854775808<=lv/\lv<=9223372036854775807)/\(kn<=kc/\bn<=bc)/\aI (fun _=>True) .i64 W ka kn ks/\aI (fun _=>True) .u8 W ba bn bs:=by
 obtain⟨y0,y1,y2,y3,n,_,hl,h0,h1,h2,h3⟩:=Go.Joins.trod_struct4 Tryz.underlying135 h
 have hl4:cs.length=4:=hl.trans (by kernel_rfl)
 match cs,hl4 with
 | [c0,c1,c2,c3],_=>
   have e1:Tryz.prog.cellsOf 3=1:=by kernel_rfl
   have e2:Tryz.prog.cellsOf 36=1:=by kernel_rfl
   have e3:Tryz.prog.cellsOf 28=1:=by kernel_rfl
   simp[e1,e2,e3] at h0 h1 h2 h3
   obtain⟨r,hr,_,wr⟩:=DataW.trod_int Tryz.underlying3 h0
   obtain⟨lv,hlv,_,wl⟩:=DataW.trod_int Tryz.underlying3 h1
   obtain⟨ka,kn,kc,ks,rfl,hk,_,hK⟩:=nums_open Tryz.underlying36 Tryz.underlying3 (by kernel_rfl) h2
   obtain⟨ba,bn,bc,bs,rfl,hb,_,hB⟩:=nums_open Tryz.underlying28 Tryz.underlying5 (by kernel_rfl) h3
   simp at hr hlv
   subst hr hlv
   have:=bounds_i64 wr
   have:=bounds_i64 wl
   exact⟨r,lv,ka,kn,kc,ba,bn,bc,ks,bs,rfl,by omega,by omega,⟨hk,hb⟩,hK,hB⟩
end
section
variable {H:Type} {enc:TypeId×Value->H} {W:World}
end
section
variable {H:Type} {enc:TypeId×Value->H} {W:World}
theorem lZ {α:Type} (f:Nat->α) (n i:Nat) (d:α) (h:i<n):((List.range n).map f).getD i d=f i:=by
 simp[List.getD,h]
theorem cC1 {m:Nat} {cs:List Value} {y:DataW H×List MemPlace} (h:DataW.trod enc Tryz.prog W 0 (fun _=>true) true m 106 cs=some y):
 ∃ x:Ent,cs=[.string x.name,.int .i64 x.root,.int .i64 x.size]/\x.ok:=by
 obtain⟨y0,y1,n,_,hl,h0,h1⟩:=trod_struct2 Tryz.underlying106 h
 have hl3:cs.length=3:=hl.trans (by kernel_rfl)
 match cs,hl3 with
 | [c0,c1,c2],_=>
   have e0:Tryz.prog.cellsOf 9=1:=by kernel_rfl
   have e1:Tryz.prog.cellsOf 3=1:=by kernel_rfl
   have e2:Tryz.prog.cellsOf 104=2:=by kernel_rfl
   simp[e0,e2] at h0 h1
   obtain⟨s,hs,_,ws⟩:=DataW.trod_string Tryz.underlying9 h0
   obtain⟨z0,z1,n', _,_,g0,g1⟩:=trod_struct2 Tryz.underlying104 h1
   simp[e1] at g0 g1
   obtain⟨r,hr,_,wr⟩:=DataW.trod_int Tryz.underlying3 g0
   obtain⟨z,hz,_,wz⟩:=DataW.trod_int Tryz.underlying3 g1
   simp at hs hr hz
   subst hs hr hz
   have b1:=bounds_i64 wr
   have b2:=bounds_i64 wz
   have b1':-9223372036854775808<=r/\r<=9223372036854775807:=by omega
   have b2':-9223372036854775808<=z/\z<=9223372036854775807:=by omega
   exact⟨⟨s,r,z⟩,rfl,ws,b1', b2'⟩
theorem aO8 {m:Nat} {v:Value} {y:DataW H×List MemPlace} (h:DataW.trod enc Tryz.prog W 0 (fun _=>true) true m 81 [v]=some y):
 ∃ a n c l,v=.slice a n c/\n<=c/\n<=maxLen/\dS (fun _=>True) W a n l:=by
 have e3:Tryz.prog.cellsOf 106=3:=by kernel_rfl
 rcases open_slice Tryz.underlying81 h with⟨hcs,_⟩ | ⟨a,len,cap,m,n', D,Pl,hcs,_,hl,hm,hmm,_,hx⟩
 ·exact⟨none,0,0,[],by simpa using hcs,Nat.le_refl _,Nat.zero_le _,aC4 _ _ _⟩
 ·simp at hcs
  subst hcs
  simp only[if_true] at hmm
  subst hmm
  have hone:∀ i,i<len->∃ x:Ent,W.cell? (a.add (i*3))=some (.string x.name)/\W.cell? ((a.add (i*3)).add 1)=some (.int .i64 x.root)/\W.cell? ((a.add (i*3)).add 2)=some (.int .i64 x.size)/\x.ok:=by
   intro i hi
   obtain⟨cs', h1,h2⟩:=hx i (by omega)
   rw[e3] at h1
   obtain⟨x,rfl,hok⟩:=cC1 h2
   obtain⟨_,_,hc⟩:=World.cells?_some h1
   have c0:=hc 0 (by omega)
   have c1:=hc 1 (by omega)
   have c2:=hc 2 (by omega)
   have ez:(a.add (i*3)).add 0=a.add (i*3):=add_zero' _
   rw[ez] at c0
   exact⟨x,c0,c1,c2,hok⟩
  obtain⟨X,hX⟩:=choose_lt hone
  refine⟨some a,len,m,(List.range len).map X,rfl,hl,by omega,by simp,fun x hx=>?_,fun hp=>?_⟩
  ·obtain⟨i,hi,rfl⟩:=List.mem_map.1 hx
   exact(hX i (List.mem_range.1 hi)).2.2.2
  ·obtain⟨h0', _⟩:=hX 0 (by omega)
   rw[Nat.zero_mul,add_zero'] at h0'
   have hx0:=kP h0'
   obtain⟨b,off,spot⟩:=a
   simp only[Addr.mk.injEq,true_and] at hx0
   subst hx0
   refine⟨b,off,rfl,eZ h0', trivial,fun i hi=>?_⟩
   obtain⟨c0,c1,c2,_⟩:=hX i hi
   rw[fH] at c0 c1 c2
   rw[fH] at c1 c2
   rw[lZ _ _ _ _ hi]
   exact⟨c0,c1,c2⟩
theorem bM1 {m:Nat} {cs:List Value} {y:DataW H×List MemPlace} (h:DataW.trod enc Tryz.prog W 0 (fun _=>true) true m 113 cs=some y):
 ∃ (x:bQ) (fa:Option Addr) (fn fc:Nat),cs=[.string x.name,.slice fa fn fc]/\x.name.size<=maxLen/\fn<=fc/\dS (fun _=>True) W fa fn x.files:=by
 obtain⟨y0,y1,n,_,hl,h0,h1⟩:=trod_struct2 Tryz.underlying113 h
 have hl2:cs.length=2:=hl.trans (by kernel_rfl)
 match cs,hl2 with
 | [c0,c1],_=>
   have e0:Tryz.prog.cellsOf 9=1:=by kernel_rfl
   have e1:Tryz.prog.cellsOf 81=1:=by kernel_rfl
   simp[e0,e1] at h0 h1
   obtain⟨s,hs,_,ws⟩:=DataW.trod_string Tryz.underlying9 h0
   obtain⟨fa,fn,fc,l,rfl,hc,_,hE⟩:=aO8 h1
   simp at hs
   subst hs
   exact⟨⟨s,l⟩,fa,fn,fc,rfl,ws,hc,hE⟩
theorem bE3 {m:Nat} {v:Value} {y:DataW H×List MemPlace} (h:DataW.trod enc Tryz.prog W 0 (fun _=>true) true m 82 [v]=some y):
 ∃ a n c l,v=.slice a n c/\n<=c/\n<=maxLen/\dV (fun _=>True) W a n l:=by
 have e3:Tryz.prog.cellsOf 113=2:=by kernel_rfl
 rcases open_slice Tryz.underlying82 h with⟨hcs,_⟩ | ⟨a,len,cap,m,n', D,Pl,hcs,_,hl,hm,hmm,_,hx⟩
 ·exact⟨none,0,0,[],by simpa using hcs,Nat.le_refl _,Nat.zero_le _,wJ _ _ _⟩
 ·simp at hcs
  subst hcs
  simp only[if_true] at hmm
  subst hmm
  have hone:∀ i,i<len->∃ x:bQ,∃ fa fn fc,W.cell? (a.add (i*2))=some (.string x.name)/\W.cell? ((a.add (i*2)).add 1)=some (.slice fa fn fc)/\x.name.size<=maxLen/\fn<=fc/\dS (fun _=>True) W fa fn x.files:=by
   intro i hi
   obtain⟨cs', h1,h2⟩:=hx i (by omega)
   rw[e3] at h1
   obtain⟨x,fa,fn,fc,rfl,hs,hcp,hE⟩:=bM1 h2
   obtain⟨_,_,hc⟩:=World.cells?_some h1
   have c0:=hc 0 (by omega)
   have c1:=hc 1 (by omega)
   have ez:(a.add (i*2)).add 0=a.add (i*2):=add_zero' _
   rw[ez] at c0
   exact⟨x,fa,fn,fc,c0,c1,hs,hcp,hE⟩
  obtain⟨X,hX⟩:=choose_lt hone
  refine⟨some a,len,m,(List.range len).map X,rfl,hl,by omega,by simp,fun hp=>?_⟩
  obtain⟨_,_,_,h0', _⟩:=hX 0 (by omega)
  rw[Nat.zero_mul,add_zero'] at h0'
  have hx0:=kP h0'
  obtain⟨b,off,spot⟩:=a
  simp only[Addr.mk.injEq,true_and] at hx0
  subst hx0
  refine⟨b,off,rfl,eZ h0', trivial,fun i hi=>?_⟩
  obtain⟨fa,fn,fc,c0,c1,hs,hcp,hE⟩:=hX i hi
  rw[fH] at c0 c1
  rw[fH] at c1
  rw[lZ _ _ _ _ hi]
  exact⟨fa,fn,fc,c0,c1,hE,hs,hcp⟩
theorem cD6 {m:Nat} {cs:List Value} {y:DataW H×List MemPlace} (h:DataW.trod enc Tryz.prog W 0 (fun _=>true) true m 30 cs=some y):
 ∃ (x:aM) (ba:Option Addr) (bn bc:Nat),cs=[.int .i64 x.kind,.string x.set,.string x.file,.string x.to,.int .i64 x.pos,.int .i64 x.num,.slice ba bn bc]/\x.ok/\bn<=bc/\aI (fun _=>True) .u8 W ba bn x.bytes:=by
 obtain⟨xs,n,_,rfl,hl,hlen,hf⟩:=DataW.trod_struct Tryz.underlying30 h
 have hl7:cs.length=7:=hl.trans (by kernel_rfl)
 match xs,hlen,cs,hl7 with
 | [y0,y1,y2,y3,y4,y5,y6],_,[c0,c1,c2,c3,c4,c5,c6],_=>
   have e0:Tryz.prog.cellsOf 9=1:=by kernel_rfl
   have e1:Tryz.prog.cellsOf 3=1:=by kernel_rfl
   have e2:Tryz.prog.cellsOf 28=1:=by kernel_rfl
   have h0:=hf 0 _ rfl
   have h1:=hf 1 _ rfl
   have h2:=hf 2 _ rfl
   have h3:=hf 3 _ rfl
   have h4:=hf 4 _ rfl
   have h5:=hf 5 _ rfl
   have h6:=hf 6 _ rfl
   simp[e0,e1,e2] at h0 h1 h2 h3 h4 h5 h6
   obtain⟨k,hk,_,wk⟩:=DataW.trod_int Tryz.underlying3 h0
   obtain⟨s1,hs1,_,ws1⟩:=DataW.trod_string Tryz.underlying9 h1
   obtain⟨s2,hs2,_,ws2⟩:=DataW.trod_string Tryz.underlying9 h2
   obtain⟨s3,hs3,_,ws3⟩:=DataW.trod_string Tryz.underlying9 h3
   obtain⟨q,hq,_,wq⟩:=DataW.trod_int Tryz.underlying3 h4
   obtain⟨u,hu,_,wu⟩:=DataW.trod_int Tryz.underlying3 h5
   obtain⟨ba,bn,bc,bs,rfl,hb,_,hB⟩:=nums_open Tryz.underlying28 Tryz.underlying5 (by kernel_rfl) h6
   simp at hk hs1 hs2 hs3 hq hu
   subst hk hs1 hs2 hs3 hq hu
   have b1:=bounds_i64 wk
   have b2:=bounds_i64 wq
   have b3:=bounds_i64 wu
   have b1':-9223372036854775808<=k/\k<=9223372036854775807:=by omega
   have b2':-9223372036854775808<=q/\q<=9223372036854775807:=by omega
   have b3':-9223372036854775808<=u/\u<=9223372036854775807:=by omega
   exact⟨⟨k,s1,s2,s3,q,u,bs⟩,ba,bn,bc,rfl,⟨⟨ws1,ws2,ws3⟩,b1', b2', b3'⟩,hb,hB⟩
theorem asks_open {r:Reach} {b0:Nat} {v:Value} {d:DataW H} {p:List MemPlace} (hv:Value.okWide Tryz.prog W r b0 37 v) (h:DataW.Trod enc Tryz.prog W 0 (fun _=>true) true 37 v d p):
 ∃ a n c l,v=.slice a n c/\n<=c/\n<=maxLen/\kW W a n l:=by
 obtain⟨a,n,c,rfl⟩:=okWide_slice Tryz.underlying37 hv
 obtain⟨fuel,hf⟩:=h
 have e3:Tryz.prog.cellsOf 30=7:=by kernel_rfl
 simp[Value.cells] at hf
 rcases open_slice Tryz.underlying37 hf with⟨hcs,_⟩ | ⟨a,len,cap,m,n', D,Pl,hcs,_,hl,hm,hmm,_,hx⟩
 ·simp at hcs
  obtain⟨rfl,rfl,rfl⟩:=hcs
  exact⟨none,0,0,[],rfl,Nat.le_refl _,Nat.zero_le _,rfl,fun h=>absurd h (by omega)⟩
 ·simp at hcs
  obtain⟨rfl,rfl,rfl⟩:=hcs
  simp only[if_true] at hmm
  subst hmm
  have hone:∀ i,i<n->∃ x:aM,∃ ba bn bc,(W.cell? (a.add (i*7))=some (.int .i64 x.kind)/\W.cell? ((a.add (i*7)).add 1)=some (.string x.set)/\W.cell? ((a.add (i*7)).add 2)=some (.string x.file)/\W.cell? ((a.add (i*7)).add 3)=some (.string x.to)/\
   W.cell? ((a.add (i*7)).add 4)=some (.int .i64 x.pos)/\W.cell? ((a.add (i*7)).add 5)=some (.int .i64 x.num)/\W.cell? ((a.add (i*7)).add 6)=some (.slice ba bn bc))/\x.ok/\bn<=bc/\aI (fun _=>True) .u8 W ba bn x.bytes:=by
   intro i hi
   obtain⟨cs', h1,h2⟩:=hx i (by omega)
   rw[e3] at h1
   obtain⟨x,ba,bn,bc,rfl,hok,hcp,hB⟩:=cD6 h2
   obtain⟨_,_,hc⟩:=World.cells?_some h1
   have c0:=hc 0 (by omega)
   have c1:=hc 1 (by omega)
   have c2:=hc 2 (by omega)
   have c3:=hc 3 (by omega)
   have c4:=hc 4 (by omega)
   have c5:=hc 5 (by omega)
   have c6:=hc 6 (by omega)
   have ez:(a.add (i*7)).add 0=a.add (i*7):=add_zero' _
   rw[ez] at c0
   exact⟨x,ba,bn,bc,⟨c0,c1,c2,c3,c4,c5,c6⟩,hok,hcp,hB⟩
  obtain⟨X,hX⟩:=choose_lt hone
  refine⟨some a,n,m,(List.range n).map X,rfl,hl,by omega,by simp,fun hp=>?_⟩
  obtain⟨_,_,_,⟨h0', _⟩,_⟩:=hX 0 (by omega)
  rw[Nat.zero_mul,add_zero'] at h0'
  have hx0:=kP h0'
  obtain⟨b,off,spot⟩:=a
  simp only[Addr.mk.injEq,true_and] at hx0
  subst hx0
  refine⟨b,off,rfl,eZ h0', fun i hi=>?_⟩
  obtain⟨ba,bn,bc,⟨c0,c1,c2,c3,c4,c5,c6⟩,hok,hcp,hB⟩:=hX i hi
  rw[fH] at c0 c1 c2 c3 c4 c5 c6
  rw[fH] at c1 c2 c3 c4 c5 c6
  rw[lZ _ _ _ _ hi]
  exact⟨ba,bn,bc,c0,c1,c2,c3,c4,c5,c6,hB,hok,hcp⟩
end
section
variable {H:Type} {enc:TypeId×Value->H} {W:World}
theorem aS4 {m:Nat} {c0:Value} {y:DataW H×List MemPlace} (hf:DataW.trod enc Tryz.prog W 0 (fun _=>true) true m 24 [c0]=some y):
 ∃ a n c B,c0=.slice a n c/\aO W a n B:=by
 obtain⟨y0,n,_,_,h0⟩:=trod_struct1 Tryz.underlying24 hf
 have e1:Tryz.prog.cellsOf 22=1:=by kernel_rfl
 have e4:Tryz.prog.cellsOf 135=4:=by kernel_rfl
 simp[e1] at h0
 rcases open_slice Tryz.underlying22 h0 with⟨hcs,_⟩ | ⟨a,len,cap,m,n', D,Pl,hcs,_,hl,hm,hmm,_,hx⟩
 ·simp at hcs
  subst hcs
  exact⟨none,0,0,fun _=>Blk.zero,rfl,fun hp=>absurd hp (by omega)⟩
 ·simp at hcs
  subst hcs
  simp only[if_true] at hmm
  subst hmm
  have hone:∀ i,i<len->∃ K:Blk,∃ ka kn kc ba bn bc,W.cell? (a.add (i*4))=some (.int .i64 K.refs)/\W.cell? ((a.add (i*4)).add 1)=some (.int .i64 K.level)/\W.cell? ((a.add (i*4)).add 2)=some (.slice ka kn kc)/\W.cell? ((a.add (i*4)).add 3)=some (.slice ba bn bc)/\
   aI (fun _=>True) .i64 W ka kn K.kids/\aI (fun _=>True) .u8 W ba bn K.bytes/\(-9223372036854775808<=K.refs/\K.refs<=9223372036854775807)/\(-9223372036854775808<=K.level/\K.level<=9223372036854775807)/\(kn<=kc/\bn<=bc):=by
   intro i hi
   obtain⟨cs', h1,h2⟩:=hx i (by omega)
   rw[e4] at h1
   obtain⟨r,lv,ka,kn,kc,ba,bn,bc,ks,bs,rfl,b1,b2,b3,b4,b5⟩:=cD4 h2
   obtain⟨_,_,hc⟩:=World.cells?_some h1
   have c0:=hc 0 (by omega)
   have c1:=hc 1 (by omega)
   have c2:=hc 2 (by omega)
   have c3:=hc 3 (by omega)
   have ez:(a.add (i*4)).add 0=a.add (i*4):=add_zero' _
   rw[ez] at c0
   exact⟨⟨r,lv,ks,bs⟩,ka,kn,kc,ba,bn,bc,c0,c1,c2,c3,b4,b5,b1,b2,b3⟩
  have:Inhabited Blk:=⟨Blk.zero⟩
  obtain⟨B,hB⟩:=choose_lt hone
  refine⟨some a,len,m,B,rfl,fun hp=>?_⟩
  obtain⟨_,_,_,_,_,_,h0', _⟩:=hB 0 (by omega)
  rw[Nat.zero_mul,add_zero'] at h0'
  have hx0:=kP h0'
  obtain⟨b,off,spot⟩:=a
  simp only[Addr.mk.injEq,true_and] at hx0
  subst hx0
  refine⟨b,off,rfl,eZ h0', fun i hi=>?_⟩
  obtain⟨ka,kn,kc,ba,bn,bc,c0,c1,c2,c3,k1,k2,k3,k4,k5⟩:=hB i hi
  rw[fH] at c0 c1 c2 c3
  rw[fH] at c1 c2 c3
  exact⟨ka,kn,kc,ba,bn,bc,c0,c1,c2,c3,k1,k2,k3,k4,k5⟩
theorem bM5 {m:Nat} {cs:List Value} {y:DataW H×List MemPlace} (h:DataW.trod enc Tryz.prog W 0 (fun _=>true) true m 84 cs=some y):
 ∃ (x:aK) (V:cB),cs=[.string V.name,.slice V.fa V.fn V.fc,.slice V.sa V.sn V.sc]/\dN (fun _=>True) W V x:=by
 obtain⟨y0,y1,y2,n,_,hl,h0,h1,h2⟩:=trod_struct3 Tryz.underlying84 h
 have hl3:cs.length=3:=hl.trans (by kernel_rfl)
 match cs,hl3 with
 | [c0,c1,c2],_=>
   have e0:Tryz.prog.cellsOf 9=1:=by kernel_rfl
   have e1:Tryz.prog.cellsOf 81=1:=by kernel_rfl
   have e2:Tryz.prog.cellsOf 82=1:=by kernel_rfl
   simp[e0,e1,e2] at h0 h1 h2
   obtain⟨s,hs,_,ws⟩:=DataW.trod_string Tryz.underlying9 h0
   obtain⟨fa,fn,fc,fl,rfl,hfc,hfm,hE⟩:=aO8 h1
   obtain⟨sa,sn,sc,sl,rfl,hsc,hsm,hS⟩:=bE3 h2
   simp at hs
   subst hs
   exact⟨⟨s,fl,sl⟩,⟨s,fa,fn,fc,sa,sn,sc⟩,rfl,⟨rfl,ws,hE,hS,hfc,hsc⟩⟩
theorem bM4 {m:Nat} {v:Value} {y:DataW H×List MemPlace} (h:DataW.trod enc Tryz.prog W 0 (fun _=>true) true m 62 [v]=some y):
 ∃ a n c l,v=.slice a n c/\n<=c/\fQ (fun _=>True) W a n l:=by
 have e3:Tryz.prog.cellsOf 84=3:=by kernel_rfl
 rcases open_slice Tryz.underlying62 h with⟨hcs,_⟩ | ⟨a,len,cap,m,n', D,Pl,hcs,_,hl,hm,hmm,_,hx⟩
 ·exact⟨none,0,0,[],by simpa using hcs,Nat.le_refl _,sO _ _ _⟩
 ·simp at hcs
  subst hcs
  simp only[if_true] at hmm
  subst hmm
  have hone:∀ i,i<len->∃ x:aK,∃ V:cB,W.cell? (a.add (i*3))=some (.string V.name)/\W.cell? ((a.add (i*3)).add 1)=some (.slice V.fa V.fn V.fc)/\W.cell? ((a.add (i*3)).add 2)=some (.slice V.sa V.sn V.sc)/\dN (fun _=>True) W V x:=by
   intro i hi
   obtain⟨cs', h1,h2⟩:=hx i (by omega)
   rw[e3] at h1
   obtain⟨x,V,rfl,hX⟩:=bM5 h2
   obtain⟨_,_,hc⟩:=World.cells?_some h1
   have c0:=hc 0 (by omega)
   have c1:=hc 1 (by omega)
   have c2:=hc 2 (by omega)
   have ez:(a.add (i*3)).add 0=a.add (i*3):=add_zero' _
   rw[ez] at c0
   exact⟨x,V,c0,c1,c2,hX⟩
  obtain⟨X,hX⟩:=choose_lt hone
  refine⟨some a,len,m,(List.range len).map X,rfl,hl,by simp,fun hp=>?_⟩
  obtain⟨_,h0', _⟩:=hX 0 (by omega)
  rw[Nat.zero_mul,add_zero'] at h0'
  have hx0:=kP h0'
  obtain⟨b,off,spot⟩:=a
  simp only[Addr.mk.injEq,true_and] at hx0
  subst hx0
  refine⟨b,off,rfl,eZ h0', trivial,fun i hi=>?_⟩
  obtain⟨V,c0,c1,c2,hS⟩:=hX i hi
  rw[fH] at c0 c1 c2
  rw[fH] at c1 c2
  rw[lZ _ _ _ _ hi]
  exact⟨V,c0,c1,c2,hS⟩
theorem bL5 {m:Nat} {cs:List Value} {y:DataW H×List MemPlace} (h:DataW.trod enc Tryz.prog W 0 (fun _=>true) true m 64 cs=some y):
 ∃ (t:aP) (sa:Option Addr) (sn sc:Nat),cs=[.int .i64 t.key,.int .i64 t.quota,.slice sa sn sc]/\sK (fun _=>True) W t sa sn sc:=by
 obtain⟨y0,y1,y2,n,_,hl,h0,h1,h2⟩:=trod_struct3 Tryz.underlying64 h
 have hl3:cs.length=3:=hl.trans (by kernel_rfl)
 match cs,hl3 with
 | [c0,c1,c2],_=>
   have e0:Tryz.prog.cellsOf 3=1:=by kernel_rfl
   have e2:Tryz.prog.cellsOf 62=1:=by kernel_rfl
   simp[e0,e2] at h0 h1 h2
   obtain⟨k,hk,_,wk⟩:=DataW.trod_int Tryz.underlying3 h0
   obtain⟨q,hq,_,wq⟩:=DataW.trod_int Tryz.underlying3 h1
   obtain⟨sa,sn,sc,sl,rfl,hsc,hS⟩:=bM4 h2
   simp at hk hq
   subst hk hq
   have b1:=bounds_i64 wk
   have b2:=bounds_i64 wq
   exact⟨⟨k,q,sl⟩,sa,sn,sc,rfl,⟨hS,by simp only; omega,by simp only; omega,hsc⟩⟩
theorem bL4 {m:Nat} {v:Value} {y:DataW H×List MemPlace} (h:DataW.trod enc Tryz.prog W 0 (fun _=>true) true m 25 [v]=some y):
 ∃ a n c l,v=.slice a n c/\n<=c/\iA (fun _=>True) W a n l:=by
 have e3:Tryz.prog.cellsOf 64=3:=by kernel_rfl
 rcases open_slice Tryz.underlying25 h with⟨hcs,_⟩ | ⟨a,len,cap,m,n', D,Pl,hcs,_,hl,hm,hmm,_,hx⟩
 ·exact⟨none,0,0,[],by simpa using hcs,Nat.le_refl _,bD9 _ _ _⟩
 ·simp at hcs
  subst hcs
  simp only[if_true] at hmm
  subst hmm
  have hone:∀ i,i<len->∃ t:aP,∃ sa sn sc,W.cell? (a.add (i*3))=some (.int .i64 t.key)/\W.cell? ((a.add (i*3)).add 1)=some (.int .i64 t.quota)/\W.cell? ((a.add (i*3)).add 2)=some (.slice sa sn sc)/\sK (fun _=>True) W t sa sn sc:=by
   intro i hi
   obtain⟨cs', h1,h2⟩:=hx i (by omega)
   rw[e3] at h1
   obtain⟨t,sa,sn,sc,rfl,hT⟩:=bL5 h2
   obtain⟨_,_,hc⟩:=World.cells?_some h1
   have c0:=hc 0 (by omega)
   have c1:=hc 1 (by omega)
   have c2:=hc 2 (by omega)
   have ez:(a.add (i*3)).add 0=a.add (i*3):=add_zero' _
   rw[ez] at c0
   exact⟨t,sa,sn,sc,c0,c1,c2,hT⟩
  obtain⟨X,hX⟩:=choose_lt hone
  refine⟨some a,len,m,(List.range len).map X,rfl,hl,by simp,fun hp=>?_⟩
  obtain⟨_,_,_,h0', _⟩:=hX 0 (by omega)
  rw[Nat.zero_mul,add_zero'] at h0'
  have hx0:=kP h0'
  obtain⟨b,off,spot⟩:=a
  simp only[Addr.mk.injEq,true_and] at hx0
  subst hx0
  refine⟨b,off,rfl,eZ h0', trivial,fun i hi=>?_⟩
  obtain⟨sa,sn,sc,c0,c1,c2,hT⟩:=hX i hi
  rw[fH] at c0 c1 c2
  rw[fH] at c1 c2
  rw[lZ _ _ _ _ hi]
  exact⟨sa,sn,sc,c0,c1,c2,hT⟩
theorem pool_open {r:Reach} {b0:Nat} {v:Value} {d:DataW H} {p:List MemPlace} (hv:Value.okWide Tryz.prog W r b0 27 v) (h:DataW.Trod enc Tryz.prog W 0 (fun _=>true) true 27 v d p):
 ∃ a n c B ta tn tc l,v=.agg #[.slice a n c,.slice ta tn tc]/\fU (fun _=>True) W a n B ta tn l:=by
 obtain⟨cs,rfl,hsz⟩:=okWide_struct Tryz.underlying27 hv
 have hsz2:cs.size=2:=hsz.trans (by kernel_rfl)
 obtain⟨l⟩:=cs
 match l,hsz2 with
 | [c0,c1],_=>
   obtain⟨fuel,hf⟩:=h
   obtain⟨y0,y1,n,_,_,h0,h1⟩:=trod_struct2 Tryz.underlying27 hf
   have e0:Tryz.prog.cellsOf 24=1:=by kernel_rfl
   have e1:Tryz.prog.cellsOf 25=1:=by kernel_rfl
   simp[Value.cells,e0,e1] at h0 h1
   obtain⟨a,n,c,B,rfl,hS⟩:=aS4 h0
   obtain⟨ta,tn,tc,tl,rfl,_,hT⟩:=bL4 h1
   exact⟨a,n,c,B,ta,tn,tc,tl,rfl,hS,hT⟩
end
section
variable {H:Type} {enc:TypeId×Value->H} {W:World}
end
def cA0 (d:DataW Unit):Array Value:=match d with | .agg l=>(l.map fun | .lit (.int k z)=>.int k z | _=>Value.int .i64 0).toArray | _=>#[]
def bR4 (d:DataW Unit):Obj->Obj
 | .cells _ t frozen=>.cells (cA0 d) t frozen
 | o=>o
noncomputable def laidWorld (os:Os):World:=
 { World.holding Tryz.prog os ⟨#[],#[],[]⟩ with heap:=(((World.holding Tryz.prog os ⟨#[],#[],[]⟩).heap.modify 1 (bR4 Rows.laid_internal_strconv_uint64pow10)).modify 2 (bR4 Rows.laid_math_bits_deBruijn32tab)).modify 3 (bR4 Rows.laid_math_bits_deBruijn64tab) }
theorem laid_met (os:Os) (args:Array Value):laidMet Tryz.prog Rows.viewLikeRow.laid ((laidWorld os).forCall (fun _ _=>0) ⟨#[],args,[]⟩).memory:=
 laidMet_of_run' 8 (by kernel_rfl) (by kernel_rfl)
theorem tab_of {W:World} (h:laidMet Tryz.prog Rows.viewLikeRow.laid W):Lib.TabIs Tryz.prog W tabN .u64 Lib.pow10Tab:=by
 have h2:=h.tail.tail
 have e:(Rows.laid_internal_strconv_uint64pow10:DataW Unit)=Lib.tabData .u64 Lib.pow10Tab:=by kernel_rfl
 rw[e] at h2
 exact Lib.tabIs_of_head (P:=Tryz.prog) (g:=1) (by kernel_rfl) (by kernel_rfl) Tryz.underlying228 Tryz.underlying127 (by kernel_rfl) (by kernel_rfl) h2
end Go.Proofs.YtjafgnohlkkopaaGreatDoor
