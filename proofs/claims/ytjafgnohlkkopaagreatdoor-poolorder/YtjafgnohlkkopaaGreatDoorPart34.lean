import Derived.Test.YtjafgnohlkkopaaGreatDoorPart33
import Derived.Test.YtjafgnohlkkopaaGreatDoorPart17
import Derived.Lib.SmallJoins
import Derived.Lib.SlBytesConst
import Derived.Test.YtjafgnohlkkopaaGreatDoorPart32
set_option linter.unusedVariables false
set_option maxHeartbeats 8000000
set_option maxRecDepth 100000
namespace Go.Proofs.YtjafgnohlkkopaaGreatDoor
open Go.RowKit
def nA:ByteArray:=⟨#[97]⟩
def nF:ByteArray:=⟨#[102]⟩
def aQ3:aP:=⟨1,nA,⟨#[]⟩,⟨#[]⟩,0,0,[]⟩
def nJ (bs:List Int):aP:=⟨3,nA,nF,⟨#[]⟩,0,0,bs⟩
def B0:Nat->Blk:=fun _=>Blk.zero
theorem bC2:aM nA:=by
 refine⟨by decide,by decide,fun c hc=>?_⟩
 have:c=97:=by simpa [nA] using hc
 subst this
 exact .inl (by decide)
theorem bC1:aM nF:=by
 refine⟨by decide,by decide,fun c hc=>?_⟩
 have:c=102:=by simpa [nF] using hc
 subst this
 exact .inl (by decide)
theorem cG8:cO B0 110=0:=by
 unfold B0
 exact wC 110
theorem bS7 (i:Nat):aH B0 3 0 i=[]:=by
 have z:∀ j,([0,0,0,0]:List Int).getD j 0=0:=fun j=>by
  match j with
  | 0=>rfl
  | 1=>rfl
  | 2=>rfl
  | 3=>rfl
  | j+4=>simp
 simp only[aH,jV,z]
 simp[bytesL]
theorem aB4:aH B0 3 0=fun _=>[]:=funext bS7
structure Small (bs:List Int):Prop where
 bytes:Bytes bs
 le:bs.length<=256
 over:pJ 1 B0 (nJ bs) 0 0=bs
 one:chg (aR 1 (aH B0 3 0)) (bU bs) 64=1
abbrev x0:aK:=⟨nA,[],[]⟩
abbrev x1 (r s:Int):aK:=⟨nA,[⟨nF,r,s⟩],[]⟩
abbrev l0 (q:Int):List aO:=[⟨1,q,[]⟩,⟨2,10,[]⟩]
abbrev l1 (q:Int):List aO:=[⟨1,q,[x0]⟩,⟨2,10,[]⟩]
abbrev l2 (q r s:Int):List aO:=[⟨1,q,[x1 r s]⟩,⟨2,10,[]⟩]
theorem st1 {D:Nat->Blk}{m:List aO}{e N q:Int}(h:dQ 110 B0 (l0 q) 0 ⟨1,q,[]⟩ aQ3 D m e N):e=0/\D=B0/\m=l1 q:=by
 have hk:aQ3.kind=1:=rfl
 cases h with
 | noadd _ _ _ h3=>
   rcases h3 with⟨_,f⟩ | ⟨_,_,x,hx,_⟩ | ⟨_,_,_,f⟩
   ·exact absurd bC2 f
   ·cases hx
   ·cases f
 | add p h1 h2 h3 h4=>
   refine⟨rfl,rfl,?_⟩
   simp[aQ3]
 | uses _ h1=>rw[hk] at h1; omega
 | missing h1=>exact absurd hk h1
 | look _ _ _ _ _ _ h1=>rw[hk] at h1; omega
 | destroy _ _ _ _ _ h1=>rw[hk] at h1; omega
 | noclone _ _ _ _ _ h1=>rw[hk] at h1; omega
 | clone _ _ _ _ _ _ _ h1=>rw[hk] at h1; omega
 | nochange _ _ _ _ _ h1=>exact absurd hk h1.1
 | change _ _ _ _ _ _ _ h1=>exact absurd hk h1.1
theorem aF1 {α:Type}{x y:α}{k:Nat}(h:[x][k]? =some y):k=0/\y=x:=by
 match k with
 | 0=>simp at h; exact⟨rfl,h.symm⟩
 | k+1=>simp at h
theorem bO3 {n:Nat}{D:Nat->Blk}{key:Int}{y:aK}(h:aV n D key y):bE n D (cZ [y]):=fun r hr=>by
 have:r∈aG y:=by simpa [cZ] using hr
 exact h.thereX r this
theorem cG7 {D:Nat->Blk}{y:aK}{q:Int}{bs:List Int}(S:Small bs)(hok:aQ 110 B0 (l1 q))(h:Did 110 B0 1 x0 (nJ bs) 2000 D y):Right 110 D/\aV 110 D 1 y/\cO D 110<=4/\∃ r,y=x1 r bs.length/\aR 1 (aH D 3 r)=bU bs:=by
 have hx:aV 110 B0 1 x0:=(hok.heldX (i:=0) (t:=⟨1,q,[x0]⟩) (x:=x0) rfl (by simp)).1
 have hh:=(hok.heldX (i:=0) (t:=⟨1,q,[x0]⟩) (x:=x0) rfl (by simp)).2.1
 obtain⟨root,size,made,C,⟨p,ht⟩,hT,hD,hu,hf,hy,hm⟩:=aP3 hx hh S.bytes hok.refs (qJ (nJ bs)) h rfl
 rcases ht with⟨hp,_⟩ | ⟨_,rfl,rfl,_,_,_,ey⟩
 ·exact absurd hp (by simp)
 have hT':=hT.used
 rw[S.over] at hT' ey hm
 rw[S.one,cG8] at hT'
 have ey':y=x1 made bs.length:=by rw[ey]; simp[nJ]
 refine⟨hD,hy,by omega,made,ey', ?_⟩
 rw[hf ⟨nF,made,bs.length⟩ (by rw[ey']; simp[kK])]
 exact hm
theorem st2 {D:Nat->Blk}{m:List aO}{e N q:Int}{bs:List Int}(S:Small bs)(h4:4<=q)(hok:aQ 110 B0 (l1 q))(h:dQ 110 B0 (l1 q) 0 ⟨1,q,[x0]⟩ (nJ bs) D m e N):e=0/\cO D 110<=4/\∃ r,m=l2 q r bs.length/\aR 1 (aH D 3 r)=bU bs:=by
 have hk:(nJ bs).kind=3:=rfl
 cases h with
 | noadd _ h1=>rw[hk] at h1; omega
 | add _ h1=>rw[hk] at h1; omega
 | uses _ h1=>rw[hk] at h1; omega
 | missing _ _ h1=>exact absurd ⟨x0,by simp,rfl⟩ h1
 | look _ _ _ _ _ _ h1=>rw[hk] at h1; omega
 | destroy _ _ _ _ _ h1=>rw[hk] at h1; omega
 | noclone _ _ _ _ _ h1=>rw[hk] at h1; omega
 | clone _ _ _ _ _ _ _ h1=>rw[hk] at h1; omega
 | nochange k x e1 h1 h2 h3 _ h5=>
   exfalso
   obtain⟨rfl,rfl⟩:=aF1 h1
   rcases h5 with⟨f,_⟩ | ⟨_,D,y,q', hd,hu,hq⟩
   ·have f':zN 110 B0 1 x0 (nJ bs):=f
    have hle:=S.le
    obtain⟨root,size,hn,hlt,_⟩:=f'.1 rfl bC1 ⟨Int.le_refl _,by show (0:Int)+(bs.length:Int)<=256; omega⟩ (.inr (by decide))
    rcases hn with⟨f,hf,_⟩ | ⟨_,rfl,rfl⟩
    ·cases hf
    ·rw[S.over,S.one,cG8] at hlt
     omega
   ·obtain⟨hD,hy,h4', _⟩:=cG7 S hok hd
    have:=bM0 hD (bO3 hy) hu
    have hq':q<q':=hq
    omega
 | change k x D y q' h1 h2 h3 hdd h5 h6=>
   obtain⟨rfl,rfl⟩:=aF1 h1
   obtain⟨hD,hy,h4', r,rfl,hr⟩:=cG7 S hok hdd
   exact⟨rfl,h4', r,rfl,hr⟩
theorem nQ {n:Nat}{B:Nat->Blk}{l:List aO}{xs:List (Int×aP)}{k:Nat}{a:aP}{D:Nat->Blk}{m:List aO}{ys:List iX}(h:eU n B l (xs++[((k:Int),a)]) D m ys)(hk:k<l.length)(hlen:∀ D m ys,eU n B l xs D m ys->m.length=l.length):∃ D1 m1 ys1 t e N,ys=ys1++[⟨e,N,aH7 t a,aH9 D1 t a⟩]/\eU n B l xs D1 m1 ys1/\m1[k]? =some t/\dQ n D1 m1 k t a D m e N:=by
 generalize hz:xs++[((k:Int),a)]=zs at h
 cases h with
 | nil=>simp at hz
 | miss xs' _ _ ys' i a' h1 h2=>
   obtain⟨e1,e2⟩:=List.append_inj' hz rfl
   subst e1
   simp only[List.cons.injEq,Prod.mk.injEq,and_true] at e2
   obtain⟨rfl,rfl⟩:=e2
   have:=hlen _ _ _ h1
   exact absurd ⟨by omega,by omega⟩ h2
 | step xs' D1 m1 ys' k' a' t _ _ e N h1 h2 _ h3=>
   obtain⟨e1,e2⟩:=List.append_inj' hz rfl
   subst e1
   simp only[List.cons.injEq,Prod.mk.injEq,and_true] at e2
   obtain⟨e3,rfl⟩:=e2
   obtain rfl:k=k':=by omega
   exact⟨D1,m1,ys', t,e,N,rfl,h1,h2,h3⟩
theorem aZ9 {n:Nat}{B:Nat->Blk}{l:List aO}{D:Nat->Blk}{m:List aO}{ys:List iX}(h:eU n B l [] D m ys):D=B/\m=l/\ys=[]:=by
 generalize hz:([]:List (Int×aP))=zs at h
 cases h with
 | nil=>exact⟨rfl,rfl,rfl⟩
 | miss=>simp at hz
 | step=>simp at hz
theorem bH1 {n:Nat}{l:List aO}(hn:n<=400)(hl:l.length<=3)(ht:∀ t∈l,(0<=t.key/\t.key<=1000)/\(0<=t.quota/\t.quota<=400)/\t.sets=[])(hq:nK l+90<=n):aQ n (fun _=>Blk.zero) l:=by
 have hr:∀ t∈l,aL t=[]:=fun t h=>by unfold aL cZ; rw[(ht t h).2.2]; rfl
 have hR:gM l=[]:=by
  unfold gM
  rw[List.flatMap_eq_nil_iff]
  exact hr
 refine⟨bG3 n hn,hl,fun t h=>⟨(ht t h).1,(ht t h).2.1,by rw[(ht t h).2.2]; simp,by rw[(ht t h).2.2]; simp,by rw[(ht t h).2.2]; simp⟩,fun _=>hq,fun t h=>⟨0,⟨[],List.Pairwise.nil,fun x=>⟨fun hx=>by simp at hx,fun hx=>by rw[hr t h] at hx; exact(Clo.nil hx).elim⟩,rfl⟩,(ht t h).2.1.1⟩,?_,fun k hk=>by rw[bP8,hR]; rfl⟩
 refine List.pairwise_of_forall_mem_list (fun t h u _ x hx=>?_)
 rw[hr t h] at hx
 exact(Clo.nil hx).elim
theorem cO7 {q:Int}(h0:0<=q)(h1:q<=10):aQ 110 B0 (l0 q):=bH1 (by omega) (by simp) (fun t ht=>by
 simp only[List.mem_cons,List.not_mem_nil,or_false] at ht
 rcases ht with rfl | rfl
 ·exact⟨⟨by show (0:Int)<=1; decide,by show (1:Int)<=1000; decide⟩,⟨h0,by show q<=400; omega⟩,rfl⟩
 ·exact⟨⟨by decide,by decide⟩,⟨by decide,by decide⟩,rfl⟩) (by simp[nK]; omega)
theorem cO6 {q:Int}(hok0:aQ 110 B0 (l0 q)):aQ 110 B0 (l1 q):=by
 refine(dQ.is (n:=110) (B:=B0) (l:=l0 q) (i:=0) (t:=⟨1,q,[]⟩) (a:=aQ3) (D:=B0) (l':=l1 q) (e1:=0) (N:=0) hok0 rfl (fun x hx=>by cases hx) ?_).ok
 have:=dQ.add (n:=110) (B:=B0) (l:=l0 q) (i:=0) (t:=⟨1,q,[]⟩) (a:=aQ3) 0 rfl bC2 (by show 0<3; decide) ⟨Nat.zero_le _,fun x hx=>(by cases hx),fun x hx=>(by cases hx),⟨fun f=>(by cases f),fun⟨x,hx,_⟩=>(by cases hx)⟩⟩
 exact this
theorem cV6 {q:Int}(D:Nat->Blk)(m:List aO)(ys:List iX)(h:eU 110 B0 (l0 q) [((0:Nat),aQ3)] D m ys):D=B0/\m=l1 q/\∃ N,ys=[⟨0,N,[],[]⟩]:=by
 obtain⟨D1,m1,ys1,t,e,N,rfl,h1,h2,h3⟩:=nQ (xs:=[]) (k:=0) h (by simp) (fun D m ys h=>by rw[(aZ9 h).2.1])
 obtain⟨rfl,rfl,rfl⟩:=aZ9 h1
 obtain rfl:t=⟨1,q,[]⟩:=by simpa using h2.symm
 obtain⟨rfl,rfl,rfl⟩:=st1 h3
 exact⟨rfl,rfl,N,rfl⟩
theorem cW6 {q:Int}{bs:List Int}(S:Small bs)(h4:4<=q)(hok0:aQ 110 B0 (l0 q))(D:Nat->Blk)(m:List aO)(ys:List iX)(h:eU 110 B0 (l0 q) [((0:Nat),aQ3),((0:Nat),nJ bs)] D m ys):aQ 110 D m/\cO D 110<=4/\∃ r N1 N2,m=l2 q r bs.length/\aR 1 (aH D 3 r)=bU bs/\ys=[⟨0,N1,[],[]⟩,⟨0,N2,[],[]⟩]:=by
 obtain⟨D1,m1,ys1,t,e,N,rfl,h1,h2,h3⟩:=nQ (xs:=[((0:Nat),aQ3)]) (k:=0) h (by simp) (fun D m ys h=>by rw[(cV6 D m ys h).2.1]; rfl)
 obtain⟨rfl,rfl,N1,rfl⟩:=cV6 _ _ _ h1
 obtain rfl:t=⟨1,q,[x0]⟩:=by simpa using h2.symm
 have hi:=h3.is (cO6 hok0) rfl S.bytes
 obtain⟨rfl,h5,r,rfl,hr⟩:=st2 S h4 (cO6 hok0) h3
 exact⟨hi.ok,h5,r,N1,N,rfl,hr,rfl⟩
theorem Tryz.infoTn:(Tryz.prog.info? 64).map (fun i=>(i.zero,i.size,i.bytes))=some (some (.agg #[.int .i64 0,.int .i64 0,.slice none 0 0]),3,40):=by kernel_rfl
theorem Only.snaps {M:Nat->Prop}{a b:World}(h:Only M a b){Q:Nat->Prop}{x:Option Addr}{n:Nat}{l:List bD}(he:dV Q a x n l)(hm:∀ k,Q k->¬M k):dV Q b x n l:=by
 refine⟨he.1,fun hn=>?_⟩
 obtain⟨g,off,rfl,hlt,hq,hc⟩:=he.2 hn
 refine⟨g,off,rfl,Nat.lt_of_lt_of_le hlt h.size,hq,fun i hi=>?_⟩
 obtain⟨fa,fn,fc,hs⟩:=hc i hi
 exact⟨fa,fn,fc,(h.cell (p:=⟨g,off+i*2,none⟩) hlt (hm g hq)).trans hs.c0,(h.cell (p:=⟨g,off+i*2+1,none⟩) hlt (hm g hq)).trans hs.c1,h.ents hs.files hm,hs.small,hs.caps⟩
theorem Only.set {M:Nat->Prop}{a b:World}(h:Only M a b){Q:Nat->Prop}{v:cB}{x:aK}(he:dK Q a v x)(hm:∀ k,Q k->¬M k):dK Q b v x:=⟨he.name,he.small,h.ents he.files hm,h.snaps he.snaps hm,he.caps⟩
theorem Only.sets {M:Nat->Prop}{a b:World}(h:Only M a b){Q:Nat->Prop}{x:Option Addr}{n:Nat}{l:List aK}(he:fP Q a x n l)(hm:∀ k,Q k->¬M k):fP Q b x n l:=by
 refine⟨he.1,fun hn=>?_⟩
 obtain⟨g,off,rfl,hlt,hq,hc⟩:=he.2 hn
 refine⟨g,off,rfl,Nat.lt_of_lt_of_le hlt h.size,hq,fun i hi=>?_⟩
 obtain⟨v,hs⟩:=hc i hi
 exact⟨v,(h.cell (p:=⟨g,off+i*3,none⟩) hlt (hm g hq)).trans hs.c0,(h.cell (p:=⟨g,off+i*3+1,none⟩) hlt (hm g hq)).trans hs.c1,(h.cell (p:=⟨g,off+i*3+2,none⟩) hlt (hm g hq)).trans hs.c2,h.set hs.ok hm⟩
theorem Only.tens {M:Nat->Prop}{a b:World}(h:Only M a b){Q:Nat->Prop}{x:Option Addr}{n:Nat}{l:List aO}(he:gU Q a x n l)(hm:∀ k,Q k->¬M k):gU Q b x n l:=by
 refine⟨he.1,fun hn=>?_⟩
 obtain⟨g,off,rfl,hlt,hq,hc⟩:=he.2 hn
 refine⟨g,off,rfl,Nat.lt_of_lt_of_le hlt h.size,hq,fun i hi=>?_⟩
 obtain⟨sa,sn,sc,hs⟩:=hc i hi
 exact⟨sa,sn,sc,(h.cell (p:=⟨g,off+i*3,none⟩) hlt (hm g hq)).trans hs.c0,(h.cell (p:=⟨g,off+i*3+1,none⟩) hlt (hm g hq)).trans hs.c1,(h.cell (p:=⟨g,off+i*3+2,none⟩) hlt (hm g hq)).trans hs.c2,h.sets hs.ok.sets hm,hs.ok.kb,hs.ok.qb,hs.ok.caps⟩
theorem aN3 (g:Nat)(w:World):Kept g w w.drew:=⟨rfl,rfl,rfl,rfl,fun _ _=>rfl⟩
def cU8 (base:Nat)(e:Ending)(w:World)(n:Nat)(l:List aO):Prop:=
 ∃ (g c:Nat) (ta:Option Addr) (tn tc:Nat),e=.returned (.tuple #[.agg #[.slice (some ⟨g,0,none⟩) n c,.slice ta tn tc],.int .i64 0])/\base<=g/\g<w.heap.size/\dO (fun b=>base<=b) w g 0 n (fun _=>Blk.zero)/\gU (fun b=>base<=b) w ta tn l/\tn<=tc
theorem cP0 (w:World):(Instr.makeSlice 25 (.int .i64 2) (.int .i64 2)).run Tryz.prog w=.ok (.slice (some ⟨w.heap.size,0,none⟩) 2 2) (w.alloc (.cells #[.int .i64 0,.int .i64 0,.slice none 0 0,.int .i64 0,.int .i64 0,.slice none 0 0] 64)):=by
 obtain⟨i0,hi,hz0,hz1,hz2⟩:=info_parts Tryz.infoTn
 rw[run_makeSlice (P:=Tryz.prog) w 25 64 i0 _ Tryz.underlying25 hi hz0 .i64 .i64 2 2 (by omega) (by omega) (by rw[hz1]; decide) (by rw[hz2]; decide) (by decide),hz1]
 have e:madeCells (Value.agg #[.int .i64 0,.int .i64 0,.slice none 0 0]).cells (Int.toNat 2*3)=#[.int .i64 0,.int .i64 0,.slice none 0 0,.int .i64 0,.int .i64 0,.slice none 0 0]:=by
  first
  | rfl
  | simp[madeCells,Value.cells,Array.range_succ,Array.range_zero']
  | kernel_rfl
 rw[e]
 rfl
theorem cA8 (n:Nat)(k0 k1 q0 q1:Int)(kb qb:Nat)(w:World)(hn:n<=400)(hk:aC w kb #[.int .i64 k0,.int .i64 k1] 3)(hq:aC w qb #[.int .i64 q0,.int .i64 q1] 3)(hb:(-9223372036854775808<=k0/\k0<=9223372036854775807)/\(-9223372036854775808<=k1/\k1<=9223372036854775807)/\(-9223372036854775808<=q0/\q0<=9223372036854775807)/\(-9223372036854775808<=q1/\q1<=9223372036854775807))(hok:aQ n (fun _=>Blk.zero) [⟨k0,q0,[]⟩,⟨k1,q1,[]⟩]):
 Calls Tryz.prog 30 #[.int .i64 n,.slice (some ⟨kb,0,none⟩) 2 2,.slice (some ⟨qb,0,none⟩) 2 2] w fun e w'=>cU8 w.heap.size e w' n [⟨k0,q0,[]⟩,⟨k1,q1,[]⟩]/\Below w.heap.size w w':=by
 have hmk:=cP0
 have b0:=hid (aA w (.cells #[.slice none 0 0,.slice none 0 0] 27))
 have kB:Hid (aC _ w.heap.size #[.slice none 0 0,.slice none 0 0] 27):=hid (aB w _ _)
 have hkl:=hk.lt
 have hql:=hq.lt
 replace hk:=hid (hk.below b0.out)
 replace hq:=hid (hq.below b0.out)
 replace hok:=hid hok
 have hszw:Hid ((w.alloc (.cells #[.slice none 0 0,.slice none 0 0] 27)).heap.size=w.heap.size+1):=hid (by simp)
 go_enter Tryz.func30,Tryz.ntmps30
 go_upto_region 1 with fail
 generalize w.alloc (.cells #[.slice none 0 0,.slice none 0 0] 27)=w0 at *
 go_wp2_with fail
 refine(aS3 n w0 hn).mono ?_
 rintro e w1 ⟨⟨g,c,rfl,hg,hgl,hBl⟩,b1⟩
 replace hk:=hid (hk.out.below b1)
 replace hq:=hid (hq.out.below b1)
 replace kB:=hid (kB.out.below b1)
 replace b0:=hid (Below.tr b0.out b1)
 clear b1
 have bS:=hid (aA w1 (.cells #[.slice (some ⟨g,0,none⟩) n c] 24))
 have kS:Hid (aC _ w1.heap.size #[.slice (some ⟨g,0,none⟩) n c] 24):=hid (aB w1 _ _)
 replace hBl:=hid hBl
 go_wp2_with fail
 go_cut [10] from 28 (fun v10 wc=>∃ pb tb,v10=.pointer (some ⟨pb,0,none⟩)/\aC wc pb #[.slice (some ⟨g,0,none⟩) n c,.slice (some ⟨tb,0,none⟩) 2 2] 27/\aC wc tb #[.int .i64 0,.int .i64 0,.slice none 0 0,.int .i64 0,.int .i64 0,.slice none 0 0] 64/\Below w1.heap.size w1 wc/\pb≠tb/\w1.heap.size<=pb/\w1.heap.size<=tb)
 case first=>
  go_region
  all_goals (go_wp2_with fail; go_meet)
  ·exact⟨w1.heap.size+1+1,w1.heap.size+1,rfl,(eY w1 _ _ _ _).below (aD _ _),((aF w1 _ _ _).below (aA _ _)).below (aD _ _),(((aA w1 _).alloc (by simp) _).alloc (by simp; omega) _).drew,by omega,by omega,by omega⟩
  ·exact⟨w1.heap.size+1,w1.heap.size+1+1,rfl,((aF w1 _ _ _).below (aA _ _)).below (aD _ _),(eY w1 _ _ _ _).below (aD _ _),(((aA w1 _).alloc (by simp) _).alloc (by simp; omega) _).drew,by omega,by omega,by omega⟩
 case rest=>
  obtain⟨pb,tb,rfl,hp,ht,bc,hne,hpb,htb⟩:=hcut
  clear kS bS
  have hs0:=b0.out.size
  have hkd:kb≠tb:=by omega
  have hqd:qb≠tb:=by omega
  have hpl:=hp.lt
  have d0:=hp.cell 0
  have d1:=hp.cell 1
  simp at d0 d1
  replace hp:=hid hp
  replace ht:=hid ht
  go_wp2_with fail
  clear d0 d1
  go_loopw [36] (fun v wr=>∃ j:Nat,v=.int .i64 j/\Kept tb wc wr/\((j=0/\aC wr tb #[.int .i64 0,.int .i64 0,.slice none 0 0,.int .i64 0,.int .i64 0,.slice none 0 0] 64)\/(j=1/\aC wr tb #[.int .i64 k0,.int .i64 q0,.slice none 0 0,.int .i64 0,.int .i64 0,.slice none 0 0] 64)\/(j=2/\aC wr tb #[.int .i64 k0,.int .i64 q0,.slice none 0 0,.int .i64 k1,.int .i64 q1,.slice none 0 0] 64))) (fun v _=>2-(Go.RowKit.intOf v).toNat)
  case atStart=>exact⟨0,rfl,Kept.refl _ _,.inl ⟨rfl,ht.out⟩⟩
  case round=>
   clear ht
   obtain⟨j,rfl,hkp,hst⟩:=hrel
   have hpw:=(Only.of_kept (M:=fun k=>k=tb) hkp rfl).cells hp.out hne
   have p0:=hpw.cell 0
   have p1:=hpw.cell 1
   simp at p0 p1
   have hkw:=(Only.of_kept (M:=fun k=>k=tb) hkp rfl).cells (hk.out.below bc) hkd
   have hqw:=(Only.of_kept (M:=fun k=>k=tb) hkp rfl).cells (hq.out.below bc) hqd
   replace hpw:=hid hpw
   rcases hst with⟨rfl,ht⟩ | ⟨rfl,ht⟩ | ⟨rfl,ht⟩
   ·have y0:=ht.cell 0
    have y1:=ht.cell 1
    have y2:=ht.cell 2
    have z0:=ht.frozen 0
    have z1:=ht.frozen 1
    have z2:=ht.frozen 2
    have x0:=hkw.cell 0
    have x1:=hqw.cell 0
    simp at y0 y1 y2 x0 x1
    have ht2:=((ht.set 0 (.int .i64 k0)).set 1 (.int .i64 q0)).set 2 (.slice none 0 0)
    simp only[List.setIfInBounds_toArray,List.set_cons_succ,List.set_cons_zero] at ht2
    replace ht2:=hid ht2
    have hk2:=hid (hkp.trans (Kept.setCell (g:=tb) (Kept.setCell (g:=tb) (Kept.setCell (g:=tb) (Kept.refl _ wr) (p:=⟨tb,0,none⟩) rfl (.int .i64 k0)) (p:=⟨tb,1,none⟩) rfl (.int .i64 q0)) (p:=⟨tb,2,none⟩) rfl (.slice none 0 0)))
    clear ht
    go_wp2_with fail
    go_region
    all_goals (go_wp2_with fail; go_roundw)
    all_goals first
     | exact⟨1,by go_num,hk2.out.trans (aN3 _ _),.inr (.inl ⟨rfl,ht2.out.below (aD _ _)⟩)⟩
     | (simp[Go.RowKit.intOf])
   ·have y0:=ht.cell 3
    have y1:=ht.cell 4
    have y2:=ht.cell 5
    have z0:=ht.frozen 3
    have z1:=ht.frozen 4
    have z2:=ht.frozen 5
    have x0:=hkw.cell 1
    have x1:=hqw.cell 1
    simp at y0 y1 y2 x0 x1
    have ht2:=((ht.set 3 (.int .i64 k1)).set 4 (.int .i64 q1)).set 5 (.slice none 0 0)
    simp only[List.setIfInBounds_toArray,List.set_cons_succ,List.set_cons_zero] at ht2
    replace ht2:=hid ht2
    have hk2:=hid (hkp.trans (Kept.setCell (g:=tb) (Kept.setCell (g:=tb) (Kept.setCell (g:=tb) (Kept.refl _ wr) (p:=⟨tb,3,none⟩) rfl (.int .i64 k1)) (p:=⟨tb,4,none⟩) rfl (.int .i64 q1)) (p:=⟨tb,5,none⟩) rfl (.slice none 0 0)))
    clear ht
    go_wp2_with fail
    go_region
    all_goals (go_wp2_with fail; go_roundw)
    all_goals first
     | exact⟨2,by go_num,hk2.out.trans (aN3 _ _),.inr (.inr (⟨rfl,ht2.out.below (aD _ _)⟩))⟩
     | (simp[Go.RowKit.intOf])
   ·replace hkw:=hid hkw
    replace hqw:=hid hqw
    have hgt:g≠tb:=by omega
    have hw0:Hid (w.heap.size<w0.heap.size):=hid (by have:=hszw.out; omega)
    have hBw:=dO.kept (g:=tb) ((dO.weaken hBl.out (R:=fun b=>w0.heap.size<=b/\b<w1.heap.size) (fun b hb q=>⟨q,hb⟩)).below bc) hgt (fun b hb e=>by omega) hkp
    have hSt:aN wr (some ⟨g,0,none⟩) n (fun _=>Blk.zero):=fun _=>⟨g,0,rfl,by rw[hkp.size]; have:=bc.size; omega,dO.weaken hBw (fun _ _ _=>trivial)⟩
    have hTn:gU (fun b=>w1.heap.size<=b) wr (some ⟨tb,0,none⟩) 2 [⟨k0,q0,[]⟩,⟨k1,q1,[]⟩]:=⟨rfl,fun _=>⟨tb,0,rfl,ht.lt,htb,fun i hi=>by
     rcases(by omega:i=0\/i=1) with rfl | rfl
     ·exact⟨none,0,0,ht.cell 0,ht.cell 1,ht.cell 2,sM _ _ _,hb.1,hb.2.2.1,Nat.le_refl _⟩
     ·exact⟨none,0,0,ht.cell 3,ht.cell 4,ht.cell 5,sM _ _ _,hb.2.1,hb.2.2.2,Nat.le_refl _⟩⟩⟩
    have bT:=hid (b0.out.trans ((bc.trans (hkp.below htb)).mono hs0))
    have hP:Hid (fE (fun _=>True) wr (some ⟨g,0,none⟩) n (fun _=>Blk.zero) (some ⟨tb,0,none⟩) 2 [⟨k0,q0,[]⟩,⟨k1,q1,[]⟩]):=hid ⟨hSt,hTn.weaken (fun _ _ _=>trivial)⟩
    have hBw':=hid hBw
    have hTn':=hid hTn
    clear ht hSt hTn hBw
    go_wp2_with fail
    refine(jN (fun _=>True) (some ⟨g,0,none⟩) n c (fun _=>Blk.zero) (some ⟨tb,0,none⟩) 2 2 [⟨k0,q0,[]⟩,⟨k1,q1,[]⟩] wr hP.out).mono ?_
    rintro e w4 ⟨⟨e4,rfl,he4⟩,b4⟩
    obtain rfl:e4=0:=he4.2 hok.out
    have hp4:=hpw.out.below b4
    have kB4:=((Only.of_kept (M:=fun k=>k=tb) hkp rfl).cells (kB.out.below bc) (by have:=kB.out.lt; omega)).below b4
    have r0:=hp4.cell 0
    have r1:=hp4.cell 1
    have s0:=kB4.cell 0
    have s1:=kB4.cell 1
    have s2:=kB4.frozen 0
    have s3:=kB4.frozen 1
    simp at r0 r1 s0 s1
    have kf:=iD w4 w.heap.size (.slice (some ⟨g,0,none⟩) n c) (.slice (some ⟨tb,0,none⟩) 2 2)
    have bF:=hid ((Below.tr bT.out b4).trans (kf.below (Nat.le_refl _)))
    have hBf:=hid (dO.kept (g:=w.heap.size) (hBw'.out.below b4) (by have:=hw0.out; omega) (fun b hb e=>by have:=hw0.out; omega) kf)
    have hTf:=hid ((Only.of_kept (M:=fun k=>k=w.heap.size) kf rfl).tens (hTn'.out.below b4) (fun b hb e=>by have:=hw0.out; omega))
    have hgF:Hid (g<(uZ w4 w.heap.size (.slice (some ⟨g,0,none⟩) n c) (.slice (some ⟨tb,0,none⟩) 2 2)).heap.size):=hid (by rw[kf.size]; have:=b4.size; have:=bc.size; rw[hkp.size] at *; omega)
    have cF:=hid (aX8 (.slice (some ⟨g,0,none⟩) n c) (.slice (some ⟨tb,0,none⟩) 2 2) kB4)
    clear he4 hp4 kB4 kf b4 p0 p1
    unfold uZ at bF hBf hTf hgF cF
    go_wp2_with fail
    have c0:=cF.out.cell 0
    have c1:=cF.out.cell 1
    simp only[List.getElem?_toArray,List.getElem?_cons_zero,List.getElem?_cons_succ] at c0 c1
    refine bodyPost_ret (v:=.tuple #[.agg #[.slice (some ⟨g,0,none⟩) n c,.slice (some ⟨tb,0,none⟩) 2 2],.int .i64 0]) (by rw[results_cell_tmp rfl]; go_simp) rfl ⟨⟨g,c,_,2,2,rfl,by have:=hw0.out; omega,hgF.out,dO.weaken hBf.out (fun b _ hb=>by have:=hw0.out; omega),hTf.out.weaken (fun b _ hb=>by have:=hw0.out; omega),Nat.le_refl _⟩,bF.out⟩
def Bx (w:World)(g:Nat):Prop:=∀ j v,w.cell? ⟨g,j,none⟩=some v->∃ a n c,v=.slice a n c
theorem cU0 {w:World}{g:Nat}{t:TypeId}(h:aC w g #[.slice none 0 0,.slice none 0 0] t):Bx w g:=fun j v hv=>by
 rw[h.cell j] at hv
 match j with
 | 0=>simp at hv; exact⟨_,_,_,hv.symm⟩
 | 1=>simp at hv; exact⟨_,_,_,hv.symm⟩
 | j+2=>simp at hv
theorem Bx.noInt {w:World}{g b off:Nat}{k:IntKind}{x:Int}(h:Bx w g)(hc:w.cell? ⟨b,off,none⟩=some (.int k x)):b≠g:=fun e=>by
 subst e
 obtain⟨_,_,_,f⟩:=h _ _ hc
 cases f
theorem Bx.noStr {w:World}{g b off:Nat}{x:ByteArray}(h:Bx w g)(hc:w.cell? ⟨b,off,none⟩=some (.string x)):b≠g:=fun e=>by
 subst e
 obtain⟨_,_,_,f⟩:=h _ _ hc
 cases f
section
variable {Q:Nat->Prop} {w:World} {g:Nat}
theorem Bx.nums (hx:Bx w g){k:IntKind}{a:Option Addr}{n:Nat}{l:List Int}(h:aI Q k w a n l):aI (fun b=>Q b/\b≠g) k w a n l:=by
 refine⟨h.1,h.2.1,fun hn=>?_⟩
 obtain⟨b,off,rfl,hlt,hq,hc⟩:=h.2.2 hn
 exact⟨b,off,rfl,hlt,⟨hq,hx.noInt (hc 0 hn)⟩,hc⟩
theorem Bx.strs (hx:Bx w g){a:Option Addr}{n:Nat}{l:List ByteArray}(h:gG Q w a n l):gG (fun b=>Q b/\b≠g) w a n l:=by
 refine⟨h.1,fun hn=>?_⟩
 obtain⟨b,off,rfl,hlt,hq,hc⟩:=h.2 hn
 exact⟨b,off,rfl,hlt,⟨hq,hx.noStr (hc 0 hn)⟩,hc⟩
theorem Bx.ents (hx:Bx w g){a:Option Addr}{n:Nat}{l:List Ent}(h:dU Q w a n l):dU (fun b=>Q b/\b≠g) w a n l:=by
 refine⟨h.1,h.2.1,fun hn=>?_⟩
 obtain⟨b,off,rfl,hlt,hq,hc⟩:=h.2.2 hn
 exact⟨b,off,rfl,hlt,⟨hq,hx.noStr (hc 0 hn).c0⟩,hc⟩
theorem Bx.snaps (hx:Bx w g){a:Option Addr}{n:Nat}{l:List bD}(h:dV Q w a n l):dV (fun b=>Q b/\b≠g) w a n l:=by
 refine⟨h.1,fun hn=>?_⟩
 obtain⟨b,off,rfl,hlt,hq,hc⟩:=h.2 hn
 obtain⟨_,_,_,h0⟩:=hc 0 hn
 refine⟨b,off,rfl,hlt,⟨hq,hx.noStr h0.c0⟩,fun i hi=>?_⟩
 obtain⟨fa,fn,fc,hs⟩:=hc i hi
 exact⟨fa,fn,fc,hs.c0,hs.c1,hx.ents hs.files,hs.small,hs.caps⟩
theorem Bx.sets (hx:Bx w g){a:Option Addr}{n:Nat}{l:List aK}(h:fP Q w a n l):fP (fun b=>Q b/\b≠g) w a n l:=by
 refine⟨h.1,fun hn=>?_⟩
 obtain⟨b,off,rfl,hlt,hq,hc⟩:=h.2 hn
 obtain⟨_,h0⟩:=hc 0 hn
 refine⟨b,off,rfl,hlt,⟨hq,hx.noStr h0.c0⟩,fun i hi=>?_⟩
 obtain⟨v,hs⟩:=hc i hi
 exact⟨v,hs.c0,hs.c1,hs.c2,⟨hs.ok.name,hs.ok.small,hx.ents hs.ok.files,hx.snaps hs.ok.snaps,hs.ok.caps⟩⟩
theorem Bx.tens (hx:Bx w g){a:Option Addr}{n:Nat}{l:List aO}(h:gU Q w a n l):gU (fun b=>Q b/\b≠g) w a n l:=by
 refine⟨h.1,fun hn=>?_⟩
 obtain⟨b,off,rfl,hlt,hq,hc⟩:=h.2 hn
 obtain⟨_,_,_,h0⟩:=hc 0 hn
 refine⟨b,off,rfl,hlt,⟨hq,hx.noInt h0.c0⟩,fun i hi=>?_⟩
 obtain⟨sa,sn,sc,hs⟩:=hc i hi
 exact⟨sa,sn,sc,hs.c0,hs.c1,hs.c2,⟨hx.sets hs.ok.sets,hs.ok.kb,hs.ok.qb,hs.ok.caps⟩⟩
theorem Bx.store (hx:Bx w g){w':World}(on:Only (fun b=>b=g) w w'){a:Option Addr}{n:Nat}{B:Nat->Blk}(h:aN w a n B):aN w' a n B:=fun hn=>by
 obtain⟨b,off,rfl,hlt,hc⟩:=h hn
 obtain⟨_,_,_,_,_,_,h0⟩:=hc 0 hn
 have hB:dO (fun b=>True/\b≠g) w b off n B:=fun i hi=>by
  obtain⟨ka,kn,kc,ba,bn,bc,hb⟩:=hc i hi
  exact⟨ka,kn,kc,ba,bn,bc,hb.c0,hb.c1,hb.c2,hb.c3,hx.nums hb.kids,hx.nums hb.bytes,hb.refs,hb.level,hb.caps⟩
 exact⟨b,off,rfl,Nat.lt_of_lt_of_le hlt on.size,(on.blocks hB (hx.noInt h0.c0) hlt (fun k q e=>q.2 e)).weaken (fun _ _ _=>trivial)⟩
end
structure RG (w:World)(n:Nat)(B:Nat->Blk)(tn:Nat)(l:List aO)(q:Nat)(xs:List (Int×aP))(g:Nat)(ta:Option Addr)(rb:Nat)(D:Nat->Blk)(l':List aO)(v:Nat->kY)(ys:List iX):Prop where
 pool:fE (fun _=>True) w (some ⟨g,0,none⟩) n D ta tn l'
 ans:lC w rb q v
 ok:aQ n D l'
 runs:eU n B l xs D l' ys
 len:ys.length=q
 told:∀ i,i<q->kW (fun _=>True) w (v i) (ys.getD i iX.zero)
section
variable {w w':World} {n:Nat} {B:Nat->Blk} {tn:Nat} {l:List aO} {q:Nat} {xs:List (Int×aP)} {g:Nat} {ta:Option Addr} {rb:Nat} {D:Nat->Blk} {l':List aO} {v:Nat->kY} {ys:List iX}
theorem RG.below (h:RG w n B tn l q xs g ta rb D l' v ys)(b:Below w.heap.size w w'):RG w' n B tn l q xs g ta rb D l' v ys:=⟨h.pool.below b,h.ans.below b,h.ok,h.runs,h.len,fun i hi=>(h.told i hi).below b⟩
theorem RG.box {k:Nat}{t:TypeId}(h:RG w n B tn l q xs g ta rb D l' v ys)(hx:aC w k #[.slice none 0 0,.slice none 0 0] t)(on:Only (fun b=>b=k) w w'):RG w' n B tn l q xs g ta rb D l' v ys:=by
 have bx:=cU0 hx
 refine⟨⟨bx.store on h.pool.store,(on.tens (bx.tens h.pool.tens) (fun b hb e=>hb.2 e)).weaken (fun _ _ _=>trivial)⟩,h.ans.only on (fun e=>?_),h.ok,h.runs,h.len,fun i hi=>?_⟩
 ·obtain⟨cs,hc,hs,_⟩:=h.ans
  subst e
  have:(Obj.cells cs 41 (0,0))=.cells #[.slice none 0 0,.slice none 0 0] t (0,0):=Option.some.inj (hc.symm.trans hx)
  simp only[Obj.cells.injEq] at this
  rw[this.1] at hs
  simp at hs
  omega
 ·have ht:=h.told i hi
  exact⟨ht.e,ht.n,(on.strs (bx.strs ht.lists.names) (fun b hb e=>hb.2 e)).weaken (fun _ _ _=>trivial),(on.nums (bx.nums ht.lists.bytes) (fun b hb e=>hb.2 e)).weaken (fun _ _ _=>trivial),ht.lists.caps⟩
theorem rg_of {e:Ending}(h:bE4 e w n B tn l q xs):∃ g ta tc rb D l' v ys,e=.returned (.tuple #[.agg #[.slice (some ⟨g,0,none⟩) n n,.slice ta tn tc],.slice (some ⟨rb,0,none⟩) q q,.int .i64 0])/\RG w n B tn l q xs g ta rb D l' v ys:=by
 obtain⟨g,ta,tc,rb,D,l', v,ys,he,h1,h2,h3,h4,h5,h6⟩:=h
 exact⟨g,ta,tc,rb,D,l', v,ys,he,h1,h2,h3,h4,h5,h6⟩
end
abbrev cW0 (a:aP)(ba:Option Addr)(bn bc:Nat)(r:List Value):List Value:=.int .i64 a.kind::.string a.set::.string a.file::.string a.to::.int .i64 a.pos::.int .i64 a.num::.slice ba bn bc::r
theorem aY7 {w:World}{g:Nat}{i k:Int}{t:TypeId}(hi:-9223372036854775808<=i/\i<=9223372036854775807)(hk:-9223372036854775808<=k/\k<=9223372036854775807)(h:aC w g #[.int .i64 i,.int .i64 k] t):aI (fun _=>True) .i64 w (some ⟨g,0,none⟩) 2 [i,k]:=by
 refine⟨rfl,fun x hx=>?_,fun _=>⟨g,0,rfl,h.lt,trivial,fun j hj=>?_⟩⟩
 ·simp only[List.mem_cons,List.not_mem_nil,or_false] at hx
  rcases hx with rfl | rfl<;>(simp[Lit.wf,IntKind.min,IntKind.max,IntKind.signed,IntKind.bits]; omega)
 ·match j,hj with
  | 0,_=>exact h.cell 0
  | 1,_=>exact h.cell 1
theorem aY8 {w:World}{g:Nat}{a b:aP}{ba da:Option Addr}{bn bc dn dc:Nat}{t:TypeId}{P Q:Nat->Prop}(h:aC w g (cW0 a ba bn bc (cW0 b da dn dc [])).toArray t)(ha:a.ok)(hb:b.ok)(hA:aI P .u8 w ba bn a.bytes)(hB:aI Q .u8 w da dn b.bytes)(h1:bn<=bc)(h2:dn<=dc):zA w (some ⟨g,0,none⟩) 2 [a,b]:=by
 refine⟨rfl,fun _=>⟨g,0,rfl,h.lt,fun i hi=>?_⟩⟩
 match i,hi with
 | 0,_=>exact⟨ba,bn,bc,h.cell 0,h.cell 1,h.cell 2,h.cell 3,h.cell 4,h.cell 5,h.cell 6,hA.weaken (fun _ _ _=>trivial),ha,h1⟩
 | 1,_=>exact⟨da,dn,dc,h.cell 7,h.cell 8,h.cell 9,h.cell 10,h.cell 11,h.cell 12,h.cell 13,hB.weaken (fun _ _ _=>trivial),hb,h2⟩
def N1:List Int:=gN ((zeros 256).take 0) 2 [97,98,99]
def N2:List Int:=gN ((bU N1).take 5) 4 [120,121]
theorem aI.out {Q:Nat->Prop}{k:IntKind}{w w':World}{a:Option Addr}{n q:Nat}{l:List Int}(h:aI Q k w a n l)(hq:∀ b,Q b->b≠q)(ho:Out q w w'):aI Q k w' a n l:=by
 refine⟨h.1,h.2.1,fun hn=>?_⟩
 obtain⟨b,off,rfl,hlt,qb,hc⟩:=h.2.2 hn
 exact⟨b,off,rfl,Nat.lt_of_lt_of_le hlt ho.size,qb,fun i hi=>(ho.cell (p:=⟨b,off+i,none⟩) hlt (hq b qb)).trans (hc i hi)⟩
theorem Own.out {w w':World}{g n q:Nat}{B:Nat->Blk}(h:Own w g n B)(hq:q<g)(ho:Out q w w'):Own w' g n B:=by
 have hlt:=h.lt
 refine⟨Nat.lt_of_lt_of_le h.lt ho.size,fun i hi=>?_,fun i hi=>?_⟩
 ·obtain⟨ka,kn,kc,ba,bn,bc,b⟩:=h.blocks i hi
  exact⟨ka,kn,kc,ba,bn,bc,(ho.cell (p:=⟨g,_,none⟩) hlt (by show g≠q; omega)).trans b.c0,(ho.cell (p:=⟨g,_,none⟩) hlt (by show g≠q; omega)).trans b.c1,(ho.cell (p:=⟨g,_,none⟩) hlt (by show g≠q; omega)).trans b.c2,(ho.cell (p:=⟨g,_,none⟩) hlt (by show g≠q; omega)).trans b.c3,b.kids.out (fun _ h=>by omega) ho,b.bytes.out (fun _ h=>by omega) ho,b.refs,b.level,b.caps⟩
 ·have e:w'.frozen? ⟨g,i,none⟩=w.frozen? ⟨g,i,none⟩:=World.frozen?_of_block (w:=w) (ho.block g hlt (by omega))
  exact e.trans (h.free i hi)
theorem aC.out {w w':World}{g q:Nat}{cs:Array Value}{t:TypeId}(h:aC w g cs t)(hq:g≠q)(ho:Out q w w'):aC w' g cs t:=by
 unfold aC
 rw[ho.block g h.lt hq]
 exact h
theorem bB7 (w:World)(xs:List Int)(t:TypeId)(fr:Nat×Nat)(hw:∀ x∈xs,(Lit.int .u8 x).wf=true):aI (fun _=>True) .u8 (w.alloc (.cells (xs.map (Value.int .u8)).toArray t fr)) (some ⟨w.heap.size,0,none⟩) xs.length xs:=by
 refine⟨rfl,hw,fun _=>⟨w.heap.size,0,rfl,by simp,trivial,fun i hi=>?_⟩⟩
 rw[Nat.zero_add,World.cell?_alloc_mark]
 simp[List.getD,hi]
def cI4 (q:Int)(e:Ending)(w:World):Prop:=∃ (a:Option Addr) (c:Nat) (ta:Option Addr) (tc:Nat),e=.returned (.tuple #[.agg #[.slice a 110 c,.slice ta 2 tc],.bool true])/\fE (fun _=>True) w a 110 B0 ta 2 (l0 q)
theorem bM4 (q:Int)(hq0:0<=q)(hq1:q<=10)(w:World):Calls Tryz.prog 17 #[.int .i64 q] w fun e w'=>cI4 q e w'/\Below w.heap.size w w':=by
 have h0:=aB w #[.slice none 0 0,.slice none 0 0] 27
 have h1:=aB (w.alloc (.cells #[.slice none 0 0,.slice none 0 0] 27)) #[.int .i64 1,.int .i64 2] 3
 have h2:=aB ((w.alloc (.cells #[.slice none 0 0,.slice none 0 0] 27)).alloc (.cells #[.int .i64 1,.int .i64 2] 3)) #[.int .i64 q,.int .i64 10] 3
 simp only[szB] at h1 h2
 have b0:=hid (Below.tr (Below.tr (aA w (.cells #[.slice none 0 0,.slice none 0 0] 27)) (aA _ (.cells #[.int .i64 1,.int .i64 2] 3))) (aA _ (.cells #[.int .i64 q,.int .i64 10] 3)))
 replace h0:=hid ((h0.below (aA _ (.cells #[.int .i64 1,.int .i64 2] 3))).below (aA _ (.cells #[.int .i64 q,.int .i64 10] 3)))
 replace h1:=hid (h1.below (aA _ (.cells #[.int .i64 q,.int .i64 10] 3)))
 replace h2:=hid h2
 go_enter Tryz.func17,Tryz.ntmps17
 go_wp2_with fail
 generalize ((w.alloc (.cells #[.slice none 0 0,.slice none 0 0] 27)).alloc (.cells #[.int .i64 1,.int .i64 2] 3)).alloc (.cells #[.int .i64 q,.int .i64 10] 3)=w0 at *
 refine(cA8 110 1 2 q 10 (w.heap.size+1) (w.heap.size+1+1) w0 (by omega) h1.out h2.out (by omega) (cO7 hq0 hq1)).mono ?_
 rintro e w1 ⟨⟨g,c,ta,tn,tc,rfl,hg,hgl,hBk,hTs,htc⟩,b1⟩
 obtain rfl:tn=2:=hTs.1.symm
 have bA:=hid (aA w1 (.cells #[.slice (some ⟨g,0,none⟩) 110 c,.slice ta 2 tc] 27))
 have kA:Hid (aC _ w1.heap.size #[.slice (some ⟨g,0,none⟩) 110 c,.slice ta 2 tc] 27):=hid (aB w1 _ _)
 have hlt0:=h0.out.lt
 have hg1:=hid (Nat.lt_of_lt_of_le hgl bA.out.size)
 replace hBk:=hid (hBk.below bA.out)
 replace hTs:=hid (hTs.below bA.out)
 have hsz1:=b1.size
 have hgw:Hid (w0.heap.size<=g):=hid hg
 replace b0:=hid (Below.tr (Below.tr b0.out b1) bA.out)
 replace h0:=hid ((h0.out.below b1).below bA.out)
 clear h1 h2
 have hne:w.heap.size≠w1.heap.size:=by omega
 have hn0:=hid hlt0
 clear b1 hsz1 hlt0 hg hgl
 go_upto_region 2 with fail
 generalize w1.alloc (.cells #[.slice (some ⟨g,0,none⟩) 110 c,.slice ta 2 tc] 27)=w2 at *
 have p0:=kA.out.cell 0
 have p1:=kA.out.cell 1
 have r0:=h0.out.cell 0
 have r1:=h0.out.cell 1
 have z0:=h0.out.frozen 0
 have z1:=h0.out.frozen 1
 simp only[List.getElem?_toArray,List.getElem?_cons_zero,List.getElem?_cons_succ] at p0 p1 r0 r1
 have hne':=hne.symm
 have hfin:Hid (cI4 q (.returned (.tuple #[.agg #[.slice (some ⟨g,0,none⟩) 110 c,.slice ta 2 tc],.bool true])) (uZ w2 w.heap.size (.slice (some ⟨g,0,none⟩) 110 c) (.slice ta 2 tc)).drew/\Below w.heap.size w (uZ w2 w.heap.size (.slice (some ⟨g,0,none⟩) 110 c) (.slice ta 2 tc)).drew):=by
  refine hid ⟨⟨_,c,ta,tc,rfl,?_⟩,?_⟩
  ·have kk:=iD w2 w.heap.size (.slice (some ⟨g,0,none⟩) 110 c) (.slice ta 2 tc)
   have on:=Only.of_kept (M:=fun b=>b=w.heap.size) kk rfl
   have hn0':=hn0.out
   have hgw':=hgw.out
   refine fE.below (w:=uZ w2 w.heap.size (.slice (some ⟨g,0,none⟩) 110 c) (.slice ta 2 tc)) ⟨fun _=>⟨g,0,rfl,Nat.lt_of_lt_of_le hg1.out on.size,(on.blocks hBk.out (fun e=>by omega) hg1.out (fun b hb e=>by omega)).weaken (fun _ _ _=>trivial)⟩,(on.tens hTs.out (fun b hb e=>by omega)).weaken (fun _ _ _=>trivial)⟩ (aD _ _)
  ·exact(b0.out.trans ((iD _ _ _ _).below (Nat.le_refl _))).trans (aD _ _)
 go_region
 go_wp2_with fail
 refine bodyPost_ret (v:=.tuple #[.agg #[.slice (some ⟨g,0,none⟩) 110 c,.slice ta 2 tc],.bool true]) (by rw[results_cell_tmp rfl]; go_simp) rfl ?_
 exact hfin.out
theorem okA (k p u:Int)(f:ByteArray){bs:List Int}(h1:f.size<=1)(h2:0<=k/\k<=100)(h3:0<=p/\p<=100)(h4:0<=u/\u<=100)(h5:nA.size<=1):aP.ok ⟨k,nA,f,⟨#[]⟩,p,u,bs⟩:=by
 have hm:(1:Nat)<=maxLen:=by unfold maxLen; omega
 exact⟨⟨Nat.le_trans h5 hm,Nat.le_trans h1 hm,Nat.zero_le _⟩,by show _<=k/\k<=_; omega,by show _<=p/\p<=_; omega,by show _<=u/\u<=_; omega⟩
def bE2:aP:=⟨3,nA,nF,⟨#[]⟩,9,0,[120]⟩
def aQ2:aP:=⟨11,nA,nF,⟨#[]⟩,0,9,[]⟩
def hey:List Int:=[104,101,121]
theorem cW7:Small hey:=by
 have ho:pJ 1 B0 (nJ hey) 0 0=hey:=by
  unfold pJ
  rw[aB4]
  decide +kernel
 refine⟨fun x hx=>?_,by decide,ho,?_⟩
 ·simp only[hey,List.mem_cons,List.not_mem_nil,or_false] at hx
  omega
 ·rw[aB4]
  decide +kernel
def bT4:List Int:=[104,101,121,0,0,0,0,0,0,120]
theorem cH1 {D:Nat->Blk}{r:Int}(h:aR 1 (aH D 3 r)=bU hey):pJ 1 D bE2 r 3=bT4:=by
 unfold pJ
 rw[h]
 decide +kernel
theorem cT5 {D:Nat->Blk}{r:Int}(h:aR 1 (aH D 3 r)=bU hey):chg (aR 1 (aH D 3 r)) (bU (pJ 1 D bE2 r 3)) 64=1:=by
 rw[cH1 h,h]
 decide +kernel
theorem differ {s:List Int}(h0:plain 1 0 s=[104,101,121,0])(h2:plain 1 2 s=[0,120,0,0]):False:=by
 unfold plain at h0 h2
 by_cases e:s=[]
 ·rw[if_pos e] at h0
  exact absurd h0 (by decide)
 rw[if_neg e] at h0 h2
 have hl:s.length=4:=by
  have:=congrArg List.length h0
  rw[iB] at this
  exact this
 have g0:=congrArg (fun l=>l.getD 0 0) h0
 have g2:=congrArg (fun l=>l.getD 0 0) h2
 unfold sU at g0 g2
 rw[sW _ _ _ _ _ (by omega)] at g0 g2
 unfold aU5 aZ2 at g0 g2
 have k0:bQ1 (xk (start 1 (fB 0)) (0+1))=89:=by decide +kernel
 have k2:bQ1 (xk (start 1 (fB 2)) (0+1))=88:=by decide +kernel
 rw[k0] at g0
 rw[k2] at g2
 have r0:([104,101,121,0]:List Int).getD 0 0=104:=rfl
 have r2:([0,120,0,0]:List Int).getD 0 0=0:=rfl
 rw[r0] at g0
 rw[r2] at g2
 omega
theorem cL6:Bytes bE2.bytes:=fun x hx=>by
 simp only[bE2,List.mem_cons,List.not_mem_nil,or_false] at hx
 omega
theorem st3 {D D':Nat->Blk}{m:List aO}{e N r:Int}(hok:aQ 110 D (l2 4 r 3))(hr:aR 1 (aH D 3 r)=bU hey)(hu4:cO D 110<=4)(h:dQ 110 D (l2 4 r 3) 0 ⟨1,4,[x1 r 3]⟩ bE2 D' m e N):e=8/\D'=D/\m=l2 4 r 3:=by
 have hk:bE2.kind=3:=rfl
 cases h with
 | noadd _ h1=>rw[hk] at h1; omega
 | add _ h1=>rw[hk] at h1; omega
 | uses _ h1=>rw[hk] at h1; omega
 | missing _ _ h1=>exact absurd ⟨x1 r 3,by simp,rfl⟩ h1
 | look _ _ _ _ _ _ h1=>rw[hk] at h1; omega
 | destroy _ _ _ _ _ h1=>rw[hk] at h1; omega
 | noclone _ _ _ _ _ h1=>rw[hk] at h1; omega
 | clone _ _ _ _ _ _ _ h1=>rw[hk] at h1; omega
 | nochange k x e1 h1 h2 h3 h4 h5=>
   obtain⟨rfl,rfl⟩:=aF1 h1
   rcases h5 with⟨f,_⟩ | ⟨f,_⟩
   ·exfalso
    obtain⟨root,size,hn,hlt,_⟩:=f.1 rfl bC1 ⟨by decide,by decide⟩ (.inr (by simp))
    rcases hn with⟨f,hf,_,rfl,rfl⟩ | ⟨f,_⟩
    ·obtain rfl:f=⟨nF,r,3⟩:=by simpa using hf
     rw[cT5 hr] at hlt
     omega
    ·exact f ⟨⟨nF,r,3⟩,by simp,rfl⟩
   ·exact⟨f,rfl,rfl⟩
 | change k x D' y q h1 h2 h3 h4 h5 h6=>
   exfalso
   obtain⟨rfl,rfl⟩:=aF1 h1
   obtain⟨hx,hh,_⟩:=hok.heldX (i:=0) (t:=⟨1,4,[x1 r 3]⟩) (x:=x1 r 3) rfl (by simp)
   obtain⟨root,size,made,C,⟨p,ht⟩,hT,hD,hu,hf,hy,hm⟩:=aP3 hx hh cL6 hok.refs (qJ bE2) h4 rfl
   rcases ht with⟨hp,_,rfl,rfl,ey⟩ | ⟨f,_⟩
   ·obtain rfl:p=0:=by simpa using hp
    have hm':aR 1 (aH C 3 made)=bU bT4:=by rw[hm]; exact congrArg bU (cH1 hr)
    have ey':∃ z,y=⟨nA,[⟨nF,made,z⟩],[]⟩:=⟨_,ey⟩
    obtain⟨z,rfl⟩:=ey'
    have hfD:=hf ⟨nF,made,z⟩ (by simp[kK])
    have hfo:=hy.files.files ⟨nF,made,z⟩ (by simp)
    rw[hm'] at hfD
    have c0:=qP 1 (aH D' 3 made) (i:=0) (by omega) (hfo.leaf04 0 (by omega))
    have c2:=qP 1 (aH D' 3 made) (i:=2) (by omega) (hfo.leaf04 2 (by omega))
    have hfD':aR 1 (aH D' 3 made)=bU bT4:=hfD
    rw[hfD'] at c0 c2
    have d0:chunk (bU bT4) 0=[104,101,121,0]:=by decide +kernel
    have d2:chunk (bU bT4) 2=[0,120,0,0]:=by decide +kernel
    rw[d0] at c0
    rw[d2] at c2
    have g5:=cI9 hD h5 (r:=made) (by simp[cZ,aG,aT]) hfo.rooted (fun f=>by rw[f,rF] at c0; exact absurd c0 (by decide)) (fun f=>by rw[f,rF] at c2; exact absurd c2 (by decide)) (fun f=>by rw[<-f] at c2; exact differ c0.symm c2.symm)
    have h6':q<=4:=h6
    omega
   ·exact f ⟨⟨nF,r,3⟩,by simp,rfl⟩
theorem st4 {D D':Nat->Blk}{m:List aO}{e N r:Int}(h:dQ 110 D (l2 4 r 3) 1 ⟨2,10,[]⟩ aQ2 D' m e N):e=5/\D'=D/\m=l2 4 r 3:=by
 have hk:aQ2.kind=11:=rfl
 cases h with
 | noadd _ h1=>rw[hk] at h1; omega
 | add _ h1=>rw[hk] at h1; omega
 | uses _ h1=>rw[hk] at h1; omega
 | missing _ _ h1=>exact⟨rfl,rfl,rfl⟩
 | look _ _ _ _ h1=>simp at h1
 | destroy _ _ _ _ _ h1=>rw[hk] at h1; omega
 | noclone _ _ _ _ _ h1=>rw[hk] at h1; omega
 | clone _ _ _ _ _ _ _ h1=>rw[hk] at h1; omega
 | nochange _ _ _ _ _ h1=>exact absurd hk h1.2.2.1
 | change _ _ _ _ _ _ _ h1=>exact absurd hk h1.2.2.1
theorem cW8 {D:Nat->Blk}{r:Int}(hr:aR 1 (aH D 3 r)=bU hey):aH9 D ⟨1,4,[x1 r 3]⟩ aQ2=hey:=by
 have e1:setOf ⟨1,4,[x1 r 3]⟩ aQ2.set.data.toList=some (x1 r 3):=by simp[setOf,aQ2,aK.nm]
 have e2:fileOf (x1 r 3) aQ2.file.data.toList=some ⟨nF,r,3⟩:=by simp[fileOf,aQ2,Ent.nm]
 unfold aH9
 rw[if_pos (.inl rfl),e1]
 show vC D 1 (x1 r 3) aQ2=hey
 unfold vC
 rw[if_neg (by decide),e2]
 show (if bO7 aQ2 then nS (aR 1 (aH D 3 r)) 3 0 9 else [])=hey
 rw[if_pos ⟨⟨by decide,by decide⟩,⟨by decide,by decide⟩⟩,hr]
 decide +kernel
theorem bH0 {D:Nat->Blk}{m:List aO}{ys:List iX}(hok0:aQ 110 B0 (l0 4))(h:eU 110 B0 (l0 4) [(0,aQ3),(0,nJ hey),(0,bE2),(1,aQ2),(0,aQ2)] D m ys):
 (ys.getD 1 iX.zero).e=0/\(ys.getD 2 iX.zero).e=8/\(ys.getD 3 iX.zero).e=5/\(ys.getD 4 iX.zero).b=hey:=by
 have r2:∀ D m ys,eU 110 B0 (l0 4) [((0:Nat),aQ3),((0:Nat),nJ hey)] D m ys->aQ 110 D m/\cO D 110<=4/\∃ r N1 N2,m=l2 4 r 3/\aR 1 (aH D 3 r)=bU hey/\ys=[⟨0,N1,[],[]⟩,⟨0,N2,[],[]⟩]:=cW6 cW7 (by decide) hok0
 have r3:∀ D m ys,eU 110 B0 (l0 4) [((0:Nat),aQ3),((0:Nat),nJ hey),((0:Nat),bE2)] D m ys->∃ r y1 y2 y3,m=l2 4 r 3/\aR 1 (aH D 3 r)=bU hey/\ys=[y1,y2,y3]/\y2.e=0/\y3.e=8:=fun D m ys h=>by
  obtain⟨D1,m1,ys1,t,e,N,rfl,h1,h2,h3⟩:=nQ (xs:=[((0:Nat),aQ3),((0:Nat),nJ hey)]) (k:=0) h (by simp) (fun D m ys h=>by obtain⟨_,_,r,_,_,e,_⟩:=r2 D m ys h; rw[e]; rfl)
  obtain⟨hok,h4,r,N1,N2,rfl,hr,rfl⟩:=r2 _ _ _ h1
  obtain rfl:t=⟨1,4,[x1 r 3]⟩:=by simpa using h2.symm
  obtain⟨rfl,rfl,rfl⟩:=st3 hok hr h4 h3
  exact⟨r,_,_,_,rfl,hr,rfl,rfl,rfl⟩
 have r4:∀ D m ys,eU 110 B0 (l0 4) [((0:Nat),aQ3),((0:Nat),nJ hey),((0:Nat),bE2),((1:Nat),aQ2)] D m ys->∃ r y1 y2 y3 y4,m=l2 4 r 3/\aR 1 (aH D 3 r)=bU hey/\ys=[y1,y2,y3,y4]/\y2.e=0/\y3.e=8/\y4.e=5:=fun D m ys h=>by
  obtain⟨D1,m1,ys1,t,e,N,rfl,h1,h2,h3⟩:=nQ (xs:=[((0:Nat),aQ3),((0:Nat),nJ hey),((0:Nat),bE2)]) (k:=1) h (by simp) (fun D m ys h=>by obtain⟨r,_,_,_,e,_⟩:=r3 D m ys h; rw[e]; rfl)
  obtain⟨r,y1,y2,y3,rfl,hr,rfl,q2,q3⟩:=r3 _ _ _ h1
  obtain rfl:t=⟨2,10,[]⟩:=by simpa using h2.symm
  obtain⟨rfl,rfl,rfl⟩:=st4 h3
  exact⟨r,y1,y2,y3,_,rfl,hr,rfl,q2,q3,rfl⟩
 obtain⟨D1,m1,ys1,t,e,N,rfl,h1,h2,h3⟩:=nQ (xs:=[((0:Nat),aQ3),((0:Nat),nJ hey),((0:Nat),bE2),((1:Nat),aQ2)]) (k:=0) h (by simp) (fun D m ys h=>by obtain⟨r,_,_,_,_,e,_⟩:=r4 D m ys h; rw[e]; rfl)
 obtain⟨r,y1,y2,y3,y4,rfl,hr,rfl,q2,q3,q4⟩:=r4 _ _ _ h1
 obtain rfl:t=⟨1,4,[x1 r 3]⟩:=by simpa using h2.symm
 exact⟨q2,q3,q4,cW8 hr⟩
abbrev cK7 (h:Nat):Array Value:=#[.int .i64 1,.string ⟨#[97]⟩,.string ⟨#[]⟩,.string ⟨#[]⟩,.int .i64 0,.int .i64 0,.slice none 0 0,.int .i64 3,.string ⟨#[97]⟩,.string ⟨#[102]⟩,.string ⟨#[]⟩,.int .i64 0,.int .i64 0,.slice (some ⟨h+1,0,none⟩) 3 3,.int .i64 3,.string ⟨#[97]⟩,.string ⟨#[102]⟩,.string ⟨#[]⟩,.int .i64 9,.int .i64 0,.slice (some ⟨h+1+1,0,none⟩) 1 1,.int .i64 11,.string ⟨#[97]⟩,.string ⟨#[102]⟩,.string ⟨#[]⟩,.int .i64 0,.int .i64 9,.slice none 0 0,.int .i64 11,.string ⟨#[97]⟩,.string ⟨#[102]⟩,.string ⟨#[]⟩,.int .i64 0,.int .i64 9,.slice none 0 0]
abbrev five (w:World):World:=(((w.alloc (.cells #[.int .i64 0,.int .i64 0,.int .i64 0,.int .i64 1,.int .i64 0] 3)).alloc (.cells #[.int .u8 104,.int .u8 101,.int .u8 121] 5 (3,4))).alloc (.cells #[.int .u8 120] 5 (1,2))).alloc (.cells (cK7 w.heap.size) 30)
theorem cU2 (w:World):aI (fun _=>True) .i64 (five w) (some ⟨w.heap.size,0,none⟩) 5 [0,0,0,1,0]/\zA (five w) (some ⟨w.heap.size+1+1+1,0,none⟩) 5 [aQ3,nJ hey,bE2,aQ2,aQ2]/\Below w.heap.size w (five w):=by
 have ba:=aA w (.cells #[.int .i64 0,.int .i64 0,.int .i64 0,.int .i64 1,.int .i64 0] 3)
 have bb:=aA (w.alloc (.cells #[.int .i64 0,.int .i64 0,.int .i64 0,.int .i64 1,.int .i64 0] 3)) (.cells #[.int .u8 104,.int .u8 101,.int .u8 121] 5 (3,4))
 have bc:=aA ((w.alloc (.cells #[.int .i64 0,.int .i64 0,.int .i64 0,.int .i64 1,.int .i64 0] 3)).alloc (.cells #[.int .u8 104,.int .u8 101,.int .u8 121] 5 (3,4))) (.cells #[.int .u8 120] 5 (1,2))
 have bd:=aA (((w.alloc (.cells #[.int .i64 0,.int .i64 0,.int .i64 0,.int .i64 1,.int .i64 0] 3)).alloc (.cells #[.int .u8 104,.int .u8 101,.int .u8 121] 5 (3,4))).alloc (.cells #[.int .u8 120] 5 (1,2))) (.cells (cK7 w.heap.size) 30)
 have k0:=(((aB w #[.int .i64 0,.int .i64 0,.int .i64 0,.int .i64 1,.int .i64 0] 3).below bb).below bc).below bd
 have n1:=((bB7 (w.alloc (.cells #[.int .i64 0,.int .i64 0,.int .i64 0,.int .i64 1,.int .i64 0] 3)) [104,101,121] 5 (3,4) (by decide)).below bc).below bd
 have n2:=(bB7 ((w.alloc (.cells #[.int .i64 0,.int .i64 0,.int .i64 0,.int .i64 1,.int .i64 0] 3)).alloc (.cells #[.int .u8 104,.int .u8 101,.int .u8 121] 5 (3,4))) [120] 5 (1,2) (by decide)).below bd
 have k3:=aB (((w.alloc (.cells #[.int .i64 0,.int .i64 0,.int .i64 0,.int .i64 1,.int .i64 0] 3)).alloc (.cells #[.int .u8 104,.int .u8 101,.int .u8 121] 5 (3,4))).alloc (.cells #[.int .u8 120] 5 (1,2))) (cK7 w.heap.size) 30
 simp only[szB,List.length_cons,List.length_nil] at n1 n2 k3
 have nz:aI (fun _=>True) .u8 (five w) none 0 []:=⟨rfl,fun x hx=>(by cases hx),fun h=>absurd h (by omega)⟩
 refine⟨⟨rfl,fun x hx=>?_,fun _=>⟨w.heap.size,0,rfl,k0.lt,trivial,fun i hi=>?_⟩⟩,⟨rfl,fun _=>⟨w.heap.size+1+1+1,0,rfl,k3.lt,fun i hi=>?_⟩⟩,Below.tr (Below.tr (Below.tr ba bb) bc) bd⟩
 ·simp only[List.mem_cons,List.not_mem_nil,or_false] at hx
  rcases hx with rfl | rfl | rfl | rfl | rfl<;>decide
 ·match i,hi with
  | 0,_=>exact k0.cell 0
  | 1,_=>exact k0.cell 1
  | 2,_=>exact k0.cell 2
  | 3,_=>exact k0.cell 3
  | 4,_=>exact k0.cell 4
 ·match i,hi with
  | 0,_=>exact⟨none,0,0,k3.cell 0,k3.cell 1,k3.cell 2,k3.cell 3,k3.cell 4,k3.cell 5,k3.cell 6,nz,okA _ _ _ _ (by decide) (by decide) (by decide) (by decide) (by decide),Nat.le_refl _⟩
  | 1,_=>exact⟨_,3,3,k3.cell 7,k3.cell 8,k3.cell 9,k3.cell 10,k3.cell 11,k3.cell 12,k3.cell 13,n1,okA _ _ _ _ (by decide) (by decide) (by decide) (by decide) (by decide),Nat.le_refl _⟩
  | 2,_=>exact⟨_,1,1,k3.cell 14,k3.cell 15,k3.cell 16,k3.cell 17,k3.cell 18,k3.cell 19,k3.cell 20,n2,okA _ _ _ _ (by decide) (by decide) (by decide) (by decide) (by decide),Nat.le_refl _⟩
  | 3,_=>exact⟨none,0,0,k3.cell 21,k3.cell 22,k3.cell 23,k3.cell 24,k3.cell 25,k3.cell 26,k3.cell 27,nz,okA _ _ _ _ (by decide) (by decide) (by decide) (by decide) (by decide),Nat.le_refl _⟩
  | 4,_=>exact⟨none,0,0,k3.cell 28,k3.cell 29,k3.cell 30,k3.cell 31,k3.cell 32,k3.cell 33,k3.cell 34,nz,okA _ _ _ _ (by decide) (by decide) (by decide) (by decide) (by decide),Nat.le_refl _⟩
theorem oO (w:World):Calls Tryz.prog 7 #[] w fun e w'=>e=.returned (.bool true)/\Below w.heap.size w w':=by
 go_enter Tryz.func7,Tryz.ntmps7
 go_wp2_with fail
 refine(bM4 4 (by decide) (by decide) w).mono ?_
 rintro e w1 ⟨⟨a,c,ta,tc,rfl,hP⟩,b1⟩
 have bA:=hid (aA w1 (.cells #[.slice a 110 c,.slice ta 2 tc] 27))
 have kA:Hid (aC _ w1.heap.size #[.slice a 110 c,.slice ta 2 tc] 27):=hid (aB w1 _ _)
 replace hP:=hid (hP.below bA.out)
 replace b1:=hid (Below.tr b1 bA.out)
 go_upto_region 4 with fail
 generalize w1.alloc (.cells #[.slice a 110 c,.slice ta 2 tc] 27)=w2 at *
 have p0:=kA.out.cell 0
 have p1:=kA.out.cell 1
 simp only[List.getElem?_toArray,List.getElem?_cons_zero,List.getElem?_cons_succ] at p0 p1
 have kc:=Joins.run_convert_bytes_const_at (P:=Tryz.prog) (w2.alloc (.cells #[.int .i64 0,.int .i64 0,.int .i64 0,.int .i64 1,.int .i64 0] 3)) 28 5 #[.int .u8 104,.int .u8 101,.int .u8 121] 3 3 (w2.heap.size+1) (by simp) Tryz.underlying28 Tryz.underlying5
 have kd:=Joins.run_convert_bytes_const_at (P:=Tryz.prog) ((w2.alloc (.cells #[.int .i64 0,.int .i64 0,.int .i64 0,.int .i64 1,.int .i64 0] 3)).alloc (.cells #[.int .u8 104,.int .u8 101,.int .u8 121] 5 (3,4))) 28 5 #[.int .u8 120] 1 1 (w2.heap.size+1+1) (by simp) Tryz.underlying28 Tryz.underlying5
 go_wp2_with fail
 obtain⟨hW,hA,b5⟩:=cU2 w2
 have hok0:aQ 110 B0 (l0 4):=cO7 (by decide) (by decide)
 refine(aE4 (fun _=>True) a 110 c B0 ta 2 tc (l0 4) _ 5 [0,0,0,1,0] _ 5 5 [aQ3,nJ hey,bE2,aQ2,aQ2] (five w2) (hP.out.below b5) hok0 hW hA (by omega)).mono ?_
 rintro e w6 ⟨hret,b6⟩
 unfold bE4 at hret
 obtain⟨g,ta', tc', rb,D,l', v,ys,rfl,hPR,hAns,hokR,hruns,hlen,htold⟩:=hret
 obtain⟨y1,y2,y3,y4⟩:=bH0 hok0 hruns
 have hv:(v 1).e=0/\(v 2).e=8/\(v 3).e=5:=⟨(htold 1 (by omega)).e.trans y1,(htold 2 (by omega)).e.trans y2,(htold 3 (by omega)).e.trans y3⟩
 have hNy':aI (fun _=>True) .u8 w6 (v 4).y (v 4).ln hey:=by rw[<-y4]; exact(htold 4 (by omega)).lists.bytes
 have bB:=hid (aA w6 (.cells #[.slice (some ⟨g,0,none⟩) 110 110,.slice ta' 2 tc'] 27))
 have kB:Hid (aC _ w6.heap.size #[.slice (some ⟨g,0,none⟩) 110 110,.slice ta' 2 tc'] 27):=hid (aB w6 _ _)
 replace hPR:=hid (hPR.below bB.out)
 replace hAns:=hAns.below bB.out
 replace hNy':=hNy'.below bB.out
 have hbel:Hid (Below w.heap.size w _):=hid (Below.tr (Below.tr (Below.tr b1.out b5) b6) bB.out)
 replace hokR:=hid hokR
 clear hruns htold hlen y1 y2 y3 y4 hW hA b5 b6 kc kd p0 p1 hP kA bA b1
 go_upto_region 5 with fail
 generalize w6.alloc (.cells #[.slice (some ⟨g,0,none⟩) 110 110,.slice ta' 2 tc'] 27)=w7 at *
 have c1:=(hAns.cells (i:=1) (by omega)).1
 have c2:=(hAns.cells (i:=2) (by omega)).1
 have c3:=(hAns.cells (i:=3) (by omega)).1
 have c4:=(hAns.cells (i:=4) (by omega)).2.2.2
 rw[hv.1] at c1
 rw[hv.2.1] at c2
 rw[hv.2.2] at c3
 simp only[Nat.reduceMul,Nat.reduceAdd] at c1 c2 c3 c4
 have hcv:=iK w7 (v 4).lc hNy'
 have hst:strOfNums hey=⟨#[104,101,121]⟩:=by decide +kernel
 rw[hst] at hcv
 have q0:=kB.out.cell 0
 have q1:=kB.out.cell 1
 simp only[List.getElem?_toArray,List.getElem?_cons_zero,List.getElem?_cons_succ] at q0 q1
 generalize (v 4).y=ya at *
 generalize (v 4).ln=yn at *
 generalize (v 4).lc=yc at *
 replace hAns:=hid hAns
 replace hNy':=hid hNy'
 replace hv:=hid hv
 go_wp2_with fail
 refine(jN (fun _=>True) (some ⟨g,0,none⟩) 110 110 D ta' 2 tc' l' w7 hPR.out).mono ?_
 rintro e w8 ⟨⟨e8,rfl,he8⟩,b8⟩
 obtain rfl:e8=0:=he8.2 hokR.out
 clear he8 hcv c1 c2 c3 c4 q0 q1
 go_wp2_with fail
 go_ret
 exact⟨rfl,Below.tr hbel.out b8⟩
end Go.Proofs.YtjafgnohlkkopaaGreatDoor
