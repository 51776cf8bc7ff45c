import Derived.Test.YtjafgnohlkkopaaGreatDoorPart07
import Derived.Laws.CopyOwn
import Derived.Test.YtjafgnohlkkopaaGreatDoorPart01
import Derived.Test.YtjafgnohlkkopaaGreatDoorPart02
import Derived.Laws.OwnMore
set_option linter.unusedVariables false
set_option maxHeartbeats 8000000
set_option maxRecDepth 100000
namespace Go.Proofs.YtjafgnohlkkopaaGreatDoor
def Bytes (l:List Int):Prop:=∀ x∈l,0<=x/\x<256
theorem oW {l:List Int}(hl:Bytes l)(i:Nat):0<=l.getD i 0/\l.getD i 0<256:=by
 by_cases h:i<l.length
 ·have e:l.getD i 0=l[i]:=by simp[List.getD,h]
  rw[e]; exact hl _ (List.getElem_mem h)
 ·have e:l.getD i 0=0:=by simp[List.getD,List.getElem?_eq_none (by omega:l.length<=i)]
  rw[e]; omega
theorem bY8 (a b:Int)(h:0<=a/\a<256):aZ2 (bL6 a b) b=a:=by unfold aZ2 bL6; omega
theorem bH9 (key at':Int)(l:List Int)(hl:Bytes l):sU key at' (aT0 key at' l)=l:=by
 apply eQ
 ·rw[iB,jD]
 ·intro i hi
  rw[iB,jD] at hi
  unfold sU
  rw[jD,sW _ _ _ _ _ hi]
  unfold aU5 aT0
  rw[sW _ _ _ _ _ hi]
  unfold aU5
  exact bY8 _ _ (oW hl i)
theorem aU2 (key at':Int)(l:List Int):Bytes (sU key at' l):=aF5 aZ2 bN1 _ _ _
def fB (i:Nat):Int:=(i:Int)
theorem aE1 {key:Int}(hk:0<=key/\key<=1000){i:Nat}(hi:i<64):aI4 key (fB i)=true:=decide_eq_true (by unfold fB; omega)
def plain (key:Int)(i:Nat)(l:List Int):List Int:=if l=[] then [0,0,0,0] else sU key (fB i) l
def eG (key:Int)(i:Nat)(p:List Int):List Int:=if p=[0,0,0,0] then [] else aT0 key (fB i) p
theorem rF (key:Int)(i:Nat):plain key i []=[0,0,0,0]:=by simp[plain]
theorem aE7 {key:Int}{i:Nat}{p:List Int}(h4:p.length=4)(hb:Bytes p):plain key i (eG key i p)=p:=by
 unfold eG plain
 by_cases e:p=[0,0,0,0]
 ·simp[e]
 ·rw[if_neg e,if_neg (by intro h; have h5:=congrArg List.length h; rw[jD,h4] at h5; cases h5),bH9 _ _ _ hb]
theorem bI8 {key:Int}{i:Nat}{p:List Int}(h4:p.length=4):eG key i p=[]\/(eG key i p).length=4:=by
 unfold eG
 split
 ·exact .inl rfl
 ·exact .inr (by rw[jD,h4])
theorem aL2 {key:Int}{i:Nat}{l:List Int}(h:l=[]\/l.length=4):(plain key i l).length=4:=by
 unfold plain
 split
 ·rfl
 ·rename_i e
  rw[iB]; exact h.resolve_left e
theorem aU1 (key:Int)(i:Nat)(l:List Int):Bytes (plain key i l):=by
 unfold plain
 split
 ·intro x hx; simp at hx; omega
 ·exact aU2 _ _ _
theorem aO2 {l:List Int}(h4:l.length=4)(h:∀ x∈l,x=0):l=[0,0,0,0]:=by
 match l,h4 with
 | [a,b,c,d],_=>
   have h1:=h a (by simp); have h2:=h b (by simp); have h3:=h c (by simp); have h4:=h d (by simp)
   subst h1 h2 h3 h4; rfl
def aR (key:Int)(L:Nat->List Int):List Int:=(List.range 256).map fun k=>(plain key (k / 4) (L (k / 4))).getD (k%4) 0
theorem cK (key:Int)(L:Nat->List Int):(aR key L).length=256:=by simp[aR]
theorem aC1 (key:Int)(L:Nat->List Int)(k:Nat)(hk:k<256):(aR key L).getD k 0=(plain key (k / 4) (L (k / 4))).getD (k%4) 0:=by simp[aR,List.getD,hk]
theorem jA (key:Int)(L:Nat->List Int):Bytes (aR key L):=by
 intro x hx
 obtain⟨k,_,rfl⟩:=List.mem_map.1 hx
 exact oW (aU1 _ _ _) _
def chunk (l:List Int)(i:Nat):List Int:=(l.drop (4*i)).take 4
theorem lJ {l:List Int}(h:l.length=256){i:Nat}(hi:i<64):(chunk l i).length=4:=by simp[chunk,h]; omega
theorem tT (l:List Int)(i j:Nat)(hj:j<4):(chunk l i).getD j 0=l.getD (4*i+j) 0:=by
 simp[chunk,List.getD,hj]
theorem aX5 {l:List Int}(h:Bytes l)(i:Nat):Bytes (chunk l i):=fun x hx=>h x (List.mem_of_mem_drop (List.mem_of_mem_take hx))
theorem qP (key:Int)(L:Nat->List Int){i:Nat}(hi:i<64)(hL:L i=[]\/(L i).length=4):chunk (aR key L) i=plain key i (L i):=by
 have h4:=aL2 (key:=key) (i:=i) hL
 apply eQ
 ·rw[lJ (cK _ _) hi,h4]
 ·intro j hj
  rw[lJ (cK _ _) hi] at hj
  rw[tT _ _ _ hj,aC1 _ _ _ (by omega),show (4*i+j) / 4=i by omega,show (4*i+j)%4=j by omega]
theorem bD1 {key:Int}{L:Nat->List Int}{W:List Int}(hW:W.length=256)(h:∀ i,i<64->plain key i (L i)=chunk W i):aR key L=W:=by
 apply eQ
 ·rw[cK,hW]
 ·intro k hk
  rw[cK] at hk
  rw[aC1 _ _ _ hk,h _ (by omega),tT _ _ _ (by omega),show 4*(k / 4)+k%4=k by omega]
theorem yI {key:Int}{L M:Nat->List Int}(h:∀ i,i<64->L i=M i):aR key L=aR key M:=by
 unfold aR
 apply List.map_congr_left
 intro k hk
 rw[h _ (by have:=List.mem_range.1 hk; omega)]
def zeros (m:Nat):List Int:=List.replicate m 0
theorem zeros_length (m:Nat):(zeros m).length=m:=List.length_replicate
theorem lT (m k:Nat):(zeros m).getD k 0=0:=by
 unfold zeros
 rw[List.getD_eq_getElem?_getD,List.getElem?_replicate]
 split<;>rfl
structure bQ (n:Nat)(B:Nat->Blk)(key root size:Int):Prop where
 kb:0<=key/\key<=1000
 sb:0<=size/\size<=256
 right:Right n B
 rooted:Root n B 3 root
 form:∀ i,i<64->aH B 3 root i=[]\/plain key i (aH B 3 root i)≠[0,0,0,0]
 behind:∀ k:Nat,size<=k->k<256->(aR key (aH B 3 root)).getD k 0=0
theorem bQ.checked {n:Nat}{B:Nat->Blk}{key root size:Int}(h:bQ n B key root size):Checked n B root 3 0:=⟨h.right,3,by omega,rfl,h.rooted,by omega,by have:=lH 3; omega⟩
theorem bQ.leaf04 {n:Nat}{B:Nat->Blk}{key root size:Int}(h:bQ n B key root size)(i:Nat)(hi:i<64):aH B 3 root i=[]\/(aH B 3 root i).length=4:=xY h.right 3 root h.rooted i hi
theorem bQ.ext {n:Nat}{B C:Nat->Blk}{key root size:Int}(h:bQ n B key root size)(hx:Ext n B C)(hC:Right n C):bQ n C key root size/\aR key (aH C 3 root)=aR key (aH B 3 root):=by
 have hl:∀ i,i<64->aH C 3 root i=aH B 3 root i:=fun i hi=>hx.leaf h.right 3 root h.rooted i hi
 have e:aR key (aH C 3 root)=aR key (aH B 3 root):=yI hl
 exact⟨⟨h.kb,h.sb,hC,(hx.root h.rooted).1,fun i hi=>by rw[hl i hi]; exact h.form i hi,by rw[e]; exact h.behind⟩,e⟩
theorem aW1 {n:Nat}{B:Nat->Blk}{key size:Int}(hR:Right n B)(hk:0<=key/\key<=1000)(hs:0<=size/\size<=256):bQ n B key 0 size/\aR key (aH B 3 0)=zeros 256:=by
 have hl:∀ i,i<64->aH B 3 0 i=[]:=fun i hi=>iZ B 3 i hi
 have e:aR key (aH B 3 0)=zeros 256:=by
  apply bD1 (zeros_length _)
  intro i hi
  rw[hl i hi,rF]
  apply eQ
  ·rw[lJ (zeros_length _) hi]; rfl
  ·intro j hj
   simp at hj
   rw[tT _ _ _ (by omega)]
   rw[lT]
   match j,hj with
   | 0,_=>rfl
   | 1,_=>rfl
   | 2,_=>rfl
   | 3,_=>rfl
 refine⟨⟨hk,hs,hR,.inl rfl,fun i hi=>.inl (hl i hi),fun k _ hk=>?_⟩,e⟩
 rw[e,lT]
def bU (N:List Int):List Int:=N++zeros (256-N.length)
theorem nT {N:List Int}(h:N.length<=256):(bU N).length=256:=by unfold bU; rw[List.length_append,zeros_length]; omega
theorem bH5 (N:List Int)(k:Nat):(bU N).getD k 0=N.getD k 0:=by
 unfold bU
 by_cases h:k<N.length
 ·rw[List.getD_eq_getElem?_getD,List.getElem?_append_left h,List.getD_eq_getElem?_getD]
 ·have h1:=lT (256-N.length) (k-N.length)
  rw[List.getD_eq_getElem?_getD] at h1
  rw[List.getD_eq_getElem?_getD,List.getElem?_append_right (by omega),h1,List.getD_eq_getElem?_getD,List.getElem?_eq_none (by omega)]
  rfl
theorem xB {N:List Int}(h:Bytes N):Bytes (bU N):=by
 intro x hx
 rcases List.mem_append.1 hx with h' | h'
 ·exact h x h'
 ·have:=List.eq_of_mem_replicate (show x∈List.replicate _ 0 from h'); omega
theorem bF2 {N:List Int}(h:N.length<=256):splice ((zeros 256).map (Value.int .u8)) 0 (N.map (Value.int .u8))=(bU N).map (Value.int .u8):=by
 have e:(zeros 256).drop N.length=zeros (256-N.length):=by unfold zeros; rw[List.drop_replicate]
 unfold splice bU
 rw[List.length_map,Nat.zero_add,<-List.map_drop,e,List.map_append]
 rfl
def chg (O W:List Int):Nat->Nat
 | 0=>0
 | j+1=>chg O W j+if chunk O j=chunk W j then 0 else 1
theorem cE7 (O W:List Int){i j:Nat}(h:i<=j):chg O W i<=chg O W j:=by
 induction j with
 | zero=>obtain rfl:i=0:=by omega
         exact Nat.le_refl _
 | succ j ih=>
   by_cases e:i=j+1
   ·subst e; exact Nat.le_refl _
   ·have:=ih (by omega); simp only[chg]; omega
theorem cI2 (O W:List Int)(j:Nat):chg O W j<=j:=by
 induction j with
 | zero=>exact Nat.le_refl _
 | succ j ih=>simp only[chg]; split<;>omega
def nD (key:Int)(L:Nat->List Int)(O W:List Int)(i:Nat):List Int:=if chunk O i=chunk W i then L i else eG key i (chunk W i)
structure WSt (n:Nat)(B C:Nat->Blk)(a cc:Int):Prop where
 right:Right n C
 ext:Ext n B C
 root:Root n C 3 a
 few:∀ k,k<n->(C k).refs<=cc+48
theorem Turned.wst {n:Nat}{B C:Nat->Blk}{a cc:Int}(h:Turned n B C a (cc+48)):WSt n B C a cc:=⟨h.right,h.ext,h.root,h.few⟩
inductive bX5 (n:Nat)(B:Nat->Blk)(key:Int)(O W:List Int)(cc:Int):Int->Nat->(Nat->Blk)->Int->Prop
 | zero:bX5 n B key O W cc 0 0 B 0
 | kept (m:Nat):bX5 n B key O W cc ((m:Int)+1) 0 (lN B ((m:Int)+1)) ((m:Int)+1)
 | same {root:Int} {j:Nat} {C:Nat->Blk} {a:Int}:bX5 n B key O W cc root j C a->chunk O j=chunk W j->bX5 n B key O W cc root (j+1) C a
 | put0 {root:Int} {j:Nat} {C D:Nat->Blk} {a' c':Int}:bX5 n B key O W cc root j C 0->chunk O j≠chunk W j->j<64->WSt n B C 0 cc->kQ n C 3 0 j (eG key j (chunk W j)) c' D a'->bX5 n B key O W cc root (j+1) D a'
 | put {root:Int} {j m:Nat} {C D E:Nat->Blk} {a' c':Int}:bX5 n B key O W cc root j C ((m:Int)+1)->chunk O j≠chunk W j->j<64->WSt n B C ((m:Int)+1) cc->kQ n C 3 ((m:Int)+1) j (eG key j (chunk W j)) c' D a'->WSt n B E a' cc->iU n D E [(m:Int)+1]->bX5 n B key O W cc root (j+1) E a'
structure eT (n:Nat)(B C:Nat->Blk)(key root:Int)(O W:List Int)(j:Nat)(a:Int)(cc:Int):Prop where
 turned:Turned n B C a (cc+48)
 base:∀ k,k<n->(B k).refs<=cc
 used:cO C n<=cO B n+4*chg O W j
 leaf:∀ i,i<64->aH C 3 a i=if i<j then nD key (aH B 3 root) O W i else aH B 3 root i
 still:chg O W j=0->a=root
 fro:∀ x,Clo C [a] x->(B (x-1).toNat).refs=0\/Clo B [root] x
 way:bX5 n B key O W cc root j C a
theorem cE4 {B:Nat->Blk}{i:Nat}{l:List Int}{x:Int}(h:Clo (lN B ((i:Int)+1)) l x):Clo B l x:=
 h (Clo B l) (fun r hr h0=>Clo.root hr h0) fun y hy k hk h0=>hy.kid (by
  by_cases e:(y-1).toNat=i
  ·rw[e] at hk ⊢
   rw[gQ] at hk
   exact hk
  ·rw[eO e] at hk
   exact hk) h0
theorem bD9 {n:Nat}{D E:Nat->Blk}{T:List Int}{a x:Int}(hF:iU n D E T)(hE:Right n E)(ha:a=0\/There n E a)(h:Clo E [a] x):Clo D [a] x:=
 (tQ hE hF (fun r hr=>by rw[List.mem_singleton.1 hr]; exact ha) x).2 h
theorem eT.fro_put {n:Nat}{B C D:Nat->Blk}{key root a a' cc c':Int}{O W:List Int}{j i:Nat}{bs:List Int}(h:eT n B C key root O W j a cc)(hp:kQ n C 3 a i bs c' D a'){x:Int}(hx:Clo D [a'] x):(B (x-1).toNat).refs=0\/Clo B [root] x:=by
 rcases hp.from' h.turned.right h.turned.root hx with h1 | h1
 ·by_cases e:(B (x-1).toNat).refs=0
  ·exact .inl e
  ·by_cases hxn:(x-1).toNat<n
   ·exact absurd h1 (h.turned.ext.keep _ hxn e).1
   ·have ht:=hx.there hp.grew.right (fun r hr=>by rw[List.mem_singleton.1 hr]; exact hp.grew.root.imp id fun h=>h.1)
    exact absurd (ix ht.1 ht.2.1).1 hxn
 ·exact h.fro x h1
theorem aR7 {n:Nat}{B:Nat->Blk}{key cc:Int}{O W:List Int}(hR:Right n B)(hc:∀ k,k<n->(B k).refs<=cc):eT n B B key 0 O W 0 0 cc:=
 ⟨aR5 hR (fun k hk=>by have:=hc k hk; omega),hc,by simp[chg],fun i _=>by rw[if_neg (by omega)],fun _=>rfl,fun x h=>.inr h,.zero⟩
theorem aR8 {n:Nat}{B:Nat->Blk}{key cc:Int}{O W:List Int}{m:Nat}(hR:Right n B)(hr:Root n B 3 ((m:Int)+1))(hcm:cc<=999999)(hc:∀ k,k<n->(B k).refs<=cc):eT n B (lN B ((m:Int)+1)) key ((m:Int)+1) O W 0 ((m:Int)+1) cc:=by
 have ht:=aR6 hR hr hcm hc
 refine⟨⟨ht.right,ht.ext,ht.root,ht.out,fun k hk=>by have:=ht.few k hk; omega,ht.newk⟩,hc,?_,fun i hi=>?_,fun _=>rfl,fun x h=>.inr (cE4 h),.kept m⟩
 ·have h0:(B m).refs≠0:=by
   rcases hr with h | ⟨⟨_,_,h⟩,_⟩
   ·omega
   ·rwa [show ((m:Int)+1-1).toNat=m by omega] at h
  have:=bM2 (i:=m) hR h0
  simp[chg]; exact this
 ·rw[if_neg (by omega)]
  exact ht.ext.leaf hR 3 _ hr i hi
theorem eT.same {n:Nat}{B C:Nat->Blk}{key root a cc:Int}{O W:List Int}{j:Nat}(h:eT n B C key root O W j a cc)(hj:j<64)(e:chunk O j=chunk W j):eT n B C key root O W (j+1) a cc:=by
 have ec:chg O W (j+1)=chg O W j:=by simp[chg,e]
 refine⟨h.turned,h.base,by rw[ec]; exact h.used,fun i hi=>?_,by rw[ec]; exact h.still,h.fro,.same h.way e⟩
 rw[h.leaf i hi]
 by_cases h1:i<j
 ·rw[if_pos h1,if_pos (by omega)]
 ·by_cases h2:i=j
  ·subst h2
   rw[if_neg h1,if_pos (by omega)]
   simp[nD,e]
  ·rw[if_neg h1,if_neg (by omega)]
theorem eT.step0 {n:Nat}{B C D:Nat->Blk}{key root a' cc c':Int}{O W:List Int}{j:Nat}(hB:Right n B)(h:eT n B C key root O W j 0 cc)(h1:64<=cc)(hj:j<64)(e:chunk O j≠chunk W j)(hp:kQ n C 3 0 j (eG key j (chunk W j)) c' D a'):eT n B D key root O W (j+1) a' cc:=by
 have ec:chg O W (j+1)=chg O W j+1:=by simp[chg,e]
 have ht:=h.turned.put0 hB h1 h.base hp
 refine⟨ht,h.base,?_,fun i hi=>?_,fun h0=>by omega,fun x hx=>h.fro_put hp hx,.put0 h.way e hj h.turned.wst hp⟩
 ·rw[ec]; have:=hp.grew.used; have:=h.used; omega
 ·rw[hp.leaf i hi,h.leaf i hi]
  by_cases h2:i=j
  ·subst h2; rw[if_pos rfl,if_pos (by omega)]; simp[nD,e]
  ·rw[if_neg h2]
   by_cases h3:i<j
   ·rw[if_pos h3,if_pos (by omega)]
   ·rw[if_neg h3,if_neg (by omega)]
theorem eT.step {n:Nat}{B C D E:Nat->Blk}{key root a' cc c':Int}{O W:List Int}{j m:Nat}(hB:Right n B)(h:eT n B C key root O W j ((m:Int)+1) cc)(h1:64<=cc)(hj:j<64)(e:chunk O j≠chunk W j)(hp:kQ n C 3 ((m:Int)+1) j (eG key j (chunk W j)) c' D a')(hE:Right n E)(hF:iU n D E [(m:Int)+1]):eT n B E key root O W (j+1) a' cc:=by
 have ec:chg O W (j+1)=chg O W j+1:=by simp[chg,e]
 obtain⟨ht,hl,hu⟩:=h.turned.drop hB h1 h.base hp hE hF
 refine⟨ht,h.base,?_,fun i hi=>?_,fun h0=>by omega,fun x hx=>h.fro_put hp (bD9 hF hE (ht.root.imp id fun h=>h.1) hx),.put h.way e hj h.turned.wst hp ht.wst hF⟩
 ·rw[ec]; have:=hp.grew.used; have:=h.used; omega
 ·rw[hl i hi,hp.leaf i hi,h.leaf i hi]
  by_cases h2:i=j
  ·subst h2; rw[if_pos rfl,if_pos (by omega)]; simp[nD,e]
  ·rw[if_neg h2]
   by_cases h3:i<j
   ·rw[if_pos h3,if_pos (by omega)]
   ·rw[if_neg h3,if_neg (by omega)]
theorem eT.file {n:Nat}{B C:Nat->Blk}{key root a cc size:Int}{N:List Int}(hok:bQ n B key root size)(hN:N.length<=256)(hb:Bytes N)(h:eT n B C key root (aR key (aH B 3 root)) (bU N) 64 a cc):
 bQ n C key a (N.length:Int)/\aR key (aH C 3 a)=bU N/\(∀ i,i<64->aH C 3 a i=nD key (aH B 3 root) (aR key (aH B 3 root)) (bU N) i):=by
 have hl:∀ i,i<64->aH C 3 a i=nD key (aH B 3 root) (aR key (aH B 3 root)) (bU N) i:=fun i hi=>by rw[h.leaf i hi,if_pos hi]
 have hpl:∀ i,i<64->plain key i (aH C 3 a i)=chunk (bU N) i:=fun i hi=>by
  rw[hl i hi]
  unfold nD
  by_cases e:chunk (aR key (aH B 3 root)) i=chunk (bU N) i
  ·rw[if_pos e,<-e,qP _ _ hi (hok.leaf04 i hi)]
  ·rw[if_neg e,aE7 (lJ (nT hN) hi) (aX5 (xB hb) i)]
 have hf:aR key (aH C 3 a)=bU N:=bD1 (nT hN) hpl
 refine⟨⟨hok.kb,by omega,h.turned.right,h.turned.root,fun i hi=>?_,fun k h1 h2=>?_⟩,hf,hl⟩
 ·by_cases e:chunk (aR key (aH B 3 root)) i=chunk (bU N) i
  ·have e2:aH C 3 a i=aH B 3 root i:=by rw[hl i hi]; simp[nD,e]
   rw[e2]; exact hok.form i hi
  ·by_cases e0:chunk (bU N) i=[0,0,0,0]
   ·left; rw[hl i hi]; simp only[nD]; rw[if_neg e]; simp[eG,e0]
   ·right; rw[hpl i hi]; exact e0
 ·rw[hf,bH5]
  simp[List.getD,List.getElem?_eq_none (by omega:N.length<=k)]
def gN (b:List Int)(at':Nat)(more:List Int):List Int:=if more=[] then b else splice (splice (zeros (max b.length (at'+more.length))) 0 b) at' more
theorem nU (b:List Int)(at':Nat)(more:List Int):(gN b at' more).length=if more=[] then b.length else max b.length (at'+more.length):=by
 unfold gN
 split
 ·rfl
 ·have h1:(splice (zeros (max b.length (at'+more.length))) 0 b).length=max b.length (at'+more.length):=by
   rw[length_splice _ _ _ (by rw[zeros_length]; omega),zeros_length]
  rw[length_splice _ _ _ (by rw[h1]; omega),h1]
theorem qE (L:List Int)(off:Nat)(cs:List Int)(h:off+cs.length<=L.length)(k:Nat):(splice L off cs).getD k 0=if off<=k/\k<off+cs.length then cs.getD (k-off) 0 else L.getD k 0:=by
 unfold splice
 have ht:(L.take off).length=off:=by simp; omega
 by_cases h1:k<off
 ·rw[if_neg (by omega)]
  simp[List.getD,List.getElem?_append_left (by omega:k<(L.take off).length),h1]
 ·by_cases h2:k<off+cs.length
  ·rw[if_pos ⟨by omega,h2⟩]
   simp[List.getD,List.getElem?_append_right (by omega:(L.take off).length<=k),ht,List.getElem?_append_left (by omega:k-off<cs.length)]
  ·rw[if_neg (by omega)]
   simp only[List.getD,List.getElem?_append_right (by omega:(L.take off).length<=k),ht,List.getElem?_append_right (by omega:cs.length<=k-off),List.getElem?_drop]
   rw[show off+cs.length+(k-off-cs.length)=k by omega]
theorem bH7 (b:List Int)(at':Nat)(more:List Int)(k:Nat):(gN b at' more).getD k 0=if at'<=k/\k<at'+more.length then more.getD (k-at') 0 else b.getD k 0:=by
 unfold gN
 split
 ·rename_i e
  subst e
  rw[if_neg (by simp)]
 ·have h0:(splice (zeros (max b.length (at'+more.length))) 0 b).length=max b.length (at'+more.length):=by
   rw[length_splice _ _ _ (by rw[zeros_length]; omega),zeros_length]
  rw[qE _ _ _ (by rw[h0]; omega),qE _ _ _ (by rw[zeros_length]; omega),lT]
  by_cases h1:at'<=k/\k<at'+more.length
  ·rw[if_pos h1,if_pos h1]
  ·rw[if_neg h1,if_neg h1]
   by_cases h2:k<b.length
   ·rw[if_pos (by omega)]; simp
   ·rw[if_neg (by omega)]
    simp[List.getD,List.getElem?_eq_none (by omega:b.length<=k)]
theorem xD {b:List Int}{at':Nat}{more:List Int}(hb:Bytes b)(hm:Bytes more):Bytes (gN b at' more):=by
 intro x hx
 obtain⟨k,hk,rfl⟩:=List.mem_iff_getElem.1 hx
 have e:(gN b at' more).getD k 0=(gN b at' more)[k]:=by simp[List.getD,hk]
 rw[<-e,bH7]
 split
 ·exact oW hm _
 ·exact oW hb _
end Go.Proofs.YtjafgnohlkkopaaGreatDoor
namespace Go.Proofs.YtjafgnohlkkopaaGreatDoor
def gJ (n:Nat)(B C:Nat->Blk)(l:List Int):Prop:=
 ∀ x,Clo B l x->There n C x/\(C (x-1).toNat).level=(B (x-1).toNat).level/\(C (x-1).toNat).kids=(B (x-1).toNat).kids/\(C (x-1).toNat).bytes=(B (x-1).toNat).bytes
theorem bF1 {n:Nat}{B:Nat->Blk}{l:List Int}(hB:Right n B)(hl:bE n B l):gJ n B B l:=fun x hx=>⟨hx.there hB hl,rfl,rfl,rfl⟩
theorem qW {n:Nat}{B C:Nat->Blk}{l:List Int}(hB:Right n B)(hl:bE n B l)(hx:Ext n B C):gJ n B C l:=fun x hc=>by
 obtain⟨h1,h2,h3⟩:=hc.there hB hl
 obtain⟨g1,g2,g3,g4⟩:=hx.keep _ (ix h1 h2).1 h3
 exact⟨⟨h1,h2,g1⟩,g2,g3,g4⟩
theorem oK {n:Nat}{B C:Nat->Blk}{l T:List Int}(hC:Right n C)(hF:iU n B C T)(hl:bE n C l):gJ n B C l:=fun x hc=>by
 have ht:=((tQ hC hF hl x).1 hc).there hC hl
 exact⟨ht,eB hF ht⟩
theorem gJ.clo {n:Nat}{B C:Nat->Blk}{l:List Int}(h:gJ n B C l){x:Int}(hx:Clo B l x):Clo C l x:=by
 refine(hx (fun y=>Clo B l y/\Clo C l y) (fun r hr h0=>⟨Clo.root hr h0,Clo.root hr h0⟩) ?_).2
 rintro y ⟨h1,h2⟩ k hk h0
 exact⟨h1.kid hk h0,h2.kid (by rw[(h y h1).2.2.1]; exact hk) h0⟩
theorem gJ.trans {n:Nat}{B C D:Nat->Blk}{l:List Int}(h:gJ n B C l)(k:gJ n C D l):gJ n B D l:=fun x hx=>by
 obtain⟨_,h1,h2,h3⟩:=h x hx
 obtain⟨k0,k1,k2,k3⟩:=k x (h.clo hx)
 exact⟨k0,k1.trans h1,k2.trans h2,k3.trans h3⟩
theorem gJ.mono {n:Nat}{B C:Nat->Blk}{l m:List Int}(h:gJ n B C l)(hm:∀ x∈m,x∈l):gJ n B C m:=fun x hx=>h x (hx.mono fun r hr h0=>Clo.root (hm r hr) h0)
theorem gJ.leaf {n:Nat}{B C:Nat->Blk}{l:List Int}(hB:Right n B)(hC:Right n C)(h:gJ n B C l):∀ (v:Nat) (a:Int),Root n B v a->(a=0\/Clo B l a)->Root n C v a/\∀ i,i<pw v->aH C v a i=aH B v a i
 | v,a,hr,.inl h0=>by
   subst h0
   exact⟨.inl rfl,fun i hi=>by rw[iZ _ _ _ hi,iZ _ _ _ hi]⟩
 | 0,a,hr,.inr ht=>by
   obtain⟨c0,c1,c2,c3⟩:=h a ht
   have h1:=c0.1
   refine⟨?_,fun i _=>?_⟩
   ·rcases hr with h | ⟨_,h⟩
    ·exact .inl h
    ·exact .inr ⟨c0,c1.trans h⟩
   ·simp only[aH,bytesL]
    rw[if_neg (by omega),if_neg (by omega),c3]
 | v+1,a,hr,.inr ht=>by
   obtain⟨c0,c1,c2,c3⟩:=h a ht
   have h1:=c0.1
   have hrE:Root n C (v+1) a:=by
    rcases hr with h | ⟨_,h⟩
    ·exact .inl h
    ·exact .inr ⟨c0,c1.trans h⟩
   have hk:kidsL C a=kidsL B a:=by unfold kidsL; rw[if_neg (by omega),if_neg (by omega),c2]
   refine⟨hrE,fun i hi=>?_⟩
   have hp:=lH v
   have hd:i / pw v<4:=by simp only[pw] at hi; exact Nat.div_lt_of_lt_mul (by rw[Nat.mul_comm]; exact hi)
   simp only[aH]
   rw[hk]
   refine(gJ.leaf hB hC h v _ (hr.kidAt hB hd) ?_).2 _ (Nat.mod_lt _ hp)
   by_cases h0:(kidsL B a).getD (i / pw v) 0=0
   ·exact .inl h0
   ·refine .inr (ht.kid ?_ h0)
    have hlen:=hr.len hB
    have hm:(kidsL B a).getD (i / pw v) 0∈kidsL B a:=by
     rw[List.getD_eq_getElem?_getD,List.getElem?_eq_getElem (by omega)]
     exact List.getElem_mem _
    have hk2:kidsL B a=(B (a-1).toNat).kids:=by unfold kidsL; rw[if_neg (by omega)]
    rw[hk2] at hm ⊢
    exact hm
theorem bQ.stays {n:Nat}{B C:Nat->Blk}{key root size:Int}{l:List Int}(h:bQ n B key root size)(hC:Right n C)(hs:gJ n B C l)(hr:root∈l):bQ n C key root size/\aR key (aH C 3 root)=aR key (aH B 3 root):=by
 have hor:root=0\/Clo B l root:=by
  by_cases h0:root=0
  ·exact .inl h0
  ·exact .inr (Clo.root hr h0)
 obtain⟨h1,hl⟩:=hs.leaf h.right hC 3 root h.rooted hor
 have e:aR key (aH C 3 root)=aR key (aH B 3 root):=yI hl
 exact⟨⟨h.kb,h.sb,hC,h1,fun i hi=>by rw[hl i hi]; exact h.form i hi,by rw[e]; exact h.behind⟩,e⟩
structure Grow (n:Nat)(B C:Nat->Blk)(K:List Int):Prop where
 right:Right n C
 ext:Ext n B C
 out:∀ k,k<n->outs n C k=outs n B k+(K.count ((k:Int)+1):Int)
theorem Turned.grow {n:Nat}{B C:Nat->Blk}{a c:Int}(h:Turned n B C a c):Grow n B C [a]:=⟨h.right,h.ext,fun k hk=>by
 rw[h.out k hk]
 by_cases e:(k:Int)+1=a
 ·subst e; rw[if_pos rfl,List.count_cons_self]; simp
 ·rw[if_neg e,List.count_cons_of_ne (fun h=>e h.symm)]; simp⟩
theorem bC3 {n:Nat}{B:Nat->Blk}(hB:Right n B):Grow n B B []:=⟨hB,Ext.refl _ _,fun k _=>by simp⟩
theorem Grow.trans {n:Nat}{B C D:Nat->Blk}{K L:List Int}(h:Grow n B C K)(g:Grow n C D L):Grow n B D (K++L):=⟨g.right,h.ext.trans g.ext,fun k hk=>by
 rw[g.out k hk,h.out k hk,List.count_append]; omega⟩
theorem Grow.zero {n:Nat}{B C:Nat->Blk}{K:List Int}(h:Grow n B C K):Grow n B C (0::K):=⟨h.right,h.ext,fun k hk=>by
 rw[h.out k hk,List.count_cons_of_ne (by omega)]⟩
def dY (n:Nat)(B:Nat->Blk)(R:List Int):Prop:=∀ k,k<n->(R.count ((k:Int)+1):Int)<=outs n B k
def aQ1 (n:Nat)(B:Nat->Blk)(R:List Int):List Int:=aN9 (fun k=>decide (0<outs n B k-(R.count ((k:Int)+1):Int))) n
theorem rO {n:Nat}{B:Nat->Blk}{R:List Int}{x:Int}:x∈aQ1 n B R↔∃ k:Nat,k<n/\0<outs n B k-(R.count ((k:Int)+1):Int)/\x=(k:Int)+1:=by
 unfold aQ1
 rw[aL7]
 simp only[decide_eq_true_eq]
theorem oP {n:Nat}{B:Nat->Blk}{k:Nat}(hk:k<n)(h:0<outs n B k):There n B ((k:Int)+1):=by
 refine⟨by omega,by omega,?_⟩
 rw[show ((k:Int)+1-1).toNat=k by omega]
 unfold outs at h
 omega
theorem bK7 {n:Nat}{B:Nat->Blk}{R:List Int}:bE n B (aQ1 n B R):=fun x hx=>by
 obtain⟨k,hk,h,rfl⟩:=rO.1 hx
 exact .inr (oP hk (by omega))
theorem aB7 {n:Nat}{B:Nat->Blk}{R:List Int}(h:dY n B R){l:List Int}(hl:∀ x∈l,x∈R)(hb:∀ x∈R,x=0\/(1<=x/\x<=n)):bE n B l:=fun x hx=>by
 rcases hb x (hl x hx) with h0 | ⟨h1,h2⟩
 ·exact .inl h0
 ·obtain⟨k,rfl⟩:∃ k:Nat,x=(k:Int)+1:=⟨(x-1).toNat,by omega⟩
  have hk:k<n:=by omega
  refine .inr (oP hk ?_)
  have:=h k hk
  have hc:0<R.count ((k:Int)+1):=List.count_pos_iff.2 (hl _ hx)
  omega
structure tZ (n:Nat)(B C:Nat->Blk)(R S:List Int):Prop where
 right:Right n C
 out:∀ k,k<n->outs n C k-(S.count ((k:Int)+1):Int)=outs n B k-(R.count ((k:Int)+1):Int)
 stays:gJ n B C (aQ1 n B R)
theorem tZ.base {n:Nat}{B C:Nat->Blk}{R S:List Int}(h:tZ n B C R S):aQ1 n C S=aQ1 n B R:=by
 have:∀ i,i<=n->aN9 (fun k=>decide (0<outs n C k-(S.count ((k:Int)+1):Int))) i=aN9 (fun k=>decide (0<outs n B k-(R.count ((k:Int)+1):Int))) i:=by
  intro i
  induction i with
  | zero=>intro _; rfl
  | succ i ih=>
    intro hi
    unfold aN9
    rw[ih (by omega),h.out i (by omega)]
 exact this n (Nat.le_refl _)
theorem tZ.trans {n:Nat}{B C D:Nat->Blk}{R S T:List Int}(h:tZ n B C R S)(g:tZ n C D S T):tZ n B D R T:=
 ⟨g.right,fun k hk=>(g.out k hk).trans (h.out k hk),h.stays.trans (h.base▸g.stays)⟩
theorem tZ.held {n:Nat}{B C:Nat->Blk}{R S:List Int}(h:tZ n B C R S)(hR:dY n B R):dY n C S:=fun k hk=>by
 have h1:=h.out k hk
 have h2:=hR k hk
 omega
theorem aF4 {n:Nat}{B C D:Nat->Blk}{R S K T:List Int}(hB:Right n B)(hR:dY n B R)(h:Grow n B C K)(hD:Right n D)(hF:iU n C D T)(hS:∀ x:Int,x≠0->S.count x+T.count x=R.count x+K.count x):
 tZ n B D R S/\∀ l,(∀ x∈l,x∈R/\x∈S)->(∀ x∈R,x=0\/(1<=x/\x<=n))->gJ n B D l:=by
 have ho:∀ k,k<n->outs n D k-(S.count ((k:Int)+1):Int)=outs n B k-(R.count ((k:Int)+1):Int):=fun k hk=>by
  rw[hF.outs k hk,h.out k hk]
  have:=hS ((k:Int)+1) (by omega)
  omega
 have hSD:dY n D S:=fun k hk=>by
  have h1:=ho k hk
  have h2:=hR k hk
  omega
 refine⟨⟨hD,ho,?_⟩,fun l hl hb=>?_⟩
 ·refine(qW hB bK7 h.ext).trans (oK hD hF fun x hx=>?_)
  obtain⟨k,hk,h1,rfl⟩:=rO.1 hx
  refine .inr (oP hk ?_)
  have:=ho k hk
  omega
 ·refine(qW hB (aB7 hR (fun x hx=>(hl x hx).1) hb) h.ext).trans (oK hD hF fun x hx=>?_)
  rcases hb x (hl x hx).1 with h0 | ⟨h1,h2⟩
  ·exact .inl h0
  ·obtain⟨k,rfl⟩:∃ k:Nat,x=(k:Int)+1:=⟨(x-1).toNat,by omega⟩
   have hk:k<n:=by omega
   refine .inr (oP hk ?_)
   have:=hSD k hk
   have hc:0<S.count ((k:Int)+1):=List.count_pos_iff.2 (hl _ hx).2
   omega
end Go.Proofs.YtjafgnohlkkopaaGreatDoor
namespace Go.Proofs.YtjafgnohlkkopaaGreatDoor
open Go.RowKit
structure Ent where
 name:ByteArray
 root:Int
 size:Int
def Ent.zero:Ent:=⟨ByteArray.empty,0,0⟩
instance : Inhabited Ent:=⟨Ent.zero⟩
def Ent.ok (x:Ent):Prop:=x.name.size<=maxLen/\(-9223372036854775808<=x.root/\x.root<=9223372036854775807)/\(-9223372036854775808<=x.size/\x.size<=9223372036854775807)
structure aR0 (w:World)(b off:Nat)(x:Ent):Prop where
 c0:w.cell? ⟨b,off,none⟩=some (.string x.name)
 c1:w.cell? ⟨b,off+1,none⟩=some (.int .i64 x.root)
 c2:w.cell? ⟨b,off+2,none⟩=some (.int .i64 x.size)
def dU (Q:Nat->Prop)(w:World)(a:Option Addr)(n:Nat)(l:List Ent):Prop:=
 l.length=n/\(∀ x∈l,x.ok)/\(0<n->∃ b off,a=some ⟨b,off,none⟩/\b<w.heap.size/\Q b/\∀ i,i<n->aR0 w b (off+i*3) (l.getD i Ent.zero))
theorem aR0.below {w w':World}{b off:Nat}{x:Ent}(h:aR0 w b off x)(hb:Below w.heap.size w w'):aR0 w' b off x:=by
 have hlt:=fC h.c0
 exact⟨(hb.cell (p:=⟨b,off,none⟩) hlt).trans h.c0,(hb.cell (p:=⟨b,off+1,none⟩) hlt).trans h.c1,(hb.cell (p:=⟨b,off+2,none⟩) hlt).trans h.c2⟩
theorem aR0.kept {g:Nat}{w w':World}{b off:Nat}{x:Ent}(h:aR0 w b off x)(hg:b≠g)(hk:Kept g w w'):aR0 w' b off x:=
 ⟨(hk.cell (p:=⟨b,off,none⟩) hg).trans h.c0,(hk.cell (p:=⟨b,off+1,none⟩) hg).trans h.c1,(hk.cell (p:=⟨b,off+2,none⟩) hg).trans h.c2⟩
theorem aC2 (Q:Nat->Prop)(w:World)(a:Option Addr):dU Q w a 0 []:=⟨rfl,by simp,fun h=>absurd h (by omega)⟩
theorem dU.below {Q:Nat->Prop}{w w':World}{a:Option Addr}{n:Nat}{l:List Ent}(h:dU Q w a n l)(hb:Below w.heap.size w w'):dU Q w' a n l:=by
 refine⟨h.1,h.2.1,fun hn=>?_⟩
 obtain⟨b,off,rfl,hlt,hq,hc⟩:=h.2.2 hn
 exact⟨b,off,rfl,Nat.lt_of_lt_of_le hlt hb.size,hq,fun i hi=>(hc i hi).below hb⟩
theorem dU.weaken {Q R:Nat->Prop}{w:World}{a:Option Addr}{n:Nat}{l:List Ent}(h:dU Q w a n l)(hq:∀ b,b<w.heap.size->Q b->R b):dU R w a n l:=by
 refine⟨h.1,h.2.1,fun hn=>?_⟩
 obtain⟨b,off,rfl,hlt,q,hc⟩:=h.2.2 hn
 exact⟨b,off,rfl,hlt,hq b hlt q,hc⟩
theorem dU.kept {Q:Nat->Prop}{g:Nat}{w w':World}{a:Option Addr}{n:Nat}{l:List Ent}(h:dU Q w a n l)(hq:∀ b,Q b->b≠g)(hk:Kept g w w'):dU Q w' a n l:=by
 refine⟨h.1,h.2.1,fun hn=>?_⟩
 obtain⟨b,off,rfl,hlt,q,hc⟩:=h.2.2 hn
 exact⟨b,off,rfl,by rw[hk.size]; exact hlt,q,fun i hi=>(hc i hi).kept (hq b q) hk⟩
theorem dU.getD {Q:Nat->Prop}{w:World}{a:Option Addr}{n:Nat}{l:List Ent}(h:dU Q w a n l){i:Nat}(hi:i<n):l.getD i Ent.zero∈l:=by
 have hl:i<l.length:=by rw[h.1]; exact hi
 have e:l.getD i Ent.zero=l[i]:=by simp[List.getD,hl]
 rw[e]
 exact List.getElem_mem hl
theorem dU.ent {Q:Nat->Prop}{w:World}{b off n:Nat}{l:List Ent}(h:dU Q w (some ⟨b,off,none⟩) n l){i:Nat}(hi:i<n):aR0 w b (off+i*3) (l.getD i Ent.zero):=by
 obtain⟨b', off', e,_,_,hc⟩:=h.2.2 (by omega)
 simp only[Option.some.injEq,Addr.mk.injEq,and_true] at e
 obtain⟨rfl,rfl⟩:=e
 exact hc i hi
structure bD where
 name:ByteArray
 files:List Ent
def bD.zero:bD:=⟨ByteArray.empty,[]⟩
instance : Inhabited bD:=⟨bD.zero⟩
structure oF (Q:Nat->Prop)(w:World)(b off:Nat)(x:bD)(fa:Option Addr)(fn fc:Nat):Prop where
 c0:w.cell? ⟨b,off,none⟩=some (.string x.name)
 c1:w.cell? ⟨b,off+1,none⟩=some (.slice fa fn fc)
 files:dU Q w fa fn x.files
 small:x.name.size<=maxLen
 caps:fn<=fc
def dV (Q:Nat->Prop)(w:World)(a:Option Addr)(n:Nat)(l:List bD):Prop:=
 l.length=n/\(0<n->∃ b off,a=some ⟨b,off,none⟩/\b<w.heap.size/\Q b/\∀ i,i<n->∃ fa fn fc,oF Q w b (off+i*2) (l.getD i bD.zero) fa fn fc)
theorem oF.below {Q:Nat->Prop}{w w':World}{b off:Nat}{x:bD}{fa:Option Addr}{fn fc:Nat}(h:oF Q w b off x fa fn fc)(hb:Below w.heap.size w w'):oF Q w' b off x fa fn fc:=by
 have hlt:=fC h.c0
 exact⟨(hb.cell (p:=⟨b,off,none⟩) hlt).trans h.c0,(hb.cell (p:=⟨b,off+1,none⟩) hlt).trans h.c1,h.files.below hb,h.small,h.caps⟩
theorem oF.kept {Q:Nat->Prop}{g:Nat}{w w':World}{b off:Nat}{x:bD}{fa:Option Addr}{fn fc:Nat}(h:oF Q w b off x fa fn fc)(hg:b≠g)(hq:∀ b,Q b->b≠g)(hk:Kept g w w'):oF Q w' b off x fa fn fc:=
 ⟨(hk.cell (p:=⟨b,off,none⟩) hg).trans h.c0,(hk.cell (p:=⟨b,off+1,none⟩) hg).trans h.c1,h.files.kept hq hk,h.small,h.caps⟩
theorem oF.weaken {Q R:Nat->Prop}{w:World}{b off:Nat}{x:bD}{fa:Option Addr}{fn fc:Nat}(h:oF Q w b off x fa fn fc)(hq:∀ b,b<w.heap.size->Q b->R b):oF R w b off x fa fn fc:=
 ⟨h.c0,h.c1,h.files.weaken hq,h.small,h.caps⟩
theorem wK (Q:Nat->Prop)(w:World)(a:Option Addr):dV Q w a 0 []:=⟨rfl,fun h=>absurd h (by omega)⟩
theorem dV.below {Q:Nat->Prop}{w w':World}{a:Option Addr}{n:Nat}{l:List bD}(h:dV Q w a n l)(hb:Below w.heap.size w w'):dV Q w' a n l:=by
 refine⟨h.1,fun hn=>?_⟩
 obtain⟨b,off,rfl,hlt,hq,hc⟩:=h.2 hn
 refine⟨b,off,rfl,Nat.lt_of_lt_of_le hlt hb.size,hq,fun i hi=>?_⟩
 obtain⟨fa,fn,fc,hs⟩:=hc i hi
 exact⟨fa,fn,fc,hs.below hb⟩
theorem dV.weaken {Q R:Nat->Prop}{w:World}{a:Option Addr}{n:Nat}{l:List bD}(h:dV Q w a n l)(hq:∀ b,b<w.heap.size->Q b->R b):dV R w a n l:=by
 refine⟨h.1,fun hn=>?_⟩
 obtain⟨b,off,rfl,hlt,q,hc⟩:=h.2 hn
 refine⟨b,off,rfl,hlt,hq b hlt q,fun i hi=>?_⟩
 obtain⟨fa,fn,fc,hs⟩:=hc i hi
 exact⟨fa,fn,fc,hs.weaken hq⟩
theorem dV.kept {Q:Nat->Prop}{g:Nat}{w w':World}{a:Option Addr}{n:Nat}{l:List bD}(h:dV Q w a n l)(hq:∀ b,Q b->b≠g)(hk:Kept g w w'):dV Q w' a n l:=by
 refine⟨h.1,fun hn=>?_⟩
 obtain⟨b,off,rfl,hlt,q,hc⟩:=h.2 hn
 refine⟨b,off,rfl,by rw[hk.size]; exact hlt,q,fun i hi=>?_⟩
 obtain⟨fa,fn,fc,hs⟩:=hc i hi
 exact⟨fa,fn,fc,hs.kept (hq b q) hq hk⟩
theorem dV.snap {Q:Nat->Prop}{w:World}{b off n:Nat}{l:List bD}(h:dV Q w (some ⟨b,off,none⟩) n l){i:Nat}(hi:i<n):∃ fa fn fc,oF Q w b (off+i*2) (l.getD i bD.zero) fa fn fc:=by
 obtain⟨b', off', e,_,_,hc⟩:=h.2 (by omega)
 simp only[Option.some.injEq,Addr.mk.injEq,and_true] at e
 obtain⟨rfl,rfl⟩:=e
 exact hc i hi
structure aK where
 name:ByteArray
 files:List Ent
 snaps:List bD
structure cB where
 name:ByteArray
 fa:Option Addr
 fn:Nat
 fc:Nat
 sa:Option Addr
 sn:Nat
 sc:Nat
def cB.val (v:cB):Value:=.agg #[.string v.name,.slice v.fa v.fn v.fc,.slice v.sa v.sn v.sc]
structure dK (Q:Nat->Prop)(w:World)(v:cB)(x:aK):Prop where
 name:v.name=x.name
 small:x.name.size<=maxLen
 files:dU Q w v.fa v.fn x.files
 snaps:dV Q w v.sa v.sn x.snaps
 caps:v.fn<=v.fc/\v.sn<=v.sc
theorem dK.below {Q:Nat->Prop}{w w':World}{v:cB}{x:aK}(h:dK Q w v x)(hb:Below w.heap.size w w'):dK Q w' v x:=⟨h.name,h.small,h.files.below hb,h.snaps.below hb,h.caps⟩
theorem dK.kept {Q:Nat->Prop}{g:Nat}{w w':World}{v:cB}{x:aK}(h:dK Q w v x)(hq:∀ b,Q b->b≠g)(hk:Kept g w w'):dK Q w' v x:=⟨h.name,h.small,h.files.kept hq hk,h.snaps.kept hq hk,h.caps⟩
theorem dK.weaken {Q R:Nat->Prop}{w:World}{v:cB}{x:aK}(h:dK Q w v x)(hq:∀ b,b<w.heap.size->Q b->R b):dK R w v x:=⟨h.name,h.small,h.files.weaken hq,h.snaps.weaken hq,h.caps⟩
structure aP where
 kind:Int
 set:ByteArray
 file:ByteArray
 to:ByteArray
 pos:Int
 num:Int
 bytes:List Int
def aP.zero:aP:=⟨0,ByteArray.empty,ByteArray.empty,ByteArray.empty,0,0,[]⟩
instance : Inhabited aP:=⟨aP.zero⟩
def aP.ok (x:aP):Prop:=(x.set.size<=maxLen/\x.file.size<=maxLen/\x.to.size<=maxLen)/\(-9223372036854775808<=x.kind/\x.kind<=9223372036854775807)/\(-9223372036854775808<=x.pos/\x.pos<=9223372036854775807)/\(-9223372036854775808<=x.num/\x.num<=9223372036854775807)
def aP.val (x:aP)(ba:Option Addr)(bn bc:Nat):Value:=.agg #[.int .i64 x.kind,.string x.set,.string x.file,.string x.to,.int .i64 x.pos,.int .i64 x.num,.slice ba bn bc]
structure cG6 (w:World)(b off:Nat)(x:aP)(ba:Option Addr)(bn bc:Nat):Prop where
 c0:w.cell? ⟨b,off,none⟩=some (.int .i64 x.kind)
 c1:w.cell? ⟨b,off+1,none⟩=some (.string x.set)
 c2:w.cell? ⟨b,off+2,none⟩=some (.string x.file)
 c3:w.cell? ⟨b,off+3,none⟩=some (.string x.to)
 c4:w.cell? ⟨b,off+4,none⟩=some (.int .i64 x.pos)
 c5:w.cell? ⟨b,off+5,none⟩=some (.int .i64 x.num)
 c6:w.cell? ⟨b,off+6,none⟩=some (.slice ba bn bc)
 bytes:aI (fun _=>True) .u8 w ba bn x.bytes
 ok:x.ok
 caps:bn<=bc
theorem cG6.below {w w':World}{b off:Nat}{x:aP}{ba:Option Addr}{bn bc:Nat}(h:cG6 w b off x ba bn bc)(hb:Below w.heap.size w w'):cG6 w' b off x ba bn bc:=by
 have hlt:=fC h.c0
 exact⟨(hb.cell (p:=⟨b,off,none⟩) hlt).trans h.c0,(hb.cell (p:=⟨b,off+1,none⟩) hlt).trans h.c1,(hb.cell (p:=⟨b,off+2,none⟩) hlt).trans h.c2,(hb.cell (p:=⟨b,off+3,none⟩) hlt).trans h.c3,(hb.cell (p:=⟨b,off+4,none⟩) hlt).trans h.c4,(hb.cell (p:=⟨b,off+5,none⟩) hlt).trans h.c5,(hb.cell (p:=⟨b,off+6,none⟩) hlt).trans h.c6,h.bytes.below hb,h.ok,h.caps⟩
def zA (w:World)(a:Option Addr)(n:Nat)(l:List aP):Prop:=
 l.length=n/\(0<n->∃ b off,a=some ⟨b,off,none⟩/\b<w.heap.size/\∀ i,i<n->∃ ba bn bc,cG6 w b (off+i*7) (l.getD i aP.zero) ba bn bc)
theorem zA.below {w w':World}{a:Option Addr}{n:Nat}{l:List aP}(h:zA w a n l)(hb:Below w.heap.size w w'):zA w' a n l:=by
 refine⟨h.1,fun hn=>?_⟩
 obtain⟨b,off,rfl,hlt,hc⟩:=h.2 hn
 refine⟨b,off,rfl,Nat.lt_of_lt_of_le hlt hb.size,fun i hi=>?_⟩
 obtain⟨ba,bn,bc,hs⟩:=hc i hi
 exact⟨ba,bn,bc,hs.below hb⟩
end Go.Proofs.YtjafgnohlkkopaaGreatDoor
namespace Go.Proofs.YtjafgnohlkkopaaGreatDoor
def Ent.nm (x:Ent):List UInt8:=x.name.data.toList
def bD.nm (x:bD):List UInt8:=x.name.data.toList
def oV (c:UInt8):Prop:=(97<=c/\c<=122)\/(48<=c/\c<=57)
def aM (s:ByteArray):Prop:=1<=s.data.toList.length/\s.data.toList.length<=8/\∀ c∈s.data.toList,oV c
theorem cE9 {a b:ByteArray}(h:a.data.toList=b.data.toList):a=b:=by
 cases a; cases b
 simp only[ByteArray.mk.injEq]
 exact Array.toList_inj.1 h
def aI2 (l:List Ent):Prop:=l.Pairwise fun a b=>a.nm<b.nm
def oD (l:List bD):Prop:=l.Pairwise fun a b=>a.nm<b.nm
theorem xI {α:Type}(f:α->List UInt8){l:List α}(h:l.Pairwise fun a b=>f a<f b){x y:α}(hx:x∈l)(hy:y∈l)(e:f x=f y):x=y:=by
 induction l with
 | nil=>simp at hx
 | cons z l ih=>
   rw[List.pairwise_cons] at h
   rcases List.mem_cons.1 hx with e1 | h1
   ·rcases List.mem_cons.1 hy with e2 | h2
    ·rw[e1,e2]
    ·have:=h.1 y h2
     rw[<-e1,e] at this
     exact absurd this (List.lt_irrefl _)
   ·rcases List.mem_cons.1 hy with e2 | h2
    ·have:=h.1 x h1
     rw[<-e2,e] at this
     exact absurd this (List.lt_irrefl _)
    ·exact ih h.2 h1 h2
def aT (l:List Ent):List Int:=l.map (·.root)
def dR (l:List bD):List Int:=l.flatMap fun s=>aT s.files
def aG (x:aK):List Int:=aT x.files++dR x.snaps
theorem fH (l m:List Ent):aT (l++m)=aT l++aT m:=List.map_append
theorem iL (l m:List bD):dR (l++m)=dR l++dR m:=List.flatMap_append
theorem bV {l:List Ent}{x:Int}:x∈aT l↔∃ f∈l,f.root=x:=by simp[aT]
structure gZ (n:Nat)(B:Nat->Blk)(key:Int)(l:List Ent):Prop where
 few:l.length<=6
 names:∀ x∈l,aM x.name
 order:aI2 l
 files:∀ x∈l,bQ n B key x.root x.size
structure aV (n:Nat)(B:Nat->Blk)(key:Int)(x:aK):Prop where
 kb:0<=key/\key<=1000
 right:Right n B
 name:aM x.name
 files:gZ n B key x.files
 fewS:x.snaps.length<=3
 namesS:∀ s∈x.snaps,aM s.name
 orderS:oD x.snaps
 filesS:∀ s∈x.snaps,gZ n B key s.files
theorem gZ.stays {n:Nat}{B C:Nat->Blk}{key:Int}{l:List Ent}{L:List Int}(h:gZ n B key l)(hC:Right n C)(hs:gJ n B C L)(hl:∀ x∈l,x.root∈L):gZ n C key l:=
 ⟨h.few,h.names,h.order,fun x hx=>((h.files x hx).stays hC hs (hl x hx)).1⟩
theorem bQ.rootBd {n:Nat}{B:Nat->Blk}{key r s:Int}(h:bQ n B key r s):r=0\/(1<=r/\r<=n):=by
 rcases h.rooted with h0 | ⟨⟨h1,h2,_⟩,_⟩
 ·exact .inl h0
 ·exact .inr ⟨h1,h2⟩
theorem aV.rootBd {n:Nat}{B:Nat->Blk}{key:Int}{x:aK}(h:aV n B key x):∀ r∈aG x,r=0\/(1<=r/\r<=n):=fun r hr=>by
 rcases List.mem_append.1 hr with hr | hr
 ·obtain⟨f,hf,rfl⟩:=bV.1 hr
  exact(h.files.files f hf).rootBd
 ·obtain⟨s,hs,hr⟩:=List.mem_flatMap.1 hr
  obtain⟨f,hf,rfl⟩:=bV.1 hr
  exact((h.filesS s hs).files f hf).rootBd
end Go.Proofs.YtjafgnohlkkopaaGreatDoor
namespace Go.Proofs.YtjafgnohlkkopaaGreatDoor
def kK (x:aK):List Ent:=x.files++x.snaps.flatMap (·.files)
theorem gL (x:aK):aG x=aT (kK x):=by
 unfold aG kK dR
 rw[fH]
 congr 1
 unfold aT
 rw[List.map_flatMap]
theorem aV.ents {n:Nat}{B:Nat->Blk}{key:Int}{x:aK}(h:aV n B key x):∀ e∈kK x,bQ n B key e.root e.size:=fun e he=>by
 rcases List.mem_append.1 he with he | he
 ·exact h.files.files e he
 ·obtain⟨s,hs,he⟩:=List.mem_flatMap.1 he
  exact(h.filesS s hs).files e he
structure Shape (x:aK):Prop where
 name:aM x.name
 few:x.files.length<=6
 names:∀ e∈x.files,aM e.name
 order:aI2 x.files
 fewS:x.snaps.length<=3
 namesS:∀ s∈x.snaps,aM s.name
 orderS:oD x.snaps
 filesS:∀ s∈x.snaps,s.files.length<=6/\(∀ e∈s.files,aM e.name)/\aI2 s.files
theorem aV.shape {n:Nat}{B:Nat->Blk}{key:Int}{x:aK}(h:aV n B key x):Shape x:=
 ⟨h.name,h.files.few,h.files.names,h.files.order,h.fewS,h.namesS,h.orderS,fun s hs=>⟨(h.filesS s hs).few,(h.filesS s hs).names,(h.filesS s hs).order⟩⟩
theorem qY {n:Nat}{B:Nat->Blk}{key:Int}{x:aK}(hk:0<=key/\key<=1000)(hB:Right n B)(h:Shape x)(hf:∀ e∈kK x,bQ n B key e.root e.size):aV n B key x:=
 ⟨hk,hB,h.name,⟨h.few,h.names,h.order,fun e he=>hf e (List.mem_append_left _ he)⟩,h.fewS,h.namesS,h.orderS,fun s hs=>⟨(h.filesS s hs).1,(h.filesS s hs).2.1,(h.filesS s hs).2.2,fun e he=>hf e (List.mem_append_right _ (List.mem_flatMap.2 ⟨s,hs,he⟩))⟩⟩
theorem aV.bytes {n:Nat}{B C:Nat->Blk}{key:Int}{x:aK}(h:aV n B key x){L:List Int}(hC:Right n C)(hs:gJ n B C L)(hl:∀ r∈aG x,r∈L):aV n C key x/\∀ e∈kK x,aR key (aH C 3 e.root)=aR key (aH B 3 e.root):=by
 have hm:∀ e∈kK x,e.root∈L:=fun e he=>hl _ (by rw[gL]; exact bV.2 ⟨e,he,rfl⟩)
 exact⟨qY h.kb hC h.shape fun e he=>((h.ents e he).stays hC hs (hm e he)).1,fun e he=>((h.ents e he).stays hC hs (hm e he)).2⟩
structure After (n:Nat)(key:Int)(B D:Nat->Blk)(x y:aK):Prop where
 ok:aV n D key y
 held:dY n D (aG y)
 moved:tZ n B D (aG x) (aG y)
 same:∀ e∈kK x,e∈kK y->aR key (aH D 3 e.root)=aR key (aH B 3 e.root)
theorem cF8 {n:Nat}{key:Int}{B C D:Nat->Blk}{x y:aK}{K T:List Int}(hx:aV n B key x)(hh:dY n B (aG x))(hg:Grow n B C K)(hD:Right n D)(hF:iU n C D T)
 (hc:∀ r:Int,r≠0->(aG y).count r+T.count r=(aG x).count r+K.count r) (hy:Shape y) (hf:∀ e∈kK y,bQ n C key e.root e.size):After n key B D x y/\∀ e∈kK y,aR key (aH D 3 e.root)=aR key (aH C 3 e.root):=by
 obtain⟨hm,hst⟩:=aF4 hx.right hh hg hD hF hc
 have hhd:=hm.held hh
 have hb:∀ r∈aG y,r=0\/(1<=r/\r<=n):=fun r hr=>by
  rw[gL] at hr
  obtain⟨e,he,rfl⟩:=bV.1 hr
  exact(hf e he).rootBd
 have hro:bE n D (aG y):=aB7 hhd (fun _ h=>h) hb
 have hs:=oK hD hF hro
 have hfd:=fun e (he:e∈kK y)=>(hf e he).stays hD hs (by rw[gL]; exact bV.2 ⟨e,he,rfl⟩)
 refine⟨⟨qY hx.kb hD hy fun e he=>(hfd e he).1,hhd,hm,fun e he he'=>?_⟩,fun e he=>(hfd e he).2⟩
 rw[(hfd e he').2]
 exact((hx.ents e he).ext hg.ext hg.right).2
theorem jW {n:Nat}{key:Int}{B C:Nat->Blk}{x:aK}{K:List Int}(hx:aV n B key x)(hg:Grow n B C K):∀ e∈kK x,bQ n C key e.root e.size:=fun e he=>((hx.ents e he).ext hg.ext hg.right).1
theorem jC {α:Type}{f:α->List UInt8}{l:List α}(h:l.Pairwise fun a b=>f a<f b){p:Nat}{x:α}(h1:∀ y∈l.take p,f y<f x)(h2:∀ y∈l.drop p,f x<f y):(l.take p++x::l.drop p).Pairwise fun a b=>f a<f b:=by
 rw[List.pairwise_append,List.pairwise_cons]
 refine⟨h.sublist (List.take_sublist _ _),⟨h2,h.sublist (List.drop_sublist _ _)⟩,fun a ha b hb=>?_⟩
 rcases List.mem_cons.1 hb with rfl | hb
 ·exact h1 a ha
 ·exact List.lt_trans (h1 a ha) (h2 b hb)
theorem iM {α:Type}{f:α->List UInt8}{l:List α}(h:l.Pairwise fun a b=>f a<f b)(p:Nat):(l.eraseIdx p).Pairwise fun a b=>f a<f b:=h.sublist (List.eraseIdx_sublist _ _)
theorem xH {α:Type}{f:α->List UInt8}{l:List α}(h:l.Pairwise fun a b=>f a<f b){p:Nat}(hp:p<l.length){x:α}(e:f x=f l[p]):(l.set p x).Pairwise fun a b=>f a<f b:=by
 rw[List.pairwise_iff_getElem] at h ⊢
 intro i j hi hj hij
 simp only[List.length_set] at hi hj
 have:=h i j hi hj hij
 simp only[List.getElem_set]
 by_cases e1:p=i
 ·subst e1
  rw[if_pos rfl,if_neg (by omega),e]
  exact this
 ·rw[if_neg e1]
  by_cases e2:p=j
  ·subst e2; rw[if_pos rfl,e]; exact this
  ·rw[if_neg e2]; exact this
theorem uP {l:List Ent}(p:Nat)(x:Ent)(r:Int):(aT (l.take p++x::l.drop p)).count r=(aT l).count r+[x.root].count r:=by
 have e:aT l=aT (l.take p)++aT (l.drop p):=by rw[<-fH,List.take_append_drop]
 rw[e,fH]
 show (aT (l.take p)++x.root::aT (l.drop p)).count r=_
 simp only[List.count_append,List.count_cons,List.count_nil]
 omega
theorem yL {l:List Ent}{p:Nat}(hp:p<l.length)(r:Int):(aT (l.eraseIdx p)).count r+[(l[p]).root].count r=(aT l).count r:=by
 have e:l=l.take p++l[p]::l.drop (p+1):=by rw[List.getElem_cons_drop,List.take_append_drop]
 have e2:aT l=aT (l.take p)++(l[p].root::aT (l.drop (p+1))):=by
  conv=>lhs; rw[e]
  rw[fH]; rfl
 rw[List.eraseIdx_eq_take_drop_succ,fH,e2]
 simp only[List.count_append,List.count_cons,List.count_nil]
 omega
theorem bV8 {l:List Ent}{p:Nat}(hp:p<l.length)(x:Ent)(r:Int):(aT (l.set p x)).count r+[(l[p]).root].count r=(aT l).count r+[x.root].count r:=by
 have e:l=l.take p++l[p]::l.drop (p+1):=by rw[List.getElem_cons_drop,List.take_append_drop]
 have e2:aT l=aT (l.take p)++(l[p].root::aT (l.drop (p+1))):=by
  conv=>lhs; rw[e]
  rw[fH]; rfl
 rw[List.set_eq_take_append_cons_drop,if_pos hp,fH,e2]
 show (aT (l.take p)++x.root::aT (l.drop (p+1))).count r+_=_
 simp only[List.count_append,List.count_cons,List.count_nil]
 omega
end Go.Proofs.YtjafgnohlkkopaaGreatDoor
namespace Go.Proofs.YtjafgnohlkkopaaGreatDoor
open Go.RowKit
section
variable {α β:Type} {f:α->List β} {k:Nat}
theorem rU (hk:∀ x,(f x).length=k):∀ l:List α,(l.flatMap f).length=l.length*k
 | []=>by simp
 | x::l=>by
   rw[List.flatMap_cons,List.length_append,hk,rU hk l,List.length_cons,Nat.add_mul,Nat.one_mul,Nat.add_comm]
theorem kI (hk:∀ x,(f x).length=k):∀ (l:List α) (i:Nat),(l.flatMap f).take (i*k)=(l.take i).flatMap f
 | [],i=>by simp
 | x::l,0=>by simp
 | x::l,i+1=>by
   rw[List.flatMap_cons,List.take_succ_cons,List.flatMap_cons,<-kI hk l i,Nat.add_mul,Nat.one_mul,Nat.add_comm,List.take_append,hk]
   rw[List.take_of_length_le (by rw[hk]; omega)]
   congr 2
   omega
theorem kJ (hk:∀ x,(f x).length=k):∀ (l:List α) (i:Nat),(l.flatMap f).drop (i*k)=(l.drop i).flatMap f
 | [],i=>by simp
 | x::l,0=>by simp
 | x::l,i+1=>by
   rw[List.flatMap_cons,List.drop_succ_cons,<-kJ hk l i,Nat.add_mul,Nat.one_mul,Nat.add_comm,List.drop_append,hk]
   rw[List.drop_of_length_le (by rw[hk]; omega)]
   rw[List.nil_append]
   congr 1
   omega
theorem flat_get (hk:∀ x,(f x).length=k):∀ (l:List α) (i r:Nat) (hi:i<l.length),r<k->(l.flatMap f)[i*k+r]? =(f l[i])[r]?
 | [],i,r,hi,_=>absurd hi (by simp)
 | x::l,0,r,hi,hr=>by
   rw[List.flatMap_cons,Nat.zero_mul,Nat.zero_add,List.getElem?_append_left (by rw[hk]; exact hr)]
   rfl
 | x::l,i+1,r,hi,hr=>by
   rw[List.flatMap_cons,List.getElem?_append_right (by rw[hk,Nat.add_mul]; omega),hk]
   have:=flat_get hk l i r (by simpa using hi) hr
   rw[show (i+1)*k+r-k=i*k+r by rw[Nat.add_mul]; omega,this]
   rfl
theorem qL (l:List α)(i:Nat)(x:α):(l.take i++x::l.drop i).flatMap f=(l.take i).flatMap f++(f x++(l.drop i).flatMap f):=by
 rw[List.flatMap_append,List.flatMap_cons]
theorem tK (l:List α)(i:Nat):(l.eraseIdx i).flatMap f=(l.take i).flatMap f++(l.drop (i+1)).flatMap f:=by
 rw[List.eraseIdx_eq_take_drop_succ,List.flatMap_append]
end
def Ent.cells (e:Ent):List Value:=[.string e.name,.int .i64 e.root,.int .i64 e.size]
theorem Ent.cells_len (e:Ent):e.cells.length=3:=rfl
theorem Ent.cells_one (e:Ent):∀ v∈e.cells,v.oneCell'=true:=by
 intro v hv
 simp only[Ent.cells,List.mem_cons,List.not_mem_nil,or_false] at hv
 rcases hv with rfl | rfl | rfl<;>rfl
def bK (l:List Ent):List Value:=l.flatMap Ent.cells
theorem fZ (l:List Ent):(bK l).length=l.length*3:=rU Ent.cells_len l
theorem fF (l:List Ent):∀ v∈bK l,v.oneCell'=true:=fun v hv=>by
 obtain⟨e,_,h⟩:=List.mem_flatMap.1 hv
 exact e.cells_one v h
structure aZ where
 e:bD
 fa:Option Addr
 fn:Nat
 fc:Nat
def aZ.cells (m:aZ):List Value:=[.string m.e.name,.slice m.fa m.fn m.fc]
theorem aZ.cells_len (m:aZ):m.cells.length=2:=rfl
theorem aZ.cells_one (m:aZ):∀ v∈m.cells,v.oneCell'=true:=by
 intro v hv
 simp only[aZ.cells,List.mem_cons,List.not_mem_nil,or_false] at hv
 rcases hv with rfl | rfl<;>rfl
def dC (l:List aZ):List Value:=l.flatMap aZ.cells
theorem iJ (l:List aZ):(dC l).length=l.length*2:=rU aZ.cells_len l
theorem mU (l:List aZ):∀ v∈dC l,v.oneCell'=true:=fun v hv=>by
 obtain⟨e,_,h⟩:=List.mem_flatMap.1 hv
 exact e.cells_one v h
structure aZ.At (Q:Nat->Prop)(w:World)(m:aZ):Prop where
 files:dU Q w m.fa m.fn m.e.files
 caps:m.fn<=m.fc
 small:m.e.name.size<=maxLen
structure Only (M:Nat->Prop)(w w':World):Prop where
 os:w'.os=w.os
 tape:w'.tape=w.tape
 output:w'.output=w.output
 size:w.heap.size<=w'.heap.size
 block:∀ k,k<w.heap.size->¬M k->w'.heap[k]? =w.heap[k]?
theorem Only.refl (M:Nat->Prop)(w:World):Only M w w:=⟨rfl,rfl,rfl,Nat.le_refl _,fun _ _ _=>rfl⟩
theorem Only.trans {M:Nat->Prop}{a b c:World}(h:Only M a b)(k:Only M b c):Only M a c:=
 ⟨k.os.trans h.os,k.tape.trans h.tape,k.output.trans h.output,Nat.le_trans h.size k.size,fun i hi hm=>(k.block i (Nat.lt_of_lt_of_le hi h.size) hm).trans (h.block i hi hm)⟩
theorem Only.mono {M N:Nat->Prop}{a b:World}(h:Only M a b)(hm:∀ k,k<a.heap.size->M k->N k):Only N a b:=
 ⟨h.os,h.tape,h.output,h.size,fun i hi hn=>h.block i hi fun m=>hn (hm i hi m)⟩
theorem Only.of_below {M:Nat->Prop}{a b:World}(h:Below a.heap.size a b):Only M a b:=⟨h.os,h.tape,h.output,h.size,fun k hk _=>h.block k hk⟩
theorem Only.of_out {M:Nat->Prop}{g:Nat}{a b:World}(h:Out g a b)(hg:M g):Only M a b:=⟨h.os,h.tape,h.output,h.size,fun k hk hm=>h.block k hk (fun e=>hm (e▸hg))⟩
theorem Only.of_kept {M:Nat->Prop}{g:Nat}{a b:World}(h:Kept g a b)(hg:M g):Only M a b:=Only.of_out (Out.of_kept h) hg
theorem Only.below {M:Nat->Prop}{B:Nat}{a b:World}(h:Only M a b)(hB:∀ k,M k->B<=k)(hs:B<=a.heap.size):Below B a b:=
 ⟨h.os,h.tape,h.output,h.size,fun k hk=>h.block k (by omega) (fun m=>by have:=hB k m; omega)⟩
theorem Only.cell {M:Nat->Prop}{a b:World}(h:Only M a b){p:Addr}(hp:p.block<a.heap.size)(hm:¬M p.block):b.cell? p=a.cell? p:=World.cell?_of_block (w:=a) (h.block p.block hp hm)
theorem Only.cells {M:Nat->Prop}{a b:World}(h:Only M a b){g:Nat}{cs:Array Value}{t:TypeId}(hc:aC a g cs t)(hm:¬M g):aC b g cs t:=by
 have hl:=hc.lt
 unfold aC at hc ⊢
 rw[h.block g hl hm]
 exact hc
theorem Only.row {M:Nat->Prop}{a b:World}(h:Only M a b){base:Nat}{e:TypeId}{size:Nat}{v:Value}{n:Nat}{xs:List Value}(hr:a.ownsRow base e size v n xs)(hm:∀ k,v.ownBlock=some k->¬M k):b.ownsRow base e size v n xs:=by
 refine⟨hr.1,?_⟩
 rcases hr.2 with h0 | ⟨g,cap,cur,hv,hb,hg,rest⟩
 ·exact .inl h0
 ·have hl:=(hr.lt g (by rw[hv]; rfl)).2
  exact .inr ⟨g,cap,cur,hv,hb,by rw[h.block g hl (hm g (by rw[hv]; rfl))]; exact hg,rest⟩
theorem Only.ents {M:Nat->Prop}{a b:World}(h:Only M a b){Q:Nat->Prop}{x:Option Addr}{n:Nat}{l:List Ent}(he:dU Q a x n l)(hm:∀ k,Q k->¬M k):dU Q b x n l:=by
 refine⟨he.1,he.2.1,fun hn=>?_⟩
 obtain⟨g,off,rfl,hlt,hq,hc⟩:=he.2.2 hn
 refine⟨g,off,rfl,Nat.lt_of_lt_of_le hlt h.size,hq,fun i hi=>?_⟩
 have hE:=hc i hi
 exact⟨(h.cell (p:=⟨g,off+i*3,none⟩) hlt (hm g hq)).trans hE.c0,(h.cell (p:=⟨g,off+i*3+1,none⟩) hlt (hm g hq)).trans hE.c1,(h.cell (p:=⟨g,off+i*3+2,none⟩) hlt (hm g hq)).trans hE.c2⟩
theorem Only.snap {M:Nat->Prop}{a b:World}(h:Only M a b){Q:Nat->Prop}{m:aZ}(hs:m.At Q a)(hm:∀ k,Q k->¬M k):m.At Q b:=⟨h.ents hs.files hm,hs.caps,hs.small⟩
theorem Only.nums {M:Nat->Prop}{a b:World}(h:Only M a b){Q:Nat->Prop}{k:IntKind}{x:Option Addr}{n:Nat}{l:List Int}(hn:aI Q k a x n l)(hm:∀ k,Q k->¬M k):aI Q k b x n l:=by
 refine⟨hn.1,hn.2.1,fun h0=>?_⟩
 obtain⟨g,off,rfl,hlt,hq,hc⟩:=hn.2.2 h0
 exact⟨g,off,rfl,Nat.lt_of_lt_of_le hlt h.size,hq,fun i hi=>(h.cell (p:=⟨g,off+i,none⟩) hlt (hm g hq)).trans (hc i hi)⟩
theorem Only.blocks {M:Nat->Prop}{a b:World}(h:Only M a b){Q:Nat->Prop}{g off n:Nat}{B:Nat->Blk}(hb:dO Q a g off n B)(hg:¬M g)(hgl:g<a.heap.size)(hm:∀ k,Q k->¬M k):dO Q b g off n B:=by
 intro i hi
 obtain⟨ka,kn,kc,ba,bn,bc,hE⟩:=hb i hi
 exact⟨ka,kn,kc,ba,bn,bc,(h.cell (p:=⟨g,off+i*4,none⟩) hgl hg).trans hE.c0,(h.cell (p:=⟨g,off+i*4+1,none⟩) hgl hg).trans hE.c1,(h.cell (p:=⟨g,off+i*4+2,none⟩) hgl hg).trans hE.c2,(h.cell (p:=⟨g,off+i*4+3,none⟩) hgl hg).trans hE.c3,h.nums hE.kids hm,h.nums hE.bytes hm,hE.refs,hE.level,hE.caps⟩
theorem sV {M:Nat->Prop}{a b:World}{row:Option Nat}(h:a.grownBy b row)(hm:∀ k,row=some k->M k):Only M a b:=
 ⟨h.os,h.tape,h.output,h.size,fun k hk hn=>h.block k hk (fun e=>hn (hm k e.symm))⟩
theorem vT {w:World}{base:Nat}{e:TypeId}{fa:Option Addr}{fn fc:Nat}{l:List Ent}(hok:∀ x∈l,x.ok)(h:w.ownsRow base e 3 (.slice fa fn fc) fn (bK l)):dU (fun b=>base<=b/\((Value.slice fa fn fc).ownBlock=some b)) w fa fn l:=by
 have hl:l.length=fn:=by have:=h.1; rw[fZ] at this; omega
 refine⟨hl,hok,fun hn=>?_⟩
 rcases h.2 with⟨hv,h0⟩ | ⟨g,cap,cur,hv,hb,hg,hnc,_⟩
 ·omega
 ·simp only[Value.slice.injEq] at hv
  obtain⟨rfl,_,rfl⟩:=hv
  refine⟨g,0,rfl,(h.lt g rfl).2,⟨hb,rfl⟩,fun i hi=>?_⟩
  have hil:i<l.length:=by omega
  have hx:l.getD i Ent.zero=l[i]:=by simp[List.getD,hil]
  rw[hx,Nat.zero_add]
  have hc:=fun r (hr:r<3)=>(h.cellAt (i*3+r) (by omega)).trans (flat_get Ent.cells_len l i r hil hr)
  exact⟨hc 0 (by omega),hc 1 (by omega),hc 2 (by omega)⟩
theorem aK0 {w:World}{Q:Nat->Prop}{base:Nat}{e:TypeId}{sa:Option Addr}{sn sc:Nat}{l:List aZ}(hl:∀ m∈l,m.At Q w)(h:w.ownsRow base e 2 (.slice sa sn sc) sn (dC l)):dV (fun b=>Q b\/(base<=b/\(Value.slice sa sn sc).ownBlock=some b)) w sa sn (l.map (·.e)):=by
 have hln:l.length=sn:=by have:=h.1; rw[iJ] at this; omega
 refine⟨by rw[List.length_map]; exact hln,fun hn=>?_⟩
 rcases h.2 with⟨hv,h0⟩ | ⟨g,cap,cur,hv,hb,hg,hnc,_⟩
 ·omega
 ·simp only[Value.slice.injEq] at hv
  obtain⟨rfl,_,rfl⟩:=hv
  refine⟨g,0,rfl,(h.lt g rfl).2,.inr ⟨hb,rfl⟩,fun i hi=>?_⟩
  have hil:i<l.length:=by omega
  have hx:(l.map (·.e)).getD i bD.zero=l[i].e:=by simp[List.getD,hil]
  rw[hx,Nat.zero_add]
  have hc:=fun r (hr:r<2)=>(h.cellAt (i*2+r) (by omega)).trans (flat_get aZ.cells_len l i r hil hr)
  have hA:=hl l[i] (List.getElem_mem hil)
  exact⟨l[i].fa,l[i].fn,l[i].fc,hc 0 (by omega),hc 1 (by omega),hA.files.weaken (fun b _ q=>.inl q),hA.small,hA.caps⟩
theorem dU.cells {Q:Nat->Prop}{w:World}{b off n:Nat}{l:List Ent}(h:dU Q w (some ⟨b,off,none⟩) n l):∀ j u,(bK l)[j]? =some u->w.cell? ⟨b,off+j,none⟩=some u:=by
 intro j u hj
 have hjl:j<l.length*3:=by
  rw[<-fZ]
  rcases Nat.lt_or_ge j (bK l).length with h | h
  ·exact h
  ·rw[List.getElem?_eq_none h] at hj; cases hj
 have hi:j / 3<l.length:=by omega
 have hE:=h.ent (i:=j / 3) (by rw[<-h.1]; exact hi)
 have hx:l.getD (j / 3) Ent.zero=l[j / 3]:=by simp[List.getD,hi]
 rw[hx] at hE
 have hg:=flat_get Ent.cells_len l (j / 3) (j%3) hi (Nat.mod_lt _ (by omega))
 rw[show j / 3*3+j%3=j by omega] at hg
 unfold bK at hj
 rw[hg] at hj
 have h3:j%3=0\/j%3=1\/j%3=2:=by omega
 rcases h3 with h3 | h3 | h3
 ·rw[h3] at hj
  rw[show off+j=off+j / 3*3 by omega,hE.c0]
  exact hj
 ·rw[h3] at hj
  rw[show off+j=off+j / 3*3+1 by omega,hE.c1]
  exact hj
 ·rw[h3] at hj
  rw[show off+j=off+j / 3*3+2 by omega,hE.c2]
  exact hj
theorem dV.rows {Q:Nat->Prop}{w:World}{a:Option Addr}{n:Nat}{l:List bD}(h:dV Q w a n l):∃ ms:List aZ,ms.map (·.e)=l/\(∀ m∈ms,m.At Q w)/\(0<n->∃ b off,a=some ⟨b,off,none⟩/\b<w.heap.size/\∀ j u,(dC ms)[j]? =some u->w.cell? ⟨b,off+j,none⟩=some u):=by
 rcases Nat.eq_zero_or_pos n with h0 | h0
 ·subst h0
  have:=List.eq_nil_of_length_eq_zero h.1
  subst this
  exact⟨[],rfl,by simp,fun h=>absurd h (by omega)⟩
 ·obtain⟨b,off,rfl,hlt,hq,hc⟩:=h.2 h0
  have hl:=h.1
  have key:∀ i,i<=n->∃ ms:List aZ,ms.length=i/\ms.map (·.e)=l.take i/\(∀ m∈ms,m.At Q w)/\∀ j (hj:j<ms.length),w.cell? ⟨b,off+j*2,none⟩=some (.string ms[j].e.name)/\w.cell? ⟨b,off+j*2+1,none⟩=some (.slice ms[j].fa ms[j].fn ms[j].fc):=by
   intro i
   induction i with
   | zero=>intro _; exact⟨[],rfl,by simp,by simp,fun j hj=>absurd hj (by simp)⟩
   | succ i ih=>
     intro hi
     obtain⟨ms,e1,e2,e3,e4⟩:=ih (by omega)
     obtain⟨fa,fn,fc,hs⟩:=hc i (by omega)
     have hil:i<l.length:=by omega
     have hx:l.getD i bD.zero=l[i]:=by simp[List.getD,hil]
     rw[hx] at hs
     refine⟨ms++[⟨l[i],fa,fn,fc⟩],by simp[e1],by rw[List.map_append,e2,List.take_succ_eq_append_getElem hil]; rfl,?_,?_⟩
     ·intro m hm
      rcases List.mem_append.1 hm with hm | hm
      ·exact e3 m hm
      ·rw[List.mem_singleton.1 hm]; exact⟨hs.files,hs.caps,hs.small⟩
     ·intro j hj
      rw[List.length_append,List.length_singleton] at hj
      by_cases ej:j<ms.length
      ·rw[List.getElem_append_left ej]; exact e4 j ej
      ·obtain rfl:j=i:=by omega
       rw[List.getElem_append_right (by omega)]
       simp only[e1,Nat.sub_self,List.getElem_cons_zero]
       exact⟨hs.c0,hs.c1⟩
  obtain⟨ms,e1,e2,e3,e4⟩:=key n (Nat.le_refl _)
  refine⟨ms,by rw[e2]; exact List.take_of_length_le (by omega),e3,fun _=>⟨b,off,rfl,hlt,fun j u hj=>?_⟩⟩
  have hjl:j<ms.length*2:=by
   rw[<-iJ]
   rcases Nat.lt_or_ge j (dC ms).length with h | h
   ·exact h
   ·rw[List.getElem?_eq_none h] at hj; cases hj
  have hi:j / 2<ms.length:=by omega
  have hg:=flat_get aZ.cells_len ms (j / 2) (j%2) hi (Nat.mod_lt _ (by omega))
  rw[show j / 2*2+j%2=j by omega] at hg
  unfold dC at hj
  rw[hg] at hj
  have h4:=e4 (j / 2) hi
  have h2:j%2=0\/j%2=1:=by omega
  rcases h2 with h2 | h2
  ·rw[h2] at hj
   rw[show off+j=off+j / 2*2 by omega,h4.1]
   exact hj
  ·rw[h2] at hj
   rw[show off+j=off+j / 2*2+1 by omega,h4.2]
   exact hj
end Go.Proofs.YtjafgnohlkkopaaGreatDoor
