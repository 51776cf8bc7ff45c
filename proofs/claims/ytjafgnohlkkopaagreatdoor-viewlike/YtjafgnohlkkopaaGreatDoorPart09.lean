/-
  FileB, Sets1, SetMem, Sets2, Sets3 in one text. Nothing here is trusted.
-/
import Derived.Test.YtjafgnohlkkopaaGreatDoorPart08
import Derived.Laws.CopyOwn
import Derived.Test.YtjafgnohlkkopaaGreatDoorPart01
set_option linter.unusedVariables false
namespace Go.Proofs.YtjafgnohlkkopaaGreatDoor
def Bytes (l:List Int):Prop:=∀ x∈l,0≤x∧x<256
theorem getD_bytes {l:List Int} (hl:Bytes l) (i:Nat):0≤l.getD i 0∧l.getD i 0<256:=by
 by_cases h:i<l.length
 ·have e:l.getD i 0=l[i]:=by simp[List.getD,h]
  rw[e]; exact hl _ (List.getElem_mem h)
 ·have e:l.getD i 0=0:=by simp[List.getD,List.getElem?_eq_none (by omega:l.length≤i)]
  rw[e]; omega
theorem sub_add8 (a b:Int) (h:0≤a∧a<256):sub8 (add8 a b) b=a:=by unfold sub8 add8; omega
theorem open_sealL (key at':Int) (l:List Int) (hl:Bytes l):openL key at' (sealL key at' l)=l:=by
 apply list_ext_getD
 ·rw[openL_length,sealL_length]
 ·intro i hi
  rw[openL_length,sealL_length] at hi
  unfold openL
  rw[sealL_length,mixed_getD _ _ _ _ _ hi]
  unfold mixAt sealL
  rw[mixed_getD _ _ _ _ _ hi]
  unfold mixAt
  exact sub_add8 _ _ (getD_bytes hl i)
theorem openL_bytes (key at':Int) (l:List Int):Bytes (openL key at' l):=mixed_bd sub8 sub8_bd _ _ _
def sealPlace (i:Nat):Int:=(i:Int)
theorem sealPlace_key {key:Int} (hk:0≤key∧key≤1000) {i:Nat} (hi:i<64):keyB key (sealPlace i)=true:=decide_eq_true (by unfold sealPlace; omega)
def plain (key:Int) (i:Nat) (l:List Int):List Int:=if l=[] then [0,0,0,0] else openL key (sealPlace i) l
def leafFor (key:Int) (i:Nat) (p:List Int):List Int:=if p=[0,0,0,0] then [] else sealL key (sealPlace i) p
theorem plain_nil (key:Int) (i:Nat):plain key i []=[0,0,0,0]:=by simp[plain]
theorem plain_leafFor {key:Int} {i:Nat} {p:List Int} (h4:p.length=4) (hb:Bytes p):plain key i (leafFor key i p)=p:=by
 unfold leafFor plain
 by_cases e:p=[0,0,0,0]
 ·simp[e]
 ·rw[if_neg e,if_neg (by intro h; have h5:=congrArg List.length h; rw[sealL_length,h4] at h5; cases h5),open_sealL _ _ _ hb]
theorem leafFor_04 {key:Int} {i:Nat} {p:List Int} (h4:p.length=4):leafFor key i p=[]∨(leafFor key i p).length=4:=by
 unfold leafFor
 split
 ·exact .inl rfl
 ·exact .inr (by rw[sealL_length,h4])
theorem plain_length {key:Int} {i:Nat} {l:List Int} (h:l=[]∨l.length=4):(plain key i l).length=4:=by
 unfold plain
 split
 ·rfl
 ·rename_i e
  rw[openL_length]; exact h.resolve_left e
theorem plain_bytes (key:Int) (i:Nat) (l:List Int):Bytes (plain key i l):=by
 unfold plain
 split
 ·intro x hx; simp at hx; omega
 ·exact openL_bytes _ _ _
theorem four_zero {l:List Int} (h4:l.length=4) (h:∀ x∈l,x=0):l=[0,0,0,0]:=by
 match l,h4 with
 | [a,b,c,d],_=>
   have h1:=h a (by simp); have h2:=h b (by simp); have h3:=h c (by simp); have h4:=h d (by simp)
   subst h1 h2 h3 h4; rfl
def fileL (key:Int) (L:Nat→List Int):List Int:=(List.range 256).map fun k=>(plain key (k / 4) (L (k / 4))).getD (k%4) 0
theorem fileL_length (key:Int) (L:Nat→List Int):(fileL key L).length=256:=by simp[fileL]
theorem fileL_getD (key:Int) (L:Nat→List Int) (k:Nat) (hk:k<256):(fileL key L).getD k 0=(plain key (k / 4) (L (k / 4))).getD (k%4) 0:=by simp[fileL,List.getD,hk]
theorem fileL_bytes (key:Int) (L:Nat→List Int):Bytes (fileL key L):=by
 intro x hx
 obtain⟨k,_,rfl⟩:=List.mem_map.1 hx
 exact getD_bytes (plain_bytes _ _ _) _
def chunk (l:List Int) (i:Nat):List Int:=(l.drop (4*i)).take 4
theorem chunk_length {l:List Int} (h:l.length=256) {i:Nat} (hi:i<64):(chunk l i).length=4:=by simp[chunk,h]; omega
theorem chunk_getD (l:List Int) (i j:Nat) (hj:j<4):(chunk l i).getD j 0=l.getD (4*i+j) 0:=by
 simp[chunk,List.getD,hj]
theorem chunk_bytes {l:List Int} (h:Bytes l) (i:Nat):Bytes (chunk l i):=fun x hx=>h x (List.mem_of_mem_drop (List.mem_of_mem_take hx))
theorem chunk_fileL (key:Int) (L:Nat→List Int) {i:Nat} (hi:i<64) (hL:L i=[]∨(L i).length=4):chunk (fileL key L) i=plain key i (L i):=by
 have h4:=plain_length (key:=key) (i:=i) hL
 apply list_ext_getD
 ·rw[chunk_length (fileL_length _ _) hi,h4]
 ·intro j hj
  rw[chunk_length (fileL_length _ _) hi] at hj
  rw[chunk_getD _ _ _ hj,fileL_getD _ _ _ (by omega),show (4*i+j) / 4=i by omega,show (4*i+j)%4=j by omega]
theorem fileL_of {key:Int} {L:Nat→List Int} {W:List Int} (hW:W.length=256) (h:∀ i,i<64→plain key i (L i)=chunk W i):fileL key L=W:=by
 apply list_ext_getD
 ·rw[fileL_length,hW]
 ·intro k hk
  rw[fileL_length] at hk
  rw[fileL_getD _ _ _ hk,h _ (by omega),chunk_getD _ _ _ (by omega),show 4*(k / 4)+k%4=k by omega]
theorem fileL_congr {key:Int} {L M:Nat→List Int} (h:∀ i,i<64→L i=M i):fileL key L=fileL key M:=by
 unfold fileL
 apply List.map_congr_left
 intro k hk
 rw[h _ (by have:=List.mem_range.1 hk; omega)]
def zeros (m:Nat):List Int:=List.replicate m 0
theorem zeros_length (m:Nat):(zeros m).length=m:=List.length_replicate
theorem zeros_getD (m k:Nat):(zeros m).getD k 0=0:=by
 unfold zeros
 rw[List.getD_eq_getElem?_getD,List.getElem?_replicate]
 split<;>rfl
structure FileOk (n:Nat) (B:Nat→Blk) (key root size:Int):Prop where
 kb:0≤key∧key≤1000
 sb:0≤size∧size≤256
 right:Right n B
 rooted:Root n B 3 root
 form:∀ i,i<64→leafAt B 3 root i=[]∨plain key i (leafAt B 3 root i)≠[0,0,0,0]
 behind:∀ k:Nat,size≤k→k<256→(fileL key (leafAt B 3 root)).getD k 0=0
theorem FileOk.checked {n:Nat} {B:Nat→Blk} {key root size:Int} (h:FileOk n B key root size):Checked n B root 3 0:=⟨h.right,3,by omega,rfl,h.rooted,by omega,by have:=pw_pos 3; omega⟩
theorem FileOk.leaf04 {n:Nat} {B:Nat→Blk} {key root size:Int} (h:FileOk n B key root size) (i:Nat) (hi:i<64):leafAt B 3 root i=[]∨(leafAt B 3 root i).length=4:=leafAt_04 h.right 3 root h.rooted i hi
theorem FileOk.ext {n:Nat} {B C:Nat→Blk} {key root size:Int} (h:FileOk n B key root size) (hx:Ext n B C) (hC:Right n C):FileOk n C key root size∧fileL key (leafAt C 3 root)=fileL key (leafAt B 3 root):=by
 have hl:∀ i,i<64→leafAt C 3 root i=leafAt B 3 root i:=fun i hi=>hx.leaf h.right 3 root h.rooted i hi
 have e:fileL key (leafAt C 3 root)=fileL key (leafAt B 3 root):=fileL_congr hl
 exact⟨⟨h.kb,h.sb,hC,(hx.root h.rooted).1,fun i hi=>by rw[hl i hi]; exact h.form i hi,by rw[e]; exact h.behind⟩,e⟩
theorem fileOk_zero {n:Nat} {B:Nat→Blk} {key size:Int} (hR:Right n B) (hk:0≤key∧key≤1000) (hs:0≤size∧size≤256):FileOk n B key 0 size∧fileL key (leafAt B 3 0)=zeros 256:=by
 have hl:∀ i,i<64→leafAt B 3 0 i=[]:=fun i hi=>leafAt_zero B 3 i hi
 have e:fileL key (leafAt B 3 0)=zeros 256:=by
  apply fileL_of (zeros_length _)
  intro i hi
  rw[hl i hi,plain_nil]
  apply list_ext_getD
  ·rw[chunk_length (zeros_length _) hi]; rfl
  ·intro j hj
   simp at hj
   rw[chunk_getD _ _ _ (by omega)]
   rw[zeros_getD]
   match j,hj with
   | 0,_=>rfl
   | 1,_=>rfl
   | 2,_=>rfl
   | 3,_=>rfl
 refine⟨⟨hk,hs,hR,.inl rfl,fun i hi=>.inl (hl i hi),fun k _ hk=>?_⟩,e⟩
 rw[e,zeros_getD]
def padTo (N:List Int):List Int:=N++zeros (256-N.length)
theorem padTo_length {N:List Int} (h:N.length≤256):(padTo N).length=256:=by unfold padTo; rw[List.length_append,zeros_length]; omega
theorem padTo_getD (N:List Int) (k:Nat):(padTo N).getD k 0=N.getD k 0:=by
 unfold padTo
 by_cases h:k<N.length
 ·rw[List.getD_eq_getElem?_getD,List.getElem?_append_left h,List.getD_eq_getElem?_getD]
 ·have h1:=zeros_getD (256-N.length) (k-N.length)
  rw[List.getD_eq_getElem?_getD] at h1
  rw[List.getD_eq_getElem?_getD,List.getElem?_append_right (by omega),h1,List.getD_eq_getElem?_getD,List.getElem?_eq_none (by omega)]
  rfl
theorem padTo_bytes {N:List Int} (h:Bytes N):Bytes (padTo N):=by
 intro x hx
 rcases List.mem_append.1 hx with h' | h'
 ·exact h x h'
 ·have:=List.eq_of_mem_replicate (show x∈List.replicate _ 0 from h'); omega
theorem splice_pad {N:List Int} (h:N.length≤256):splice ((zeros 256).map (Value.int .u8)) 0 (N.map (Value.int .u8))=(padTo N).map (Value.int .u8):=by
 have e:(zeros 256).drop N.length=zeros (256-N.length):=by unfold zeros; rw[List.drop_replicate]
 unfold splice padTo
 rw[List.length_map,Nat.zero_add,←List.map_drop,e,List.map_append]
 rfl
def chg (O W:List Int):Nat→Nat
 | 0=>0
 | j+1=>chg O W j+if chunk O j=chunk W j then 0 else 1
theorem chg_mono (O W:List Int) {i j:Nat} (h:i≤j):chg O W i≤chg O W j:=by
 induction j with
 | zero=>obtain rfl:i=0:=by omega
         exact Nat.le_refl _
 | succ j ih=>
   by_cases e:i=j+1
   ·subst e; exact Nat.le_refl _
   ·have:=ih (by omega); simp only[chg]; omega
theorem chg_le (O W:List Int) (j:Nat):chg O W j≤j:=by
 induction j with
 | zero=>exact Nat.le_refl _
 | succ j ih=>simp only[chg]; split<;>omega
def newLeaf (key:Int) (L:Nat→List Int) (O W:List Int) (i:Nat):List Int:=if chunk O i=chunk W i then L i else leafFor key i (chunk W i)
structure WSt (n:Nat) (B C:Nat→Blk) (a cc:Int):Prop where
 right:Right n C
 ext:Ext n B C
 root:Root n C 3 a
 few:∀ k,k<n→(C k).refs≤cc+48
theorem Turned.wst {n:Nat} {B C:Nat→Blk} {a cc:Int} (h:Turned n B C a (cc+48)):WSt n B C a cc:=⟨h.right,h.ext,h.root,h.few⟩
inductive Ways (n:Nat) (B:Nat→Blk) (key:Int) (O W:List Int) (cc:Int):Int→Nat→(Nat→Blk)→Int→Prop
 | zero:Ways n B key O W cc 0 0 B 0
 | kept (m:Nat):Ways n B key O W cc ((m:Int)+1) 0 (keptB B ((m:Int)+1)) ((m:Int)+1)
 | same {root:Int} {j:Nat} {C:Nat→Blk} {a:Int}:Ways n B key O W cc root j C a→chunk O j=chunk W j→Ways n B key O W cc root (j+1) C a
 | put0 {root:Int} {j:Nat} {C D:Nat→Blk} {a' c':Int}:Ways n B key O W cc root j C 0→chunk O j≠chunk W j→j<64→WSt n B C 0 cc→PutOk n C 3 0 j (leafFor key j (chunk W j)) c' D a'→Ways n B key O W cc root (j+1) D a'
 | put {root:Int} {j m:Nat} {C D E:Nat→Blk} {a' c':Int}:Ways n B key O W cc root j C ((m:Int)+1)→chunk O j≠chunk W j→j<64→WSt n B C ((m:Int)+1) cc→PutOk n C 3 ((m:Int)+1) j (leafFor key j (chunk W j)) c' D a'→WSt n B E a' cc→Fell n D E [(m:Int)+1]→Ways n B key O W cc root (j+1) E a'
structure TurnAt (n:Nat) (B C:Nat→Blk) (key root:Int) (O W:List Int) (j:Nat) (a:Int) (cc:Int):Prop where
 turned:Turned n B C a (cc+48)
 base:∀ k,k<n→(B k).refs≤cc
 used:usedTo C n≤usedTo B n+4*chg O W j
 leaf:∀ i,i<64→leafAt C 3 a i=if i<j then newLeaf key (leafAt B 3 root) O W i else leafAt B 3 root i
 still:chg O W j=0→a=root
 fro:∀ x,Clo C [a] x→(B (x-1).toNat).refs=0∨Clo B [root] x
 way:Ways n B key O W cc root j C a
theorem clo_kept {B:Nat→Blk} {i:Nat} {l:List Int} {x:Int} (h:Clo (keptB B ((i:Int)+1)) l x):Clo B l x:=
 h (Clo B l) (fun r hr h0=>Clo.root hr h0) fun y hy k hk h0=>hy.kid (by
  by_cases e:(y-1).toNat=i
  ·rw[e] at hk ⊢
   rw[kept_same] at hk
   exact hk
  ·rw[kept_other e] at hk
   exact hk) h0
theorem clo_fell {n:Nat} {D E:Nat→Blk} {T:List Int} {a x:Int} (hF:Fell n D E T) (hE:Right n E) (ha:a=0∨There n E a) (h:Clo E [a] x):Clo D [a] x:=
 (clo_behind hE hF (fun r hr=>by rw[List.mem_singleton.1 hr]; exact ha) x).2 h
theorem TurnAt.fro_put {n:Nat} {B C D:Nat→Blk} {key root a a' cc c':Int} {O W:List Int} {j i:Nat} {bs:List Int} (h:TurnAt n B C key root O W j a cc) (hp:PutOk n C 3 a i bs c' D a') {x:Int} (hx:Clo D [a'] x):(B (x-1).toNat).refs=0∨Clo B [root] x:=by
 rcases hp.from' h.turned.right h.turned.root hx with h1 | h1
 ·by_cases e:(B (x-1).toNat).refs=0
  ·exact .inl e
  ·by_cases hxn:(x-1).toNat<n
   ·exact absurd h1 (h.turned.ext.keep _ hxn e).1
   ·have ht:=hx.there hp.grew.right (fun r hr=>by rw[List.mem_singleton.1 hr]; exact hp.grew.root.imp id fun h=>h.1)
    exact absurd (ix ht.1 ht.2.1).1 hxn
 ·exact h.fro x h1
theorem turnAt_zero {n:Nat} {B:Nat→Blk} {key cc:Int} {O W:List Int} (hR:Right n B) (hc:∀ k,k<n→(B k).refs≤cc):TurnAt n B B key 0 O W 0 0 cc:=
 ⟨turned_zero hR (fun k hk=>by have:=hc k hk; omega),hc,by simp[chg],fun i _=>by rw[if_neg (by omega)],fun _=>rfl,fun x h=>.inr h,.zero⟩
theorem turnAt_kept {n:Nat} {B:Nat→Blk} {key cc:Int} {O W:List Int} {m:Nat} (hR:Right n B) (hr:Root n B 3 ((m:Int)+1)) (hcm:cc≤999999) (hc:∀ k,k<n→(B k).refs≤cc):TurnAt n B (keptB B ((m:Int)+1)) key ((m:Int)+1) O W 0 ((m:Int)+1) cc:=by
 have ht:=turned_kept hR hr hcm hc
 refine⟨⟨ht.right,ht.ext,ht.root,ht.out,fun k hk=>by have:=ht.few k hk; omega,ht.newk⟩,hc,?_,fun i hi=>?_,fun _=>rfl,fun x h=>.inr (clo_kept h),.kept m⟩
 ·have h0:(B m).refs≠0:=by
   rcases hr with h | ⟨⟨_,_,h⟩,_⟩
   ·omega
   ·rwa [show ((m:Int)+1-1).toNat=m by omega] at h
  have:=used_kept (i:=m) hR h0
  simp[chg]; exact this
 ·rw[if_neg (by omega)]
  exact ht.ext.leaf hR 3 _ hr i hi
theorem TurnAt.same {n:Nat} {B C:Nat→Blk} {key root a cc:Int} {O W:List Int} {j:Nat} (h:TurnAt n B C key root O W j a cc) (hj:j<64) (e:chunk O j=chunk W j):TurnAt n B C key root O W (j+1) a cc:=by
 have ec:chg O W (j+1)=chg O W j:=by simp[chg,e]
 refine⟨h.turned,h.base,by rw[ec]; exact h.used,fun i hi=>?_,by rw[ec]; exact h.still,h.fro,.same h.way e⟩
 rw[h.leaf i hi]
 by_cases h1:i<j
 ·rw[if_pos h1,if_pos (by omega)]
 ·by_cases h2:i=j
  ·subst h2
   rw[if_neg h1,if_pos (by omega)]
   simp[newLeaf,e]
  ·rw[if_neg h1,if_neg (by omega)]
theorem TurnAt.step0 {n:Nat} {B C D:Nat→Blk} {key root a' cc c':Int} {O W:List Int} {j:Nat} (hB:Right n B) (h:TurnAt n B C key root O W j 0 cc) (h1:64≤cc) (hj:j<64) (e:chunk O j≠chunk W j) (hp:PutOk n C 3 0 j (leafFor key j (chunk W j)) c' D a'):TurnAt n B D key root O W (j+1) a' cc:=by
 have ec:chg O W (j+1)=chg O W j+1:=by simp[chg,e]
 have ht:=h.turned.put0 hB h1 h.base hp
 refine⟨ht,h.base,?_,fun i hi=>?_,fun h0=>by omega,fun x hx=>h.fro_put hp hx,.put0 h.way e hj h.turned.wst hp⟩
 ·rw[ec]; have:=hp.grew.used; have:=h.used; omega
 ·rw[hp.leaf i hi,h.leaf i hi]
  by_cases h2:i=j
  ·subst h2; rw[if_pos rfl,if_pos (by omega)]; simp[newLeaf,e]
  ·rw[if_neg h2]
   by_cases h3:i<j
   ·rw[if_pos h3,if_pos (by omega)]
   ·rw[if_neg h3,if_neg (by omega)]
theorem TurnAt.step {n:Nat} {B C D E:Nat→Blk} {key root a' cc c':Int} {O W:List Int} {j m:Nat} (hB:Right n B) (h:TurnAt n B C key root O W j ((m:Int)+1) cc) (h1:64≤cc) (hj:j<64) (e:chunk O j≠chunk W j) (hp:PutOk n C 3 ((m:Int)+1) j (leafFor key j (chunk W j)) c' D a') (hE:Right n E) (hF:Fell n D E [(m:Int)+1]):TurnAt n B E key root O W (j+1) a' cc:=by
 have ec:chg O W (j+1)=chg O W j+1:=by simp[chg,e]
 obtain⟨ht,hl,hu⟩:=h.turned.drop hB h1 h.base hp hE hF
 refine⟨ht,h.base,?_,fun i hi=>?_,fun h0=>by omega,fun x hx=>h.fro_put hp (clo_fell hF hE (ht.root.imp id fun h=>h.1) hx),.put h.way e hj h.turned.wst hp ht.wst hF⟩
 ·rw[ec]; have:=hp.grew.used; have:=h.used; omega
 ·rw[hl i hi,hp.leaf i hi,h.leaf i hi]
  by_cases h2:i=j
  ·subst h2; rw[if_pos rfl,if_pos (by omega)]; simp[newLeaf,e]
  ·rw[if_neg h2]
   by_cases h3:i<j
   ·rw[if_pos h3,if_pos (by omega)]
   ·rw[if_neg h3,if_neg (by omega)]
theorem TurnAt.file {n:Nat} {B C:Nat→Blk} {key root a cc size:Int} {N:List Int} (hok:FileOk n B key root size) (hN:N.length≤256) (hb:Bytes N) (h:TurnAt n B C key root (fileL key (leafAt B 3 root)) (padTo N) 64 a cc):
 FileOk n C key a (N.length:Int)∧fileL key (leafAt C 3 a)=padTo N∧(∀ i,i<64→leafAt C 3 a i=newLeaf key (leafAt B 3 root) (fileL key (leafAt B 3 root)) (padTo N) i):=by
 have hl:∀ i,i<64→leafAt C 3 a i=newLeaf key (leafAt B 3 root) (fileL key (leafAt B 3 root)) (padTo N) i:=fun i hi=>by rw[h.leaf i hi,if_pos hi]
 have hpl:∀ i,i<64→plain key i (leafAt C 3 a i)=chunk (padTo N) i:=fun i hi=>by
  rw[hl i hi]
  unfold newLeaf
  by_cases e:chunk (fileL key (leafAt B 3 root)) i=chunk (padTo N) i
  ·rw[if_pos e,←e,chunk_fileL _ _ hi (hok.leaf04 i hi)]
  ·rw[if_neg e,plain_leafFor (chunk_length (padTo_length hN) hi) (chunk_bytes (padTo_bytes hb) i)]
 have hf:fileL key (leafAt C 3 a)=padTo N:=fileL_of (padTo_length hN) hpl
 refine⟨⟨hok.kb,by omega,h.turned.right,h.turned.root,fun i hi=>?_,fun k h1 h2=>?_⟩,hf,hl⟩
 ·by_cases e:chunk (fileL key (leafAt B 3 root)) i=chunk (padTo N) i
  ·have e2:leafAt C 3 a i=leafAt B 3 root i:=by rw[hl i hi]; simp[newLeaf,e]
   rw[e2]; exact hok.form i hi
  ·by_cases e0:chunk (padTo N) i=[0,0,0,0]
   ·left; rw[hl i hi]; simp only[newLeaf]; rw[if_neg e]; simp[leafFor,e0]
   ·right; rw[hpl i hi]; exact e0
 ·rw[hf,padTo_getD]
  simp[List.getD,List.getElem?_eq_none (by omega:N.length≤k)]
def overL (b:List Int) (at':Nat) (more:List Int):List Int:=if more=[] then b else splice (splice (zeros (max b.length (at'+more.length))) 0 b) at' more
theorem overL_length (b:List Int) (at':Nat) (more:List Int):(overL b at' more).length=if more=[] then b.length else max b.length (at'+more.length):=by
 unfold overL
 split
 ·rfl
 ·have h1:(splice (zeros (max b.length (at'+more.length))) 0 b).length=max b.length (at'+more.length):=by
   rw[length_splice _ _ _ (by rw[zeros_length]; omega),zeros_length]
  rw[length_splice _ _ _ (by rw[h1]; omega),h1]
theorem splice_getD (L:List Int) (off:Nat) (cs:List Int) (h:off+cs.length≤L.length) (k:Nat):(splice L off cs).getD k 0=if off≤k∧k<off+cs.length then cs.getD (k-off) 0 else L.getD k 0:=by
 unfold splice
 have ht:(L.take off).length=off:=by simp; omega
 by_cases h1:k<off
 ·rw[if_neg (by omega)]
  simp[List.getD,List.getElem?_append_left (by omega:k<(L.take off).length),h1]
 ·by_cases h2:k<off+cs.length
  ·rw[if_pos ⟨by omega,h2⟩]
   simp[List.getD,List.getElem?_append_right (by omega:(L.take off).length≤k),ht,List.getElem?_append_left (by omega:k-off<cs.length)]
  ·rw[if_neg (by omega)]
   simp only[List.getD,List.getElem?_append_right (by omega:(L.take off).length≤k),ht,List.getElem?_append_right (by omega:cs.length≤k-off),List.getElem?_drop]
   rw[show off+cs.length+(k-off-cs.length)=k by omega]
theorem overL_getD (b:List Int) (at':Nat) (more:List Int) (k:Nat):(overL b at' more).getD k 0=if at'≤k∧k<at'+more.length then more.getD (k-at') 0 else b.getD k 0:=by
 unfold overL
 split
 ·rename_i e
  subst e
  rw[if_neg (by simp)]
 ·have h0:(splice (zeros (max b.length (at'+more.length))) 0 b).length=max b.length (at'+more.length):=by
   rw[length_splice _ _ _ (by rw[zeros_length]; omega),zeros_length]
  rw[splice_getD _ _ _ (by rw[h0]; omega),splice_getD _ _ _ (by rw[zeros_length]; omega),zeros_getD]
  by_cases h1:at'≤k∧k<at'+more.length
  ·rw[if_pos h1,if_pos h1]
  ·rw[if_neg h1,if_neg h1]
   by_cases h2:k<b.length
   ·rw[if_pos (by omega)]; simp
   ·rw[if_neg (by omega)]
    simp[List.getD,List.getElem?_eq_none (by omega:b.length≤k)]
theorem overL_bytes {b:List Int} {at':Nat} {more:List Int} (hb:Bytes b) (hm:Bytes more):Bytes (overL b at' more):=by
 intro x hx
 obtain⟨k,hk,rfl⟩:=List.mem_iff_getElem.1 hx
 have e:(overL b at' more).getD k 0=(overL b at' more)[k]:=by simp[List.getD,hk]
 rw[←e,overL_getD]
 split
 ·exact getD_bytes hm _
 ·exact getD_bytes hb _
end Go.Proofs.YtjafgnohlkkopaaGreatDoor

namespace Go.Proofs.YtjafgnohlkkopaaGreatDoor
def Stays (n:Nat) (B C:Nat→Blk) (l:List Int):Prop:=
 ∀ x,Clo B l x→There n C x∧(C (x-1).toNat).level=(B (x-1).toNat).level∧(C (x-1).toNat).kids=(B (x-1).toNat).kids∧(C (x-1).toNat).bytes=(B (x-1).toNat).bytes
theorem stays_refl {n:Nat} {B:Nat→Blk} {l:List Int} (hB:Right n B) (hl:RootsOk n B l):Stays n B B l:=fun x hx=>⟨hx.there hB hl,rfl,rfl,rfl⟩
theorem stays_ext {n:Nat} {B C:Nat→Blk} {l:List Int} (hB:Right n B) (hl:RootsOk n B l) (hx:Ext n B C):Stays n B C l:=fun x hc=>by
 obtain⟨h1,h2,h3⟩:=hc.there hB hl
 obtain⟨g1,g2,g3,g4⟩:=hx.keep _ (ix h1 h2).1 h3
 exact⟨⟨h1,h2,g1⟩,g2,g3,g4⟩
theorem stays_fell {n:Nat} {B C:Nat→Blk} {l T:List Int} (hC:Right n C) (hF:Fell n B C T) (hl:RootsOk n C l):Stays n B C l:=fun x hc=>by
 have ht:=((clo_behind hC hF hl x).1 hc).there hC hl
 exact⟨ht,fell_content hF ht⟩
theorem Stays.clo {n:Nat} {B C:Nat→Blk} {l:List Int} (h:Stays n B C l) {x:Int} (hx:Clo B l x):Clo C l x:=by
 refine(hx (fun y=>Clo B l y∧Clo C l y) (fun r hr h0=>⟨Clo.root hr h0,Clo.root hr h0⟩) ?_).2
 rintro y ⟨h1,h2⟩ k hk h0
 exact⟨h1.kid hk h0,h2.kid (by rw[(h y h1).2.2.1]; exact hk) h0⟩
theorem Stays.trans {n:Nat} {B C D:Nat→Blk} {l:List Int} (h:Stays n B C l) (k:Stays n C D l):Stays n B D l:=fun x hx=>by
 obtain⟨_,h1,h2,h3⟩:=h x hx
 obtain⟨k0,k1,k2,k3⟩:=k x (h.clo hx)
 exact⟨k0,k1.trans h1,k2.trans h2,k3.trans h3⟩
theorem Stays.mono {n:Nat} {B C:Nat→Blk} {l m:List Int} (h:Stays n B C l) (hm:∀ x∈m,x∈l):Stays n B C m:=fun x hx=>h x (hx.mono fun r hr h0=>Clo.root (hm r hr) h0)
theorem Stays.leaf {n:Nat} {B C:Nat→Blk} {l:List Int} (hB:Right n B) (hC:Right n C) (h:Stays n B C l):∀ (v:Nat) (a:Int),Root n B v a→(a=0∨Clo B l a)→Root n C v a∧∀ i,i<pw v→leafAt C v a i=leafAt B v a i
 | v,a,hr,.inl h0=>by
   subst h0
   exact⟨.inl rfl,fun i hi=>by rw[leafAt_zero _ _ _ hi,leafAt_zero _ _ _ hi]⟩
 | 0,a,hr,.inr ht=>by
   obtain⟨c0,c1,c2,c3⟩:=h a ht
   have h1:=c0.1
   refine⟨?_,fun i _=>?_⟩
   ·rcases hr with h | ⟨_,h⟩
    ·exact .inl h
    ·exact .inr ⟨c0,c1.trans h⟩
   ·simp only[leafAt,bytesL]
    rw[if_neg (by omega),if_neg (by omega),c3]
 | v+1,a,hr,.inr ht=>by
   obtain⟨c0,c1,c2,c3⟩:=h a ht
   have h1:=c0.1
   have hrE:Root n C (v+1) a:=by
    rcases hr with h | ⟨_,h⟩
    ·exact .inl h
    ·exact .inr ⟨c0,c1.trans h⟩
   have hk:kidsL C a=kidsL B a:=by unfold kidsL; rw[if_neg (by omega),if_neg (by omega),c2]
   refine⟨hrE,fun i hi=>?_⟩
   have hp:=pw_pos v
   have hd:i / pw v<4:=by simp only[pw] at hi; exact Nat.div_lt_of_lt_mul (by rw[Nat.mul_comm]; exact hi)
   simp only[leafAt]
   rw[hk]
   refine(Stays.leaf hB hC h v _ (hr.kidAt hB hd) ?_).2 _ (Nat.mod_lt _ hp)
   by_cases h0:(kidsL B a).getD (i / pw v) 0=0
   ·exact .inl h0
   ·refine .inr (ht.kid ?_ h0)
    have hlen:=hr.len hB
    have hm:(kidsL B a).getD (i / pw v) 0∈kidsL B a:=by
     rw[List.getD_eq_getElem?_getD,List.getElem?_eq_getElem (by omega)]
     exact List.getElem_mem _
    have hk2:kidsL B a=(B (a-1).toNat).kids:=by unfold kidsL; rw[if_neg (by omega)]
    rw[hk2] at hm ⊢
    exact hm
theorem FileOk.stays {n:Nat} {B C:Nat→Blk} {key root size:Int} {l:List Int} (h:FileOk n B key root size) (hC:Right n C) (hs:Stays n B C l) (hr:root∈l):FileOk n C key root size∧fileL key (leafAt C 3 root)=fileL key (leafAt B 3 root):=by
 have hor:root=0∨Clo B l root:=by
  by_cases h0:root=0
  ·exact .inl h0
  ·exact .inr (Clo.root hr h0)
 obtain⟨h1,hl⟩:=hs.leaf h.right hC 3 root h.rooted hor
 have e:fileL key (leafAt C 3 root)=fileL key (leafAt B 3 root):=fileL_congr hl
 exact⟨⟨h.kb,h.sb,hC,h1,fun i hi=>by rw[hl i hi]; exact h.form i hi,by rw[e]; exact h.behind⟩,e⟩
structure Grow (n:Nat) (B C:Nat→Blk) (K:List Int):Prop where
 right:Right n C
 ext:Ext n B C
 out:∀ k,k<n→outs n C k=outs n B k+(K.count ((k:Int)+1):Int)
theorem Turned.grow {n:Nat} {B C:Nat→Blk} {a c:Int} (h:Turned n B C a c):Grow n B C [a]:=⟨h.right,h.ext,fun k hk=>by
 rw[h.out k hk]
 by_cases e:(k:Int)+1=a
 ·subst e; rw[if_pos rfl,List.count_cons_self]; simp
 ·rw[if_neg e,List.count_cons_of_ne (fun h=>e h.symm)]; simp⟩
theorem grow_nil {n:Nat} {B:Nat→Blk} (hB:Right n B):Grow n B B []:=⟨hB,Ext.refl _ _,fun k _=>by simp⟩
theorem Grow.trans {n:Nat} {B C D:Nat→Blk} {K L:List Int} (h:Grow n B C K) (g:Grow n C D L):Grow n B D (K++L):=⟨g.right,h.ext.trans g.ext,fun k hk=>by
 rw[g.out k hk,h.out k hk,List.count_append]; omega⟩
theorem Grow.zero {n:Nat} {B C:Nat→Blk} {K:List Int} (h:Grow n B C K):Grow n B C (0::K):=⟨h.right,h.ext,fun k hk=>by
 rw[h.out k hk,List.count_cons_of_ne (by omega)]⟩
def HeldR (n:Nat) (B:Nat→Blk) (R:List Int):Prop:=∀ k,k<n→(R.count ((k:Int)+1):Int)≤outs n B k
def baseL (n:Nat) (B:Nat→Blk) (R:List Int):List Int:=heldL (fun k=>decide (0<outs n B k-(R.count ((k:Int)+1):Int))) n
theorem mem_baseL {n:Nat} {B:Nat→Blk} {R:List Int} {x:Int}:x∈baseL n B R↔∃ k:Nat,k<n∧0<outs n B k-(R.count ((k:Int)+1):Int)∧x=(k:Int)+1:=by
 unfold baseL
 rw[mem_heldL]
 simp only[decide_eq_true_eq]
theorem outs_there {n:Nat} {B:Nat→Blk} {k:Nat} (hk:k<n) (h:0<outs n B k):There n B ((k:Int)+1):=by
 refine⟨by omega,by omega,?_⟩
 rw[show ((k:Int)+1-1).toNat=k by omega]
 unfold outs at h
 omega
theorem base_roots {n:Nat} {B:Nat→Blk} {R:List Int}:RootsOk n B (baseL n B R):=fun x hx=>by
 obtain⟨k,hk,h,rfl⟩:=mem_baseL.1 hx
 exact .inr (outs_there hk (by omega))
theorem held_roots {n:Nat} {B:Nat→Blk} {R:List Int} (h:HeldR n B R) {l:List Int} (hl:∀ x∈l,x∈R) (hb:∀ x∈R,x=0∨(1≤x∧x≤n)):RootsOk n B l:=fun x hx=>by
 rcases hb x (hl x hx) with h0 | ⟨h1,h2⟩
 ·exact .inl h0
 ·obtain⟨k,rfl⟩:∃ k:Nat,x=(k:Int)+1:=⟨(x-1).toNat,by omega⟩
  have hk:k<n:=by omega
  refine .inr (outs_there hk ?_)
  have:=h k hk
  have hc:0<R.count ((k:Int)+1):=List.count_pos_iff.2 (hl _ hx)
  omega
structure Moved (n:Nat) (B C:Nat→Blk) (R S:List Int):Prop where
 right:Right n C
 out:∀ k,k<n→outs n C k-(S.count ((k:Int)+1):Int)=outs n B k-(R.count ((k:Int)+1):Int)
 stays:Stays n B C (baseL n B R)
theorem Moved.base {n:Nat} {B C:Nat→Blk} {R S:List Int} (h:Moved n B C R S):baseL n C S=baseL n B R:=by
 have:∀ i,i≤n→heldL (fun k=>decide (0<outs n C k-(S.count ((k:Int)+1):Int))) i=heldL (fun k=>decide (0<outs n B k-(R.count ((k:Int)+1):Int))) i:=by
  intro i
  induction i with
  | zero=>intro _; rfl
  | succ i ih=>
    intro hi
    unfold heldL
    rw[ih (by omega),h.out i (by omega)]
 exact this n (Nat.le_refl _)
theorem Moved.trans {n:Nat} {B C D:Nat→Blk} {R S T:List Int} (h:Moved n B C R S) (g:Moved n C D S T):Moved n B D R T:=
 ⟨g.right,fun k hk=>(g.out k hk).trans (h.out k hk),h.stays.trans (h.base▸g.stays)⟩
theorem Moved.held {n:Nat} {B C:Nat→Blk} {R S:List Int} (h:Moved n B C R S) (hR:HeldR n B R):HeldR n C S:=fun k hk=>by
 have h1:=h.out k hk
 have h2:=hR k hk
 omega
theorem moved_of {n:Nat} {B C D:Nat→Blk} {R S K T:List Int} (hB:Right n B) (hR:HeldR n B R) (h:Grow n B C K) (hD:Right n D) (hF:Fell n C D T) (hS:∀ x:Int,x≠0→S.count x+T.count x=R.count x+K.count x):
 Moved n B D R S∧∀ l,(∀ x∈l,x∈R∧x∈S)→(∀ x∈R,x=0∨(1≤x∧x≤n))→Stays n B D l:=by
 have ho:∀ k,k<n→outs n D k-(S.count ((k:Int)+1):Int)=outs n B k-(R.count ((k:Int)+1):Int):=fun k hk=>by
  rw[hF.outs k hk,h.out k hk]
  have:=hS ((k:Int)+1) (by omega)
  omega
 have hSD:HeldR n D S:=fun k hk=>by
  have h1:=ho k hk
  have h2:=hR k hk
  omega
 refine⟨⟨hD,ho,?_⟩,fun l hl hb=>?_⟩
 ·refine(stays_ext hB base_roots h.ext).trans (stays_fell hD hF fun x hx=>?_)
  obtain⟨k,hk,h1,rfl⟩:=mem_baseL.1 hx
  refine .inr (outs_there hk ?_)
  have:=ho k hk
  omega
 ·refine(stays_ext hB (held_roots hR (fun x hx=>(hl x hx).1) hb) h.ext).trans (stays_fell hD hF fun x hx=>?_)
  rcases hb x (hl x hx).1 with h0 | ⟨h1,h2⟩
  ·exact .inl h0
  ·obtain⟨k,rfl⟩:∃ k:Nat,x=(k:Int)+1:=⟨(x-1).toNat,by omega⟩
   have hk:k<n:=by omega
   refine .inr (outs_there hk ?_)
   have:=hSD k hk
   have hc:0<S.count ((k:Int)+1):=List.count_pos_iff.2 (hl _ hx).2
   omega
end Go.Proofs.YtjafgnohlkkopaaGreatDoor

namespace Go.Proofs.YtjafgnohlkkopaaGreatDoor
open Go.RowKit
structure Ent where
 name:ByteArray
 root:Int
 size:Int
def Ent.zero:Ent:=⟨ByteArray.empty,0,0⟩
instance : Inhabited Ent:=⟨Ent.zero⟩
def Ent.ok (x:Ent):Prop:=x.name.size≤maxLen∧(-9223372036854775808≤x.root∧x.root≤9223372036854775807)∧(-9223372036854775808≤x.size∧x.size≤9223372036854775807)
structure EntAt (w:World) (b off:Nat) (x:Ent):Prop where
 c0:w.cell? ⟨b,off,none⟩=some (.string x.name)
 c1:w.cell? ⟨b,off+1,none⟩=some (.int .i64 x.root)
 c2:w.cell? ⟨b,off+2,none⟩=some (.int .i64 x.size)
def EntsAt (Q:Nat→Prop) (w:World) (a:Option Addr) (n:Nat) (l:List Ent):Prop:=
 l.length=n∧(∀ x∈l,x.ok)∧(0<n→∃ b off,a=some ⟨b,off,none⟩∧b<w.heap.size∧Q b∧∀ i,i<n→EntAt w b (off+i*3) (l.getD i Ent.zero))
theorem EntAt.below {w w':World} {b off:Nat} {x:Ent} (h:EntAt w b off x) (hb:Below w.heap.size w w'):EntAt w' b off x:=by
 have hlt:=cell_lt h.c0
 exact⟨(hb.cell (p:=⟨b,off,none⟩) hlt).trans h.c0,(hb.cell (p:=⟨b,off+1,none⟩) hlt).trans h.c1,(hb.cell (p:=⟨b,off+2,none⟩) hlt).trans h.c2⟩
theorem EntAt.kept {g:Nat} {w w':World} {b off:Nat} {x:Ent} (h:EntAt w b off x) (hg:b≠g) (hk:Kept g w w'):EntAt w' b off x:=
 ⟨(hk.cell (p:=⟨b,off,none⟩) hg).trans h.c0,(hk.cell (p:=⟨b,off+1,none⟩) hg).trans h.c1,(hk.cell (p:=⟨b,off+2,none⟩) hg).trans h.c2⟩
theorem entsAt_nil (Q:Nat→Prop) (w:World) (a:Option Addr):EntsAt Q w a 0 []:=⟨rfl,by simp,fun h=>absurd h (by omega)⟩
theorem EntsAt.below {Q:Nat→Prop} {w w':World} {a:Option Addr} {n:Nat} {l:List Ent} (h:EntsAt Q w a n l) (hb:Below w.heap.size w w'):EntsAt Q w' a n l:=by
 refine⟨h.1,h.2.1,fun hn=>?_⟩
 obtain⟨b,off,rfl,hlt,hq,hc⟩:=h.2.2 hn
 exact⟨b,off,rfl,Nat.lt_of_lt_of_le hlt hb.size,hq,fun i hi=>(hc i hi).below hb⟩
theorem EntsAt.weaken {Q R:Nat→Prop} {w:World} {a:Option Addr} {n:Nat} {l:List Ent} (h:EntsAt Q w a n l) (hq:∀ b,b<w.heap.size→Q b→R b):EntsAt R w a n l:=by
 refine⟨h.1,h.2.1,fun hn=>?_⟩
 obtain⟨b,off,rfl,hlt,q,hc⟩:=h.2.2 hn
 exact⟨b,off,rfl,hlt,hq b hlt q,hc⟩
theorem EntsAt.kept {Q:Nat→Prop} {g:Nat} {w w':World} {a:Option Addr} {n:Nat} {l:List Ent} (h:EntsAt Q w a n l) (hq:∀ b,Q b→b≠g) (hk:Kept g w w'):EntsAt Q w' a n l:=by
 refine⟨h.1,h.2.1,fun hn=>?_⟩
 obtain⟨b,off,rfl,hlt,q,hc⟩:=h.2.2 hn
 exact⟨b,off,rfl,by rw[hk.size]; exact hlt,q,fun i hi=>(hc i hi).kept (hq b q) hk⟩
theorem EntsAt.getD {Q:Nat→Prop} {w:World} {a:Option Addr} {n:Nat} {l:List Ent} (h:EntsAt Q w a n l) {i:Nat} (hi:i<n):l.getD i Ent.zero∈l:=by
 have hl:i<l.length:=by rw[h.1]; exact hi
 have e:l.getD i Ent.zero=l[i]:=by simp[List.getD,hl]
 rw[e]
 exact List.getElem_mem hl
theorem EntsAt.ent {Q:Nat→Prop} {w:World} {b off n:Nat} {l:List Ent} (h:EntsAt Q w (some ⟨b,off,none⟩) n l) {i:Nat} (hi:i<n):EntAt w b (off+i*3) (l.getD i Ent.zero):=by
 obtain⟨b', off', e,_,_,hc⟩:=h.2.2 (by omega)
 simp only[Option.some.injEq,Addr.mk.injEq,and_true] at e
 obtain⟨rfl,rfl⟩:=e
 exact hc i hi
structure SnapE where
 name:ByteArray
 files:List Ent
def SnapE.zero:SnapE:=⟨ByteArray.empty,[]⟩
instance : Inhabited SnapE:=⟨SnapE.zero⟩
structure SnapAt (Q:Nat→Prop) (w:World) (b off:Nat) (x:SnapE) (fa:Option Addr) (fn fc:Nat):Prop where
 c0:w.cell? ⟨b,off,none⟩=some (.string x.name)
 c1:w.cell? ⟨b,off+1,none⟩=some (.slice fa fn fc)
 files:EntsAt Q w fa fn x.files
 small:x.name.size≤maxLen
 caps:fn≤fc
def SnapsAt (Q:Nat→Prop) (w:World) (a:Option Addr) (n:Nat) (l:List SnapE):Prop:=
 l.length=n∧(0<n→∃ b off,a=some ⟨b,off,none⟩∧b<w.heap.size∧Q b∧∀ i,i<n→∃ fa fn fc,SnapAt Q w b (off+i*2) (l.getD i SnapE.zero) fa fn fc)
theorem SnapAt.below {Q:Nat→Prop} {w w':World} {b off:Nat} {x:SnapE} {fa:Option Addr} {fn fc:Nat} (h:SnapAt Q w b off x fa fn fc) (hb:Below w.heap.size w w'):SnapAt Q w' b off x fa fn fc:=by
 have hlt:=cell_lt h.c0
 exact⟨(hb.cell (p:=⟨b,off,none⟩) hlt).trans h.c0,(hb.cell (p:=⟨b,off+1,none⟩) hlt).trans h.c1,h.files.below hb,h.small,h.caps⟩
theorem SnapAt.kept {Q:Nat→Prop} {g:Nat} {w w':World} {b off:Nat} {x:SnapE} {fa:Option Addr} {fn fc:Nat} (h:SnapAt Q w b off x fa fn fc) (hg:b≠g) (hq:∀ b,Q b→b≠g) (hk:Kept g w w'):SnapAt Q w' b off x fa fn fc:=
 ⟨(hk.cell (p:=⟨b,off,none⟩) hg).trans h.c0,(hk.cell (p:=⟨b,off+1,none⟩) hg).trans h.c1,h.files.kept hq hk,h.small,h.caps⟩
theorem SnapAt.weaken {Q R:Nat→Prop} {w:World} {b off:Nat} {x:SnapE} {fa:Option Addr} {fn fc:Nat} (h:SnapAt Q w b off x fa fn fc) (hq:∀ b,b<w.heap.size→Q b→R b):SnapAt R w b off x fa fn fc:=
 ⟨h.c0,h.c1,h.files.weaken hq,h.small,h.caps⟩
theorem snapsAt_nil (Q:Nat→Prop) (w:World) (a:Option Addr):SnapsAt Q w a 0 []:=⟨rfl,fun h=>absurd h (by omega)⟩
theorem SnapsAt.below {Q:Nat→Prop} {w w':World} {a:Option Addr} {n:Nat} {l:List SnapE} (h:SnapsAt Q w a n l) (hb:Below w.heap.size w w'):SnapsAt Q w' a n l:=by
 refine⟨h.1,fun hn=>?_⟩
 obtain⟨b,off,rfl,hlt,hq,hc⟩:=h.2 hn
 refine⟨b,off,rfl,Nat.lt_of_lt_of_le hlt hb.size,hq,fun i hi=>?_⟩
 obtain⟨fa,fn,fc,hs⟩:=hc i hi
 exact⟨fa,fn,fc,hs.below hb⟩
theorem SnapsAt.weaken {Q R:Nat→Prop} {w:World} {a:Option Addr} {n:Nat} {l:List SnapE} (h:SnapsAt Q w a n l) (hq:∀ b,b<w.heap.size→Q b→R b):SnapsAt R w a n l:=by
 refine⟨h.1,fun hn=>?_⟩
 obtain⟨b,off,rfl,hlt,q,hc⟩:=h.2 hn
 refine⟨b,off,rfl,hlt,hq b hlt q,fun i hi=>?_⟩
 obtain⟨fa,fn,fc,hs⟩:=hc i hi
 exact⟨fa,fn,fc,hs.weaken hq⟩
theorem SnapsAt.kept {Q:Nat→Prop} {g:Nat} {w w':World} {a:Option Addr} {n:Nat} {l:List SnapE} (h:SnapsAt Q w a n l) (hq:∀ b,Q b→b≠g) (hk:Kept g w w'):SnapsAt Q w' a n l:=by
 refine⟨h.1,fun hn=>?_⟩
 obtain⟨b,off,rfl,hlt,q,hc⟩:=h.2 hn
 refine⟨b,off,rfl,by rw[hk.size]; exact hlt,q,fun i hi=>?_⟩
 obtain⟨fa,fn,fc,hs⟩:=hc i hi
 exact⟨fa,fn,fc,hs.kept (hq b q) hq hk⟩
theorem SnapsAt.snap {Q:Nat→Prop} {w:World} {b off n:Nat} {l:List SnapE} (h:SnapsAt Q w (some ⟨b,off,none⟩) n l) {i:Nat} (hi:i<n):∃ fa fn fc,SnapAt Q w b (off+i*2) (l.getD i SnapE.zero) fa fn fc:=by
 obtain⟨b', off', e,_,_,hc⟩:=h.2 (by omega)
 simp only[Option.some.injEq,Addr.mk.injEq,and_true] at e
 obtain⟨rfl,rfl⟩:=e
 exact hc i hi
structure SetE where
 name:ByteArray
 files:List Ent
 snaps:List SnapE
structure SetV where
 name:ByteArray
 fa:Option Addr
 fn:Nat
 fc:Nat
 sa:Option Addr
 sn:Nat
 sc:Nat
def SetV.val (v:SetV):Value:=.agg #[.string v.name,.slice v.fa v.fn v.fc,.slice v.sa v.sn v.sc]
structure SetAt (Q:Nat→Prop) (w:World) (v:SetV) (x:SetE):Prop where
 name:v.name=x.name
 small:x.name.size≤maxLen
 files:EntsAt Q w v.fa v.fn x.files
 snaps:SnapsAt Q w v.sa v.sn x.snaps
 caps:v.fn≤v.fc∧v.sn≤v.sc
theorem SetAt.below {Q:Nat→Prop} {w w':World} {v:SetV} {x:SetE} (h:SetAt Q w v x) (hb:Below w.heap.size w w'):SetAt Q w' v x:=⟨h.name,h.small,h.files.below hb,h.snaps.below hb,h.caps⟩
theorem SetAt.kept {Q:Nat→Prop} {g:Nat} {w w':World} {v:SetV} {x:SetE} (h:SetAt Q w v x) (hq:∀ b,Q b→b≠g) (hk:Kept g w w'):SetAt Q w' v x:=⟨h.name,h.small,h.files.kept hq hk,h.snaps.kept hq hk,h.caps⟩
theorem SetAt.weaken {Q R:Nat→Prop} {w:World} {v:SetV} {x:SetE} (h:SetAt Q w v x) (hq:∀ b,b<w.heap.size→Q b→R b):SetAt R w v x:=⟨h.name,h.small,h.files.weaken hq,h.snaps.weaken hq,h.caps⟩
structure AskE where
 kind:Int
 set:ByteArray
 file:ByteArray
 to:ByteArray
 pos:Int
 num:Int
 bytes:List Int
def AskE.zero:AskE:=⟨0,ByteArray.empty,ByteArray.empty,ByteArray.empty,0,0,[]⟩
instance : Inhabited AskE:=⟨AskE.zero⟩
def AskE.ok (x:AskE):Prop:=(x.set.size≤maxLen∧x.file.size≤maxLen∧x.to.size≤maxLen)∧(-9223372036854775808≤x.kind∧x.kind≤9223372036854775807)∧(-9223372036854775808≤x.pos∧x.pos≤9223372036854775807)∧(-9223372036854775808≤x.num∧x.num≤9223372036854775807)
def AskE.val (x:AskE) (ba:Option Addr) (bn bc:Nat):Value:=.agg #[.int .i64 x.kind,.string x.set,.string x.file,.string x.to,.int .i64 x.pos,.int .i64 x.num,.slice ba bn bc]
structure AskAt (w:World) (b off:Nat) (x:AskE) (ba:Option Addr) (bn bc:Nat):Prop where
 c0:w.cell? ⟨b,off,none⟩=some (.int .i64 x.kind)
 c1:w.cell? ⟨b,off+1,none⟩=some (.string x.set)
 c2:w.cell? ⟨b,off+2,none⟩=some (.string x.file)
 c3:w.cell? ⟨b,off+3,none⟩=some (.string x.to)
 c4:w.cell? ⟨b,off+4,none⟩=some (.int .i64 x.pos)
 c5:w.cell? ⟨b,off+5,none⟩=some (.int .i64 x.num)
 c6:w.cell? ⟨b,off+6,none⟩=some (.slice ba bn bc)
 bytes:NumsAt (fun _=>True) .u8 w ba bn x.bytes
 ok:x.ok
 caps:bn≤bc
theorem AskAt.below {w w':World} {b off:Nat} {x:AskE} {ba:Option Addr} {bn bc:Nat} (h:AskAt w b off x ba bn bc) (hb:Below w.heap.size w w'):AskAt w' b off x ba bn bc:=by
 have hlt:=cell_lt h.c0
 exact⟨(hb.cell (p:=⟨b,off,none⟩) hlt).trans h.c0,(hb.cell (p:=⟨b,off+1,none⟩) hlt).trans h.c1,(hb.cell (p:=⟨b,off+2,none⟩) hlt).trans h.c2,(hb.cell (p:=⟨b,off+3,none⟩) hlt).trans h.c3,(hb.cell (p:=⟨b,off+4,none⟩) hlt).trans h.c4,(hb.cell (p:=⟨b,off+5,none⟩) hlt).trans h.c5,(hb.cell (p:=⟨b,off+6,none⟩) hlt).trans h.c6,h.bytes.below hb,h.ok,h.caps⟩
def AsksAt (w:World) (a:Option Addr) (n:Nat) (l:List AskE):Prop:=
 l.length=n∧(0<n→∃ b off,a=some ⟨b,off,none⟩∧b<w.heap.size∧∀ i,i<n→∃ ba bn bc,AskAt w b (off+i*7) (l.getD i AskE.zero) ba bn bc)
theorem AsksAt.below {w w':World} {a:Option Addr} {n:Nat} {l:List AskE} (h:AsksAt w a n l) (hb:Below w.heap.size w w'):AsksAt w' a n l:=by
 refine⟨h.1,fun hn=>?_⟩
 obtain⟨b,off,rfl,hlt,hc⟩:=h.2 hn
 refine⟨b,off,rfl,Nat.lt_of_lt_of_le hlt hb.size,fun i hi=>?_⟩
 obtain⟨ba,bn,bc,hs⟩:=hc i hi
 exact⟨ba,bn,bc,hs.below hb⟩
end Go.Proofs.YtjafgnohlkkopaaGreatDoor

namespace Go.Proofs.YtjafgnohlkkopaaGreatDoor
def Ent.nm (x:Ent):List UInt8:=x.name.data.toList
def SnapE.nm (x:SnapE):List UInt8:=x.name.data.toList
def isLetter (c:UInt8):Prop:=(97≤c∧c≤122)∨(48≤c∧c≤57)
def IsName (s:ByteArray):Prop:=1≤s.data.toList.length∧s.data.toList.length≤8∧∀ c∈s.data.toList,isLetter c
theorem bytes_eq {a b:ByteArray} (h:a.data.toList=b.data.toList):a=b:=by
 cases a; cases b
 simp only[ByteArray.mk.injEq]
 exact Array.toList_inj.1 h
def InOrder (l:List Ent):Prop:=l.Pairwise fun a b=>a.nm<b.nm
def SnapsInOrder (l:List SnapE):Prop:=l.Pairwise fun a b=>a.nm<b.nm
theorem ordered_one {α:Type} (f:α→List UInt8) {l:List α} (h:l.Pairwise fun a b=>f a<f b) {x y:α} (hx:x∈l) (hy:y∈l) (e:f x=f y):x=y:=by
 induction l with
 | nil=>simp at hx
 | cons z l ih=>
   rw[List.pairwise_cons] at h
   rcases List.mem_cons.1 hx with e1 | h1
   ·rcases List.mem_cons.1 hy with e2 | h2
    ·rw[e1,e2]
    ·have:=h.1 y h2
     rw[←e1,e] at this
     exact absurd this (List.lt_irrefl _)
   ·rcases List.mem_cons.1 hy with e2 | h2
    ·have:=h.1 x h1
     rw[←e2,e] at this
     exact absurd this (List.lt_irrefl _)
    ·exact ih h.2 h1 h2
def rootsE (l:List Ent):List Int:=l.map (·.root)
def rootsS (l:List SnapE):List Int:=l.flatMap fun s=>rootsE s.files
def rootsX (x:SetE):List Int:=rootsE x.files++rootsS x.snaps
theorem rootsE_append (l m:List Ent):rootsE (l++m)=rootsE l++rootsE m:=List.map_append
theorem rootsS_append (l m:List SnapE):rootsS (l++m)=rootsS l++rootsS m:=List.flatMap_append
theorem mem_rootsE {l:List Ent} {x:Int}:x∈rootsE l↔∃ f∈l,f.root=x:=by simp[rootsE]
structure FilesOk (n:Nat) (B:Nat→Blk) (key:Int) (l:List Ent):Prop where
 few:l.length≤6
 names:∀ x∈l,IsName x.name
 order:InOrder l
 files:∀ x∈l,FileOk n B key x.root x.size
structure SetOk (n:Nat) (B:Nat→Blk) (key:Int) (x:SetE):Prop where
 kb:0≤key∧key≤1000
 right:Right n B
 name:IsName x.name
 files:FilesOk n B key x.files
 fewS:x.snaps.length≤3
 namesS:∀ s∈x.snaps,IsName s.name
 orderS:SnapsInOrder x.snaps
 filesS:∀ s∈x.snaps,FilesOk n B key s.files
theorem FilesOk.stays {n:Nat} {B C:Nat→Blk} {key:Int} {l:List Ent} {L:List Int} (h:FilesOk n B key l) (hC:Right n C) (hs:Stays n B C L) (hl:∀ x∈l,x.root∈L):FilesOk n C key l:=
 ⟨h.few,h.names,h.order,fun x hx=>((h.files x hx).stays hC hs (hl x hx)).1⟩
theorem FileOk.rootBd {n:Nat} {B:Nat→Blk} {key r s:Int} (h:FileOk n B key r s):r=0∨(1≤r∧r≤n):=by
 rcases h.rooted with h0 | ⟨⟨h1,h2,_⟩,_⟩
 ·exact .inl h0
 ·exact .inr ⟨h1,h2⟩
theorem SetOk.rootBd {n:Nat} {B:Nat→Blk} {key:Int} {x:SetE} (h:SetOk n B key x):∀ r∈rootsX x,r=0∨(1≤r∧r≤n):=fun r hr=>by
 rcases List.mem_append.1 hr with hr | hr
 ·obtain⟨f,hf,rfl⟩:=mem_rootsE.1 hr
  exact(h.files.files f hf).rootBd
 ·obtain⟨s,hs,hr⟩:=List.mem_flatMap.1 hr
  obtain⟨f,hf,rfl⟩:=mem_rootsE.1 hr
  exact((h.filesS s hs).files f hf).rootBd
end Go.Proofs.YtjafgnohlkkopaaGreatDoor

namespace Go.Proofs.YtjafgnohlkkopaaGreatDoor
def entsX (x:SetE):List Ent:=x.files++x.snaps.flatMap (·.files)
theorem rootsX_eq (x:SetE):rootsX x=rootsE (entsX x):=by
 unfold rootsX entsX rootsS
 rw[rootsE_append]
 congr 1
 unfold rootsE
 rw[List.map_flatMap]
theorem SetOk.ents {n:Nat} {B:Nat→Blk} {key:Int} {x:SetE} (h:SetOk n B key x):∀ e∈entsX x,FileOk n B key e.root e.size:=fun e he=>by
 rcases List.mem_append.1 he with he | he
 ·exact h.files.files e he
 ·obtain⟨s,hs,he⟩:=List.mem_flatMap.1 he
  exact(h.filesS s hs).files e he
structure Shape (x:SetE):Prop where
 name:IsName x.name
 few:x.files.length≤6
 names:∀ e∈x.files,IsName e.name
 order:InOrder x.files
 fewS:x.snaps.length≤3
 namesS:∀ s∈x.snaps,IsName s.name
 orderS:SnapsInOrder x.snaps
 filesS:∀ s∈x.snaps,s.files.length≤6∧(∀ e∈s.files,IsName e.name)∧InOrder s.files
theorem SetOk.shape {n:Nat} {B:Nat→Blk} {key:Int} {x:SetE} (h:SetOk n B key x):Shape x:=
 ⟨h.name,h.files.few,h.files.names,h.files.order,h.fewS,h.namesS,h.orderS,fun s hs=>⟨(h.filesS s hs).few,(h.filesS s hs).names,(h.filesS s hs).order⟩⟩
theorem setOk_of {n:Nat} {B:Nat→Blk} {key:Int} {x:SetE} (hk:0≤key∧key≤1000) (hB:Right n B) (h:Shape x) (hf:∀ e∈entsX x,FileOk n B key e.root e.size):SetOk n B key x:=
 ⟨hk,hB,h.name,⟨h.few,h.names,h.order,fun e he=>hf e (List.mem_append_left _ he)⟩,h.fewS,h.namesS,h.orderS,fun s hs=>⟨(h.filesS s hs).1,(h.filesS s hs).2.1,(h.filesS s hs).2.2,fun e he=>hf e (List.mem_append_right _ (List.mem_flatMap.2 ⟨s,hs,he⟩))⟩⟩
theorem SetOk.bytes {n:Nat} {B C:Nat→Blk} {key:Int} {x:SetE} (h:SetOk n B key x) {L:List Int} (hC:Right n C) (hs:Stays n B C L) (hl:∀ r∈rootsX x,r∈L):SetOk n C key x∧∀ e∈entsX x,fileL key (leafAt C 3 e.root)=fileL key (leafAt B 3 e.root):=by
 have hm:∀ e∈entsX x,e.root∈L:=fun e he=>hl _ (by rw[rootsX_eq]; exact mem_rootsE.2 ⟨e,he,rfl⟩)
 exact⟨setOk_of h.kb hC h.shape fun e he=>((h.ents e he).stays hC hs (hm e he)).1,fun e he=>((h.ents e he).stays hC hs (hm e he)).2⟩
structure After (n:Nat) (key:Int) (B D:Nat→Blk) (x y:SetE):Prop where
 ok:SetOk n D key y
 held:HeldR n D (rootsX y)
 moved:Moved n B D (rootsX x) (rootsX y)
 same:∀ e∈entsX x,e∈entsX y→fileL key (leafAt D 3 e.root)=fileL key (leafAt B 3 e.root)
theorem after_of {n:Nat} {key:Int} {B C D:Nat→Blk} {x y:SetE} {K T:List Int} (hx:SetOk n B key x) (hh:HeldR n B (rootsX x)) (hg:Grow n B C K) (hD:Right n D) (hF:Fell n C D T)
 (hc:∀ r:Int,r≠0→(rootsX y).count r+T.count r=(rootsX x).count r+K.count r) (hy:Shape y) (hf:∀ e∈entsX y,FileOk n C key e.root e.size):After n key B D x y∧∀ e∈entsX y,fileL key (leafAt D 3 e.root)=fileL key (leafAt C 3 e.root):=by
 obtain⟨hm,hst⟩:=moved_of hx.right hh hg hD hF hc
 have hhd:=hm.held hh
 have hb:∀ r∈rootsX y,r=0∨(1≤r∧r≤n):=fun r hr=>by
  rw[rootsX_eq] at hr
  obtain⟨e,he,rfl⟩:=mem_rootsE.1 hr
  exact(hf e he).rootBd
 have hro:RootsOk n D (rootsX y):=held_roots hhd (fun _ h=>h) hb
 have hs:=stays_fell hD hF hro
 have hfd:=fun e (he:e∈entsX y)=>(hf e he).stays hD hs (by rw[rootsX_eq]; exact mem_rootsE.2 ⟨e,he,rfl⟩)
 refine⟨⟨setOk_of hx.kb hD hy fun e he=>(hfd e he).1,hhd,hm,fun e he he'=>?_⟩,fun e he=>(hfd e he).2⟩
 rw[(hfd e he').2]
 exact((hx.ents e he).ext hg.ext hg.right).2
theorem grow_files {n:Nat} {key:Int} {B C:Nat→Blk} {x:SetE} {K:List Int} (hx:SetOk n B key x) (hg:Grow n B C K):∀ e∈entsX x,FileOk n C key e.root e.size:=fun e he=>((hx.ents e he).ext hg.ext hg.right).1
theorem ordered_insert {α:Type} {f:α→List UInt8} {l:List α} (h:l.Pairwise fun a b=>f a<f b) {p:Nat} {x:α} (h1:∀ y∈l.take p,f y<f x) (h2:∀ y∈l.drop p,f x<f y):(l.take p++x::l.drop p).Pairwise fun a b=>f a<f b:=by
 rw[List.pairwise_append,List.pairwise_cons]
 refine⟨h.sublist (List.take_sublist _ _),⟨h2,h.sublist (List.drop_sublist _ _)⟩,fun a ha b hb=>?_⟩
 rcases List.mem_cons.1 hb with rfl | hb
 ·exact h1 a ha
 ·exact List.lt_trans (h1 a ha) (h2 b hb)
theorem ordered_erase {α:Type} {f:α→List UInt8} {l:List α} (h:l.Pairwise fun a b=>f a<f b) (p:Nat):(l.eraseIdx p).Pairwise fun a b=>f a<f b:=h.sublist (List.eraseIdx_sublist _ _)
theorem ordered_set {α:Type} {f:α→List UInt8} {l:List α} (h:l.Pairwise fun a b=>f a<f b) {p:Nat} (hp:p<l.length) {x:α} (e:f x=f l[p]):(l.set p x).Pairwise fun a b=>f a<f b:=by
 rw[List.pairwise_iff_getElem] at h ⊢
 intro i j hi hj hij
 simp only[List.length_set] at hi hj
 have:=h i j hi hj hij
 simp only[List.getElem_set]
 by_cases e1:p=i
 ·subst e1
  rw[if_pos rfl,if_neg (by omega),e]
  exact this
 ·rw[if_neg e1]
  by_cases e2:p=j
  ·subst e2; rw[if_pos rfl,e]; exact this
  ·rw[if_neg e2]; exact this
theorem count_insert {l:List Ent} (p:Nat) (x:Ent) (r:Int):(rootsE (l.take p++x::l.drop p)).count r=(rootsE l).count r+[x.root].count r:=by
 have e:rootsE l=rootsE (l.take p)++rootsE (l.drop p):=by rw[←rootsE_append,List.take_append_drop]
 rw[e,rootsE_append]
 show (rootsE (l.take p)++x.root::rootsE (l.drop p)).count r=_
 simp only[List.count_append,List.count_cons,List.count_nil]
 omega
theorem count_erase {l:List Ent} {p:Nat} (hp:p<l.length) (r:Int):(rootsE (l.eraseIdx p)).count r+[(l[p]).root].count r=(rootsE l).count r:=by
 have e:l=l.take p++l[p]::l.drop (p+1):=by rw[List.getElem_cons_drop,List.take_append_drop]
 have e2:rootsE l=rootsE (l.take p)++(l[p].root::rootsE (l.drop (p+1))):=by
  conv=>lhs; rw[e]
  rw[rootsE_append]; rfl
 rw[List.eraseIdx_eq_take_drop_succ,rootsE_append,e2]
 simp only[List.count_append,List.count_cons,List.count_nil]
 omega
theorem count_set {l:List Ent} {p:Nat} (hp:p<l.length) (x:Ent) (r:Int):(rootsE (l.set p x)).count r+[(l[p]).root].count r=(rootsE l).count r+[x.root].count r:=by
 have e:l=l.take p++l[p]::l.drop (p+1):=by rw[List.getElem_cons_drop,List.take_append_drop]
 have e2:rootsE l=rootsE (l.take p)++(l[p].root::rootsE (l.drop (p+1))):=by
  conv=>lhs; rw[e]
  rw[rootsE_append]; rfl
 rw[List.set_eq_take_append_cons_drop,if_pos hp,rootsE_append,e2]
 show (rootsE (l.take p)++x.root::rootsE (l.drop (p+1))).count r+_=_
 simp only[List.count_append,List.count_cons,List.count_nil]
 omega
end Go.Proofs.YtjafgnohlkkopaaGreatDoor
