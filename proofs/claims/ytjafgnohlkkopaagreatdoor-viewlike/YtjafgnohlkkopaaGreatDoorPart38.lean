/-
  VwC, VldB, VwD, VwE, VldC in one text. Nothing here is trusted.
-/
import Derived.Test.YtjafgnohlkkopaaGreatDoorPart37
import Derived.Test.YtjafgnohlkkopaaGreatDoorPart34
import Derived.Test.YtjafgnohlkkopaaGreatDoorPart35
import Derived.Test.YtjafgnohlkkopaaGreatDoorPart36
set_option linter.unusedVariables false
namespace Go.Proofs.YtjafgnohlkkopaaGreatDoor
open Go.RowKit
def askW:AskE:=⟨13,⟨#[]⟩,⟨#[]⟩,⟨#[]⟩,0,0,[]⟩
theorem askW_ok:askW.ok:=by
 have:(0:Nat)≤maxLen:=Nat.zero_le _
 refine⟨⟨this,this,this⟩,?_⟩
 unfold askW
 simp
theorem askW_nums (w:World):NumsAt (fun _=>True) .u8 w none 0 askW.bytes:=⟨rfl,fun x hx=>by simp[askW] at hx,fun h=>absurd h (by omega)⟩
theorem case_usesW {n:Nat} {B D:Nat→Blk} {l l':List TenE} {i:Nat} {t:TenE} {e1 N:Int} (h:DoCase n B l i t askW D l' e1 N):e1=0∧Uses B (rootsT t) N:=by
 have hk:askW.kind=13:=rfl
 cases h with
 | uses N _ h=>exact⟨rfl,h⟩
 | _=>first | omega | (simp only[Other] at *; omega)
theorem line2_any (B b:Nat) (l:List UInt8) (s1 s2:ByteArray) (w:World) (hb:Bld B b l w) (hBw:B≤w.heap.size) (hlen:l.length+(lineL [s1,s2]).length≤1000000000):
 Calls Tryz.prog 41 #[.slice (some ⟨w.heap.size,0,none⟩) 2 2,.pointer (some ⟨b,0,none⟩)] (w.alloc (.cells #[.string s1,.string s2] 9)) fun e w'=>e=.returned (.tuple #[])∧Bld B b (l++lineL [s1,s2]) w'∧Below B w w'∧Lib.OthersKept 5 (some b) w w':=by
 have bz:=below_alloc w (.cells #[.string s1,.string s2] 9)
 refine(line_any B b l w.heap.size 0 2 [s1,s2] _ (hb.below bz) (Nat.le_trans hBw bz.size) (fun j x hj=>?_) (by simp) (by simp) (by simp) hlen).mono ?_
 ·have:=(cellsAt_alloc w #[.string s1,.string s2] 9).cell j
  rw[Nat.zero_add,this]
  match j,hj with
  | 0,hj=>simp at hj; subst hj; rfl
  | 1,hj=>simp at hj; subst hj; rfl
  | j+2,hj=>simp at hj
 ·rintro e w' ⟨rfl,h1,h2,h3⟩
  exact⟨rfl,h1,(bz.mono hBw).trans h2,(others_below bz).trans h3⟩
theorem line4_any (B b:Nat) (l:List UInt8) (s1 s2 s3 s4:ByteArray) (w:World) (hb:Bld B b l w) (hBw:B≤w.heap.size) (hlen:l.length+(lineL [s1,s2,s3,s4]).length≤1000000000):
 Calls Tryz.prog 41 #[.slice (some ⟨w.heap.size,0,none⟩) 4 4,.pointer (some ⟨b,0,none⟩)] (w.alloc (.cells #[.string s1,.string s2,.string s3,.string s4] 9)) fun e w'=>e=.returned (.tuple #[])∧Bld B b (l++lineL [s1,s2,s3,s4]) w'∧Below B w w'∧Lib.OthersKept 5 (some b) w w':=by
 have bz:=below_alloc w (.cells #[.string s1,.string s2,.string s3,.string s4] 9)
 refine(line_any B b l w.heap.size 0 4 [s1,s2,s3,s4] _ (hb.below bz) (Nat.le_trans hBw bz.size) (fun j x hj=>?_) (by simp) (by simp) (by simp) hlen).mono ?_
 ·have:=(cellsAt_alloc w #[.string s1,.string s2,.string s3,.string s4] 9).cell j
  rw[Nat.zero_add,this]
  match j,hj with
  | 0,hj=>simp at hj; subst hj; rfl
  | 1,hj=>simp at hj; subst hj; rfl
  | 2,hj=>simp at hj; subst hj; rfl
  | 3,hj=>simp at hj; subst hj; rfl
  | j+4,hj=>simp at hj
 ·rintro e w' ⟨rfl,h1,h2,h3⟩
  exact⟨rfl,h1,(bz.mono hBw).trans h2,(others_below bz).trans h3⟩
def snapW (B:Nat→Blk) (key:Int) (s:SnapE):List UInt8:=lineL [⟨#[32,97,116]⟩,s.name]++filesW ⟨#[32,32]⟩ key B s.files
def snapsW (B:Nat→Blk) (key:Int) (l:List SnapE):List UInt8:=l.flatMap (snapW B key)
def setW (B:Nat→Blk) (key:Int) (x:SetE):List UInt8:=lineL [⟨#[115,101,116]⟩,x.name]++filesW ⟨#[32]⟩ key B x.files++snapsW B key x.snaps
def setsW (B:Nat→Blk) (key:Int) (l:List SetE):List UInt8:=l.flatMap (setW B key)
def lastW (N quota:Int):List UInt8:=lineL [⟨#[117,115,101,115]⟩,itoaB N,⟨#[111,102]⟩,itoaB quota]
def printL (B:Nat→Blk) (t:TenE) (N:Int):List UInt8:=setsW B t.key t.sets++lastW N t.quota
theorem lineL2_len (a b:ByteArray):(lineL [a,b]).length=a.size+b.size+2:=by
 unfold lineL
 rw[List.length_append,List.map_cons,List.map_cons,List.map_nil,Lib.join_cons]
 simp only[Lib.joinTail,List.map_cons,List.map_nil,List.flatten_cons,List.flatten_nil,List.length_append,List.length_cons,List.length_nil,ba_len]
 omega
theorem lineL4_len (a b c d:ByteArray):(lineL [a,b,c,d]).length=a.size+b.size+c.size+d.size+4:=by
 unfold lineL
 rw[List.length_append,List.map_cons,List.map_cons,List.map_cons,List.map_cons,List.map_nil,Lib.join_cons]
 simp only[Lib.joinTail,List.map_cons,List.map_nil,List.flatten_cons,List.flatten_nil,List.length_append,List.length_cons,List.length_nil,ba_len]
 omega
theorem name_size {s:ByteArray} (h:IsName s):s.size≤8:=by rw[←ba_len]; exact h.2.1
theorem snapW_len {n:Nat} {B:Nat→Blk} {key:Int} {s:SnapE} (hn:IsName s.name) (hf:∀ f∈s.files,FileOk n B key f.root f.size∧f.name.size≤8) (h6:s.files.length≤6):(snapW B key s).length≤10000:=by
 unfold snapW
 rw[List.length_append,lineL2_len]
 have h1:=filesW_len (n:=n) (B:=B) (key:=key) (ahead:=⟨#[32,32]⟩) (by decide) s.files hf
 have h2:=name_size hn
 have h3:(ByteArray.mk #[32,97,116]).size=3:=rfl
 omega
theorem flatW_len {α:Type} {g:α→List UInt8} {m:Nat}:∀ (l:List α),(∀ x∈l,(g x).length≤m)→(l.flatMap g).length≤l.length*m
 | [],_=>by simp
 | x::l,h=>by
   have h1:=flatW_len l (fun y hy=>h y (List.mem_cons_of_mem _ hy))
   have h2:=h x List.mem_cons_self
   rw[List.flatMap_cons,List.length_append,List.length_cons,Nat.add_mul]
   omega
theorem SetOk.fileOk {n:Nat} {B:Nat→Blk} {key:Int} {x:SetE} (h:SetOk n B key x):∀ f∈x.files,FileOk n B key f.root f.size∧f.name.size≤8:=fun f hf=>⟨h.files.files f hf,name_size (h.shape.names f hf)⟩
theorem SetOk.snapFileOk {n:Nat} {B:Nat→Blk} {key:Int} {x:SetE} (h:SetOk n B key x) {s:SnapE} (hs:s∈x.snaps):∀ f∈s.files,FileOk n B key f.root f.size∧f.name.size≤8:=fun f hf=>⟨(h.filesS s hs).files f hf,name_size ((h.filesS s hs).names f hf)⟩
theorem snapsW_len {n:Nat} {B:Nat→Blk} {key:Int} {x:SetE} (h:SetOk n B key x) (l:List SnapE) (hl:∀ s∈l,s∈x.snaps):(snapsW B key l).length≤l.length*10000:=
 flatW_len l fun s hs=>snapW_len (h.shape.namesS s (hl s hs)) (h.snapFileOk (hl s hs)) (h.filesS s (hl s hs)).few
theorem setW_len {n:Nat} {B:Nat→Blk} {key:Int} {x:SetE} (h:SetOk n B key x):(setW B key x).length≤50000:=by
 unfold setW
 rw[List.length_append,List.length_append,lineL2_len]
 have h1:=filesW_len (n:=n) (B:=B) (key:=key) (ahead:=⟨#[32]⟩) (by decide) x.files h.fileOk
 have h2:=snapsW_len h x.snaps (fun _ h=>h)
 have h3:=name_size h.shape.name
 have h4:(ByteArray.mk #[115,101,116]).size=3:=rfl
 have h5:=h.shape.few
 have h6:=h.shape.fewS
 omega
theorem setsW_len {n:Nat} {B:Nat→Blk} {key:Int} (l:List SetE) (h:∀ x∈l,SetOk n B key x):(setsW B key l).length≤l.length*50000:=flatW_len l fun x hx=>setW_len (h x hx)
theorem flat_snoc {α:Type} (g:α→List UInt8) {l:List α} {j:Nat} (hj:j<l.length):(l.take (j+1)).flatMap g=(l.take j).flatMap g++g l[j]:=by
 rw[List.take_add_one,List.getElem?_eq_getElem hj,List.flatMap_append]
 congr 1
 simp
theorem usesW_bd {n:Nat} {B:Nat→Blk} {l:List TenE} {t:TenE} {N:Int} (h:PoolOk n B l) (ht:t∈l) (hU:Uses B (rootsT t) N):0≤N∧N≤400:=by
 obtain⟨m,⟨M,m1,m2,rfl⟩,hm⟩:=h.uses t ht
 obtain⟨L,l1,l2,rfl⟩:=hU
 rw[rising_eq l1 m1 (fun x=>(l2 x).trans (m2 x).symm)]
 have:=(h.tens t ht).qb
 omega
def RetPr (e:Ending) (n:Nat) (B:Nat→Blk) (tn:Nat) (l:List TenE) (i:Int):Prop:=
 (∃ e':Int,e=.returned (.tuple #[.string ⟨#[]⟩,.int .i64 e'])∧e'≠0∧¬(PoolOk n B l∧0≤i∧i<(tn:Int)))∨
 (∃ (k:Nat) (t:TenE) (N:Int),i=(k:Int)∧l[k]? =some t∧PoolOk n B l∧Uses B (rootsT t) N∧e=.returned (.tuple #[.string ⟨(printL B t N).toArray⟩,.int .i64 0]))
end Go.Proofs.YtjafgnohlkkopaaGreatDoor

namespace Go.Proofs.YtjafgnohlkkopaaGreatDoor
open Go.RowKit
def hi:List Int:=[104,105]
theorem hiS:Small hi:=by
 have ho:overN 1 B0 (askWr hi) 0 0=hi:=by
  unfold overN
  rw[leafAt_B0']
  decide +kernel
 refine⟨fun x hx=>?_,by decide,ho,?_⟩
 ·simp only[hi,List.mem_cons,List.not_mem_nil,or_false] at hx
  omega
 ·rw[leafAt_B0']
  decide +kernel
theorem uses_ge4 {n:Nat} {D:Nat→Blk} {R:List Int} {q r:Int} (hR:Right n D) (h:Uses D R q) (hrR:r∈R) (hr:Root n D 3 r) (h0:leafAt D 3 r 0≠[]):4≤q:=by
 obtain⟨L,l1,l2,rfl⟩:=h
 have e0:leafAt D 3 r 0=bytesL D ((kidsL D ((kidsL D ((kidsL D r).getD 0 0)).getD 0 0)).getD 0 0):=by
  simp only[leafAt,pw]
 rw[e0] at h0
 generalize hb:(kidsL D r).getD 0 0=b at *
 generalize hc:(kidsL D b).getD 0 0=c at *
 generalize hd:(kidsL D c).getD 0 0=d at *
 have d0:d≠0:=fun f=>by rw[f] at h0; exact h0 (by simp[bytesL])
 have c0:c≠0:=fun f=>by rw[f,kidsL_zero] at hd; exact d0 hd.symm
 have b0:b≠0:=fun f=>by rw[f,kidsL_zero] at hc; exact c0 hc.symm
 have r0:r≠0:=fun f=>by rw[f,kidsL_zero] at hb; exact b0 hb.symm
 have step:∀ (x y:Int) (i:Nat),x≠0→There n D x→(kidsL D x).getD i 0=y→y≠0→y∈(D (x-1).toNat).kids∧There n D y∧(D (y-1).toNat).level=(D (x-1).toNat).level-1:=by
  intro x y i hx0 hx hy hy0
  unfold kidsL at hy
  rw[if_neg hx0] at hy
  have hm:y∈(D (x-1).toNat).kids:=by
   rw[List.getD_eq_getElem?_getD] at hy
   cases hg:(D (x-1).toNat).kids[i]? with
   | none=>rw[hg] at hy; exact absurd hy.symm hy0
   | some z=>rw[hg] at hy; obtain rfl:z=y:=hy; exact List.mem_of_getElem? hg
  have:=(hR.one (x-1).toNat (by have:=hx.1; have:=hx.2.1; omega)).kids y hm
  rcases this with f | ⟨f1,f2⟩
  ·exact absurd f hy0
  ·exact⟨hm,f1,f2⟩
 rcases hr with f | ⟨tr,lr⟩
 ·exact absurd f r0
 obtain⟨mb,tb,lb⟩:=step r b 0 r0 tr hb b0
 obtain⟨mc,tc,lc⟩:=step b c 0 b0 tb hc c0
 obtain⟨md,td,ld⟩:=step c d 0 c0 tc hd d0
 have cr:Clo D R r:=Clo.root hrR r0
 have cb:=cr.kid mb b0
 have cc:=cb.kid mc c0
 have cd:=cc.kid md d0
 have:=sub_len [r,b,c,d] L (by
  simp only[List.nodup_cons,List.mem_cons,List.not_mem_nil,or_false,not_or,List.nodup_nil,and_true,not_false_eq_true]
  refine⟨⟨?_,?_,?_⟩,⟨?_,?_⟩,?_⟩<;>(intro f; subst f; omega)) (fun x hx=>by
  simp only[List.mem_cons,List.not_mem_nil,or_false] at hx
  rcases hx with rfl | rfl | rfl | rfl
  ·exact(l2 _).2 cr
  ·exact(l2 _).2 cb
  ·exact(l2 _).2 cc
  ·exact(l2 _).2 cd)
 simp only[List.length_cons,List.length_nil] at this
 omega
theorem uses_four {D:Nat→Blk} {r N:Int} (hok:PoolOk 110 D (l2 8 r hi.length)) (hf:fileL 1 (leafAt D 3 r)=padTo hi) (hu:usedTo D 110≤4) (h:Uses D (rootsT ⟨1,8,[x1 r hi.length]⟩) N):N=4:=by
 have ht:=hok.tens ⟨1,8,[x1 r hi.length]⟩ (by simp)
 have h1:=uses_most hok.right ht.rootsOk h
 have hfo:=(ht.sets (x1 r hi.length) (by simp)).files.files ⟨nF,r,hi.length⟩ (by simp)
 have c0:=chunk_fileL 1 (leafAt D 3 r) (i:=0) (by omega) (hfo.leaf04 0 (by omega))
 rw[hf] at c0
 have d0:chunk (padTo hi) 0=[104,105,0,0]:=by decide +kernel
 rw[d0] at c0
 have h2:=uses_ge4 hok.right h (r:=r) (by simp[rootsT,rootsL,rootsX,rootsE]) hfo.rooted (fun f=>by rw[f,plain_nil] at c0; exact absurd c0 (by decide))
 omega
theorem uses_none {D:Nat→Blk} {k q N:Int} (h:Uses D (rootsT ⟨k,q,[]⟩) N):N=0:=by
 obtain⟨L,_,h2,rfl⟩:=h
 have:L=[]:=by
  cases L with
  | nil=>rfl
  | cons x L=>exact(Clo.nil ((h2 x).1 List.mem_cons_self)).elim
 rw[this]
 rfl
theorem itoa_one (k:Nat) (h:k<10):itoaB (k:Int)=⟨#[UInt8.ofNat (48+k)]⟩:=by
 unfold itoaB
 rw[Lib.itoa_nonneg,Lib.decDigits_one h]
theorem print_hi {D:Nat→Blk} {r:Int} (hf:fileL 1 (leafAt D 3 r)=padTo hi):printL D ⟨1,8,[x1 r hi.length]⟩ 4=[115,101,116,32,97,10,32,102,32,50,32,54,56,54,57,10,117,115,101,115,32,52,32,111,102,32,56,10]:=by
 have e1:readL (fileL 1 (leafAt D 3 r)) ((hi.length:Int)).toNat 0 ((hi.length:Int)).toNat=hi:=by rw[hf]; decide +kernel
 have e2:itoaB ((hi.length:Nat):Int)=⟨#[50]⟩:=itoa_one 2 (by omega)
 have e3:itoaB 4=⟨#[52]⟩:=itoa_one 4 (by omega)
 have e4:itoaB 8=⟨#[56]⟩:=itoa_one 8 (by omega)
 unfold printL setsW lastW
 simp only[List.flatMap_cons,List.flatMap_nil,setW,snapsW,filesW,fileW,List.append_nil,e1,e2,e3,e4]
 decide +kernel
theorem print_u {D:Nat→Blk} {k q N:Int}:∃ l,printL D ⟨k,q,[]⟩ N=117::l:=⟨_,rfl⟩
end Go.Proofs.YtjafgnohlkkopaaGreatDoor

namespace Go.Proofs.YtjafgnohlkkopaaGreatDoor
open Go.RowKit
theorem fresh_bld (w:World):Bld w.heap.size w.heap.size [] (w.alloc (.cells #[.pointer none,.slice none 0 0] 95)):=Lib.IsBuilderF.of (Lib.fresh_isBuilder _ _ w)
set_option maxHeartbeats 8000000 in
set_option maxRecDepth 100000 in
theorem print_any (Q:Nat→Prop) (pa:Option Addr) (n c:Nat) (B:Nat→Blk) (ta:Option Addr) (tn tc:Nat) (l:List TenE) (i:Int) (w:World) (hP:PoolAt Q w pa n B ta tn l) (htab:Lib.TabIs Tryz.prog w tabN .u64 Lib.pow10Tab):
 Calls Tryz.prog 23 #[.agg #[.slice pa n c,.slice ta tn tc],.int .i64 i] w fun e w'=>RetPr e n B tn l i∧Below w.heap.size w w':=by
 have b0:=hid (below_alloc w (.cells #[.slice pa n c,.slice ta tn tc] 27))
 have k0:Hid (CellsAt _ w.heap.size #[.slice pa n c,.slice ta tn tc] 27):=hid (cellsAt_alloc w _ _)
 have hP0:=hid (hP.below b0.out)
 have ht0:=hid (tab_below htab b0.out)
 clear hP htab
 go_enter Tryz.func23,Tryz.ntmps23
 go_upto_region 1 with fail
 generalize w.alloc (.cells #[.slice pa n c,.slice ta tn tc] 27)=w0 at *
 have p0:=k0.out.cell 0
 have p1:=k0.out.cell 1
 simp at p0 p1
 go_wp2_with fail
 refine(pdo_any Q pa n c B ta tn tc l i askW none 0 0 w0 hP0.out askW_ok (askW_nums _)).mono ?_
 rintro e w1 ⟨hret,b1⟩
 clear p0 p1
 replace b0:=hid (Below.tr b0.out b1)
 replace k0:=hid (k0.out.below b1)
 replace hP0:=hid (hP0.out.below b1)
 replace ht0:=hid (tab_below ht0.out b1)
 clear b1
 unfold RetPD at hret
 rcases hret with⟨e', rfl,hne,hno⟩ | ⟨hok,k,t,rfl,ht,e1,N,ya,yn,yc,y,ln,lc,g,D,l', ua,uc,rfl,hc,hPD⟩
 ·have hbe:(e' == 0)=false:=by simp[hne]
  have b2:=hid (Below.tr (below_alloc w1 (.cells #[.slice none 0 0,.slice none 0 0] 27)) (below_alloc _ (.cells #[.int .i64 0,.int .i64 0,.slice none 0 0,.slice none 0 0] 41)))
  replace hno:=hid hno
  go_wp2_with fail
  go_ret2
  exact⟨.inl ⟨e', rfl,hne,hno.out⟩,Below.tr b0.out b2.out⟩
 obtain⟨rfl,hU⟩:=case_usesW hc
 replace hU:=hid hU
 replace hok:=hid hok
 replace ht:=hid ht
 clear hc hPD
 have b2:=hid (Below.tr (below_alloc w1 (.cells #[.slice (some ⟨g,0,none⟩) n n,.slice ua tn uc] 27)) (below_alloc _ (.cells #[.int .i64 0,.int .i64 N,.slice ya yn yc,.slice y ln lc] 41)))
 have k7:=hid (cellsAt_alloc2 w1 (.cells #[.slice (some ⟨g,0,none⟩) n n,.slice ua tn uc] 27) #[.int .i64 0,.int .i64 N,.slice ya yn yc,.slice y ln lc] 41)
 go_upto_region 4 with fail
 have hz2:Hid (((w1.alloc (.cells #[.slice (some ⟨g,0,none⟩) n n,.slice ua tn uc] 27)).alloc (.cells #[.int .i64 0,.int .i64 N,.slice ya yn yc,.slice y ln lc] 41)).heap.size=w1.heap.size+1+1):=hid (by simp)
 generalize (w1.alloc (.cells #[.slice (some ⟨g,0,none⟩) n n,.slice ua tn uc] 27)).alloc (.cells #[.int .i64 0,.int .i64 N,.slice ya yn yc,.slice y ln lc] 41)=w2 at *
 replace b0:=hid (Below.tr b0.out b2.out)
 replace k0:=hid (k0.out.below b2.out)
 replace hP0:=hid (hP0.out.below b2.out)
 replace ht0:=hid (tab_below ht0.out b2.out)
 clear b2
 obtain⟨hkl,hkt⟩:=List.getElem?_eq_some_iff.1 ht.out
 have hkn:k<tn:=by rw[←hP0.out.tens.1]; exact hkl
 obtain⟨xb,xo,hta⟩:∃ b off,ta=some ⟨b,off,none⟩:=by
  obtain⟨b,off,e,_⟩:=hP0.out.tens.2 (by omega)
  exact⟨b,off,e⟩
 subst hta
 obtain⟨sa,sn,sc,hTI⟩:=hP0.out.tens.ten hkn
 have hgd:l.getD k TenE.zero=t:=by rw[←hkt]; simp[List.getD,hkl]
 rw[hgd] at hTI
 have hTo:=hok.out.tens t (List.mem_of_getElem? ht.out)
 have c0:=hTI.c0
 have c1:=hTI.c1
 have c2:=hTI.c2
 have hSe:=hid hTI.ok.sets
 have p1:=k0.out.cell 1
 simp at p1
 have hk0:(0:Int)≤(k:Int):=by omega
 have hk1:(k:Int)<(tn:Int):=by omega
 have hq4:=hid hTo.qb
 replace hTo:=hid hTo
 clear hTI hgd hkt
 have b3:=hid (below_alloc w2 (.cells #[.int .i64 t.key,.int .i64 t.quota,.slice sa sn sc] 64))
 have kO:=hid (cellsAt_alloc w2 #[.int .i64 t.key,.int .i64 t.quota,.slice sa sn sc] 64)
 go_upto_region 5 with fail
 clear c0 c1 c2 p1
 have hz3:Hid ((w2.alloc (.cells #[.int .i64 t.key,.int .i64 t.quota,.slice sa sn sc] 64)).heap.size=w2.heap.size+1):=hid (by simp)
 generalize w2.alloc (.cells #[.int .i64 t.key,.int .i64 t.quota,.slice sa sn sc] 64)=W at *
 replace b0:=hid (Below.tr b0.out b3.out)
 replace k0:=hid (k0.out.below b3.out)
 replace k7:=hid (k7.out.below b3.out)
 replace hP0:=hid (hP0.out.below b3.out)
 replace hSe:=hid (hSe.out.below b3.out)
 replace ht0:=hid (tab_below ht0.out b3.out)
 clear b3
 have hV0:Hid (VE W ((W.alloc (.cells #[.pointer none,.slice none 0 0] 95)).alloc (.cells #[.func (.func 41) #[] #[.pointer (some ⟨W.heap.size,0,none⟩)]] 102)) W.heap.size (W.heap.size+1) []):=hid (by
  have k:=cellsAt_alloc2 W (.cells #[.pointer none,.slice none 0 0] 95) #[.func (.func 41) #[] #[.pointer (some ⟨W.heap.size,0,none⟩)]] 102
  exact⟨Below.tr (below_alloc _ _) (below_alloc _ _),(fresh_bld W).below (below_alloc _ _),k,by omega⟩)
 have lO:=hid kO.out.lt
 have l7:=hid k7.out.lt
 go_upto_region 8 with fail
 generalize (W.alloc (.cells #[.pointer none,.slice none 0 0] 95)).alloc (.cells #[.func (.func 41) #[] #[.pointer (some ⟨W.heap.size,0,none⟩)]] 102)=w8 at *
 have q2:=(kO.out.below hV0.out.bel).cell 2
 simp at q2
 go_wp2_with fail
 clear q2
 have hsn3:sn≤3:=by rw[←hSe.out.1]; exact hTo.out.few
 go_loopw [38] (fun v wr=>∃ j:Nat,j≤sn∧v=.int .i64 j∧VE W wr W.heap.size (W.heap.size+1) (setsW B t.key (t.sets.take j))) (fun v _=>sn-(Go.RowKit.intOf v).toNat)
 case atStart=>exact⟨0,Nat.zero_le _,rfl,by simpa [setsW] using hV0.out⟩
 case round=>
  clear hV0
  obtain⟨j,hj,rfl,hV⟩:=hrel
  replace hV:=hid hV
  by_cases hlt:j<sn
  ·obtain⟨rb,ro,hsa⟩:∃ b off,sa=some ⟨b,off,none⟩:=by
    obtain⟨b,off,e,_⟩:=hSe.out.2 (by omega)
    exact⟨b,off,e⟩
   generalize hsaa:sa=sa' at *
   subst hsa
   obtain⟨v,hI⟩:=hSe.out.set hlt
   have hjl:j<t.sets.length:=by rw[hSe.out.1]; exact hlt
   have hgd:t.sets.getD j SetE.zero=t.sets[j]:=by simp[List.getD,hjl]
   rw[hgd] at hI
   have hx:=hid (hTo.out.sets _ (List.getElem_mem hjl))
   have hLl:=hid (setsW_len (n:=n) (B:=B) (key:=t.key) (t.sets.take j) (fun x hx=>hTo.out.sets x (List.mem_of_mem_take hx)))
   have hLj:Hid ((t.sets.take j).length≤3):=hid (by rw[List.length_take]; omega)
   have htk:Hid (setsW B t.key (t.sets.take (j+1))=setsW B t.key (t.sets.take j)++setW B t.key t.sets[j]):=hid (flat_snoc _ hjl)
   clear hgd
   generalize t.sets[j]=x at *
   generalize setsW B t.key (t.sets.take j)=L at *
   have hIr:=hI.below hV.out.bel
   have r0:=hIr.c0
   have r1:=hIr.c1
   have r2:=hIr.c2
   have hnm:=hid hI.ok.name
   have hFi:=hid hI.ok.files
   have hSp:=hid hI.ok.snaps
   clear hI hIr
   have hj0:(0:Int)≤(j:Int):=by omega
   have hj1:(j:Int)<(sn:Int):=by omega
   have bA:=hid (below_alloc wr (.cells #[.string v.name,.slice v.fa v.fn v.fc,.slice v.sa v.sn v.sc] 84))
   have kX:=hid (cellsAt_alloc wr #[.string v.name,.slice v.fa v.fn v.fc,.slice v.sa v.sn v.sc] 84)
   have nX:Hid (wr.heap.size≠W.heap.size):=hid (by have:=hV.out.bld.lt; omega)
   go_upto_region 11 with fail
   clear r0 r1 r2
   generalize wr.alloc (.cells #[.string v.name,.slice v.fa v.fn v.fc,.slice v.sa v.sn v.sc] 84)=w5 at *
   have hV5:=hid (hV.out.below bA.out)
   have x0:=kX.out.cell 0
   have l0:=hV5.out.fn.cell 0
   simp at x0 l0
   have hlen1:Hid (L.length+(lineL [⟨#[115,101,116]⟩,v.name]).length≤1000000000):=hid (by
    have:=hLl.out
    have:=hLj.out
    have h8:=name_size hx.out.shape.name
    have h4:(ByteArray.mk #[115,101,116]).size=3:=rfl
    rw[lineL2_len,hnm.out]
    omega)
   go_wp2_with fail
   refine(line2_any W.heap.size W.heap.size L ⟨#[115,101,116]⟩ v.name w5 hV5.out.bld hV5.out.bel.size hlen1.out).mono ?_
   rintro e w6 ⟨rfl,hB6,b6,o6⟩
   have hV6:=hid (hV5.out.wrote hB6 b6 o6)
   replace kX:=hid (others_cells o6 kX.out nX.out (by decide))
   clear x0 l0 hB6 b6 o6
   have x1:=kX.out.cell 1
   simp at x1
   have hl6:Hid ((L++lineL [⟨#[115,101,116]⟩,v.name]).length≤200000):=hid (by
    have:=hLl.out
    have:=hLj.out
    have h8:=name_size hx.out.shape.name
    have h4:(ByteArray.mk #[115,101,116]).size=3:=rfl
    rw[List.length_append,lineL2_len,hnm.out]
    omega)
   have hfn:v.fn≤6:=by rw[←hFi.out.1]; exact hx.out.shape.few
   have hsp3:v.sn≤3:=by rw[←hSp.out.1]; exact hx.out.shape.fewS
   go_wp2_with fail
   refine(files_any W Q pa n c B w.heap.size w2.heap.size _ _ _ t.key v.fa v.fn v.fc x.files ⟨#[32]⟩ W.heap.size (W.heap.size+1) _ w6 hP0.out.store k0.out kO.out hFi.out hx.out.fileOk hfn (by decide) ht0.out hV6.out (by have:=hl6.out; omega)).mono ?_
   rintro e w7 ⟨rfl,hV7,o7⟩
   replace hV7:=hid hV7
   replace kX:=hid (others_cells o7 kX.out nX.out (by decide))
   have hl7:Hid ((L++lineL [⟨#[115,101,116]⟩,v.name]++filesW ⟨#[32]⟩ t.key B x.files).length≤210000):=hid (by
    have h1:=filesW_len (n:=n) (B:=B) (key:=t.key) (ahead:=⟨#[32]⟩) (by decide) x.files hx.out.fileOk
    have h2:=hx.out.shape.few
    have:=hl6.out
    rw[List.length_append]
    omega)
   clear x1 hV6 o7
   have x2:=kX.out.cell 2
   simp at x2
   go_wp2_with fail
   clear x2
   go_loopw [54] (fun u wq=>∃ m:Nat,m≤v.sn∧u=.int .i64 m∧VE W wq W.heap.size (W.heap.size+1) (L++lineL [⟨#[115,101,116]⟩,v.name]++filesW ⟨#[32]⟩ t.key B x.files++snapsW B t.key (x.snaps.take m))) (fun u _=>v.sn-(Go.RowKit.intOf u).toNat)
   case atStart=>exact⟨0,Nat.zero_le _,rfl,by simpa [snapsW] using hV7.out⟩
   case round=>
    clear hV7 hV hV5 kX bA
    obtain⟨m,hm,rfl,hV⟩:=hrel
    replace hV:=hid hV
    by_cases hmt:m<v.sn
    ·obtain⟨pb,po,hpa⟩:∃ b off,v.sa=some ⟨b,off,none⟩:=by
      obtain⟨b,off,e,_⟩:=hSp.out.2 (by omega)
      exact⟨b,off,e⟩
     generalize hvs:v.sa=vsa at *
     subst hpa
     obtain⟨fa,fn,fc,hN⟩:=hSp.out.snap hmt
     have hml:m<x.snaps.length:=by rw[hSp.out.1]; exact hmt
     have hgd:x.snaps.getD m SnapE.zero=x.snaps[m]:=by simp[List.getD,hml]
     rw[hgd] at hN
     have hsm:=hid (List.getElem_mem hml)
     have htm:Hid (snapsW B t.key (x.snaps.take (m+1))=snapsW B t.key (x.snaps.take m)++snapW B t.key x.snaps[m]):=hid (flat_snoc _ hml)
     have hLm:=hid (snapsW_len hx.out (x.snaps.take m) (fun s hs=>List.mem_of_mem_take hs))
     have hLk:Hid ((x.snaps.take m).length≤3):=hid (by rw[List.length_take]; omega)
     clear hgd
     generalize x.snaps[m]=z at *
     have hNr:=hN.below hV.out.bel
     have r0:=hNr.c0
     have r1:=hNr.c1
     have hFz:=hid hN.files
     clear hN hNr
     have hm0:(0:Int)≤(m:Int):=by omega
     have hm1:(m:Int)<(v.sn:Int):=by omega
     have bZ:=hid (below_alloc wr (.cells #[.string z.name,.slice fa fn fc] 113))
     have kZ:=hid (cellsAt_alloc wr #[.string z.name,.slice fa fn fc] 113)
     have nZ:Hid (wr.heap.size≠W.heap.size):=hid (by have:=hV.out.bld.lt; omega)
     go_upto_region 16 with fail
     clear r0 r1
     generalize wr.alloc (.cells #[.string z.name,.slice fa fn fc] 113)=w10 at *
     have hV10:=hid (hV.out.below bZ.out)
     have x0:=kZ.out.cell 0
     have l0:=hV10.out.fn.cell 0
     simp at x0 l0
     obtain⟨L8,hL8⟩:∃ L8,L8=L++lineL [⟨#[115,101,116]⟩,v.name]++filesW ⟨#[32]⟩ t.key B x.files++snapsW B t.key (x.snaps.take m):=⟨_,rfl⟩
     have hl8:Hid (L8.length≤300000):=hid (by
      have:=hl7.out
      have:=hLm.out
      have:=hLk.out
      rw[hL8,List.length_append]
      omega)
     rw[←hL8] at hV10
     replace hL8:=hid hL8
     have hl9:Hid ((L8++lineL [⟨#[32,97,116]⟩,z.name]).length≤400000):=hid (by
      have:=hl8.out
      have h8:=name_size (hx.out.shape.namesS z hsm.out)
      have h4:(ByteArray.mk #[32,97,116]).size=3:=rfl
      rw[List.length_append,lineL2_len]
      omega)
     go_wp2_with fail
     refine(line2_any W.heap.size W.heap.size L8 ⟨#[32,97,116]⟩ z.name w10 hV10.out.bld hV10.out.bel.size (by have:=hl9.out; rw[List.length_append] at this; omega)).mono ?_
     rintro e w11 ⟨rfl,hB11,b11,o11⟩
     have hV11:=hid (hV10.out.wrote hB11 b11 o11)
     replace kZ:=hid (others_cells o11 kZ.out nZ.out (by decide))
     clear x0 l0 hB11 b11 o11
     have x1:=kZ.out.cell 1
     simp at x1
     have hfz:=hx.out.filesS z hsm.out
     have hfn6:fn≤6:=by rw[←hFz.out.1]; exact hfz.few
     replace hfz:=hid hfz
     go_wp2_with fail
     refine(files_any W Q pa n c B w.heap.size w2.heap.size _ _ _ t.key fa fn fc z.files ⟨#[32,32]⟩ W.heap.size (W.heap.size+1) _ w11 hP0.out.store k0.out kO.out hFz.out (hx.out.snapFileOk hsm.out) hfn6 (by decide) ht0.out hV11.out (by have:=hl9.out; omega)).mono ?_
     rintro e w12 ⟨rfl,hV12,o12⟩
     replace hV12:=hid hV12
     clear x1 o12 kZ hV11 hV10
     go_wp2_with fail
     go_roundw
     case rel=>exact⟨m+1,by omega,by go_num,by
      have:=hV12.out
      rw[hL8.out] at this
      rw[htm.out]
      unfold snapW
      simpa only[List.append_assoc] using this⟩
     case measure=>simp[Go.RowKit.intOf]; omega
    ·obtain rfl:m=v.sn:=by omega
     have hta:x.snaps.take v.sn=x.snaps:=List.take_of_length_le (by rw[hSp.out.1]; omega)
     rw[hta] at hV
     go_wp2_with fail
     go_roundw
     case rel=>exact⟨j+1,by omega,by go_num,by
      have:=hV.out
      rw[htk.out]
      unfold setW
      rw[hnm.out] at this
      simpa only[List.append_assoc] using this⟩
     case measure=>simp[Go.RowKit.intOf]; omega
  ·obtain rfl:j=sn:=by omega
   have hta:t.sets.take j=t.sets:=List.take_of_length_le (by rw[hSe.out.1]; omega)
   rw[hta] at hV
   have hLl:=hid (setsW_len (n:=n) (B:=B) (key:=t.key) t.sets hTo.out.sets)
   have hN4:=usesW_bd hok.out (List.mem_of_getElem? ht.out) hU.out
   have hlen:Hid ((setsW B t.key t.sets).length+(lineL [⟨#[117,115,101,115]⟩,itoaB N,⟨#[111,102]⟩,itoaB t.quota]).length≤1000000000):=hid (by
    have:=hLl.out
    have:=hTo.out.few
    have h1:=itoa_len N hN4.1 (by omega)
    have h2:=itoa_len t.quota hq4.out.1 (by have:=hq4.out.2; omega)
    have h4:(ByteArray.mk #[117,115,101,115]).size=4:=rfl
    have h5:(ByteArray.mk #[111,102]).size=2:=rfl
    rw[lineL4_len]
    omega)
   have q1:=(kO.out.below hV.out.bel).cell 1
   have u1:=(k7.out.below hV.out.bel).cell 1
   have l0:=hV.out.fn.cell 0
   simp at q1 u1 l0
   have hTd:Hid (∀ w', Below wr.heap.size wr w'→Lib.TabIs Tryz.prog w' tabN .u64 Lib.pow10Tab):=hid (fun w' b=>tab_below ht0.out (hV.out.bel.trans (b.mono hV.out.bel.size)))
   have hTd1:=hid (hTd.out _ (below_drew _ _))
   have lO2:=hid (Nat.lt_of_lt_of_le lO.out hV.out.bel.size)
   have l72:=hid (Nat.lt_of_lt_of_le l7.out hV.out.bel.size)
   have lF:=hid hV.out.fn.lt
   have hq0:=hq4.out.1
   have hq1:t.quota≤1000000:=by have:=hq4.out.2; omega
   have hN0:=hN4.1
   have hN1:N≤1000000:=by omega
   have neO:Hid (w2.heap.size≠W.heap.size∧64≠5):=hid ⟨by have:=lO.out; omega,by decide⟩
   have ne7:Hid (w1.heap.size+1≠W.heap.size∧41≠5):=hid ⟨by have:=l7.out; omega,by decide⟩
   have neF:Hid (102≠5):=hid (by decide)
   clear hN4
   go_upto_region 20 with fail
   go_region_held3 (fun w'=>w'.cell? ⟨W.heap.size+1,0,none⟩=some (.func (.func 41) #[] #[.pointer (some ⟨W.heap.size,0,none⟩)])∧w'.cell? ⟨w1.heap.size+1,1,none⟩=some (.int .i64 N)∧w'.cell? ⟨w2.heap.size,1,none⟩=some (.int .i64 t.quota)) (first | go_keep | assumption) (first | (go_at_call 47; refine Calls.mono (itoa_any N hN0 hN1 wr.drew hTd1.out) ?_; rintro e w7 ⟨rfl,b7⟩; replace b7:Below wr.heap.size wr w7:=(below_drew _ _).trans b7; have s0:=(b7.cell (p:=⟨W.heap.size+1,0,none⟩) lF.out).trans l0; have s1:=(b7.cell (p:=⟨w1.heap.size+1,1,none⟩) l72.out).trans u1; have s2:=(b7.cell (p:=⟨w2.heap.size,1,none⟩) lO2.out).trans q1; have hTd2:=hid (hTd.out _ b7); replace b7:=hid b7) | (go_at_call 47; refine Calls.mono (itoa_any t.quota hq0 hq1 w7 hTd2.out) ?_; rintro e w8 ⟨rfl,b8⟩; replace b8:Below wr.heap.size wr w8:=Below.tr b7.out b8; have s0':=(b8.cell (p:=⟨W.heap.size+1,0,none⟩) lF.out).trans l0; have s1':=(b8.cell (p:=⟨w1.heap.size+1,1,none⟩) l72.out).trans u1; have s2':=(b8.cell (p:=⟨w2.heap.size,1,none⟩) lO2.out).trans q1; have n1:W.heap.size+1≠w8.heap.size:=(by have:=b8.size; have:=lF.out; omega); have n1':=n1.symm; have n2:w1.heap.size+1≠w8.heap.size:=(by have:=b8.size; have:=l72.out; omega); have n2':=n2.symm; have n3:w2.heap.size≠w8.heap.size:=(by have:=b8.size; have:=lO2.out; omega); have n3':=n3.symm; have hB8:=hid (hV.out.bld.below b8); have hz8:=hid b8.size; replace b8:=hid b8) | (go_at_call 41; with_reducible refine Calls.mono (line4_any W.heap.size W.heap.size _ _ _ _ _ w8 hB8.out ?_ hlen.out) ?_; exact Nat.le_trans hV.out.bel.size hz8.out; rintro e w9 ⟨rfl,hB9,b9,o9⟩; have K1:=others_cells o9 ((hV.out.below b8.out).fn) hV.out.ne neF.out; have K2:=others_cells o9 ((k7.out.below hV.out.bel).below b8.out) ne7.out.1 ne7.out.2; have K3:=others_cells o9 ((kO.out.below hV.out.bel).below b8.out) neO.out.1 neO.out.2; have s0q:=K1.cell 0; have s1q:=K2.cell 1; have s2q:=K3.cell 1; simp only[List.getElem?_toArray,List.getElem?_cons_zero,List.getElem?_cons_succ] at s0q s1q s2q; clear K1 K2 K3; replace hB9:=hid hB9; replace b9:=hid b9; replace o9:=hid o9))
   all_goals (
    go_wp2_with fail
    refine(Tryz.Builder_String_any_k W.heap.size W.heap.size _ w9 hB9.out (by have:=hV.out.bel.size; have:=b8.out.size; have:=b9.out.size; omega)).mono ?_
    rintro e w10 ⟨rfl,_,b10,_⟩
    go_wp2_with fail
    go_ret2
    refine⟨.inr ⟨k,t,N,rfl,ht.out,hok.out,hU.out,rfl⟩,?_⟩
    have hWs:=b0.out.size
    exact(b0.out.trans (hV.out.bel.mono hWs)).trans ((b8.out.mono (by have:=hV.out.bel.size; omega)).trans ((b9.out.mono hWs).trans (b10.mono hWs))))
end Go.Proofs.YtjafgnohlkkopaaGreatDoor

namespace Go.Proofs.YtjafgnohlkkopaaGreatDoor
open Go.RowKit
theorem str_same (a b:List UInt8):((ByteArray.mk a.toArray).toList == (ByteArray.mk b.toArray).toList)=decide (a=b):=by
 rw[ByteArray.toList_eq,ByteArray.toList_eq]
 show (a.toArray.toList == b.toArray.toList)=_
 rw[List.toList_toArray,List.toList_toArray]
 by_cases h:a=b
 ·subst h; simp
 ·simp[h]
def HasT (n:Nat) (B:Nat→Blk) (tn:Nat) (l:List TenE) (i:Int):Prop:=PoolOk n B l∧0≤i∧i<(tn:Int)
def RetAl (e:Ending) (n:Nat) (B:Nat→Blk) (tn:Nat) (l:List TenE) (n':Nat) (D:Nat→Blk) (un:Nat) (m:List TenE) (i:Int):Prop:=
 (∃ e':Int,e=.returned (.tuple #[.bool false,.int .i64 e'])∧e'≠0∧¬(HasT n B tn l i∧HasT n' D un m i))∨
 (∃ (k:Nat) (t u:TenE) (N M:Int),i=(k:Int)∧l[k]? =some t∧m[k]? =some u∧HasT n B tn l i∧HasT n' D un m i∧Uses B (rootsT t) N∧Uses D (rootsT u) M∧e=.returned (.tuple #[.bool (decide (printL B t N=printL D u M)),.int .i64 0]))
theorem hasT_of {Q:Nat→Prop} {w:World} {pa:Option Addr} {n:Nat} {B:Nat→Blk} {ta:Option Addr} {tn:Nat} {l:List TenE} {k:Nat} {t:TenE} (hP:PoolAt Q w pa n B ta tn l) (hok:PoolOk n B l) (ht:l[k]? =some t):HasT n B tn l (k:Int):=by
 obtain⟨h,_⟩:=List.getElem?_eq_some_iff.1 ht
 have:=hP.tens.1
 exact⟨hok,by omega,by omega⟩
set_option maxHeartbeats 4000000 in
set_option maxRecDepth 100000 in
theorem alike_any (Q R:Nat→Prop) (pa:Option Addr) (n c:Nat) (B:Nat→Blk) (ta:Option Addr) (tn tc:Nat) (l:List TenE) (qa:Option Addr) (n' c':Nat) (D:Nat→Blk) (ua:Option Addr) (un uc:Nat) (m:List TenE) (i:Int) (w:World) (hP:PoolAt Q w pa n B ta tn l) (hD:PoolAt R w qa n' D ua un m) (htab:Lib.TabIs Tryz.prog w tabN .u64 Lib.pow10Tab):
 Calls Tryz.prog 10 #[.agg #[.slice pa n c,.slice ta tn tc],.agg #[.slice qa n' c', .slice ua un uc],.int .i64 i] w fun e w'=>RetAl e n B tn l n' D un m i∧Below w.heap.size w w':=by
 have b0:=hid (below_two w (.cells #[.slice pa n c,.slice ta tn tc] 27) (.cells #[.slice qa n' c', .slice ua un uc] 27))
 have k0:Hid (CellsAt _ w.heap.size #[.slice pa n c,.slice ta tn tc] 27):=hid ((cellsAt_alloc w _ _).below (below_alloc _ (.cells #[.slice qa n' c', .slice ua un uc] 27)))
 have k1:=hid (cellsAt_alloc2 w (.cells #[.slice pa n c,.slice ta tn tc] 27) #[.slice qa n' c', .slice ua un uc] 27)
 have hP0:=hid (hP.below b0.out)
 have hD0:=hid (hD.below b0.out)
 have ht0:=hid (tab_below htab b0.out)
 clear hP hD htab
 go_enter Tryz.func10,Tryz.ntmps10
 go_upto_region 1 with fail
 generalize (w.alloc (.cells #[.slice pa n c,.slice ta tn tc] 27)).alloc (.cells #[.slice qa n' c', .slice ua un uc] 27)=w0 at *
 have p0:=k0.out.cell 0
 have p1:=k0.out.cell 1
 simp at p0 p1
 go_wp2_with fail
 refine(print_any Q pa n c B ta tn tc l i w0 hP0.out ht0.out).mono ?_
 rintro e w1 ⟨hr,b1⟩
 clear p0 p1
 replace k1:=hid (k1.out.below b1)
 replace hP0:=hid (hP0.out.below b1)
 replace hD0:=hid (hD0.out.below b1)
 replace ht0:=hid (tab_below ht0.out b1)
 replace b0:=hid (Below.tr b0.out b1)
 clear b1
 unfold RetPr at hr
 rcases hr with⟨e', rfl,hne,hno⟩ | ⟨k,t,N,rfl,ht,hok,hU,rfl⟩
 ·have hbe:(e' == 0)=false:=by simp[hne]
  replace hno:=hid hno
  go_wp2_with fail
  go_ret2
  exact⟨.inl ⟨e', rfl,hne,fun f=>hno.out f.1⟩,b0.out⟩
 have hH:=hid (hasT_of hP0.out hok ht)
 replace ht:=hid ht
 replace hok:=hid hok
 replace hU:=hid hU
 have p0:=k1.out.cell 0
 have p1:=k1.out.cell 1
 simp at p0 p1
 generalize hs1:(ByteArray.mk (printL B t N).toArray)=s1 at *
 replace hs1:=hid hs1
 go_wp2_with fail
 refine(print_any R qa n' c' D ua un uc m k w1 hD0.out ht0.out).mono ?_
 rintro e w2 ⟨hr,b2⟩
 clear p0 p1
 replace b0:=hid (Below.tr b0.out b2)
 clear b2
 unfold RetPr at hr
 rcases hr with⟨e', rfl,hne,hno⟩ | ⟨k', u,M,hk', hu,hok', hU', rfl⟩
 ·have hbe:(e' == 0)=false:=by simp[hne]
  replace hno:=hid hno
  go_wp2_with fail
  go_ret2
  exact⟨.inl ⟨e', rfl,hne,fun f=>hno.out f.2⟩,b0.out⟩
 obtain rfl:k=k':=by omega
 have hH':=hid (hasT_of hD0.out hok' hu)
 replace hu:=hid hu
 replace hU':=hid hU'
 clear hk'
 generalize hs2:(ByteArray.mk (printL D u M).toArray)=s2 at *
 replace hs2:=hid hs2
 go_wp2_with fail
 go_ret2
 refine⟨.inr ⟨k,t,u,N,M,rfl,ht.out,hu.out,hH.out,hH'.out,hU.out,hU'.out,?_⟩,b0.out⟩
 rw[←str_same,hs1.out,hs2.out]
 rfl
end Go.Proofs.YtjafgnohlkkopaaGreatDoor

namespace Go.Proofs.YtjafgnohlkkopaaGreatDoor
open Go.RowKit
abbrev twoC (h:Nat):Array Value:=#[.int .i64 1,.string ⟨#[97]⟩,.string ⟨#[]⟩,.string ⟨#[]⟩,.int .i64 0,.int .i64 0,.slice none 0 0,.int .i64 3,.string ⟨#[97]⟩,.string ⟨#[102]⟩,.string ⟨#[]⟩,.int .i64 0,.int .i64 0,.slice (some ⟨h+1,0,none⟩) 2 2]
abbrev twoW (w:World):World:=((w.alloc (.cells #[.int .i64 0,.int .i64 0] 3)).alloc (.cells #[.int .u8 104,.int .u8 105] 5 (2,3))).alloc (.cells (twoC w.heap.size) 30)
theorem asks2 (w:World):NumsAt (fun _=>True) .i64 (twoW w) (some ⟨w.heap.size,0,none⟩) 2 [0,0]∧AsksAt (twoW w) (some ⟨w.heap.size+1+1,0,none⟩) 2 [ask1,askWr hi]∧Below w.heap.size w (twoW w):=by
 have ba:=below_alloc w (.cells #[.int .i64 0,.int .i64 0] 3)
 have bb:=below_alloc (w.alloc (.cells #[.int .i64 0,.int .i64 0] 3)) (.cells #[.int .u8 104,.int .u8 105] 5 (2,3))
 have bd:=below_alloc ((w.alloc (.cells #[.int .i64 0,.int .i64 0] 3)).alloc (.cells #[.int .u8 104,.int .u8 105] 5 (2,3))) (.cells (twoC w.heap.size) 30)
 have k0:=((cellsAt_alloc w #[.int .i64 0,.int .i64 0] 3).below bb).below bd
 have n1:=(lit_mark (w.alloc (.cells #[.int .i64 0,.int .i64 0] 3)) [104,105] 5 (2,3) (by decide)).below bd
 have k3:=cellsAt_alloc ((w.alloc (.cells #[.int .i64 0,.int .i64 0] 3)).alloc (.cells #[.int .u8 104,.int .u8 105] 5 (2,3))) (twoC w.heap.size) 30
 simp only[szB,List.length_cons,List.length_nil] at n1 k3
 have nz:NumsAt (fun _=>True) .u8 (twoW w) none 0 []:=⟨rfl,fun x hx=>(by cases hx),fun h=>absurd h (by omega)⟩
 refine⟨⟨rfl,fun x hx=>?_,fun _=>⟨w.heap.size,0,rfl,k0.lt,trivial,fun i hi=>?_⟩⟩,⟨rfl,fun _=>⟨w.heap.size+1+1,0,rfl,k3.lt,fun i hi=>?_⟩⟩,Below.tr (Below.tr ba bb) bd⟩
 ·simp only[List.mem_cons,List.not_mem_nil,or_false] at hx
  rcases hx with rfl | rfl<;>decide
 ·match i,hi with
  | 0,_=>exact k0.cell 0
  | 1,_=>exact k0.cell 1
 ·match i,hi with
  | 0,_=>exact⟨none,0,0,k3.cell 0,k3.cell 1,k3.cell 2,k3.cell 3,k3.cell 4,k3.cell 5,k3.cell 6,nz,okA _ _ _ _ (by decide) (by decide) (by decide) (by decide) (by decide),Nat.le_refl _⟩
  | 1,_=>exact⟨_,2,2,k3.cell 7,k3.cell 8,k3.cell 9,k3.cell 10,k3.cell 11,k3.cell 12,k3.cell 13,n1,okA _ _ _ _ (by decide) (by decide) (by decide) (by decide) (by decide),Nat.le_refl _⟩
set_option maxHeartbeats 8000000 in
set_option maxRecDepth 100000 in
theorem viewed_any (w:World) (htab:Lib.TabIs Tryz.prog w tabN .u64 Lib.pow10Tab):Calls Tryz.prog 11 #[] w fun e w'=>e=.returned (.bool true)∧Below w.heap.size w w':=by
 replace htab:=hid htab
 go_enter Tryz.func11,Tryz.ntmps11
 go_wp2_with fail
 refine(twoOf_any 8 (by decide) (by decide) w).mono ?_
 rintro e w1 ⟨⟨a,c,ta,tc,rfl,hP⟩,b1⟩
 have bA:=hid (below_alloc w1 (.cells #[.slice a 110 c,.slice ta 2 tc] 27))
 have kA:Hid (CellsAt _ w1.heap.size #[.slice a 110 c,.slice ta 2 tc] 27):=hid (cellsAt_alloc w1 _ _)
 replace hP:=hid (hP.below bA.out)
 replace b1:=hid (Below.tr b1 bA.out)
 go_upto_region 4 with fail
 generalize w1.alloc (.cells #[.slice a 110 c,.slice ta 2 tc] 27)=w2 at *
 have p0:=kA.out.cell 0
 have p1:=kA.out.cell 1
 simp only[List.getElem?_toArray,List.getElem?_cons_zero,List.getElem?_cons_succ] at p0 p1
 have kc:=Joins.run_convert_bytes_const_at (P:=Tryz.prog) (w2.alloc (.cells #[.int .i64 0,.int .i64 0] 3)) 28 5 #[.int .u8 104,.int .u8 105] 2 2 (w2.heap.size+1) (by simp) Tryz.underlying28 Tryz.underlying5
 go_wp2_with fail
 obtain⟨hW,hA,b5⟩:=asks2 w2
 have hok0:PoolOk 110 B0 (l0 8):=ok_l0 (by decide) (by decide)
 refine(prun_any (fun _=>True) a 110 c B0 ta 2 tc (l0 8) _ 2 [0,0] _ 2 2 [ask1,askWr hi] (twoW w2) (hP.out.below b5) hok0 hW hA (by omega)).mono ?_
 rintro e w6 ⟨hret,b6⟩
 unfold RetRun at hret
 obtain⟨g,ta', tc', rb,D,l', v,ys,rfl,hPR,hAns,hokR,hruns,_,_⟩:=hret
 obtain⟨_,hu4,r,N1,N2,rfl,hfile,_⟩:=run2 hiS (by decide) hok0 D l' ys hruns
 have bB:=hid (below_alloc w6 (.cells #[.slice (some ⟨g,0,none⟩) 110 110,.slice ta' 2 tc'] 27))
 have kB:Hid (CellsAt _ w6.heap.size #[.slice (some ⟨g,0,none⟩) 110 110,.slice ta' 2 tc'] 27):=hid (cellsAt_alloc w6 _ _)
 have b26:=hid (Below.tr (Below.tr b5 b6) bB.out)
 replace hPR:=hid (hPR.below bB.out)
 replace hP:=hid (hP.out.below b26.out)
 replace kA:=hid (kA.out.below b26.out)
 replace b1:=hid (Below.tr b1.out b26.out)
 replace hokR:=hid hokR
 replace hfile:=hid hfile
 replace hu4:=hid hu4
 clear hruns hAns hW hA b5 b6 kc p0 p1 bA
 go_upto_region 5 with fail
 generalize w6.alloc (.cells #[.slice (some ⟨g,0,none⟩) 110 110,.slice ta' 2 tc'] 27)=w7 at *
 have q0:=kB.out.cell 0
 have q1:=kB.out.cell 1
 simp only[List.getElem?_toArray,List.getElem?_cons_zero,List.getElem?_cons_succ] at q0 q1
 go_wp2_with fail
 refine(print_any (fun _=>True) (some ⟨g,0,none⟩) 110 110 D ta' 2 tc' (l2 8 r hi.length) 0 w7 hPR.out (tab_below htab.out b1.out)).mono ?_
 rintro e w8 ⟨hret,b8⟩
 unfold RetPr at hret
 rcases hret with⟨e', _,_,hno⟩ | ⟨k,t,N,hk,ht,_,hU,rfl⟩
 ·exact absurd ⟨hokR.out,by decide,by decide⟩ hno
 obtain rfl:k=0:=by omega
 obtain rfl:t=⟨1,8,[x1 r hi.length]⟩:=by simpa using ht.symm
 obtain rfl:N=4:=uses_four hokR.out hfile.out hu4.out hU
 rw[print_hi hfile.out]
 replace hPR:=hid (hPR.out.below b8)
 replace hP:=hid (hP.out.below b8)
 replace kA:=hid (kA.out.below b8)
 replace kB:=hid (kB.out.below b8)
 replace b1:=hid (Below.tr b1.out b8)
 clear b8 q0 q1 ht hk
 have q0:=kB.out.cell 0
 have q1:=kB.out.cell 1
 have p0:=kA.out.cell 0
 have p1:=kA.out.cell 1
 simp only[List.getElem?_toArray,List.getElem?_cons_zero,List.getElem?_cons_succ] at q0 q1 p0 p1
 go_wp2_with fail
 refine(alike_any (fun _=>True) (fun _=>True) a 110 c B0 ta 2 tc (l0 8) (some ⟨g,0,none⟩) 110 110 D ta' 2 tc' (l2 8 r hi.length) 1 w8 hP.out hPR.out (tab_below htab.out b1.out)).mono ?_
 rintro e w9 ⟨hret,b9⟩
 unfold RetAl at hret
 rcases hret with⟨e', _,_,hno⟩ | ⟨k,t,u,N,M,hk,ht,hu,_,_,hU1,hU2,rfl⟩
 ·exact absurd ⟨⟨hok0,by decide,by decide⟩,⟨hokR.out,by decide,by decide⟩⟩ hno
 obtain rfl:k=1:=by omega
 obtain rfl:t=⟨2,10,[]⟩:=by simpa using ht.symm
 obtain rfl:u=⟨2,10,[]⟩:=by simpa using hu.symm
 obtain rfl:=uses_none hU1
 obtain rfl:=uses_none hU2
 have hd:decide (printL B0 ⟨2,10,[]⟩ 0=printL D ⟨2,10,[]⟩ 0)=true:=decide_eq_true rfl
 rw[hd]
 replace hPR:=hid (hPR.out.below b9)
 replace hP:=hid (hP.out.below b9)
 replace kA:=hid (kA.out.below b9)
 replace kB:=hid (kB.out.below b9)
 replace b1:=hid (Below.tr b1.out b9)
 clear b9 q0 q1 p0 p1 ht hu hk hd hU1 hU2
 have q0:=kB.out.cell 0
 have q1:=kB.out.cell 1
 have p0:=kA.out.cell 0
 have p1:=kA.out.cell 1
 simp only[List.getElem?_toArray,List.getElem?_cons_zero,List.getElem?_cons_succ] at q0 q1 p0 p1
 go_wp2_with fail
 refine(alike_any (fun _=>True) (fun _=>True) a 110 c B0 ta 2 tc (l0 8) (some ⟨g,0,none⟩) 110 110 D ta' 2 tc' (l2 8 r hi.length) 0 w9 hP.out hPR.out (tab_below htab.out b1.out)).mono ?_
 rintro e w10 ⟨hret,b10⟩
 unfold RetAl at hret
 rcases hret with⟨e', _,_,hno⟩ | ⟨k,t,u,N,M,hk,ht,hu,_,_,hU1,hU2,rfl⟩
 ·exact absurd ⟨⟨hok0,by decide,by decide⟩,⟨hokR.out,by decide,by decide⟩⟩ hno
 obtain rfl:k=0:=by omega
 obtain rfl:t=⟨1,8,[]⟩:=by simpa using ht.symm
 obtain rfl:u=⟨1,8,[x1 r hi.length]⟩:=by simpa using hu.symm
 obtain rfl:M=4:=uses_four hokR.out hfile.out hu4.out hU2
 have hd:decide (printL B0 ⟨1,8,[]⟩ N=printL D ⟨1,8,[x1 r hi.length]⟩ 4)=false:=decide_eq_false (by
  obtain⟨l,e⟩:=print_u (D:=B0) (k:=1) (q:=8) (N:=N)
  rw[e,print_hi hfile.out]
  intro f
  simp at f)
 rw[hd]
 replace b1:=hid (Below.tr b1.out b10)
 clear b10 q0 q1 p0 p1 ht hu hk hd hU1 hU2
 have hse:((ByteArray.mk ([115,101,116,32,97,10,32,102,32,50,32,54,56,54,57,10,117,115,101,115,32,52,32,111,102,32,56,10]:List UInt8).toArray).toList == (ByteArray.mk #[115,101,116,32,97,10,32,102,32,50,32,54,56,54,57,10,117,115,101,115,32,52,32,111,102,32,56,10]).toList)=true:=by simp
 go_wp2_with fail
 go_ret
 refine⟨?_,b1.out⟩
 first | rfl | simp
end Go.Proofs.YtjafgnohlkkopaaGreatDoor
