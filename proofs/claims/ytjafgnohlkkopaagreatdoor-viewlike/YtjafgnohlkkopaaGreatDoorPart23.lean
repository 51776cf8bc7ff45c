/-
  Chg, SetZ, Cop in one text. Nothing here is trusted.
-/
import Derived.Test.YtjafgnohlkkopaaGreatDoorPart19
import Derived.Test.YtjafgnohlkkopaaGreatDoorPart11
import Derived.Test.YtjafgnohlkkopaaGreatDoorPart13
import Derived.Test.YtjafgnohlkkopaaGreatDoorPart20
import Derived.Test.YtjafgnohlkkopaaGreatDoorPart21
import Derived.Test.YtjafgnohlkkopaaGreatDoorPart22
set_option linter.unusedVariables false
namespace Go.Proofs.YtjafgnohlkkopaaGreatDoor
open Go.RowKit
def overN (key:Int) (B:Nat→Blk) (a:AskE):Int→Int→List Int:=fun root size=>overL ((fileL key (leafAt B 3 root)).take size.toNat) a.pos.toNat a.bytes
def cutN (key:Int) (B:Nat→Blk) (a:AskE):Int→Int→List Int:=fun root _=>(fileL key (leafAt B 3 root)).take a.num.toNat
def okW (a:AskE):Prop:=0≤a.pos∧a.pos+(a.bytes.length:Int)≤256
def okC (x:SetE) (a:AskE):Prop:=(0≤a.num∧a.num≤256)∧∃ f∈x.files,f.nm=a.file.data.toList
def Wrote (n:Nat) (B C:Nat→Blk) (key:Int) (x:SetE) (nm:ByteArray) (N:Int→Int→List Int) (cc made:Int) (y:SetE):Prop:=
 ∃ root size,FileOk n B key root size∧TurnAt n B C key root (fileL key (leafAt B 3 root)) (padTo (N root size)) 64 made cc∧Turning x nm root size made ((N root size).length:Int) y
def NoRoom (n:Nat) (B:Nat→Blk) (key:Int) (x:SetE) (nm:ByteArray) (N:Int→Int→List Int):Prop:=∃ root size,Named x nm root size∧Tight n B (chg (fileL key (leafAt B 3 root)) (padTo (N root size)) 64)
def Removed (x:SetE) (a:AskE) (y:SetE):Prop:=∃ p,∃ h:p<x.files.length,x.files[p].nm=a.file.data.toList∧y={ x with files:=x.files.eraseIdx p }
def CanRename (x:SetE) (a:AskE):Prop:=(∃ f∈x.files,f.nm=a.file.data.toList)∧IsName a.to∧¬∃ f∈x.files,f.nm=a.to.data.toList
def Renamed (x:SetE) (a:AskE) (y:SetE):Prop:=∃ p q,∃ h:p<x.files.length,x.files[p].nm=a.file.data.toList∧(∀ e∈(x.files.eraseIdx p).take q,e.nm<a.to.data.toList)∧(∀ e∈(x.files.eraseIdx p).drop q,a.to.data.toList<e.nm)∧y={ x with files:=(x.files.eraseIdx p).take q++⟨a.to,x.files[p].root,x.files[p].size⟩::(x.files.eraseIdx p).drop q }
def CanSnap (x:SetE) (a:AskE):Prop:=IsName a.to∧(¬∃ s∈x.snaps,s.nm=a.to.data.toList)∧x.snaps.length<3
def Snapped (x:SetE) (a:AskE) (y:SetE):Prop:=∃ q,(∀ s∈x.snaps.take q,s.nm<a.to.data.toList)∧(∀ s∈x.snaps.drop q,a.to.data.toList<s.nm)∧y={ x with snaps:=x.snaps.take q++⟨a.to,x.files⟩::x.snaps.drop q }
def HasSnap (x:SetE) (a:AskE):Prop:=IsName a.to∧∃ s∈x.snaps,s.nm=a.to.data.toList
def Forgot (x:SetE) (a:AskE) (y:SetE):Prop:=∃ q,∃ h:q<x.snaps.length,x.snaps[q].nm=a.to.data.toList∧y={ x with snaps:=x.snaps.eraseIdx q }
def WentBack (x:SetE) (a:AskE) (y:SetE):Prop:=∃ q,∃ h:q<x.snaps.length,x.snaps[q].nm=a.to.data.toList∧y={ x with files:=x.snaps[q].files }
def Plain (x:SetE) (a:AskE) (y:SetE):Prop:=
 (a.kind=5∧Removed x a y)∨(a.kind=6∧CanRename x a∧Renamed x a y)∨(a.kind=7∧CanSnap x a∧Snapped x a y)∨(a.kind=8∧HasSnap x a∧Forgot x a y)∨(a.kind=9∧HasSnap x a∧WentBack x a y)
def ChgYes (n:Nat) (B C:Nat→Blk) (key:Int) (x:SetE) (a:AskE) (made:Int) (y:SetE) (cc:Int):Prop:=
 (a.kind=3∧IsName a.file∧okW a∧Wrote n B C key x a.file (overN key B a) cc made y)∨(a.kind=4∧IsName a.file∧okC x a∧Wrote n B C key x a.file (cutN key B a) cc made y)∨(Plain x a y∧C=B∧made=0)
def ChgNo (n:Nat) (B:Nat→Blk) (key:Int) (x:SetE) (a:AskE):Prop:=
 (a.kind=3→IsName a.file→okW a→((∃ f∈x.files,f.nm=a.file.data.toList)∨x.files.length<6)→NoRoom n B key x a.file (overN key B a))∧(a.kind=6→¬CanRename x a)∧(a.kind=7→¬CanSnap x a)∧(a.kind=8→¬HasSnap x a)∧(a.kind=9→¬HasSnap x a)
structure ErrIs (n:Nat) (B:Nat→Blk) (key:Int) (e:Int) (x:SetE) (a:AskE):Prop where
 write:a.kind=3→WrNo n B key x a.file (okW a) (fun e=>e=ovErr a.pos (a.bytes.length:Int)) (overN key B a) e
 cut:a.kind=4→WrNo n B key x a.file (okC x a) (CutNo x a.file) (cutN key B a) e
 remove:a.kind=5→e=5∧¬∃ f∈x.files,f.nm=a.file.data.toList
 rename:a.kind=6→RenNo x a.file a.to e
 snap:a.kind=7→SnapNo x a.to e
 old:a.kind=8∨a.kind=9→OldNo a.to e
 other:¬(3≤a.kind∧a.kind≤9)→e=4
theorem WrNo.room {n:Nat} {B:Nat→Blk} {key:Int} {x:SetE} {nm:ByteArray} {ok:Prop} {bad:Int→Prop} {N:Int→Int→List Int} {e:Int} (h:WrNo n B key x nm ok bad N e) (h1:IsName nm) (h2:ok) (h3:(∃ f∈x.files,f.nm=nm.data.toList)∨x.files.length<6):e=8∧NoRoom n B key x nm N:=by
 rcases h.2.2 h1 h2 with h | ⟨_,h4,h5⟩
 ·exact h
 ·rcases h3 with h3 | h3
  ·exact absurd h3 h4
  ·exact absurd h3 h5
theorem ErrIs.w8 {n:Nat} {B:Nat→Blk} {key e:Int} {x:SetE} {a:AskE} (h:ErrIs n B key e x a) (hk:a.kind=3) (h1:IsName a.file) (h2:okW a) (h3:(∃ f∈x.files,f.nm=a.file.data.toList)∨x.files.length<6):e=8:=((h.write hk).room h1 h2 h3).1
theorem errIs3 {n:Nat} {B:Nat→Blk} {key e:Int} {x:SetE} {a:AskE} (hk:a.kind=3) (h:WrNo n B key x a.file (okW a) (fun e=>e=ovErr a.pos (a.bytes.length:Int)) (overN key B a) e):ErrIs n B key e x a:=⟨fun _=>h,fun f=>by omega,fun f=>by omega,fun f=>by omega,fun f=>by omega,fun f=>by omega,fun f=>by omega⟩
theorem errIs4 {n:Nat} {B:Nat→Blk} {key e:Int} {x:SetE} {a:AskE} (hk:a.kind=4) (h:WrNo n B key x a.file (okC x a) (CutNo x a.file) (cutN key B a) e):ErrIs n B key e x a:=⟨fun f=>by omega,fun _=>h,fun f=>by omega,fun f=>by omega,fun f=>by omega,fun f=>by omega,fun f=>by omega⟩
theorem errIs5 {n:Nat} {B:Nat→Blk} {key e:Int} {x:SetE} {a:AskE} (hk:a.kind=5) (h:e=5∧¬∃ f∈x.files,f.nm=a.file.data.toList):ErrIs n B key e x a:=⟨fun f=>by omega,fun f=>by omega,fun _=>h,fun f=>by omega,fun f=>by omega,fun f=>by omega,fun f=>by omega⟩
theorem errIs6 {n:Nat} {B:Nat→Blk} {key e:Int} {x:SetE} {a:AskE} (hk:a.kind=6) (h:RenNo x a.file a.to e):ErrIs n B key e x a:=⟨fun f=>by omega,fun f=>by omega,fun f=>by omega,fun _=>h,fun f=>by omega,fun f=>by omega,fun f=>by omega⟩
theorem errIs7 {n:Nat} {B:Nat→Blk} {key e:Int} {x:SetE} {a:AskE} (hk:a.kind=7) (h:SnapNo x a.to e):ErrIs n B key e x a:=⟨fun f=>by omega,fun f=>by omega,fun f=>by omega,fun f=>by omega,fun _=>h,fun f=>by omega,fun f=>by omega⟩
theorem errIs8 {n:Nat} {B:Nat→Blk} {key e:Int} {x:SetE} {a:AskE} (hk:a.kind=8∨a.kind=9) (h:OldNo a.to e):ErrIs n B key e x a:=⟨fun f=>by omega,fun f=>by omega,fun f=>by omega,fun f=>by omega,fun f=>by omega,fun _=>h,fun f=>by omega⟩
theorem errIsO {n:Nat} {B:Nat→Blk} {key:Int} {x:SetE} {a:AskE} (hk:¬(3≤a.kind∧a.kind≤9)):ErrIs n B key 4 x a:=⟨fun f=>by omega,fun f=>by omega,fun f=>by omega,fun f=>by omega,fun f=>by omega,fun f=>by omega,fun _=>rfl⟩
theorem wrote_facts {n:Nat} {B C:Nat→Blk} {key:Int} {x y:SetE} {nm:ByteArray} {N:Int→Int→List Int} {cc made:Int} (hx:SetOk n B key x) (hn:IsName nm) (hN:∀ root size,(N root size).length≤256∧Bytes (N root size)) (h:Wrote n B C key x nm N cc made y):
 Grow n B C [made]∧(∀ k,k<n→(C k).refs≤cc+48)∧Shape y∧(∀ e∈entsX y,FileOk n C key e.root e.size)∧(∀ r:Int,(rootsX y).count r≤(rootsX x).count r+[made].count r)∧y.snaps=x.snaps:=by
 obtain⟨root,size,hok,hT,p,ht⟩:=h
 have hg:=hT.turned.grow
 have hs:=hx.shape
 have hF:=(hT.file hok (hN root size).1 (hN root size).2).1
 refine⟨hg,hT.turned.few,?_⟩
 rcases ht with⟨hp,_,_,_,rfl⟩ | ⟨_,_,_,h6,h1,h2,rfl⟩
 ·refine⟨⟨hs.name,by simpa using hs.few,fun e he=>?_,ordered_set hs.order hp rfl,hs.fewS,hs.namesS,hs.orderS,hs.filesS⟩,fun e he=>?_,fun r=>?_,rfl⟩
  ·rcases mem_set_or he with rfl | h
   ·exact hs.names x.files[p] (List.getElem_mem hp)
   ·exact hs.names e h
  ·rcases List.mem_append.1 he with h | h
   ·rcases mem_set_or h with rfl | h
    ·exact hF
    ·exact grow_files hx hg e (List.mem_append_left _ h)
   ·exact grow_files hx hg e (List.mem_append_right _ h)
  ·have:=count_set hp ⟨(x.files[p]).name,made,((N root size).length:Int)⟩ r
   have e:[(Ent.mk (x.files[p]).name made ((N root size).length:Int)).root].count r=[made].count r:=rfl
   rw[e] at this
   unfold rootsX
   simp only[List.count_append]
   omega
 ·refine⟨⟨hs.name,by show (_:Nat)≤6; rw[length_insert]; omega,fun e he=>?_,ordered_insert (f:=Ent.nm) hs.order h1 h2,hs.fewS,hs.namesS,hs.orderS,hs.filesS⟩,fun e he=>?_,fun r=>?_,rfl⟩
  ·rcases mem_insert.1 he with rfl | h
   ·exact hn
   ·exact hs.names e h
  ·rcases List.mem_append.1 he with h | h
   ·rcases mem_insert.1 h with rfl | h
    ·exact hF
    ·exact grow_files hx hg e (List.mem_append_left _ h)
   ·exact grow_files hx hg e (List.mem_append_right _ h)
  ·have:=count_insert (l:=x.files) p ⟨nm,made,((N root size).length:Int)⟩ r
   have e:[(Ent.mk nm made ((N root size).length:Int)).root].count r=[made].count r:=rfl
   rw[e] at this
   unfold rootsX
   simp only[List.count_append]
   omega
theorem length_rootsE (l:List Ent):(rootsE l).length=l.length:=by simp[rootsE]
theorem plain_facts {n:Nat} {B:Nat→Blk} {key:Int} {x y:SetE} {a:AskE} (hx:SetOk n B key x) (h:Plain x a y):
 Shape y∧(∀ e∈entsX y,FileOk n B key e.root e.size)∧(∀ r:Int,(rootsX y).count r≤(rootsX x).count r+6):=by
 have hs:=hx.shape
 rcases h with⟨_,p,hp,_,rfl⟩ | ⟨_,⟨_,hn,_⟩,p,q,hp,_,h1,h2,rfl⟩ | ⟨_,⟨hn,_,h3⟩,q,h1,h2,rfl⟩ | ⟨_,_,q,hq,_,rfl⟩ | ⟨_,_,q,hq,_,rfl⟩
 ·refine⟨⟨hs.name,Nat.le_trans (List.eraseIdx_sublist _ _).length_le hs.few,fun e he=>hs.names e ((List.eraseIdx_sublist _ _).subset he),ordered_erase hs.order p,hs.fewS,hs.namesS,hs.orderS,hs.filesS⟩,fun e he=>?_,fun r=>?_⟩
  ·rcases List.mem_append.1 he with h | h
   ·exact hx.ents e (List.mem_append_left _ ((List.eraseIdx_sublist _ _).subset h))
   ·exact hx.ents e (List.mem_append_right _ h)
  ·have:=count_erase hp r
   unfold rootsX
   simp only[List.count_append]
   omega
 ·have hmem:=List.getElem_mem hp
  refine⟨⟨hs.name,by show (_:Nat)≤6; rw[length_insert,List.length_eraseIdx,if_pos hp]; have:=hs.few; omega,fun e he=>?_,ordered_insert (f:=Ent.nm) (ordered_erase hs.order p) h1 h2,hs.fewS,hs.namesS,hs.orderS,hs.filesS⟩,fun e he=>?_,fun r=>?_⟩
  ·rcases mem_insert.1 he with rfl | h
   ·exact hn
   ·exact hs.names e ((List.eraseIdx_sublist _ _).subset h)
  ·rcases List.mem_append.1 he with h | h
   ·rcases mem_insert.1 h with rfl | h
    ·exact hx.ents x.files[p] (List.mem_append_left _ hmem)
    ·exact hx.ents e (List.mem_append_left _ ((List.eraseIdx_sublist _ _).subset h))
   ·exact hx.ents e (List.mem_append_right _ h)
  ·have:=count_erase hp r
   have h3:=count_insert (l:=x.files.eraseIdx p) q ⟨a.to,(x.files[p]).root,(x.files[p]).size⟩ r
   have e:[(Ent.mk a.to (x.files[p]).root (x.files[p]).size).root].count r=[(x.files[p]).root].count r:=rfl
   rw[e] at h3
   unfold rootsX
   simp only[List.count_append]
   omega
 ·refine⟨⟨hs.name,hs.few,hs.names,hs.order,by show (_:Nat)≤3; rw[length_insert]; omega,fun s hsm=>?_,ordered_insert (f:=SnapE.nm) hs.orderS h1 h2,fun s hsm=>?_⟩,fun e he=>?_,fun r=>?_⟩
  ·rcases mem_insert.1 hsm with rfl | h
   ·exact hn
   ·exact hs.namesS s h
  ·rcases mem_insert.1 hsm with rfl | h
   ·exact⟨hs.few,hs.names,hs.order⟩
   ·exact hs.filesS s h
  ·rcases List.mem_append.1 he with h | h
   ·exact hx.ents e (List.mem_append_left _ h)
   ·obtain⟨s,hsm,h⟩:=List.mem_flatMap.1 h
    rcases mem_insert.1 hsm with rfl | hsm
    ·exact hx.ents e (List.mem_append_left _ h)
    ·exact hx.ents e (List.mem_append_right _ (List.mem_flatMap.2 ⟨s,hsm,h⟩))
  ·have:=count_snap_insert (l:=x.snaps) q ⟨a.to,x.files⟩ r
   have e:(rootsE (SnapE.mk a.to x.files).files).count r=(rootsE x.files).count r:=rfl
   rw[e] at this
   have h6:(rootsE x.files).count r≤6:=Nat.le_trans List.count_le_length (by rw[length_rootsE]; exact hs.few)
   unfold rootsX
   simp only[List.count_append]
   omega
 ·have hsub:∀ s,s∈x.snaps.eraseIdx q→s∈x.snaps:=fun s h=>(List.eraseIdx_sublist _ _).subset h
  refine⟨⟨hs.name,hs.few,hs.names,hs.order,Nat.le_trans (List.eraseIdx_sublist _ _).length_le hs.fewS,fun s h=>hs.namesS s (hsub s h),ordered_erase hs.orderS q,fun s h=>hs.filesS s (hsub s h)⟩,fun e he=>?_,fun r=>?_⟩
  ·rcases List.mem_append.1 he with h | h
   ·exact hx.ents e (List.mem_append_left _ h)
   ·obtain⟨s,hsm,h⟩:=List.mem_flatMap.1 h
    exact hx.ents e (List.mem_append_right _ (List.mem_flatMap.2 ⟨s,hsub s hsm,h⟩))
  ·have:=count_snap_erase hq r
   unfold rootsX
   simp only[List.count_append]
   omega
 ·have hmem:=List.getElem_mem hq
  refine⟨⟨hs.name,(hs.filesS _ hmem).1,(hs.filesS _ hmem).2.1,(hs.filesS _ hmem).2.2,hs.fewS,hs.namesS,hs.orderS,hs.filesS⟩,fun e he=>?_,fun r=>?_⟩
  ·rcases List.mem_append.1 he with h | h
   ·exact hx.ents e (List.mem_append_right _ (List.mem_flatMap.2 ⟨_,hmem,h⟩))
   ·exact hx.ents e (List.mem_append_right _ h)
  ·have h6:(rootsE (x.snaps[q]).files).count r≤6:=Nat.le_trans List.count_le_length (by rw[length_rootsE]; exact(hs.filesS _ hmem).1)
   unfold rootsX
   simp only[List.count_append]
   omega
theorem over_bytes {key:Int} {B:Nat→Blk} {a:AskE} (hb:Bytes a.bytes) (ho:okW a) (root size:Int):(overN key B a root size).length≤256∧Bytes (overN key B a root size):=
 ⟨over_len key (leafAt B 3 root) size.toNat a.pos.toNat a.bytes (by have:=ho.1; have:=ho.2; omega),overL_bytes (fun z hz=>fileL_bytes _ _ z (List.mem_of_mem_take hz)) hb⟩
theorem cut_bytes {key:Int} {B:Nat→Blk} {a:AskE} {x:SetE} (ho:okC x a) (root size:Int):(cutN key B a root size).length≤256∧Bytes (cutN key B a root size):=
 ⟨by unfold cutN; rw[List.length_take,fileL_length]; omega,fun z hz=>fileL_bytes _ _ z (List.mem_of_mem_take hz)⟩
def moreOf (a:AskE):Int:=if a.kind=3∨a.kind=4 then 48 else 0
def leftOf (a:AskE):Int:=if a.kind=3∨a.kind=4 then 48 else 6
structure Chg (n:Nat) (B C:Nat→Blk) (key:Int) (x:SetE) (a:AskE) (made:Int) (y:SetE) (cc:Int):Prop where
 grow:Grow n B C [made]
 few:∀ k,k<n→(C k).refs≤cc+moreOf a
 shape:Shape y
 files:∀ e∈entsX y,FileOk n C key e.root e.size
 left:∀ r:Int,((rootsX y).count r:Int)≤((rootsX x).count r:Int)+([made].count r:Int)+leftOf a-moreOf a
theorem ChgYes.chg {n:Nat} {B C:Nat→Blk} {key:Int} {x y:SetE} {a:AskE} {made cc:Int} (hx:SetOk n B key x) (hb:Bytes a.bytes) (hc:∀ k,k<n→(B k).refs≤cc) (h:ChgYes n B C key x a made y cc):Chg n B C key x a made y cc:=by
 rcases h with⟨hk,hn,ho,h⟩ | ⟨hk,hn,ho,h⟩ | ⟨h,rfl,rfl⟩
 ·obtain⟨h1,h2,h3,h4,h5,_⟩:=wrote_facts hx hn (over_bytes hb ho) h
  refine⟨h1,fun k hk'=>?_,h3,h4,fun r=>?_⟩
  ·have:=h2 k hk'; unfold moreOf; rw[if_pos (.inl hk)]; exact this
  ·have:=h5 r; unfold moreOf leftOf; rw[if_pos (.inl hk),if_pos (.inl hk)]; omega
 ·obtain⟨h1,h2,h3,h4,h5,_⟩:=wrote_facts hx hn (cut_bytes ho) h
  refine⟨h1,fun k hk'=>?_,h3,h4,fun r=>?_⟩
  ·have:=h2 k hk'; unfold moreOf; rw[if_pos (.inr hk)]; exact this
  ·have:=h5 r; unfold moreOf leftOf; rw[if_pos (.inr hk),if_pos (.inr hk)]; omega
 ·have hk:¬(a.kind=3∨a.kind=4):=by
   rcases h with⟨h,_⟩ | ⟨h,_⟩ | ⟨h,_⟩ | ⟨h,_⟩ | ⟨h,_⟩<;>omega
  obtain⟨h3,h4,h5⟩:=plain_facts hx h
  refine⟨(grow_nil hx.right).zero,fun k hk'=>?_,h3,h4,fun r=>?_⟩
  ·have:=hc k hk'; unfold moreOf; rw[if_neg hk]; omega
  ·have:=h5 r; unfold moreOf leftOf; rw[if_neg hk,if_neg hk]; omega
theorem length_rootsX {x:SetE} (h:Shape x):(rootsX x).length≤24:=by
 have h1:∀ l:List SnapE,(∀ s∈l,s.files.length≤6)→(rootsS l).length≤6*l.length:=by
  intro l
  induction l with
  | nil=>intro _; simp[rootsS]
  | cons s l ih=>
    intro hl
    have h2:=ih fun s hs=>hl s (List.mem_cons_of_mem _ hs)
    have h3:=hl s List.mem_cons_self
    show (rootsE s.files++rootsS l).length≤_
    rw[List.length_append,length_rootsE,List.length_cons]
    omega
 have h2:=h1 x.snaps (fun s hs=>(h.filesS s hs).1)
 have h3:=h.fewS
 have h4:=h.few
 unfold rootsX
 rw[List.length_append,length_rootsE]
 omega
theorem Chg.there {n:Nat} {B C:Nat→Blk} {key:Int} {x y:SetE} {a:AskE} {made cc:Int} (h:Chg n B C key x a made y cc):∀ r∈rootsX y,r=0∨There n C r:=fun r hr=>by
 rw[rootsX_eq] at hr
 obtain⟨e,he,rfl⟩:=mem_rootsE.1 hr
 rcases(h.files e he).rooted with h0 | ⟨h1,_⟩
 ·exact .inl h0
 ·exact .inr h1
theorem Chg.room {n:Nat} {B C:Nat→Blk} {key:Int} {x y:SetE} {a:AskE} {made cc:Int} (h:Chg n B C key x a made y cc) (hcc:cc+moreOf a+24≤1000000):∀ i,i<n→(C i).refs+((rootsX y).length:Int)≤1000000:=fun i hi=>by
 have h1:=h.few i hi
 have h2:=length_rootsX h.shape
 omega
theorem Chg.out {n:Nat} {B C:Nat→Blk} {key:Int} {x y:SetE} {a:AskE} {made cc:Int} (h:Chg n B C key x a made y cc) (hh:HeldR n B (rootsX x)):∀ k,k<n→((rootsX x++[made]).count ((k:Int)+1):Int)≤outs n C k+((rootsX y).count ((k:Int)+1):Int):=fun k hk=>by
 rw[h.grow.out k hk,List.count_append]
 have:=hh k hk
 omega
theorem Chg.done {n:Nat} {B C D:Nat→Blk} {key:Int} {x y:SetE} {a:AskE} {made cc:Int} (hx:SetOk n B key x) (hh:HeldR n B (rootsX x)) (h:Chg n B C key x a made y cc) (hcc:cc+moreOf a+24≤1000000) (hD:Right n D) (hF:Fell n (moreB C (rootsX y)) D (rootsX x++[made])):
 After n key B D x y∧(∀ e∈entsX y,fileL key (leafAt D 3 e.root)=fileL key (leafAt C 3 e.root))∧∀ k,k<n→(D k).refs≤cc+leftOf a:=by
 have hg2:=grow_moreB h.grow.right h.there (h.room hcc)
 have hg:=h.grow.trans hg2
 have h1:=after_of (y:=y) hx hh hg hD hF (fun r _=>by simp only[List.count_append]; omega) h.shape (fun e he=>((h.files e he).ext hg2.ext hg2.right).1)
 refine⟨h1.1,fun e he=>(h1.2 e he).trans ((h.files e he).ext hg2.ext hg2.right).2,fun k hk=>?_⟩
 have h2:=fell_refs hF k hk
 have h3:=h.few k hk
 have h4:=h.left ((k:Int)+1)
 rw[moreB_refs,List.count_append] at h2
 omega
end Go.Proofs.YtjafgnohlkkopaaGreatDoor

namespace Go.Proofs.YtjafgnohlkkopaaGreatDoor
open Go.RowKit
theorem Two.next {base:Nat} {L:Nat→Prop} {w w':World} {ob yb g n:Nat} {B:Nat→Blk} {v v':SetV} {x y:SetE} {ms ms':List SnapM} (h:Two base L w ob yb g n B v x ms) (on:Only (Mine yb v) w w') (hS:SetP base (fun b=>L b∨w.heap.size≤b) w' yb v' y ms') (hm:∀ b,v'.mine b→v.mine b∨w.heap.size≤b):
 Two base (fun b=>L b∨w.heap.size≤b) w' ob yb g n B v' y ms':=by
 have hol:=h.box.lt
 have hgl:=h.own.lt
 have hog:¬Mine yb v ob:=by
  rintro (e | e)
  ·exact h.no.1 e
  ·exact h.no.2.1 e
 have hgg:¬Mine yb v g:=by
  rintro (e | e)
  ·exact h.ng.1 e
  ·exact h.ng.2.1 e
 have hnew:∀ b,b<w.heap.size→¬v.mine b→¬v'.mine b:=fun b hb hn f=>by
  rcases hm b f with f | f
  ·exact hn f
  ·omega
 have hb:Blocks (fun b=>g<b∧(b≠yb∧¬v.mine b∧b≠ob)) w g 0 n B:=by
  intro i hi
  obtain⟨ka,kn,kc,ba,bn,bc,h1⟩:=h.own.blocks i hi
  obtain⟨ka', kn', kc', ba', bn', bc', h2⟩:=h.lists i hi
  have e1:Value.slice ka kn kc=.slice ka' kn' kc':=Option.some.inj (h1.c2.symm.trans h2.c2)
  have e2:Value.slice ba bn bc=.slice ba' bn' bc':=Option.some.inj (h1.c3.symm.trans h2.c3)
  simp only[Value.slice.injEq] at e1 e2
  obtain⟨rfl,rfl,rfl⟩:=e1
  obtain⟨rfl,rfl,rfl⟩:=e2
  exact⟨ka,kn,kc,ba,bn,bc,h1.c0,h1.c1,h1.c2,h1.c3,numsAt_both h1.kids h2.kids,numsAt_both h1.bytes h2.bytes,h1.refs,h1.level,h1.caps⟩
 have hb2:Blocks (fun b=>(g<b∧(b≠yb∧¬v'.mine b∧b≠ob))∧¬Mine yb v b) w g 0 n B:=hb.weaken (fun b hl q=>⟨⟨q.1,q.2.1,hnew b hl q.2.2.1,q.2.2.2⟩,fun e=>by
  rcases e with e | e
  ·exact q.2.1 e
  ·exact q.2.2.1 e⟩)
 have hb3:=on.blocks hb2 hgg h.own.lt (fun k q e=>q.2 e)
 refine⟨⟨Nat.lt_of_lt_of_le h.own.lt on.size,hb3.weaken (fun b _ q=>q.1.1),fun i hi=>(World.frozen?_of_block (w:=w) (on.block g h.own.lt hgg)).trans (h.own.free i hi)⟩,on.cells h.box hog,hS,⟨h.no.1,hnew ob hol h.no.2.1,?_,h.no.2.2.2⟩,⟨h.ng.1,hnew g hgl h.ng.2.1,?_,h.ng.2.2.2⟩,hb3.weaken (fun b _ q=>q.1.2),?_⟩
 ·rintro (e | e)
  ·exact h.no.2.2.1 e
  ·omega
 ·rintro (e | e)
  ·exact h.ng.2.2.1 e
  ·omega
 ·rintro b (e | e)
  ·exact h.lb b e
  ·have:=h.ng.2.2.2; omega
def RetChg (base:Nat) (w:World) (ob yb n:Nat) (B:Nat→Blk) (key:Int) (v:SetV) (x:SetE) (a:AskE) (cc:Int) (e:Ending) (w':World):Prop:=
 ∃ made e':Int,e=.returned (.tuple #[.int .i64 made,.int .i64 e'])∧Only (fun b=>b=ob∨Mine yb v b) w w'∧
  ((e'≠0∧ChgNo n B key x a∧ErrIs n B key e' x a)∨(e'=0∧∃ (g:Nat) (C:Nat→Blk) (L:Nat→Prop) (v':SetV) (y:SetE) (ms:List SnapM),ChgYes n B C key x a made y cc∧Two base L w' ob yb g n C v' y ms))
theorem RetDo.int {base:Nat} {L:Nat→Prop} {w w':World} {yb:Nat} {v:SetV} {ok:Prop} {bad:Int→Prop} {R:SetE→Prop} {e:Ending} (h:RetDo base L w yb v ok bad R e w'):∃ e':Int,e=.returned (.int .i64 e'):=by
 rcases h.2 with⟨e', h,_⟩ | ⟨h,_⟩
 ·exact⟨e', h⟩
 ·exact⟨0,h⟩
theorem retChg_do {base:Nat} {L:Nat→Prop} {w w0 w':World} {ob yb g n:Nat} {B:Nat→Blk} {key:Int} {v:SetV} {x:SetE} {ms:List SnapM} {a:AskE} {cc e':Int} {ok:Prop} {bad:Int→Prop} {R:SetE→Prop} (b0:Below w.heap.size w w0) (hT:Two base L w0 ob yb g n B v x ms) (h:RetDo base L w0 yb v ok bad R (.returned (.int .i64 e')) w') (hE:¬ok→bad e'→ErrIs n B key e' x a) (hno:¬ok→ChgNo n B key x a) (hyes:∀ y,ok→R y→Plain x a y):
 RetChg base w ob yb n B key v x a cc (.returned (.tuple #[.int .i64 0,.int .i64 e'])) w':=by
 obtain⟨on,h⟩:=h
 refine⟨0,e', rfl,(Only.of_below b0).trans (on.mono (fun b _ h=>.inr h)),?_⟩
 rcases h with⟨e1,he,h1,h2,h3⟩ | ⟨he,h1,v', y,ms', hR,hP,hm⟩
 ·simp only[Ending.returned.injEq,Value.int.injEq,true_and] at he
  exact .inl ⟨he▸h1,hno h2,hE h2 (he▸h3)⟩
 ·simp only[Ending.returned.injEq,Value.int.injEq,true_and] at he
  exact .inr ⟨he,g,B,_,v', y,ms', .inr (.inr ⟨hyes y h1 hR,rfl,rfl⟩),hT.next on hP hm⟩
theorem retChg_write {base:Nat} {w w0 w':World} {ob yb n:Nat} {B:Nat→Blk} {key:Int} {v:SetV} {x:SetE} {a:AskE} {cc:Int} {e:Ending} (b0:Below w.heap.size w w0) (hk:a.kind=3) (h:RetWr base w0 ob yb n B key v x a.file (0≤a.pos∧a.pos+(a.bytes.length:Int)≤256) (fun e=>e=ovErr a.pos (a.bytes.length:Int)) (fun root size=>overL ((fileL key (leafAt B 3 root)).take size.toNat) a.pos.toNat a.bytes) cc e w'):
 RetChg base w ob yb n B key v x a cc e w':=by
 obtain⟨made,e', he,on,h⟩:=h
 refine⟨made,e', he,(Only.of_below b0).trans on,?_⟩
 rcases h with⟨h1,h2⟩ | ⟨h1,h2,h3,root,size,h4,g,C,L,v', y,ms,h5,h6,h7⟩
 ·exact .inl ⟨h1,⟨fun _ f1 f2 f3=>(WrNo.room h2 f1 f2 f3).2,fun h=>absurd (hk.symm.trans h) (by decide),fun h=>absurd (hk.symm.trans h) (by decide),fun h=>absurd (hk.symm.trans h) (by decide),fun h=>absurd (hk.symm.trans h) (by decide)⟩,errIs3 hk h2⟩
 ·exact .inr ⟨h1,g,C,L,v', y,ms,.inl ⟨hk,h2,h3,root,size,h4,h5,h6⟩,h7⟩
theorem retChg_cut {base:Nat} {w w0 w':World} {ob yb n:Nat} {B:Nat→Blk} {key:Int} {v:SetV} {x:SetE} {a:AskE} {cc:Int} {e:Ending} (b0:Below w.heap.size w w0) (hk:a.kind=4) (h:RetWr base w0 ob yb n B key v x a.file ((0≤a.num∧a.num≤256)∧∃ f∈x.files,f.nm=a.file.data.toList) (CutNo x a.file) (fun root _=>(fileL key (leafAt B 3 root)).take a.num.toNat) cc e w'):
 RetChg base w ob yb n B key v x a cc e w':=by
 obtain⟨made,e', he,on,h⟩:=h
 refine⟨made,e', he,(Only.of_below b0).trans on,?_⟩
 rcases h with⟨h1,h2⟩ | ⟨h1,h2,h3,root,size,h4,g,C,L,v', y,ms,h5,h6,h7⟩
 ·exact .inl ⟨h1,⟨fun h=>absurd (hk.symm.trans h) (by decide),fun h=>absurd (hk.symm.trans h) (by decide),fun h=>absurd (hk.symm.trans h) (by decide),fun h=>absurd (hk.symm.trans h) (by decide),fun h=>absurd (hk.symm.trans h) (by decide)⟩,errIs4 hk h2⟩
 ·exact .inr ⟨h1,g,C,L,v', y,ms,.inr (.inl ⟨hk,h2,h3,root,size,h4,h5,h6⟩),h7⟩
theorem chgNo_of {n:Nat} {B:Nat→Blk} {key:Int} {x:SetE} {a:AskE} (h3:a.kind≠3) (h6:a.kind=6→¬CanRename x a) (h7:a.kind=7→¬CanSnap x a) (h8:a.kind=8→¬HasSnap x a) (h9:a.kind=9→¬HasSnap x a):ChgNo n B key x a:=⟨fun h=>absurd h h3,h6,h7,h8,h9⟩
set_option maxHeartbeats 4000000 in
set_option maxRecDepth 100000 in
theorem change_any (base:Nat) (L:Nat→Prop) (ob yb g n:Nat) (B:Nat→Blk) (key:Int) (v:SetV) (x:SetE) (ms:List SnapM) (a:AskE) (ba:Option Addr) (bn bc:Nat) (cc:Int) (w:World) (hT:Two base L w ob yb g n B v x ms) (hx:SetOk n B key x) (hB:NumsAt (fun _=>True) .u8 w ba bn a.bytes) (hao:a.ok) (h64:64≤cc) (hcm:(a.kind=3∨a.kind=4)→cc≤999936) (hc:∀ k,k<n→(B k).refs≤cc) (hbw:base≤w.heap.size):
 Calls Tryz.prog 97 #[.pointer (some ⟨ob,0,none⟩),.int .i64 key,.pointer (some ⟨yb,0,none⟩),a.val ba bn bc] w fun e w'=>RetChg base w ob yb n B key v x a cc e w':=by
 have b0:=below_alloc w (.cells #[.int .i64 a.kind,.string a.set,.string a.file,.string a.to,.int .i64 a.pos,.int .i64 a.num,.slice ba bn bc] 30)
 have hT0:=hid (hT.below b0)
 have hB0:=hid (hB.below b0)
 have hbw0:=Nat.le_trans hbw b0.size
 have hsh:=hid hx.shape
 have hfs:a.file.size≤maxLen:=hao.1.2.1
 have hts:a.to.size≤maxLen:=hao.1.2.2
 replace hx:=hid hx
 replace hc:=hid hc
 replace hcm:=hid hcm
 replace hao:=hid hao
 replace hbw0:=hid hbw0
 clear hT hB
 unfold AskE.val
 by_cases hk3:a.kind=3
 ·have e3:(a.kind == 3)=true:=by simp[hk3]
  have hk:Hid (a.kind=3):=hid hk3
  clear hk3
  go_enter Tryz.func97,Tryz.ntmps97
  go_wp2_with fail
  by_cases hth:∃ f∈x.files,f.nm=a.file.data.toList
  ·refine(write_there base L ob yb g n B key v x ms a ba bn bc cc _ hT0.out hx.out hB0.out hao.out h64 (hcm.out (.inl hk.out)) hc.out hbw0.out hth).mono ?_
   rintro e w' h
   have J:=hid (retChg_write b0 hk.out h)
   obtain⟨made,e', rfl,_⟩:=h
   clear hth
   go_wp2_with fail
   go_ret2
   exact J.out
  ·refine(write_new base L ob yb g n B key v x ms a ba bn bc cc _ hT0.out hx.out hB0.out hao.out h64 (hcm.out (.inl hk.out)) hc.out hbw0.out hth).mono ?_
   rintro e w' h
   have J:=hid (retChg_write b0 hk.out h)
   obtain⟨made,e', rfl,_⟩:=h
   clear hth
   go_wp2_with fail
   go_ret2
   exact J.out
 have e3:(a.kind == 3)=false:=by simp[hk3]
 replace hk3:=hid hk3
 by_cases hk4:a.kind=4
 ·have e4:(a.kind == 4)=true:=by simp[hk4]
  have hk:Hid (a.kind=4):=hid hk4
  clear hk4
  go_enter Tryz.func97,Tryz.ntmps97
  go_wp2_with fail
  refine(cut_any base L ob yb g n B key v x ms a ba bn bc cc _ hT0.out hx.out hao.out h64 (hcm.out (.inr hk.out)) hc.out hbw0.out).mono ?_
  rintro e w' h
  have J:=hid (retChg_cut b0 hk.out h)
  obtain⟨made,e', rfl,_⟩:=h
  go_wp2_with fail
  go_ret2
  exact J.out
 have e4:(a.kind == 4)=false:=by simp[hk4]
 replace hk4:=hid hk4
 by_cases hk5:a.kind=5
 ·have e5:(a.kind == 5)=true:=by simp[hk5]
  have hk:Hid (a.kind=5):=hid hk5
  clear hk5
  go_enter Tryz.func97,Tryz.ntmps97
  go_wp2_with fail
  refine(remove_any base L yb v x ms a.file _ hT0.out.set hsh.out).mono ?_
  rintro e w' h
  obtain⟨e', rfl⟩:=h.int
  have J:=hid (retChg_do (key:=key) (a:=a) (cc:=cc) b0 hT0.out h (fun h1 h2=>errIs5 hk.out ⟨h2,h1⟩) (fun h=>chgNo_of (fun f=>absurd (hk.out.symm.trans f) (by decide)) (fun f=>absurd (hk.out.symm.trans f) (by decide)) (fun f=>absurd (hk.out.symm.trans f) (by decide)) (fun f=>absurd (hk.out.symm.trans f) (by decide)) (fun f=>absurd (hk.out.symm.trans f) (by decide))) (fun y h hR=>.inl ⟨hk.out,hR⟩))
  clear h
  go_wp2_with fail
  go_ret2
  exact J.out
 have e5:(a.kind == 5)=false:=by simp[hk5]
 replace hk5:=hid hk5
 by_cases hk6:a.kind=6
 ·have e6:(a.kind == 6)=true:=by simp[hk6]
  have hk:Hid (a.kind=6):=hid hk6
  clear hk6
  go_enter Tryz.func97,Tryz.ntmps97
  go_wp2_with fail
  refine(rename_any base L yb v x ms a.file a.to _ hT0.out.set hsh.out hts hbw0.out).mono ?_
  rintro e w' h
  obtain⟨e', rfl⟩:=h.int
  have J:=hid (retChg_do (key:=key) (a:=a) (cc:=cc) b0 hT0.out h (fun _ h2=>errIs6 hk.out h2) (fun h=>chgNo_of (fun f=>absurd (hk.out.symm.trans f) (by decide)) (fun _=>h) (fun f=>absurd (hk.out.symm.trans f) (by decide)) (fun f=>absurd (hk.out.symm.trans f) (by decide)) (fun f=>absurd (hk.out.symm.trans f) (by decide))) (fun y h hR=>.inr (.inl ⟨hk.out,h,hR⟩)))
  clear h
  go_wp2_with fail
  go_ret2
  exact J.out
 have e6:(a.kind == 6)=false:=by simp[hk6]
 replace hk6:=hid hk6
 by_cases hk7:a.kind=7
 ·have e7:(a.kind == 7)=true:=by simp[hk7]
  have hk:Hid (a.kind=7):=hid hk7
  clear hk7
  go_enter Tryz.func97,Tryz.ntmps97
  go_wp2_with fail
  refine(snapshot_any base L yb v x ms a.to _ hT0.out.set hsh.out hts hbw0.out).mono ?_
  rintro e w' h
  obtain⟨e', rfl⟩:=h.int
  have J:=hid (retChg_do (key:=key) (a:=a) (cc:=cc) b0 hT0.out h (fun _ h2=>errIs7 hk.out h2) (fun h=>chgNo_of (fun f=>absurd (hk.out.symm.trans f) (by decide)) (fun f=>absurd (hk.out.symm.trans f) (by decide)) (fun _=>h) (fun f=>absurd (hk.out.symm.trans f) (by decide)) (fun f=>absurd (hk.out.symm.trans f) (by decide))) (fun y h hR=>.inr (.inr (.inl ⟨hk.out,h,hR⟩))))
  clear h
  go_wp2_with fail
  go_ret2
  exact J.out
 have e7:(a.kind == 7)=false:=by simp[hk7]
 replace hk7:=hid hk7
 by_cases hk8:a.kind=8
 ·have e8:(a.kind == 8)=true:=by simp[hk8]
  have hk:Hid (a.kind=8):=hid hk8
  clear hk8
  go_enter Tryz.func97,Tryz.ntmps97
  go_wp2_with fail
  refine(forget_any base L yb v x ms a.to _ hT0.out.set hsh.out hts).mono ?_
  rintro e w' h
  obtain⟨e', rfl⟩:=h.int
  have J:=hid (retChg_do (key:=key) (a:=a) (cc:=cc) b0 hT0.out h (fun _ h2=>errIs8 (.inl hk.out) h2) (fun h=>chgNo_of (fun f=>absurd (hk.out.symm.trans f) (by decide)) (fun f=>absurd (hk.out.symm.trans f) (by decide)) (fun f=>absurd (hk.out.symm.trans f) (by decide)) (fun _=>h) (fun f=>absurd (hk.out.symm.trans f) (by decide))) (fun y h hR=>.inr (.inr (.inr (.inl ⟨hk.out,h,hR⟩)))))
  clear h
  go_wp2_with fail
  go_ret2
  exact J.out
 have e8:(a.kind == 8)=false:=by simp[hk8]
 replace hk8:=hid hk8
 by_cases hk9:a.kind=9
 ·have e9:(a.kind == 9)=true:=by simp[hk9]
  have hk:Hid (a.kind=9):=hid hk9
  clear hk9
  go_enter Tryz.func97,Tryz.ntmps97
  go_wp2_with fail
  refine(back_any base L yb v x ms a.to _ hT0.out.set hsh.out hts hbw0.out).mono ?_
  rintro e w' h
  obtain⟨e', rfl⟩:=h.int
  have J:=hid (retChg_do (key:=key) (a:=a) (cc:=cc) b0 hT0.out h (fun _ h2=>errIs8 (.inr hk.out) h2) (fun h=>chgNo_of (fun f=>absurd (hk.out.symm.trans f) (by decide)) (fun f=>absurd (hk.out.symm.trans f) (by decide)) (fun f=>absurd (hk.out.symm.trans f) (by decide)) (fun f=>absurd (hk.out.symm.trans f) (by decide)) (fun _=>h)) (fun y h hR=>.inr (.inr (.inr (.inr ⟨hk.out,h,hR⟩)))))
  clear h
  go_wp2_with fail
  go_ret2
  exact J.out
 have e9:(a.kind == 9)=false:=by simp[hk9]
 replace hk9:=hid hk9
 go_enter Tryz.func97,Tryz.ntmps97
 go_wp2_with fail
 go_ret2
 exact⟨0,4,rfl,Only.of_below b0,.inl ⟨by omega,chgNo_of hk3.out (fun f=>absurd f hk6.out) (fun f=>absurd f hk7.out) (fun f=>absurd f hk8.out) (fun f=>absurd f hk9.out),errIsO (by have h3:=hk3.out; have h4:=hk4.out; have h5:=hk5.out; have h6:=hk6.out; have h7:=hk7.out; have h8:=hk8.out; have h9:=hk9.out; omega)⟩⟩
end Go.Proofs.YtjafgnohlkkopaaGreatDoor

namespace Go.Proofs.YtjafgnohlkkopaaGreatDoor
open Go.RowKit
structure Cop (W:World) (P:Nat→Prop) (w:World) (n:Nat) (B:Nat→Blk) (x:SetE) (g:Nat) (v:SetV) (ms:List SnapM):Prop where
 own:Own w g n B
 lists:Blocks (fun b=>g<b∧P b∧¬v.mine b) w g 0 n B
 set:SetNew W.heap.size (fun b=>P b∧b≠g) w v x ms
 pg:P g
 ng:¬v.mine g
 mine:∀ b,v.mine b→P b
 new:∀ b,P b→W.heap.size≤b
theorem Cop.only {W:World} {P M:Nat→Prop} {w w':World} {n:Nat} {B:Nat→Blk} {x:SetE} {g:Nat} {v:SetV} {ms:List SnapM} (h:Cop W P w n B x g v ms) (on:Only M w w') (hM:∀ b,M b→¬P b):Cop W P w' n B x g v ms:=by
 have hg:¬M g:=fun m=>hM g m h.pg
 have hl:=on.blocks h.lists hg h.own.lt (fun k q e=>hM k e q.2.1)
 exact⟨⟨Nat.lt_of_lt_of_le h.own.lt on.size,hl.weaken (fun b _ q=>q.1),fun i hi=>(World.frozen?_of_block (w:=w) (on.block g h.own.lt hg)).trans (h.own.free i hi)⟩,hl,h.set.only on (fun b hb m=>hM b m (h.mine b hb)) (fun b hb m=>hM b m hb.1),h.pg,h.ng,h.mine,h.new⟩
theorem Cop.two {W:World} {P:Nat→Prop} {w:World} {n:Nat} {B:Nat→Blk} {x:SetE} {g ob yb:Nat} {v:SetV} {ms:List SnapM} (h:Cop W P w n B x g v ms) (ho:CellsAt w ob #[.slice (some ⟨g,0,none⟩) n n] 24) (hy:CellsAt w yb #[.string v.name,.slice v.fa v.fn v.fc,.slice v.sa v.sn v.sc] 84) (hne:ob≠yb) (po:¬P ob) (py:¬P yb):Two W.heap.size (fun b=>P b∧b≠g) w ob yb g n B v x ms:=
 ⟨h.own,ho,⟨by rw[←h.set.name]; exact hy,h.set,fun f=>py (h.mine _ f),fun f=>py f.1⟩,⟨hne,fun f=>po (h.mine _ f),fun f=>po f.1,fun e=>po (e▸h.pg)⟩,⟨fun e=>py (e▸h.pg),h.ng,fun f=>f.2 rfl,h.new g h.pg⟩,h.lists.weaken (fun b _ q=>⟨fun e=>py (e▸q.2.1),q.2.2,fun e=>po (e▸q.2.1)⟩),fun b h1=>h.new b h1.1⟩
theorem cop_of {W wO wS w:World} {n:Nat} {B:Nat→Blk} {x:SetE} {g lo:Nat} {v:SetV} {ms:List SnapM} (hO:Own wO g n B) (hg:W.heap.size≤g) (bO:Below wO.heap.size wO w) (hS:SetNew lo (fun b=>lo≤b) wS v x ms) (hlo:W.heap.size≤lo) (bS:Below wS.heap.size wS w) (hap:wO.heap.size≤lo∨wS.heap.size≤g):
 Cop W (fun b=>(g≤b∧b<wO.heap.size)∨(lo≤b∧b<wS.heap.size)) w n B x g v ms:=by
 have hgl:=hO.lt
 have hm:∀ b,v.mine b→lo≤b∧b<wS.heap.size:=fun b hb=>hS.mine_ge hb
 have hl:Blocks (fun b=>g<b∧((g≤b∧b<wO.heap.size)∨(lo≤b∧b<wS.heap.size))∧¬v.mine b) wO g 0 n B:=hO.blocks.weaken (fun b hb q=>⟨q,.inl ⟨by omega,hb⟩,fun f=>by have:=hm b f; omega⟩)
 have hs:SetNew lo (fun b=>((g≤b∧b<wO.heap.size)∨(lo≤b∧b<wS.heap.size))∧b≠g) wS v x ms:=hS.weaken (fun b hb q=>⟨.inr ⟨q,hb⟩,by omega⟩)
 have hs2:=hs.below bS
 exact⟨hO.below bO,hl.below bO,⟨hs2.name,hs2.small,ownsRow_base hlo hs2.files,ownsRow_base hlo hs2.snaps,hs2.eq,hs2.ok,hs2.lists,hs2.apart⟩,.inl ⟨Nat.le_refl _,hgl⟩,fun f=>by have:=hm g f; omega,fun b f=>.inr (hm b f),fun b f=>by omega⟩
def GotD (W wc:World) (n:Nat) (B:Nat→Blk) (x:SetE) (v12 v13:Value):Prop:=
 ∃ (ob yb g:Nat) (v:SetV) (ms:List SnapM) (P:Nat→Prop),v12=.pointer (some ⟨ob,0,none⟩)∧v13=.pointer (some ⟨yb,0,none⟩)∧Two W.heap.size P wc ob yb g n B v x ms∧Below W.heap.size W wc∧W.heap.size≤ob∧W.heap.size≤yb∧W.heap.size≤g
theorem got_fin {W w7 wc:World} {P M:Nat→Prop} {n:Nat} {B:Nat→Blk} {x:SetE} {g ob yb:Nat} {v:SetV} {ms:List SnapM} (h:Cop W P w7 n B x g v ms) (on:Only M w7 wc) (hM:∀ b,M b→¬P b) (bb:Below W.heap.size W wc) (ho:CellsAt wc ob #[.slice (some ⟨g,0,none⟩) n n] 24) (hy:CellsAt wc yb #[.string v.name,.slice v.fa v.fn v.fc,.slice v.sa v.sn v.sc] 84) (hne:ob≠yb) (po:¬P ob) (py:¬P yb) (lo:W.heap.size≤ob) (ly:W.heap.size≤yb):
 GotD W wc n B x (.pointer (some ⟨ob,0,none⟩)) (.pointer (some ⟨yb,0,none⟩)):=
 ⟨ob,yb,g,v,ms,_,rfl,rfl,(h.only on hM).two ho hy hne po py,bb,lo,ly,h.new g h.pg⟩
abbrev objX (v:SetV):Obj:=.cells #[.string v.name,.slice v.fa v.fn v.fc,.slice v.sa v.sn v.sc] 84
abbrev obj0X:Obj:=.cells #[.string (ByteArray.mk #[]),.slice none 0 0,.slice none 0 0] 84
abbrev putX (w:World) (yb:Nat) (v:SetV):World:=((w.setCell ⟨yb,0,none⟩ (.string v.name)).setCell ⟨yb,1,none⟩ (.slice v.fa v.fn v.fc)).setCell ⟨yb,2,none⟩ (.slice v.sa v.sn v.sc)
theorem kept_putX (w:World) (yb:Nat) (v:SetV):Kept yb w (putX w yb v):=Kept.setCell (g:=yb) (Kept.setCell (g:=yb) (Kept.setCell (g:=yb) (Kept.refl _ _) (p:=⟨yb,0,none⟩) rfl _) (p:=⟨yb,1,none⟩) rfl _) (p:=⟨yb,2,none⟩) rfl _
theorem cells_putX {w:World} {yb:Nat} {v:SetV} {c0 c1 c2:Value} (h:CellsAt w yb #[c0,c1,c2] 84):CellsAt (putX w yb v) yb #[.string v.name,.slice v.fa v.fn v.fc,.slice v.sa v.sn v.sc] 84:=by
 have k2:=((h.set 0 (.string v.name)).set 1 (.slice v.fa v.fn v.fc)).set 2 (.slice v.sa v.sn v.sc)
 simp only[List.setIfInBounds_toArray,List.set_cons_zero,List.set_cons_succ] at k2
 exact k2
theorem kept_putS (w:World) (ob:Nat) (s:Value):Kept ob w (w.setCell ⟨ob,0,none⟩ s):=Kept.setCell (g:=ob) (Kept.refl _ _) (p:=⟨ob,0,none⟩) rfl _
theorem cells_putS {w:World} {ob:Nat} {s c0:Value} (h:CellsAt w ob #[c0] 24):CellsAt (w.setCell ⟨ob,0,none⟩ s) ob #[s] 24:=by
 have k2:=h.set 0 s
 simp only[List.setIfInBounds_toArray,List.set_cons_zero] at k2
 exact k2
section
variable {W w7:World} {P:Nat→Prop} {n:Nat} {B:Nat→Blk} {x:SetE} {g:Nat} {v:SetV} {ms:List SnapM}
theorem gotd_cab (h:Cop W P w7 n B x g v ms) (hP:∀ b,P b→b<w7.heap.size) (bb:Below W.heap.size W w7):GotD W ((w7.alloc (objS (some ⟨g,0,none⟩) n n)).alloc (objX v)) n B x (.pointer (some ⟨w7.heap.size,0,none⟩)) (.pointer (some ⟨w7.heap.size+1,0,none⟩)):=
 got_fin h (Only.of_below (M:=fun _=>False) (below_two _ _ _)) (fun _ m=>m.elim) (Below.tr bb (below_two _ _ _)) ((cellsAt_alloc w7 _ _).below (below_alloc _ _)) (cellsAt_alloc2 w7 _ _ _) (by omega) (fun f=>by have:=hP _ f; omega) (fun f=>by have:=hP _ f; omega) bb.size (by have:=bb.size; omega)
theorem gotd_cba (h:Cop W P w7 n B x g v ms) (hP:∀ b,P b→b<w7.heap.size) (bb:Below W.heap.size W w7):GotD W ((w7.alloc (objX v)).alloc (objS (some ⟨g,0,none⟩) n n)) n B x (.pointer (some ⟨w7.heap.size+1,0,none⟩)) (.pointer (some ⟨w7.heap.size,0,none⟩)):=
 got_fin h (Only.of_below (M:=fun _=>False) (below_two _ _ _)) (fun _ m=>m.elim) (Below.tr bb (below_two _ _ _)) (cellsAt_alloc2 w7 _ _ _) ((cellsAt_alloc w7 _ _).below (below_alloc _ _)) (by omega) (fun f=>by have:=hP _ f; omega) (fun f=>by have:=hP _ f; omega) (by have:=bb.size; omega) bb.size
theorem gotd_acb {a:Nat} {c0:Value} (ha:W.heap.size≤a) (pa:¬P a) (ka:CellsAt w7 a #[c0] 24) (h:Cop W P w7 n B x g v ms) (hP:∀ b,P b→b<w7.heap.size) (bb:Below W.heap.size W w7):GotD W ((w7.setCell ⟨a,0,none⟩ (.slice (some ⟨g,0,none⟩) n n)).alloc (objX v)) n B x (.pointer (some ⟨a,0,none⟩)) (.pointer (some ⟨w7.heap.size,0,none⟩)):=by
 have kk:=kept_putS w7 a (.slice (some ⟨g,0,none⟩) n n)
 have k3:CellsAt ((w7.setCell ⟨a,0,none⟩ (.slice (some ⟨g,0,none⟩) n n)).alloc (objX v)) w7.heap.size #[.string v.name,.slice v.fa v.fn v.fc,.slice v.sa v.sn v.sc] 84:=by
  have:=cellsAt_alloc (w7.setCell ⟨a,0,none⟩ (.slice (some ⟨g,0,none⟩) n n)) #[.string v.name,.slice v.fa v.fn v.fc,.slice v.sa v.sn v.sc] 84
  rwa [kk.size] at this
 have hal:=ka.lt
 exact got_fin h ((Only.of_kept (M:=fun b=>b=a) kk rfl).trans (Only.of_below (below_alloc _ _))) (fun b m f=>pa (m▸f)) (Below.tr (bb.trans (kk.below ha)) (below_alloc _ _)) ((cells_putS ka).below (below_alloc _ _)) k3 (by omega) pa (fun f=>by have:=hP _ f; omega) ha bb.size
theorem gotd_bca {a:Nat} {c0 c1 c2:Value} (ha:W.heap.size≤a) (pa:¬P a) (ka:CellsAt w7 a #[c0,c1,c2] 84) (h:Cop W P w7 n B x g v ms) (hP:∀ b,P b→b<w7.heap.size) (bb:Below W.heap.size W w7):GotD W ((putX w7 a v).alloc (objS (some ⟨g,0,none⟩) n n)) n B x (.pointer (some ⟨w7.heap.size,0,none⟩)) (.pointer (some ⟨a,0,none⟩)):=by
 have kk:=kept_putX w7 a v
 have k3:CellsAt ((putX w7 a v).alloc (objS (some ⟨g,0,none⟩) n n)) w7.heap.size #[.slice (some ⟨g,0,none⟩) n n] 24:=by
  have:=cellsAt_alloc (putX w7 a v) #[.slice (some ⟨g,0,none⟩) n n] 24
  rwa [kk.size] at this
 have hal:=ka.lt
 exact got_fin h ((Only.of_kept (M:=fun b=>b=a) kk rfl).trans (Only.of_below (below_alloc _ _))) (fun b m f=>pa (m▸f)) (Below.tr (bb.trans (kk.below ha)) (below_alloc _ _)) k3 ((cells_putX ka).below (below_alloc _ _)) (by omega) (fun f=>by have:=hP _ f; omega) pa bb.size ha
theorem gotd_abc {a b:Nat} {c0 d0 d1 d2:Value} (ha:W.heap.size≤a) (hb:W.heap.size≤b) (hne:a≠b) (pa:¬P a) (pb:¬P b) (ka:CellsAt w7 a #[c0] 24) (kb:CellsAt w7 b #[d0,d1,d2] 84) (h:Cop W P w7 n B x g v ms) (bb:Below W.heap.size W w7):GotD W (putX (w7.setCell ⟨a,0,none⟩ (.slice (some ⟨g,0,none⟩) n n)) b v) n B x (.pointer (some ⟨a,0,none⟩)) (.pointer (some ⟨b,0,none⟩)):=by
 have k1:=kept_putS w7 a (.slice (some ⟨g,0,none⟩) n n)
 have k2:=kept_putX (w7.setCell ⟨a,0,none⟩ (.slice (some ⟨g,0,none⟩) n n)) b v
 have o1:=Only.of_kept (M:=fun k=>k=a∨k=b) k1 (.inl rfl)
 have o2:=Only.of_kept (M:=fun k=>k=a∨k=b) k2 (.inr rfl)
 exact got_fin h (o1.trans o2) (fun k m f=>by
  rcases m with m | m
  ·exact pa (m▸f)
  ·exact pb (m▸f)) ((bb.trans (k1.below ha)).trans (k2.below hb)) ((Only.of_kept (M:=fun k=>k=b) k2 rfl).cells (cells_putS ka) hne) (cells_putX ((Only.of_kept (M:=fun k=>k=a) k1 rfl).cells kb hne.symm)) hne pa pb ha hb
end
end Go.Proofs.YtjafgnohlkkopaaGreatDoor
