import Derived.Test.YtjafgnohlkkopaaGreatDoorRows
import Derived.WalkKit
import Derived.Below
import Derived.Laws.Rows
import Derived.OpenShut
import Derived.Deep.QuietTactic
import Derived.BigQuiet
set_option linter.unusedVariables false
set_option maxHeartbeats 8000000
set_option maxRecDepth 100000
namespace Go.Proofs.YtjafgnohlkkopaaGreatDoor
structure Blk where
 refs:Int
 level:Int
 kids:List Int
 bytes:List Int
def Blk.zero:Blk:=⟨0,0,[],[]⟩
def upd (B:Nat->Blk)(i:Nat)(b:Blk):Nat->Blk:=fun j=>if j=i then b else B j
theorem upd_same (B:Nat->Blk)(i:Nat)(b:Blk):upd B i b i=b:=by simp[upd]
theorem bI (B:Nat->Blk)(i j:Nat)(b:Blk)(h:j≠i):upd B i b j=B j:=by simp[upd,h]
def sumTo (f:Nat->Nat):Nat->Nat
 | 0=>0
 | n+1=>sumTo f n+f n
theorem sumTo_congr {f g:Nat->Nat}:∀ {n:Nat},(∀ i,i<n->f i=g i)->sumTo f n=sumTo g n
 | 0,_=>rfl
 | n+1,h=>by simp only[sumTo]; rw[sumTo_congr (fun i hi=>h i (by omega)),h n (by omega)]
theorem aZ1 {f:Nat->Nat}:∀ {n i:Nat},i<n->f i<=sumTo f n
 | n+1,i,h=>by
   simp only[sumTo]
   by_cases e:i=n
   ·subst e; omega
   ·have:=aZ1 (f:=f) (show i<n by omega); omega
theorem aJ4 {f:Nat->Nat}:∀ {n:Nat},0<sumTo f n->∃ i,i<n/\0<f i
 | n+1,h=>by
   simp only[sumTo] at h
   by_cases e:0<f n
   ·exact⟨n,by omega,e⟩
   ·obtain⟨i,hi,hf⟩:=aJ4 (f:=f) (n:=n) (by omega)
    exact⟨i,by omega,hf⟩
theorem aJ5 {f g:Nat->Nat}{i:Nat}:∀ {n:Nat},i<n->(∀ j,j≠i->f j=g j)->sumTo f n+g i=sumTo g n+f i
 | n+1,hi,h=>by
   simp only[sumTo]
   by_cases e:i=n
   ·subst e
    rw[sumTo_congr (f:=f) (g:=g) (fun j hj=>h j (by omega))]; omega
   ·have:=aJ5 (f:=f) (g:=g) (n:=n) (i:=i) (by omega) h
    rw[h n (by omega)]; omega
def among (n:Nat)(B:Nat->Blk)(a:Int):Nat:=sumTo (fun i=>(B i).kids.count a) n
theorem yT {n:Nat}{B:Nat->Blk}{i:Nat}(b:Blk)(a:Int)(hi:i<n):among n (upd B i b) a+(B i).kids.count a=among n B a+b.kids.count a:=by
 have:=aJ5 (f:=fun j=>(upd B i b j).kids.count a) (g:=fun j=>(B j).kids.count a) hi (fun j hj=>by simp[upd,hj])
 simpa [among,upd] using this
theorem gY {n:Nat}{B C:Nat->Blk}(a:Int)(h:∀ i,i<n->(B i).kids=(C i).kids):among n B a=among n C a:=
 sumTo_congr fun i hi=>by rw[h i hi]
theorem cF5 {n:Nat}{B:Nat->Blk}{i:Nat}(a:Int)(hi:i<n):(B i).kids.count a<=among n B a:=aZ1 (f:=fun j=>(B j).kids.count a) hi
def There (n:Nat)(B:Nat->Blk)(a:Int):Prop:=1<=a/\a<=n/\(B (a-1).toNat).refs≠0
def mK (n:Nat)(B:Nat->Blk)(lv:Int)(l:List Int):Prop:=∀ k∈l,k=0\/(There n B k/\(B (k-1).toNat).level=lv-1)
def Form (n:Nat)(B:Nat->Blk)(b:Blk):Prop:=
 (b.refs=0/\b.level=0/\b.kids=[]/\b.bytes=[])\/
 ((1<=b.refs/\b.refs<=1000000/\0<=b.level/\b.level<=3)/\
   ((b.level=0/\b.kids=[]/\b.bytes.length=4)\/
    (1<=b.level/\b.kids.length=4/\b.bytes=[]/\mK n B b.level b.kids/\∃ k∈b.kids,k≠0)))
theorem Form.kids {n:Nat}{B:Nat->Blk}{b:Blk}(h:Form n B b):mK n B b.level b.kids:=by
 rcases h with⟨_,_,h,_⟩ | ⟨_,⟨_,h,_⟩ | ⟨_,_,_,h,_⟩⟩
 ·simp[mK,h]
 ·simp[mK,h]
 ·exact h
theorem Form.live {n:Nat}{B:Nat->Blk}{b:Blk}(h:Form n B b){k:Int}(hk:k∈b.kids):1<=b.refs/\b.refs<=1000000/\1<=b.level/\b.level<=3:=by
 rcases h with⟨_,_,h,_⟩ | ⟨hr,⟨_,h,_⟩ | ⟨hl,_,_,h,_⟩⟩
 ·simp[h] at hk
 ·simp[h] at hk
 ·omega
theorem Form.bounds {n:Nat}{B:Nat->Blk}{b:Blk}(h:Form n B b):0<=b.refs/\b.refs<=1000000/\0<=b.level/\b.level<=3:=by
 rcases h with⟨h,h', _,_⟩ | ⟨hr,_⟩<;>omega
theorem Form.zero {n:Nat}{B:Nat->Blk}{b:Blk}(h:Form n B b)(h0:b.refs=0):b=Blk.zero:=by
 rcases h with⟨h1,h2,h3,h4⟩ | ⟨hr,_⟩
 ·cases b; simp_all [Blk.zero]
 ·omega
theorem aO3 (n:Nat)(B:Nat->Blk):Form n B Blk.zero:=.inl ⟨rfl,rfl,rfl,rfl⟩
theorem mK.turn {n:Nat}{B C:Nat->Blk}{lv:Int}{l:List Int}(h:mK n B lv l)(hc:∀ k∈l,There n B k->There n C k/\(C (k-1).toNat).level=(B (k-1).toNat).level):mK n C lv l:=by
 intro k hk
 rcases h k hk with h | ⟨ht,hl⟩
 ·exact .inl h
 ·have:=hc k hk ht
  exact .inr ⟨this.1,by rw[this.2,hl]⟩
theorem Form.turn {n:Nat}{B C:Nat->Blk}{b c:Blk}(h:Form n B b)(hl:c.level=b.level)(hk:c.kids=b.kids)(hb:c.bytes=b.bytes)
 (hr:c.refs=b.refs\/(b.refs≠0/\1<=c.refs/\c.refs<=1000000)) (hc:∀ k∈b.kids,There n B k->There n C k/\(C (k-1).toNat).level=(B (k-1).toNat).level):Form n C c:=by
 unfold Form
 rw[hl,hk,hb]
 rcases h with⟨h1,h2,h3,h4⟩ | ⟨h1,h2⟩
 ·exact .inl ⟨by omega,h2,h3,h4⟩
 ·have hb':1<=c.refs/\c.refs<=1000000/\0<=b.level/\b.level<=3:=by clear h2; omega
  refine .inr ⟨hb', ?_⟩
  rcases h2 with h2 | ⟨h3,h4,h5,h6,h7⟩
  ·exact .inl h2
  ·exact .inr ⟨h3,h4,h5,h6.turn hc,h7⟩
structure fG (n:Nat)(B:Nat->Blk)(T:List Int):Prop where
 small:n<=400
 one:∀ i,i<n->Form n B (B i)
 held:∀ i,i<n->(among n B ((i:Int)+1):Int)+(T.count ((i:Int)+1):Int)<=(B i).refs
 pend:∀ k∈T,k=0\/(1<=k/\k<=n)
abbrev Right (n:Nat)(B:Nat->Blk):Prop:=fG n B []
theorem ix {n:Nat}{a:Int}(h1:1<=a)(h2:a<=n):(a-1).toNat<n/\((a-1).toNat:Int)+1=a:=by omega
theorem fG.there {n:Nat}{B:Nat->Blk}{T:List Int}(h:fG n B T){k:Int}(hk:k∈T)(h0:k≠0):There n B k/\1<=(B (k-1).toNat).refs:=by
 rcases h.pend k hk with e | ⟨h1,h2⟩
 ·exact absurd e h0
 ·obtain⟨hi,he⟩:=ix h1 h2
  have:=h.held _ hi
  rw[he] at this
  have c:=List.count_pos_iff.2 hk
  exact⟨⟨h1,h2,by omega⟩,by omega⟩
theorem fG.skip {n:Nat}{B:Nat->Blk}{T:List Int}(h:fG n B (0::T)):fG n B T:=
 ⟨h.small,h.one,fun i hi=>by have:=h.held i hi; rw[List.count_cons_of_ne (by omega)] at this; exact this,fun k hk=>h.pend k (List.mem_cons_of_mem _ hk)⟩
theorem fG.less {n:Nat}{B:Nat->Blk}{T:List Int}{a:Int}(h:fG n B (a::T)):fG n B T:=
 ⟨h.small,h.one,fun i hi=>by have:=h.held i hi; rw[List.count_cons] at this; split at this<;>omega,fun k hk=>h.pend k (List.mem_cons_of_mem _ hk)⟩
theorem aJ8 {n:Nat}{B:Nat->Blk}{T:List Int}{a:Int}(h:fG n B (a::T))(h1:1<=a)(h2:a<=n)(hr:1<(B (a-1).toNat).refs):
 fG n (upd B (a-1).toNat { B (a-1).toNat with refs:=(B (a-1).toNat).refs-1 }) T:=by
 obtain⟨hi,he⟩:=ix h1 h2
 generalize (a-1).toNat=i at *
 have ham:∀ x,among n (upd B i { B i with refs:=(B i).refs-1 }) x=among n B x:=fun x=>gY x fun j hj=>by
  by_cases e:j=i
  ·subst e; rw[upd_same]
  ·rw[bI _ _ _ _ e]
 have hth:∀ k,There n B k->There n (upd B i { B i with refs:=(B i).refs-1 }) k/\(upd B i { B i with refs:=(B i).refs-1 } (k-1).toNat).level=(B (k-1).toNat).level:=by
  intro k ⟨k1,k2,k3⟩
  by_cases e:(k-1).toNat=i
  ·rw[e,upd_same]
   exact⟨⟨k1,k2,by rw[e,upd_same]; show (B i).refs-1≠0; omega⟩,rfl⟩
  ·rw[bI _ _ _ _ e]
   exact⟨⟨k1,k2,by rw[bI _ _ _ _ e]; exact k3⟩,rfl⟩
 refine⟨h.small,fun j hj=>?_,fun j hj=>?_,fun k hk=>h.pend k (List.mem_cons_of_mem _ hk)⟩
 ·by_cases e:j=i
  ·subst e
   rw[upd_same]
   have:=(h.one j hj).bounds
   exact(h.one j hj).turn rfl rfl rfl (.inr ⟨by omega,by show 1<=(B j).refs-1; omega,by show (B j).refs-1<=1000000; omega⟩) fun k _=>hth k
  ·rw[bI _ _ _ _ e]
   exact(h.one j hj).turn rfl rfl rfl (.inl rfl) fun k _=>hth k
 ·rw[ham]
  have:=h.held j hj
  by_cases e:j=i
  ·subst e
   rw[upd_same]
   rw[he,List.count_cons_self] at this
   rw[he]
   show _<=(B j).refs-1
   omega
  ·rw[bI _ _ _ _ e]
   rw[List.count_cons_of_ne (by omega)] at this
   exact this
theorem bX1 {n:Nat}{B:Nat->Blk}{a:Int}(h0:among n B a=0){j:Nat}(hj:j<n):a∉(B j).kids:=by
 have:=cF5 (n:=n) (B:=B) a hj
 intro hm
 have:=List.count_pos_iff.2 hm
 omega
theorem bN3 {n:Nat}{B:Nat->Blk}{T:List Int}{a:Int}(h:fG n B (a::T))(h1:1<=a)(h2:a<=n)(hr:¬1<(B (a-1).toNat).refs):
 fG n (upd B (a-1).toNat Blk.zero) ((B (a-1).toNat).kids++T)/\(B (a-1).toNat).refs=1/\among n B a=0:=by
 obtain⟨hi,he⟩:=ix h1 h2
 have hh:=h.held _ hi
 rw[he,List.count_cons_self] at hh
 generalize (a-1).toNat=i at *
 have hr1:(B i).refs=1:=by omega
 have ha0:among n B a=0:=by omega
 have ht0:T.count a=0:=by omega
 refine⟨⟨h.small,fun j hj=>?_,fun j hj=>?_,fun k hk=>?_⟩,hr1,ha0⟩
 ·by_cases e:j=i
  ·subst e; rw[upd_same]; exact aO3 _ _
  ·rw[bI _ _ _ _ e]
   refine(h.one j hj).turn rfl rfl rfl (.inl rfl) fun k hk ⟨k1,k2,k3⟩=>?_
   have hne:(k-1).toNat≠i:=fun e2=>bX1 ha0 hj (by have:k=a:=by omega
                                                  rw[<-this]; exact hk)
   rw[bI _ _ _ _ hne]
   exact⟨⟨k1,k2,by rw[bI _ _ _ _ hne]; exact k3⟩,rfl⟩
 ·have hu:=yT (n:=n) (B:=B) Blk.zero ((j:Int)+1) hi
  have hz:Blk.zero.kids.count ((j:Int)+1)=0:=by simp[Blk.zero]
  rw[hz] at hu
  rw[List.count_append]
  by_cases e:j=i
  ·subst e
   rw[upd_same]
   rw[he] at hu ⊢
   show _<=(0:Int)
   omega
  ·rw[bI _ _ _ _ e]
   have:=h.held j hj
   rw[List.count_cons_of_ne (by omega)] at this
   omega
 ·rcases List.mem_append.1 hk with hk | hk
  ·rcases(h.one i hi).kids k hk with h | ⟨⟨h1,h2,_⟩,_⟩
   ·exact .inl h
   ·exact .inr ⟨h1,h2⟩
  ·exact h.pend k (List.mem_cons_of_mem _ hk)
structure iU (n:Nat)(B C:Nat->Blk)(T:List Int):Prop where
 same:∀ i,i<n->C i=Blk.zero\/(1<=(C i).refs/\(C i).refs<=(B i).refs/\(C i).level=(B i).level/\(C i).kids=(B i).kids/\(C i).bytes=(B i).bytes)
 out:∀ i,i<n->(C i).refs-(among n C ((i:Int)+1):Int)=(B i).refs-(among n B ((i:Int)+1):Int)-(T.count ((i:Int)+1):Int)
theorem iU.trans {n:Nat}{B C D:Nat->Blk}{S T:List Int}(h:iU n B C S)(k:iU n C D T):iU n B D (S++T):=by
 refine⟨fun i hi=>?_,fun i hi=>?_⟩
 ·rcases k.same i hi with e | ⟨r1,r2,r3,r4,r5⟩
  ·exact .inl e
  ·rcases h.same i hi with e | ⟨s1,s2,s3,s4,s5⟩
   ·rw[e] at r2
    have:Blk.zero.refs=0:=rfl
    omega
   ·exact .inr ⟨r1,by omega,by rw[r3,s3],by rw[r4,s4],by rw[r5,s5]⟩
 ·have:=h.out i hi
  have:=k.out i hi
  rw[List.count_append]
  omega
theorem vS {n:Nat}{B:Nat->Blk}(h:∀ i,i<n->Form n B (B i)):iU n B B []:=by
 refine⟨fun i hi=>?_,fun i hi=>by simp⟩
 by_cases e:(B i).refs=0
 ·exact .inl ((h i hi).zero e)
 ·have:=(h i hi).bounds
  exact .inr ⟨by omega,Int.le_refl _,rfl,rfl,rfl⟩
theorem iU.skip {n:Nat}{B C:Nat->Blk}{T:List Int}(h:iU n B C T):iU n B C (0::T):=
 ⟨h.same,fun i hi=>by rw[List.count_cons_of_ne (by omega)]; exact h.out i hi⟩
theorem bU8 {n:Nat}{B:Nat->Blk}{a:Int}(h:∀ i,i<n->Form n B (B i))(h1:1<=a)(h2:a<=n)(hr:1<(B (a-1).toNat).refs):
 iU n B (upd B (a-1).toNat { B (a-1).toNat with refs:=(B (a-1).toNat).refs-1 }) [a]:=by
 obtain⟨hi,he⟩:=ix h1 h2
 generalize (a-1).toNat=i at *
 have ham:∀ x,among n (upd B i { B i with refs:=(B i).refs-1 }) x=among n B x:=fun x=>gY x fun j hj=>by
  by_cases e:j=i
  ·subst e; rw[upd_same]
  ·rw[bI _ _ _ _ e]
 refine⟨fun j hj=>?_,fun j hj=>?_⟩
 ·by_cases e:j=i
  ·subst e
   rw[upd_same]
   exact .inr ⟨by show 1<=(B j).refs-1; omega,by show (B j).refs-1<=_; omega,rfl,rfl,rfl⟩
  ·rw[bI _ _ _ _ e]
   exact(vS h).same j hj
 ·rw[ham]
  by_cases e:j=i
  ·subst e
   rw[upd_same,he]
   show (B j).refs-1-_=_
   simp; omega
  ·rw[bI _ _ _ _ e,List.count_cons_of_ne (by omega)]
   simp
theorem bV0 {n:Nat}{B C:Nat->Blk}{a:Int}(h:∀ i,i<n->Form n B (B i))(h1:1<=a)(h2:a<=n)(hr:(B (a-1).toNat).refs=1)(h0:among n B a=0)
 (hf:iU n (upd B (a-1).toNat Blk.zero) C (B (a-1).toNat).kids):iU n B C [a]:=by
 obtain⟨hi,he⟩:=ix h1 h2
 generalize (a-1).toNat=i at *
 refine⟨fun j hj=>?_,fun j hj=>?_⟩
 ·rcases hf.same j hj with e | ⟨r1,r2,r3,r4,r5⟩
  ·exact .inl e
  ·by_cases e:j=i
   ·subst e
    rw[upd_same] at r2
    have:Blk.zero.refs=0:=rfl
    omega
   ·rw[bI _ _ _ _ e] at r2 r3 r4 r5
    exact .inr ⟨r1,r2,r3,r4,r5⟩
 ·have:=hf.out j hj
  have hu:=yT (n:=n) (B:=B) Blk.zero ((j:Int)+1) hi
  have hz:Blk.zero.kids.count ((j:Int)+1)=0:=by simp[Blk.zero]
  rw[hz] at hu
  by_cases e:j=i
  ·subst e
   rw[upd_same] at this
   have z:Blk.zero.refs=0:=rfl
   rw[z] at this
   rw[he] at hu this ⊢
   simp
   omega
  ·rw[bI _ _ _ _ e] at this
   rw[List.count_cons_of_ne (by omega)]
   simp
   omega
theorem iU.level {n:Nat}{B C:Nat->Blk}{T:List Int}(h:iU n B C T){k:Int}(hk:There n C k):(C (k-1).toNat).level=(B (k-1).toNat).level:=by
 obtain⟨h1,h2,h3⟩:=hk
 rcases h.same _ (ix h1 h2).1 with e | ⟨_,_,e,_⟩
 ·rw[e] at h3; exact absurd rfl h3
 ·exact e
theorem aA2 {n:Nat}{B:Nat->Blk}(h:Right n B){a:Int}(h1:1<=a)(h2:a<=n)(hr:(B (a-1).toNat).refs≠(among n B a:Int)):fG n B [a]:=by
 obtain⟨hi,he⟩:=ix h1 h2
 refine⟨h.small,h.one,fun i hi'=>?_,fun k hk=>.inr (by simp at hk; omega)⟩
 have:=h.held i hi'
 simp at this
 by_cases e:(i:Int)+1=a
 ·have ei:(a-1).toNat=i:=by omega
  rw[ei] at hr
  rw[e] at this ⊢
  rw[List.count_cons_self]
  simp; omega
 ·rw[List.count_cons_of_ne (by omega)]
  simp; omega
end Go.Proofs.YtjafgnohlkkopaaGreatDoor
namespace Go.Proofs.YtjafgnohlkkopaaGreatDoor
open Go.RowKit
theorem hid {p:Prop}(h:p):Hid p:=h
theorem aA (w:World)(o:Obj):Below w.heap.size w (w.alloc o):=(Below.refl _ _).alloc (Nat.le_refl _) o
theorem Below.tr {a b c:World}(h:Below a.heap.size a b)(k:Below b.heap.size b c):Below a.heap.size a c:=h.trans (k.mono h.size)
theorem sD (w:World)(a b:Addr)(v:Value)(h:b.block≠a.block):(w.setCell a v).cell? b=w.cell? b:=World.cell?_of_block (Below.heap_setCell w a v b.block h)
theorem oC (w:World)(a b:Addr)(v:Value)(h:b.block≠a.block):(w.setCell a v).frozen? b=w.frozen? b:=World.frozen?_of_block (Below.heap_setCell w a v b.block h)
theorem fC {w:World}{b off:Nat}{v:Value}(h:w.cell? ⟨b,off,none⟩=some v):b<w.heap.size:=by
 rcases Nat.lt_or_ge b w.heap.size with h' | h'
 ·exact h'
 ·have e:w.cell? ⟨b,off,none⟩=none:=by simp[World.cell?,Array.getElem?_eq_none h']
  rw[e] at h
  simp at h
def aC (w:World)(g:Nat)(cs:Array Value)(t:TypeId):Prop:=w.heap[g]? =some (.cells cs t (0,0))
theorem aC.cell {w:World}{g:Nat}{cs:Array Value}{t:TypeId}(h:aC w g cs t)(k:Nat):w.cell? ⟨g,k,none⟩=cs[k]? :=by unfold aC at h; simp[World.cell?,h]
theorem aC.frozen {w:World}{g:Nat}{cs:Array Value}{t:TypeId}(h:aC w g cs t)(k:Nat):w.frozen? ⟨g,k,none⟩=false:=by unfold aC at h; simp[World.frozen?,h]
theorem aC.set {w:World}{g:Nat}{cs:Array Value}{t:TypeId}(h:aC w g cs t)(k:Nat)(v:Value):aC (w.setCell ⟨g,k,none⟩ v) g (cs.setIfInBounds k v) t:=by unfold aC at *; simp[World.setCell,Array.getElem?_modify,h]
theorem aC.past {w:World}{g:Nat}{cs:Array Value}{t:TypeId}(h:aC w g cs t){a:Addr}(ha:g≠a.block)(v:Value):aC (w.setCell a v) g cs t:=by
 unfold aC at *; rw[Below.heap_setCell _ _ _ _ ha]; exact h
theorem aC.lt {w:World}{g:Nat}{cs:Array Value}{t:TypeId}(h:aC w g cs t):g<w.heap.size:=by
 unfold aC at h
 rcases Nat.lt_or_ge g w.heap.size with h' | h'
 ·exact h'
 ·rw[Array.getElem?_eq_none h'] at h; cases h
theorem aC.below {w w':World}{g:Nat}{cs:Array Value}{t:TypeId}(h:aC w g cs t)(hb:Below w.heap.size w w'):aC w' g cs t:=by
 have:=h.lt; unfold aC at *; rw[hb.block g this]; exact h
theorem aB (w:World)(cs:Array Value)(t:TypeId):aC (w.alloc (.cells cs t)) w.heap.size cs t:=heap_alloc_new w _
structure Kept (g:Nat)(w w':World):Prop where
 os:w'.os=w.os
 tape:w'.tape=w.tape
 output:w'.output=w.output
 size:w'.heap.size=w.heap.size
 block:∀ k,k≠g->w'.heap[k]? =w.heap[k]?
theorem Kept.refl (g:Nat)(w:World):Kept g w w:=⟨rfl,rfl,rfl,rfl,fun _ _=>rfl⟩
theorem Kept.trans {g:Nat}{a b c:World}(h:Kept g a b)(k:Kept g b c):Kept g a c:=
 ⟨k.os.trans h.os,k.tape.trans h.tape,k.output.trans h.output,k.size.trans h.size,fun i hi=>(k.block i hi).trans (h.block i hi)⟩
theorem Kept.cell {g:Nat}{w w':World}(h:Kept g w w'){p:Addr}(hp:p.block≠g):w'.cell? p=w.cell? p:=World.cell?_of_block (w:=w) (h.block p.block hp)
theorem Kept.frozen {g:Nat}{w w':World}(h:Kept g w w'){p:Addr}(hp:p.block≠g):w'.frozen? p=w.frozen? p:=World.frozen?_of_block (w:=w) (h.block p.block hp)
theorem Kept.setCell {g:Nat}{a w:World}(h:Kept g a w){p:Addr}(hp:p.block=g)(u:Value):Kept g a (w.setCell p u):=
 h.trans ⟨rfl,rfl,rfl,by simp,fun k hk=>Below.heap_setCell _ _ _ _ (by omega)⟩
theorem Kept.below {g B:Nat}{w w':World}(h:Kept g w w')(hg:B<=g):Below B w w':=⟨h.os,h.tape,h.output,Nat.le_of_eq h.size.symm,fun k hk=>h.block k (by omega)⟩
def aI (Q:Nat->Prop)(k:IntKind)(w:World)(a:Option Addr)(n:Nat)(l:List Int):Prop:=
 l.length=n/\(∀ x∈l,(Lit.int k x).wf=true)/\(0<n->∃ b off,a=some ⟨b,off,none⟩/\b<w.heap.size/\Q b/\∀ i,i<n->w.cell? ⟨b,off+i,none⟩=some (.int k (l.getD i 0)))
theorem aI.below {Q:Nat->Prop}{k:IntKind}{w w':World}{a:Option Addr}{n:Nat}{l:List Int}(h:aI Q k w a n l)(hb:Below w.heap.size w w'):aI Q k w' a n l:=by
 refine⟨h.1,h.2.1,fun hn=>?_⟩
 obtain⟨b,off,rfl,hlt,hq,hc⟩:=h.2.2 hn
 exact⟨b,off,rfl,Nat.lt_of_lt_of_le hlt hb.size,hq,fun i hi=>(hb.cell (p:=⟨b,off+i,none⟩) hlt).trans (hc i hi)⟩
theorem aI.weaken {Q R:Nat->Prop}{k:IntKind}{w:World}{a:Option Addr}{n:Nat}{l:List Int}(h:aI Q k w a n l)(hq:∀ b,b<w.heap.size->Q b->R b):aI R k w a n l:=by
 refine⟨h.1,h.2.1,fun hn=>?_⟩
 obtain⟨b,off,rfl,hlt,q,hc⟩:=h.2.2 hn
 exact⟨b,off,rfl,hlt,hq b hlt q,hc⟩
theorem aI.kept {Q:Nat->Prop}{k:IntKind}{w w':World}{a:Option Addr}{n:Nat}{l:List Int}{g:Nat}(h:aI Q k w a n l)(hq:∀ b,Q b->b≠g)(hk:Kept g w w'):aI Q k w' a n l:=by
 refine⟨h.1,h.2.1,fun hn=>?_⟩
 obtain⟨b,off,rfl,hlt,q,hc⟩:=h.2.2 hn
 exact⟨b,off,rfl,by rw[hk.size]; exact hlt,q,fun i hi=>(hk.cell (p:=⟨b,off+i,none⟩) (hq b q)).trans (hc i hi)⟩
theorem aI.getD {Q:Nat->Prop}{k:IntKind}{w:World}{a:Option Addr}{n:Nat}{l:List Int}(h:aI Q k w a n l){i:Nat}(hi:i<n):l.getD i 0∈l:=by
 have hl:i<l.length:=by rw[h.1]; exact hi
 have e:l.getD i 0=l[i]:=by simp[List.getD,hl]
 rw[e]
 exact List.getElem_mem hl
theorem aI.bd {Q:Nat->Prop}{w:World}{a:Option Addr}{n:Nat}{l:List Int}(h:aI Q .i64 w a n l){x:Int}(hx:x∈l):-9223372036854775808<=x/\x<=9223372036854775807:=by
 have:=bounds_i64 (h.2.1 x hx); omega
theorem dL (Q:Nat->Prop)(k:IntKind)(w:World)(a:Option Addr):aI Q k w a 0 []:=⟨rfl,by simp,fun h=>absurd h (by omega)⟩
structure pQ (Q:Nat->Prop)(w:World)(b off:Nat)(B:Blk)(ka:Option Addr)(kn kc:Nat)(ba:Option Addr)(bn bc:Nat):Prop where
 c0:w.cell? ⟨b,off,none⟩=some (.int .i64 B.refs)
 c1:w.cell? ⟨b,off+1,none⟩=some (.int .i64 B.level)
 c2:w.cell? ⟨b,off+2,none⟩=some (.slice ka kn kc)
 c3:w.cell? ⟨b,off+3,none⟩=some (.slice ba bn bc)
 kids:aI Q .i64 w ka kn B.kids
 bytes:aI Q .u8 w ba bn B.bytes
 refs:-9223372036854775808<=B.refs/\B.refs<=9223372036854775807
 level:-9223372036854775808<=B.level/\B.level<=9223372036854775807
 caps:kn<=kc/\bn<=bc
def dO (Q:Nat->Prop)(w:World)(b off n:Nat)(B:Nat->Blk):Prop:=∀ i,i<n->∃ ka kn kc ba bn bc,pQ Q w b (off+i*4) (B i) ka kn kc ba bn bc
def aN (w:World)(a:Option Addr)(n:Nat)(B:Nat->Blk):Prop:=
 0<n->∃ b off,a=some ⟨b,off,none⟩/\b<w.heap.size/\dO (fun _=>True) w b off n B
theorem pQ.below {Q:Nat->Prop}{w w':World}{b off:Nat}{B:Blk}{ka:Option Addr}{kn kc:Nat}{ba:Option Addr}{bn bc:Nat}(h:pQ Q w b off B ka kn kc ba bn bc)(hb:Below w.heap.size w w'):pQ Q w' b off B ka kn kc ba bn bc:=by
 have hlt:=fC h.c0
 exact⟨(hb.cell (p:=⟨b,off,none⟩) hlt).trans h.c0,(hb.cell (p:=⟨b,off+1,none⟩) hlt).trans h.c1,(hb.cell (p:=⟨b,off+2,none⟩) hlt).trans h.c2,(hb.cell (p:=⟨b,off+3,none⟩) hlt).trans h.c3,h.kids.below hb,h.bytes.below hb,h.refs,h.level,h.caps⟩
theorem dO.below {Q:Nat->Prop}{w w':World}{b off n:Nat}{B:Nat->Blk}(h:dO Q w b off n B)(hb:Below w.heap.size w w'):dO Q w' b off n B:=by
 intro i hi
 obtain⟨ka,kn,kc,ba,bn,bc,h⟩:=h i hi
 exact⟨ka,kn,kc,ba,bn,bc,h.below hb⟩
theorem aN.below {w w':World}{a:Option Addr}{n:Nat}{B:Nat->Blk}(h:aN w a n B)(hb:Below w.heap.size w w'):aN w' a n B:=by
 intro hn
 obtain⟨b,off,rfl,hlt,hB⟩:=h hn
 exact⟨b,off,rfl,Nat.lt_of_lt_of_le hlt hb.size,hB.below hb⟩
structure Own (w:World)(g n:Nat)(B:Nat->Blk):Prop where
 lt:g<w.heap.size
 blocks:dO (fun b=>g<b) w g 0 n B
 free:∀ i,i<n*4->w.frozen? ⟨g,i,none⟩=false
theorem pQ.weaken {Q R:Nat->Prop}{w:World}{b off:Nat}{B:Blk}{ka:Option Addr}{kn kc:Nat}{ba:Option Addr}{bn bc:Nat}(h:pQ Q w b off B ka kn kc ba bn bc)(hq:∀ b,b<w.heap.size->Q b->R b):pQ R w b off B ka kn kc ba bn bc:=
 ⟨h.c0,h.c1,h.c2,h.c3,h.kids.weaken hq,h.bytes.weaken hq,h.refs,h.level,h.caps⟩
theorem dO.weaken {Q R:Nat->Prop}{w:World}{b off n:Nat}{B:Nat->Blk}(h:dO Q w b off n B)(hq:∀ b,b<w.heap.size->Q b->R b):dO R w b off n B:=by
 intro i hi
 obtain⟨ka,kn,kc,ba,bn,bc,h⟩:=h i hi
 exact⟨ka,kn,kc,ba,bn,bc,h.weaken hq⟩
theorem pQ.kept {Q:Nat->Prop}{g:Nat}{w w':World}{b off:Nat}{B:Blk}{ka:Option Addr}{kn kc:Nat}{ba:Option Addr}{bn bc:Nat}(h:pQ Q w b off B ka kn kc ba bn bc)(hg:b≠g)(hq:∀ b,Q b->b≠g)(hk:Kept g w w'):pQ Q w' b off B ka kn kc ba bn bc:=
 ⟨(hk.cell (p:=⟨b,off,none⟩) hg).trans h.c0,(hk.cell (p:=⟨b,off+1,none⟩) hg).trans h.c1,(hk.cell (p:=⟨b,off+2,none⟩) hg).trans h.c2,(hk.cell (p:=⟨b,off+3,none⟩) hg).trans h.c3,h.kids.kept hq hk,h.bytes.kept hq hk,h.refs,h.level,h.caps⟩
theorem dO.kept {Q:Nat->Prop}{g:Nat}{w w':World}{b off n:Nat}{B:Nat->Blk}(h:dO Q w b off n B)(hg:b≠g)(hq:∀ b,Q b->b≠g)(hk:Kept g w w'):dO Q w' b off n B:=by
 intro i hi
 obtain⟨ka,kn,kc,ba,bn,bc,h⟩:=h i hi
 exact⟨ka,kn,kc,ba,bn,bc,h.kept hg hq hk⟩
theorem Own.store {w:World}{g n:Nat}{B:Nat->Blk}(h:Own w g n B):aN w (some ⟨g,0,none⟩) n B:=by
 intro hn
 refine⟨g,0,rfl,h.lt,fun i hi=>?_⟩
 obtain⟨ka,kn,kc,ba,bn,bc,h⟩:=h.blocks i hi
 exact⟨ka,kn,kc,ba,bn,bc,h.weaken fun _ _ _=>trivial⟩
theorem Own.below {w w':World}{g n:Nat}{B:Nat->Blk}(h:Own w g n B)(hb:Below w.heap.size w w'):Own w' g n B:=
 ⟨Nat.lt_of_lt_of_le h.lt hb.size,h.blocks.below hb,fun i hi=>(hb.frozen (p:=⟨g,i,none⟩) h.lt).trans (h.free i hi)⟩
theorem Own.cell {w:World}{g n:Nat}{B:Nat->Blk}(h:Own w g n B){i:Nat}(hi:i<n):∃ ka kn kc ba bn bc,pQ (fun b=>g<b) w g (i*4) (B i) ka kn kc ba bn bc:=by
 have:=h.blocks i hi
 rwa [Nat.zero_add] at this
theorem gX {w:World}{g o:Nat}{u v:Value}(h:w.cell? ⟨g,o,none⟩=some u):(w.setCell ⟨g,o,none⟩ v).cell? ⟨g,o,none⟩=some v:=World.cell?_setCell_same _ _ _ h
theorem aJ {w:World}{g o q:Nat}{v:Value}(h:o≠q):(w.setCell ⟨g,o,none⟩ v).cell? ⟨g,q,none⟩=w.cell? ⟨g,q,none⟩:=World.cell?_setCell_other w _ _ _ (fun e=>h (congrArg Addr.off e))
theorem Own.refs {w:World}{g n:Nat}{B:Nat->Blk}(h:Own w g n B){i:Nat}(hi:i<n)(r:Int)(hr:-9223372036854775808<=r/\r<=9223372036854775807):
 Own (w.setCell ⟨g,i*4,none⟩ (.int .i64 r)) g n (upd B i { B i with refs:=r }):=by
 have hk:Kept g w (w.setCell ⟨g,i*4,none⟩ (.int .i64 r)):=Kept.setCell (g:=g) (Kept.refl _ _) (p:=⟨g,i*4,none⟩) rfl _
 refine⟨by simpa using h.lt,fun j hj=>?_,fun j hj=>by simpa using h.free j hj⟩
 obtain⟨ka,kn,kc,ba,bn,bc,b⟩:=h.cell hj
 rw[Nat.zero_add]
 by_cases e:j=i
 ·subst e
  refine⟨ka,kn,kc,ba,bn,bc,?_,?_,?_,?_,?_,?_,?_,?_,b.caps⟩
  ·rw[upd_same]; exact gX b.c0
  ·rw[upd_same,aJ (by omega)]; exact b.c1
  ·rw[aJ (by omega)]; exact b.c2
  ·rw[aJ (by omega)]; exact b.c3
  ·rw[upd_same]; exact b.kids.kept (fun _ h=>by omega) hk
  ·rw[upd_same]; exact b.bytes.kept (fun _ h=>by omega) hk
  ·rw[upd_same]; exact hr
  ·rw[upd_same]; exact b.level
 ·rw[bI _ _ _ _ e]
  refine⟨ka,kn,kc,ba,bn,bc,?_,?_,?_,?_,b.kids.kept (fun _ h=>by omega) hk,b.bytes.kept (fun _ h=>by omega) hk,b.refs,b.level,b.caps⟩
  ·rw[aJ (by omega)]; exact b.c0
  ·rw[aJ (by omega)]; exact b.c1
  ·rw[aJ (by omega)]; exact b.c2
  ·rw[aJ (by omega)]; exact b.c3
abbrev cA0 (w:World)(g o:Nat)(v0 v1 v2 v3:Value):World:=(((w.setCell ⟨g,o,none⟩ v0).setCell ⟨g,o+1,none⟩ v1).setCell ⟨g,o+2,none⟩ v2).setCell ⟨g,o+3,none⟩ v3
theorem jG (w:World)(g o:Nat)(v0 v1 v2 v3:Value):Kept g w (cA0 w g o v0 v1 v2 v3):=
 Kept.setCell (g:=g) (Kept.setCell (g:=g) (Kept.setCell (g:=g) (Kept.setCell (g:=g) (Kept.refl _ _) (p:=⟨g,o,none⟩) rfl _) (p:=⟨g,o+1,none⟩) rfl _) (p:=⟨g,o+2,none⟩) rfl _) (p:=⟨g,o+3,none⟩) rfl _
theorem Own.put {w:World}{g n:Nat}{B:Nat->Blk}(h:Own w g n B){i:Nat}(hi:i<n)(K:Blk)(ka:Option Addr)(kn kc:Nat)(ba:Option Addr)(bn bc:Nat)
 (hK:aI (fun b=>g<b) .i64 w ka kn K.kids) (hB:aI (fun b=>g<b) .u8 w ba bn K.bytes) (hr:-9223372036854775808<=K.refs/\K.refs<=9223372036854775807) (hl:-9223372036854775808<=K.level/\K.level<=9223372036854775807) (hc:kn<=kc/\bn<=bc):
 Own (cA0 w g (i*4) (.int .i64 K.refs) (.int .i64 K.level) (.slice ka kn kc) (.slice ba bn bc)) g n (upd B i K):=by
 have hk:=jG w g (i*4) (.int .i64 K.refs) (.int .i64 K.level) (.slice ka kn kc) (.slice ba bn bc)
 refine⟨by rw[hk.size]; exact h.lt,fun j hj=>?_,fun j hj=>by simpa using h.free j hj⟩
 obtain⟨ka', kn', kc', ba', bn', bc', b⟩:=h.cell hj
 rw[Nat.zero_add]
 by_cases e:j=i
 ·subst e
  rw[upd_same]
  refine⟨ka,kn,kc,ba,bn,bc,?_,?_,?_,?_,hK.kept (fun _ h=>by omega) hk,hB.kept (fun _ h=>by omega) hk,hr,hl,hc⟩
  ·rw[aJ (by omega),aJ (by omega),aJ (by omega)]; exact gX b.c0
  ·rw[aJ (by omega),aJ (by omega)]; exact gX (u:=.int .i64 (B j).level) (by rw[aJ (by omega)]; exact b.c1)
  ·rw[aJ (by omega)]; exact gX (u:=.slice ka' kn' kc') (by rw[aJ (by omega),aJ (by omega)]; exact b.c2)
  ·exact gX (u:=.slice ba' bn' bc') (by rw[aJ (by omega),aJ (by omega),aJ (by omega)]; exact b.c3)
 ·rw[bI _ _ _ _ e]
  refine⟨ka', kn', kc', ba', bn', bc', ?_,?_,?_,?_,b.kids.kept (fun _ h=>by omega) hk,b.bytes.kept (fun _ h=>by omega) hk,b.refs,b.level,b.caps⟩
  ·rw[aJ (by omega),aJ (by omega),aJ (by omega),aJ (by omega)]; exact b.c0
  ·rw[aJ (by omega),aJ (by omega),aJ (by omega),aJ (by omega)]; exact b.c1
  ·rw[aJ (by omega),aJ (by omega),aJ (by omega),aJ (by omega)]; exact b.c2
  ·rw[aJ (by omega),aJ (by omega),aJ (by omega),aJ (by omega)]; exact b.c3
theorem dO.congr {Q:Nat->Prop}{w:World}{b off n:Nat}{B C:Nat->Blk}(h:dO Q w b off n B)(e:∀ i,i<n->B i=C i):dO Q w b off n C:=by
 intro i hi
 rw[<-e i hi]
 exact h i hi
theorem Own.congr {w:World}{g n:Nat}{B C:Nat->Blk}(h:Own w g n B)(e:∀ i,i<n->B i=C i):Own w g n C:=⟨h.lt,h.blocks.congr e,h.free⟩
theorem below_drewN (B:Nat)(w:World)(n:Nat):Below B w (w.drewN n):=⟨rfl,rfl,rfl,Nat.le_refl _,fun _ _=>rfl⟩
def cT2 (e:Ending)(p:Prop):Prop:=∃ t,e=.returned (.bool t)/\(t=true↔p)
def aY1 (e:Ending)(p:Prop):Prop:=∃ c:Int,e=.returned (.int .i64 c)/\(c=0↔p)
def zB (e:Ending)(p:Prop)(S:Int->Prop):Prop:=∃ c:Int,e=.returned (.int .i64 c)/\(c=0↔p)/\(c≠0->S c)
theorem zB.ret {e:Ending}{p:Prop}{S:Int->Prop}(h:zB e p S):aY1 e p:=by
 obtain⟨c,rfl,hc,_⟩:=h
 exact⟨c,rfl,hc⟩
theorem zB.iff {e:Ending}{p q:Prop}{S:Int->Prop}(h:zB e p S)(hq:p↔q):zB e q S:=by
 obtain⟨c,rfl,hc,hs⟩:=h
 exact⟨c,rfl,hc.trans hq,hs⟩
theorem aU {p:Prop}{S:Int->Prop}(c:Int)(hc:c≠0)(h:¬p)(s:S c):zB (.returned (.int .i64 c)) p S:=⟨c,rfl,⟨fun e=>absurd e hc,fun e=>absurd e h⟩,fun _=>s⟩
theorem gV {p:Prop}{S:Int->Prop}(h:p):zB (.returned (.int .i64 0)) p S:=⟨0,rfl,⟨fun _=>h,fun _=>rfl⟩,fun e=>absurd rfl e⟩
theorem uT (p:Addr)(b off n c i:Nat)(w:World)(hn:n<=400)(hs:w.cell? p=some (.slice (some ⟨b,off,none⟩) n c))(hi:i<n):
 Calls Tryz.prog 109 #[.pointer (some p),.int .i64 ((i:Int)+1)] w fun e w'=>e=.returned (.pointer (some ⟨b,off+i*4,none⟩))/\w'=w:=by
 go_enter Tryz.func109,Tryz.ntmps109
 go_wp2
 go_ret
 exact⟨rfl,rfl⟩
theorem nM (p:Addr)(a:Option Addr)(n c:Nat)(B:Nat->Blk)(x:Int)(w:World)(hn:n<=400)(hs:w.cell? p=some (.slice a n c))(hS:aN w a n B):
 Calls Tryz.prog 107 #[.pointer (some p),.int .i64 x] w fun e w'=>cT2 e (There n B x)/\w'=w:=by
 by_cases h1:x<1
 ·go_enter Tryz.func107,Tryz.ntmps107
  go_wp2_with fail
  go_ret
  exact⟨⟨_,rfl,by simp[There]; omega⟩,rfl⟩
 ·by_cases h2:(n:Int)<x
  ·go_enter Tryz.func107,Tryz.ntmps107
   go_wp2_with fail
   go_ret
   exact⟨⟨_,rfl,by simp[There]; omega⟩,rfl⟩
  ·obtain⟨i,rfl⟩:∃ i:Nat,x=(i:Int)+1:=⟨(x-1).toNat,by omega⟩
   have hi:i<n:=by omega
   obtain⟨b,off,rfl,hlt,hB⟩:=hS (by omega)
   obtain⟨ka,kn,kc,ba,bn,bc,hb⟩:=hB i hi
   have hc:=hb.c0
   have hr:((!(B i).refs == 0)=true↔There n B ((i:Int)+1)):=by
    have e:((i:Int)+1-1).toNat=i:=by omega
    simp only[There,e]
    simp; omega
   replace hr:=hid hr
   clear hb hB hS
   generalize (B i).refs=r at *
   go_enter Tryz.func107,Tryz.ntmps107
   go_wp2_with fail
   refine(uT p b off n c i _ hn hs hi).mono ?_
   rintro e w1 ⟨rfl,rfl⟩
   go_wp2_with fail
   go_ret
   exact⟨⟨_,rfl,hr.out⟩,rfl⟩
theorem aJ1 (p:Addr)(a:Option Addr)(n c:Nat)(B:Nat->Blk)(x:Int)(w:World)(hn:n<=400)(hs:w.cell? p=some (.slice a n c))(hS:aN w a n B)(h:There n B x):
 Calls Tryz.prog 107 #[.pointer (some p),.int .i64 x] w fun e w'=>e=.returned (.bool true)/\w'=w:=by
 refine(nM p a n c B x w hn hs hS).mono ?_
 rintro e w' ⟨⟨t,rfl,ht⟩,rfl⟩
 exact⟨by rw[ht.2 h],rfl⟩
theorem bY3 (p:Addr)(a:Option Addr)(n c:Nat)(B:Nat->Blk)(x:Int)(w:World)(hn:n<=400)(hs:w.cell? p=some (.slice a n c))(hS:aN w a n B)(h:¬There n B x):
 Calls Tryz.prog 107 #[.pointer (some p),.int .i64 x] w fun e w'=>e=.returned (.bool false)/\w'=w:=by
 refine(nM p a n c B x w hn hs hS).mono ?_
 rintro e w' ⟨⟨t,rfl,ht⟩,rfl⟩
 refine⟨?_,rfl⟩
 cases t
 ·rfl
 ·exact absurd (ht.1 rfl) h
theorem aX6 (b off:Nat)(Q:Nat->Prop)(K:Blk)(ka:Option Addr)(kn kc:Nat)(ba:Option Addr)(bn bc:Nat)(w:World)(h:pQ Q w b off K ka kn kc ba bn bc):
 Calls Tryz.prog 104 #[.pointer (some ⟨b,off,none⟩)] w fun e w'=>zB e (K.kids=[]/\K.bytes.length=4) (fun c=>c=4)/\w'=w:=by
 have c2:=h.c2
 have c3:=h.c3
 have hk:K.kids=[]↔kn=0:=by rw[<-h.kids.1]; exact List.length_eq_zero_iff.symm
 have hb:K.bytes.length=4↔bn=4:=by rw[h.bytes.1]
 clear h
 have hk:∀ e,zB e (K.kids=[]/\K.bytes.length=4) (fun c=>c=4)↔zB e (kn=0/\bn=4) (fun c=>c=4):=fun e=>by rw[hk,hb]
 simp only[hk]
 clear hk hb
 by_cases h0:kn=0
 ·by_cases h4:bn=4
  ·subst h0 h4
   go_enter Tryz.func104,Tryz.ntmps104
   go_wp2_with fail
   go_ret
   exact⟨gV (by simp),rfl⟩
  ·have h4':((bn:Int) == 4)=false:=by simp; omega
   have h0':((kn:Int) == 0)=true:=by simp; omega
   go_enter Tryz.func104,Tryz.ntmps104
   go_wp2_with fail
   go_ret
   exact⟨aU 4 (by omega) (by omega) rfl,rfl⟩
 ·have h0':((kn:Int) == 0)=false:=by simp; omega
  go_enter Tryz.func104,Tryz.ntmps104
  go_wp2_with fail
  go_ret
  exact⟨aU 4 (by omega) (by omega) rfl,rfl⟩
def jL (n:Nat)(B:Nat->Blk)(lv:Int)(l:List Int)(j:Nat)(some:Bool):Prop:=
 mK n B lv (l.take j)/\(some=true↔∃ k∈l.take j,k≠0)
theorem aN1 (n:Nat)(B:Nat->Blk)(lv:Int)(l:List Int):jL n B lv l 0 false:=by simp[jL,mK]
theorem fJ {l:List Int}{j:Nat}(h:j<l.length):l.take (j+1)=l.take j++[l.getD j 0]:=by
 rw[List.take_add_one]; simp[List.getD,h]
theorem jL.skip {n:Nat}{B:Nat->Blk}{lv:Int}{l:List Int}{j:Nat}{some:Bool}(h:jL n B lv l j some)(hj:j<l.length)(h0:l.getD j 0=0):jL n B lv l (j+1) some:=by
 unfold jL mK at *
 rw[fJ hj,h0]
 simp only[List.mem_append,List.mem_singleton]
 refine⟨fun k hk=>?_,h.2.trans ⟨fun⟨k,h1,h2⟩=>⟨k,.inl h1,h2⟩,fun⟨k,h1,h2⟩=>⟨k,h1.resolve_right h2,h2⟩⟩⟩
 rcases hk with hk | hk
 ·exact h.1 k hk
 ·exact .inl hk
theorem jL.next {n:Nat}{B:Nat->Blk}{lv:Int}{l:List Int}{j:Nat}{some:Bool}(h:jL n B lv l j some)(hj:j<l.length)(h0:l.getD j 0≠0)(ht:There n B (l.getD j 0))(hl:(B (l.getD j 0-1).toNat).level=lv-1):jL n B lv l (j+1) true:=by
 unfold jL mK at *
 rw[fJ hj]
 simp only[List.mem_append,List.mem_singleton]
 refine⟨fun k hk=>?_,by simp only[true_iff]; exact⟨_,.inr rfl,h0⟩⟩
 rcases hk with hk | hk
 ·exact h.1 k hk
 ·rw[hk]; exact .inr ⟨ht,hl⟩
def nI (n:Nat)(B:Nat->Blk)(K:Blk):Prop:=K.kids.length=4/\K.bytes=[]/\mK n B K.level K.kids/\∃ k∈K.kids,k≠0
def sJ (n:Nat)(B:Nat->Blk)(K:Blk):Prop:=K.kids.length=4/\K.bytes=[]/\¬mK n B K.level K.kids
theorem sJ.no {n:Nat}{B:Nat->Blk}{K:Blk}(h:sJ n B K):¬nI n B K:=fun f=>h.2.2 f.2.2.1
def bT1 (n:Nat)(B:Nat->Blk)(K:Blk)(c:Int):Prop:=c=5/\sJ n B K\/c=4/\¬sJ n B K
theorem aE2 {p:Prop}(c:Int)(hc:c≠0)(h:¬p):aY1 (.returned (.int .i64 c)) p:=⟨c,rfl,fun e=>absurd e hc,fun e=>absurd e h⟩
theorem bA4 {p:Prop}(h:p):aY1 (.returned (.int .i64 0)) p:=⟨0,rfl,fun _=>h,fun _=>rfl⟩
theorem aX7 (p:Addr)(a:Option Addr)(n c:Nat)(B:Nat->Blk)(b off:Nat)(Q:Nat->Prop)(K:Blk)(ka:Option Addr)(kn kc:Nat)(ba:Option Addr)(bn bc:Nat)(w:World)
 (hn:n<=400) (hs:w.cell? p=some (.slice a n c)) (hS:aN w a n B) (h:pQ Q w b off K ka kn kc ba bn bc) (hlv:0<=K.level/\K.level<=3):
 Calls Tryz.prog 105 #[.pointer (some p),.pointer (some ⟨b,off,none⟩)] w fun e w'=>zB e (nI n B K) (bT1 n B K)/\∃ m,w'=w.drewN m:=by
 have c1:=h.c1
 have c2:=h.c2
 have c3:=h.c3
 by_cases h4:kn=4
 ·by_cases h0:bn=0
  ·subst h4 h0
   have hA:Hid (K.kids.length=4/\K.bytes=[]):=hid ⟨h.kids.1,List.length_eq_zero_iff.1 h.bytes.1⟩
   go_enter Tryz.func105,Tryz.ntmps105
   go_wp2_with fail
   go_loopw [5,27] (fun s i wr=>∃ (j:Nat) (t:Bool) (m:Nat),j<=4/\i=.int .i64 j/\s=.bool t/\jL n B K.level K.kids j t/\wr=w.drewN m) (fun _ i _=>4-(Go.RowKit.intOf i).toNat)
   case atStart=>exact⟨0,false,0,by omega,rfl,rfl,aN1 _ _ _ _,rfl⟩
   case round=>
    obtain⟨j,t,m,hj,rfl,rfl,hinv,hwr⟩:=hrel
    have hkl:=h.kids.1
    have hbl:=h.bytes.1
    have hbel:Below w.heap.size w wr:=hwr▸below_drewN w.heap.size w m
    replace h:=h.below hbel
    replace hS:=hS.below hbel
    replace hs:wr.cell? p=some (.slice a n c):=by rw[hwr]; exact hs
    replace c1:=h.c1
    clear c2 c3 hbel
    replace hwr:=hid hwr
    by_cases hlt:j<4
    ·obtain⟨kb,ko,rfl,hkb,_,hc⟩:=h.kids.2.2 (by omega)
     have hck:wr.cell? ⟨kb,ko+j,none⟩=some (.int .i64 (K.kids.getD j 0)):=hc j hlt
     have hbd:=h.kids.bd (h.kids.getD hlt)
     have hjl:j<K.kids.length:=by omega
     have I1:=hid (fun e=>hinv.skip hjl e)
     have I2:=hid (fun e f g=>hinv.next hjl e f g)
     have I3:Hid (K.kids.getD j 0∈K.kids):=hid (h.kids.getD hlt)
     clear hc hinv hkl hbl hjl h
     generalize K.kids.getD j 0=x at *
     by_cases hx0:x=0
     ·have hx0':(x == 0)=true:=by simp[hx0]
      go_wp2_with fail
      go_roundw
      case rel=>exact⟨j+1,t,m,by omega,by go_num,rfl,I1.out hx0,hwr.out⟩
      case measure=>simp[Go.RowKit.intOf]; omega
     ·have hx0':(x == 0)=false:=by simp[hx0]
      by_cases ht:There n B x
      ·obtain⟨i,rfl⟩:∃ i:Nat,x=(i:Int)+1:=⟨(x-1).toNat,by have:=ht.1; omega⟩
       have hi:i<n:=by have:=ht.2.1; omega
       obtain⟨sb,so,rfl,hsb,hB⟩:=hS (by omega)
       obtain⟨ka', kn', kc', ba', bn', bc', hb'⟩:=hB i hi
       have hlc:=hb'.c1
       have ei:((i:Int)+1-1).toNat=i:=by omega
       rw[ei] at I2
       have J3:(B i).level≠K.level-1->sJ n B K:=by
        intro hne
        refine⟨hA.out.1,hA.out.2,fun hk=>?_⟩
        rcases hk _ I3.out with h | ⟨_,h⟩
        ·omega
        ·rw[ei] at h; exact hne h
       replace J3:=hid J3
       clear hB hb' ei
       replace hS:=hid hS
       generalize hlev:(B i).level=lv at *
       replace hlev:=hid hlev
       replace ht:=hid ht
       generalize hkl:K.level=kl at *
       replace hkl:=hid hkl
       by_cases hl:lv=kl-1
       ·have hl':(lv == kl-1)=true:=by simp[hl]
        go_wp2_with fail
        go_quiet (first | (go_at_call 107; refine Calls.quiet_of_same (aJ1 p (some ⟨sb,so,none⟩) n c B _ _ hn ?_ ?_ ht.out); exact hs; exact hS.out.below (below_drewN _ _ _)) | (go_at_call 109; refine Calls.quiet_of_same (uT p sb so n c i _ hn ?_ hi); exact hs))
        go_wp2_with fail
        go_roundw
        case rel=>exact⟨j+1,true,m+nq,by omega,by go_num,rfl,I2.out hx0 ht.out hl,by rw[hwr.out,World.drewN_drewN]⟩
        case measure=>simp[Go.RowKit.intOf]; omega
       ·have hl':(lv == kl-1)=false:=by simp[hl]
        go_wp2_with fail
        go_quiet (first | (go_at_call 107; refine Calls.quiet_of_same (aJ1 p (some ⟨sb,so,none⟩) n c B _ _ hn ?_ ?_ ht.out); exact hs; exact hS.out.below (below_drewN _ _ _)) | (go_at_call 109; refine Calls.quiet_of_same (uT p sb so n c i _ hn ?_ hi); exact hs))
        go_wp2_with fail
        go_ret
        exact⟨aU 5 (by omega) (J3.out hl).no (.inl ⟨rfl,J3.out hl⟩),m+nq,by rw[hwr.out,World.drewN_drewN]⟩
      ·have J3:sJ n B K:=by
        refine⟨hA.out.1,hA.out.2,fun hk=>?_⟩
        rcases hk _ I3.out with h | ⟨h,_⟩
        ·exact hx0 h
        ·exact ht h
       replace J3:=hid J3
       replace hS:=hid hS
       replace ht:=hid ht
       go_wp2_with fail
       go_quiet (first | (go_at_call 107; refine Calls.quiet_of_same (bY3 p a n c B _ _ hn ?_ ?_ ht.out); exact hs; exact hS.out.below (below_drewN _ _ _)))
       go_wp2_with fail
       go_ret
       exact⟨aU 5 (by omega) J3.out.no (.inl ⟨rfl,J3.out⟩),m+nq,by rw[hwr.out,World.drewN_drewN]⟩
    ·obtain rfl:j=4:=by omega
     have hb0:K.bytes=[]:=List.length_eq_zero_iff.1 hbl
     have J:t=true↔nI n B K:=by
      have e4:K.kids.take 4=K.kids:=List.take_of_length_le (by omega)
      unfold jL at hinv
      rw[e4] at hinv
      exact⟨fun e=>⟨hkl,hb0,hinv.1,hinv.2.1 e⟩,fun e=>hinv.2.2 e.2.2.2⟩
     replace J:=hid J
     have J5:Hid (¬sJ n B K):=hid fun f=>f.2.2 (by have:=hinv.1; rwa [List.take_of_length_le (by omega)] at this)
     clear hinv hkl hbl hb0 h hS
     cases t
     ·go_wp2_with fail
      go_ret
      exact⟨aU 4 (by omega) (by simpa using J.out) (.inr ⟨rfl,J5.out⟩),m,hwr.out⟩
     ·go_wp2_with fail
      go_ret
      exact⟨gV (by simpa using J.out),m,hwr.out⟩
  ·have h0':((bn:Int) == 0)=false:=by simp; omega
   have h4':((kn:Int) == 4)=true:=by simp; omega
   have J:Hid (¬nI n B K):=hid fun⟨_,hb,_⟩=>h0 (by rw[<-h.bytes.1,hb]; rfl)
   have J5:Hid (¬sJ n B K):=hid fun⟨_,hb,_⟩=>h0 (by rw[<-h.bytes.1,hb]; rfl)
   clear h hS
   go_enter Tryz.func105,Tryz.ntmps105
   go_wp2_with fail
   go_ret
   exact⟨aU 4 (by omega) J.out (.inr ⟨rfl,J5.out⟩),0,rfl⟩
 ·have h4':((kn:Int) == 4)=false:=by simp; omega
  have J:Hid (¬nI n B K):=hid fun⟨hk,_⟩=>h4 (by rw[<-h.kids.1,hk])
  have J5:Hid (¬sJ n B K):=hid fun⟨hk,_⟩=>h4 (by rw[<-h.kids.1,hk])
  clear h hS
  go_enter Tryz.func105,Tryz.ntmps105
  go_wp2_with fail
  go_ret
  exact⟨aU 4 (by omega) J.out (.inr ⟨rfl,J5.out⟩),0,rfl⟩
theorem aY1.iff {e:Ending}{p q:Prop}(h:aY1 e p)(hq:p↔q):aY1 e q:=by
 obtain⟨c,rfl,hc⟩:=h
 exact⟨c,rfl,hc.trans hq⟩
theorem bU3 (n:Nat)(B:Nat->Blk)(K:Blk)(h:K.refs=0):Form n B K↔K.level=0/\K.kids=[]/\K.bytes=[]:=by
 unfold Form
 exact⟨fun e=>by rcases e with e | e; · exact e.2
                 ·exact absurd h (by have:=e.1.1; omega),fun e=>.inl ⟨h,e⟩⟩
theorem bU1 (n:Nat)(B:Nat->Blk)(K:Blk)(h:1<=K.refs/\K.refs<=1000000)(hl:K.level=0):Form n B K↔K.kids=[]/\K.bytes.length=4:=by
 unfold Form
 refine⟨fun e=>?_,fun e=>.inr ⟨by omega,.inl ⟨hl,e⟩⟩⟩
 rcases e with e | ⟨_,e | e⟩
 ·exact absurd e.1 (by omega)
 ·exact e.2
 ·exact absurd e.1 (by omega)
theorem bU2 (n:Nat)(B:Nat->Blk)(K:Blk)(h:1<=K.refs/\K.refs<=1000000)(hl:1<=K.level/\K.level<=3):Form n B K↔nI n B K:=by
 unfold Form nI
 refine⟨fun e=>?_,fun e=>.inr ⟨by omega,.inr ⟨hl.1,e⟩⟩⟩
 rcases e with e | ⟨_,e | e⟩
 ·exact absurd e.1 (by omega)
 ·exact absurd e.1 (by omega)
 ·exact e.2
theorem bJ1 (n:Nat)(B:Nat->Blk)(K:Blk)(h:¬(0<=K.refs/\K.refs<=1000000/\0<=K.level/\K.level<=3)):¬Form n B K:=fun e=>h e.bounds
def cU1 (K:Blk):Prop:=K.refs<0\/1000000<K.refs\/K.level<0\/3<K.level
def cI3 (n:Nat)(B:Nat->Blk)(K:Blk)(c:Int):Prop:=c=4/\K.refs=0\/c=3/\K.refs≠0/\cU1 K\/c=4/\K.refs≠0/\¬cU1 K/\K.level=0\/K.refs≠0/\¬cU1 K/\K.level≠0/\bT1 n B K c
theorem uS (p:Addr)(a:Option Addr)(n c:Nat)(B:Nat->Blk)(b off:Nat)(Q:Nat->Prop)(K:Blk)(ka:Option Addr)(kn kc:Nat)(ba:Option Addr)(bn bc:Nat)(w:World)
 (hn:n<=400) (hs:w.cell? p=some (.slice a n c)) (hS:aN w a n B) (h:pQ Q w b off K ka kn kc ba bn bc):
 Calls Tryz.prog 79 #[.pointer (some p),.pointer (some ⟨b,off,none⟩)] w fun e w'=>zB e (Form n B K) (cI3 n B K)/\∃ m,w'=w.drewN m:=by
 have c0:=h.c0
 have c1:=h.c1
 have c2:=h.c2
 have c3:=h.c3
 have hkl:K.kids=[]↔kn=0:=by rw[<-h.kids.1]; exact List.length_eq_zero_iff.symm
 have hbl:K.bytes=[]↔bn=0:=by rw[<-h.bytes.1]; exact List.length_eq_zero_iff.symm
 have hr:=h.refs
 have hl:=h.level
 replace hS:=hid hS
 replace h:=hid h
 by_cases hr0:K.refs=0
 ·have hr0':(K.refs == 0)=true:=by simp[hr0]
  have J:=hid (bU3 n B K hr0)
  have S4:Hid (cI3 n B K 4):=hid (.inl ⟨rfl,hr0⟩)
  generalize hRefs:K.refs=r at *
  generalize hLev:K.level=lv at *
  replace hRefs:=hid hRefs
  replace hLev:=hid hLev
  have J2:Hid (Form n B K↔lv=0/\kn=0/\bn=0):=hid (by rw[J.out,hkl,hbl])
  clear J hkl hbl
  by_cases hlv:lv=0
  ·have hlv':(lv == 0)=true:=by simp[hlv]
   by_cases hk:kn=0
   ·by_cases hb:bn=0
    ·have hk':((kn:Int) == 0)=true:=by simp[hk]
     have hb':((bn:Int) == 0)=true:=by simp[hb]
     go_enter Tryz.func79,Tryz.ntmps79
     go_wp2_with fail
     go_ret
     exact⟨gV (J2.out.2 ⟨hlv,hk,hb⟩),0,rfl⟩
    ·have hk':((kn:Int) == 0)=true:=by simp[hk]
     have hb':((bn:Int) == 0)=false:=by simp; omega
     go_enter Tryz.func79,Tryz.ntmps79
     go_wp2_with fail
     go_ret
     exact⟨aU 4 (by omega) (fun e=>hb (J2.out.1 e).2.2) S4.out,0,rfl⟩
   ·have hk':((kn:Int) == 0)=false:=by simp; omega
    go_enter Tryz.func79,Tryz.ntmps79
    go_wp2_with fail
    go_ret
    exact⟨aU 4 (by omega) (fun e=>hk (J2.out.1 e).2.1) S4.out,0,rfl⟩
  ·have hlv':(lv == 0)=false:=by simp[hlv]
   go_enter Tryz.func79,Tryz.ntmps79
   go_wp2_with fail
   go_ret
   exact⟨aU 4 (by omega) (fun e=>hlv (J2.out.1 e).1) S4.out,0,rfl⟩
 ·have hr0':(K.refs == 0)=false:=by simp[hr0]
  clear hkl hbl
  have R:=hid (bJ1 n B K)
  have L:=hid (bU1 n B K)
  have N:=hid (bU2 n B K)
  have S3:Hid ((K.refs<0\/1000000<K.refs\/K.level<0\/3<K.level)->cI3 n B K 3):=hid fun f=>.inr (.inl ⟨rfl,hr0,f⟩)
  have SL:Hid (¬(K.refs<0\/1000000<K.refs\/K.level<0\/3<K.level)->K.level=0->cI3 n B K 4):=hid fun f g=>.inr (.inr (.inl ⟨rfl,hr0,f,g⟩))
  have SK:Hid (¬(K.refs<0\/1000000<K.refs\/K.level<0\/3<K.level)->K.level≠0->∀ c,bT1 n B K c->cI3 n B K c):=hid fun f g c k=>.inr (.inr (.inr ⟨hr0,f,g,k⟩))
  generalize K.refs=r at *
  generalize hLev:K.level=lv at *
  replace hLev:=hid hLev
  by_cases r1:r<0
  ·go_enter Tryz.func79,Tryz.ntmps79
   go_wp2_with fail
   go_ret
   exact⟨aU 3 (by omega) (R.out (by omega)) (S3.out (by omega)),0,rfl⟩
  ·by_cases r2:1000000<r
   ·go_enter Tryz.func79,Tryz.ntmps79
    go_wp2_with fail
    go_ret
    exact⟨aU 3 (by omega) (R.out (by omega)) (S3.out (by omega)),0,rfl⟩
   ·by_cases l1:lv<0
    ·go_enter Tryz.func79,Tryz.ntmps79
     go_wp2_with fail
     go_ret
     exact⟨aU 3 (by omega) (R.out (by omega)) (S3.out (by omega)),0,rfl⟩
    ·by_cases l2:3<lv
     ·go_enter Tryz.func79,Tryz.ntmps79
      go_wp2_with fail
      go_ret
      exact⟨aU 3 (by omega) (R.out (by omega)) (S3.out (by omega)),0,rfl⟩
     ·by_cases l0:lv=0
      ·have l0':(lv == 0)=true:=by simp[l0]
       go_enter Tryz.func79,Tryz.ntmps79
       go_wp2_with fail
       refine(aX6 b off Q K ka kn kc ba bn bc _ h.out).mono ?_
       rintro e w1 ⟨he,rfl⟩
       replace he:=he.iff (L.out (by omega) l0).symm
       obtain⟨c,rfl,hc,hs2⟩:=he
       replace hc:=hid hc
       replace hs2:=hid hs2
       go_wp2_with fail
       go_ret
       exact⟨⟨c,rfl,hc.out,fun f=>by rw[hs2.out f]; exact SL.out (by omega) l0⟩,0,rfl⟩
      ·have l0':(lv == 0)=false:=by simp[l0]
       go_enter Tryz.func79,Tryz.ntmps79
       go_wp2_with fail
       refine(aX7 p a n c B b off Q K ka kn kc ba bn bc _ hn hs hS.out h.out ?_).mono ?_
       ·rw[hLev.out]; omega
       rintro e w1 ⟨he,m,rfl⟩
       replace he:=he.iff (N.out (by omega) (by omega)).symm
       obtain⟨c,rfl,hc,hs2⟩:=he
       replace hc:=hid hc
       replace hs2:=hid hs2
       go_wp2_with fail
       go_ret
       exact⟨⟨c,rfl,hc.out,fun f=>SK.out (by omega) l0 c (hs2.out f)⟩,m,rfl⟩
theorem zL (p:Addr)(a:Option Addr)(n c:Nat)(B:Nat->Blk)(b off:Nat)(Q:Nat->Prop)(K:Blk)(ka:Option Addr)(kn kc:Nat)(ba:Option Addr)(bn bc:Nat)(w:World)
 (hn:n<=400) (hs:w.cell? p=some (.slice a n c)) (hS:aN w a n B) (h:pQ Q w b off K ka kn kc ba bn bc):
 Calls Tryz.prog 79 #[.pointer (some p),.pointer (some ⟨b,off,none⟩)] w fun e w'=>aY1 e (Form n B K)/\∃ m,w'=w.drewN m:=(uS p a n c B b off Q K ka kn kc ba bn bc w hn hs hS h).mono fun _ _ f=>⟨f.1.ret,f.2⟩
theorem Tryz.infoInt:(Tryz.prog.info? 3).map (fun i=>(i.zero,i.size,i.bytes))=some (some (.int .i64 0),1,8):=by kernel_rfl
theorem cH6 {n:Nat}{B:Nat->Blk}{x:Int}{q:Prop}(h:x=0\/(There n B x/\q))(h0:¬x=0):∃ m:Nat,x=(m:Int)+1/\m<n:=by
 rcases h with h | ⟨⟨h1,h2,_⟩,_⟩
 ·exact absurd h h0
 ·exact⟨(x-1).toNat,by omega,by omega⟩
def rowOf (n:Nat)(f:Nat->Int):List Value:=(List.range n).map fun k=>.int .i64 (f k)
theorem aT2 {n:Nat}{f g:Nat->Int}(h:∀ k,k<n->f k=g k):rowOf n f=rowOf n g:=by
 unfold rowOf
 apply List.map_congr_left
 intro k hk
 rw[h k (by simpa using hk)]
theorem bO2 (n:Nat)(f:Nat->Int)(i:Nat)(v:Int):(rowOf n f).set i (.int .i64 v)=rowOf n (fun k=>if k=i then v else f k):=by
 unfold rowOf
 apply List.ext_getElem
 ·simp
 ·intro k h1 h2
  simp only[List.getElem_set,List.getElem_map,List.getElem_range]
  by_cases e:i=k
  ·subst e; simp
  ·simp[e,show ¬k=i by omega]
theorem aM4 (n:Nat):(madeCells (Value.cells (.int .i64 0)) (n*1)).toList=rowOf n (fun _=>0):=by
 apply List.ext_getElem
 ·simp[madeCells,rowOf]
 ·intro i h1 h2
  simp[madeCells,Value.cells,Nat.mod_one,rowOf]
def Row (w:World)(base g n:Nat)(f:Nat->Int):Prop:=w.ownsRow base 3 1 (.slice (some ⟨g,0,none⟩) n n) n (rowOf n f)
theorem Row.congr {w:World}{base g n:Nat}{f h:Nat->Int}(r:Row w base g n f)(e:∀ k,k<n->f k=h k):Row w base g n h:=by
 unfold Row at *
 rw[<-aT2 e]; exact r
theorem Row.cell {w:World}{base g n:Nat}{f:Nat->Int}(r:Row w base g n f){k:Nat}(hk:k<n):w.cell? ⟨g,k,none⟩=some (.int .i64 (f k)):=by
 unfold Row at r
 rw[r.cellAt k (by omega)]
 simp[rowOf,hk]
theorem Row.frozen {w:World}{base g n:Nat}{f:Nat->Int}(r:Row w base g n f)(k:Nat):w.frozen? ⟨g,k,none⟩=false:=by
 unfold Row at r
 exact r.frozenAt k
theorem Row.set {w:World}{base g n:Nat}{f:Nat->Int}(r:Row w base g n f)(k:Nat)(v:Int):Row (w.setCell ⟨g,k,none⟩ (.int .i64 v)) base g n (fun j=>if j=k then v else f j):=by
 unfold Row at *
 rw[<-bO2]
 exact(r.stored k (.int .i64 v)).1
theorem Row.lt {w:World}{base g n:Nat}{f:Nat->Int}(r:Row w base g n f):base<=g/\g<w.heap.size:=by
 unfold Row at r
 exact r.lt g rfl
def cnt (B:Nat->Blk)(i j:Nat)(k:Nat):Int:=(among i B ((k:Int)+1):Int)+(((B i).kids.take j).count ((k:Int)+1):Int)
theorem cE0 (B:Nat->Blk)(k:Nat):cnt B 0 0 k=0:=by simp[cnt,among,sumTo]
theorem cE1 (B:Nat->Blk)(i:Nat)(k:Nat)(j:Nat)(h:(B i).kids.length<=j):cnt B (i+1) 0 k=cnt B i j k:=by
 unfold cnt
 rw[List.take_of_length_le h]
 simp[among,sumTo]
theorem cL2 (B:Nat->Blk)(i j k:Nat)(h:j<(B i).kids.length):cnt B i (j+1) k=if (B i).kids.getD j 0=(k:Int)+1 then cnt B i j k+1 else cnt B i j k:=by
 unfold cnt
 rw[fJ h,List.count_append]
 by_cases e:(B i).kids.getD j 0=(k:Int)+1
 ·rw[e]; simp; omega
 ·rw[if_neg e,List.count_cons_of_ne e]; simp
theorem vW {n:Nat}{B:Nat->Blk}(x:Int):∀ i,(∀ j,j<i->(B j).kids.length<=4)->among i B x<=4*i
 | 0,_=>by simp[among,sumTo]
 | i+1,h=>by
   have:=vW (n:=n) (B:=B) x i (fun j hj=>h j (by omega))
   have h2:=h i (by omega)
   have h3:(B i).kids.count x<=(B i).kids.length:=List.count_le_length
   unfold among at this ⊢
   simp only[sumTo]
   omega
theorem cQ7 {n:Nat}{B:Nat->Blk}(i j k:Nat)(hi:i<n)(h:∀ j,j<n->(B j).kids.length<=4):0<=cnt B i j k/\cnt B i j k<=4*i+4:=by
 have h1:=vW (n:=n) (B:=B) ((k:Int)+1) i (fun j hj=>h j (by omega))
 have h2:((B i).kids.take j).count ((k:Int)+1)<=((B i).kids.take j).length:=List.count_le_length
 have h3:=h i hi
 simp at h2
 unfold cnt
 omega
theorem Form.few {n:Nat}{B:Nat->Blk}{b:Blk}(h:Form n B b):b.kids.length<=4:=by
 rcases h with⟨_,_,h,_⟩ | ⟨_,⟨_,h,_⟩ | ⟨_,h,_⟩⟩
 ·simp[h]
 ·simp[h]
 ·omega
theorem nH (p:Addr)(a:Option Addr)(n c:Nat)(B:Nat->Blk)(w:World)
 (hn:n<=400) (hp:p.block<w.heap.size) (hs:w.cell? p=some (.slice a n c)) (hS:aN w a n B) (hF:∀ i,i<n->Form n B (B i)):
 Calls Tryz.prog 80 #[.pointer (some p)] w fun e w'=>e=.returned (.slice (some ⟨w.heap.size,0,none⟩) n n)/\Row w' w.heap.size w.heap.size n (fun k=>among n B ((k:Int)+1))/\Below w.heap.size w w':=by
 obtain⟨i0,hi,hz0,hz1,hz2⟩:=info_parts Tryz.infoInt
 have hlen:∀ j,j<n->(B j).kids.length<=4:=fun j hj=>(hF j hj).few
 go_enter Tryz.func80,Tryz.ntmps80
 go_wp2_with (at_make; refine wpList_make_full _ rfl (.tmp 11) (.tmp 11) 36 rfl w.heap.size 3 i0 (.int .i64 0) 1 Tryz.underlying36 hi hz0 hz1 .i64 .i64 n n n rfl rfl rfl rfl (by rw[hz2]; omega) (by unfold maxLen; omega) (by simp) ?_; intro w2 hown hgr; have hb2:Below w.heap.size w w2:=(Below.refl _ _).grown hgr (by simp) (by simp); have hs2:w2.cell? p=some (.slice a n c):=(hb2.cell hp).trans hs)
 rw[aM4] at hown
 go_loopw [18] (fun v wr=>∃ i:Nat,i<=n/\v=.int .i64 i/\Row wr w.heap.size w.heap.size n (cnt B i 0)/\Below w.heap.size w wr) (fun v _=>n-(Go.RowKit.intOf v).toNat)
 case atStart=>exact⟨0,Nat.zero_le _,rfl,Row.congr (f:=fun _=>0) hown (fun k _=>(cE0 B k).symm),hb2⟩
 case round=>
  clear hown hgr hb2 hs2
  obtain⟨i,hin,rfl,hrow,hbel⟩:=hrel
  have hsr:wr.cell? p=some (.slice a n c):=(hbel.cell hp).trans hs
  by_cases hlt:i<n
  ·obtain⟨b,off,rfl,hb,hB⟩:=hS (by omega)
   obtain⟨ka,kn,kc,ba,bn,bc,hblk⟩:=hB i hlt
   have hK:=(hF i hlt).kids
   have hkn:=hblk.kids.1
   have hc2:wr.cell? ⟨b,off+i*4+2,none⟩=some (.slice ka kn kc):=(hbel.cell hb).trans hblk.c2
   have hkids:=hblk.kids
   have hkn4:kn<=4:=by rw[<-hkn]; exact hlen i hlt
   clear hB hblk
   replace hK:=hid hK
   replace hkn:=hid hkn
   replace hkids:=hid hkids
   replace hrow:=hid hrow
   go_wp2_with fail
   go_loopw [30] (fun v wi=>∃ j:Nat,j<=kn/\v=.int .i64 j/\Row wi w.heap.size w.heap.size n (cnt B i j)/\Below w.heap.size w wi) (fun v _=>kn-(Go.RowKit.intOf v).toNat)
   case atStart=>exact⟨0,Nat.zero_le _,rfl,hrow.out,hbel⟩
   case round=>
    clear hrow hbel hsr hc2
    obtain⟨j,hjn,rfl,hrow,hbel⟩:=hrel
    by_cases hjlt:j<kn
    ·obtain⟨kb,ko,rfl,hkb,_,hc⟩:=hkids.out.2.2 (by omega)
     have hck:wr.cell? ⟨kb,ko+j,none⟩=some (.int .i64 ((B i).kids.getD j 0)):=(hbel.cell hkb).trans (hc j hjlt)
     have hjl:j<(B i).kids.length:=by rw[hkn.out]; exact hjlt
     have hmem:(B i).kids.getD j 0∈(B i).kids:=hkids.out.getD hjlt
     have hkk:=hK.out _ hmem
     have hstep:=hid (fun k=>cL2 B i j k hjl)
     clear hc hmem hjl
     generalize (B i).kids.getD j 0=x at *
     by_cases hx0:x=0
     ·have hx0':(x == 0)=true:=by simp[hx0]
      have hrow':=hid (hrow.congr (h:=cnt B i (j+1)) (fun k _=>by rw[hstep.out,if_neg (by omega)]))
      clear hrow hkk hstep
      go_wp2_with fail
      go_roundw
      case rel=>exact⟨j+1,by omega,by go_num,hrow'.out,hbel⟩
      case measure=>simp[Go.RowKit.intOf]; omega
     ·obtain⟨m,rfl,hm⟩:=cH6 hkk hx0
      have hx0':(((m:Int)+1) == 0)=false:=by simp[hx0]
      have hrc:=hrow.cell hm
      have hrf:=hrow.frozen m
      have hbd:=cQ7 (n:=n) (B:=B) i j m hlt hlen
      have hrow':=hid ((hrow.set m (cnt B i j m+1)).congr (h:=cnt B i (j+1)) (fun k _=>by
          rw[hstep.out]
          by_cases e:k=m
          ·subst e; simp
          ·rw[if_neg e,if_neg (by omega)]))
      clear hrow hkk hstep
      generalize cnt B i j m=cv at *
      go_wp2_with fail
      go_roundw
      case rel=>exact⟨j+1,by omega,by go_num,hrow'.out,hbel.setCell (Nat.le_refl _) _⟩
      case measure=>simp[Go.RowKit.intOf]; omega
    ·obtain rfl:j=kn:=by omega
     have hrow':=hid (hrow.congr (h:=cnt B (i+1) 0) (fun k _=>(cE1 B i k j (by rw[hkn.out]; exact Nat.le_refl _)).symm))
     clear hrow
     go_wp2_with fail
     go_roundw
     case rel=>exact⟨i+1,by omega,by go_num,hrow'.out,hbel⟩
     case measure=>simp[Go.RowKit.intOf]; omega
  ·obtain rfl:i=n:=by omega
   replace hrow:=hid hrow
   go_wp2_with fail
   go_ret
   exact⟨rfl,hrow.out.congr (fun k _=>by simp[cnt]),hbel⟩
structure kU (w:World)(p:Addr)(a:Option Addr)(n c:Nat)(B:Nat->Blk):Prop where
 lt:p.block<w.heap.size
 cell:w.cell? p=some (.slice a n c)
 store:aN w a n B
theorem kU.below {w w':World}{p:Addr}{a:Option Addr}{n c:Nat}{B:Nat->Blk}(h:kU w p a n c B)(hb:Below w.heap.size w w'):kU w' p a n c B:=
 ⟨Nat.lt_of_lt_of_le h.lt hb.size,(hb.cell h.lt).trans h.cell,h.store.below hb⟩
theorem aK8 {n:Nat}{B:Nat->Blk}(hn:n<=400)(hF:∀ i,i<n->Form n B (B i)):Right n B↔∀ i,i<n->((among n B ((i:Int)+1):Nat):Int)<=(B i).refs:=
 ⟨fun h i hi=>by have:=h.held i hi; simpa using this,fun h=>⟨hn,hF,fun i hi=>by simpa using h i hi,by simp⟩⟩
def bU4 (S:Nat->Int->Prop)(P:Nat->Prop)(n:Nat)(c:Int):Prop:=∃ i,i<n/\(∀ j,j<i->P j)/\¬P i/\S i c
theorem aV8 {S:Nat->Int->Prop}{P:Nat->Prop}{n:Nat}{c d:Int}(hS:∀ i c d,S i c->S i d->c=d)(h:bU4 S P n c)(k:bU4 S P n d):c=d:=by
 obtain⟨i,_,h1,h2,h3⟩:=h
 obtain⟨j,_,k1,k2,k3⟩:=k
 rcases Nat.lt_trichotomy i j with e | rfl | e
 ·exact absurd (k1 i e) h2
 ·exact hS i c d h3 k3
 ·exact absurd (h1 j e) k2
def cQ9 (n:Nat)(B:Nat->Blk)(c:Int):Prop:=c=2/\¬n<=400\/n<=400/\bU4 (fun i=>cI3 n B (B i)) (fun i=>Form n B (B i)) n c\/n<=400/\(∀ i,i<n->Form n B (B i))/\c=7
theorem bW5 (p:Addr)(a:Option Addr)(n c:Nat)(B:Nat->Blk)(w:World)(h:kU w p a n c B):
 Calls Tryz.prog 50 #[.pointer (some p)] w fun e w'=>zB e (Right n B) (cQ9 n B)/\Below w.heap.size w w':=by
 have hs:=h.cell
 by_cases hn:n<=400
 ·go_enter Tryz.func50,Tryz.ntmps50
  go_wp2_with fail
  go_loopw [18] (fun v wr=>∃ i:Nat,i<=n/\v=.int .i64 i/\(∀ k,k<i->Form n B (B k))/\Below w.heap.size w wr) (fun v _=>n-(Go.RowKit.intOf v).toNat)
  case atStart=>exact⟨0,Nat.zero_le _,rfl,fun k hk=>absurd hk (by omega),Below.refl _ _⟩
  case round=>
   obtain⟨i,hin,rfl,hF,hbel⟩:=hrel
   replace h:=h.below hbel
   replace hs:=h.cell
   replace hF:=hid hF
   by_cases hlt:i<n
   ·obtain⟨b,off,rfl,hb,hB⟩:=h.store (by omega)
    obtain⟨ka,kn,kc,ba,bn,bc,hblk⟩:=hB i hlt
    clear hB
    replace hblk:=hid hblk
    go_wp2_with fail
    refine(uS p (some ⟨b,off,none⟩) n c B b (off+i*4) _ (B i) ka kn kc ba bn bc _ hn hs h.store hblk.out).mono ?_
    rintro e w1 ⟨⟨c,rfl,hc,hs2⟩,m,rfl⟩
    replace hc:=hid hc
    replace hs2:=hid hs2
    by_cases hc0:c=0
    ·have hc0':(c == 0)=true:=by simp[hc0]
     go_wp2_with fail
     go_roundw
     case rel=>exact⟨i+1,by omega,by go_num,fun k hk=>by rcases Nat.lt_or_ge k i with h' | h'; exact hF.out k h'; obtain rfl:k=i:=by omega
                                                         exact hc.out.1 hc0,hbel.trans (below_drewN _ _ _)⟩
     case measure=>simp[Go.RowKit.intOf]; omega
    ·have hc0':(c == 0)=false:=by simp[hc0]
     go_wp2_with fail
     go_ret
     exact⟨aU c hc0 (fun e=>hc0 (hc.out.2 (e.one i hlt))) (.inr (.inl ⟨hn,i,hlt,hF.out,fun f=>hc0 (hc.out.2 f),hs2.out hc0⟩)),hbel.trans (below_drewN _ _ _)⟩
   ·obtain rfl:i=n:=by omega
    go_wp2_with fail
    refine(nH p a i c B _ hn h.lt hs h.store hF.out).mono ?_
    rintro e w1 ⟨rfl,hrow,hb1⟩
    replace hbel:=Below.tr hbel hb1
    replace h:=h.below hb1
    replace hs:=h.cell
    clear hb1
    generalize wr.heap.size=g at *
    replace hrow:=hid hrow
    go_wp2_with fail
    go_loopw [36] (fun v wi=>∃ j:Nat,j<=i/\v=.int .i64 j/\(∀ k,k<j->((among i B ((k:Int)+1):Nat):Int)<=(B k).refs)/\wi=w1) (fun v _=>i-(Go.RowKit.intOf v).toNat)
    case atStart=>exact⟨0,Nat.zero_le _,rfl,fun k hk=>absurd hk (by omega),rfl⟩
    case round=>
     obtain⟨j,hji,rfl,hH,rfl⟩:=hrel
     replace hH:=hid hH
     by_cases hjlt:j<i
     ·have hrc:=hrow.out.cell hjlt
      obtain⟨b,off,rfl,hb,hB⟩:=h.store (by omega)
      obtain⟨ka,kn,kc,ba,bn,bc,hblk⟩:=hB j hjlt
      have hrefs:=hblk.c0
      clear hB hblk hb
      have J:=hid ((aK8 hn hF.out).1)
      have J2:Hid (((among i B ((j:Int)+1):Nat):Int)<=(B j).refs->∀ k,k<j+1->((among i B ((k:Int)+1):Nat):Int)<=(B k).refs):=hid (fun e k hk=>by
       rcases Nat.lt_or_ge k j with h' | h'
       ·exact hH.out k h'
       ·obtain rfl:k=j:=by omega
        exact e)
      have J3:Hid (¬((among i B ((j:Int)+1):Nat):Int)<=(B j).refs->¬Right i B):=hid (fun e f=>e (J.out f j hjlt))
      clear J
      generalize ((among i B ((j:Int)+1):Nat):Int)=am at *
      generalize (B j).refs=rf at *
      by_cases hle:am<=rf
      ·have hle':¬rf<am:=by omega
       go_wp2_with fail
       go_roundw
       case rel=>exact⟨j+1,by omega,by go_num,J2.out hle,trivial⟩
       case measure=>simp[Go.RowKit.intOf]; omega
      ·have hle':rf<am:=by omega
       go_wp2_with fail
       go_ret
       exact⟨aU 7 (by omega) (J3.out (by omega)) (.inr (.inr ⟨hn,hF.out,rfl⟩)),hbel⟩
     ·obtain rfl:j=i:=by omega
      go_wp2_with fail
      go_ret
      exact⟨gV ((aK8 hn hF.out).2 hH.out),hbel⟩
 ·have J:Hid (¬Right n B):=hid fun e=>hn e.small
  go_enter Tryz.func50,Tryz.ntmps50
  go_wp2_with fail
  go_ret
  exact⟨aU 2 (by omega) J.out (.inl ⟨rfl,hn⟩),Below.refl _ _⟩
theorem mH (p:Addr)(a:Option Addr)(n c:Nat)(B:Nat->Blk)(w:World)(h:kU w p a n c B):
 Calls Tryz.prog 50 #[.pointer (some p)] w fun e w'=>aY1 e (Right n B)/\Below w.heap.size w w':=(bW5 p a n c B w h).mono fun _ _ f=>⟨f.1.ret,f.2⟩
end Go.Proofs.YtjafgnohlkkopaaGreatDoor
