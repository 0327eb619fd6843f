import Derived.Test.YtnbpdffdnphbeabGreatDoorMono
import Derived.Lib.AppendStr
import Derived.Test.YtnbpdffdnphbeabGreatDoorItoa
import Derived.WalkSmall
namespace Go.Proofs.YtnbpdffdnphbeabGreatDoor
open Go.RowKit
variable{ls:List LX}{a:Nat}{w:World}
def okT(x:Obj):Prop:=∀c t fz,x=.cells c t fz->t≠5/\t≠195
structure KT(W:Nat)(w w':World):Prop where
 below:Below W w w'
 kept:∀(k:Nat) (x:Obj),w.heap[k]? = some x->okT x->w'.heap[k]? = some x
def putB(out:Bs)(il:Bool)(t:Bs):Bs:=(match il with|true=>out++[32]|false=>out)++t
def zKQ(w:World):Prop:=Lib.TabIs Tryz.prog w "internal/strconv.uint64pow10" .u64 Lib.pow10Tab
abbrev zGS:=Bs × Bool
theorem zKQ.below{w':World}{W:Nat}(h:zKQ w)(hg:∃g,Tryz.prog.globalNamed "internal/strconv.uint64pow10" = some g/\g<W)(hb:Below W w w'):zKQ w':=by
 obtain⟨g,h1,h2⟩:=hg;exact var?_below hb h1 h2 h
theorem Gz{k:Nat}{os:Array Obj}{i:Nat}{x:Obj}(h:w.heap[i]? = some x):(Sort.grow (w.drewN k) os).heap[i]? = some x:=by
 have hi:i<w.heap.size:=by
  rcases md i w.heap.size with h1|h1
  ·exact h1
  ·rw[mc h1]at h;cases h
 have hd:(w.drewN k).heap=w.heap:=by simp
 rw[Sort.heap_grow_old _ _ (by rw[hd];exact hi),hd];exact h
theorem KT.growN{W:Nat}(k:Nat)(os:Array Obj)(hW:W<=w.heap.size):KT W w (Sort.grow (w.drewN k) os):=by
 have hd:(w.drewN k).heap=w.heap:=by simp
 refine⟨⟨rfl,by simp[Sort.grow],rfl,by simp[Sort.grow],fun i hi=>?_⟩,fun i x hx _=>Gz hx⟩;rw[Sort.heap_grow_old _ _ (by rw[hd];omega),hd]
def Y3(t:Bs)(st:zGS):zGS:=(putB st.1 st.2 t,true)
def wNum(n:Int)(st:zGS):zGS:=Y3 (Lib.itoa n) st
def zJU(x:zT)(st:zGS):zGS :=
 if x.kind=4 then Y3 [97,108,119,97,121,115] st
 else if x.kind=5 then Y3 x.name (Y3 [104,97,115] st)
 else if x.kind=6 then Y3 x.name st
 else if x.other.isEmpty=true then wNum x.num (Y3 x.mark (Y3 x.name st))
 else Y3 x.other (Y3 x.mark (Y3 x.name st))
def nz:zT:=⟨0,0,0,[],[],[],0⟩
def pM(N:List zT)(a:Nat):zT:=N.getD a nz
def dK(N:List zT):Prop:=∀a,a<N.length ->
 ((pM N a).kind=1->0<=(pM N a).left/\(pM N a).left<a/\0<=(pM N a).right/\(pM N a).right<a) /\
 ((pM N a).kind=2->0<=(pM N a).left/\(pM N a).left<a/\0<=(pM N a).right/\(pM N a).right<a) /\
 ((pM N a).kind=3->0<=(pM N a).left/\(pM N a).left<a) /\
 (¬(pM N a).kind=1->¬(pM N a).kind=2->¬(pM N a).kind=3->(4<=(pM N a).kind/\(pM N a).kind<=7)/\0<=(pM N a).num/\(pM N a).num<=9999)
structure Kp(w:World)(gN:Nat)(yK:Array Value)(N:List zT):Prop where
 blk:w.heap[gN]? = some (.cells yK 238 (0,0))
 row:yK.toList.take (N.length*7)=fB N
theorem G2(N:List zT):∀i,i<N.length->∀j,j<7->(fB N)[i*7+j]? = (Xb (pM N i))[j]? := by
 induction N with
 | nil=>intro i h;simp at h
 | cons t r ih =>
   intro i h j hj;have e:fB (t::r)=Xb t++fB r:=by simp[fB]
   have hl:(Xb t).length=7:=rfl
   cases i with
   | zero=>rw[e,ms (by rw[hl];omega)];simp[pM]
   | succ i =>
     rw[e,lj (by rw[hl];omega),hl,show (i+1)*7+j-7=i*7+j by omega,ih i (by simpa using h) j hj];simp[pM]
theorem Kp.cells{gN:Nat}{yK:Array Value}{N:List zT}(h:Kp w gN yK N)(ha:a<N.length) :
 w.cell? ⟨gN,a*7,none⟩=some (.int .i64 (pM N a).kind)/\w.cell? ⟨gN,a*7+1,none⟩=some (.int .i64 (pM N a).left)/\w.cell? ⟨gN,a*7+2,none⟩=some (.int .i64 (pM N a).right)/\w.cell? ⟨gN,a*7+3,none⟩=some (.string ⟨(pM N a).name.toArray⟩)/\w.cell? ⟨gN,a*7+4,none⟩=some (.string ⟨(pM N a).mark.toArray⟩)/\w.cell? ⟨gN,a*7+5,none⟩=some (.string ⟨(pM N a).other.toArray⟩)/\w.cell? ⟨gN,a*7+6,none⟩=some (.int .i64 (pM N a).num):=by
 have hg:=fun j (hj:j<7)=>G2 N a ha j hj;refine⟨xO h.blk h.row (hg 0 (by omega)),xO h.blk h.row (hg 1 (by omega)),xO h.blk h.row (hg 2 (by omega)),xO h.blk h.row (hg 3 (by omega)),xO h.blk h.row (hg 4 (by omega)),xO h.blk h.row (hg 5 (by omega)),xO h.blk h.row (hg 6 (by omega))⟩
theorem Kp.lt{gN:Nat}{yK:Array Value}{N:List zT}(h:Kp w gN yK N):gN<w.heap.size:=by
 rcases md gN w.heap.size with h1|h1
 ·exact h1
 ·have h2:=h.blk;rw[mc h1]at h2;cases h2
def xz:xE:=⟨false,false,0,[]⟩
def Qf(S:List xE)(i:Nat):xE:=S.getD i xz
structure Ko(w:World)(gS:Nat)(yK:Array Value)(S:List xE):Prop where
 blk:w.heap[gS]? = some (.cells yK 235 (0,0))
 row:yK.toList.take (S.length*4)=lV S
theorem G1(S:List xE):∀i,i<S.length->∀j,j<4->(lV S)[i*4+j]? = (ZO (Qf S i))[j]? := by
 induction S with
 | nil=>intro i h;simp at h
 | cons t r ih =>
   intro i h j hj;have e:lV (t::r)=ZO t++lV r:=by simp[lV]
   have hl:(ZO t).length=4:=rfl
   cases i with
   | zero=>rw[e,ms (by rw[hl];omega)];simp[Qf]
   | succ i =>
     rw[e,lj (by rw[hl];omega),hl,show (i+1)*4+j-4=i*4+j by omega,ih i (by simpa using h) j hj];simp[Qf]
theorem Ko.cells{gS:Nat}{yK:Array Value}{S:List xE}(h:Ko w gS yK S)(ha:a<S.length) :
 w.cell? ⟨gS,a*4,none⟩=some (.bool (Qf S a).minus)/\w.cell? ⟨gS,a*4+1,none⟩=some (.bool (Qf S a).starred)/\w.cell? ⟨gS,a*4+2,none⟩=some (.int .i64 (Qf S a).num)/\w.cell? ⟨gS,a*4+3,none⟩=some (.string ⟨(Qf S a).name.toArray⟩):=by
 have hg:=fun j (hj:j<4)=>G1 S a ha j hj;exact⟨xO h.blk h.row (hg 0 (by omega)),xO h.blk h.row (hg 1 (by omega)),xO h.blk h.row (hg 2 (by omega)),xO h.blk h.row (hg 3 (by omega))⟩
theorem Ko.lt{gS:Nat}{yK:Array Value}{S:List xE}(h:Ko w gS yK S):gS<w.heap.size:=by
 rcases md gS w.heap.size with h1|h1
 ·exact h1
 ·have h2:=h.blk;rw[mc h1]at h2;cases h2
theorem zKH(S:List xE)(k:Nat)(h:k<S.length):S.drop k=Qf S k::S.drop (k+1):=by
 rw[po h];simp[Qf,List.getD,h]
structure gO(x:zE):Prop where
 kinds:x.kind=1\/x.kind=2\/x.kind=3\/x.kind=4
 lo0:0<=x.low
 lo1:x.low<=9999
 hi0:0<=x.high
 hi1:x.high<=9999
 sums:∀a,a<x.sum.length->0<=(Qf x.sum a).num/\(Qf x.sum a).num<=9999
 sumN:x.sum.length<=10000
 nodes:dK x.nd
 rule:x.kind=3->0<x.sum.length/\0<=x.root/\x.root<(x.nd.length:Int)
structure Qb(w:World)(x:LX):Prop where
 s1:∃a n c,x.2.1=.slice a n c
 s2:∃a n c,x.2.2=.slice a n c
 sum:0<x.1.sum.length->∃g c yK,x.2.1=.slice (some ⟨g,0,none⟩) x.1.sum.length c/\Ko w g yK x.1.sum
 nod:0<x.1.nd.length->∃g c yK,x.2.2=.slice (some ⟨g,0,none⟩) x.1.nd.length c/\Kp w g yK x.1.nd
theorem Qb.of_rows{B:Nat}{x:LX}(h:kZ w B x.2.1 x.2.2 x.1):Qb w x:=by
 refine⟨tB h.1,tB h.2,fun h0=>?_,fun h0=>?_⟩
 ·rcases h.1.2 with ⟨_,h2⟩|⟨g,cap,yK,h1,_,h3,_,_,_,h7⟩
  ·omega
  ·exact⟨g,cap,yK,h1,h3,h7⟩
 ·rcases h.2.2 with ⟨_,h2⟩|⟨g,cap,yK,h1,_,h3,_,_,_,h7⟩
  ·omega
  ·exact⟨g,cap,yK,h1,h3,h7⟩
def lz:LX:=(⟨0,[],0,0,[],[],[],0,0,0,[]⟩,(.slice none 0 0,.slice none 0 0))
def pG(ls:List LX)(i:Nat):LX:=ls.getD i lz
structure Uz(w:World)(gl:Nat)(yK:Array Value)(ls:List LX):Prop where
 blk:w.heap[gl]? = some (.cells yK 184 (0,0))
 row:yK.toList.take (ls.length*11)=mC ls
theorem Uz.lt{gl:Nat}{yK:Array Value}(h:Uz w gl yK ls):gl<w.heap.size:=by
 rcases md gl w.heap.size with h1|h1
 ·exact h1
 ·have h2:=h.blk;rw[mc h1]at h2;cases h2
theorem G3(ls:List LX):∀i,i<ls.length->∀j,j<11->(mC ls)[i*11+j]? = (aA (pG ls i))[j]? := by
 induction ls with
 | nil=>intro i h;simp at h
 | cons t r ih =>
   intro i h j hj;have e:mC (t::r)=aA t++mC r:=by simp[mC]
   have hl:(aA t).length=11:=rfl
   cases i with
   | zero=>rw[e,ms (by rw[hl];omega)];simp[pG]
   | succ i =>
     rw[e,lj (by rw[hl];omega),hl,show (i+1)*11+j-11=i*11+j by omega,ih i (by simpa using h) j hj];simp[pG]
theorem Uz.cell{gl:Nat}{yK:Array Value}(h:Uz w gl yK ls)(ha:a<ls.length)(j:Nat)(hj:j<11){u:Value}(hu:(aA (pG ls a))[j]? = some u):w.cell? ⟨gl,a*11+j,none⟩=some u :=
 xO h.blk h.row ((G3 ls a ha j hj).trans hu)
theorem Ys{k:Nat}(h:k<ls.length):pG ls k∈ls:=by simp[pG,List.getD,h]
end Go.Proofs.YtnbpdffdnphbeabGreatDoor
