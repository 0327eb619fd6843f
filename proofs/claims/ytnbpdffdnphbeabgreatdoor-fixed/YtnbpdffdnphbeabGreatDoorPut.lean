import Derived.Test.YtnbpdffdnphbeabGreatDoorMono
import Derived.Lib.AppendStr
import Derived.Test.YtnbpdffdnphbeabGreatDoorItoa
import Derived.WalkSmall
namespace Go.Proofs.YtnbpdffdnphbeabGreatDoor
open Go.RowKit
variable{il:Bool}{ls:List LX}{S:List yT}{N:List zM}{W gS gN:Nat}{w' a w:World}
def bC(l:Bs):List Value:=l.map fun b=>Value.int .u8 b.toNat
def zCU(ov:Value)(il:Bool):Obj:=.cells #[ov,.bool il] 195 (0,0)
def Wr(w:World)(W:Nat)(out:Bs)(il:Bool):Prop :=
 ∃ov,w.heap[W]? = some (zCU ov il)/\w.ownsRow (W+1) 5 1 ov out.length (bC out)
def okT(x:Obj):Prop:=∀c t fz,x=.cells c t fz->t≠5/\t≠195
structure KT(W:Nat)(w w':World):Prop where
 below:Below W w w'
 kept:∀(k:Nat) (x:Obj),w.heap[k]? = some x->okT x->w'.heap[k]? = some x
theorem KT.refl(W:Nat)(w:World):KT W w w:=⟨t9 _ _,fun _ _ h _=>h⟩
theorem KT.trans{b c:World}(h:KT W a b)(k:KT W b c):KT W a c:=⟨h.below.trans k.below,fun i x hx ho=>k.kept i x (h.kept i x hx ho) ho⟩
theorem KT.new(h:KT W a w)(hW:W<=w.heap.size)(o:Obj):KT W a (w.alloc o) :=
 h.trans ⟨(t9 _ _).alloc hW _,fun _ _ hx _=>zZ hx⟩
theorem KT.grown{size:Nat}{v:Value}{n:Nat}{xs:List Value}(h:KT W a w)(zEA:w.ownsRow (W+1) 5 size v n xs)(hg:w.grownBy w' v.ownBlock)(hW:W<w.heap.size):KT W a w':=by
 refine h.trans ⟨(t9 _ _).grown hg (p6 hW) (fun k hk=>by have:=(uG zEA k hk).1;omega),fun k x hx ho=>?_⟩
 have zE9:k<w.heap.size:=by
  rcases pf k w.heap.size with h1|h1
  ·exact h1
  ·rw[pb h1]at hx;cases hx
 rw[hg.block k zE9 ?_];· exact hx
 intro hE;rcases zEA.2 with ⟨k1,_⟩|⟨g',cap',cur',k1,_,k3,_⟩
 ·rw[k1]at hE;simp[Value.ownBlock]at hE
 ·rw[k1]at hE
  simp[Value.ownBlock]at hE;subst hE;rw[hx]at k3;cases k3;exact(ho _ _ _ rfl).1 rfl
theorem Wr.lt{out:Bs}(h:Wr w W out il):W<w.heap.size:=by
 obtain⟨nv,h1,_⟩:=h;rcases pf W w.heap.size with h2|h2
 ·exact h2
 ·rw[pb h2]at h1;cases h1
def putB(out:Bs)(il:Bool)(t:Bs):Bs:=(match il with|true=>out++[32]|false=>out)++t
def zCT(w:World):Prop:=Lib.TabIs Tryz.prog w "internal/strconv.uint64pow10" .u64 Lib.pow10Tab
abbrev G9:=Bs × Bool
structure zCR(w:World)(W:Nat)(st:G9):Prop where
 wr:Wr w W st.1 st.2
 tab:zCT w
 gl:∃g,Tryz.prog.globalNamed "internal/strconv.uint64pow10" = some g/\g<W
theorem zCT.below(h:zCT w)(hg:∃g,Tryz.prog.globalNamed "internal/strconv.uint64pow10" = some g/\g<W)(hb:Below W w w'):zCT w':=by
 obtain⟨g,h1,h2⟩:=hg;exact var?_below hb h1 h2 h
theorem zCR.step{st st':G9}(h:zCR w W st)(hw:Wr w' W st'.1 st'.2)(hk:KT W w w'):zCR w' W st':=⟨hw,h.tab.below h.gl hk.below,h.gl⟩
theorem Wr.new{out:Bs}(h:Wr w W out il)(o:Obj):Wr (w.alloc o) W out il:=by
 obtain⟨ov,h1,h2⟩:=h;exact⟨ov,zZ h1,h2.alloc _⟩
theorem zCR.new{st:G9}(h:zCR w W st)(o:Obj):zCR (w.alloc o) W st :=
 h.step (h.wr.new o) ((KT.refl W w).new (p6 h.wr.lt) o)
theorem aJ{k:Nat}{os:Array Obj}{i:Nat}{x:Obj}(h:w.heap[i]? = some x):(Sort.grow (w.drewN k) os).heap[i]? = some x:=by
 have hi:i<w.heap.size:=by
  rcases pf i w.heap.size with h1|h1
  ·exact h1
  ·rw[pb h1]at h;cases h
 have hd:(w.drewN k).heap=w.heap:=by simp
 rw[Sort.heap_grow_old _ _ (by rw[hd];exact hi),hd];exact h
theorem KT.growN(k:Nat)(os:Array Obj)(hW:W<=w.heap.size):KT W w (Sort.grow (w.drewN k) os):=by
 have hd:(w.drewN k).heap=w.heap:=by simp
 refine⟨⟨rfl,by simp[Sort.grow],rfl,by simp[Sort.grow],fun i hi=>?_⟩,fun i x hx _=>aJ hx⟩;rw[Sort.heap_grow_old _ _ (by rw[hd];omega),hd]
theorem Wr.grow{out:Bs}(h:Wr w W out il)(k:Nat)(os:Array Obj):Wr (Sort.grow (w.drewN k) os) W out il:=by
 obtain⟨ov,h1,h2⟩:=h;refine⟨ov,aJ h1,h2.1,?_⟩;rcases h2.2 with h3|⟨g,cap,c,h4,h5,h6,r⟩
 ·exact .inl h3
 ·exact .inr ⟨g,cap,c,h4,h5,aJ h6,r⟩
def iY(t:Bs)(st:G9):G9:=(putB st.1 st.2 t,true)
def wNum(n:Int)(st:G9):G9:=iY (Lib.itoa n) st
def zCW(x:zM)(st:G9):G9 :=
 if x.kind=4 then iY [97,108,119,97,121,115] st
 else if x.kind=5 then iY x.name (iY [104,97,115] st)
 else if x.kind=6 then iY x.name st
 else if x.other.isEmpty=true then wNum x.num (iY x.mark (iY x.name st))
 else iY x.other (iY x.mark (iY x.name st))
def nz:zM:=⟨0,0,0,[],[],[],0⟩
def qR(N:List zM)(a:Nat):zM:=N.getD a nz
def pD(N:List zM):Prop:=∀a,a<N.length ->
 ((qR N a).kind=1->0<=(qR N a).left/\(qR N a).left<a/\0<=(qR N a).right/\(qR N a).right<a) /\
 ((qR N a).kind=2->0<=(qR N a).left/\(qR N a).left<a/\0<=(qR N a).right/\(qR N a).right<a) /\
 ((qR N a).kind=3->0<=(qR N a).left/\(qR N a).left<a) /\
 (¬(qR N a).kind=1->¬(qR N a).kind=2->¬(qR N a).kind=3->(4<=(qR N a).kind/\(qR N a).kind<=7)/\0<=(qR N a).num/\(qR N a).num<=9999)
structure iH(w:World)(gN:Nat)(yJ:Array Value)(N:List zM):Prop where
 blk:w.heap[gN]? = some (.cells yJ 238 (0,0))
 row:yJ.toList.take (N.length*7)=bW N
theorem iH.new{yJ:Array Value}(h:iH w gN yJ N)(o:Obj):iH (w.alloc o) gN yJ N:=⟨zZ h.blk,h.row⟩
theorem BO(N:List zM):∀i,i<N.length->∀j,j<7->(bW N)[i*7+j]? = (Zf (qR N i))[j]? := by
 induction N with
 | nil=>intro i h;simp at h
 | cons t r ih =>
   intro i h j hj;have e:bW (t::r)=Zf t++bW r:=by simp[bW]
   have hl:(Zf t).length=7:=rfl
   cases i with
   | zero=>rw[e,pm (by rw[hl];omega)];simp[qR]
   | succ i =>
     rw[e,ma (by rw[hl];omega),hl,show (i+1)*7+j-7=i*7+j by omega,ih i (by simpa using h) j hj];simp[qR]
theorem iH.cells{yJ:Array Value}(h:iH w gN yJ N){a:Nat}(ha:a<N.length) :
 w.cell? ⟨gN,a*7,none⟩=some (.int .i64 (qR N a).kind)/\w.cell? ⟨gN,a*7+1,none⟩=some (.int .i64 (qR N a).left)/\w.cell? ⟨gN,a*7+2,none⟩=some (.int .i64 (qR N a).right)/\w.cell? ⟨gN,a*7+3,none⟩=some (.string ⟨(qR N a).name.toArray⟩)/\w.cell? ⟨gN,a*7+4,none⟩=some (.string ⟨(qR N a).mark.toArray⟩)/\w.cell? ⟨gN,a*7+5,none⟩=some (.string ⟨(qR N a).other.toArray⟩)/\w.cell? ⟨gN,a*7+6,none⟩=some (.int .i64 (qR N a).num):=by
 have hg:=fun j (hj:j<7)=>BO N a ha j hj;refine⟨xF h.blk h.row (hg 0 (by omega)),xF h.blk h.row (hg 1 (by omega)),xF h.blk h.row (hg 2 (by omega)),xF h.blk h.row (hg 3 (by omega)),xF h.blk h.row (hg 4 (by omega)),xF h.blk h.row (hg 5 (by omega)),xF h.blk h.row (hg 6 (by omega))⟩
theorem iH.lt{yJ:Array Value}(h:iH w gN yJ N):gN<w.heap.size:=by
 rcases pf gN w.heap.size with h1|h1
 ·exact h1
 ·have h2:=h.blk;rw[pb h1]at h2;cases h2
def xz:yT:=⟨false,false,0,[]⟩
def Yc(S:List yT)(i:Nat):yT:=S.getD i xz
structure iG(w:World)(gS:Nat)(yJ:Array Value)(S:List yT):Prop where
 blk:w.heap[gS]? = some (.cells yJ 235 (0,0))
 row:yJ.toList.take (S.length*4)=mI S
theorem BN(S:List yT):∀i,i<S.length->∀j,j<4->(mI S)[i*4+j]? = (eF (Yc S i))[j]? := by
 induction S with
 | nil=>intro i h;simp at h
 | cons t r ih =>
   intro i h j hj;have e:mI (t::r)=eF t++mI r:=by simp[mI]
   have hl:(eF t).length=4:=rfl
   cases i with
   | zero=>rw[e,pm (by rw[hl];omega)];simp[Yc]
   | succ i =>
     rw[e,ma (by rw[hl];omega),hl,show (i+1)*4+j-4=i*4+j by omega,ih i (by simpa using h) j hj];simp[Yc]
theorem iG.cells{yJ:Array Value}(h:iG w gS yJ S){a:Nat}(ha:a<S.length) :
 w.cell? ⟨gS,a*4,none⟩=some (.bool (Yc S a).minus)/\w.cell? ⟨gS,a*4+1,none⟩=some (.bool (Yc S a).starred)/\w.cell? ⟨gS,a*4+2,none⟩=some (.int .i64 (Yc S a).num)/\w.cell? ⟨gS,a*4+3,none⟩=some (.string ⟨(Yc S a).name.toArray⟩):=by
 have hg:=fun j (hj:j<4)=>BN S a ha j hj;exact⟨xF h.blk h.row (hg 0 (by omega)),xF h.blk h.row (hg 1 (by omega)),xF h.blk h.row (hg 2 (by omega)),xF h.blk h.row (hg 3 (by omega))⟩
theorem iG.lt{yJ:Array Value}(h:iG w gS yJ S):gS<w.heap.size:=by
 rcases pf gS w.heap.size with h1|h1
 ·exact h1
 ·have h2:=h.blk;rw[pb h1]at h2;cases h2
theorem zDO(S:List yT)(k:Nat)(h:k<S.length):S.drop k=Yc S k::S.drop (k+1):=by
 rw[pe h];simp[Yc,List.getD,h]
theorem iG.new{yJ:Array Value}(h:iG w gS yJ S)(o:Obj):iG (w.alloc o) gS yJ S:=⟨zZ h.blk,h.row⟩
structure cW(x:zE):Prop where
 kinds:x.kind=1\/x.kind=2\/x.kind=3\/x.kind=4
 lo0:0<=x.low
 lo1:x.low<=9999
 hi0:0<=x.high
 hi1:x.high<=9999
 sums:∀a,a<x.sum.length->0<=(Yc x.sum a).num/\(Yc x.sum a).num<=9999
 sumN:x.sum.length<=10000
 nodes:pD x.nd
 rule:x.kind=3->0<x.sum.length/\0<=x.root/\x.root<(x.nd.length:Int)
structure ZZ(w:World)(x:LX):Prop where
 s1:∃a n c,x.2.1=.slice a n c
 s2:∃a n c,x.2.2=.slice a n c
 sum:0<x.1.sum.length->∃g c yJ,x.2.1=.slice (some ⟨g,0,none⟩) x.1.sum.length c/\iG w g yJ x.1.sum
 nod:0<x.1.nd.length->∃g c yJ,x.2.2=.slice (some ⟨g,0,none⟩) x.1.nd.length c/\iH w g yJ x.1.nd
theorem ZZ.of_rows{B:Nat}{x:LX}(h:qX w B x.2.1 x.2.2 x.1):ZZ w x:=by
 refine⟨jA h.1,jA h.2,fun h0=>?_,fun h0=>?_⟩
 ·rcases h.1.2 with ⟨_,h2⟩|⟨g,cap,yJ,h1,_,h3,_,_,_,h7⟩
  ·omega
  ·exact⟨g,cap,yJ,h1,h3,h7⟩
 ·rcases h.2.2 with ⟨_,h2⟩|⟨g,cap,yJ,h1,_,h3,_,_,_,h7⟩
  ·omega
  ·exact⟨g,cap,yJ,h1,h3,h7⟩
def lz:LX:=(⟨0,[],0,0,[],[],[],0,0,0,[]⟩,(.slice none 0 0,.slice none 0 0))
def tE(ls:List LX)(i:Nat):LX:=ls.getD i lz
structure JD(w:World)(gl:Nat)(yJ:Array Value)(ls:List LX):Prop where
 blk:w.heap[gl]? = some (.cells yJ 184 (0,0))
 row:yJ.toList.take (ls.length*11)=tS ls
theorem JD.lt{gl:Nat}{yJ:Array Value}(h:JD w gl yJ ls):gl<w.heap.size:=by
 rcases pf gl w.heap.size with h1|h1
 ·exact h1
 ·have h2:=h.blk;rw[pb h1]at h2;cases h2
theorem BP(ls:List LX):∀i,i<ls.length->∀j,j<11->(tS ls)[i*11+j]? = (nX (tE ls i))[j]? := by
 induction ls with
 | nil=>intro i h;simp at h
 | cons t r ih =>
   intro i h j hj;have e:tS (t::r)=nX t++tS r:=by simp[tS]
   have hl:(nX t).length=11:=rfl
   cases i with
   | zero=>rw[e,pm (by rw[hl];omega)];simp[tE]
   | succ i =>
     rw[e,ma (by rw[hl];omega),hl,show (i+1)*11+j-11=i*11+j by omega,ih i (by simpa using h) j hj];simp[tE]
theorem JD.cell{gl:Nat}{yJ:Array Value}(h:JD w gl yJ ls){a:Nat}(ha:a<ls.length)(j:Nat)(hj:j<11){u:Value}(hu:(nX (tE ls a))[j]? = some u):w.cell? ⟨gl,a*11+j,none⟩=some u :=
 xF h.blk h.row ((BP ls a ha j hj).trans hu)
theorem iO{k:Nat}(h:k<ls.length):tE ls k∈ls:=by simp[tE,List.getD,h]
end Go.Proofs.YtnbpdffdnphbeabGreatDoor
