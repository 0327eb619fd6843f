import Derived.Test.YtnbpdffdnphbeabGreatDoorLex
import Derived.Deep.AppendLies
namespace Go.Proofs.YtnbpdffdnphbeabGreatDoor
open Go.RowKit
theorem zM(w:World)(cs:Array Value)(T:TypeId)(l:List Value)(h:cs.toList=l) :
 ∀j u,l[j]? = some u->(w.alloc (.cells cs T)).cell? ((⟨w.heap.size,0,none⟩:Addr).add j)=some u:=by
 subst h;exact World.news_of_block (heap_alloc_new w _)
abbrev sS:=List (Nat × Bs)
def zKD:Bs->Nat->sS->Bs
 | s,_,[]=>s
 | s,i,t::r=>zKD ((if 0<i then s++[32] else s)++t.2) (i+1) r
def zIO(ts:sS):Bs:=zKD [] 0 ts
def vG:Bs:=[110,111,116]
def qU:Bs:=[119,104,101,110]
def Dx:Bs:=[114,117,108,101]
def brk(s:Bs):Bs:=[40,32]++s++[32,41]
theorem jQ(a b:Bs):(ByteArray.mk a.toArray)++(ByteArray.mk b.toArray)=⟨(a++b).toArray⟩:=by
 apply ByteArray.ext
 simp
theorem zU{w:World}{B:Nat}{e:TypeId}{size:Nat}{v:Value}{n:Nat}{xs:List Value}(zL1:w.ownsRow B e size v n xs):∀k,v.ownBlock=some k->B<=k:=by
 intro k hk;rcases zL1.2 with ⟨h1,_⟩|⟨g,cap,yK,h1,h2,_⟩
 ·rw[h1]at hk;simp[Value.ownBlock]at hk
 ·rw[h1]at hk;simp[Value.ownBlock]at hk;omega
end Go.Proofs.YtnbpdffdnphbeabGreatDoor
