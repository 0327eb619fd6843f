import Derived.Test.YtnbpdffdnphbeabGreatDoorLex
import Derived.Deep.AppendLies
namespace Go.Proofs.YtnbpdffdnphbeabGreatDoor
open Go.RowKit
theorem zN(w:World)(cs:Array Value)(T:TypeId)(l:List Value)(h:cs.toList=l) :
 ∀j u,l[j]? = some u->(w.alloc (.cells cs T)).cell? ((⟨w.heap.size,0,none⟩:Addr).add j)=some u:=by
 subst h;exact World.news_of_block (heap_alloc_new w _)
abbrev aM:=List (Nat × Bs)
def zKZ:Bs->Nat->aM->Bs
 | s,_,[]=>s
 | s,i,t::r=>zKZ ((if 0<i then s++[32] else s)++t.2) (i+1) r
def zJF(ts:aM):Bs:=zKZ [] 0 ts
def vK:Bs:=[110,111,116]
def qX:Bs:=[119,104,101,110]
def DK:Bs:=[114,117,108,101]
def brk(s:Bs):Bs:=[40,32]++s++[32,41]
theorem jZ(a b:Bs):(ByteArray.mk a.toArray)++(ByteArray.mk b.toArray)=⟨(a++b).toArray⟩:=by
 apply ByteArray.ext
 simp
theorem zS{w:World}{B:Nat}{e:TypeId}{size:Nat}{v:Value}{n:Nat}{xs:List Value}(zLM:w.ownsRow B e size v n xs):∀k,v.ownBlock=some k->B<=k:=by
 intro k hk;rcases zLM.2 with ⟨h1,_⟩|⟨g,cap,yL,h1,h2,_⟩
 ·rw[h1]at hk;simp[Value.ownBlock]at hk
 ·rw[h1]at hk;simp[Value.ownBlock]at hk;omega
end Go.Proofs.YtnbpdffdnphbeabGreatDoor
