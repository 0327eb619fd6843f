import Derived.Test.YtnbpdffdnphbeabGreatDoorMCase
namespace Go.Proofs.YtnbpdffdnphbeabGreatDoor
open Go.RowKit
def Ao(n:Nat)(f:Nat->Bs)(g:Nat->Int):List Value:=(List.range n).flatMap λi=>[.string ⟨(f i).toArray⟩,.int .i64 (g i)]
theorem IV{w:World}{a:Option Addr}{n:Nat}{f:Nat->Bs}{g:Nat->Int}(h:kQ w a (Ao n f g)){i:Nat}(hi:i<n):∃G,a=some ⟨G,0,none⟩/\w.cell? ⟨G,i*2,none⟩=some (.string ⟨(f i).toArray⟩)/\w.cell? ⟨G,i*2+1,none⟩=some (.int .i64 (g i)):=by
 have k:=λr (hr:r<2)=>zV (λi=>[Value.string ⟨(f i).toArray⟩,.int .i64 (g i)]) 2 (λ_=>rfl) 0 (List.range n) i r (by simpa using hi) hr;rw[CI n i hi]at k;obtain⟨G,e,c0⟩:=h.at (k 0 (by decide));obtain⟨G',e',c1⟩:=h.at (k 1 (by decide));obtain rfl:G=G':=by rw[e]at e';simpa using e'
 exact⟨G,e,c0,c1⟩
end Go.Proofs.YtnbpdffdnphbeabGreatDoor
