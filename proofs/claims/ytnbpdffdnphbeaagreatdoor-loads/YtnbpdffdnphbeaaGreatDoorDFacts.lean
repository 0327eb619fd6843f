import Derived.Test.YtnbpdffdnphbeaaGreatDoorDHolds
namespace Go.Proofs.YtnbpdffdnphbeaaGreatDoor
open Go.RowKit
def zBA(w:World)(a:Option Addr)(ts:zG):Prop:=ts=[]\/∃g,a=some ⟨g,0,none⟩/\kI w g 0 ts
theorem zBA.below{w w':World}{a:Option Addr}{ts:zG}(h:zBA w a ts)(hb:Below w.heap.size w w'):zBA w' a ts:=by
 rcases h with h|⟨g,h1,h2⟩
 ·exact .inl h
 ·exact .inr ⟨g,h1,h2.below' hb⟩
theorem zBA.tok{w:World}{a:Option Addr}{ts:zG}(h:zBA w a ts){i:Nat}(hi:i<ts.length):∃g,a=some ⟨g,0,none⟩/\∀j,j<ts.length->w.cell? ⟨g,j*3,none⟩=some (.string ⟨(tA ts j).toArray⟩)/\w.cell? ⟨g,j*3+2,none⟩=some (.string ⟨(cA ts j).toArray⟩):=by
 rcases h with h|⟨g,h1,h2⟩
 ·rw[h]at hi;simp at hi
 ·refine⟨g,h1,fun j hj=>?_⟩
  have:=h2.tok hj;rw[l8]at this;exact this
def zI9(line:zG):Prop:=2<=line.length/\(cA line 0≠xW->5<=line.length/\(tA line 2).length<=4/\(tA line 4).length<=4)
theorem zGM{x:zF}{u:zG}(h:LT x u)(hk:cA u 0=xK\/cA u 0=xW):zI9 u:=by
 refine⟨h.two,fun hf=>?_⟩;rcases h.kind with ⟨_,_,h5,h2,h4,_⟩|⟨_,k2⟩|⟨_,k2,_⟩|⟨_,k2,_⟩
 ·exact⟨h5,pB h2,pB h4⟩
 ·exact absurd k2 hf
 ·rcases hk with e|e <;> (rw[k2]at e;exact absurd e (by decide))
 ·rcases hk with e|e <;> (rw[k2]at e;exact absurd e (by decide))
theorem dR(a b:List Int):vC (a++b)=vC a++vC b:=by simp[vC]
end Go.Proofs.YtnbpdffdnphbeaaGreatDoor
