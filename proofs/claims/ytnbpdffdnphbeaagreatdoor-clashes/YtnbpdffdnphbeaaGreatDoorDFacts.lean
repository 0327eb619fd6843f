import Derived.Test.YtnbpdffdnphbeaaGreatDoorDHolds
namespace Go.Proofs.YtnbpdffdnphbeaaGreatDoor
open Go.RowKit
def zB3(w:World)(a:Option Addr)(ts:zG):Prop:=ts=[]\/∃g,a=some ⟨g,0,none⟩/\kL w g 0 ts
theorem zB3.below{w w':World}{a:Option Addr}{ts:zG}(h:zB3 w a ts)(hb:Below w.heap.size w w'):zB3 w' a ts:=by
 rcases h with h|⟨g,h1,h2⟩
 ·exact .inl h
 ·exact .inr ⟨g,h1,h2.below' hb⟩
theorem zB3.tok{w:World}{a:Option Addr}{ts:zG}(h:zB3 w a ts){i:Nat}(hi:i<ts.length):∃g,a=some ⟨g,0,none⟩/\∀j,j<ts.length->w.cell? ⟨g,j*3,none⟩=some (.string ⟨(tA ts j).toArray⟩)/\w.cell? ⟨g,j*3+2,none⟩=some (.string ⟨(cA ts j).toArray⟩):=by
 rcases h with h|⟨g,h1,h2⟩
 ·rw[h]at hi;simp at hi
 ·refine⟨g,h1,fun j hj=>?_⟩
  have:=h2.tok hj;rw[lu]at this;exact this
def zI4(line:zG):Prop:=2<=line.length/\(cA line 0≠xV->5<=line.length/\(tA line 2).length<=4/\(tA line 4).length<=4)
theorem zGH{x:zF}{u:zG}(h:LT x u)(hk:cA u 0=xK\/cA u 0=xV):zI4 u:=by
 refine⟨h.two,fun hf=>?_⟩;rcases h.kind with ⟨_,_,h5,h2,h4,_⟩|⟨_,k2⟩|⟨_,k2,_⟩|⟨_,k2,_⟩
 ·exact⟨h5,pE h2,pE h4⟩
 ·exact absurd k2 hf
 ·rcases hk with e|e <;> (rw[k2]at e;exact absurd e (by decide))
 ·rcases hk with e|e <;> (rw[k2]at e;exact absurd e (by decide))
theorem dU(a b:List Int):vD (a++b)=vD a++vD b:=by simp[vD]
end Go.Proofs.YtnbpdffdnphbeaaGreatDoor
