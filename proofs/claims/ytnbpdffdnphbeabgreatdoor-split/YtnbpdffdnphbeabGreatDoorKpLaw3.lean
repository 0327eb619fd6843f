import Derived.Test.YtnbpdffdnphbeabGreatDoorSoLaw
import Derived.Test.YtnbpdffdnphbeabGreatDoorPHear
namespace Go.Proofs.YtnbpdffdnphbeabGreatDoor
open Go.RowKit
variable {M:yC} {G:Nat->GR}
def zKT(M:yC)(st av:Nat->Int)(w w':World)(e:Ending):Prop:=∃(na:Option Addr) (nc:Nat),e=.returned (.tuple #[.slice na M.heads.length nc,.int .i64 0])/\yZ w' 55 na (anW M.heads.length (fun c=>xG 99 (M.heads.getD c 0)) st av)/\Below w.heap.size w w'
structure zGU(M:yC)(HB:World->Nat->Prop)(v u:FV)(st av vd:Nat->Int):Prop where
 hear:zBU M u st av vd
 inn:∀i,u.inn i=v.inn i
 eval:∀w b,HB w b->Calls Tryz.prog 15 #[.pointer (some ⟨b,0,none⟩),.string ⟨(eO v 0).toArray⟩] w fun e w'=>zKT M st av w w' e
structure zGZ(M:yC)(HB:World->Nat->Prop):Prop where
 below:∀w w' b,HB w b->Below w.heap.size w w'->HB w' b
 str:∀w,Calls Tryz.prog 27 #[.string ⟨(wU (vI M false)).toArray⟩,.bool true] w fun e w'=>∃b:Nat,e=.returned (.tuple #[.pointer (some ⟨b,0,none⟩),.int .i64 0])/\HB w' b/\Below w.heap.size w w'
 cls:∀w,Calls Tryz.prog 29 #[.string ⟨(wU (vI M false)).toArray⟩] w fun e w'=>e=.returned (.tuple #[.slice none 0 0,.slice none 0 0,.int .i64 9])/\Below w.heap.size w w'
 told:∀v,lW M v->∃u st av vd,zGU M HB v u st av vd
theorem zCQ(h:yI M)(hF:FrG M G){v:FV}(hv:lW M v):∃u st av vd,zGU M (fun w b=>∃rs,bA w b (yA M G) rs) v u st av vd:=by
 have hc:=hF.calm;have hcase:xD (zX (yA M G)) (eO v 0)=((List.range 5).map v.inn,0):=DI h hv (by decide)
 have hs:wN (yA M G) ((List.range 5).map v.inn):=by
  have:=Cx hF.good (eO v 0);rw[hcase]at this;exact this
 have hll:(yY (yA M G)).length=M.heads.length:=by rw[Xk hc,pI h,pi]
 have hH:=zIK h hF (L:=(List.range 5).map v.inn) (inn:=v.inn) (by simp) (fun j hj=>by simp[List.getD,hj]) hs;refine⟨_,_,_,_,hH,fun _=>rfl,fun w b hB=>?_⟩;obtain⟨rs,hB⟩:=hB;refine(GQ w b (yA M G) rs (eO v 0) (p8 (zAF h hv (by decide)) (by decide)) hB hc (fun _=>by rw[hcase];exact hs)).mono ?_;rintro e w' ⟨va,vn,vc,na,nn,nc,rfl,-,h2,h3⟩;rw[hcase]at h2;obtain⟨-,⟨a,c,e,hv⟩⟩:=h2 rfl;rw[hll]at e hv;refine⟨a,c,by rw[hcase,e],?_,h3⟩
 have ev:∀z:vV,zGP (yY (yA M G)) z=anW M.heads.length (fun c=>xG 99 (M.heads.getD c 0)) z.st z.av:=fun z=>by
  unfold zGP anW;rw[hll];refine Cc _ fun j hj=>?_;have hj:=py.1 hj;have h2:((yY (yA M G)).map Prod.fst).getD j []=(M.heads.map (xG 99)).getD j []:=by rw[iK hc,pI h]
  have hj2:j<(yY (yA M G)).length:=by omega
  have h3:((yY (yA M G)).getD j ([],0)).1=xG 99 (M.heads.getD j 0):=by simpa[List.getD,hj2,hj] using h2
  rw[h3]
 rw[ev]at hv;exact hv
theorem zID(h:yI M)(hn:¬zJS M):∃HB,zGZ M HB:=by
 obtain⟨G,hF,hR⟩:=zHT h false (zCR h false) (x8 h false);refine⟨fun w b=>∃rs,bA w b (yA M G) rs,fun w w' b ⟨rs,hB⟩ hb=>⟨rs,hB.below hb⟩,fun w=>?_,fun w=>?_,fun v hv=>zCQ h hF hv⟩
 ·refine(zK6 h hF hR w).mono ?_
  rintro e w' ⟨hb,⟨b,rs,rfl,hB,-⟩|⟨-,hy⟩⟩
  ·exact⟨b,rfl,⟨rs,hB⟩,hb⟩
  ·exact absurd hy hn
 ·refine(Kj _ w (yA M G) hF.mod (hR w)).mono ?_
  rintro e w' ⟨rs,hr,hb,⟨rfl,-⟩|⟨i,j,f,g,la,sa,sc,-,hf,-⟩⟩
  ·exact⟨rfl,hb⟩
  ·exact absurd ((zJ9 h hF.gr hr).1 ⟨i,j,hf.1⟩) hn
end Go.Proofs.YtnbpdffdnphbeabGreatDoor
