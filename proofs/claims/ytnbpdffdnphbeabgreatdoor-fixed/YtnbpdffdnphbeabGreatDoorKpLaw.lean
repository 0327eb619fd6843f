import Derived.Test.YtnbpdffdnphbeabGreatDoorSoLaw
import Derived.Test.YtnbpdffdnphbeabGreatDoorPHear
set_option maxHeartbeats 800000
set_option maxRecDepth 100000
namespace Go.Proofs.YtnbpdffdnphbeabGreatDoor
open Go.RowKit
variable {M:zT} {G:Nat->GR}
def zA6(M:zT)(st av:Nat->Int)(w w':World)(e:Ending):Prop:=∃(na:Option Addr) (nc:Nat),e=.returned (.tuple #[.slice na M.heads.length nc,.int .i64 0])/\xB w' 55 na (zCP M.heads.length (fun c=>xG 99 (M.heads.getD c 0)) st av)/\Below w.heap.size w w'
def zE2(HB:World->Nat->Prop)(w w':World)(e:Ending):Prop:=∃b:Nat,e=.returned (.tuple #[.pointer (some ⟨b,0,none⟩),.int .i64 0])/\HB w' b/\Below w.heap.size w w'
theorem zDE(h:yF M)(hc:vJ (zW M G)):(xO (zW M G)).length=M.heads.length/\∀j,j<M.heads.length->((xO (zW M G)).getD j ([],0)).1=xG 99 (M.heads.getD j 0):=by
 have hll:(xO (zW M G)).length=M.heads.length:=by rw[QB hc,lJ h,pi]
 refine⟨hll,fun j hj=>?_⟩;have h2:((xO (zW M G)).map Prod.fst).getD j []=(M.heads.map (xG 99)).getD j []:=by rw[Zl hc,lJ h]
 have hj2:j<(xO (zW M G)).length:=by omega
 simpa[List.getD,hj2,hj] using h2
theorem zBR(v:FV)(j:Nat)(h:j<3->0<=v.inn j/\v.inn j<=9998):aM v j≠[59]/\(aM v j).length<=4:=by
 by_cases hj:j<3
 ·have h1:=fV (h hj).1 (by have:=(h hj).2;omega)
  unfold aM;rw[tg hj];refine⟨fun e=>?_,h1.2.2.1⟩;have:=h1.2.1 59 (by rw[e];simp);exact absurd this (by decide)
 ·rcases cS (v:=v) hj with ⟨e,-⟩|⟨e,-⟩ <;> rw[e] <;> exact⟨by decide,by decide⟩
theorem uz(v:FV)(s i:Nat)(hi:i<5)(h:aM v ((i+s)%5)≠[59]):sR ((YP v s).take (i+1))=sR ((YP v s).take i)++yG ((i+s)%5)++[32,61,32]++aM v ((i+s)%5)++[59,10]:=by
 have hl:(YP v s).length=5:=by unfold YP;simp
 rw[Qd _ i (by omega)];have e:(YP v s).getD i []=[yG ((i+s)%5),[61],aM v ((i+s)%5),[59]]:=by unfold YP;simp[List.getD,hi]
 rw[e];simp only[pF,UH];rw[t7 (by decide),t7 h,tg trivial];simp
theorem FX(w:World)(g:Nat)(v:FV)(c:Int)(hV:mL w g v)(hR:∀j,j<3->0<=v.inn j/\v.inn j<=9998)(hc:qY c)(hT:gT w) :
 Calls Tryz.prog 14 #[.pointer (some ⟨g,0,none⟩),.int .i64 c] w fun e w'=>e=.returned (.string ⟨(nM v (sQ c 5).toNat).toArray⟩)/\Below w.heap.size w w':=by
 obtain⟨pb0,pb1⟩:=uY c 5 (by omega)
 have HPk:Hid (∀w':World,Calls Tryz.prog 41 #[.int .i64 c,.int .i64 5] w' fun e w''=>e=.returned (.int .i64 (((sQ c 5).toNat:Nat):Int))/\w''=w'):=fun w'=>by
  have:=iP w' c 5 hc (by omega) (by omega);rw[show (((sQ c 5).toNat:Nat):Int)=sQ c 5 by omega];exact this
 have hp:(sQ c 5).toNat<5:=by omega
 generalize (sQ c 5).toNat=p at *;have HVb:=zA (fun w' (hb:Below w.heap.size w w')=>hV.below hb);have HTb:=zA (fun w' (hb:Below w.heap.size w w')=>hT.below hb);have HR:=zA hR;have HEnd:Hid (nM v p=sR ((YP v p).take 5)):=by unfold Hid nM;rw[List.take_of_length_le (by unfold YP;simp)]
 clear hV hR hc hT pb0 pb1;generalize nM v p=R at *
 go_enter Tryz.func14,Tryz.ntmps14
 go_wp2_with fail
 go_loopw [5,6] (fun sv iv wr=>∃(i:Nat) (t:Bs),i<=5/\sv=.string ⟨t.toArray⟩/\iv=.int .i64 i/\t.length<=i*20/\Hid (t=sR ((YP v p).take i))/\Hid (Below w.heap.size w wr)) (fun _ iv _=>5-(intOf iv).toNat)
 case atStart=>exact⟨0,[],tq _,rfl,rfl,by simp,zA rfl,zA (t9 _ _)⟩
 case round =>
  obtain⟨i,t,hi5,rfl,rfl,ht,HE,HB⟩:=hrel;by_cases zE9:i<5
  ·have c1:(i:Int)<5:=by omega
   have hj5:(i+p)%5<5:=Nat.mod_lt _ (by decide)
   have hmod:((i:Int)+(p:Int)).tmod 5=(((i+p)%5:Nat):Int):=by
    rw[show ((i:Int)+(p:Int))=((i+p:Nat):Int) by omega];rfl
   have hmod2:((i:Int)+(p:Int))%5=(((i+p)%5:Nat):Int):=by omega
   obtain⟨n59,l4⟩:=zBR v ((i+p)%5) (fun h=>HR.out _ h);have HS:Hid (sR ((YP v p).take (i+1))=t++yG ((i+p)%5)++[32,61,32]++aM v ((i+p)%5)++[59,10]):=by unfold Hid;rw[HE.out];exact uz v p i zE9 n59
   have l2:(yG ((i+p)%5)).length=2:=(show ∀j,j<5->(yG j).length=2 by decide) _ hj5;have HIn:=zA (fun w'=>bE w' ((i+p)%5) hj5);clear n59;generalize (i+p)%5=j at *;generalize yG j=nj at *;go_wp2_with fail
   refine(HPk.out _).mono ?_;rintro e w' ⟨rfl,hw⟩;obtain rfl:=hw.symm;go_wp2_with fail
   refine(HIn.out _).mono ?_;rintro e w2 ⟨rfl,hb2⟩;have HB2:Hid (Below w.heap.size w w2):=HB.out.trans (hb2.mono HB.out.size);have m0:=(HVb.out w2 HB2.out).cells.1 j hj5;clear hb2 HE HIn HPk hmod hmod2;by_cases h3:j<3
   ·have c3:(j:Int)<3:=by omega
    obtain⟨r0,r1⟩:=HR.out j h3;have HIt:=zA (sH w2 (v.inn j) r0 (by omega) (HTb.out w2 HB2.out));have HS2:Hid (sR ((YP v p).take (i+1))=t++nj++[32,61,32]++Lib.itoa (v.inn j)++[59,10]):=by have:=HS.out;unfold aM at this;rw[tg h3]at this;exact this
    have l5:(Lib.itoa (v.inn j)).length<=4:=by unfold aM at l4;rw[tg h3]at l4;exact l4
    clear HS l4;generalize v.inn j=z at *;generalize Lib.itoa z=tz at *;go_wp2_with fail
    refine HIt.out.mono ?_;rintro e w3 ⟨rfl,hb3⟩;have HB3:Hid (Below w.heap.size w w3):=HB2.out.trans (hb3.mono HB2.out.size);clear hb3 HIt;go_wp2_with fail
    go_roundw
    case rel=>exact⟨i+1,t++nj++[32,61,32]++tz++[59,10],by omega,by rw[<-kS,<-kS,<-kS,<-kS],by go_num,by simp;omega,zA HS2.out.symm,HB3⟩
    case measure=>simp[intOf];omega
   ·have c3:¬(j:Int)<3:=by omega
    rcases cS (v:=v) h3 with ⟨e,e1⟩|⟨e,e1⟩
    ·rw[e]at HS
     rw[e1]at m0;clear e e1 l4;go_wp2_with fail
     go_roundw
     case rel=>exact⟨i+1,t++nj++[32,61,32]++[121,101,115]++[59,10],by omega,by rw[<-kS,<-kS,<-kS,<-kS],by go_num,by simp;omega,zA HS.out.symm,HB2⟩
     case measure=>simp[intOf];omega
    ·rw[e]at HS
     have b1:(v.inn j==1)=false:=by rw[py];exact e1
     clear e e1 l4;generalize v.inn j=z at *;go_wp2_with fail
     go_roundw
     case rel=>exact⟨i+1,t++nj++[32,61,32]++[110,111]++[59,10],by omega,by rw[<-kS,<-kS,<-kS,<-kS],by go_num,by simp;omega,zA HS.out.symm,HB2⟩
     case measure=>simp[intOf];omega
  ·obtain rfl:i=5:=by omega
   have HF:Hid (t=R):=by unfold Hid;rw[HE.out,HEnd.out]
   clear HE HEnd;go_wp2_with fail
   go_ret
   exact⟨by rw[HF.out];rfl,HB.out⟩
variable {M:zT}
theorem BX(w:World)(td:Bs)(HB:World->Nat->Prop)(hL:Calls Tryz.prog 27 #[.string ⟨td.toArray⟩,.bool false] w fun e w'=>zE2 HB w w' e) :
 Calls Tryz.prog 11 #[.string ⟨td.toArray⟩] w fun e w'=>∃b:Nat,e=.returned (.tuple #[.pointer (some ⟨b,0,none⟩),.bool true])/\HB w' b/\Below w.heap.size w w':=by
 have HL:=zA hL;clear hL
 go_enter Tryz.func11,Tryz.ntmps11
 go_wp2_with fail
 refine HL.out.mono ?_;rintro e w1 ⟨b,rfl,hB,hb⟩;have HHB:=zA hB;have HBl:=zA hb;clear hB hb HL;go_wp2_with fail
 go_ret2
 exact⟨b,rfl,HHB.out,HBl.out⟩
end Go.Proofs.YtnbpdffdnphbeabGreatDoor
