import Derived.Test.YtnbpdffdnphbeaaGreatDoorMRk
import Derived.Test.YtnbpdffdnphbeaaGreatDoorRows
import Derived.ProofKit
import Derived.LaidMore
import Derived.OpenShut
import Derived.Stop.Joined
import Derived.Stop.LaidErr
import Derived.Lib.LaidTab
set_option maxRecDepth 100000
namespace Go.Proofs.YtnbpdffdnphbeaaGreatDoor
open Go.ChangeShapes Go.WideShapes Go.ChangeAt Go.WideMaps Go.WideElems Go.RowKit
open Go.ChangeMaps (open_string shut_string)
theorem zHK:ownKnob Tryz.prog.godebug=none:=by kernel_rfl
theorem gFol:Tryz.prog.globalNamed "statute/statuteref.follows" = some 0:=by kernel_rfl
theorem tFol:(Tryz.prog.globals[0]?).map (·.type)=some 328:=by kernel_rfl
theorem zDX{H:Type}:(Rows.laid_statute_statuteref_follows:DataW H)=.agg ((List.range 43).map fun i=>.agg [.lit (.string (xP.getD (i*3) [])),.lit (.string (xP.getD (i*3+1) [])),.lit (.string (xP.getD (i*3+2) []))]):=by rfl
theorem zGK{W:World}(h:∃ps,DataW.LaidVars Tryz.prog W [("statute/statuteref.follows",Rows.laid_statute_statuteref_follows)] ps):jJ W:=by
 obtain⟨ps,g0,t0,cs,f0,p0,q0,hg0,ht0,hv0,hd0,_⟩:=h;obtain rfl:=co (gFol.symm.trans hg0);obtain rfl:=co (tFol.symm.trans ht0);rw[zDX]at hd0;obtain⟨xs,m,rfl,hx,zIC,hn,hel⟩:=DataW.trod_array Tryz.underlying328 hd0;simp only[Prod.mk.injEq,DataW.agg.injEq]at hx;have c104:Tryz.prog.cellsOf 327=3:=by kernel_rfl
 have c9:Tryz.prog.cellsOf 9=1:=by kernel_rfl
 intro j hj;obtain⟨i,r,hr,rfl⟩:∃i r,r<3/\j=i*3+r:=⟨j/3,j%3,by omega,by omega⟩;have hi:i<43:=by omega
 have h1:=hel i hi;have hxi:i<xs.length:=by omega
 rw[pe hxi]at h1
 have hxe:(xs[i]).1=.agg [.lit (.string (xP.getD (i*3) [])),.lit (.string (xP.getD (i*3+1) [])),.lit (.string (xP.getD (i*3+2) []))]:=by
  have h2:=congrArg (fun l=>l[i]?) hx.1;simp only[List.getElem?_map,List.getElem?_range hi,pe hxi,Option.map_some,cx]at h2;exact h2.symm
 obtain⟨ys,m',_,hy,hlen2,hn2,hel2⟩:=DataW.trod_array Tryz.underlying327 h1;have h3:=hel2 r hr;have hyr:r<ys.length:=by omega
 rw[pe hyr]at h3;obtain⟨s,e1,e2,_⟩:=DataW.trod_string Tryz.underlying9 h3
 have hys:(ys[r]).1=.lit (.string (xP.getD (i*3+r) [])):=by
  have h4:xs[i].1=.agg (ys.map (·.1)):=by rw[hy]
  rw[hxe]at h4;simp only[DataW.agg.injEq]at h4;have h5:=congrArg (fun l=>l[r]?) h4;simp only[List.getElem?_map,pe hyr,Option.map_some]at h5;generalize (ys[r]).1=y at h5;obtain rfl|rfl|rfl:r=0\/r=1\/r=2:=by omega
  ·exact(co h5).symm
  ·exact(co h5).symm
  ·exact(co h5).symm
 rw[e2]at hys;simp only[DataW.lit.injEq,Lit.string.injEq]at hys;have zIR:=World.var?_cell hg0 hv0 (i*3+r);rw[zIR]
 have h6:cs.toList[i*3+r]? = some (.string s):=by
  rw[c9,c104]at e1;have h7:=congrArg (fun l=>l[0]?) e1;simp only[bv,List.getElem?_drop]at h7;simp only[Nat.mul_one,pq,show (0:Nat)<1 from by decide,if_true,hr]at h7;simpa using h7
 rw[Array.getElem?_toList]at h6;rw[h6,<-hys]
abbrev VU:List (String × DataW Unit):=[("statute/statuteref.follows",Rows.laid_statute_statuteref_follows)]
theorem qn{W:World}(h:laidMetH Tryz.prog VU W):jJ W:=by
 rw[MakeChecks.laidMetH_plain _ _ _ (by kernel_rfl)]at h;obtain⟨ps,h4,_⟩:=h;exact zGK ⟨ps,h4⟩
theorem zd(os:Os)(args:Array Value):laidMetH Tryz.prog VU ((World.doorLaid Tryz.prog 4000 os).forCall (fun _ _=>0) ⟨#[],args,[]⟩).memory :=
 laidMetH_of_parts3 (fuel:=8) (laidMet_of_run' 8 (by kernel_rfl) (by kernel_rfl)) (by kernel_rfl) (by kernel_rfl)
theorem zD9(os:Os)(started:os.Started)(H:Type)(enc:TypeId × Value->H) :
 ReturnsInHanded {} Tryz.checked os 7 .any (fun w args=>(Rows.clashesSpec.pre enc Tryz.prog Tryz.f7 [] false w args/\laidMetH Tryz.prog VU w)/\sizedMet enc Tryz.prog Tryz.f7 (OpenSpec.ofChange Rows.clashesSpec) false w args)
  (Rows.clashesSpec.post enc Tryz.prog Tryz.f7 false true false false):=by
 refine returnsInHanded_of_change_and (C:=Tryz.checked) (X:=fun w _=>laidMetH Tryz.prog VU w) (fun _ _ _ hh h=>h.of_heap hh) zHK started (by kernel_rfl) Tryz.func7
  (ChangeSpec.witness_shaped (enc:=enc) (C:=Tryz.checked) (os:=os) (X:=fun w _=>laidMetH Tryz.prog VU w) false (World.doorLaid Tryz.prog 4000 os) #[.string ⟨#[]⟩] 8 rfl (World.shaped_of_RefB (by kernel_rfl) (by kernel_rfl)) (by kernel_rfl) (by kernel_rfl) (by kernel_rfl) (zd os _)) ?_
 intro W base args ds gs before hval0 hW _ _ hL _;have hval:∀(j:Nat) t v,(Tryz.f7).params[j]? = some t->args[j]? = some v->Value.okWide Tryz.prog W .any base t v:=hval0;have hW':=hW;obtain⟨p,q,hA0,hV,rfl,hfz,hnd⟩:=hW;have hA:DataW.TrodAll enc Tryz.prog W 0 (fun _=>true) true (Tryz.f7).params.toList args.toList ds p:=hA0;rw[Tryz.params7]at hA hval;obtain⟨v0,d0,rfl,rfl,h0⟩:=trodAll_one hA;obtain⟨rfl,rfl⟩:=trodVars_none hV;obtain⟨s,rfl,rfl,rfl,hs⟩:=open_string Tryz.underlying9 (hval 0 9 v0 rfl rfl) h0;have hF:=qn hL;clear hA0 hval0;have hl:s.data.toList.length<=maxLen:=by simpa using hs
 have hc:=UX s.data.toList W hl hF;have es:(⟨s.data.toList.toArray⟩:ByteArray)=s:=by simp
 rw[es]at hc;refine hc.mono fun e W' ⟨he,hb⟩=>?_;subst he;refine⟨_,rfl,_,_,_,[],[],[],hW',?_,?_,?_,?_,?_⟩
 ·exact trodAll_mk1 (shut_bool Tryz.underlying4 _)
 ·exact trodAll_mk1 (shut_string Tryz.underlying9 hs)
 ·rfl
 ·exact hb.frame _
 ·intro h;exact absurd h (by decide)
theorem QQ:Rows.ClashesSaid :=
 OpenClaim.holds_of_wide 7 Tryz.f7 rfl rfl rfl rfl rfl rfl rfl ⟨rfl,rfl,rfl,rfl,rfl⟩ rfl rfl rfl rfl rfl (by kernel_rfl) Tryz.func7 (by kernel_rfl)
  (bg (by kernel_rfl)) (by unfold Func.isWrapper;first|(rw[tl (by decide +kernel)];kernel_rfl)|(rw[tg (by decide +kernel)];exact⟨rfl,rfl⟩))
  (fun os started H enc _=>zD9 os started H enc)
end Go.Proofs.YtnbpdffdnphbeaaGreatDoor
