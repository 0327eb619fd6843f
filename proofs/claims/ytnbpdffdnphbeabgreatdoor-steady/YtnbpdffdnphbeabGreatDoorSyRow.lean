import Derived.Test.YtnbpdffdnphbeabGreatDoorSyWalk
import Derived.Test.YtnbpdffdnphbeabGreatDoorRows
import Derived.LaidMore
import Derived.Stop.Joined
import Derived.Stop.LaidErr
import Derived.Lib.LaidTab
import Derived.SliceStrings
open Go.Proofs.Tryz
set_option maxRecDepth 100000
namespace Go.Proofs.YtnbpdffdnphbeabGreatDoor
open Go.ChangeShapes Go.WideShapes Go.ChangeAt Go.WideMaps Go.WideElems Go.RowKit
theorem Lk:ownKnob prog.godebug=none:=by kernel_rfl
theorem F7:laidOutB prog=true:=by kernel_rfl
theorem Ef:prog.globalNamed "internal/strconv.uint64pow10" = some 0:=by kernel_rfl
theorem E6:(prog.globals[0]?).map (·.type)=some 275:=by kernel_rfl
theorem Oa{H:Type}:(Rows.laid_internal_strconv_uint64pow10:DataW H)=Lib.tabData .u64 Lib.pow10Tab:=by rfl
abbrev UL:List (String × DataW Unit):=[("math/bits.deBruijn32tab",Rows.laid_math_bits_deBruijn32tab),("math/bits.deBruijn64tab",Rows.laid_math_bits_deBruijn64tab),("internal/strconv.uint64pow10",Rows.laid_internal_strconv_uint64pow10)]
theorem SQ{W:World}(h:laidMetH prog UL W):eG W:=by
 rw[MakeChecks.laidMetH_plain _ _ _ (by kernel_rfl)]at h;have h2:=laidMet.tail (laidMet.tail h)
 have hT:s9 W:=by
  rw[Oa]at h2;exact Lib.tabIs_of_head Ef E6 underlying275 underlying247 (by kernel_rfl) (by kernel_rfl) h2
 exact⟨hT,0,Ef,World.block_lt_of_cell? _ _ (Lib.TabIs.cell hT Ef 0 (by decide))⟩
theorem qp(os:Os)(args:Array Value):laidMetH prog UL ((World.doorLaid prog 4000 os).forCall (λ_ _=>0) ⟨#[],args,[]⟩).memory :=
 laidMetH_of_parts3 (fuel:=8) (laidMet_of_run' 8 (by kernel_rfl) (by kernel_rfl)) (by kernel_rfl) (by kernel_rfl)
theorem Oq:prog.cellsOf 9=1:=by kernel_rfl
theorem Sp{H:Type}{enc:TypeId × Value->H}{W:World}{fuel:Nat}{cs:List Value}{x:DataW H × List MemPlace}(h:DataW.trod enc prog W 0 (λ_=>true) true fuel 70 cs=some x):∃a n c,cs=[.slice a n c]/\jc W a n:=by
 rcases open_strings underlying70 underlying9 Oq h with ⟨aB,_⟩|⟨ad,len,aG,ss,aB,_,hl,hm,hz,_,aH,aJ⟩
 ·exact⟨none,0,0,aB,⟨λh=>x' h (by omega),p8⟩⟩
 ·simp only[dj]at hz
  refine⟨some ad,len,aG,aB,⟨λh=>?_,by omega⟩⟩;have hs:=oS (aH 0 (by omega));have hs:ad.spot=none:=by simpa[Addr.add] using hs
  obtain⟨b,off,spot⟩:=ad;obtain rfl:spot=none:=hs;refine⟨b,off,rfl,λi hi=>?_⟩;have hi':i<ss.length:=by omega
  have:=aH i hi';rw[V8]at this;refine⟨(ss.getD i ByteArray.empty).data.toList,by rw[this],?_⟩;have hq:=aJ (ss.getD i ByteArray.empty) (by rw[mq,pm hi'];exact dq hi');simpa using hq
theorem N1(os:Os)(started:os.Started)(H:Type)(enc:TypeId × Value->H) :
 ReturnsInHanded {} checked os 9 .any (λw args=>(Rows.steadySpec.pre enc prog f9 [] false w args/\laidMetH prog UL w)/\sizedMet enc prog f9 (OpenSpec.ofChange Rows.steadySpec) false w args)
  (Rows.steadySpec.post enc prog f9 false true false false):=by
 refine returnsInHanded_of_change_and (C:=checked) (X:=λw _=>laidMetH prog UL w) (λ_ _ _ hh h=>h.of_heap hh) Lk started (by kernel_rfl) func9
  (ChangeSpec.witness_shaped (enc:=enc) (C:=checked) (os:=os) (X:=λw _=>laidMetH prog UL w) false (World.doorLaid prog 4000 os) #[.agg #[.slice none 0 0,.slice none 0 0,.slice none 0 0],.slice none 0 0] 8 rfl (World.shaped_of_RefB (by kernel_rfl) (by kernel_rfl)) (by kernel_rfl) (by kernel_rfl) (by kernel_rfl) (qp os _)) ?_
 intro W base args ds gs before aA hW _ _ hL _;have hval:∀(j:Nat) t v,(f9).params[j]? = some t->args[j]? = some v->Value.okWide prog W .any base t v:=aA;have aF:=hW;obtain⟨p,q,aI,hV,rfl,aM,hnd⟩:=hW;have hA:DataW.TrodAll enc prog W 0 (λ_=>true) true (f9).params.toList args.toList ds p:=aI;rw[params9]at hA hval;obtain⟨v0,v1,d0,d1,p0,p1,rfl,rfl,rfl,h0,h1⟩:=trodAll_two hA;obtain⟨rfl,rfl⟩:=trodVars_none hV;have aL:=h0;have aK:=h1;have aD:∀x∈p0,x.block<W.heap.size:=λx hx=>by simpa using aF.lt x (by simp[hx])
 have aC:∀x∈p1,x.block<W.heap.size:=λx hx=>by simpa using aF.lt x (by simp[hx])
 obtain⟨la,ln,lc,wa,wn,wk,ra,rn,rc,hd,rfl,r0,r1,r2⟩:=ur (hval 0 25 v0 rfl rfl) h0;obtain⟨ga,gn,gc,rfl⟩:=okWide_slice underlying70 (hval 1 70 v1 rfl rfl);obtain⟨fuel,hf⟩:=h1;obtain⟨a',n',c',e,r3⟩:=Sp hf;simp only[Value.cells]at e;injection e with e _
 injection e with e1 e2 e3
 subst e1 e2 e3;have hT:=SQ hL;clear aI aA;refine(Fj W la wa ra ga ln lc wn wk rn rc gn gc hd r0 r1 r2 r3 hT).mono λe W' ⟨he,hb⟩=>?_;subst he;refine⟨_,rfl,_,_,_,[],p0++p1,[],aF,?_,?_,?_,?_,?_⟩
 ·exact trodAll_mk1 (shut_bool underlying4 _)
 ·exact trodAll_mk2 (Below.trod F7 (by kernel_rfl) (cr (by kernel_rfl)) aL hb aD) (Below.trod F7 (by kernel_rfl) (cr (by kernel_rfl)) aK hb aC)
 ·rfl
 ·exact hb.frame _
 ·intro h;exact M' h
theorem KG:Rows.SteadySaid :=
 OpenClaim.holds_of_wide 9 f9 rfl rfl rfl rfl rfl rfl rfl ⟨rfl,rfl,rfl,rfl,rfl⟩ rfl rfl rfl rfl rfl (by kernel_rfl) func9 (by kernel_rfl)
  (cr (by kernel_rfl)) (by unfold Func.isWrapper;first|(rw[tr (by decide +kernel)];kernel_rfl)|(rw[tj (by decide +kernel)];exact⟨rfl,rfl⟩))
  (λos started H enc _=>N1 os started H enc)
end Go.Proofs.YtnbpdffdnphbeabGreatDoor
