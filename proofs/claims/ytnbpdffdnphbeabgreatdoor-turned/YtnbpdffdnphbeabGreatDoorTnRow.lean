import Derived.Test.YtnbpdffdnphbeabGreatDoorFTold
import Derived.Test.YtnbpdffdnphbeabGreatDoorRows
import Derived.LaidMore
import Derived.Stop.Joined
import Derived.Stop.LaidErr
import Derived.Lib.LaidTab
set_option maxRecDepth 100000
namespace Go.Proofs.YtnbpdffdnphbeabGreatDoor
open Go.ChangeShapes Go.WideShapes Go.ChangeAt Go.WideMaps Go.WideElems Go.RowKit
theorem zKJ:ownKnob Tryz.prog.godebug=none:=by kernel_rfl
theorem Dt:laidOutB Tryz.prog=true:=by kernel_rfl
theorem zJG:Tryz.prog.globalNamed "internal/strconv.uint64pow10" = some 0:=by kernel_rfl
theorem tPow:(Tryz.prog.globals[0]?).map (·.type)=some 275:=by kernel_rfl
theorem zEA{H:Type}:(Rows.laid_internal_strconv_uint64pow10:DataW H)=Lib.tabData .u64 Lib.pow10Tab:=by rfl
abbrev VO:List (String × DataW Unit):=[("math/bits.deBruijn32tab",Rows.laid_math_bits_deBruijn32tab),("math/bits.deBruijn64tab",Rows.laid_math_bits_deBruijn64tab),("internal/strconv.uint64pow10",Rows.laid_internal_strconv_uint64pow10)]
theorem jc{W:World}(h:laidMetH Tryz.prog VO W):aN W:=by
 rw[MakeChecks.laidMetH_plain _ _ _ (by kernel_rfl)]at h;have h2:=laidMet.tail (laidMet.tail h)
 have hT:zLA W:=by
  rw[zEA]at h2;exact Lib.tabIs_of_head zJG tPow Tryz.underlying275 Tryz.underlying247 (by kernel_rfl) (by kernel_rfl) h2
 exact⟨hT,0,zJG,World.block_lt_of_cell? _ _ (Lib.TabIs.cell hT zJG 0 (by decide))⟩
theorem yj(os:Os)(args:Array Value):laidMetH Tryz.prog VO ((World.doorLaid Tryz.prog 4000 os).forCall (fun _ _=>0) ⟨#[],args,[]⟩).memory :=
 laidMetH_of_parts3 (fuel:=8) (laidMet_of_run' 8 (by kernel_rfl) (by kernel_rfl)) (by kernel_rfl) (by kernel_rfl)
theorem Jr{c:Int}(h:(Lit.int .i64 c).wf=true):qS c:=by
 simp[Lit.wf,IntKind.min,IntKind.max,IntKind.signed,IntKind.bits]at h;unfold qS;omega
theorem zF5(os:Os)(started:os.Started)(H:Type)(enc:TypeId × Value->H) :
 ReturnsInHanded {} Tryz.checked os 4 .any (fun w args=>(Rows.turnedSpec.pre enc Tryz.prog Tryz.f4 [] false w args/\laidMetH Tryz.prog VO w)/\sizedMet enc Tryz.prog Tryz.f4 (OpenSpec.ofChange Rows.turnedSpec) false w args)
  (Rows.turnedSpec.post enc Tryz.prog Tryz.f4 false true false false):=by
 refine returnsInHanded_of_change_and (C:=Tryz.checked) (X:=fun w _=>laidMetH Tryz.prog VO w) (fun _ _ _ hh h=>h.of_heap hh) zKJ started (by kernel_rfl) Tryz.func4
  (ChangeSpec.witness_shaped (enc:=enc) (C:=Tryz.checked) (os:=os) (X:=fun w _=>laidMetH Tryz.prog VO w) false (World.doorLaid Tryz.prog 4000 os) #[.agg #[.slice none 0 0,.slice none 0 0,.slice none 0 0],.slice none 0 0,.int .i64 0,.int .i64 0] 8 rfl (World.shaped_of_RefB (by kernel_rfl) (by kernel_rfl)) (by kernel_rfl) (by kernel_rfl) (by kernel_rfl) (yj os _)) ?_
 intro W base args ds gs before hval0 hW _ _ hL _;have hval:∀(j:Nat) t v,(Tryz.f4).params[j]? = some t->args[j]? = some v->Value.okWide Tryz.prog W .any base t v:=hval0;have hW':=hW;obtain⟨p,q,hA0,hV,rfl,hfz,hnd⟩:=hW;have hA:DataW.TrodAll enc Tryz.prog W 0 (fun _=>true) true (Tryz.f4).params.toList args.toList ds p:=hA0;rw[Tryz.params4]at hA hval;obtain⟨v0,v1,v2,v3,d0,d1,d2,d3,p0,p1,p2,p3,rfl,rfl,rfl,h0,h1,h2,h3⟩:=trodAll_four hA;obtain⟨rfl,rfl⟩:=trodVars_none hV;obtain⟨kk,rfl,rfl,rfl,wkk⟩:=open_int Tryz.underlying3 (hval 2 3 v2 rfl rfl) h2;obtain⟨jj,rfl,rfl,rfl,wjj⟩:=open_int Tryz.underlying3 (hval 3 3 v3 rfl rfl) h3;have h0k:=h0;have h1k:=h1;have hlt0:∀x∈p0,x.block<W.heap.size:=fun x hx=>by simpa using hW'.lt x (by simp[hx])
 have hlt1:∀x∈p1,x.block<W.heap.size:=fun x hx=>by simpa using hW'.lt x (by simp[hx])
 obtain⟨la,ln,lc,wa,wn,wk,ra,rn,rc,hd,rfl,r0,r1,r2⟩:=zk (hval 0 25 v0 rfl rfl) h0;obtain⟨ga,gn,gc,rfl⟩:=okWide_slice Tryz.underlying22 (hval 1 22 v1 rfl rfl);obtain⟨fuel,hf⟩:=h1;obtain⟨a',n',c',e,r3⟩:=wV hf;simp only[Value.cells]at e;injection e with e _
 injection e with e1 e2 e3
 subst e1 e2 e3;have hT:=jc hL;clear hA0 hval0;refine(CV W la wa ra ga ln lc wn wk rn rc gn gc hd kk jj r0 r1 r2 r3 hT (Jr wkk) (Jr wjj)).mono fun e W' ⟨he,hb⟩=>?_;subst he;refine⟨_,rfl,_,_,_,[],p0++(p1++([]++[])),[],hW',?_,?_,?_,?_,?_⟩
 ·exact trodAll_mk1 (shut_bool Tryz.underlying4 _)
 ·exact trodAll_mk4 (Below.trod Dt (by kernel_rfl) (cb (by kernel_rfl)) h0k hb hlt0) (Below.trod Dt (by kernel_rfl) (cb (by kernel_rfl)) h1k hb hlt1) (shut_int Tryz.underlying3 wkk) (shut_int Tryz.underlying3 wjj)
 ·rfl
 ·exact hb.frame _
 ·intro h;exact absurd h (by decide)
theorem JP:Rows.TurnedSaid :=
 OpenClaim.holds_of_wide 4 Tryz.f4 rfl rfl rfl rfl rfl rfl rfl ⟨rfl,rfl,rfl,rfl,rfl⟩ rfl rfl rfl rfl rfl (by kernel_rfl) Tryz.func4 (by kernel_rfl)
  (cb (by kernel_rfl)) (by unfold Func.isWrapper;first|(rw[tl (by decide +kernel)];kernel_rfl)|(rw[tb (by decide +kernel)];exact⟨rfl,rfl⟩))
  (fun os started H enc _=>zF5 os started H enc)
end Go.Proofs.YtnbpdffdnphbeabGreatDoor
