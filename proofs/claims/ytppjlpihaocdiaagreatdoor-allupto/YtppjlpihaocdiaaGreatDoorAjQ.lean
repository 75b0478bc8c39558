import Derived.Test.YtppjlpihaocdiaaGreatDoorAiQ
set_option linter.all false
set_option maxRecDepth 100000
set_option maxHeartbeats 16000000
namespace Go.Proofs.YtppjlpihaocdiaaGreatDoor
open Go.RowKit Go.Proofs.Tryz
variable{w u v:ae}{a b c d e:Nat}{s t:ag}{x y z:af}{p D:Int}{l:List af}{f:Bool}{g:List Nat}{h:Nat->Prop}{o:Option Addr}{r:List UInt8}{A:Nat->Bool}{B:Nat->Nat->Bool}{C:Nat->Nat->Prop}(i:Nat)(S T:ag)(V X:af)(j k m n:Nat)(Z:Int)(W:ae)
def ac4(f:Pp)(w:Nat->Nat->Nat->Nat->Bool)(aI:Nat->Nat)(H:ae)(x a2:Nat)(L:Ctx f w aI H x)(a3:Fa f w aI H x a2)
  (k d g s b7:Nat) (mt:Int×Int) (a0:co) (c:ae) (z:Nat->Nat->Bool) (K:Nat->Nat->Prop) (aK:k<a2) (M:k<f.bc.length) (P:uk f H x mt a0 c) (aL:d<=g) (b8:g<=f.s.size)
  (qa:fx H s f.s.size z) (a4:Tl f.s.size z K) (a1:∀a,pr (fun a=>bi f.s f.bc k d a/\K a g) d g a->bi f.s f.bc k d a):
  Calls prog 192 #[.pointer (some ⟨f.tb,0,none⟩), .int .i64 k, .agg #[.int .i64 d, .int .i64 g], .slice (some ⟨s,0,none⟩) (f.s.size+1) b7, .slice (some ⟨x,0,none⟩) (f.eu+1) (f.eu+1)] c
   fun n aJ=>∃a:Nat,n= .returned (.int .i64 a)/\pr (fun a=>bi f.s f.bc k d a/\K a g) d g a/\∃T,uk f H x mt T aJ/\jg f.s f.bc k d a a0 T/\Fo x c aJ:=by
 have U:=J L;have aM:=J a3;have a5:=J P;have a6:=J a4;have aN:=J a1;have R:=J qa;have b9:=L.tb.js;have bA:=P.lt;have bD:=L.tb.ko;have aO:=P.b.size;have h:Below c.heap.size c (c.alloc (.cells #[I d, I g] 48)):=(bp _ _).alloc ah _;have l:(c.alloc (.cells #[I d, I g] 48)).heap.size=c.heap.size+1:=qD
 have b:=heap_alloc_new c (.cells #[I d, I g] 48);clear L a3 P a4 a1 qa;go_in;go_wp21;generalize (c.alloc (.cells #[I d, I g] 48))=j at h l b;have t:j.cell? (O c.heap.size 0)=some (I d):=by rw [cell_of_row j _ 0 _ 48 (0,0) b];rfl
 have m:j.cell? (O c.heap.size 1)=some (I g):=by rw [cell_of_row j _ 1 _ 48 (0,0) b];rfl
 have r:=J h;obtain ⟨V,W,i,e⟩:=(U.out.tb.below (a5.out.b.trans (h.mono aO))).Ze M;have y:=J (i.below (bp j.heap.size j).drew);have u:Y (Hv (j.alloc (.cells #[.int .u64 0, .int .u64 0] 158)).drew f k V W):=i.below ((bp j.heap.size j).alloc ah _).drew;have v:=J e;have bE:=Nat.lt_of_lt_of_eq e.lt l;obtain ⟨o,p,A,B,C,D,q⟩:=e.cell d Q;have X:=J q;clear e q i;have i:=J (a5.out.below h);clear h b;have bF:d<=f.s.size:=Q
 have bG:(d:Int)<(f.s.size:Int)+1:=Q
 have bH:(0:Int)<=(d:Int):=Q
 go_cut [11] (fun aP Z=>aP= ab (c.heap.size+1) 0/\Z=(j.alloc (.cells #[.int .u64 o, .int .u64 p] 158)).drew)
 case first=>
  go_region_with (first
    |(go_at_call 66;(go_call Qy f k V W _ y.out as n h ⟨rfl,b⟩;subst h))
    |(go_at_call 66;(go_call Qy f k V W _ u.out as n h ⟨rfl,b⟩;subst h)))
  all_goals (go_wp21;go_meet;exact ⟨rfl,rfl⟩)
 case rest=>
 obtain ⟨rfl,rfl⟩:=hcut;have b:Below j.heap.size j (j.alloc (.cells #[.int .u64 o, .int .u64 p] 158)).drew:=((bp _ _).alloc ah _).drew;have e:(j.alloc (.cells #[.int .u64 o, .int .u64 p] 158)).drew.heap[c.heap.size+1]? =some (.cells #[.int .u64 o, .int .u64 p] 158):=by
  have:=heap_alloc_new j (.cells #[.int .u64 o, .int .u64 p] 158);rw [l] at this;exact this
 have aQ:(j.alloc (.cells #[.int .u64 o, .int .u64 p] 158)).drew.heap.size=c.heap.size+2:=by simp [l]
 generalize (j.alloc (.cells #[.int .u64 o, .int .u64 p] 158)).drew=h at b e aQ;have a7:=J (i.out.below b);have aR:=J (r.out.trans (b.mono Q));have S:Y (h.cell? (O c.heap.size 0)=some (I d)/\h.cell? (O c.heap.size 1)=some (I g)):=⟨(ac 0 (b.block c.heap.size Q)).trans t,(ac 1 (b.block c.heap.size Q)).trans m⟩;have a8:Y (h.cell? (O (c.heap.size+1) 0)=some (.int .u64 o)/\h.cell? (O (c.heap.size+1) 1)=some (.int .u64 p)):=⟨by rw [cell_of_row h _ 0 _ 158 (0,0) e];rfl,by rw [cell_of_row h _ 1 _ 158 (0,0) e];rfl⟩;clear A B C D t m b e l y u v i r;obtain ⟨aS,aT⟩:=S.out;go_wp21;go_loopw [12] (fun A wr=>∃a:Nat,d<=a/\a<=g/\A= I a/\Y (∀l,a<l->l<=g->¬(bi f.s f.bc k d l/\K l g))/\Y (Below h.heap.size h wr)) (fun A _=>(intOf A).toNat)
 case atStart=>exact ⟨g,aL,ah,rfl,fun l aU a9=>Q,bp _ _⟩
 obtain ⟨a,aA,aV,rfl,aB,t⟩:=hrel;have aW:Y (wr.cell? (O (c.heap.size+1) 0)=some (.int .u64 o)/\wr.cell? (O (c.heap.size+1) 1)=some (.int .u64 p)):=⟨(ac 0 (t.out.block (c.heap.size+1) Q)).trans a8.out.1,(ac 1 (t.out.block (c.heap.size+1) Q)).trans a8.out.2⟩;have aX:Y (wr.cell? (O c.heap.size 0)=some (I d)/\wr.cell? (O c.heap.size 1)=some (I g)):=⟨(ac 0 (t.out.block c.heap.size Q)).trans S.out.1,(ac 1 (t.out.block c.heap.size Q)).trans S.out.2⟩;have aY:=t.out.size;have aZ:=J (a7.out.below t.out);clear aS aT;obtain ⟨b0,b1⟩:=aW.out;obtain ⟨b2,B⟩:=aX.out;have aC:=J (R.out.below aZ.out.b R.out.lt);obtain ⟨aD,aE,C,D,b3,b4,b⟩:=aC.out.cell a Q;have aF:=J b;have v:=aC.out.lt;clear b;have bI:(a:Int)<(f.s.size:Int)+1:=Q
 have bJ:(0:Int)<=(a:Int):=Q
 have bK:a<=f.s.size:=Q
 go_upto_region 3 with fail
 go_cut [40] (fun b5 Z=>b5= .bool (decide (d<a)&& !(w k 0 d a&&z a g))/\Below wr.heap.size wr Z)
 case first=>
  by_cases hit:d<a
  .have hd:decide ((d:Int)<(a:Int))=true:=qB
   obtain r|r:=df (w k 0 d a)
   .have m:=J r;obtain y|y:=df (z a g)
    .have u:=J y;clear r y;go_region_with (first
      |(go_at_call 193;(have E:=e.out;clear E;refine (Gj aD aE g _ Q _ aF.out).mono ?_;rw [u.out];rintro n w4 ⟨rfl,q⟩;have F:=J (e.out.trans (q.mono e.out.size));clear q))
      |(go_at_call 193;(refine (Gj o p a _ Q _ X.out).mono ?_;rw [m.out];rintro n w3 ⟨rfl,i⟩;have b:=(bp wr.heap.size wr).drew.trans i;have e:=J b;have aG:=(ac (a*2) (b.block s v)).trans C;have aH:=(ac (a*2+1) (b.block s v)).trans D;have b6:=(ac 1 (b.block c.heap.size Q)).trans B;clear i b)))
     all_goals (go_wp21;go_meet;exact ⟨by rw [m.out,u.out];simp,F.out⟩)
    have u:=J y;clear r y;go_region_with (first
     |(go_at_call 193;(have E:=e.out;clear E;refine (Gj aD aE g _ Q _ aF.out).mono ?_;rw [u.out];rintro n w4 ⟨rfl,q⟩;have F:=J (e.out.trans (q.mono e.out.size));clear q))
     |(go_at_call 193;(refine (Gj o p a _ Q _ X.out).mono ?_;rw [m.out];rintro n w3 ⟨rfl,i⟩;have b:=(bp wr.heap.size wr).drew.trans i;have e:=J b;have aG:=(ac (a*2) (b.block s v)).trans C;have aH:=(ac (a*2+1) (b.block s v)).trans D;have b6:=(ac 1 (b.block c.heap.size Q)).trans B;clear i b)))
    all_goals (go_wp21;go_meet;exact ⟨by rw [m.out,u.out];simp [hit],F.out⟩)
   have m:=J r;clear r
   first
    |go_region_with (first
     |(go_at_call 193;(refine (Gj o p a _ Q _ X.out).mono ?_;rw [m.out];rintro n w3 ⟨rfl,i⟩;have b:=(bp wr.heap.size wr).drew.trans i;have e:=J b;clear i b)))
    |fail
   all_goals (go_wp21;go_meet;exact ⟨by rw [m.out];simp [hit],e.out⟩)
  have hd:decide ((d:Int)<(a:Int))=false:=qB
  go_region
  all_goals (go_wp21;go_meet;exact ⟨by simp [hit],(bp _ _).drew⟩)
 obtain ⟨rfl,b⟩:=hcut;have i:=J (t.out.trans (b.mono aY));clear b C D b3 b4 b0 b1 b2 B;by_cases b:(decide (d<a)&& !(w k 0 d a&&z a g))=true
 .have e:=J b;rw [b];have hit:d<a:=by
   have:=b;simp only [Aw,xz] at this;exact this.1
  clear b;go_wp21;go_roundw
  case rel=>
   refine ⟨a-1,Q,Q,qJ,fun l aU a9=> ?_,i.out⟩;by_cases n:l=a
   .subst n;rintro ⟨m,r⟩;have qa:=(U.out.tl M d Q l).2 m;have R:=(a6.out l Q g).2 r;have:=e.out;rw [qa,R] at this;simp at this
   exact aB.out l Q a9
  simp [intOf];omega
 have e:(decide (d<a)&& !(w k 0 d a&&z a g))=false:=qK b
 have m:Y (pr (fun a=>bi f.s f.bc k d a/\K a g) d g a):=by
  refine ⟨aA,aV,aB.out, ?_⟩;by_cases n:a=d
  .exact .inl n
  right;have hd:decide (d<a)=true:=qB
  rw [hd] at e;simp only [Bool.true_and,Bool.not_eq_false',Aw] at e;exact ⟨(U.out.tl M d Q a).1 e.1,(a6.out a Q g).1 e.2⟩
 have u:=J ((ac 0 (i.out.block c.heap.size Q)).trans S.out.1);have aG:=u.out;rw [e];clear b e;go_wp21;go_call aM.out k d a mt a0 _ aK M (a7.out.below i.out) (aN.out a m.out) aA Q as n aH ⟨rfl,T,e,r,y⟩;have q:=J e;have E:=J r;have F:=J (((Fo.wm aR.out).trans (Fo.wm i.out)).trans y);clear e r y;go_wp21;go_ret;exact ⟨a,rfl,m.out,T,q.out,E.out,F.out⟩
