import Derived.Test.YtppjlpihaocdiaaGreatDoorAkQ
set_option linter.all false
set_option maxRecDepth 100000
set_option maxHeartbeats 16000000
namespace Go.Proofs.YtppjlpihaocdiaaGreatDoor
open Go.RowKit Go.Proofs.Tryz
variable{w u v:ae}{a b c d e:Nat}{s t:ag}{x y z:af}{p D:Int}{l:List af}{f:Bool}{g:List Nat}{h:Nat->Prop}{o:Option Addr}{r:List UInt8}{A:Nat->Bool}{B:Nat->Nat->Bool}{C:Nat->Nat->Prop}(i:Nat)(S T:ag)(V X:af)(j k m n:Nat)(Z:Int)(W:ae)
section
def Zx(a b:af):Sem af:=Instr.makeSlice 109 a b
def Zz(a b:af):Sem af:=Instr.makeSlice 242 a b
def Zy:Instr.makeSlice 109 V X=Zx V X:=rfl
def aaa:Instr.makeSlice 242 V X=Zz V X:=rfl
attribute [local go_sem↓] Zy aaa Go.wp_at_zero Go.wp_at_succ
def apw:(prog.info? 4).map (λa=>(a.zero,a.size,a.bytes))=some (some<|.bool false,1,1):=qF
def apy:(prog.info? 246).map (λa=>(a.zero,a.size,a.bytes))=some (some<|.agg (dj λ_=>false).toArray,82,82):=qF
def aem(a:Array af)(e:∀b,b<a.size->a[b]! =.bool false)(f:0<a.size)(c d:Nat)(g:d<c):(madeCells a c)[d]?=some (.bool false):=by
 rw[madeCells,Array.getElem?_map];simp only[Array.getElem?_range,g,if_true,yxq];rw[e _<|Nat.mod_lt _ f]
def at1(l:i<=100000):∃c:Array af,(∀b,b<i->c[b]?=some (.bool false))/\∀a,(Zx (I i)<|I i).run prog a=.ok (aa a.heap.size i i) (a.alloc<|.cells c 4):=by
 let⟨h,d,e,f,g⟩:=yyf apw;refine⟨madeCells (Value.bool false).cells<|i*1,λb m=>aem _ ?_ ?_ _ b Q,λa=> ?_⟩
 .intro k j
  have:k=0:=by simp[Value.cells]at j;omega
  subst this;rfl
 .simp[Value.cells]
 have:=yxt (P:=prog) a 109 4 h _ underlying109 d e .i64 .i64 i i Q (yzw _) (by rw[g];omega) Q;rw[f]at this;rw[<-Zy];simpa using this
def at2(o:i<=100000):∃c:Array af,(∀b,b<i*82->c[b]?=some (.bool false))/\∀a,(Zz (I i)<|I i).run prog a=.ok (aa a.heap.size i i) (a.alloc<|.cells c 246):=by
 let⟨n,f,k,l,m⟩:=yyf apy;refine⟨madeCells (Value.agg (dj λ_=>false).toArray).cells<|i*82,λb j=>aem _ ?_ ?_ _ b j,λa=> ?_⟩
 .intro d g
  have h:d<82:=by simpa[Value.cells,ek]using g
  have e:=qb (λ_=>false) h;show(dj λ_=>false).toArray[d]! =_
  rw[getElem!_def];simp[e]
 .simp[Value.cells,ek]
 have:=yxt (P:=prog) a 242 246 n _ underlying242 f k .i64 .i64 i i Q (yzw _) (by rw[m];omega) Q;rw[l]at this;rw[<-aaa];simpa using this
def all_false(d:Array af)(f:Nat)(h:∀c,c<f->d[c]?=some (.bool false))(e:w.heap[a]?=some (.cells d b)):∀c,c<f->w.cell? (O a c)=some (.bool false)/\w.frozen? (O a c)=false:=by
 intro c g
 refine⟨by rw[yya w a c d b (0,0) e];exact h c g,?_⟩;simp[World.frozen?,e]
def ai9(a b c:Obj):(((W.alloc a).alloc b).alloc c).drew.heap[W.heap.size]?=some a/\(((W.alloc a).alloc b).alloc c).drew.heap[W.heap.size+1]?=some b/\(((W.alloc a).alloc b).alloc c).drew.heap[W.heap.size+1+1]?=some c/\Below W.heap.size W (((W.alloc a).alloc b).alloc c).drew/\(((W.alloc a).alloc b).alloc c).drew.heap.size=W.heap.size+1+1+1:=by
 have d:(W.alloc a).heap.size=W.heap.size+1:=qD
 have e:((W.alloc a).alloc b).heap.size=W.heap.size+1+1:=qD
 refine⟨?_,?_,?_,((((bp _ _).alloc ah _).alloc Q _).alloc Q _).drew,qD⟩
 .show(((W.alloc a).alloc b).alloc c).heap[W.heap.size]?=_
  rw[im _ _ _ Q,im _ _ _ Q];exact heap_alloc_last W a
 .show(((W.alloc a).alloc b).alloc c).heap[W.heap.size+1]?=_
  rw[im _ _ _ Q,<-d];exact heap_alloc_last _ b
 show(((W.alloc a).alloc b).alloc c).heap[W.heap.size+1+1]?=_
 rw[<-e];exact heap_alloc_last _ c
def ack{j r p q c d b:Nat}{a:List Nd}{l m:Array af}(x:Co w w.heap.size j r a p q)(y:s.size<=80)(z:Wf a)
  (R:∀e,e<a.length*82->l[e]?=some (.bool false)) (S:∀e,e<a.length*82*82->m[e]?=some (.bool false)) (A:Below w.heap.size w u)
  (B:u.heap[c]?=some (.cells l 4)) (C:u.heap[d]?=some (.cells m 246))
  (t:u.heap[b]?=some (.cells #[ab j 0,.string s, aa c (a.length*82)<|a.length*82, aa d (a.length*82)<|a.length*82,.slice none 0 0] 244))
  (D:w.heap.size<=b:=by omega) (E:w.heap.size<=c:=by omega) (F:w.heap.size<=d:=by omega) (H:b≠c:=by omega) (K:b≠d:=by omega) (L:c≠d:=by omega) (M:c<u.heap.size:=by omega) (qa:d<u.heap.size:=by omega):
  et u ⟨w.heap.size,j,r,b,c,d,p,q,a,s⟩/\u.cell? (O b 4)=some (.slice none 0 0)/\u.frozen? (O b 4)=false:=by
 have f:∀i,u.cell? (O b i)=(#[ab j 0,.string s, aa c (a.length*82)<|a.length*82, aa d (a.length*82)<|a.length*82,.slice none 0 0]:Array af)[i]? :=λi=>yya u b i _ 244 (0,0) t
 have P:=all_false l _ R B;have v:=all_false m _ S C;refine⟨⟨f 0,f 1,f 2,f 3,x.below A,⟨λ_=>false,λ_ _=>false,P,λe n=>⟨λg V k=> ?_,λg o=> ?_⟩,λU T _ _ h=>by cases h⟩,D,E,F,H,K,L,M,qa,y,z⟩,f 4,by simp[World.frozen?,t]⟩
 .have o:g<82:=by
   obtain h|h:=hb g 82
   .exact h
   rw[je<|by rw[ek];exact h]at k;cases k
  rw[qb _ o]at k;cases k
  simp only at n;exact(v (e*82+g) Q).1
 simp only at n;have:=v (e*82+g) Q;exact⟨by rw[this.1];rfl,this.2⟩
def aqh(a:List Nd)(b:ae)(c:Co b b.heap.size j k a m n)(t:S.size<=80)(u:Wf a):
  Calls prog 146 #[.pointer<|some ⟨j,0,none⟩,.string S] b λD f=>∃e y z,D=.returned (.pointer<|some ⟨e,0,none⟩)/\et f ⟨b.heap.size,j,k,e,y,z,m,n,a,S⟩/\
   f.cell? (O e 4)=some (.slice none 0 0)/\f.frozen? (O e 4)=false/\Below b.heap.size b f:=by
 have v:=c;let⟨E,H⟩:=c.c0;have K:=c.ko;let⟨w,d,A⟩:=at1 (a.length*82) Q;let⟨x,g,B⟩:=at2 (a.length*82) Q;have q:=J d;have r:=J g;have s:=J u;rw[show((a.length*82:Nat):Int)=a.length*82 from Q]at A B;go_in;go_wp21;go_region
 all_goals go_wp21
 all_goals go_ret
 .let⟨g,h,i,d,C⟩:=ai9 b (.cells w 4) (.cells x 246)<|.cells #[ab j 0,.string S, aa b.heap.size (a.length*82)<|a.length*82, aa (b.heap.size+1) (a.length*82)<|a.length*82,.slice none 0 0] 244;let⟨l,o,p⟩:=ack v t s q r d g h i;exact⟨_,_,_,rfl,l,o,p,d⟩
 let⟨g,h,i,d,C⟩:=ai9 b (.cells x 246) (.cells w 4)<|.cells #[ab j 0,.string S, aa (b.heap.size+1) (a.length*82)<|a.length*82, aa b.heap.size (a.length*82)<|a.length*82,.slice none 0 0] 244;let⟨l,o,p⟩:=ack v t s q r d h g i;exact⟨_,_,_,rfl,l,o,p,d⟩
end
def Qzv(a:Sc)(b f:Nat)(g:ae)(r:ez g i a)(z:Sm a)(s:b<256)(B:a.fp.length<=1000)(qa:a.db.length<=1000)(P:f<=900):
  Calls prog 77 #[.pointer<|some ⟨i,0,none⟩,.int .u8 b,.int .i64 f] g (Sd i g<|begin' a b f):=by
 have p:=J r;let⟨a7,a1,bv,d,n⟩:=r;have a2:=d.xc 0;have U:=d.xf 0;have a3:=d.xc 1;have V:=d.xf 1;have a4:=d.xc 6;have W:=d.xf 6;have a5:=d.xc 7;have X:=d.xf 7;have a6:=d.xc 9;have Z:=d.xf 9;have R:=d.xc 10;have S:=d.xf 10;have a0:=z.op;obtain v|v|v|v:b=32\/b=59\/b=10\/b≠32/\b≠59/\b≠10:=Q
 iterate 3 .have c:Y (begin' a b f=some a):=(by rw[begin',Y,G]);subst v;go_in;go_wp21;go_ret;rw[c.out];exact⟨true,rfl,bp _ _,.inl ⟨a,rfl,rfl,p⟩⟩
 by_cases m:b=125
 .subst m;by_cases j:0<a.op
  .have t:Y (((a.op:Int)-1)=((a.op-1:Nat):Int)):=J Q
   have c:Y (begin' a 125 f=some {a with op:=a.op-1,ax:=7}):=by rw[begin',Y,N,G rfl,G j]
   have o:Y _:=bd.head (x':={a with op:=a.op-1,ax:=7}) (bd.head (x':={a with op:=a.op-1}) d 1 (I ((a.op-1:Nat):Int)) Q rfl) 0 (I 7) Q rfl
   go_in;go_wp21;go_ret;rw[c.out,t.out];exact⟨_,rfl,bf.below<|xxs.setCell _ _,.inl ⟨_,rfl,by first|rfl|(simp;done)|(simp;omega),ez.put n (xxs.setCell _ _) o rfl rfl rfl⟩⟩
  have c:Y (begin' a 125 f=none):=by rw[begin',Y,N,G rfl,N j]
  have t:a.op=0:=Q
  have k:¬(0:Int)<=a.op-1:=Q
  clear j;go_in;go_wp21;go_ret;rw[c.out];exact⟨_,rfl,bf.below<|xxs.setCell _ _,.inr ⟨rfl,by first|rfl|(simp;done)|(simp;omega)⟩⟩
 by_cases j:b=58
 .subst j;have c:Y (begin' a 58 f=some {a with ax:=10,gf:=1,bm:=0,cn:=true}):=by rw[begin',Y,N,N,G rfl]
  have o:Y _:=bd.head (x':={a with ax:=10,gf:=1,bm:=0,cn:=true}) (bd.head (x':={a with ax:=10,gf:=1,bm:=0}) (bd.head (x':={a with ax:=10,gf:=1}) (bd.head (x':={a with ax:=10}) d 0 (I 10) Q rfl) 9 (I 1) Q rfl) 7 (I 0) Q rfl) 10 (.bool true) Q rfl;go_in;go_wp21;go_ret;rw[c.out];exact Sd.yes (x':={a with ax:=10,gf:=1,bm:=0,cn:=true}) n (((xxs.setCell _ _).setCell _ _).setCell _ _) o rfl
 have t:begin' a b f=match spot {a with part:=1} b f with
  |some k=>some k
  |none=>lc {a with part:=1} b:=by rw[begin',N,N m,N j];rfl
 have u:Y _:=t;have a8:((b:Int)==32)=false:=qB
 have a9:((b:Int)==59)=false:=qB
 have aA:((b:Int)==10)=false:=qB
 have aB:((b:Int)==125)=false:=qB
 have aC:((b:Int)==58)=false:=qB
 have y:Y (ez (g.setCell (O i 6)<|I 1) i {a with part:=1}):=ez.put n xxs (bd.head (x':={a with part:=1}) d 6 _ Q rfl) rfl rfl rfl;have A:Y (Sm {a with part:=1}):=by
  let⟨C,D,F,H,K,T,L,M⟩:=z;exact⟨C,D,F,H,K,qD,L,M⟩
 clear t v m j;go_in;go_wp21;go_call aig i {a with part:=1} b f _ y s B qa P as e E ⟨q,rfl,l,h⟩;obtain⟨k,j,rfl,t⟩|⟨j,rfl,rfl⟩:=h
 .have m:=(bf.below<|(bf.refl i g).setCell 6<|I 1).trans l;have v:=J t;have c:Y (begin' a b f=some k):=by rw[Y,u.out,j]
  go_wp21;go_ret;rw[c.out];exact⟨true,rfl,m,.inl ⟨k,rfl,rfl,v⟩⟩
 have c:Y (begin' a b f=lc {a with part:=1} b):=by rw[Y,u.out,j]
 go_wp21;go_call Np i {a with part:=1} b _ y A s as e E ⟨q,rfl,l,h⟩;have m:=(bf.below<|(bf.refl i g).setCell 6<|I 1).trans l;have v:Y _:=h;go_wp21;go_ret;rw[c.out];exact⟨q,rfl,m,v⟩
