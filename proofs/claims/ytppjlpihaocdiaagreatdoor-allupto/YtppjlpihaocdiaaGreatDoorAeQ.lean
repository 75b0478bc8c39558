import Derived.Test.YtppjlpihaocdiaaGreatDoorProg
import Derived.WalkSpells
import Derived.BigQuiet
import Derived.Deep.Light
import Derived.Lib.Bytealg
import Derived.Deep.RegionLaw
import Derived.Deep.DrawnRows
import Derived.Test.YtppjlpihaocdiaaGreatDoorAcQ
set_option linter.all false
set_option maxRecDepth 100000
set_option maxHeartbeats 16000000
namespace Go.Proofs.YtppjlpihaocdiaaGreatDoor
open Go.RowKit Go.Proofs.Tryz
variable{w u v:ae}{a b c d e:Nat}{s t:ag}{x y z:af}{p D:Int}{l:List af}{f:Bool}{g:List Nat}{h:Nat->Prop}{o:Option Addr}{r:List UInt8}{A:Nat->Bool}{B:Nat->Nat->Bool}{C:Nat->Nat->Prop}(i:Nat)(S T:ag)(V X:af)(j k m n:Nat)(Z:Int)(W:ae)
def pp{a b:Bool}(c:a=b):Ending.returned (.bool a)=.returned (.bool b):=by rw[c]
def Lu{a:IntKind}(b:p=D):Ending.returned (.int a p)=.returned (.int a D):=by rw[b]
def av5(a:j<S.size):S.data.toList.take (j+1)=S.data.toList.take j++[S[j]]:=by
 rw[yyu<|qK a];rfl
def aky(d:j<S.size)(b:(S.data.toList.take j).any (λa=>a.toNat==k)=false)(c:((S[j].toNat:Int)==k)=false):
  (S.data.toList.take<|j+1).any (λa=>a.toNat==k)=false:=by
 rw[av5 S j d,List.any_append,b];simp at c|-;omega
def akx(b:j<S.size)(a:((S[j].toNat:Int)==k)=true):bn S k=true:=by
 rw[bn,yxp];exact⟨S[j],yzn (l:=S.data.toList) (n:=j)<|qK b,by simp at a|-;omega⟩
def akw(c:¬j<S.size)(a:(S.data.toList.take j).any (λb=>b.toNat==k)=false):bn S k=false:=by
 rw[Hh qB]at a;exact a
def sz(k:S.size<=40):
  Calls prog 128 #[.string S,.int .u8 j] W λg h=>g=.returned (.bool<|bn S j)/\h=W:=by
 go_in;go_wp2;go_loop [5] (λd=>∃a:Nat,a<=S.size/\d=I a/\Y ((S.data.toList.take a).any (λi=>i.toNat==j)=false)) (λd=>S.size-(intOf d).toNat)
 .exact⟨0,ey _,rfl,by simp[Y]⟩
 obtain⟨a,l,rfl,e⟩:=hrel;by_cases b:a<S.size
 .by_cases c:((S[a].toNat:Int)==j)=true
  .go_wp2;go_ret;exact⟨pp (akx S a j b c).symm,rfl⟩
  have f:((S[a].toNat:Int)==j)=false:=qK c
  go_wp2;go_round
  .exact⟨a+1,Q,qJ,aky S a j b e f⟩
  simp[intOf];omega
 go_wp2;go_ret;exact⟨pp (akw S a j b e).symm,rfl⟩
def Ew(d:i<256):Calls prog 129 #[.int .u8 i] W λb c=>b=.returned (.int .i64 (val i:Nat))/\c=W:=by
 by_cases a:i=110
 .subst a;go_in;go_wp2;go_ret;exact⟨Lu<|by simp[val],rfl⟩
 have e:((i:Int)==110)=false:=qB
 go_in;go_wp2;go_ret;exact⟨Lu<|by simp[val,a],rfl⟩
def ace:Calls prog 175 #[.int .u8 i] W λa b=>a=.returned (.bool<|bn sx i)/\b=W:=by
 go_in;go_wp2_with (go_at_call 128;go_call sz as a b ⟨rfl,rfl⟩);go_ret;exact⟨rfl,rfl⟩
structure eh(b:Nat)(w w':ae):Prop where
 os:w'.os=w.os
 tape:w'.tape=w.tape
 output:w'.output=w.output
 size:w'.heap.size=w.heap.size
 block:∀k,k≠b->w'.heap[k]?=w.heap[k]?
def eh.refl:eh i W W:=⟨rfl,rfl,rfl,rfl,λ_ _=>rfl⟩
def eh.trans{b:Nat}{f g h:ae}(a:eh b f g)(c:eh b g h):eh b f h:=
 ⟨c.os.trans a.os,c.tape.trans a.tape,c.output.trans a.output,c.size.trans a.size,λe d=>(c.block e d).trans<|a.block e d⟩
def eh.setCell{a:Nat}{b c:ae}(e:eh a b c)(f:Nat)(g:af):eh a b (c.setCell (O a f) g):=
 e.trans ⟨rfl,rfl,rfl,by simp[World.setCell],λh d=>er _ _ _ _ d⟩
def df(a:Bool):a=true\/a=false:=by cases a<;>simp
structure Rc(w:ae)(b:Nat)(s:ag)(i:Nat):Prop where
 c0:w.cell? (O b 0)=some (.string s)
 c1:w.cell? (O b 1)=some (I i)
 f1:w.frozen? (O b 1)=false
 le:i<=s.size
 li:s.size<=400
def oz(a:j<S.size):((S[j]).toNat:Int)=(au S j:Int):=by rw[Cx S j a]
def asj(b:Rc W i S j)(a:j<S.size):
  Calls prog 110 #[.pointer<|some ⟨i,0,none⟩] W λc e=>c=.returned (.int .i64<|pk S j)/\∃d,e=W.drewN d:=by
 let⟨g,h,k,f,l⟩:=b;have m:(0:Int)<=j:=Q
 have n:(j:Int)<S.size:=Q
 have o:(S[j].toNat:Int)<=255:=by have:=(S[j]).toNat_lt;omega
 go_in;go_wp2;go_quiet (fail);go_wp2;go_quiet (fail);go_wp2;go_ret;exact⟨Lu<|by rw[fh a];exact oz S j a,_,World.drewN_drewN _ _ _⟩
def asl(a:Rc W i S j)(c:¬j<S.size):
  Calls prog 110 #[.pointer<|some ⟨i,0,none⟩] W λb e=>b=.returned (.int .i64<|pk S j)/\∃d,e=W.drewN d:=by
 let⟨g,h,k,f,l⟩:=a;have m:((j:Int)==S.size)=true:=qB
 go_in;go_wp2;go_quiet (fail);go_wp2;go_ret;exact⟨Lu<|by rw[qj c],_,rfl⟩
def iz(a:Rc W i S j):
  Calls prog 110 #[.pointer<|some ⟨i,0,none⟩] W λc e=>c=.returned (.int .i64<|pk S j)/\∃d,e=W.drewN d:=by
 by_cases b:j<S.size
 .exact asj i S j W a b
 exact asl i S j W a b
def Rc.drewN(c:Rc w a s b)(d:Nat):Rc (w.drewN d) a s b:=⟨c.c0,c.c1,c.f1,c.le,c.li⟩
def Rc.put{i:Nat}(f:Rc w a s i)(b:Nat)(d:p=b:=by omega)(c:b<=s.size:=by omega):Rc (w.setCell (O a 1)<|I p) a s b:=by
 let⟨h,j,k,g,e⟩:=f;subst d;exact⟨qI,qI,qI,c,e⟩
def Bh(a:Rc W i S j)(l:k<256)(c:pk S j=k):
  Calls prog 100 #[.pointer<|some ⟨i,0,none⟩,.int .u8 k] W λb e=>b=.returned (.bool true)/\∃d,e=(W.setCell (O i 1)<|I (j+1:Nat)).drewN d:=by
 have f:=a;have g:=J c;let⟨m,n,o,h,p⟩:=a;go_in;go_wp2_with (go_at_call 110;go_call iz;rw[g.out];rintro b e ⟨rfl,d,rfl⟩);go_ret;exact⟨rfl,_,rfl⟩
def tq(a:Rc W i S j)(n:k<256)(d:pk S j≠k):
  Calls prog 100 #[.pointer<|some ⟨i,0,none⟩,.int .u8 k] W λc f=>c=.returned (.bool false)/\∃e,f=W.drewN e:=by
 have g:=a;have h:(pk S j==(k:Int))=false:=qK d
 let⟨o,p,q,m,r⟩:=a;generalize b:pk S j=s at h;have l:=J b;go_in;go_wp2_with (go_at_call 110;go_call iz;rw[l.out];rintro c f ⟨rfl,e,rfl⟩);go_ret;exact⟨rfl,_,rfl⟩
theorem adv(b:List UInt8)(a:UInt8):(0<=Lib.indexByte b a)↔b.any (λh=>h==a)=true:=by
 induction b with
 |nil=>simp[Lib.indexByte]
 |cons d b g=>
  have i:=Lib.indexByte_ge b a;rw[Lib.indexByte,yxe];grind
theorem apn(d:j<256):decide (0<=Lib.indexByte S.data.toList (j:Int).toNat.toUInt8)=bn S j:=by
 have c:=adv S.data.toList (j:Int).toNat.toUInt8;have b:∀a:UInt8,(a==(j:Int).toNat.toUInt8)=(a.toNat==j):=by
  intro a
  rw[vv];simp[<-yzt];omega
 grind[bn]
theorem Uv(c:j<256):
  Calls prog 194 #[.string S,.int .u8 j] W λa b=>a=.returned (.int .i64<|Lib.indexByte S.data.toList (j:Int).toNat.toUInt8)/\b=W:=by
 have hd:Sem.run prog (callFunc 239 #[.string S,.int .u8 j]) W=.ok (.value<|I<|Lib.indexByte S.data.toList (j:Int).toNat.toUInt8) W:=by
  rw[yxf func239 qF qF qF (e:=Extern.BytealgIndexByte.indexByte) qF,Lib.run_indexByteString];rfl
 generalize Lib.indexByte S.data.toList (j:Int).toNat.toUInt8=d at hd;go_in;go_wp2;go_ret;simp_all
def Ap(c:Rc W i S j)(e:j<S.size):
  Calls prog 161 #[.pointer<|some ⟨i,0,none⟩,.string T] W λa g=>a=.returned (.bool<|bn T<|au S j)/\∃f,g=W.drewN f:=by
 obtain⟨k,l,m,h,n⟩:=c;have o:(0:Int)<=j:=Q
 have p:(j:Int)<S.size:=Q
 have b:=ms S j;have d:=J e;go_in;go_wp21;go_quiet ((go_at_call 194;exact Calls.quiet_of_same (by have a:=oz S j d.out;rw[a];exact Uv T (au S j) _ b)));go_wp2;go_ret;exact⟨pp<|apn T (au S j) b,_,rfl⟩
def ae3(a:Rc W i S j)(c:¬j<S.size):
  Calls prog 161 #[.pointer<|some ⟨i,0,none⟩,.string T] W λb e=>b=.returned (.bool false)/\∃d,e=W.drewN d:=by
 let⟨g,h,k,f,l⟩:=a;obtain rfl:j=S.size:=Q
 go_in;go_wp21;go_quiet (fail);go_wp2;go_ret;exact⟨rfl,_,rfl⟩
def ue(s:ag)(i:Nat):Bool:=decide (i<s.size)&& !bn mb (au s i)
def au6(e:Rc W i S j):
  Calls prog 149 #[.pointer<|some ⟨i,0,none⟩] W λb d=>b=.returned (.bool<|ue S j)/\∃c,d=W.drewN c:=by
 by_cases a:j<S.size
 .have k:(pk S j !=-1)=true:=by rw[fh a];simp
  generalize h:pk S j=m at k;have f:=J h;have l:=J a;have g:Y (ue S j= !bn mb (au S j)):=by simp[ue,a,Y]
  go_in;go_wp2_with (first|(go_at_call 110;refine(iz i S j _ e).mono ?_;rw[f.out];rintro b d ⟨rfl,c,rfl⟩)|(go_at_call 161;refine(Ap i S mb j _ (e.drewN _) l).mono ?_;rintro b d ⟨rfl,c,rfl⟩));go_ret;exact⟨pp g.symm,_,rfl⟩
 have f:=J<|qj a;have g:Y (ue S j=false):=by simp[ue,a,Y]
 go_in;go_wp2_with (first|(go_at_call 110;go_call iz;rw[f.out];rintro b d ⟨rfl,c,rfl⟩));go_ret;exact⟨pp g.symm,_,rfl⟩
def ami(e:Rc W i S j)(l:k<=9)(b:¬(48+(k:Int)<=pk S j/\pk S j<=57)):
  Calls prog 224 #[.pointer<|some ⟨i,0,none⟩,.int .i64 k] W λa d=>a=.returned (.tuple #[.int .i64 0,.bool false])/\∃c,d=W.drewN c:=by
 generalize f:pk S j=h at b;have g:=J f;by_cases f:h<48+(k:Int)
 .go_in;go_wp2_with (first|(go_at_call 110;go_call iz;rw[g.out];rintro a d ⟨rfl,c,rfl⟩));go_ret2;exact⟨rfl,_,rfl⟩
 have m:57<h:=Q
 go_in;go_wp2_with (first|(go_at_call 110;go_call iz;rw[g.out];rintro a d ⟨rfl,c,rfl⟩));go_ret2;exact⟨rfl,_,rfl⟩
def amj(a:Rc W i S j)(n:k<=9)(f:48+(k:Int)<=pk S j)(g:pk S j<=57):
  Calls prog 224 #[.pointer<|some ⟨i,0,none⟩,.int .i64 k] W λc e=>c=.returned (.tuple #[.int .i64<|pk S j-48,.bool true])/\∃d,e=(W.setCell (O i 1)<|I (j+1:Nat)).drewN d:=by
 generalize b:pk S j=s at f g;have h:=J b;have l:=a;let⟨o,p,q,m,r⟩:=a;go_in;go_wp2_with (first|(go_at_call 110;go_call iz;rw[h.out];rintro c e ⟨rfl,d,rfl⟩));go_ret2;exact⟨rfl,_,rfl⟩
def mem(A B p:Nat):Bool:=if p<64 then A.testBit p else B.testBit (p-64)
structure Pl(A B:Nat)(S:Nat->Bool):Prop where
 a:A<2^64
 b:B<2^64
 m:∀q,q<128->mem A B q=S q
def wrap_u64(a:i<2^64):IntKind.u64.wrap (i:Int)=i:=by
 simp[IntKind.wrap,IntKind.min,IntKind.signed,IntKind.bits]<;>omega
def aku(a:i<2^64)(b:j<2^64):bits .and .u64 i j=((i&&&j:Nat):Int):=
 (bits_nat .u64 64 qG (λf c d=>by obtain⟨e,rfl⟩:=yyq c;exact wrap_u64 e<|by exact_mod_cast d) i j a b).1
def Wl(a b:Nat)(c:a<2^64)(d:b<2^64):bits .or .u64 a b=((a|||b:Nat):Int):=
 (bits_nat .u64 64 qG (λh e f=>by obtain⟨g,rfl⟩:=yyq e;exact wrap_u64 g<|by exact_mod_cast f) a b c d).2
def Zh(a:i<64:=by omega):IntKind.u64.wrap (2^i)=((2^i:Nat):Int):=by
 have:=wrap_u64 (2^i) (yzl qG a);rw[<-this];push_cast;rfl
def aaz(a:i<2^64):(bits BinOp.and IntKind.u64 ((i:Int)/2^j) 1==1)=i.testBit j:=by
 have b:((i:Int)/2^j)=((i/2^j:Nat):Int):=by push_cast;rfl
 have hd:i/2^j<2^64:=Nat.lt_of_le_of_lt (Nat.div_le_self _ _) a;have:=aku (i/2^j) 1 hd qG;rw[b];replace this:bits BinOp.and IntKind.u64 ((i/2^j:Nat):Int) 1=((i/2^j&&&1:Nat):Int):=this;rw[this,Nat.testBit_eq_decide_div_mod_eq,Nat.and_one_is_mod];rw[vv];simp only[ra,yxz];omega
def We:(2^i).testBit j=(j==i):=by
 rw[Nat.testBit_two_pow];rw[vv];simp;omega
def Xj(d:p=a)(c:D=b):Ending.returned (.agg #[.int .u64 p,.int .u64 D])=.returned (.agg #[.int .u64 a,.int .u64 b]):=by rw[d,c]
def Wi(h:i<=80):
  Calls prog 151 #[.int .i64 i] W λe f=>∃c d:Nat,e=.returned (.agg #[.int .u64 c,.int .u64 d])/\Pl c d (λb=>b==i)/\Below W.heap.size W f:=by
 obtain a|a:(i:Int)/64=0\/(i:Int)/64=1:=Q
 all_goals
  go_in;go_wp2
 .go_returns;refine⟨2^(i%64),0,Xj (Zh _) rfl,⟨yzl qG Q,qG,λb a=> ?_⟩,((bp _ _).alloc ah _).alloc qD _⟩;unfold mem;split
  .rw[We];rw[vv];simp;omega
  rw[yxa];rw[vv];simp;omega
 go_returns;refine⟨0,2^(i%64),Xj rfl<|Zh _,⟨qG,yzl qG Q,λb a=> ?_⟩,((bp _ _).alloc ah _).alloc qD _⟩;unfold mem;split
 .rw[yxa];rw[vv];simp;omega
 rw[We];rw[vv];simp;omega
def Gj(c:k<128)(b:Nat->Bool)(a:Pl i j b):
  Calls prog 193 #[.agg #[.int .u64 i,.int .u64 j],.int .i64 k] W λe f=>e=.returned (.bool<|b k)/\Below W.heap.size W f:=by
 obtain d|d:(k:Int)/64=0\/(k:Int)/64=1:=Q
 all_goals
  go_in;go_wp2;go_ret;refine⟨pp ?_,(bp _ _).alloc ah _⟩;rw[aaz _ _<|by first|exact a.a|exact a.b,<-a.m k c];unfold mem
  first|rw[G,yxn<|by omega]|rw[N,show k%64=k-64 from by omega]
structure xh(w:ae)(b:Nat)(y0 y1:Int):Prop where
 c0:w.cell? (O b 0)=some (.int .u64 y0)
 c1:w.cell? (O b 1)=some (.int .u64 y1)
 f0:w.frozen? (O b 0)=false
 f1:w.frozen? (O b 1)=false
def Qb(g h b c:Nat)(d:ae)(q l:Nat->Bool)(m:Pl g h q)(k:Pl b c l):
  Calls prog 190 #[.agg #[.int .u64 g,.int .u64 h],.agg #[.int .u64 b,.int .u64 c]] d λu v=>∃r s:Nat,u=.returned (.agg #[.int .u64 r,.int .u64 s])/\Pl r s (λn=>q n||l n)/\Below d.heap.size d v:=by
 go_in;go_wp2;go_loopw [6] (λp wr=>∃(a:Nat)(e f:Int),a<=2/\p=I a/\xh wr d.heap.size e f/\xh wr (d.heap.size+1) b c/\xh wr (d.heap.size+2) 0 0/\Below d.heap.size d wr/\Y ((a=0->e=g)/\(0<a->e=bits .or .u64 g b)/\(a<2->f=h)/\(1<a->f=bits .or .u64 h c))) (λp _=>2-(intOf p).toNat)
 .exact⟨0,g,h,Q,rfl,by constructor<;>go_simp,by constructor<;>go_simp,by constructor<;>go_simp,(((bp _ _).alloc ah _).alloc qD _).alloc qB _,λ_=>rfl,λj=>Q,λ_=>rfl,λj=>Q⟩
 obtain⟨a,e,f,F,rfl,⟨H,K,L,w⟩,⟨x,y,z,A⟩,⟨B,C,D,E⟩,o,i⟩:=hrel;obtain rfl|rfl|rfl:a=0\/a=1\/a=2:=Q
 .go_wp2;go_region
  all_goals
   go_wp2;go_roundw
   .exact⟨1,bits .or .u64 e b,f,Q,rfl,by constructor<;>go_simp,by constructor<;>go_simp,by constructor<;>go_simp,(o.setCell ah _).drew,λj=>Q,λ_=>by rw[i.1 qD],λ_=>i.2.2.1 Q,λj=>Q⟩
   simp[intOf]
 .go_wp2;go_region
  all_goals
   go_wp2;go_roundw
   .exact⟨2,e,bits .or .u64 f c,Q,rfl,by constructor<;>go_simp,by constructor<;>go_simp,by constructor<;>go_simp,(o.setCell ah _).drew,λj=>Q,λ_=>i.2.1 Q,λj=>Q,λ_=>by rw[i.2.2.1 Q]⟩
   simp[intOf]
 go_wp2;refine yyd (v:=.agg #[.int .u64 e,.int .u64 f]) (by simp[results,results190,go_sem, *]) rfl ⟨g|||b,h|||c,Xj ?_ ?_,⟨yzi m.a k.a,yzi m.b k.b,λn t=> ?_⟩,(o.setCell qB _).setCell qB _⟩
 .rw[i.2.1 Q,Wl _ _ m.a k.a]
 .rw[i.2.2.2 Q,Wl _ _ m.b k.b]
 rw[<-m.m n t,<-k.m n t];unfold mem;split<;>rw[Nat.testBit_or]
structure Mv(b:Nat)(w w':ae)(j:Nat):Prop where
 only:eh b w w'
 c1:w'.cell? (O b 1)=some (I j)
 cell:∀k,k≠1->w'.cell? (O b k)=w.cell? (O b k)
 cd:∀k,w'.frozen? (O b k)=w.frozen? (O b k)
def Mv.trans{b j e:Nat}{g h i:ae}(d:Mv b g h j)(c:Mv b h i e):Mv b g i e:=
 ⟨d.only.trans c.only,c.c1,λa f=>(c.cell a f).trans<|d.cell a f,λa=>(c.cd a).trans<|d.cd a⟩
def Mv.drewN(c:Mv a w u b)(d:Nat):Mv a w (u.drewN d) b:=
 ⟨c.only.trans ⟨rfl,rfl,rfl,rfl,λ_ _=>rfl⟩,c.c1,c.cell,c.cd⟩
def Mv.ee(c:w.cell? (O a 1)=some (I b)):Mv a w w b:=⟨.refl _ _,c,λ_ _=>rfl,λ_=>rfl⟩
def Rc.ee{a:ae}{b:Nat}{e:ag}{c:Nat}(d:Rc a b e c):Mv b a a c:=.ee d.c1
theorem Mv.put{a i:Nat}(g:w.cell? (O a 1)=some (I i))(c:Nat)(d:p=c:=by omega):Mv a w (w.setCell (O a 1)<|I p) c:=by
 subst d;refine⟨(eh.refl _ _).setCell _ _,qI,λf e=> ?_,λf=> ?_⟩
 .exact jm (h:=λb=>e qE) ..
 go_simp
def Mv.set{a i:Nat}(c:Mv a w u i){v:Int}(b:Nat)(d:v=b:=by omega):Mv a w (u.setCell (O a 1)<|I v) b:=c.trans<|.put c.c1 b d
def Mv.rc(e:Mv a w u c)(d:Rc w a s b)(f:c<=s.size:=by omega):Rc u a s c:=
 ⟨by rw[e.cell 0 Q];exact d.c0,e.c1,by rw[e.cd];exact d.f1,f,d.li⟩
def Zr(s:ag)(i L v:Nat)(ok:Bool)(j:Nat):Prop:=
 (125<L/\ok=false/\j=i/\v=0)\/
 (L<=125/\ok=false/\j=i+1/\v=0/\¬(i+1<s.size/\bn sx (au s<|i+1)=true/\L<=val (au s<|i+1)))\/
 (L<=125/\ok=true/\j=i+2/\i+1<s.size/\bn sx (au s<|i+1)=true/\L<=val (au s<|i+1)/\v=val (au s<|i+1))
def Qd{a:IntKind}{b c:Bool}(e:p=D)(d:b=c):Ending.returned (.tuple #[.int a p,.bool b])=.returned (.tuple #[.int a D,.bool c]):=by rw[e,d]
def acd(u:Rc W i S j)(y:j<S.size)(D:k<=255):
  Calls prog 222 #[.pointer<|some ⟨i,0,none⟩,.int .u8 k] W λc d=>∃(t:Nat)(v:Bool)(s:Nat),c=.returned (.tuple #[.int .u8 t,.bool v])/\Mv i W d s/\Zr S j k t v s:=by
 have q:=u;obtain⟨E,e,F,B,H⟩:=u;have K:=J y;have f:Rc (W.setCell (O i 1)<|I<|(j:Int)+1) i S (j+1):=q.put (j+1) Q Q;by_cases w:125<k
 .go_in;go_wp21;go_ret2;exact⟨0,false,j,rfl,q.ee,.inl ⟨w,rfl,rfl,rfl⟩⟩
 have z:k<=125:=Q
 have g:=J z;by_cases p:j+1<S.size
 .have a:=J p;rcases df (bn sx<|au S<|j+1)with m|m
  .have r:((S[j+1]).toNat:Int)=(au S (j+1):Int):=oz S (j+1) p;have A:=ms S<|j+1;have o:Y (∃n,au S (j+1)=n):=⟨_,rfl⟩;have b:=J m;obtain⟨n,l⟩:=o.out;have h:=J l;rw[l]at r A;clear l m o;have L:(0:Int)<=j+1:=Q
   have M:(j:Int)+1<(S.size:Int):=Q
   by_cases o:n=110
   subst o;have o:=trivial;by_cases x:10<k
   rotate_left 2
   have C:((n:Int)==110)=false:=qB
   by_cases x:n<k
   all_goals
    go_in;go_wp2_with (first|(go_at_call 161;refine(Ap i S sx (j+1) _ f a.out).mono ?_;rw[b.out];rintro c d ⟨rfl,l,rfl⟩));go_quiet (fail);go_wp2;go_ret2
    first
     |refine⟨0,false,j+1,rfl,((Mv.ee e).set (j+1) Q).drewN _,.inr<|.inl ⟨g.out,rfl,rfl,rfl,?_⟩⟩;rw[h.out];simp[val,o];omega
     |refine⟨val<|au S<|j+1,true,j+2,Qd ?_ rfl,(((Mv.ee e).set (j+1) Q).drewN _).set (j+2) Q,.inr<|.inr ⟨g.out,rfl,rfl,a.out,b.out,?_,rfl⟩⟩<;>rw[h.out]<;>simp[val,o]<;>first|exact r|omega
  have b:=J m;clear m;go_in;go_wp2_with (first|(go_at_call 161;refine(Ap i S sx (j+1) _ f a.out).mono ?_;rw[b.out];rintro c d ⟨rfl,l,rfl⟩));go_ret2;refine⟨0,false,j+1,rfl,((Mv.ee e).set (j+1) Q).drewN _,.inr<|.inl ⟨g.out,rfl,rfl,rfl,?_⟩⟩;rw[b.out];simp
 have a:=J p;go_in;go_wp2_with (first|(go_at_call 161;go_call ae3 i S sx (j+1) _ f a.out as c d ⟨rfl,l,rfl⟩));go_ret2;exact⟨0,false,j+1,rfl,((Mv.ee e).set (j+1) Q).drewN _,.inr<|.inl ⟨g.out,rfl,rfl,rfl,λb=>a.out b.1⟩⟩
def Ro(s:ag)(i L v:Nat)(ok:Bool)(j:Nat):Prop:=
 ((¬i<s.size\/bn zo (au s i)=true)/\ok=false/\j=i)\/
 (i<s.size/\au s i=92/\Zr s i L v ok j)\/
 (i<s.size/\bn zo (au s i)=false/\au s i≠92/\((au s i<L/\ok=false/\j=i)\/(L<=au s i/\ok=true/\j=i+1/\v=au s i)))
def Ko(v:Rc W i S j)(w:k<=255):
  Calls prog 250 #[.pointer<|some ⟨i,0,none⟩,.int .u8 k] W λb c=>∃(q:Nat)(o:Bool)(n:Nat),b=.returned (.tuple #[.int .u8 q,.bool o])/\Mv i W c n/\Ro S j k q o n:=by
 have a:=v;obtain⟨A,B,C,z,D⟩:=v;by_cases l:j<S.size
 .have d:=J l;have x:(pk S j==-1)=false:=by rw[fh l];simp
  generalize e:pk S j=K at x;have g:=J e;have E:(0:Int)<=j:=Q
  have F:(j:Int)<S.size:=Q
  clear e;have s:((S[j]).toNat:Int)=(au S j:Int):=oz S j l;have u:=ms S j;rcases df (bn zo<|au S j)with p|p
  have e:=J p;clear p s u;rotate_left
  have e:=J p;have t:Y (∃m,au S j=m):=⟨_,rfl⟩;obtain⟨m,r⟩:=t.out;have h:=J r;rw[r]at s u;clear p t r;by_cases r:m=92
  have y:=J r;rotate_left
  have y:((m:Int)==92)=false:=qB
  by_cases t:m<k
  all_goals go_in;go_wp2_with (first|(go_at_call 110;refine(iz i S j _ a).mono ?_;rw[g.out];rintro b c ⟨rfl,f,rfl⟩)|(go_at_call 161;refine(Ap i S zo j _ (a.drewN _) d.out).mono ?_;rw[e.out];rintro b c ⟨rfl,f,rfl⟩))
  .go_quiet (fail);go_wp2;go_ret2;exact⟨0,false,j,rfl,a.ee.drewN _,.inr<|.inr ⟨d.out,e.out,by rw[h.out];exact r,.inl ⟨by rw[h.out];exact t,rfl,rfl⟩⟩⟩
  .go_quiet (fail);go_wp2;go_ret2;exact⟨au S j,true,j+1,Qd (by rw[h.out];exact s) rfl,(a.ee.drewN _).set (j+1) Q,.inr<|.inr ⟨d.out,e.out,by rw[h.out];exact r,.inr ⟨by rw[h.out];omega,rfl,rfl,rfl⟩⟩⟩
  .go_ret2;exact⟨0,false,j,rfl,a.ee.drewN _,.inl ⟨.inr e.out,rfl,rfl⟩⟩
  go_quiet (fail);go_wp2_with (go_at_call 222;go_call acd i S j k _ (a.drewN _) d.out w as b c ⟨q,o,n,rfl,t,H⟩);go_ret2;exact⟨q,o,n,rfl,(a.ee.drewN _).trans t,.inr<|.inl ⟨d.out,by rw[h.out,y.out],H⟩⟩
 have g:=J<|qj l;have d:=J l;go_in;go_wp2_with (first|(go_at_call 110;refine(iz i S j _ a).mono ?_;rw[g.out];rintro b c ⟨rfl,f,rfl⟩));go_ret2;exact⟨0,false,j,rfl,a.ee.drewN _,.inl ⟨.inl d.out,rfl,rfl⟩⟩
def Dk(f:4<=a:=by omega)(g:a<=10:=by omega):step ⟨a,b,c,d⟩ e=oi ⟨a,b,c,d⟩ e:=by
 unfold step;simp only;rw[N,N,N,N]
def Bt{a:St}(c:a.m≠1:=by omega)(b:a.m≠2:=by omega):whole a=false:=by
 simp[whole,c,b]
def kw.here{b:St}(f:run s a=some b)(c:a<=s.size)(d:a<s.size->step b (au s a)=none)(e:a=s.size->whole b=false):kw s a:=⟨b,f,c,d,e⟩
def wv(s:ag)(i L:Nat)(st:St):Prop:=
 (st.m=8/\L=st.l)\/(L=0/\((st.m=4/\pk s i≠94)\/st.m=5\/(st.m=6/\pk s i≠93/\pk s i≠45)\/(st.m=7/\pk s i≠93)))
def apj{d:St}(c:wv s a b d)(g:a<s.size)(e:bn zo (au s a)=true):step d (au s a)=none:=by
 let⟨l,m,h,k⟩:=d;rw[adl]at e;unfold wv at c;rw[fh g]at c;simp only at c;generalize au s a=i at c e;obtain⟨rfl,rfl⟩|⟨rfl,⟨rfl,f⟩|rfl|⟨rfl,f,j⟩|⟨rfl,f⟩⟩:=c
 all_goals rw[Dk]
 .rw[Bq];(repeat' split)<;>first|rfl|omega
 .rw[Ai];(repeat' split)<;>first|rfl|omega
 .rw[Da];(repeat' split)<;>first|rfl|omega
 .rw[Aj];(repeat' split)<;>first|rfl|omega
 rw[Bp];(repeat' split)<;>first|rfl|omega
def aph{c:St}(d:wv s a b c)(g:a<s.size)(f:au s a=92):step c (au s a)=if b<=125 then some ⟨if c.m=8 then 10 else 9,c.o,c.a,c.l⟩else none:=by
 let⟨k,l,h,j⟩:=c;unfold wv at d;rw[fh g]at d;simp only at d;rw[f]at d|-;obtain⟨rfl,rfl⟩|⟨rfl,⟨rfl,e⟩|rfl|⟨rfl,e,i⟩|⟨rfl,e⟩⟩:=d
 all_goals rw[Dk]
 .rw[Bq];rfl
 .rw[Ai];rfl
 .rw[Da];rfl
 .rw[Aj];rfl
 rw[Bp];rfl
def api{e:St}(f:wv s a b e)(j:a<s.size)(k:bn zo (au s a)=false)(d:au s a≠92):step e (au s a)=if b<=au s a then some ⟨if e.m=8 then 7 else 6,e.o,e.a,au s a⟩else none:=by
 let⟨o,p,l,n⟩:=e;have g:¬(bn zo (au s a)=true):=by rw[k];simp
 rw[adl]at g;unfold wv at f;rw[fh j]at f;simp only at f;generalize au s a=c at f g d;obtain⟨rfl,rfl⟩|⟨rfl,⟨rfl,i⟩|rfl|⟨rfl,i,m⟩|⟨rfl,i⟩⟩:=f
 all_goals rw[Dk]
 .rw[Bq,N (Q:¬c=93),N (Q:¬c=45),N d];by_cases h:b<=c
  .rw[N,G h];rfl
  rw[G,N h]
 .rw[Ai,N (Q:¬c=94),N (Q:¬c=93),N (Q:¬c=45),N d,N (Q:¬c=10),G<|ey _];rfl
 .rw[Da,N (Q:¬c=93),N (Q:¬c=45),N d,N (Q:¬c=10),G<|ey _];rfl
 .rw[Aj,N (Q:¬c=93),N (Q:¬c=45),N d,N (Q:¬c=10),G<|ey _];rfl
 rw[Bp,N (Q:¬c=93),N (Q:¬c=45),N d,N (Q:¬c=10),G<|ey _];rfl
def wv.aqx{c:St}(d:wv s a b c):4<=c.m/\c.m<=8:=by
 unfold wv at d;omega
def adr{d:St}(g:wv s c a d):step ⟨if d.m=8 then 10 else 9,d.o,d.a,d.l⟩ b=if bn sx b=true/\a<=val b then some ⟨if d.m=8 then 7 else 6,d.o,d.a,val b⟩else none:=by
 unfold wv at g;by_cases f:d.m=8
 .have e:a=d.l:=Q
  simp only[f,if_true];rw[Dk,Io,e]
 have e:a=0:=Q
 simp only[f,yyv];rw[Dk,Ip,e];simp
def ad4{d:ag}{e q p j:Nat}{m:Bool}{a:St}(h:run d e=some a)(l:e<=d.size)(g:wv d e q a)(v:Ro d e q p m j):
  (m=true/\e<j/\j<=d.size/\p<=255/\run d j=some ⟨if a.m=8 then 7 else 6,a.o,a.a,p⟩)\/(m=false/\kw d j):=by
 have A:=ms d e;have u:=ms d<|e+1;have B:=g.aqx;obtain⟨c,rfl,b⟩|⟨c,n,w⟩|⟨c,n,x,y⟩:=v
 .subst b;refine .inr ⟨rfl,.here h l (λk=>?_)<|λ_=>Bt⟩;obtain c|c:=c
  .exact cb k c
  exact apj g k c
 .have i:=aph g c n;obtain⟨f,rfl,b,rfl⟩|⟨f,rfl,b,rfl,r⟩|⟨f,rfl,b,r,z,s,rfl⟩:=w
  .subst b;refine .inr ⟨rfl,.here h l (λ_=>?_)<|λ_=>Bt⟩;rw[i,N]
  .subst b;have o:run d (e+1)=some ⟨if a.m=8 then 10 else 9,a.o,a.a,a.l⟩:=by rw[lf h,i,G f]
   refine .inr ⟨rfl,.here o Q (λk=>?_)<|λ_=>Bt (by simp only;split<;>omega)<|by simp only;split<;>omega⟩;rw[adr g,N<|λt=>r ⟨k,t⟩]
  subst b;have o:run d (e+1)=some ⟨if a.m=8 then 10 else 9,a.o,a.a,a.l⟩:=by rw[lf h,i,G f]
  refine .inl ⟨rfl,Q,Q,Mp u,?_⟩;rw[lf o,adr g,G ⟨z,s⟩]
 have i:=api g c n x;obtain⟨f,rfl,b⟩|⟨f,rfl,b,rfl⟩:=y
 .subst b;refine .inr ⟨rfl,.here h l (λ_=>?_)<|λ_=>Bt⟩;rw[i,N]
 subst b;refine .inl ⟨rfl,Q,Q,Q,?_⟩;rw[lf h,i,G f]
def Zm(s:ag)(i:Nat)(st:St)(ok:Bool)(j:Nat):Prop:=
 (ok=true/\i<j/\j<=s.size/\∃l',((run s j=some ⟨6,st.o,st.a,l'⟩/\pk s j≠45)\/run s j=some ⟨7,st.o,st.a,l'⟩))\/(ok=false/\kw s j)
structure jq(w:ae)(b:Nat)(y0 y1 y2 y3:Int):Prop where
 c0:w.cell? (O b 0)=some (.int .u64 y0)
 c1:w.cell? (O b 1)=some (.int .u64 y1)
 c2:w.cell? (O b 2)=some (.int .u64 y2)
 c3:w.cell? (O b 3)=some (.int .u64 y3)
 f0:w.frozen? (O b 0)=false
 f1:w.frozen? (O b 1)=false
 f2:w.frozen? (O b 2)=false
 f3:w.frozen? (O b 3)=false
def jq.agp{f b c d:Int}(g:jq w a f b c d)(e:Int):jq (w.setCell (O a 0)<|.int .u64 e).drew a e b c d:=by
 let⟨h,i,j,k,l,m,n,o⟩:=g;constructor<;>go_simp
def jq.Iy{b f c d:Int}(g:jq w a b f c d)(e:Int):jq (w.setCell (O a 1)<|.int .u64 e).drew a b e c d:=by
 let⟨h,i,j,k,l,m,n,o⟩:=g;constructor<;>go_simp
def jq.Lq{b c f d:Int}(g:jq w a b c f d)(e:Int):jq (w.setCell (O a 2)<|.int .u64 e).drew a b c e d:=by
 let⟨h,i,j,k,l,m,n,o⟩:=g;constructor<;>go_simp
def jq.Qa{b c d f:Int}(g:jq w a b c d f)(e:Int):jq (w.setCell (O a 3)<|.int .u64 e).drew a b c d e:=by
 let⟨h,i,j,k,l,m,n,o⟩:=g;constructor<;>go_simp
def jq.qg{e f g h:Int}(m:jq w a e f g h)(k:b≠a)(i:Nat)(j:af):jq (w.setCell (O b i) j).drew a e f g h:=by
 let⟨n,o,p,q,r,s,t,u⟩:=m;have c:∀d,(w.setCell (O b i) j).cell? (O a d)=w.cell? (O a d):=λd=>jm (h:=λl=>k<|by injection l) ..
 refine⟨?_,?_,?_,?_,?_,?_,?_,?_⟩
 .exact(c 0).trans n
 .exact(c 1).trans o
 .exact(c 2).trans p
 .exact(c 3).trans q
 all_goals go_simp
def sr(a:Rc W i S j)(d:k<256)(e:pk S j=k):
  Calls prog 100 #[.pointer<|some ⟨i,0,none⟩,.int .u8 k] W λb c=>b=.returned (.bool true)/\Mv i W c (j+1):=by
 go_call Bh as b c ⟨rfl,n,rfl⟩;exact⟨rfl,(a.ee.set (j+1) rfl).drewN n⟩
def qq(a:Rc W i S j)(d:k<256)(e:pk S j≠k):
  Calls prog 100 #[.pointer<|some ⟨i,0,none⟩,.int .u8 k] W λb c=>b=.returned (.bool false)/\Mv i W c j:=by
 go_call tq as b c ⟨rfl,n,rfl⟩;exact⟨rfl,a.ee.drewN n⟩
def px(d:pk s a=c):a<s.size/\au s a=c:=by
 by_cases b:a<s.size
 .rw[fh b]at d;exact⟨b,Q⟩
 rw[qj b]at d;omega
def xi(w:ae)(b:Nat):Nat:=match w.cell? (O b 1)with|some (.int _ q)=>q.toNat|_=>0
def pu(c:w.cell? (O a 1)=some (I b)):xi w a=b:=by simp[xi,c]
def oj(e:Rc W i S j):
  Calls prog 161 #[.pointer<|some ⟨i,0,none⟩,.string T] W λc d=>c=.returned (.bool<|br S T j)/\∃a,d=W.drewN a:=by
 by_cases b:j<S.size
 .go_call Ap as c d ⟨rfl,a,rfl⟩;exact⟨pp<|by simp[br,b],a,rfl⟩
 go_call ae3 as c d ⟨rfl,a,rfl⟩;exact⟨pp<|by simp[br,b],a,rfl⟩
def vo(b:br s t a=true):a<s.size:=by
 simp[br]at b;exact b.1
def Yd(b c:ag):∀(f a:Nat),a<=b.size->skipF b c f a<=b.size/\a<=skipF b c f a
 |0,a,h=>⟨h,ah⟩
 |f+1,a,h=>by
  unfold skipF;split
  .rename_i d;have:=vo d;have:=Yd b c f (a+1) Q;omega
  omega
def si(a:j<=S.size:=by omega):skip S T j<=S.size:=(Yd S T _ j a).1
def An(a:j<=S.size):j<=skip S T j:=(Yd S T _ j a).2
def Mb(f:Rc W i S j):
  Calls prog 109 #[.pointer<|some ⟨i,0,none⟩,.string T] W λh q=>h=.returned (.tuple #[])/\Mv i W q (skip S T j):=by
 have x:=f.li;go_in;go_wp21;go_loopw [] (λwr=>∃b c,Mv i W wr b/\b<=S.size/\Y (skip S T j=skipF S T c b)/\S.size-b<=c) (λwr=>S.size-xi wr i)
 .exact⟨j,S.size-j,f.ee,f.le,rfl,ah⟩
 let⟨b,c,d,p,l,t⟩:=hrel;have k:=d.rc f p;have o:=J<|pu d.c1;go_wp21;go_call oj;rcases df (br S T b)with a|a
 .rw[a];rintro h r ⟨rfl,e,rfl⟩;have y:=vo a;let⟨u,v,z,s,w⟩:=k.drewN e;have g:Y (skip S T j=skipF S T (c-1) (b+1)):=by
   rw[Y,l.out]
   conv=>lhs;rw[show c=(c-1)+1 from Q,skipF]
   rw[G a]
  go_wp21;go_roundw
  .exact⟨b+1,c-1,(d.drewN e).set (b+1),Q,g,Q⟩
  have m:=pu ((d.drewN e).set (v:=(b:Int)+1) (b+1)).c1;have n:=o;rw[m,n];omega
 rw[a];rintro h r ⟨rfl,e,rfl⟩;have g:Y (skip S T j=b):=by
  rw[Y,l.out];cases c with
  |zero=>rfl
  |succ c=>rw[skipF,a];rfl
 go_wp21;go_returns;exact⟨rfl,by rw[g.out];exact d.drewN e⟩
def Ob(f:Rc W i S j)(h:W.cell? (O i 2)=some (I k)):
  Calls prog 111 #[.pointer<|some ⟨i,0,none⟩] W λc e=>c=.returned (.bool<|decide (0<k)&&decide (pk S j=125))/\∃d,e=W.drewN d:=by
 by_cases a:0<k
 .generalize b:pk S j=l;have g:=J b;go_in;go_wp2_with (go_at_call 110;go_call iz;rw[g.out];rintro c e ⟨rfl,d,rfl⟩);go_ret;refine⟨pp ?_,_,rfl⟩;simp[a];rfl
 obtain rfl:k=0:=Q
 go_in;go_wp21;go_ret;exact⟨pp qD,0,rfl⟩
def Bv(s:ag)(i o:Nat):Bool:=decide (pk s i=-1)||br s parts i||(decide (0<o)&&decide (pk s i=125))
def asd(o:Rc W i S j)(q:W.cell? (O i 2)=some (I k)):
  Calls prog 113 #[.pointer<|some ⟨i,0,none⟩] W λb e=>b=.returned (.bool<|Bv S (skip S dh j) k)/\Mv i W e (skip S dh j):=by
 have s:=J q;clear q;generalize c:skip S dh j=a;have t:=J c;have v:=c▸si S dh j o.le;clear c;go_in;go_wp21;refine(Mb i S dh j _ o).mono ?_;rw[t.out];rintro b y ⟨rfl,m⟩;have f:=m.rc o v;have w:=J ((m.cell 2 Q).trans s);by_cases c:pk S a=-1
 .have g:=J c;have h:Y (Bv S a k=true):=by simp[Y,Bv,c]
  clear c;go_wp2_with (go_at_call 110;refine(iz i S a _ f).mono ?_;rw[g.out];rintro b e ⟨rfl,p,rfl⟩);go_ret;exact⟨pp h.symm,m.drewN _⟩
 have r:(pk S a==-1)=false:=qK c
 rcases df (br S parts a)with d|d
 .have h:Y (Bv S a k=true):=by simp[Y,Bv,d]
  generalize l:pk S a=x at r;have g:=J l;have n:=J d;clear d l c;go_wp2_with (first|(go_at_call 110;refine(iz i S a _ f).mono ?_;rw[g.out];rintro b e ⟨rfl,p,rfl⟩)|(go_at_call 161;refine(oj i S parts a _<|f.drewN _).mono ?_;rw[n.out];rintro b e ⟨rfl,u,rfl⟩));go_ret;exact⟨pp h.symm,m.drewN _⟩
 have h:Y (Bv S a k=(decide (0<k)&&decide (pk S a=125))):=by simp[Y,Bv,d,c]
 generalize l:pk S a=x at r h;have g:=J l;have n:=J d;clear d l c;go_wp2_with (first|(go_at_call 110;refine(iz i S a _ f).mono ?_;rw[g.out];rintro b e ⟨rfl,p,rfl⟩)|(go_at_call 161;refine(oj i S parts a _<|f.drewN _).mono ?_;rw[n.out];rintro b e ⟨rfl,u,rfl⟩)|(go_at_call 111;refine(Ob i S a k _ (f.drewN _) w).mono ?_;rw[g.out];rintro b e ⟨rfl,l,rfl⟩));go_ret;exact⟨pp h.symm,m.drewN _⟩
def Tq(b:br s ju a=true):a<s.size/\48<=au s a/\au s a<=57:=by
 simp[br]at b;refine⟨b.1,?_⟩;have c:=b.2;simp[bn,ju]at c;omega
def Wc(b:ag):∀(l a c:Nat),a<=b.size->(numF b l a c).1<=b.size/\a<=(numF b l a c).1
 |0,a,c,h=>⟨h,ah⟩
 |l+1,a,c,h=>by
  unfold numF;split
  .rename_i d;have:=vo d;split
   .exact⟨h,ah⟩
   have:=Wc b l (a+1) (10*c+(au b a-48)) Q;omega
  exact⟨h,ah⟩
theorem arn(q:Rc W i S j):
  Calls prog 227 #[.pointer<|some ⟨i,0,none⟩] W λg h=>g=.returned (.tuple #[.int .i64 ((numF S 4 j 0).2.1:Nat),.bool (numF S 4 j 0).2.2])/\Mv i W h (numF S 4 j 0).1:=by
 have Z:=q.li;generalize hF:numF S 4 j 0=o;have z:=J hF;clear hF;go_in;go_wp21;go_loopw [4,5] (λF H wr=>∃(c b a:Nat),F=I b/\H=I a/\a<=4/\Mv i W wr c/\c<=S.size/\Y (o=numF S a c b)/\b*10^a<10000) (λ_ U _=>(intOf U).toNat)
 case atStart=>exact⟨j,0,4,rfl,rfl,Q,q.ee,q.le,z.out.symm,qG⟩
 obtain⟨c,b,a,rfl,rfl,a5,l,K,r,w⟩:=hrel;have e:=J<|l.rc q K;have a0:b<10000:=by
  have:1<=10^a:=Nat.one_le_pow _ _ Q;have:=Nat.le_mul_of_pos_right b this;omega
 by_cases x:a=0
 .subst x;have m:Y (o=(c,b,decide (0<b))):=r.out;go_wp21;go_ret2;rw[m.out];simp_all
 obtain⟨a,rfl⟩:∃L,a=L+1:=⟨a-1,Q⟩;clear x;rcases df (br S ju c)with f|f
 .obtain⟨A,B,C⟩:=Tq f;have p:=J f;have s:=J<|fh A;have n:Y (∃d,au S c=d):=⟨_,rfl⟩;obtain⟨d,k⟩:=n.out;have t:=J k;rw[k]at B C;have y:b*10^a*10<10000:=by rw[Nat.mul_assoc,<-zyj];exact w
  have X:b<1000:=by
   have:1<=10^a:=Nat.one_le_pow _ _ Q;have:=Nat.le_mul_of_pos_right b this;omega
  have m:Y (o=if a=0/\10*b+(d-48)=0 then(c,0,false)else numF S a (c+1) (10*b+(d-48))):=by
   rw[Y,r.out,numF,G f,k]
  clear f k n;by_cases u:a=0/\10*b+(d-48)=0
  .obtain⟨rfl,D⟩:=u;obtain rfl:b=0:=Q
   obtain rfl:d=48:=Q
   go_wp2_with (first|(go_at_call 161;refine(oj i S ju c _ e.out).mono ?_;rw[p.out];rintro g h ⟨rfl,k,rfl⟩)|(go_at_call 110;refine(iz i S c _<|e.out.drewN _).mono ?_;rw[s.out,t.out];rintro g h ⟨rfl,n,rfl⟩));go_ret2;rw[m.out,G ⟨trivial,trivial⟩];exact⟨rfl,l.drewN _⟩
  have v:Y (o=numF S a (c+1) (10*b+(d-48))):=by rw[Y,m.out,N u]
  have V:Y (∀k n,(wr.drewN k|>.drewN n).cell? (O i 1)=some (I c)/\(wr.drewN k|>.drewN n).frozen? (O i 1)=false):=λk n=>⟨e.out.c1,e.out.f1⟩
  obtain⟨a7,a4,a1,a2,a6⟩:=e.out;by_cases E:a=0
  .subst E;have D:(10*(b:Int)+d-48==0)=false:=qB
   go_wp2_with (first|(go_at_call 161;refine(oj i S ju c _ e.out).mono ?_;rw[p.out];rintro g h ⟨rfl,k,rfl⟩)|(go_at_call 110;refine(iz i S c _<|e.out.drewN _).mono ?_;rw[s.out,t.out];rintro g h ⟨rfl,n,rfl⟩));go_roundw
   case rel=>exact⟨c+1,10*b+(d-48),0,by congr 1;omega,rfl,Q,(l.drewN _).set (c+1) Q,Q,v.out,qB⟩
   simp[intOf]
  have a3:(((a:Int)+1)==1)=false:=qB
  go_wp2_with (first|(go_at_call 161;refine(oj i S ju c _ e.out).mono ?_;rw[p.out];rintro g h ⟨rfl,k,rfl⟩)|(go_at_call 110;refine(iz i S c _<|e.out.drewN _).mono ?_;rw[s.out,t.out];rintro g h ⟨rfl,n,rfl⟩));go_roundw
  case rel=>
   refine⟨c+1,10*b+(d-48),a,by congr 1;omega,rfl,Q,(l.drewN _).set (c+1) Q,Q,v.out,?_⟩;have M:(10*b+(d-48))*10^a<=(10*b+9)*10^a:=yzm _ Q;have:a<=3:=Q
   have P:a=1\/a=2\/a=3:=Q
   grind
  simp[intOf]
 have p:=J f;have m:Y (o=(c,b,decide (0<b))):=by
  rw[Y,r.out,numF,f];rfl
 clear f;go_wp2_with (first|(go_at_call 161;refine(oj i S ju c _ e.out).mono ?_;rw[p.out];rintro g h ⟨rfl,k,rfl⟩));go_ret2;rw[m.out];refine⟨?_,l.drewN _⟩;simp
theorem acg:S.extract 0 S.size=S:=by
 simp_all
def Er(a:ag):∀(f b:Nat),ic a f b<=a.size
 |0,b=>ah
 |f+1,b=>by
  unfold ic;split
  .split
   .omega
   split
   .exact Er a f _
   exact Er a f _
  exact ah
theorem aww(s:S.size<=400):
  Calls prog 240 #[.string S] W λn r=>n=.returned (.string<|S.extract 0<|bw S 0)/\∃h,r=W.drewN h:=by
 generalize hF:bw S 0=d;have o:=J hF;go_in;go_wp2_with fail;go_loopw [3] (λj wr=>∃(a b:Nat),j=I a/\a<=S.size+1/\S.size+1<=b+a/\Y (d=ic S b a)/\∃h,wr=W.drewN h) (λj _=>S.size+1-(intOf j).toNat)
 .exact⟨0,S.size+1,rfl,Q,Q,o.symm,0,rfl⟩
 obtain⟨a,b,rfl,t,u,l,h,rfl⟩:=hrel;by_cases f:a<S.size
 .have v:(0:Int)<=a:=Q
  have w:(a:Int)<S.size:=Q
  have c:=J<|Cx S a f;have g:Y (d=if au S a=47 then a else if au S a=92 then ic S (b-1) (a+2)else ic S (b-1) (a+1)):=by
   rw[Y,l.out]
   conv=>lhs;rw[show b=(b-1)+1 from Q,ic]
   rw[G f]
  have e:((S[a]).toNat:Int)=(au S a:Int):=oz S a f;generalize au S a=m at g e;by_cases i:m=47
  .subst i;have c:Y (d=a):=by rw[Y,g.out,G rfl]
   go_wp2_with fail;go_ret;rw[c.out];exact⟨rfl,_,rfl⟩
  have p:(((S[a]).toNat:Int)==47)=false:=by rw[e];simp;omega
  by_cases k:m=92
  .subst k;have c:Y (d=ic S (b-1) (a+2)):=by rw[Y,g.out,N i,G rfl]
   go_wp2_with fail;go_roundw
   .grind
   simp[intOf];omega
  have q:(((S[a]).toNat:Int)==92)=false:=by rw[e];simp;omega
  have c:Y (d=ic S (b-1) (a+1)):=by rw[Y,g.out,N i,N k]
  go_wp2_with fail;go_roundw
  .grind
  simp[intOf];omega
 have c:Y (d=S.size):=by
  rw[Y,l.out];cases b with
  |zero=>rfl
  |succ b=>rw[ic,N f]
 go_wp2_with fail;go_ret;rw[c.out,acg];exact⟨rfl,_,rfl⟩
def Pg(d:Rc W i S j):
  Calls prog 131 #[.pointer<|some ⟨i,0,none⟩,.int .u8 k] W λc g=>c=.returned (.bool<|decide (pk S j=(k:Int)))/\∃f,g=W.drewN f:=by
 let⟨l,m,n,o,h⟩:=d;by_cases a:j<S.size
 .have p:=oz S j a;have e:(j:Int)<S.size:=Q
  have b:Y (decide (pk S j=(k:Int))=((au S j:Int)==k)):=by rw[Y,fh a];rfl
  go_in;go_wp21;go_quiet (fail);go_wp21;go_ret;exact⟨by rw[b.out];rfl,_,rfl⟩
 have b:Y (decide (pk S j=(k:Int))=false):=by rw[Y,qj a];simp
 go_in;go_wp21;go_quiet (fail);go_wp21;go_ret;exact⟨by rw[b.out];rfl,_,rfl⟩
def Qj(l:Rc W i S j)(t:T.size<=40):
  Calls prog 130 #[.pointer<|some ⟨i,0,none⟩,.string T] W λd b=>d=.returned (.tuple #[])/\Mv i W b (skip S T j):=by
 have C:=l.li;have p:Y (∀(g:Nat)(b:ae),Calls prog 128 #[.string T,.int .u8 g] b λd e=>d=.returned (.bool<|bn T g)/\e=b):=λg b=>sz T g b t
 go_in;go_wp21;go_loopw [] (λwr=>∃a c,Mv i W wr a/\a<=S.size/\Y (skip S T j=skipF S T c a)/\S.size-a<=c) (λwr=>S.size-xi wr i)
 .exact⟨j,S.size-j,l.ee,l.le,rfl,ah⟩
 let⟨a,c,f,q,n,v⟩:=hrel;have h:=f;have s:=J<|pu f.c1;let⟨w,x,y,z,u⟩:=f.rc l q;by_cases m:a<S.size
 .have A:=oz S a m;have r:(a:Int)<S.size:=Q
  cases k:bn T (au S a)
  .have f:Y (skip S T j=a):=by
    rw[Y,n.out,show c=(c-1)+1 from Q,skipF,if_neg];simp[br,k]
   have o:∀b,Calls prog 128 #[.string T,.int .u8 (au S a:Int)] b λd e=>d=.returned (.bool false)/\e=b:=λb=>by have:=p (au S a) b;rwa[k]at this
   go_wp21;go_quiet ((go_at_call 128;exact Calls.quiet_of_same<|o _));go_wp21;go_returns;exact⟨rfl,by rw[f.out];exact h.drewN _⟩
  have f:Y (skip S T j=skipF S T (c-1) (a+1)):=by
   rw[Y,n.out]
   conv=>lhs;rw[show c=(c-1)+1 from Q,skipF]
   rw[if_pos];simp[br,k,m]
  have o:∀b,Calls prog 128 #[.string T,.int .u8 (au S a:Int)] b λd e=>d=.returned (.bool true)/\e=b:=λb=>by have:=p (au S a) b;rwa[k]at this
  go_wp21;go_quiet ((go_at_call 128;exact Calls.quiet_of_same<|o _));go_wp21;go_roundw
  .exact⟨a+1,c-1,(h.drewN _).set (a+1),Q,f,Q⟩
  have B:=pu ((h.drewN nq).set (v:=(a:Int)+1) (a+1)).c1;rw[s.out];(first|omega|(simp only[O,I]at *;omega))
 have f:Y (skip S T j=a):=by
  rw[Y,n.out];cases c with
  |zero=>rfl
  |succ c=>rw[skipF,if_neg];simp[br,m]
 go_wp21;go_quiet (fail);go_wp21;go_returns;exact⟨rfl,by rw[f.out];exact h.drewN _⟩
def Qzd(b c:ag):∀(f a:Nat),a<=b.size->a<=skipF b c f a/\skipF b c f a<=b.size
 |0,a,h=>⟨ah,h⟩
 |f+1,a,h=>by
  rw[skipF];split
  .rename_i d;have:=Qzd b c f (a+1)<|vo d;omega
  exact⟨ah,h⟩
def Ra(c:Rc W i S j)(l:T.size<=40):
  Calls prog 132 #[.pointer<|some ⟨i,0,none⟩,.string T] W λd p=>d=.returned (.string<|S.extract j<|skip S T j)/\Mv i W p (skip S T j):=by
 have e:=J<|Qj i S T j W c l;have k:=c;let⟨m,n,u,o,s⟩:=c;let⟨f,g⟩:=Qzd S T (S.size-j) j o;obtain⟨b,a⟩:∃b,b=skip S T j:=⟨_,rfl⟩;rw[<-a]at e|-;have t:j<=b:=by rw[a];exact f
 have h:b<=S.size:=by rw[a];exact g
 clear a f g;go_in;go_wp21;go_call e;rintro d g ⟨rfl,a⟩;have f:=a;let⟨q,r,_,_,_⟩:=a.rc k h;go_wp21;go_quiet (fail);go_wp21;go_ret;exact⟨rfl,f.drewN _⟩
structure gu(F b:Nat)(w w':ae):Prop where
 os:w'.os=w.os
 tape:w'.tape=w.tape
 output:w'.output=w.output
 size:w'.heap.size=w.heap.size
 block:∀k,k≠b->w'.heap[k]?=w.heap[k]?
 cell:∀k,k<F\/F+3<k->w'.cell? (O b k)=w.cell? (O b k)
 cd:∀k,w'.frozen? (O b k)=w.frozen? (O b k)
def gu.refl{F:Nat}:gu F i W W:=⟨rfl,rfl,rfl,rfl,λ_ _=>rfl,λ_ _=>rfl,λ_=>rfl⟩
def gu.trans{F:Nat}{b:Nat}{f g h:ae}(c:gu F b f g)(d:gu F b g h):gu F b f h:=
 ⟨d.os.trans c.os,d.tape.trans c.tape,d.output.trans c.output,d.size.trans c.size,λa e=>(d.block a e).trans<|c.block a e,λa e=>(d.cell a e).trans<|c.cell a e,λa=>(d.cd a).trans<|c.cd a⟩
def gu.setCell{F:Nat}{a:Nat}{f g:ae}(h:gu F a f g)(b:Nat)(i:af)(j:F<=b/\b<=F+3:=by omega):gu F a f (g.setCell (O a b) i):=
 h.trans ⟨rfl,rfl,rfl,by simp[World.setCell],λc d=>er _ _ _ _ d,λc d=>jm (h:=λe=>by injection e with _ e _;omega) ..,λc=>jf ..⟩
structure Qqa(F:Nat)(w:ae)(b:Nat)(st:St):Prop where
 c0:w.cell? (O b F)=some (I st.m)
 c1:w.cell? (O b (F+1))=some (I st.o)
 c2:w.cell? (O b (F+2))=some (I st.a)
 c3:w.cell? (O b (F+3))=some (I st.l)
 f0:w.frozen? (O b F)=false
 f1:w.frozen? (O b (F+1))=false
 f2:w.frozen? (O b (F+2))=false
 f3:w.frozen? (O b (F+3))=false
def Qqa.lq{F:Nat}(l:Qqa F w a ⟨b,c,d,e⟩)(f:Nat)(g:p=f):Qqa F (w.setCell (O a F)<|I p) a ⟨f,c,d,e⟩:=by
 obtain⟨h,i,j,k,m,n,o,q⟩:=l;subst g;simp only at h i j k;constructor<;>go_simp
def Qqa.sg{F:Nat}(l:Qqa F w a ⟨b,c,d,e⟩)(f:Nat)(g:p=f:=by omega):Qqa F (w.setCell (O a (F+1))<|I p) a ⟨b,f,d,e⟩:=by
 obtain⟨h,i,j,k,m,n,o,q⟩:=l;subst g;simp only at h i j k;constructor<;>go_simp
def Qqa.auj{F:Nat}(l:Qqa F w a ⟨b,c,d,e⟩)(f:Nat)(g:p=f):Qqa F (w.setCell (O a (F+2))<|I p) a ⟨b,c,f,e⟩:=by
 obtain⟨h,i,j,k,m,n,o,q⟩:=l;subst g;simp only at h i j k;constructor<;>go_simp
def Qqa.Ca{F:Nat}(l:Qqa F w a ⟨b,c,d,e⟩)(f:Nat)(g:p=f:=by omega):Qqa F (w.setCell (O a (F+3))<|I p) a ⟨b,c,d,f⟩:=by
 obtain⟨h,i,j,k,m,n,o,q⟩:=l;subst g;simp only at h i j k;constructor<;>go_simp
def Qqb(F b:Nat)(w:ae)(r:Option St)(e:Ending)(w':ae):Prop:=
 ∃q,e=.returned (.bool q)/\gu F b w w'/\((∃st',r=some st'/\q=true/\Qqa F w' b st')\/(r=none/\q=false))
def Qqb.yes{F:Nat}{c:Option St}(f:gu F a w u)(b:St)(d:c=some b)(e:Qqa F u a b):Qqb F a w c (.returned<|.bool true) u:=⟨_,rfl,f,.inl ⟨b,d,rfl,e⟩⟩
def Qqb.no{F:Nat}{b:Option St}(d:gu F a w u)(c:b=none):Qqb F a w b (.returned<|.bool false) u:=⟨_,rfl,d,.inr ⟨c,rfl⟩⟩
def Qqb.of{F:Nat}{d:Option St}{q:Bool}(e:gu F a w u)(b:St)(c:d=if q=true then some b else none)(f:Qqa F u a b):Qqb F a w d (.returned<|.bool q) u:=by
 cases q
 .exact .no e<|qK c
 exact .yes e b (qK c) f
def Sr{F:Nat}(c:St)(a:Nat)(d:ae)(j:Small c)(g:Qqa F d i c):
  Calls prog 173 #[.pointer<|some ⟨i,F,none⟩,.int .u8 a] d (Qqb F i d<|kh c a):=by
 have b:=g;obtain⟨p,f,h,k⟩:=c;obtain⟨l,m,n,o,q,r,s,t⟩:=g;obtain⟨s1,s2,s3,s4⟩:=j;simp only at l m n o s1 s2 s3 s4;go_in;go_wp2_with (go_at_call 128;go_call sz as e u ⟨rfl,rfl⟩)
 all_goals go_ret
 all_goals go_light
 all_goals simp only[ra,xy,ne_eq] at*
 .exact .no (.refl _ _) (by unfold kh;simp only;(repeat' split)<;>first|rfl|omega)
 .exact .no (.refl _ _) (by unfold kh;simp only;(repeat' split)<;>first|rfl|omega)
 .exact .yes (((gu.refl _ _).setCell _ _).setCell _ _|>.setCell _ _) _ (by unfold kh;simp only;(repeat' split)<;>first|rfl|omega)<|((b.sg (f+1) Q).auj (h+1) Q).lq 0 rfl
 .exact .yes ((gu.refl _ _).setCell _ _) _ (by unfold kh;simp only;(repeat' split)<;>first|rfl|omega)<|b.lq 4 rfl
 .exact .yes ((gu.refl _ _).setCell _ _) _ (by unfold kh;simp only;(repeat' split)<;>first|rfl|omega)<|b.lq 3 rfl
 exact .of (q:= !bn mb a) ((gu.refl _ _).setCell _ _) ⟨1,f,h,k⟩ (by rw[kh,N (Q:¬a=40),N (Q:¬a=91),N (Q:¬a=92)];cases bn mb a<;>rfl)<|b.lq 1 rfl
def Qqc(a:Bool):a=true\/a=false:=by cases a<;>simp
def xyq{F:Nat}{b k:Nat}{w:ae}{v:af}(h:F<=k/\k<=F+3:=by omega):gu F b w (w.setCell (O b k) v):=(gu.refl _ _).setCell _ _
def xyr{F:Nat}{b k l:Nat}{w:ae}{v u:af}(h:F<=k/\k<=F+3/\F<=l/\l<=F+3:=by omega):gu F b w ((w.setCell (O b k) v).setCell (O b l) u):=(xyq Q).setCell _ _ Q
theorem ada{F:Nat}(f:St)(a:Nat)(m:ae)(n:Small f)(p:f.m=1\/f.m=2)(q:Qqa F m i f):
  Calls prog 174 #[.pointer<|some ⟨i,F,none⟩,.int .u8 a] m (Qqb F i m<|nr f a):=by
 have c:=q;have r:=J n;obtain⟨x,b,d,e⟩:=f;obtain⟨s,t,u,v,y,z,A,w⟩:=q;obtain⟨s1,s2,s3,s4⟩:=n;simp only at s t u v s1 s2 s3 s4 p;by_cases l:x=1/\bn xr a=true
 .obtain⟨rfl,l⟩:=l;go_in;go_wp2_with (go_at_call 128;go_call sz xr a _ qG as j k ⟨rfl,rfl⟩);go_ret;go_light;exact .yes xyq _ (by rw[nr,G ⟨rfl,l⟩])<|c.lq 2 rfl
 obtain rfl|rfl:=p
 have g:bn xr a=false:=qK l
 all_goals clear l;rcases Qqc ((a:Int)==41)with o|o
 all_goals go_in
 all_goals go_wp2_with (first|(go_at_call 128;refine(sz xr a _ qG).mono ?_;rintro j k ⟨rfl,rfl⟩)|(go_at_call 173;refine(Sr i _ a _ r c).mono ?_;rintro j k ⟨h,rfl,hd⟩))
 all_goals go_ret
 all_goals go_light
 all_goals simp only[ra,xy,ne_eq] at*
 all_goals first|refine .yes xyr _ ?_<|(c.sg (b-1) Q).lq 1 rfl|refine .yes xyr _ ?_<|(c.lq 11 rfl).Ca 0 rfl|refine .yes xyq _ ?_<|c.lq 0 rfl|(refine⟨h,rfl,?_⟩;(first|rw[show nr ⟨1,b,d,e⟩ a=kh ⟨1,b,d,e⟩ a from(by unfold nr;(try simp only[g]);(try simp only);(repeat' split)<;>first|rfl|omega|(simp_all;done)|(exfalso;simp_all;omega))]|rw[show nr ⟨2,b,d,e⟩ a=kh ⟨2,b,d,e⟩ a from(by unfold nr;(try simp only[g]);(try simp only);(repeat' split)<;>first|rfl|omega|(simp_all;done)|(exfalso;simp_all;omega))]);exact hd)
 all_goals unfold nr;(try simp only[g]);(try simp only);(repeat' split)<;>first|rfl|omega|(simp_all;done)|(exfalso;simp_all;omega)
theorem ale{F:Nat}(c:St)(a:Nat)(e:ae)(t:a<256)(g:Small c)(h:11<=c.m)(f:Qqa F e i c):
  Calls prog 176 #[.pointer<|some ⟨i,F,none⟩,.int .u8 a] e (Qqb F i e<|rz c a):=by
 have b:=f;obtain⟨d,p,q,r⟩:=c;obtain⟨j,k,l,m,s,u,v,w⟩:=f;obtain⟨s1,s2,s3,s4⟩:=g;simp only at j k l m s1 s2 s3 s4 h;obtain rfl|rfl|rfl|rfl:d=11\/d=13\/d=12\/d=14:=Q
 iterate 2
  by_cases n:48<=a
  by_cases o:a<=57
  rotate_left 3
 all_goals go_in
 all_goals go_wp2
 all_goals go_ret
 all_goals go_light
 all_goals simp only[ra,xy,ne_eq] at*
 all_goals first|refine .no (.refl _ _) ?_|refine .no xyq ?_|refine .yes xyr _ ?_<|(b.Ca (a-48) Q).lq 12 rfl|refine .yes xyr _ ?_<|(b.Ca (a-48) Q).lq 14 rfl|refine .yes xyq _ ?_<|b.lq 2 rfl|refine .yes xyq _ ?_<|b.lq 13 rfl
 all_goals unfold rz;(try simp only);(repeat' split)<;>first|rfl|omega|(simp_all;done)|(exfalso;simp_all;omega)
def aw1{F:Nat}(a:St)(c:ae)(h:Qqa F c i a):
  Calls prog 126 #[.pointer<|some ⟨i,F,none⟩] c λg n=>g=.returned (.bool<|whole a)/\n=c:=by
 obtain⟨d,e,o,p⟩:=a;obtain⟨j,k,l,m,q,r,s,t⟩:=h;simp only at j k l m;by_cases f:e=0
 .subst f;by_cases b:d=1
  .subst b;go_in;go_wp2;go_ret;exact⟨pp<|by simp[whole],rfl⟩
  have u:((d:Int)==1)=false:=qB
  go_in;go_wp2;go_ret;exact⟨pp<|by rw[vv];simp[whole,b];try omega,rfl⟩
 have b:((e:Int)==0)=false:=qB
 go_in;go_wp2;go_ret;exact⟨pp<|by simp[whole,f],rfl⟩
def auk{F:Nat}(c:St)(b:Nat)(d:ae)(l:b<256)(f:Small c)(g:c.m=9\/c.m=10)(h:Qqa F d i c):
  Calls prog 177 #[.pointer<|some ⟨i,F,none⟩,.int .u8 b] d (Qqb F i d<|oi c b):=by
 have e:=h;obtain⟨r,s,t,u⟩:=c;obtain⟨j,k,m,n,v,w,x,y⟩:=h;obtain⟨s1,s2,s3,s4⟩:=f;simp only at j k m n s1 s2 s3 s4 g;rcases Qqc (bn sx b)with a|a
 all_goals obtain rfl|rfl:=g
 all_goals go_in
 all_goals go_wp2_with (first|(go_at_call 175;go_call ace;rintro o p ⟨rfl,rfl⟩)|(go_at_call 129;go_call Ew;rintro o p ⟨rfl,rfl⟩))
 all_goals (go_ret;go_light;try simp only[ra,xy,ne_eq] at*)
 .exact .yes (((gu.refl _ _).setCell _ _).setCell _ _) _ (by simp only[Ip,Io,a];simp;try omega)<|(e.lq 6 rfl).Ca (val b) rfl
 .exact .no (.refl _ _) (by simp only[Ip,Io,a];simp;try omega)
 .exact .yes ((((gu.refl _ _).setCell _ _).setCell _ _).setCell _ _) _ (by simp only[Ip,Io,a];simp;try omega)<|((e.lq 6 rfl).lq 7 rfl).Ca (val b) rfl
 .exact .no (.refl _ _) (by simp only[Ip,Io,a];simp;try omega)
 exact .no (.refl _ _) (by simp only[Ip,Io,a];simp;try omega)
def auo{F:Nat}(c:St)(b:Nat)(d:ae)(q:b<256)(f:Small c)(g:c.m=4\/c.m=5\/c.m=6\/c.m=7\/c.m=8)(h:Qqa F d i c):
  Calls prog 177 #[.pointer<|some ⟨i,F,none⟩,.int .u8 b] d (Qqb F i d<|oi c b):=by
 have a:=h;obtain⟨s,j,k,e⟩:=c;obtain⟨l,m,n,p,t,u,v,w⟩:=h;obtain⟨s1,s2,s3,s4⟩:=f;simp only at l m n p s1 s2 s3 s4 g;rcases Qqc ((b:Int)==10)with o|o
 all_goals obtain rfl|rfl|rfl|rfl|rfl:=g
 all_goals go_in
 all_goals go_wp21
 all_goals (go_ret;go_light;try simp only[ra,xy,ne_eq] at*)
 all_goals first|refine .no (.refl _ _) ?_|refine .no xyq ?_|refine .yes xyq _ ?_<|a.lq 5 rfl|refine .yes xyq _ ?_<|a.lq 9 rfl|refine .yes xyq _ ?_<|a.lq 1 rfl|refine .yes xyq _ ?_<|a.lq 8 rfl|refine .yes xyr _ ?_<|(a.lq 6 rfl).Ca b rfl|refine .of (q:=decide ((e:Int)<=125)) xyr ⟨10,j,k,e⟩ ?_<|(a.lq 9 rfl).lq 10 rfl|refine .yes (gu.setCell xyr _ _) _ ?_<|((a.lq 6 rfl).lq 7 rfl).Ca b rfl
 all_goals first|rw[Ai]|rw[Da]|rw[Aj]|rw[Bp]|rw[Bq]
 all_goals (try simp only[xz]);(repeat' split)<;>first|rfl|omega
def Qjh{F:Nat}(c:Nat)(n:St)(b:Nat)(s:ae)(r:b<256)(t:Small n)(u:Qqa F s c n):
  Calls prog 127 #[.pointer<|some ⟨c,F,none⟩,.int .u8 b] s (Qqb F c s<|step n b):=by
 have g:=u;have l:=J t;obtain⟨a,h,j,k⟩:=n;obtain⟨w,x,y,z,B,C,D,E⟩:=u;obtain⟨s1,s2,s3,s4⟩:=t;simp only at w x y z s1 s2 s3 s4;by_cases o:a=0
 .subst o;go_in;go_wp2_with (go_at_call 173;go_call Sr c _ b _ l g as e i ⟨q,rfl,hd⟩);go_ret;exact⟨q,rfl,hd⟩
 by_cases A:a=1
 .subst A;go_in;go_wp2_with (go_at_call 174;go_call ada c _ b _ l (.inl rfl) g as e i ⟨q,rfl,hd⟩);go_ret;exact⟨q,rfl,hd⟩
 by_cases v:a=2
 .subst v;go_in;go_wp2_with (go_at_call 174;go_call ada c _ b _ l (.inr rfl) g as e i ⟨q,rfl,hd⟩);go_ret;exact⟨q,rfl,hd⟩
 by_cases p:a=3
 .subst p;go_in;go_wp2_with (go_at_call 175;go_call ace b _ as e i ⟨rfl,rfl⟩);go_ret;exact .of (q:=bn sx b) ((gu.refl _ _).setCell _ _) ⟨1,h,j,k⟩ rfl<|g.lq 1 rfl
 obtain d|d|d:11<=a\/(a=9\/a=10)\/(a=4\/a=5\/a=6\/a=7\/a=8):=Q
 .have f:step ⟨a,h,j,k⟩ b=rz ⟨a,h,j,k⟩ b:=by
   unfold step;simp only;rw[N o,N Q,N p,G d]
  have m:=J d;rw[f];clear f;obtain rfl|rfl|rfl|rfl:a=11\/a=12\/a=13\/a=14:=Q
  all_goals
   go_in;go_wp2_with (go_at_call 176;go_call ale c _ b _ r l m g as e i ⟨q,rfl,hd⟩);go_ret;exact⟨q,rfl,hd⟩
 .have f:step ⟨a,h,j,k⟩ b=oi ⟨a,h,j,k⟩ b:=by
   unfold step;simp only;rw[N o,N Q,N p,N Q]
  have m:=J d;rw[f];clear f;obtain rfl|rfl:=d
  all_goals
   go_in;go_wp2_with (go_at_call 177;go_call auk c _ b _ r l m g as e i ⟨q,rfl,hd⟩);go_ret;exact⟨q,rfl,hd⟩
 have f:step ⟨a,h,j,k⟩ b=oi ⟨a,h,j,k⟩ b:=by
  unfold step;simp only;rw[N o,N Q,N p,N Q]
 have m:=J d;rw[f];clear f;obtain rfl|rfl|rfl|rfl|rfl:=d
 all_goals
  go_in;go_wp2_with (go_at_call 177;go_call auo c _ b _ r l m g as e i ⟨q,rfl,hd⟩);go_ret;exact⟨q,rfl,hd⟩
