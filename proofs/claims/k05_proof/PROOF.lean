import PyProof.Rows.All
import Wide.All
import OpenK.AllK
import Wide.FinOn
import Lean
import PyProof.EqAt
import PyProof.EqKinds
import PyProof.TupleCall
import PyProof.Rows.TupAdd
import PyProof.NeKinds
import KE.LcSums
import PyProof.ListRange
import PyProof.ListMulRoad
import PyProof.Draws
import PyProof.EnumMake
import PyProof.MinMaxWalk
import PyProof.WalkInts
import PyProof.Rows.SortStr
import PyProof.Rows.SortKeyStr
import PyProof.WalksMore
import KE.KDictLaws
import KE.KDictOf
import KE.KDictList
import PySem.Challenge.RW_pageties_k05_whole_fewest_pages
set_option Elab.async false
set_option linter.all false
set_option maxRecDepth 100000
set_option maxHeartbeats 4000000
abbrev VP:=PySem.Value->PySem.Shared->Prop
abbrev Pns:=List (PySem.Addr×PySem.Obj)
noncomputable section
open List renaming length_map→A0,getElem?_eq_getElem→A3,mem_cons_self→A6,mem_cons_of_mem→A7,range→A9,mem_append_right→Ab,length_append→Ad,mem_singleton→Ae,mem_cons→Af,size_toArray→Ag,map_cons→Ai,mem_range→Aj,getElem?_eq_some_iff→An,length_range→As,getElem?_map→Au,mem_map→Av,mem_append→Aw,length_cons→Ay,length_singleton→Az,replicate→B1,mem_filter→B2,map_map→B6,map_congr_left→B7,mem_append_left→B9,map_append→Ba,getElem?_set_ne→Bd,getD_eq_getElem?_getD→Bh,lookup_cons→Bi,toArray→Bn,pairwise_map→Bu,mem_map_of_mem→Bv,getElem_mem→Bw,nodup_cons→Bz,all_eq_true→C1,getElem?_set_self→C7,nodup_append→Cc,length_replicate→Cd,idxOf_lt_length_of_mem→Cg,append_nil→Ch,length_set→Ci,append_assoc→Co,pairwise_append→Cq,length_nil→Cv,replicate_succ→D4,length_filter_le→D7,pairwise_singleton→Da,pairwise_cons→Dc,getElem?_append_left→Dg,mergeSort_perm→Dh,mem_of_getElem?→Dp,pairwise_mergeSort→Ds,nodup_range→Dt,nodup_nil→Dx,zip_cons_cons→E8,eq_nil_of_length_eq_zero→Ec,flatten_cons→Eg,getElem?_cons_succ→Ei,getElem_of_mem→Ek,getElem?_range→Em,pairwise_lt_range→En,any_cons→Eo,drop_eq_getElem_cons→Eu,pairwise_iff_getElem→Ev,filter_sublist→Fg,length_take→Fi,length→Fq,map_nil→Ft,range_succ_eq_map→Fv,foldl_cons→Fz,find?_cons→G4,mem_iff_getElem→Gh,length_drop→Go,map_id'→Gr,getLast?_eq_some_iff→Gu,getLast?_eq_none_iff→Gv,filterMap_cons→Gw,of_mem_zip→Hc,filter_map→Hd,getElem_idxOf→Hi,map_id→Ho,filter_eq_nil_iff→Ia,getElem?_eq_none→Ib,ext_getElem→Ie,filter_cons→Ih,idxOf_cons_self→Im,mem_erase_of_ne→Io,mem_filterMap→Jc,zip_nil_right→Jd,take_zero→Jg,take_sublist→Jl,drop_length→Jy,any_eq_true→Jz,not_mem_nil→Kc,mem_flatMap→Kd,sublist_nil→Ke,all_map→Kj,Nodup→Ks,nil_append→Ku,range_succ→Kw,Pairwise→Lk,foldl→Lq
open PySem renaming wpAny_bind→A4,Value→A8,starEach→Ac,Shared→Ah,Addr→Ap,wpAny→Aq,model→B3,bootBuiltins→B5,Str→Bb,Program→Bo,backTo→Bs,mem_of_lookup→Bt,Around→By,eval→C0,sizeLine_eq→C3,Heap→C5,World→C8,wpAny_newObj_type→Cb,wpAny_mono→Ce,wpAny_truthy_bool→Cm,foldedSetIterable→Cn,wpAny_tryCatch→Cp,wpAny_holding→Cr,compareOp→Cs,mainGlobals→Ct,cLine→Cy,SetTable→D3,Spec→D6,Stmt→Db,behindInMarks→Dd,Builtin→Df,wpAny_seqItems→Dk,codeAny→Dl,wpAny_pyNext_tuple_item→Do,assignEach→Dv,swapsWith→Dy,richCompare→Dz,wpAny_updateSeq→E3,wpAny_letGo→E4,wpAny_pyIter_tuple→E6,wpAny_Call_Name_kw→E7,attributeBase→Eb,FuncData→Ep,wpAny_passesOwn→Ex,Pos→F2,sysModules→F8,wpAny_pyNext_tuple_end→Fs,Keyword→Fu,wpAny_evalAll_cons→Fx,wpAny_loadPart'→Fy,wpAny_standAt→G7,seqItems?→G9,intKind→Ga,holding→Gb,binaryOp→Gd,bindArgs→Ge,NameKind→Gf,keywordEach→Gg,wpAny_of_eq→Gi,cellsFrom→Gn,updateSeq→Gq,wpAny_newList→Hb,builtinsNs→He,call_meets→Hf,tupleKind_room_in1→Hg,wpAny_field→Hl,wpAny_callSpecial?_slot→Hm,sliceBounds→Hn,wpAny_pyIter_list→Hr,wpAny_evalAll_nil→Hx,pyNext→Ic,wpAny_call_entry→Id,scanBound→Ig,wpAny_execs_nil→Iq,letOwnedTupleGo→Ir,codeAny_mono→Iw,codeAmong→Iz,Arguments→Ja,Paired→Jb,backToKw→Je,Obj→Ji,standAt→Jk,wpAny_pyIter_enum→Jn,Result→Js,wpAny_forIn_list→Jw,noFill_tuple_add→Jx,assign→Kg,concat_meets→Kh,getItem→Ki,wpAny_rule→Kl,defaultsOf→Ko,wpAny_ite_false→Kt,subscripted→Ky,wpAny_runValue→L1,relayAll→L4,tupleKind→L8,PassesOwn→L9,callerA→La,Fin→Ld,valueAt→Le,CmpOp→Lf,rangeSize_one→Lg,again→Lh,seq_tuple_add→Li,IsPart→Lp,Env→Ls,BindsTo→Lt,collect→Ly,call_meetsIn→M1,isSubtype→M2,Walks→M4,atKey→M5,Tok→M6,wpAny_Name→M7,truthy→M8,Operator→M9,pyIter→Ma,wpAny_load→Mb,wpAny_call→Mc,bindL→Md,bindC→Me,Meets→Mf,call→Mi,closureFor→Mj,compEnvC→Mk,newTuple→Mn,numAt_eq→Mo,argsOk→Mp
open PySem.W renaming Frag→A5,fnOf→Dm,kitOne→Er,kas_rev→Es,kas_place→Ez,kia_one→F0,kas_desc→F4,kas_descPart→F5,keepIn→Fh,codeIn→Hs,nsIn→Hv,kdv_fn→Hw,codeHdIn→If,kas_asc→Ij,methodObj→Jj,envX→Kq,OpenLaw→Kv,kas_tail3→Lb,kas_count→Lc,mg_of→Ll,KasT→Ms
open PySem.Heap renaming get?_push_of_some→Aa,lt_size→Am,get?_push_size→At,get?_update_other→B8,size_push→Cw,get?_update_self→E5,SameBut→F3,size_update→Gp
open Nat renaming le_refl→Ak,ne_of_lt→Ar,zero_le→Bf,lt_of_lt_of_le→Bg,le_trans→Bk,lt_succ_of_lt→C6,lt_trans→Cu,ne_of_gt→D0,le_of_lt→D8,lt_irrefl→Dj,le_succ→Dq,lt_succ_self→Dr,not_lt_zero→F1,lt_succ_iff_lt_or_eq→Fe,lt_trichotomy→I0,lt_of_le_of_lt→Jf,le_add_right→Ka,zero_add→M0,not_lt→Ml
open Int renaming toNat_natCast→Ao,eq_ofNat_of_zero_le→D9,min_eq_right→Fl,max_eq_right→Fm,min_eq_left→G5,max_eq_left→G6,toNat_of_nonneg→Gx,le_refl→Il,zero_add→Iy,natCast_nonneg→Jh,le_total→Kn
open Bool renaming and_eq_true→Ax,false_ne_true→B0,or_eq_true→E2,false_eq_true→E9,not_eq_true'→F6,and_false→Hu,or_false→Ii,eq_false_iff→Jm,false_or→Ju,true_and→Lm,true_or→Lz
open Array renaming length_toList→B4,getD_eq_getD_getElem?→Gc,getD→Kk
open Option.some renaming inj→Bc
open PyProof.Rows renaming seqObj→Be,IntsAre→C4,envOfC→D5,callWith_type1→Du,callWith_kw→Fc,slot_tuple_getitem→Ff,listUpdate_at→G8,envOfC→Is,AllBare→Iv,listItems_at→Ix,IsTup→Kx,SortKind→Kz,seqEpoch_at→L0,subscriptTail→Lj,size_push'→Lr,failedOf→Lw,Subscript_→Mh,keyKind'→Mm
open Prod renaming fst→Bj,snd→L6,ext→Mg
open Option renaming map_eq_some_iff→Bl,isSome_iff_exists→Ea,isSome_map→F7
open PySem.Builtin.Builtins renaming bindParams→Bm
open PySem.PassesOwn renaming never→Bp
open PySem.Str renaming ofString→Bq
open PySem.NameKind renaming free→Br,cell→De
open PySem.Around renaming under_plainId→Bx
open Sum renaming inl→C2,inr→Kf
open PySem.Value renaming none→C9,type→Cf,ref→Ef,int→Gm,notImplemented→Ik,str→L7,bool→Lo
open PySem.Obj renaming mapSeq→Ca,putSet→Kr
open PySem.SetTable renaming below→Cj,grown→Fn
open Pure renaming pure→Ck
open Ne renaming symm→Cl
open PySem.SeqAt renaming RcNeAt→Cz,EqAt→Fj,RcAt→Fo,EqAt→Ln
open PySem.F renaming plain_max_loop→D1,plainAttrs_list→Fk,args_tuple_add_2→Gz,entry_tuple_add→Hk,plainAttrs_dict→Hq,slot_tuple_add→Ht,entry_max_loop→Hy,plain_max→Jo,entry_max→Jp,kind_max→Kb
open Or renaming inr→D2,inl→Dw
open PySem.Heap.SameBut renaming update→Di
open MonadExcept renaming tryCatch→Ed
open ToString renaming toString→Ee
open List.Pairwise renaming nil→Eh,imp_of_mem→Fd
open ForInStep renaming yield→Ej
open PyProof.Rows.F renaming plain_set_update_loop→El
open PySem.Builtin.Slice renaming slicePlaces→Et,sliceAdjust→Gt
open PySem.Builtin.SmallTypes renaming nextOf→Ew
open Array.Perm renaming refl→Ey
open False renaming elim→F9
open PySem.Builtin.Tuple renaming tupleExact→Fa
open PySem.AutoSeq1 renaming wpAny_loadPart'→Fb
open Sum.inl renaming inj→Fp
open True renaming intro→Fw
open PySem.Data renaming seq→G0,fields→M3
open List.Perm renaming refl→Gj,swap→L5
open Prod.mk renaming inj→Gk
open List.Sublist renaming append→Gy,refl→Jq
open PySem.Builtin.List renaming listTooLong→Ha
open PySem.Builtin.Range renaming rangeSize→Hj
open PySem.SetTable.below renaming go→Hz
open Min renaming min→Ip
open PySem.Fin renaming again→Iu
open PySem.Paired renaming length→Jr
open Function renaming comp→Jt
open List.cons renaming inj→Jv
open Max renaming max→Lu
open PySem.W.KasT renaming ask→Lv
open PySem.SeqAt.EqAt renaming same→Mq
open Except renaming ok→Mr
namespace L2
open PySem PySem.Spec PyProof.Rows
abbrev Key:=Sum Int Bb
noncomputable def x0Y:Key->A8->Bool
 | .inl k,v=>A8.isInt k v
 | .inr x,v=>A8.isStrOf x v
noncomputable def w92(w:C8):Key->Int
 | .inl k=>hashInt k
 | .inr x=>hashStr w x
theorem z03:∀{k:Key} {v:A8},x0Y k v=true->(∃i t,k=C2 i/\v=Gm i t)∨(∃x t,k=Kf x/\v=L7 x t)
 | .inl i,v,h=>by obtain⟨t,e⟩:=A8.isInt_shape (k:=i) (v:=v) h;exact .inl ⟨i,t,rfl,e⟩
 | .inr x,v,h=>by obtain⟨t,e⟩:=A8.isStrOf_shape (x:=x) (v:=v) h;exact .inr ⟨x,t,rfl,e⟩
theorem x4V(i:Int)(t:M6):x0Y (.inl i) (.int i t)=true:=by simp[x0Y,A8.isInt]
theorem x4U(x:Bb)(t:M6):x0Y (.inr x) (.str x t)=true:=by simp[x0Y,A8.isStrOf]
theorem w5T(a b:Int):decide ((C2 a:Key)=C2 b)=(a==b):=by
 by_cases e:a=b
 ·subst e;simp
 ·have h:¬(C2 a:Key)=C2 b:=fun q=>e (Fp q);rw[decide_eq_false h];exact(beq_eq_false_iff_ne.mpr e).symm
theorem w5Q(a b:Bb):decide ((Kf a:Key)=Kf b)=decide (a=b):=by
 by_cases e:a=b
 ·subst e;simp
 ·have h:¬(Kf a:Key)=Kf b:=fun q=>e (Kf.inj q);rw[decide_eq_false h,decide_eq_false e]
theorem w5S(a:Int)(b:Bb):decide ((C2 a:Key)=Kf b)=false:=decide_eq_false (fun q=>nomatch q)
theorem w5R(a:Bb)(b:Int):decide ((Kf a:Key)=C2 b)=false:=decide_eq_false (fun q=>nomatch q)
def z0C(prog:Bo)(w:C8):PySem.KeyKind prog w Key where
 is:=x0Y
 hash:=w92 w
 inj:=fun v a b ha hb=>by
  rcases z03 ha with⟨i,t,rfl,rfl⟩|⟨x,t,rfl,rfl⟩
  ·rcases z03 hb with⟨j,u,rfl,e⟩|⟨y,u,rfl,e⟩
   ·injection e with e1 _;rw[e1]
   ·exact nomatch e
  ·rcases z03 hb with⟨j,u,rfl,e⟩|⟨y,u,rfl,e⟩
   ·exact nomatch e
   ·injection e with e1 _;rw[e1]
 byValue:=fun k v h=>by rcases z03 h with⟨i,t,rfl,rfl⟩|⟨x,t,rfl,rfl⟩<;>rfl
 pyHash:=fun hv h=>by
  rcases z03 hv with⟨i,t,rfl,rfl⟩|⟨x,t,rfl,rfl⟩
  ·exact wpAny_pyHash_int h
  ·exact wpAny_pyHash_str h
 eqBool:=fun hu hv h=>by
  rcases z03 hu with⟨i,t,rfl,rfl⟩|⟨x,t,rfl,rfl⟩
  ·rcases z03 hv with⟨j,u,rfl,rfl⟩|⟨y,u,rfl,rfl⟩
   ·rw[w5T]at h;exact wpAny_eqBool_int h
   ·rw[w5S]at h;exact Ln.int_str i t y u _ _ _ _ h
  ·rcases z03 hv with⟨j,u,rfl,rfl⟩|⟨y,u,rfl,rfl⟩
   ·rw[w5R]at h;exact Ln.str_int x t j u _ _ _ _ h
   ·rw[w5Q]at h;exact wpAny_eqBool_str h
 «strs»:=fun k x t v h=>by
  rcases z03 h with⟨i,u,rfl,e⟩|⟨y,u,rfl,e⟩
  ·exact nomatch e
  ·injection e with e1 _;subst e1;cases v<;>rfl
theorem y6P(prog:Bo)(w:C8)(i:Int)(t:M6):(z0C prog w).is (.inl i) (.int i t)=true:=x4V i t
theorem y6O(prog:Bo)(w:C8)(x:Bb)(t:M6):(z0C prog w).is (.inr x) (.str x t)=true:=x4U x t
inductive V where
 |non|bl (b:Bool)|int (i:Int)|str (x:Bb)|byt (b:Array UInt8)|flt (b:UInt64)|ref (a:Ap)|ty (n:String)
 deriving DecidableEq
noncomputable def z01:V->A8->Prop
 | .non,u=>u=C9
 | .bl b,u=>u=Lo b
 | .int i,u=>∃t,u=Gm i t
 | .str x,u=>∃t,u=L7 x t
 | .byt b,u=>∃t,u=A8.bytes b t
 | .flt b,u=>∃t,u=A8.float b t
 | .ref a,u=>u=Ef a
 | .ty n,u=>u=Cf n
abbrev Y3:List V->List A8->Prop:=Jb z01
theorem Y3.length{xs:List V}{us:List A8}(r:Y3 xs us):xs.length=us.length:=Jr r
theorem Y3.get:∀{xs:List V} {us:List A8} {i:Nat} {x:V},Y3 xs us->xs[i]?=some x->∃u,us[i]?=some u/\z01 x u
 |_,_,_,_,.nil,e=>by simp at e
 |_,_,0,_,.cons r _,e=>by simp at e;subst e;exact⟨_,rfl,r⟩
 |_,_,i+1,x,.cons _ t,e=>by obtain⟨u,h1,h2⟩:=Y3.get (i:=i) (x:=x) t (by simpa using e);exact⟨u,by simpa using h1,h2⟩
theorem Y3.append:∀{xs ys:List V} {us ws:List A8},Y3 xs us->Y3 ys ws->Y3 (xs++ys) (us++ws)
 |_,_,_,_,.nil,s=>s
 |_,_,_,_,.cons r t,s=>.cons r (Y3.append t s)
theorem Y3.take:∀{xs:List V} {us:List A8} (n:Nat),Y3 xs us->Y3 (xs.take n) (us.take n)
 |_,_,0,_=>.nil
 |_,_,_+1,.nil=>.nil
 |_,_,n+1,.cons r t=>.cons r (Y3.take n t)
theorem Y3.drop:∀{xs:List V} {us:List A8} (n:Nat),Y3 xs us->Y3 (xs.drop n) (us.drop n)
 |_,_,0,r=>r
 |_,_,_+1,.nil=>.nil
 |_,_,n+1,.cons _ t=>Y3.drop n t
def x28:Option V->Option A8->Prop
 |some v,some u=>z01 v u
 |none,none=>True
 |_,_=>False
def KV{κ:Type}:List (κ×V)->List (κ×A8)->Prop:=Jb fun (p:κ×V) (q:κ×A8)=>p.1=q.1/\z01 p.2 q.2
noncomputable def kV:Key->V
 | .inl i=>.int i
 | .inr x=>.str x
inductive HO where
 /-- a list -/
 |lst (xs:List V)
 /-- a tuple (never changes) -/
 |tup (xs:List V)
 /-- a dict whose keys are ints and texts;one whose keys are tuples of ints and texts (the empty one is gc) -/
 |dK (kvs:List (Key×V))|dT (kvs:List (List Key×V))
 /-- a set of ints: its members,its size -/
 |set (S:Int->Bool) (n:Nat)
 /-- an instance of the class at C,its dict at dx,its attributes -/
 |ins (C dx:Ap) (fs:List (Bb×V))
 /-- the dict of the instance at x -/
 |own (x:Ap)
 /-- the dict of an exception -/
 |xd (fs:List (Bb×V))
 /-- a bound method,f of x -/
 |met (f x:Ap)
 /-- a range object lo,lo+1,.. below hi -/
 |rng (lo hi:Int)
 /-- a thing that is known to the object (the script;a dict while a cT walks it): read,never written while it is so -/
 |frz (o:Ji) (u:HO)
 /-- a code object's table -/
 |tbl (ps:Array A8)
 /-- any other thing,by what is true of its one object (a def of one's own: SetO a S n:=HO.ext fun h=>..) -/
 |ext (φ:C5->Prop)
abbrev Hp:=Ap->Option HO
noncomputable def upd(H:Hp)(a:Ap)(o:HO):Hp:=fun b=>if b=a then some o else H b
theorem x9{H:Hp}{a:Ap}{o:HO}:upd H a o a=some o:=by unfold upd;rw[if_pos rfl]
theorem u8{H:Hp}{a b:Ap}{o:HO}(h:b≠a):upd H a o b=H b:=by unfold upd;rw[if_neg h]
theorem w7C{H:Hp}{a b:Ap}{o u:HO}(h:H a=some o)(h':H b=some u)(d:o≠u):a≠b:=by intro e;subst e;rw[h]at h';exact d (Bc h')
theorem W1{H:Hp}{a b:Ap}{o:HO}(h:H a=some o)(h':H b=none):a≠b:=by intro e;subst e;rw[h]at h';cases h'
noncomputable def x2U(ps:Array A8):Bb:=match (ps[0]?:Option A8) with|some (L7 q _)=>q++".<locals>."++"<lambda>" |_=>"<lambda>"
def x6T(h:C5)(a:Ap)(items:Array A8):Prop:=∃o,h.get? a=some o/\o.cls = .type "tuple"/\(∃n,o.data = .seq items n)/\o.dict=none
theorem x6T.isTup{h:C5}{a:Ap}{items:Array A8}(x:x6T h a items):Kx h a items:=let ⟨o,e,c,d,_⟩:=x;⟨o,e,c,d⟩
theorem x6T.new(h:C5)(items:Array A8):x6T (h.push { cls:=.type "tuple",data:=.seq items }) h.objs.size items:=⟨_,At _ rfl,rfl,⟨_,rfl⟩,rfl⟩
section
variable(P:Bo)(w:C8)
def z1D(H:Hp)(h:C5)(a:Ap):HO->Prop
 | .lst xs=>xs.length≤sizeLine/\∃(its:List A8) (n:Nat),Y3 xs its/\h.get? a=some { cls:=.type "list",data:=.seq its.toArray n }
 | .tup xs=>xs.length≤sizeLine/\∃its:List A8,Y3 xs its/\x6T h a its.toArray
 | .dK kvs=>kvs.length≤sizeLine/\(a==F8)=false/\∃vs,KV kvs vs/\h.DictOf (z0C P w) a vs
 | .dT kvs=>kvs.length≤sizeLine/\(a==F8)=false/\∃xs:List (List Key×Ap×A8),
   Jb (fun (p:List Key×V) (q:List Key×Ap×A8)=>p.1=q.1/\H q.2.1=some (.tup (p.1.map kV))/\z01 p.2 q.2.2) kvs xs /\
   ∃o es ep,h.get? a=some o/\o.ExactDict/\o.data = .dict es ep/\es.toList=xs.map (entryOfKey (L8 (z0C P w)))/\(xs.map (·.1)).Nodup
 | .set S n=>h.SetOf (Ga P w) a S n
 | .ins C dx fs=>H dx=some (.own a)/\fs.length≤1000/\dx≠a/\h.get? a=some (PySem.W.instObj C dx) /\
   ∃mA,h.Ns1 dx mA/\(∀f,x28 (fs.lookup f) (mA f))/\PySem.Within mA (fs.map (·.1))
 | .own _=>∃o,h.get? a=some o
 | .xd fs=>∃mA,h.Ns1 a mA/\∀f,x28 (fs.lookup f) (mA f)
 | .rng lo hi=>∃t u v,h.get? a=some { cls:=.type "range",data:=.fields #[.int lo t,.int hi u,.int 1 v] }
 | .frz o u=>h.get? a=some o/\z1D H h a u
 | .tbl ps=>∃qs:Array A8,h.get? a=some { cls:=.none,data:=.fields qs }/\TriplesOk qs.toList/\∀(p:F2) (v:A8),Iz p qs.toList=some v->∃(c:Ap) (oc:Ji) (vs:Array A8) (t:M6),v = .ref c/\H c=some (.frz oc (.own a))/\oc.data = .fields vs/\vs[1]?=some (.str (x2U ps) t)
 | .met f x=>h.get? a=some (Jj (.ref f) (.ref x))
 | .ext φ=>φ h/\(∃o,h.get? a=some o)/\∀h1 h2:C5,φ h1->(∀o,h1.get? a=some o->h2.get? a=some o)->φ h2
def HOk(H:Hp)(h:C5):Prop:=∀a o,H a=some o->z1D P w H h a o
end
section
variable{P:Bo}{w:C8}{H H':Hp}{h h':C5}{a:Ap}{o:HO}
theorem z1D.lt(x:z1D P w H h a o):a<h.objs.size:=by
 cases o with
 |lst xs=>obtain⟨_,_,_,_,e⟩:=x;exact Am e
 |tup xs=>obtain⟨_,_,_,p⟩:=x;exact p.isTup.lt
 |dK kvs=>obtain⟨_,_,_,_,o,_,_,e,_⟩:=x;exact Am e
 |dT kvs=>obtain⟨_,_,_,_,o,_,_,e,_⟩:=x;exact Am e
 |set S n=>obtain⟨o,_,_,_,e,_⟩:=x;exact Am e
 |ins C dx fs=>obtain⟨_,_,_,e,_⟩:=x;exact Am e
 |own y=>obtain⟨_,e⟩:=x;exact Am e
 |xd fs=>obtain⟨_,⟨_,_,_,e,_⟩,_⟩:=x;exact Am e
 |rng lo hi=>obtain⟨_,_,_,e⟩:=x;exact Am e
 |frz ob u=>obtain⟨e,_⟩:=x;exact Am e
 |tbl ps=>obtain⟨_,e,_⟩:=x;exact Am e
 |met f y=>exact Am (show h.get? a=some _ from x)
 |ext φ=>obtain⟨_,⟨_,e⟩,_⟩:=x;exact Am e
theorem Jb.mapP{α β:Type}{F G:α->β->Prop}:∀{l₁:List α} {l₂:List β},Jb F l₁ l₂->(∀a b,F a b->G a b)->Jb G l₁ l₂
 |_,_,.nil,_=>.nil
 |_,_,.cons r t,f=>.cons (f _ _ r) (Jb.mapP t f)
theorem z1D.stay(x:z1D P w H h a o)(k:∀b u,(b=a∨H b=some (.own a))->h.get? b=some u->h'.get? b=some u)(ho:∀b,H b=some (.own a)->H' b=some (.own a))(ht:∀b xs,H b=some (.tup xs)->H' b=some (.tup xs))(hz:∀b ob u,H b=some (.frz ob u)->H' b=some (.frz ob u)):z1D P w H' h' a o:=by
 induction o with
 |lst xs=>obtain⟨z,its,n,r,e⟩:=x;exact⟨z,its,n,r,k _ _ (.inl rfl) e⟩
 |tup xs=>obtain⟨z,its,r,ob,e,c⟩:=x;exact⟨z,its,r,ob,k _ _ (.inl rfl) e,c⟩
 |dK kvs=>obtain⟨z,y,vs,r,ob,es,ep,e,c⟩:=x;exact⟨z,y,vs,r,ob,es,ep,k _ _ (.inl rfl) e,c⟩
 |dT kvs=>obtain⟨z,y,xs,r,ob,es,ep,e,c⟩:=x;exact⟨z,y,xs,Jb.mapP r fun p q z=>⟨z.1,ht _ _ z.2.1,z.2.2⟩,ob,es,ep,k _ _ (.inl rfl) e,c⟩
 |set S n=>obtain⟨ob,es,ep,t,e,c⟩:=x;exact⟨ob,es,ep,t,k _ _ (.inl rfl) e,c⟩
 |ins C dx fs=>obtain⟨d,z,ne,e,mA,⟨od,es,ep,e2,c⟩,r⟩:=x;exact⟨ho _ d,z,ne,k _ _ (.inl rfl) e,mA,⟨od,es,ep,k _ _ (.inr d) e2,c⟩,r⟩
 |own y=>obtain⟨ob,e⟩:=x;exact⟨ob,k _ _ (.inl rfl) e⟩
 |xd fs=>obtain⟨mA,⟨od,es,ep,e,c⟩,r⟩:=x;exact⟨mA,⟨od,es,ep,k _ _ (.inl rfl) e,c⟩,r⟩
 |rng lo hi=>obtain⟨t,u,v,e⟩:=x;exact⟨t,u,v,k _ _ (.inl rfl) e⟩
 |frz ob u ih=>obtain⟨e,q⟩:=x;exact⟨k _ _ (.inl rfl) e,ih q⟩
 |tbl ps=>obtain⟨qs,e,t,c⟩:=x;exact⟨qs,k a _ (.inl rfl) e,t,fun p v q=>let ⟨c',oc,vs,tk,z1,z2,z3⟩:=c p v q;⟨c',oc,vs,tk,z1,hz _ _ _ z2,z3⟩⟩
 |met f y=>have e:h.get? a=some (Jj (.ref f) (.ref y)):=x;show h'.get? a=some (Jj (.ref f) (.ref y));exact k a _ (.inl rfl) e
 |ext φ=>obtain⟨p,⟨o,e⟩,st⟩:=x;exact⟨st _ _ p fun o q=>k _ _ (.inl rfl) q,⟨o,k _ _ (.inl rfl) e⟩,st⟩
theorem HOk.lt(x:HOk P w H h)(e:H a=some o):a<h.objs.size:=(x a o e).lt
theorem HOk.fresh(x:HOk P w H h)(e:h.objs.size≤a):H a=none:=by
 cases q:H a with
 |none=>rfl
 |some u=>exact absurd (Bg (x.lt q) e) (Dj _)
theorem HOk.kept(x:HOk P w H h)(k:∀b u,h.get? b=some u->h'.get? b=some u):HOk P w H h':=fun a o e=>(x a o e).stay (fun b u _ q=>k b u q) (fun _ q=>q) (fun _ _ q=>q) fun _ _ _ q=>q
theorem HOk.laid(x:HOk P w H h)(k:∀b u,h.get? b=some u->h'.get? b=some u)(hp:h.objs.size≤a)(new:z1D P w (upd H a o) h' a o):HOk P w (upd H a o) h':=fun b u e=>by
 have hn:=x.fresh hp;by_cases hb:b=a
 ·subst hb;rw[x9]at e;cases e;exact new
 ·rw[u8 hb]at e
  exact(x b u e).stay (fun c v _ q=>k c v q) (fun c q=>by rw[u8 (W1 q hn)];exact q) (fun c xs q=>by rw[u8 (W1 q hn)];exact q) fun c ob xs q=>by rw[u8 (W1 q hn)];exact q
end
def Rd(H:Hp)(a:Ap)(u:HO):Prop:=H a=some u∨∃o,H a=some (.frz o u)
theorem Rd.of{H:Hp}{a:Ap}{u:HO}(h:H a=some u):Rd H a u:=.inl h
theorem Rd.ok{P:Bo}{w:C8}{H:Hp}{h:C5}{a:Ap}{u:HO}(r:Rd H a u)(x:HOk P w H h):z1D P w H h a u:=by
 rcases r with r|⟨o,r⟩
 ·exact x a u r
 ·obtain⟨_,q⟩:=x a _ r;exact q
noncomputable def Mut:Option HO->Prop
 |some (.lst _)=>True
 |some (.dK _)=>True
 |some (.dT _)=>True
 |some (.set _ _)=>True
 |some (.ins _ _ _)=>True
 |some (.ext _)=>True
 |_=>False
section
variable{P:Bo}{w:C8}{H:Hp}{h h':C5}{x e:Ap}{o':HO}
theorem HOk.write(ok:HOk P w H h)(mu:Mut (H x))(he:e=x∨H e=some (.own x))(k:∀b u,b≠e->h.get? b=some u->h'.get? b=some u)(gO:∃u,h'.get? e=some u)(new:z1D P w (upd H x o') h' x o'):HOk P w (upd H x o') h':=fun b u q=>by
 have jf:∀c y,H c=some (.own y)->c≠x:=fun c y r z=>by subst z;rw[r]at mu;exact mu
 have ntup:∀c xs,H c=some (.tup xs)->c≠x:=fun c xs r z=>by subst z;rw[r]at mu;exact mu
 have nfrz:∀c ob u,H c=some (.frz ob u)->c≠x:=fun c ob u r z=>by subst z;rw[r]at mu;exact mu
 by_cases hb:b=x
 ·subst hb;rw[x9]at q;cases q;exact new
 ·rw[u8 hb]at q;by_cases fU:b=e
  ·have q':H b=some (.own x):=by
    rcases he with z|z
    ·exact absurd (fU.trans z) hb
    ·rw[fU];exact z
   rw[q]at q';cases q';obtain⟨v,hv⟩:=gO;exact⟨v,by rw[fU];exact hv⟩
  ·refine(ok b u q).stay (fun c v hc r=>k c v ?_ r) (fun c r=>by rw[u8 (jf c b r)];exact r) (fun c xs r=>by rw[u8 (ntup c xs r)];exact r) fun c ob xs r=>by rw[u8 (nfrz c ob xs r)];exact r
   rcases hc with rfl|hc
   ·exact fU
   ·rintro rfl;rcases he with z|z
    ·exact jf c b hc z
    ·rw[hc]at z;cases z;exact hb rfl
end
structure Un(fs ex:List Ap)(H H':Hp)(h h':C5):Prop where
 keep:∀b o,h.get? b=some o->H b=none->b∉fs->b∉ex->h'.get? b=some o
 slot:∀b o,h.get? b=some o->H b=none->b∈fs->b∉ex->∃sl,h'.get? b=some { o with slots:=sl }
 free:∀b o,h.get? b=some o->H b=none->b∉ex->H' b=none
 there:∀b o,h.get? b=some o->b∉ex->∃o',h'.get? b=some o'
 tups:∀b xs,H b=some (.tup xs)->H' b=some (.tup xs)
 frzs:∀b o u,H b=some (.frz o u)->H' b=some (.frz o u)
 tbls:∀b ps,H b=some (.tbl ps)->∃more,H' b=some (.tbl (ps++more))
section
variable{fs fs' ex ex':List Ap}{H H1 H2:Hp}{h h1 h2 h':C5}{a x e:Ap}{o:HO}
theorem Un.any(u:Un fs ex H H1 h h1){b:Ap}{ob:Ji}(q:h.get? b=some ob)(n:H b=none)(hx:b∉ex):∃sl,h1.get? b=some { ob with slots:=sl }:=by
 by_cases hb:b∈fs
 ·exact u.slot b ob q n hb hx
 ·exact⟨ob.slots,u.keep b ob q n hb hx⟩
theorem Un.trans(a:Un fs ex H H1 h h1)(b:Un fs ex H1 H2 h1 h2):Un fs ex H H2 h h2 where
 keep:=fun c ob q n hc hx=>b.keep c ob (a.keep c ob q n hc hx) (a.free c ob q n hx) hc hx
 slot:=fun c ob q n hc hx=>by obtain⟨sl,e1⟩:=a.slot c ob q n hc hx;obtain⟨sl',e2⟩:=b.slot c _ e1 (a.free c ob q n hx) hc hx;exact⟨sl',e2⟩
 free:=fun c ob q n hx=>by obtain⟨o',e1⟩:=a.there c ob q hx;exact b.free c o' e1 (a.free c ob q n hx) hx
 there:=fun c ob q hx=>by obtain⟨o',e1⟩:=a.there c ob q hx;exact b.there c o' e1 hx
 tups:=fun c xs q=>b.tups c xs (a.tups c xs q)
 frzs:=fun c ob xs q=>b.frzs c ob xs (a.frzs c ob xs q)
 tbls:=fun c ps q=>by obtain⟨m1,e1⟩:=a.tbls c ps q;obtain⟨m2,e2⟩:=b.tbls c _ e1;exact⟨m1++m2,by rw[e2,Array.append_assoc]⟩
theorem Un.kept(k:∀b u,h.get? b=some u->h'.get? b=some u):Un fs ex H H h h':=
 ⟨fun b ob q _ _ _=>k b ob q,fun b ob q _ _ _=>⟨ob.slots,k b ob q⟩,fun _ _ _ n _=>n,fun b ob q _=>⟨ob,k b ob q⟩,fun _ _ q=>q,fun _ _ _ q=>q,fun _ ps q=>⟨#[],by rw[q];simp⟩⟩
theorem Un.refl:Un fs ex H H h h:=Un.kept fun _ _ q=>q
theorem Un.laid(k:∀b u,h.get? b=some u->h'.get? b=some u)(hp:h.objs.size≤a)(hn:H a=none):Un fs ex H (upd H a o) h h' where
 keep:=fun b u q _ _ _=>k b u q
 slot:=fun b u q _ _ _=>⟨u.slots,k b u q⟩
 free:=fun b u q n _=>by rw[u8 (Ar (Bg (Am q) hp))];exact n
 there:=fun b u q _=>⟨u,k b u q⟩
 tups:=fun b xs q=>by rw[u8 (W1 q hn)];exact q
 frzs:=fun b u xs q=>by rw[u8 (W1 q hn)];exact q
 tbls:=fun b ps q=>⟨#[],by rw[u8 (W1 q hn),q];simp⟩
theorem Un.write(mu:Mut (H x))(he:e=x∨H e=some (.own x))(k:∀b u,b≠e->h.get? b=some u->h'.get? b=some u)(gO:∃u,h'.get? e=some u):Un fs ex H (upd H x o) h h':=by
 have hx:∀b,H b=none->b≠x:=fun b n z=>by subst z;rw[n]at mu;exact mu
 have hb:∀b,H b=none->b≠e:=fun b n z=>by
  subst z;rcases he with r|r
  ·exact hx b n r
  ·rw[n]at r;cases r
 have hm:∀b u,H b=some u->¬Mut (some u)->b≠x:=fun b u q nm z=>by subst z;rw[q]at mu;exact nm mu
 refine⟨fun b u q n _ _=>k b u (hb b n) q,fun b u q n _ _=>⟨u.slots,k b u (hb b n) q⟩,fun b u q n _=>by rw[u8 (hx b n)];exact n,fun b u q _=>?_,
  fun b xs q=>by rw[u8 (hm b _ q fun z=>z)];exact q,fun b u xs q=>by rw[u8 (hm b _ q fun z=>z)];exact q,fun b ps q=>⟨#[],by rw[u8 (hm b _ q fun z=>z),q];simp⟩⟩
 by_cases fU:b=e
 ·subst fU;exact gO
 ·exact⟨u,k b u fU q⟩
theorem Un.mono(u:Un fs ex H H1 h h1)(hs:∀b∈fs,b∈fs')(hx:∀b∈ex,b∈ex'):Un fs' ex' H H1 h h1:=
 ⟨fun b ob q n hb he=>u.keep b ob q n (fun z=>hb (hs b z)) fun z=>he (hx b z),fun _ _ q n _ he=>u.any q n fun z=>he (hx _ z),fun b ob q n he=>u.free b ob q n fun z=>he (hx b z),fun b ob q he=>u.there b ob q fun z=>he (hx b z),u.tups,u.frzs,u.tbls⟩
end
noncomputable def trk(h:C5)(H:Hp):List Ap:=(A9 h.objs.size).filter fun a=>(H a).isSome
def x8E(h:C5)(H:Hp):C5:=PySem.W.hideAll h (trk h H)
theorem x56(h:C5)(H:Hp):(x8E h H).objs.size=h.objs.size:=PySem.W.hideAll_size _ _
theorem x8D{h:C5}{H:Hp}{b:Ap}{o:Ji}(e:h.get? b=some o)(n:H b=none):(x8E h H).get? b=some o:=PySem.W.hideAll_get _ e fun hm=>by have q:(H b).isSome=true:=(B2.mp hm).2;rw[n]at q;simp at q
theorem w22{h:C5}{H:Hp}{b:Ap}{o:Ji}(e:(x8E h H).get? b=some o):h.get? b=some o/\H b=none:=by
 have e':h.get? b=some o:=PySem.W.of_hideAll (trk h H) e;refine⟨e',?_⟩
 cases q:H b with
 |none=>rfl
 |some x=>have hm:b∈trk h H:=B2.mpr ⟨Aj.mpr (Am e'),by simp[q]⟩;have z:(x8E h H).get? b=none:=PySem.W.hideAll_none (trk h H) hm;rw[z]at e;cases e
noncomputable def w3E(g h:C5)(L:Ap):Pns:=(A9 h.objs.size).filterMap fun a=>if a=L∨(g.get? a).isSome=true then none else (h.get? a).map fun o=>(a,o)
def rest(g h:C5)(L d:Ap):Pns:=(w3E g h L).filter fun p=>decide (p.1≠d)
structure Mod(K:A5)(mg:Bb->Option A8)(base:C5):Prop where
 kin:K.In base
 glob:base.Ns Ct mg
 blt:∃mb,base.Ns He mb/\∀x:Bb,x≠"__name__"->mb x=B5 x
 nolimit:base.NoLimit
 bm:∃bm ob,mg "__builtins__" = some (.ref bm)/\bm≠He/\base.get? bm=some ob/\ob.cls = .type "module"/\ob.dict=some He/\ob.data = .plain
structure Cx where
 prog:Bo
 w:C8
 K:A5
 mg:Bb->Option A8
 base:C5
 A:By
 N:List Bb
 s₀:Ah
 H₀:Hp
 env:Ls
 outer:List Ls
 stack:List Ls
 ex:List Ap
 fn:Bb->Bool
 calm:Bool
 pn:Pns
 xe:VP
noncomputable def frs(l:List Ls):List Ap:=l.filterMap (·.frame)
abbrev Cx.fs(X:Cx):List Ap:=frs X.outer
def Vis(sc:Scope)(x:Bb):Prop:=sc.names.lookup x=some .local∨sc.names.lookup x=some .cell∨sc.names.lookup x=some .free
def Loc(sc:Scope)(x:Bb):Prop:=sc.names.lookup x=some .local∨sc.names.lookup x=some .cell
def w9A(env:Ls)(h:C5)(m:Bb->Option A8)(x:Bb)(u:A8):Prop:=(env.kindOf x=some .local/\m x=some u)∨((env.kindOf x=some .cell∨env.kindOf x=some .free)/\∃c,env.cells.lookup x=some c/\h.IsCell c (some u))
structure Cx.Ok(X:Cx):Prop where
 mod:Mod X.K X.mg X.base
 kind:X.env.scope.kind = .function
 glob:X.env.globals=Ct
 blt:X.env.builtins=He
 above:X.s₀.heap.objs.size≤X.env.locals
 inj:∀x y c,X.env.cells.lookup x=some c->X.env.cells.lookup y=some c->x=y
 has:∀x,(X.env.kindOf x=some .cell∨X.env.kindOf x=some .free)->∃c,X.env.cells.lookup x=some c
 cab:∀x c,X.fn x=true->X.env.cells.lookup x=some c->X.s₀.heap.objs.size≤c
 hd:X.calm=true->X.A.handled=none
 frames:X.A.frames=some X.stack
 stk:X.stack=X.outer∨(X.stack=X.env::X.outer/\X.env.frame=some X.env.locals)
 exf:∀b∈X.ex,b≠X.env.locals/\∀x c,X.env.cells.lookup x=some c->c≠b
 bs:∀b o,X.base.get? b=some o->X.s₀.heap.get? b=some o/\X.H₀ b=none
 bsz:X.base.objs.size≤X.s₀.heap.objs.size
 noex:∀b o,X.base.get? b=some o->b∉X.ex
 exfs:∀b∈X.ex,b∉X.fs
 funs:X.s₀.heap.FunFrames X.base X.outer
 frf:∀b∈X.fs,X.H₀ b=none
structure Inv(X:Cx)(aa:Pns)(σ:List (Option V))(H:Hp)(s:Ah):Prop where
 ok:X.Ok
 os:s.os=X.s₀.os
 bare:Iv s.gens
 base:Un X.fs X.ex X.H₀ H X.s₀.heap s.heap
 loc:∃m,s.heap.Ns X.env.locals m/\∀(i:Nat) (x:Bb) (v:V),X.N[i]?=some x->σ[i]?=some (some v)->Vis X.env.scope x->∃u,z01 v u/\w9A X.env s.heap m x u
 cell:∀x c,X.env.cells.lookup x=some c->∃v,s.heap.IsCell c v
 free:H X.env.locals=none
 freeC:∀x c,X.env.cells.lookup x=some c->H c=none
 pin:∀p∈X.pn++aa,s.heap.get? p.1=some p.2/\H p.1=none/\p.1≠X.env.locals/\p.1∉X.fs/\∀v,p.2.data≠.cell v
 hok:HOk X.prog X.w H s.heap
 len:σ.length=X.N.length
section
variable{X:Cx}{aa:Pns}{σ:List (Option V)}{H H':Hp}{s:Ah}{h':C5}
theorem Cx.Ok.nofr(ok:X.Ok){b:Ap}{o:Ji}(e:X.base.get? b=some o):b∉X.fs:=fun hb=>by
 have:=(ok.funs.mem hb).1
 rw[e]at this;cases this
theorem Inv.bs(I:Inv X aa σ H s):∀b o,X.base.get? b=some o->s.heap.get? b=some o/\H b=none:=fun b o e=>
 ⟨I.base.keep b o (I.ok.bs b o e).1 (I.ok.bs b o e).2 (I.ok.nofr e) (I.ok.noex b o e),I.base.free b o (I.ok.bs b o e).1 (I.ok.bs b o e).2 (I.ok.noex b o e)⟩
theorem Inv.bk(I:Inv X aa σ H s):∀b o,X.base.get? b=some o->s.heap.get? b=some o:=fun b o e=>(I.bs b o e).1
theorem Inv.mod(I:Inv X aa σ H s):Mod X.K X.mg X.base:=I.ok.mod
theorem Inv.kIn(I:Inv X aa σ H s):X.K.In s.heap:=I.ok.mod.kin.keeps I.bk
theorem Inv.nolimit(I:Inv X aa σ H s):s.heap.NoLimit:=I.ok.mod.nolimit.keeps I.bk
theorem Inv.lt(I:Inv X aa σ H s):X.env.locals<s.heap.objs.size:=let ⟨_,hn,_⟩:=I.loc;hn.lt
theorem Inv.sz(I:Inv X aa σ H s):X.s₀.heap.objs.size≤s.heap.objs.size:=Bk I.ok.above (D8 I.lt)
theorem Inv.nofs(I:Inv X aa σ H s){a:Ap}(h:s.heap.objs.size≤a):a∉X.fs:=fun hb=>by obtain⟨_,o,ho,_⟩:=I.ok.funs.mem hb;exact absurd (Bg (Am ho) (Bk I.sz h)) (Dj _)
theorem Inv.cne(I:Inv X aa σ H s):∀x c,X.env.cells.lookup x=some c->c≠X.env.locals:=fun x c e z=>by obtain⟨v,o,ho,hd⟩:=I.cell x c e;obtain⟨m,⟨o',es,ep,bU,bS,_⟩,_⟩:=I.loc;rw[z,bU]at ho;cases ho;rw[bS]at hd;cases hd
theorem Inv.funs(I:Inv X aa σ H s):s.heap.FunFrames X.base X.outer:=by
 have all:∀(l:List Ls),(∀b∈frs l,b∈X.fs)->X.s₀.heap.FunFrames X.base l->s.heap.FunFrames X.base l:=by
  intro l
  induction l with
  |nil=>intro _ _;trivial
  |cons env r ih=>
   intro hs hl;obtain⟨hk,⟨L,o,hf,hn,ho,hd⟩,hr⟩:=hl;have hL:L∈X.fs:=hs L (by unfold frs;rw[Gw,hf];exact A6)
   obtain⟨sl,e⟩:=I.base.slot L o ho (I.ok.frf L hL) hL fun z=>I.ok.exfs L z hL;exact⟨hk,⟨L,_,hf,hn,e,hd⟩,ih (fun b hb=>hs b (by unfold frs;rw[Gw,hf];exact A7 _ hb)) hr⟩
 exact all X.outer (fun _ hb=>hb) I.ok.funs
theorem Inv.stack(I:Inv X aa σ H s):s.heap.FunFrames X.base X.stack:=by
 rcases I.ok.stk with e|⟨e,hf⟩
 ·rw[e];exact I.funs
 ·rw[e];obtain⟨m,hn,_⟩:=I.loc;refine .cons (by rw[I.ok.kind];decide) hf hn ?_ I.funs
  exact C5.get?_none_of_le (Bk I.ok.bsz I.ok.above)
theorem Inv.stkSub(I:Inv X aa σ H s):∀b∈frs X.stack,b∈X.env.locals::X.fs:=fun b hb=>by
 rcases I.ok.stk with e|⟨e,hf⟩
 ·rw[e]at hb;exact A7 _ hb
 ·rw[e]at hb;unfold frs at hb;rw[Gw,hf]at hb;exact hb
theorem Inv.stkFree(I:Inv X aa σ H s):∀b∈frs X.stack,H b=none:=fun b hb=>by
 rcases Af.mp (I.stkSub b hb) with e|hb
 ·rw[e];exact I.free
 ·obtain⟨_,o,ho,_⟩:=I.ok.funs.mem hb;exact I.base.free b o ho (I.ok.frf b hb) fun z=>I.ok.exfs b z hb
theorem Inv.stepN{g':Array GenState}{t':Nat}{d':Drawn}{ch:List Ap}(I:Inv X aa σ H s)(bT:∀b∈ch,(b∈X.ex∨X.s₀.heap.get? b=none)/\b≠X.env.locals/\(∀x c,X.env.cells.lookup x=some c->c≠b)/\∀p∈X.pn++aa,p.1≠b)(keep:∀b o,b≠X.env.locals->b∉X.fs->b∉ch->s.heap.get? b=some o->H b=none->h'.get? b=some o)(slot:∀b o,b≠X.env.locals->b∈X.fs->b∉ch->s.heap.get? b=some o->H b=none->∃sl,h'.get? b=some { o with slots:=sl })(free:∀b o,b∉ch->s.heap.get? b=some o->H b=none->H' b=none)(there:∀b o,b∉ch->s.heap.get? b=some o->∃o',h'.get? b=some o')(tups:∀b xs,H b=some (.tup xs)->H' b=some (.tup xs))(frzs:∀b o u,H b=some (.frz o u)->H' b=some (.frz o u))(tbls:∀b ps,H b=some (.tbl ps)->∃more,H' b=some (.tbl (ps++more)))(ns:∀m,s.heap.Ns X.env.locals m->h'.Ns X.env.locals m)(hok:HOk X.prog X.w H' h')(hg:Iv g'):
  Inv X aa σ H' { s with heap:=h',gens:=g',drawn:=d',toks:=t' }:=by
 have neL:∀b o,X.s₀.heap.get? b=some o->b≠X.env.locals:=fun b o e=>Ar (Bg (Am e) I.ok.above)
 have dU:∀b o,X.s₀.heap.get? b=some o->b∉X.ex->b∉ch:=fun b o e hx hb=>by
  rcases (bT b hb).1 with z|z
  ·exact hx z
  ·rw[z]at e;cases e
 have fg:∀x c,X.env.cells.lookup x=some c->∀v,s.heap.IsCell c v->h'.IsCell c v:=fun x c e v h_=>by
  obtain⟨o,ho,hd⟩:=h_;have fw:c∉ch:=fun z=>(bT c z).2.2.1 x c e rfl;by_cases hc:c∈X.fs
  ·obtain⟨sl,q⟩:=slot c o (I.cne x c e) hc fw ho (I.freeC x c e);exact⟨_,q,hd⟩
  ·exact⟨o,keep c o (I.cne x c e) hc fw ho (I.freeC x c e),hd⟩
 refine⟨I.ok,I.os,hg,⟨fun b o e n hb hx=>?_,fun b o e n hb hx=>?_,fun b o e n hx=>?_,fun b o e hx=>?_,fun b xs e=>tups b xs (I.base.tups b xs e),fun b o xs e=>frzs b o xs (I.base.frzs b o xs e),fun b ps e=>?_⟩,?_,fun x c e=>?_,?_,fun x c e=>?_,fun p hp=>?_,hok,I.len⟩
 ·exact keep b o (neL b o e) hb (dU b o e hx) (I.base.keep b o e n hb hx) (I.base.free b o e n hx)
 ·obtain⟨sl,e1⟩:=I.base.slot b o e n hb hx;obtain⟨sl',e2⟩:=slot b _ (neL b o e) hb (dU b o e hx) e1 (I.base.free b o e n hx);exact⟨sl',e2⟩
 ·obtain⟨o',e1⟩:=I.base.there b o e hx;exact free b o' (dU b o e hx) e1 (I.base.free b o e n hx)
 ·obtain⟨o',e1⟩:=I.base.there b o e hx;exact there b o' (dU b o e hx) e1
 ·obtain⟨m1,e1⟩:=I.base.tbls b ps e;obtain⟨m2,e2⟩:=tbls b _ e1;exact⟨m1++m2,by rw[e2,Array.append_assoc]⟩
 ·obtain⟨m,hn,hl⟩:=I.loc;refine⟨m,ns m hn,fun i x v e1 e2 e3=>?_⟩;obtain⟨u,r,l⟩:=hl i x v e1 e2 e3;refine⟨u,r,?_⟩;rcases l with l|⟨k,c,e,z⟩
  ·exact .inl l
  ·exact .inr ⟨k,c,e,fg x c e _ z⟩
 ·obtain⟨v,z⟩:=I.cell x c e;exact⟨v,fg x c e v z⟩
 ·obtain⟨m,⟨o,_,_,ho,_⟩,_⟩:=I.loc;exact free _ o (fun z=>(bT _ z).2.1 rfl) ho I.free
 ·obtain⟨v,o,ho,hd⟩:=I.cell x c e;exact free c o (fun z=>(bT c z).2.2.1 x c e rfl) ho (I.freeC x c e)
 ·obtain⟨e,n,ne,nf,d⟩:=I.pin p hp;have fw:p.1∉ch:=fun z=>(bT p.1 z).2.2.2 p hp rfl;exact⟨keep p.1 p.2 ne nf fw e n,free p.1 p.2 fw e n,ne,nf,d⟩
theorem Inv.step{g':Array GenState}{t':Nat}{d':Drawn}{ch:List Ap}(I:Inv X aa σ H s)(bT:∀b∈ch,(b∈X.ex∨X.s₀.heap.objs.size≤b)/\b≠X.env.locals/\(∀x c,X.env.cells.lookup x=some c->c≠b)/\∀p∈X.pn++aa,p.1≠b)(keep:∀b o,b≠X.env.locals->b∉X.fs->b∉ch->s.heap.get? b=some o->H b=none->h'.get? b=some o)(slot:∀b o,b≠X.env.locals->b∈X.fs->b∉ch->s.heap.get? b=some o->H b=none->∃sl,h'.get? b=some { o with slots:=sl })(free:∀b o,b∉ch->s.heap.get? b=some o->H b=none->H' b=none)(there:∀b o,b∉ch->s.heap.get? b=some o->∃o',h'.get? b=some o')(tups:∀b xs,H b=some (.tup xs)->H' b=some (.tup xs))(frzs:∀b o u,H b=some (.frz o u)->H' b=some (.frz o u))(tbls:∀b ps,H b=some (.tbl ps)->∃more,H' b=some (.tbl (ps++more)))(ns:∀m,s.heap.Ns X.env.locals m->h'.Ns X.env.locals m)(hok:HOk X.prog X.w H' h')(hg:Iv g'):
  Inv X aa σ H' { s with heap:=h',gens:=g',drawn:=d',toks:=t' }:=
 I.stepN (fun b hb=>⟨(bT b hb).1.imp id fun z=>C5.get?_none_of_le z,(bT b hb).2⟩) keep slot free there tups frzs tbls ns hok hg
theorem Inv.un{t':Nat}(I:Inv X aa σ H s)(u:Un X.fs [] H H' s.heap h')(hok:HOk X.prog X.w H' h'):Inv X aa σ H' { s with heap:=h',toks:=t' }:=by
 obtain⟨m,⟨o,es,ep,ho,r⟩,_⟩:=id I.loc;obtain⟨sl,hL⟩:=u.any ho I.free (by simp)
 exact I.step (g':=s.gens) (d':=s.drawn) (ch:=[]) (fun _ z=>nomatch z) (fun b o _ hb _ e n=>u.keep b o e n hb (by simp)) (fun b o _ hb _ e n=>u.slot b o e n hb (by simp)) (fun b o _ e n=>u.free b o e n (by simp)) (fun b o _ e=>u.there b o e (by simp)) u.tups u.frzs u.tbls (fun m' hm=>by
  obtain⟨o',dy,fH,bU,r'⟩:=hm;rw[ho]at bU;cases bU
  exact⟨_,dy,fH,hL,r'⟩) hok I.bare
theorem Inv.call{g':Array GenState}{t':Nat}{d':Drawn}{ch:List Ap}(I:Inv X aa σ H s)(u:Un (frs X.stack) ch H H' s.heap h')(hok:HOk X.prog X.w H' h')(hg:Iv g')(bT:∀b∈ch,(b∈X.ex∨X.s₀.heap.objs.size≤b)/\b≠X.env.locals/\(∀x c,X.env.cells.lookup x=some c->c≠b)/\∀p∈X.pn++aa,p.1≠b):
  Inv X aa σ H' { s with heap:=h',gens:=g',drawn:=d',toks:=t' }:=by
 obtain⟨m,⟨o,es,ep,ho,r⟩,_⟩:=id I.loc;obtain⟨sl,hL⟩:=u.any ho I.free fun z=>(bT _ z).2.1 rfl
 exact I.step (ch:=ch) bT (fun b o hL hb hc e n=>u.keep b o e n (fun z=>(Af.mp (I.stkSub b z)).elim hL hb) hc) (fun b o _ _ hc e n=>u.any e n hc) (fun b o hc e n=>u.free b o e n hc) (fun b o hc e=>u.there b o e hc) u.tups u.frzs u.tbls (fun m' hm=>by
  obtain⟨o',dy,fH,bU,r'⟩:=hm;rw[ho]at bU;cases bU
  exact⟨_,dy,fH,hL,r'⟩) hok hg
theorem Inv.turned{t':Nat}{it:Ap}(I:Inv X aa σ H s)(k:∀b o,b≠it->s.heap.get? b=some o->h'.get? b=some o)(hn:H it=none)(hL:it≠X.env.locals)(h1:it∈X.ex∨X.s₀.heap.objs.size≤it)(h2:∀x c,X.env.cells.lookup x=some c->c≠it)(h3:∀p∈X.pn++aa,p.1≠it):Inv X aa σ H { s with heap:=h',toks:=t' }:=by
 have nit:∀b u,H b=some u->b≠it:=fun b u e z=>by rw[z,hn]at e;cases e
 refine I.step (g':=s.gens) (d':=s.drawn) (ch:=[it]) (fun b hb=>?_) (fun b o _ _ hc e _=>k b o (fun z=>hc (by simp[z])) e) (fun b o _ _ hc e _=>⟨o.slots,k b o (fun z=>hc (by simp[z])) e⟩) (fun _ _ _ _ n=>n)
  (fun b o hc e=>⟨o,k b o (fun z=>hc (by simp[z])) e⟩) (fun _ _ e=>e) (fun _ _ _ e=>e) (fun b ps e=>⟨#[],by rw[e];simp⟩) (fun m hm=>?_) (fun b u e=>?_) I.bare
 ·have e:b=it:=by simpa using hb
  subst e;exact⟨h1,hL,h2,h3⟩
 ·obtain⟨o,es,ep,ho,r⟩:=hm;exact⟨o,es,ep,k _ o (Cl hL) ho,r⟩
 ·refine(I.hok b u e).stay (fun c v hc q=>k c v ?_ q) (fun _ q=>q) (fun _ _ q=>q) fun _ _ _ q=>q;rcases hc with z|z
  ·rw[z];exact nit b u e
  ·exact nit c _ z
theorem Inv.tok(I:Inv X aa σ H s)(t:Nat):Inv X aa σ H { s with toks:=t }:=I.un (h':=s.heap) (t':=t) Un.refl I.hok
theorem Inv.kept{t':Nat}(I:Inv X aa σ H s)(k:∀b u,s.heap.get? b=some u->h'.get? b=some u):Inv X aa σ H { s with heap:=h',toks:=t' }:=I.un (Un.kept k) (I.hok.kept k)
theorem Inv.laid{a:Ap}{o:HO}{t':Nat}(I:Inv X aa σ H s)(k:∀b u,s.heap.get? b=some u->h'.get? b=some u)(hp:s.heap.objs.size≤a)(new:z1D X.prog X.w (upd H a o) h' a o):
  Inv X aa σ (upd H a o) { s with heap:=h',toks:=t' }:=I.un (Un.laid k hp (I.hok.fresh hp)) (I.hok.laid k hp new)
theorem Inv.write{x e:Ap}{o:HO}{t':Nat}(I:Inv X aa σ H s)(mu:Mut (H x))(he:e=x∨H e=some (.own x))(k:∀b u,b≠e->s.heap.get? b=some u->h'.get? b=some u)(gO:∃u,h'.get? e=some u)(new:z1D X.prog X.w (upd H x o) h' x o):Inv X aa σ (upd H x o) { s with heap:=h',toks:=t' }:=I.un (Un.write mu he k gO) (I.hok.write mu he k gO new)
theorem Inv.pins_of{fr:Pns}(I:Inv X aa σ H s)(h:∀p∈fr,s.heap.get? p.1=some p.2/\H p.1=none/\p.1≠X.env.locals/\p.1∉X.fs/\∀v,p.2.data≠.cell v):Inv X fr σ H s:=
 ⟨I.ok,I.os,I.bare,I.base,I.loc,I.cell,I.free,I.freeC,fun p hp=>(Aw.mp hp).elim (fun z=>I.pin p (B9 _ z)) (h p),I.hok,I.len⟩
theorem y8R{N:List Bb}(hN:N.Nodup){i j:Nat}{x:Bb}(a:N[i]?=some x)(b:N[j]?=some x):i=j:=by obtain⟨h1,e1⟩:=An.mp a;obtain⟨h2,e2⟩:=An.mp b;exact(List.getElem_inj hN).mp (e1.trans e2.symm)
theorem y3Q{M:Model}{A:By}{E:VP}{i:Nat}{x:Bb}{v:V}{u:A8}{Q:Unit->Ah->Prop}(I:Inv X aa σ H s)(hN:X.N.Nodup)(hi:X.N[i]?=some x)(hx:Loc X.env.scope x)(r:z01 v u)(h:∀s',Inv X aa (σ.set i (some v)) H s'->(∃a,F3 a s.heap s'.heap/\(a=X.env.locals∨X.env.cells.lookup x=some a))->Q () s')(hf:X.fn x=true∨X.env.scope.names.lookup x=some .local:=by first|exact .inl rfl|exact .inr rfl|assumption):Aq M A (storeName X.env x u) Q E s:=by
 obtain⟨m,hn,hl⟩:=id I.loc
 have hcls:(X.env.scope.kind==.class||(X.env.scope.kind==.module&&X.env.locals != X.env.globals))=false:=by rw[I.ok.kind];rfl
 have hiσ:i<σ.length:=by rw[I.len];exact(An.mp hi).1
 have cne:=I.cne
 have cD:∀{a:Ap} {h':C5},(∃o,s.heap.get? a=some o/\H a=none)->F3 a s.heap h'->HOk X.prog X.w H h':=fun {a h'} ha hs b ob e=>by
  obtain⟨_,_,bu⟩:=ha;refine(I.hok b ob e).stay (fun c w' hc q=>(hs.2 c ?_).trans q) (fun _ q=>q) (fun _ _ q=>q) fun _ _ _ q=>q;rintro rfl;rcases hc with rfl|hc
  ·rw[bu]at e;cases e
  ·rw[bu]at hc;cases hc
 rcases hx with hk|hk
 ·refine wpAny_storeName_local hk hn (fun h' bj hs=>?_) hcls;obtain⟨oL,_,_,hoL,_⟩:=id hn;refine h _ ⟨I.ok,I.os,I.bare,⟨fun b o e n hb hx=>?_,fun b o e n hb hx=>?_,I.base.free,fun b o e hx=>?_,I.base.tups,I.base.frzs,I.base.tbls⟩,⟨_,bj,fun j y v' e1 e2 e3=>?_⟩,fun y c e=>?_,I.free,I.freeC,fun p hp=>?_,cD ⟨oL,hoL,I.free⟩ hs,by simpa using I.len⟩ ⟨_,hs,.inl rfl⟩
  ·exact(hs.2 b (Ar (Bg (Am e) I.ok.above))).trans (I.base.keep b o e n hb hx)
  ·obtain⟨sl,e1⟩:=I.base.slot b o e n hb hx;exact⟨sl,(hs.2 b (Ar (Bg (Am e) I.ok.above))).trans e1⟩
  ·obtain⟨o',e1⟩:=I.base.there b o e hx;exact⟨o',(hs.2 b (Ar (Bg (Am e) I.ok.above))).trans e1⟩
  ·by_cases hj:j=i
   ·subst hj;rw[hi]at e1;cases e1;rw[C7 hiσ]at e2;cases e2;exact⟨u,r,.inl ⟨hk,by simp⟩⟩
   ·rw[Bd (Cl hj)]at e2;obtain⟨u',r',q⟩:=hl j y v' e1 e2 e3;refine⟨u',r',?_⟩;rcases q with⟨k,e⟩|⟨k,c,e,z⟩
    ·refine .inl ⟨k,?_⟩
     have:y≠x:=fun e=>hj (y8R hN e1 (e▸hi))
     simp[this,e]
    ·exact .inr ⟨k,c,e,z.sameBut hs (cne y c e)⟩
  ·obtain⟨w',z⟩:=I.cell y c e;exact⟨w',z.sameBut hs (cne y c e)⟩
  ·obtain⟨e,n,ne,nf,d⟩:=I.pin p hp;exact⟨(hs.2 p.1 ne).trans e,n,ne,nf,d⟩
 ·have hfn:X.fn x=true:=by
   rcases hf with z|z
   ·exact z
   ·rw[z]at hk;cases hk
  obtain⟨c,hc⟩:=I.ok.has x (.inl hk);obtain⟨w',z⟩:=I.cell x c hc;refine wpAny_storeName_cell I.ok.kind hk hc z (fun h' bK hs=>?_);obtain⟨oc,gF,hocd⟩:=id z;refine h { s with heap:=h' } ⟨I.ok,I.os,I.bare,⟨fun b o e n hb hx=>?_,fun b o e n hb hx=>?_,I.base.free,fun b o e hx=>?_,I.base.tups,I.base.frzs,I.base.tbls⟩,⟨m,hn.sameBut hs (Cl (cne x c hc)),fun j y v' e1 e2 e3=>?_⟩,fun y c' e=>?_,I.free,I.freeC,fun p hp=>?_,cD ⟨oc,gF,I.freeC x c hc⟩ hs,by simpa using I.len⟩ ⟨c,hs,.inr hc⟩
  ·exact(hs.2 b (Ar (Bg (Am e) (I.ok.cab x c hfn hc)))).trans (I.base.keep b o e n hb hx)
  ·obtain⟨sl,e1⟩:=I.base.slot b o e n hb hx;exact⟨sl,(hs.2 b (Ar (Bg (Am e) (I.ok.cab x c hfn hc)))).trans e1⟩
  ·obtain⟨o',e1⟩:=I.base.there b o e hx;exact⟨o',(hs.2 b (Ar (Bg (Am e) (I.ok.cab x c hfn hc)))).trans e1⟩
  ·by_cases hj:j=i
   ·subst hj;rw[hi]at e1;cases e1;rw[C7 hiσ]at e2;cases e2;exact⟨u,r,.inr ⟨.inl hk,c,hc,bK⟩⟩
   ·rw[Bd (Cl hj)]at e2;obtain⟨u',r',q⟩:=hl j y v' e1 e2 e3;refine⟨u',r',?_⟩;rcases q with q|⟨k,c',e,z'⟩
    ·exact .inl q
    ·refine .inr ⟨k,c',e,z'.sameBut hs ?_⟩;rintro rfl;exact hj (y8R hN e1 (I.ok.inj _ _ _ e hc▸hi))
  ·by_cases hcc:c'=c
   ·subst hcc;exact⟨_,bK⟩
   ·obtain⟨w2,z2⟩:=I.cell y c' e;exact⟨w2,z2.sameBut hs hcc⟩
  ·obtain⟨e,n,ne,nf,d⟩:=I.pin p hp;refine⟨(hs.2 p.1 ?_).trans e,n,ne,nf,d⟩;intro q;rw[q,gF]at e;have q':oc=p.2:=Bc e;exact d w' (by rw[←q'];exact hocd)
theorem y23{M:Model}{A:By}{E:VP}{i:Nat}{x:Bb}{v:V}{u:A8}{Q:Unit->Ah->Prop}(I:Inv X aa σ H s)(hN:X.N.Nodup)(hi:X.N[i]?=some x)(hx:Loc X.env.scope x)(r:z01 v u)(h:∀s',Inv X aa (σ.set i (some v)) H s'->Q () s')(hf:X.fn x=true∨X.env.scope.names.lookup x=some .local:=by first|exact .inl rfl|exact .inr rfl|assumption):Aq M A (storeName X.env x u) Q E s:=y3Q I hN hi hx r (fun s' I' _=>h s' I') hf
theorem Inv.call'{s':Ah}{ch:List Ap}(I:Inv X aa σ H s)(ho:s'.os=s.os)(u:Un (frs X.stack) ch H H' s.heap s'.heap)(hok:HOk X.prog X.w H' s'.heap)(hg:Iv s'.gens)(bT:∀b∈ch,(b∈X.ex∨X.s₀.heap.objs.size≤b)/\b≠X.env.locals/\(∀x c,X.env.cells.lookup x=some c->c≠b)/\∀p∈X.pn++aa,p.1≠b):Inv X aa σ H' s':=by obtain⟨h',g',d',t',o'⟩:=s';have e:o'=s.os:=ho;subst e;exact I.call (g':=g') (t':=t') (d':=d') u hok hg bT
end
abbrev XK:=A8->Option Ap->Hp->Prop
abbrev St:=List (Option V)
abbrev VK:=V->Hp->Prop
abbrev TE:=St->Hp->VK->Prop
abbrev TT:=St->Hp->(Bool->Hp->Prop)->Prop
abbrev TA:=St->Hp->(List V->Hp->Prop)->Prop
structure Ends where
 nx:St->Hp->Prop
 rt:VK
 bk:St->Hp->Prop:=fun _ _=>False
 ct:St->Hp->Prop:=fun _ _=>False
abbrev TS:=Ends->St->Hp->Prop
def EP(X:Cx)(aa:Pns)(σ:St)(Q:VK)(u:A8)(s':Ah):Prop:=∃v H',Inv X aa σ H' s'/\z01 v u/\Q v H'
def TP(X:Cx)(aa:Pns)(σ:St)(Q:Bool->Hp->Prop)(b:Bool)(s':Ah):Prop:=∃H',Inv X aa σ H' s'/\Q b H'
def AP(X:Cx)(aa:Pns)(σ:St)(Q:List V->Hp->Prop)(us:List A8)(s':Ah):Prop:=∃vs H',Inv X aa σ H' s'/\Y3 vs us/\Q vs H'
def SP(X:Cx)(aa:Pns)(D:Ends)(f:Flow)(s':Ah):Prop:=
 match f with
 | .next=>∃σ' H',Inv X aa σ' H' s'/\D.nx σ' H'
 | .brk=>∃σ' H',Inv X aa σ' H' s'/\D.bk σ' H'
 | .cont=>∃σ' H',Inv X aa σ' H' s'/\D.ct σ' H'
 | .ret u=>∃v σ' H',Inv X aa σ' H' s'/\z01 v u/\D.rt v H'
def PE(X:Cx)(e:Expr)(t:TE):Prop:=∀(aa:Pns) (s:Ah) (σ:St) (H:Hp) (Q:VK),Inv X aa σ H s->t σ H Q->Aq (B3 X.prog X.w) X.A (C0 e X.env) (EP X aa σ Q) X.xe s
def PT(X:Cx)(e:Expr)(t:TT):Prop:=∀(aa:Pns) (s:Ah) (σ:St) (H:Hp) (Q:Bool->Hp->Prop),Inv X aa σ H s->t σ H Q->Aq (B3 X.prog X.w) X.A (isTrue e X.env (C0 e X.env)) (TP X aa σ Q) X.xe s
def PW(X:Cx)(e:Expr)(t:TT):Prop:=∀(aL:Sem A8) (aa:Pns) (s:Ah) (σ:St) (H:Hp) (Q:Bool->Hp->Prop),Inv X aa σ H s->t σ H Q->Aq (B3 X.prog X.w) X.A (isTrue e X.env aL) (TP X aa σ Q) X.xe s
theorem PW.pt{X:Cx}{e:Expr}{t:TT}(h:PW X e t):PT X e t:=h _
def PA(X:Cx)(es:List Expr)(t:TA):Prop:=∀(pos:F2) (aa:Pns) (s:Ah) (σ:St) (H:Hp) (Q:List V->Hp->Prop),Inv X aa σ H s->t σ H Q->Aq (B3 X.prog X.w) X.A (spliced (Bs pos (Ac es X.env))) (AP X aa σ Q) X.xe s
def PS(X:Cx)(st:Db)(t:TS):Prop:=∀(aa:Pns) (s:Ah) (σ:St) (H:Hp) (D:Ends),Inv X aa σ H s->t D σ H->Aq (B3 X.prog X.w) X.A (exec st X.env) (SP X aa D) X.xe s
def PSs(X:Cx)(st:List Db)(t:TS):Prop:=∀(aa:Pns) (s:Ah) (σ:St) (H:Hp) (D:Ends),Inv X aa σ H s->t D σ H->Aq (B3 X.prog X.w) X.A (execs st X.env) (SP X aa D) X.xe s
theorem thn{α:Type}{t:Sem α}{Q Q':α->Ah->Prop}{M:Model}{A:By}{E:VP}{s:Ah}(h:Aq M A t Q E s)(hQ:∀a s,Q a s->Q' a s):Aq M A t Q' E s:=Ce h hQ fun _ _ x=>x
theorem z14{α β γ:Type}{t:Sem α}{I:γ->Ah->Prop}{R:β->α->Prop}{Q:β->γ->Prop}{Q':α->Ah->Prop}{M:Model}{A:By}{E:VP}{s:Ah}(h:Aq M A t (fun u s'=>∃v H',I H' s'/\R v u/\Q v H') E s)(k:∀a s v H',I H' s->R v a->Q v H'->Q' a s):Aq M A t Q' E s:=Ce h (fun a s h=>by
 obtain⟨v,H',x,y,z⟩:=h
 exact k a s v H' x y z) fun _ _ x=>x
section
variable{X:Cx}
noncomputable def w6A(i:Nat):TE:=fun σ H Q=>∃v,σ[i]?=some (some v)/\Q v H
noncomputable def tC(v:V):TE:=fun _ H Q=>Q v H
theorem z2K{i:Nat}{x:Bb}{pos:F2}(hN:X.N[i]?=some x)(hv:Vis X.env.scope x)(hd:(x==("__debug__":Bb))=false:=by decide)(aV:(x==("__classdict__":Bb))=false:=by decide):PE X (.Name x pos) (w6A i):=by
 intro aa s σ H Q I h;obtain⟨v,e,h⟩:=h;obtain⟨m,hn,hl⟩:=I.loc;obtain⟨u,r,l⟩:=hl i x v hN e hv;have fin:EP X aa σ Q u s:=⟨v,H,I,r,h⟩;rcases l with⟨hk,hm⟩|⟨hk,c,hc,aA⟩
 ·exact M7 (wpAny_loadName_local I.ok.kind hk hn hm fin) hd
 ·rcases hk with hk|hk
  ·exact M7 (wpAny_loadName_cell I.ok.kind hk hc aA fin) hd
  ·exact M7 (wpAny_loadName_free I.ok.kind hk hc aA fin aV) hd
theorem w56{i j pos}:PE X (.Constant (.int i) j pos) (tC (.int i)):=fun _ _ _ H _ I h=>wpAny_Constant_int ⟨.int i,H,I.tok _,⟨_,rfl⟩,h⟩
theorem w77{b j pos}:PE X (.Constant (.bool b) j pos) (tC (.bl b)):=fun _ _ _ H _ I h=>Constant_bool ⟨.bl b,H,I,rfl,h⟩
theorem w54{j pos}:PE X (.Constant .none j pos) (tC .non):=fun _ _ _ H _ I h=>Constant_none ⟨.non,H,I,rfl,h⟩
theorem w50{x j pos}:PE X (.Constant (.str x) j pos) (tC (.str x)):=fun _ _ _ H _ I h=>Calls.Constant_str ⟨.str x,H,I.tok _,⟨_,rfl⟩,h⟩
def Gl(X:Cx)(x:Bb):Prop:=X.env.kindOf x=some .globalImplicit
theorem x4L{E:VP}{aa:Pns}{s:Ah}{σ:St}{H:Hp}{x:Bb}{u:A8}{pos:F2}{Q:VP}(I:Inv X aa σ H s)(hg:Gl X x)(hm:X.mg x=some u)(h:Q u s)(hd:(x==("__debug__":Bb))=false:=by decide):Aq (B3 X.prog X.w) X.A (C0 (.Name x pos) X.env) Q E s:=Calls.Name_function_global I.ok.kind hg (Calls.loadGlobal_global (by rw[I.ok.glob];exact I.mod.glob.keeps I.bk) hm h) hd
theorem z37{E:VP}{aa:Pns}{s:Ah}{σ:St}{H:Hp}{x:Bb}{u:A8}{pos:F2}{Q:VP}(I:Inv X aa σ H s)(hg:Gl X x)(hm:X.mg x=none)(hv:B5 x=some u)(h:Q u s)(hn:x≠"__name__":=by decide)(hd:(x==("__debug__":Bb))=false:=by decide):Aq (B3 X.prog X.w) X.A (C0 (.Name x pos) X.env) Q E s:=by obtain⟨mb,h1,h2⟩:=I.mod.blt;exact Calls.Name_function_global I.ok.kind hg (Calls.loadGlobal_builtin (by rw[I.ok.glob];exact I.mod.glob.keeps I.bk) hm (by rw[I.ok.blt];exact h1.keeps I.bk) ((h2 x hn).trans hv) h) hd
theorem w1S{x:Bb}{v:V}{u:A8}{pos:F2}(hg:Gl X x)(hm:X.mg x=some u)(r:z01 v u)(hd:(x==("__debug__":Bb))=false:=by decide):PE X (.Name x pos) (tC v):=fun _ _ _ H _ I h=>x4L I hg hm ⟨v,H,I,r,h⟩ hd
theorem w1W{x:Bb}{v:V}{u:A8}{pos:F2}(hg:Gl X x)(hm:X.mg x=none)(hv:B5 x=some u)(r:z01 v u)(hn:x≠"__name__":=by decide)(hd:(x==("__debug__":Bb))=false:=by decide):PE X (.Name x pos) (tC v):=fun _ _ _ H _ I h=>z37 I hg hm hv ⟨v,H,I,r,h⟩ hn hd
variable{a b:Expr}{ta tb:TE}{pos:F2}
def PC(X:Cx)(op:Lf)(a b:Expr)(t:TE):Prop:=
 ∀(aa:Pns) (s:Ah) (σ:St) (H:Hp) (Q:VK),Inv X aa σ H s->t σ H Q ->
  Aq (B3 X.prog X.w) X.A (C0 a X.env) (fun v s₁=>Aq (B3 X.prog X.w) X.A (C0 b X.env) (fun u s₂=>Aq (B3 X.prog X.w) X.A (Cs op v u) (EP X aa σ Q) X.xe s₂) X.xe s₁) X.xe s
noncomputable def tB(t:TE):TT:=fun σ H Q=>t σ H fun x H1=>∃c,x = .bl c/\Q c H1
theorem x3J{op:Lf}{t:TE}(h:PC X op a b t)(h1:Dd op b=false:=by first|exact nobehind _ (by decide) (by decide)|rfl):PT X (.Compare a [op] [b] pos) (tB t):=by intro aa s σ H Q I hw;refine wpAny_isTrue_Compare1 (thn (h aa s σ H _ I hw) fun v s1 h1=>thn h1 fun u s2 h2=>thn h2 fun c s3 ⟨x,H1,I1,r1,q1⟩=>?_) h1;obtain⟨d,rfl,q⟩:=q1;cases r1;exact Cm ⟨H1,I1,q⟩
theorem w4R{e:Expr}{t:TE}(h:PE X e t)(he:∀aL,isTrue e X.env aL=(do let v ←aL;Jk e.pos;Gb [v] (M8 v)):=by intro _;rfl):PT X e (tB t):=by intro aa s σ H Q I hw;refine isTrue_plain (z14 (h aa s σ H _ I hw) fun v s1 x H1 I1 r1 q1=>?_) (he _);obtain⟨d,rfl,q⟩:=q1;cases r1;exact Cm ⟨H1,I1,q⟩
variable{tA tB':TT}{rest:List Expr}
noncomputable def w8T(t u:TT):TT:=fun σ H Q=>t σ H fun c H1=>if c=true then u σ H1 Q else Q false H1
noncomputable def tOr(t u:TT):TT:=fun σ H Q=>t σ H fun c H1=>if c=true then Q true H1 else u σ H1 Q
noncomputable def w8P(t:TT):TT:=fun σ H Q=>t σ H fun c H1=>Q (!c) H1
theorem w1K(ha:PT X a tA):PW X (.BoolOp .And [a] pos) tA:=by
 intro wh aa s σ H Q I h;refine isTrue_and (thn (ha aa s σ H Q I h) fun c s1 e=>?_)
 cases c with
 |true=>exact isTrue_and_nil e
 |false=>exact e
theorem w4M(ha:PT X a tA):PW X (.BoolOp .Or [a] pos) tA:=by
 intro wh aa s σ H Q I h;refine isTrue_or (thn (ha aa s σ H Q I h) fun c s1 e=>?_)
 cases c with
 |false=>exact isTrue_or_nil e
 |true=>exact e
theorem w4O(ha:PT X a tA)(hb:PW X (.BoolOp .And (b::rest) pos) tB'):PW X (.BoolOp .And (a::b::rest) pos) (w8T tA tB'):=by
 intro wh aa s σ H Q I h;refine isTrue_and (thn (ha aa s σ H _ I h) fun c s1 ⟨H1,I1,q1⟩=>?_)
 cases c with
 |true=>exact hb wh aa s1 σ H1 Q I1 q1
 |false=>exact⟨H1,I1,q1⟩
theorem w73(ha:PT X a tA)(hb:PW X (.BoolOp .Or (b::rest) pos) tB'):PW X (.BoolOp .Or (a::b::rest) pos) (tOr tA tB'):=by
 intro wh aa s σ H Q I h;refine isTrue_or (thn (ha aa s σ H _ I h) fun c s1 ⟨H1,I1,q1⟩=>?_)
 cases c with
 |true=>exact⟨H1,I1,q1⟩
 |false=>exact hb wh aa s1 σ H1 Q I1 q1
theorem w4S(ha:PT X a tA):PT X (.UnaryOp .Not a pos) (w8P tA):=by intro aa s σ H Q I h;exact isTrue_not (ha aa s σ H (fun c H1=>Q (!c) H1) I h)
noncomputable def w6S(ta tb:TE):TE:=fun σ H Q=>ta σ H fun x H1=>∃c,x = .bl c/\if c=true then tb σ H1 Q else Q (.bl false) H1
noncomputable def w6N(ta:TE):TE:=fun σ H Q=>ta σ H fun x H1=>∃c,x = .bl c/\Q (.bl (!c)) H1
theorem w52{op}{t:TE}(h:PE X a t):PE X (.BoolOp op [a] pos) t:=fun aa s σ H Q I hw=>BoolOp_one (h aa s σ H Q I hw)
theorem w58(ha:PE X a ta)(hb:PE X (.BoolOp .And (b::rest) pos) tb):PE X (.BoolOp .And (a::b::rest) pos) (w6S ta tb):=by
 intro aa s σ H Q I h;refine BoolOp_and (z14 (ha aa s σ H _ I h) fun v s1 x H1 I1 r1 q1=>?_);obtain⟨c,rfl,q1⟩:=q1;cases r1;refine Cm ?_
 cases c with
 |true=>exact hb aa s1 σ H1 Q I1 q1
 |false=>exact⟨.bl false,H1,I1,rfl,q1⟩
theorem w53(ha:PE X a ta):PE X (.UnaryOp .Not a pos) (w6N ta):=by intro aa s σ H Q I h;refine UnaryOp_ (z14 (ha aa s σ H _ I h) fun v s1 x H1 I1 r1 q1=>?_);obtain⟨c,rfl,q1⟩:=q1;cases r1;exact not_of (Cm ⟨.bl (!c),H1,I1,rfl,q1⟩)
noncomputable def tIf(t:TT)(ta tb:TE):TE:=fun σ H Q=>t σ H fun c H1=>if c=true then ta σ H1 Q else tb σ H1 Q
theorem x7S{c:Expr}(hc:PT X c tA)(ha:PE X a ta)(hb:PE X b tb):PE X (.IfExp c a b pos) (tIf tA ta tb):=by
 intro aa s σ H Q I h;refine wpAny_IfExp (thn (hc aa s σ H _ I h) fun d s1 ⟨H1,I1,q1⟩=>?_)
 cases d with
 |true=>exact ha aa s1 σ H1 Q I1 q1
 |false=>exact hb aa s1 σ H1 Q I1 q1
end
def SqL(K:A5)(H:Hp)(a:Ap)(xs:List V):Prop:=
 Rd H a (.lst xs) ∨
  ∃(o:Ji) (its:Array A8) (n:Nat),K.lookup a=some o/\o.cls = .type "list"/\o.dict=none/\o.data = .seq its n/\its.size≤sizeLine/\Y3 xs its.toList
def SqT(K:A5)(H:Hp)(a:Ap)(xs:List V):Prop:=
 Rd H a (.tup xs) ∨
  ∃(o:Ji) (its:Array A8) (n:Nat),K.lookup a=some o/\o.cls = .type "tuple"/\o.data = .seq its n/\its.size≤sizeLine/\Y3 xs its.toList/\o.dict=none
noncomputable def w98:A8->Option V
 | .none=>some .non
 | .bool b=>some (.bl b)
 | .int i _=>some (.int i)
 | .str x _=>some (.str x)
 | .bytes b _=>some (.byt b)
 | .float b _=>some (.flt b)
 | .ref a=>some (.ref a)
 | .type n=>some (.ty n)
 |_=>none
theorem z01.abs{x:V}{u:A8}(r:z01 x u):w98 u=some x:=by
 cases x with
 |non=>cases r;rfl
 |bl _=>cases r;rfl
 |int _=>obtain⟨t,rfl⟩:=r;rfl
 |str _=>obtain⟨t,rfl⟩:=r;rfl
 |byt _=>obtain⟨t,rfl⟩:=r;rfl
 |flt _=>obtain⟨t,rfl⟩:=r;rfl
 |ref _=>cases r;rfl
 |ty _=>cases r;rfl
theorem z01.inj{x y:V}{u:A8}(r:z01 x u)(q:z01 y u):x=y:=Bc (r.abs.symm.trans q.abs)
theorem Y3.inj:∀{xs ys:List V} {us:List A8},Y3 xs us->Y3 ys us->xs=ys
 |_,_,_,.nil,.nil=>rfl
 |_,_,_,.cons r t,.cons r' t'=>by rw[r.inj r',Y3.inj t t']
section
variable{X:Cx}{aa:Pns}{σ:St}{H:Hp}{s:Ah}{a:Ap}{xs ys:List V}
theorem SqL.of{K:A5}(h:H a=some (.lst xs)):SqL K H a xs:=.inl (.inl h)
theorem SqT.of{K:A5}(h:H a=some (.tup xs)):SqT K H a xs:=.inl (.inl h)
theorem Inv.list(I:Inv X aa σ H s)(h:SqL X.K H a xs):∃its:List A8,Y3 xs its/\PlainL s.heap a its.toArray/\xs.length≤sizeLine:=by
 rcases h with h|⟨o,its,n,hk,hc,hd,hs,hz,r⟩
 ·obtain⟨z,its,n,r,e⟩:=h.ok I.hok;exact⟨its,r,⟨_,n,e,rfl,rfl,rfl⟩,z⟩
 ·refine⟨its.toList,r,⟨o,n,I.kIn a o hk,hc,hd,by simpa using hs⟩,?_⟩;have e:=r.length;simp only[B4]at e;omega
theorem Inv.tuple(I:Inv X aa σ H s)(h:SqT X.K H a xs):∃its:List A8,Y3 xs its/\Kx s.heap a its.toArray/\xs.length≤sizeLine:=by
 rcases h with h|⟨o,its,n,hk,hc,hs,hz,r,_⟩
 ·obtain⟨z,its,r,p⟩:=h.ok I.hok;exact⟨its,r,p.isTup,z⟩
 ·refine⟨its.toList,r,⟨o,I.kIn a o hk,hc,n,by simpa using hs⟩,?_⟩;have e:=r.length;simp only[B4]at e;omega
theorem Inv.tupleP(I:Inv X aa σ H s)(h:SqT X.K H a xs):∃o,s.heap.get? a=some o/\o.cls = .type "tuple"/\o.dict=none:=by
 rcases h with h|⟨o,its,n,hk,hc,hs,hz,r,d⟩
 ·obtain⟨z,its,r,o,e,c,_,d⟩:=h.ok I.hok;exact⟨o,e,c,d⟩
 ·exact⟨o,I.kIn a o hk,hc,d⟩
theorem Inv.list_inj(I:Inv X aa σ H s)(h:SqL X.K H a xs)(h':SqL X.K H a ys):xs=ys:=by
 obtain⟨its,r,⟨o,n,e,_,_,d⟩,_⟩:=I.list h;obtain⟨its',r',⟨o',n',e',_,_,d'⟩,_⟩:=I.list h';rw[e]at e';cases e';rw[d]at d';injection d' with d1 _
 have:its=its':=by simpa using congrArg Array.toList d1
 subst this;exact r.inj r'
theorem Inv.tuple_inj(I:Inv X aa σ H s)(h:SqT X.K H a xs)(h':SqT X.K H a ys):xs=ys:=by
 obtain⟨its,r,⟨o,e,_,n,d⟩,_⟩:=I.tuple h;obtain⟨its',r',⟨o',e',_,n',d'⟩,_⟩:=I.tuple h';rw[e]at e';cases e';rw[d]at d';injection d' with d1 _
 have:its=its':=by simpa using congrArg Array.toList d1
 subst this;exact r.inj r'
end
noncomputable abbrev Cx.wish(X:Cx)(E:VP):Cx:={ X with xe:=E }
abbrev Cx.nox(X:Cx):Cx:=X.wish fun _ _=>False
theorem Cx.Ok.wish{X:Cx}(ok:X.Ok)(E:VP):(X.wish E).Ok:=
 ⟨ok.mod,ok.kind,ok.glob,ok.blt,ok.above,ok.inj,ok.has,ok.cab,ok.hd,ok.frames,ok.stk,ok.exf,ok.bs,ok.bsz,ok.noex,ok.exfs,ok.funs,ok.frf⟩
theorem Cx.Ok.unwish{X:Cx}{E:VP}(ok:(X.wish E).Ok):X.Ok:=
 ⟨ok.mod,ok.kind,ok.glob,ok.blt,ok.above,ok.inj,ok.has,ok.cab,ok.hd,ok.frames,ok.stk,ok.exf,ok.bs,ok.bsz,ok.noex,ok.exfs,ok.funs,ok.frf⟩
section
variable{X:Cx}{aa:Pns}{σ:St}{H:Hp}{s:Ah}{E:VP}
theorem Inv.wish(I:Inv X aa σ H s)(E:VP):Inv (X.wish E) aa σ H s:=⟨I.ok.wish E,I.os,I.bare,I.base,I.loc,I.cell,I.free,I.freeC,I.pin,I.hok,I.len⟩
theorem Inv.unwish(I:Inv (X.wish E) aa σ H s):Inv X aa σ H s:=⟨I.ok.unwish,I.os,I.bare,I.base,I.loc,I.cell,I.free,I.freeC,I.pin,I.hok,I.len⟩
theorem SP.unwish{D:Ends}{f:Flow}{s':Ah}(h:SP (X.wish E) aa D f s'):SP X aa D f s':=by
 cases f with
 |next=>obtain⟨σ',H',I,q⟩:=h;exact⟨σ',H',I.unwish,q⟩
 |brk=>obtain⟨σ',H',I,q⟩:=h;exact⟨σ',H',I.unwish,q⟩
 |cont=>obtain⟨σ',H',I,q⟩:=h;exact⟨σ',H',I.unwish,q⟩
 |ret u=>obtain⟨v,σ',H',I,r,q⟩:=h;exact⟨v,σ',H',I.unwish,r,q⟩
theorem PSs.nox{st:List Db}{t:TS}(h:PSs X.nox st t):PSs X st t:=fun aa s σ H D I hw=>Ce (h aa s σ H D (I.wish _) hw) (fun _ _ q=>q.unwish) fun _ _ z=>F9 z
end
section
variable{X:Cx}{st:Db}{rest:List Db}{t u:TS}{e:Expr}{te:TE}{pos:F2}
noncomputable def w6O:TS:=fun D σ H=>D.nx σ H
noncomputable def w80(t u:TS):TS:=fun D σ H=>t { D with nx:=u D } σ H
theorem w1L:PSs X [] w6O:=fun _ _ σ H _ I h=>Iq ⟨σ,H,I,h⟩
theorem z8V(h1:PS X st t)(h2:PSs X rest u):PSs X (st::rest) (w80 t u):=by
 intro aa s σ H D I h;refine wpAny_execs_cons (thn (h1 aa s σ H { D with nx:=u D } I h) fun f s1 q=>?_)
 cases f with
 |next=>obtain⟨σ',H',I',q⟩:=q;exact h2 aa s1 σ' H' D I' q
 |ret v=>exact q
 |brk=>exact q
 |cont=>exact q
theorem y6H(h1:PS X st t):PSs X [st] t:=by
 intro aa s σ H D I h;refine wpAny_execs_cons (thn (h1 aa s σ H D I h) fun f s1 q=>?_)
 cases f with
 |next=>exact Iq q
 |ret v=>exact q
 |brk=>exact q
 |cont=>exact q
theorem Inv.quiet{aa:Pns}{σ:St}{H:Hp}{s:Ah}(I:Inv X aa σ H s):interactive X.env=false:=by simp[interactive,I.ok.kind]
noncomputable def w6P(te:TE):TS:=fun D σ H=>te σ H fun _ H1=>D.nx σ H1
theorem z9D(he:PE X e te)(hs:Dy e none pos.line X.env=Ck false:=by rfl):PS X (.Expr e pos) (w6P te):=by intro aa s σ H D I h;exact wpAny_Expr_any (z14 (he aa s σ H _ I h) fun v s1 x H1 I1 r1 q1=>⟨σ,H1,I1,q1⟩) I.quiet hs
noncomputable def w81(te:TE):TS:=fun D σ H=>te σ H D.rt
theorem x3L(he:PE X e te):PS X (.Return (some e) pos) (w81 te):=by intro aa s σ H D I h;exact wpAny_Return_some (z14 (he aa s σ H _ I h) fun v s1 x H1 I1 r1 q1=>⟨x,σ,H1,I1,r1,q1⟩)
noncomputable def w8Q(c:TT)(t u:TS):TS:=fun D σ H=>c σ H fun b H1=>if b=true then t D σ H1 else u D σ H1
theorem w75{c:Expr}{a b:List Db}{tc:TT}(hc:PT X c tc)(ha:PSs X a t)(hb:PSs X b u):PS X (.If c a b pos) (w8Q tc t u):=by
 intro aa s σ H D I h;refine wpAny_If (thn (hc aa s σ H _ I h) fun d s1 ⟨H1,I1,q1⟩=>?_)
 cases d with
 |true=>exact ha aa s1 σ H1 D I1 q1
 |false=>exact hb aa s1 σ H1 D I1 q1
end
abbrev TG:=V->St->Hp->(St->Hp->Prop)->Prop
abbrev TGs:=List V->St->Hp->(St->Hp->Prop)->Prop
def PG(X:Cx)(ad:Expr)(t:TG):Prop:=
 ∀(aa:Pns) (s:Ah) (σ:St) (H:Hp) (v:V) (u:A8) (Q:St->Hp->Prop),Inv X aa σ H s->z01 v u->t v σ H Q ->
  Aq (B3 X.prog X.w) X.A (Kg ad X.env u) (fun _ s'=>∃σ' H',Inv X aa σ' H' s'/\Q σ' H') X.xe s
def PGs(X:Cx)(ts:List Expr)(t:TGs):Prop:=
 ∀(aa:Pns) (s:Ah) (σ:St) (H:Hp) (vs:List V) (us:List A8) (Q:St->Hp->Prop),Inv X aa σ H s->Y3 vs us->t vs σ H Q ->
  Aq (B3 X.prog X.w) X.A (assignInOrder ((Dv ts X.env).map (·.2)) us) (fun _ s'=>∃σ' H',Inv X aa σ' H' s'/\Q σ' H') X.xe s
abbrev TIp:=V->V->Hp->VK->Prop
def PIp(X:Cx)(op:M9)(t:TIp):Prop:=
 ∀(aa:Pns) (s:Ah) (σ:St) (H:Hp) (x y:V) (v u:A8) (Q:VK),Inv X aa σ H s->z01 x v->z01 y u->t x y H Q ->
  Aq (B3 X.prog X.w) X.A (inplaceOp op v u) (EP X aa σ Q) X.xe s
section
variable{X:Cx}{pos:F2}
noncomputable def y2P(i:Nat):TG:=fun v σ H Q=>Q (σ.set i (some v)) H
theorem y2I{i:Nat}{x:Bb}(hN:X.N.Nodup)(hi:X.N[i]?=some x)(hx:Loc X.env.scope x)(hf:X.fn x=true∨X.env.scope.names.lookup x=some .local:=by first|exact .inl rfl|exact .inr rfl|assumption):PG X (.Name x pos) (y2P i):=by intro aa s σ H v u Q I r h;exact wpAny_assign_Name (y23 I hN hi hx r (fun s' I'=>⟨_,H,I',h⟩) hf)
noncomputable def w8F:TGs:=fun vs σ H Q=>vs=[]/\Q σ H
noncomputable def w2R(t:TG)(u:TGs):TGs:=fun vs σ H Q=>∃v r,vs=v::r/\t v σ H fun σ' H'=>u r σ' H' Q
theorem x3S:PGs X [] w8F:=by intro aa s σ H vs us Q I r h;obtain⟨e,h⟩:=h;subst e;cases r;exact assignInOrder_nil ⟨σ,H,I,h⟩
theorem y2H{e:Expr}{es:List Expr}{t:TG}{u:TGs}(h1:PG X e t)(h2:PGs X es u)(hs:(Dv (e::es) X.env).map (·.2)=Kg e X.env::(Dv es X.env).map (·.2):=by rfl):PGs X (e::es) (w2R t u):=by
 intro aa s σ H vs us Q I r h;obtain⟨v,vr,e1,h⟩:=h;subst e1
 cases r with
 |cons r rr=>rw[hs];refine assignInOrder_cons (thn (h1 aa s σ H _ _ _ I r h) fun _ s1 ⟨σ1,H1,I1,q1⟩=>?_);exact h2 aa s1 σ1 H1 _ _ Q I1 rr q1
noncomputable def w8E(K:A5)(n:Nat)(t:TGs):TG:=fun v σ H Q=>∃a xs,v = .ref a/\SqT K H a xs/\xs.length=n/\t xs σ H Q
theorem x9N{es:List Expr}{k:Nat}{t:TGs}{n:Nat}(hc:X.calm=true)(h:PGs X es t)(hn:(Dv es X.env).length=n:=by rfl)(bX:(Dv es X.env).findIdx? (·.1)=none:=by rfl):PG X (.Tuple es k pos) (w8E X.K n t):=by intro aa s σ H v u Q I r hw;obtain⟨a,xs,e1,hq,hl,hw⟩:=hw;subst e1;cases r;obtain⟨its,rv,ht,hz⟩:=I.tuple hq;refine assign_Tuple_tuple (I.ok.hd hc) ht (by simp[hn,←hl,rv.length]) bX fun h' hx=>?_;have I1:Inv X aa σ H { s with heap:=h' }:=I.kept (t':=s.toks) fun b o e=>hx b o (Ar (Am e)) e;exact h aa _ σ H xs _ Q I1 (by simpa using rv) hw
noncomputable def w6C(te:TE)(g:TG):TS:=fun D σ H=>te σ H fun x H1=>g x σ H1 D.nx
theorem x3K{i:Nat}{x:Bb}{e:Expr}{te:TE}{aF:F2}(hN:X.N.Nodup)(hi:X.N[i]?=some x)(hx:Loc X.env.scope x)(he:PE X e te)(hs:Dy e (some (.Name x aF)) pos.line X.env=Ck false:=by rfl)(hf:X.fn x=true∨X.env.scope.names.lookup x=some .local:=by first|exact .inl rfl|exact .inr rfl|assumption):
  PS X (.Assign [.Name x aF] e pos) (w6C te (y2P i)):=by
 intro aa s σ H D I h;refine wpAny_Assign_Name (z14 (he aa s σ H _ I h) fun v s1 y H1 I1 r1 q1=>?_) hs;exact y23 I1 hN hi hx r1 (fun s2 I2=>⟨_,H1,I2,q1⟩) hf
noncomputable def w8S(i:Nat)(te:TE)(ti:TIp):TS:=fun D σ H=>∃x,σ[i]?=some (some x)/\te σ H fun y H1=>ti x y H1 fun z H2=>D.nx (σ.set i (some z)) H2
theorem w4T{i:Nat}{x:Bb}{e:Expr}{te:TE}{op:M9}{ti:TIp}{aF:F2}(hN:X.N.Nodup)(hi:X.N[i]?=some x)(hx:Loc X.env.scope x)(he:PE X e te)(ho:PIp X op ti)(hf:X.fn x=true∨X.env.scope.names.lookup x=some .local:=by first|exact .inl rfl|exact .inr rfl|assumption):
  PS X (.AugAssign (.Name x aF) op e pos) (w8S i te ti):=by
 intro aa s σ H D I h;obtain⟨v,e1,h⟩:=h;obtain⟨m,hn,hl⟩:=I.loc
 have vis:Vis X.env.scope x:=by rcases hx with k|k;exact .inl k;exact .inr (.inl k)
 obtain⟨u,r,l⟩:=hl i x v hi e1 vis;refine wpAny_AugAssign_Name ?_
 have go:Aq (B3 X.prog X.w) X.A (C0 e X.env) (fun w s₂=>Aq (B3 X.prog X.w) X.A (inplaceOp op u w) (fun r s₃=>Aq (B3 X.prog X.w) X.A (storeName X.env x r) (fun _=>SP X aa D .next) X.xe s₃) X.xe s₂) X.xe s:=by refine z14 (he aa s σ H _ I h) fun w s1 y H1 I1 r1 q1=>?_;refine z14 (ho aa s1 σ H1 v y u w _ I1 r r1 q1) fun z s2 zv H2 I2 r2 q2=>?_;exact y23 I2 hN hi hx r2 (fun s3 I3=>⟨_,H2,I3,q2⟩) hf
 rcases l with⟨hk,hm⟩|⟨hk,c,hc,aA⟩
 ·exact wpAny_loadName_local I.ok.kind hk hn hm go
 ·rcases hk with hk|hk
  ·exact wpAny_loadName_cell I.ok.kind hk hc aA go
  ·rcases hx with k|k
   ·have:X.env.scope.names.lookup x=some .free:=hk
    rw[k]at this;cases this
   ·have:X.env.scope.names.lookup x=some .free:=hk
    rw[k]at this;cases this
noncomputable def ipI(f:Int->Int->Int):TIp:=fun x y H Q=>∃i j,x = .int i/\y = .int j/\Q (.int (f i j)) H
theorem w5Z:PIp X .Add (ipI fun i j=>i+j):=by intro aa s σ H x y v u Q I r1 r2 h;obtain⟨i,j,e1,e2,q⟩:=h;subst e1;subst e2;obtain⟨t,rfl⟩:=r1;obtain⟨t',rfl⟩:=r2;exact iadd_int ⟨.int _,H,I.tok _,⟨_,rfl⟩,q⟩
noncomputable def w3W(c:TT)(tb:TS):TS:=fun D σ H=>∃W:Nat->St->Hp->Prop,(∃m,W m σ H)/\∀m σ H,W m σ H ->
 c σ H fun b H1=>if b=true then ∃N:St->Hp->Prop,(∀σ' H',N σ' H'->∃m',m'<m/\W m' σ' H')/\tb { D with nx:=N,ct:=N,bk:=D.nx } σ H1 else D.nx σ H1
theorem x7N{c:Expr}{body:List Db}{tc:TT}{tb:TS}(hp:L9 (B3 X.prog X.w) X.A X.env X.xe)(hc:PT X c tc)(hb:PSs X body tb):PS X (.While c body [] pos) (w3W tc tb):=by
 intro aa s σ H D I h;obtain⟨W,⟨m0,w0⟩,turn⟩:=h;refine wpAny_While (codeAny_whileLoop (fun n s'=>∃σ' H',Inv X aa σ' H' s'/\W n σ' H') ?_ m0 ⟨σ,H,I,w0⟩);rintro n s1 ⟨σ1,H1,I1,w1⟩;refine Ex hp (thn (hc aa s1 σ1 H1 _ I1 (turn n σ1 H1 w1)) fun b s2 ⟨H2,I2,q2⟩=>?_)
 cases b with
 |true=>
  obtain⟨N,hN,q2⟩:=q2;rw[if_pos rfl];refine Ex hp (thn (hb aa s2 σ1 H2 _ I2 q2) fun f s3 q3=>?_)
  cases f with
  |next=>obtain⟨σ3,H3,I3,n3⟩:=q3;obtain⟨m',hm,w3⟩:=hN σ3 H3 n3;exact⟨m',hm,σ3,H3,I3,w3⟩
  |cont=>obtain⟨σ3,H3,I3,n3⟩:=q3;obtain⟨m',hm,w3⟩:=hN σ3 H3 n3;exact⟨m',hm,σ3,H3,I3,w3⟩
  |brk=>exact q3
  |ret v=>exact q3
 |false=>rw[if_neg B0];exact Iq ⟨σ1,H2,I2,q2⟩
end
structure It where
 go:Nat->Hp->Prop
 yld:Nat->Hp->V->Hp->Prop
 stop:Nat->Hp->Prop
def x29(X:Cx)(aa:Pns)(H:Hp)(b:Ap):Prop:=H b=none/\b≠X.env.locals/\b∉X.fs/\(b∈X.ex∨X.s₀.heap.objs.size≤b)/\(∀x c,X.env.cells.lookup x=some c->c≠b)/\∀p∈X.pn++aa,p.1≠b
theorem Inv.fpOk{X:Cx}{aa:Pns}{σ:St}{H H':Hp}{s:Ah}{b:Ap}(I:Inv X aa σ H s)(hb:s.heap.objs.size≤b)(hn:H' b=none):x29 X aa H' b:=by
 refine⟨hn,D0 (Bg I.lt hb),I.nofs hb,.inr (Bk I.sz hb),fun x c e z=>?_,fun p hp z=>?_⟩
 ·obtain⟨v,q⟩:=I.cell x c e;exact absurd (Bg q.lt (by rw[z];exact hb)) (Dj _)
 ·exact absurd (Bg (Am (I.pin p hp).1) (by rw[z];exact hb)) (Dj _)
structure Turn(P:Bo)(w:C8)(K:A5)(tg:Expr)(J:It)(fp:List Ap)(it:Ap)(tn:Nat->C5->Prop):Prop where
 mem:it∈fp
 obj:∀i h,tn i h->∀b∈fp,∃o,h.get? b=some o/\∀v,o.data≠.cell v
 keep:∀i h h',tn i h->(∀b∈fp,∀o,h.get? b=some o->h'.get? b=some o)->tn i h'
 item:∀(X:Cx),X.prog=P->X.w=w->X.K=K->X.calm=true->∀(i:Nat) (aa:Pns) (s:Ah) (σ:St) (H:Hp) (E:VP),Inv X aa σ H s->(∀b∈fp,x29 X aa H b)->tn i s.heap->J.go i H ->
  Aq (B3 P w) X.A (Ic (.ref it)) (fun r s1=>∃u,r=some u /\
   Aq (B3 P w) X.A (Ir tg (.ref it) u) (fun _ s2=>∃x H',Inv X aa σ H' s2/\z01 x u/\J.yld i H x H'/\tn (i+1) s2.heap/\∀b∈fp,H' b=none) E s1) E s
 done:∀(X:Cx),X.prog=P->X.w=w->X.K=K->X.calm=true->∀(i:Nat) (aa:Pns) (s:Ah) (σ:St) (H:Hp) (E:VP),Inv X aa σ H s->(∀b∈fp,x29 X aa H b)->tn i s.heap->J.stop i H ->
  Aq (B3 P w) X.A (Ic (.ref it)) (fun r s1=>r=none/\Inv X aa σ H s1) E s
 self:∀(A:By) (i:Nat) (s:Ah) (Q:VP) (E:VP),tn i s.heap->Q (.ref it) s->Aq (B3 P w) A (Ma (.ref it)) Q E s
abbrev TI:=St->Hp->(It->Hp->Prop)->Prop
def PIE(X:Cx)(aa:Pns)(σ:St)(tg:Expr)(R:It->Hp->Prop)(itv:A8)(s2:Ah):Prop:=∃(it:Ap) (fp:List Ap) (tn:Nat->C5->Prop) (J:It) (H':Hp),itv = .ref it/\Inv X aa σ H' s2/\Turn X.prog X.w X.K tg J fp it tn/\tn 0 s2.heap/\(∀b∈fp,x29 X aa H' b)/\R J H'
def PI(X:Cx)(tg ae:Expr)(wi:TI):Prop:=
 ∀(aa:Pns) (s:Ah) (σ:St) (H:Hp) (R:It->Hp->Prop),Inv X aa σ H s->wi σ H R ->
  Aq (B3 X.prog X.w) X.A (C0 ae X.env) (fun v s1=>Aq (B3 X.prog X.w) X.A (Ma v) (PIE X aa σ tg R) X.xe s1) X.xe s
theorem w2P{M:Model}{A:By}{E:VP}{s:Ah}{tg:Expr}{it:Ap}{u:A8}{o:Ji}{n:String}{vs:Array A8}{Q:Unit->Ah->Prop}(ho:s.heap.get? it=some o)(hc:o.cls = .type n)(hd:o.data = .fields vs)(hn:["enumerate","zip","dict_itemiterator","dict_reverseitemiterator","odict_iterator","itertools.zip_longest","itertools.pairwise"].contains n=false)(hQ:Q () s):Aq M A (Ir tg (.ref it) u) Q E s:=by
  unfold Ir
  cases tg<;>first
    |exact wpAny_pure hQ
    | (cases u<;>first
        |exact wpAny_pure hQ
        | (refine A4 (Mb ho ?_)
           rw[hc,hd]
           show Aq M A (if (["enumerate","zip","dict_itemiterator","dict_reverseitemiterator","odict_iterator","itertools.zip_longest","itertools.pairwise"].contains n&&vs[0]?==some (rawInt _))=true then _ else _) Q E s
           rw[if_neg (by intro h;rw[hn,Bool.false_and]at h;cases h)]
           exact wpAny_pure hQ))
noncomputable def Itl(K:A5)(a:Ap):It:=
 ⟨fun i H=>∃xs x,SqL K H a xs/\xs[i]?=some x,fun i H x H'=>H'=H/\∀xs,SqL K H a xs->xs[i]?=some x,fun i H=>∃xs,SqL K H a xs/\xs.length≤i⟩
noncomputable def Itt(K:A5)(a:Ap):It:=
 ⟨fun i H=>∃xs x,SqT K H a xs/\xs[i]?=some x,fun i H x H'=>H'=H/\∀xs,SqT K H a xs->xs[i]?=some x,fun i H=>∃xs,SqT K H a xs/\xs.length≤i⟩
noncomputable def Itr(lo:Int)(n:Nat):It:=⟨fun i _=>i<n,fun i H x H'=>H'=H/\x = .int (lo+i),fun i _=>n≤i⟩
theorem x2Q{P:Bo}{w:C8}{K:A5}{tg:Expr}(a it:Ap):Turn P w K tg (Itl K a) [it] it (fun i h=>h.IsListIter it a i) where
 mem:=by simp
 obj:=fun i h st b hb=>by
  have e:b=it:=by simpa using hb
  subst e;obtain⟨o,e,c,d⟩:=st;exact⟨o,e,fun v z=>by rw[d]at z;cases z⟩
 keep:=fun i h h' st k=>st.at fun o e=>k it (by simp) o e
 item:=by
  intro X hP hw hK hc i aa s σ H E I hf st hg;subst hP hw hK;obtain⟨xs,x,hq,hx⟩:=hg;obtain⟨its,rv,p,hz⟩:=I.list hq;obtain⟨u,hu,ru⟩:=rv.get hx;obtain⟨f0,f1,f2,f3,f4,f5⟩:=hf it (by simp);refine wpAny_pyNext_list_item st p.isList (x:=u) (by simpa using hu) fun h' aW sb=>?_;have I1:Inv X aa σ H { s with heap:=h' }:=I.turned (t':=s.toks) (fun b o hb e=>(sb.2 b hb).trans e) f0 f1 f3 f4 f5;obtain⟨o,e,c,d⟩:=id aW
  exact⟨u,rfl,w2P (s:={ s with heap:=h' }) e c d (by decide) ⟨x,H,I1,ru,⟨rfl,fun ys hy=>by rw[I.list_inj hy hq];exact hx⟩,aW,fun b hb=>(hf b hb).1⟩⟩
 done:=by intro X hP hw hK hc i aa s σ H E I hf st hg;subst hP hw hK;obtain⟨xs,hq,hx⟩:=hg;obtain⟨its,rv,p,hz⟩:=I.list hq;obtain⟨f0,f1,f2,f3,f4,f5⟩:=hf it (by simp);have hl:=rv.length;exact wpAny_pyNext_list_end (I.ok.hd hc) st p.isList (by simp;omega) fun h' eb=>⟨rfl,I.turned (t':=s.toks) (fun b o hb e=>eb b o hb e) f0 f1 f3 f4 f5⟩
 self:=fun _ _ _ _ _ st h=>wpAny_pyIter_listiter st h
theorem x03{P:Bo}{w:C8}{K:A5}{tg:Expr}(a it:Ap):Turn P w K tg (Itt K a) [it] it (fun i h=>h.IsTupleIter it a i) where
 mem:=by simp
 obj:=fun i h st b hb=>by
  have e:b=it:=by simpa using hb
  subst e;obtain⟨o,e,c,d⟩:=st;exact⟨o,e,fun v z=>by rw[d]at z;cases z⟩
 keep:=fun i h h' st k=>st.at fun o e=>k it (by simp) o e
 item:=by
  intro X hP hw hK hc i aa s σ H E I hf st hg;subst hP hw hK;obtain⟨xs,x,hq,hx⟩:=hg;obtain⟨its,rv,p,hz⟩:=I.tuple hq;obtain⟨u,hu,ru⟩:=rv.get hx;obtain⟨f0,f1,f2,f3,f4,f5⟩:=hf it (by simp);refine Do st (show s.heap.IsTuple a its.toArray from p) (x:=u) (by simpa using hu) fun h' aW sb=>?_;have I1:Inv X aa σ H { s with heap:=h' }:=I.turned (t':=s.toks) (fun b o hb e=>(sb.2 b hb).trans e) f0 f1 f3 f4 f5
  obtain⟨o,e,c,d⟩:=id aW;exact⟨u,rfl,w2P (s:={ s with heap:=h' }) e c d (by decide) ⟨x,H,I1,ru,⟨rfl,fun ys hy=>by rw[I.tuple_inj hy hq];exact hx⟩,aW,fun b hb=>(hf b hb).1⟩⟩
 done:=by intro X hP hw hK hc i aa s σ H E I hf st hg;subst hP hw hK;obtain⟨xs,hq,hx⟩:=hg;obtain⟨its,rv,p,hz⟩:=I.tuple hq;obtain⟨f0,f1,f2,f3,f4,f5⟩:=hf it (by simp);have hl:=rv.length;exact Fs (I.ok.hd hc) st (show s.heap.IsTuple a its.toArray from p) (by simp;omega) fun h' eb=>⟨rfl,I.turned (t':=s.toks) (fun b o hb e=>eb b o hb e) f0 f1 f3 f4 f5⟩
 self:=fun _ _ _ _ _ st h=>wpAny_pyIter_tupleiter st h
theorem x04{P:Bo}{w:C8}{K:A5}{tg:Expr}(it:Ap)(lo:Int)(n:Nat):Turn P w K tg (Itr lo n) [it] it (fun i h=>IsRangeIter h it (lo+(i:Nat)*1) ((n:Int)-(i:Nat)) 1) where
 mem:=by simp
 obj:=fun i h st b hb=>by
  have e:b=it:=by simpa using hb
  subst e
  exact⟨_,st,fun v z=>by
   have z':M3 _=Data.cell v:=z
   cases z'⟩
 keep:=fun i h h' st k=>k it (by simp) _ st
 item:=by
  intro X hP hw hK hc i aa s σ H E I hf st hg;subst hP hw hK;obtain⟨f0,f1,f2,f3,f4,f5⟩:=hf it (by simp);have W:=M4.range (prog:=X.prog) (w:=X.w) (I.ok.hd hc) it lo 1 n;refine W.item i s _ _ hg st fun v h' tk hv aW kk=>?_;obtain⟨t,rfl⟩:=hv;have I1:Inv X aa σ H { s with heap:=h',toks:=tk }:=I.turned (fun b o hb e=>kk b o (by simpa using hb) e) f0 f1 f3 f4 f5;refine⟨_,rfl,w2P (s:={ s with heap:=h',toks:=tk }) (n:="range_iterator") aW rfl rfl (by decide) ⟨.int (lo+i),H,I1,⟨t,?_⟩,⟨rfl,rfl⟩,aW,fun b hb=>(hf b hb).1⟩⟩
  rw[Int.mul_one]
 done:=by intro X hP hw hK hc i aa s σ H E I hf st hg;subst hP hw hK;obtain⟨f0,f1,f2,f3,f4,f5⟩:=hf it (by simp);exact wpAny_pyNext_range_end (I.ok.hd hc) st (by have:n≤i:=hg;omega) fun h' eb=>⟨rfl,I.turned (t':=s.toks) (fun b o hb e=>eb b o hb e) f0 f1 f3 f4 f5⟩
 self:=fun _ _ _ _ _ st h=>wpAny_pyIter_rangeiter st h
section
variable{X:Cx}{tg:Expr}
def w7K(K:A5)(tl:TE):TI:=fun σ H R=>tl σ H fun x H1=>∃a,x = .ref a/\(∃xs,SqL K H1 a xs)/\R (Itl K a) H1
def w93(K:A5)(tl:TE):TI:=fun σ H R=>tl σ H fun x H1=>∃a,x = .ref a/\(∃xs,SqT K H1 a xs)/\R (Itt K a) H1
theorem x3R{l:Expr}{tl:TE}(hl:PE X l tl):PI X tg l (w7K X.K tl):=by
 intro aa s σ H R I h;refine z14 (hl aa s σ H _ I h) fun v s1 x H1 I1 r1 q1=>?_;obtain⟨a,e,⟨xs,hq⟩,q⟩:=q1;subst e;cases r1;obtain⟨its,rv,p,hz⟩:=I1.list hq;refine Hr p.isList ?_;refine⟨s1.heap.objs.size,[s1.heap.objs.size],_,_,H1,rfl,I1.kept (t':=s1.toks) fun b o e=>Aa _ e,x2Q a _,⟨_,At _ rfl,rfl,rfl⟩,fun b hb=>?_,q⟩
 have e:b=s1.heap.objs.size:=by simpa using hb
 subst e;exact I1.fpOk (Ak _) (I1.hok.fresh (Ak _))
theorem w4U{l:Expr}{tl:TE}(hl:PE X l tl):PI X tg l (w93 X.K tl):=by
 intro aa s σ H R I h;refine z14 (hl aa s σ H _ I h) fun v s1 x H1 I1 r1 q1=>?_;obtain⟨a,e,⟨xs,hq⟩,q⟩:=q1;subst e;cases r1;obtain⟨its,rv,p,hz⟩:=I1.tuple hq;refine E6 (show s1.heap.IsTuple a its.toArray from p) ?_;refine⟨s1.heap.objs.size,[s1.heap.objs.size],_,_,H1,rfl,I1.kept (t':=s1.toks) fun b o e=>Aa _ e,x03 a _,⟨_,At _ rfl,rfl,rfl⟩,fun b hb=>?_,q⟩
 have e:b=s1.heap.objs.size:=by simpa using hb
 subst e;exact I1.fpOk (Ak _) (I1.hok.fresh (Ak _))
theorem y8H{aa:Pns}{σ:St}{H:Hp}{s:Ah}{R:It->Hp->Prop}{E:VP}{lo hi:Int}{t u v:M6}{tk:Nat}(I:Inv X aa σ H s)(h1 : -(2 ^ 62)≤lo)(h2:lo<2 ^ 62)(h3 : -(2 ^ 62)≤hi)(h4:hi<2 ^ 62)(q:R (Itr lo (hi-lo).toNat) H):Aq (B3 X.prog X.w) X.A (Ma (.ref s.heap.objs.size)) (PIE X aa σ tg R) E { s with heap:=s.heap.push { cls:=.type "range",data:=.fields #[.int lo t,.int hi u,.int 1 v] },toks:=tk }:=by
 refine wpAny_pyIter_range (IsRange.new ..) (small_one h1 h2 h3 h4) ?_;have I1:Inv X aa σ H { s with heap:=s.heap.push { cls:=.type "range",data:=.fields #[.int lo t,.int hi u,.int 1 v] },toks:=tk }:=I.kept fun b o e=>Aa _ e
 refine⟨(s.heap.push { cls:=.type "range",data:=.fields #[.int lo t,.int hi u,.int 1 v] }).objs.size,[(s.heap.push { cls:=.type "range",data:=.fields #[.int lo t,.int hi u,.int 1 v] }).objs.size],_,_,H,rfl,
  I1.kept (t':=tk) fun b o e=>Aa _ e,x04 _ lo (hi-lo).toNat,?_,fun b hb=>?_,q⟩
 ·have e1:lo+((0:Nat):Int)*1=lo:=by simp
  have e2:(((hi-lo).toNat:Nat):Int)-((0:Nat):Int)=Hj lo hi 1:=by rw[Lg];split<;>omega
  show IsRangeIter _ _ (lo+((0:Nat):Int)*1) ((((hi-lo).toNat:Nat):Int)-((0:Nat):Int)) 1;rw[e1,e2];exact At _ rfl
 ·have e:b=(s.heap.push { cls:=.type "range",data:=.fields #[.int lo t,.int hi u,.int 1 v] }).objs.size:=by simpa using hb
  subst e;exact I1.fpOk (Ak _) (I1.hok.fresh (Ak _))
def w7J(ta:TA):TI:=fun σ H R=>ta σ H fun vs H1=>∃j:Int,vs=[.int j]/\-(2 ^ 62)≤j/\j<2 ^ 62/\R (Itr 0 j.toNat) H1
def w7I(ta:TA):TI:=fun σ H R=>ta σ H fun vs H1=>∃i j:Int,vs=[.int i,.int j]/\(-(2 ^ 62)≤i/\i<2 ^ 62/\-(2 ^ 62)≤j/\j<2 ^ 62)/\R (Itr i (j-i).toNat) H1
theorem x3Q{a:Expr}{ta:TA}{p pos:F2}(hg:Gl X "range")(hm:X.mg "range" = none)(ha:PA X [a] ta)(hs:Ac [a] X.env=[(false,C0 a X.env)]:=by rfl):PI X tg (.Call (.Name "range" p) [a] [] pos) (w7J ta):=by
 intro aa s σ H R I h;refine Call_ (z37 I hg hm boot_range (Du (z14 (ha pos aa s σ H _ I h) fun us s1 vs H1 I1 r1 q1=>?_) hs rfl));obtain⟨j,e,q1,q2,q⟩:=q1;subst e
 cases r1 with
 |cons r rr=>cases rr;obtain⟨t,rfl⟩:=r;exact call_range_1 (y8H I1 (by omega) (by omega) q1 q2 (by simpa using q))
theorem x3P{a b:Expr}{ta:TA}{p pos:F2}(hg:Gl X "range")(hm:X.mg "range" = none)(ha:PA X [a,b] ta)(hs:Ac [a,b] X.env=[(false,C0 a X.env),(false,C0 b X.env)]:=by rfl)(bH:Ac [b] X.env=[(false,C0 b X.env)]:=by rfl):
  PI X tg (.Call (.Name "range" p) [a,b] [] pos) (w7I ta):=by
 intro aa s σ H R I h;refine Call_ (z37 I hg hm boot_range (Du (z14 (ha pos aa s σ H _ I h) fun us s1 vs H1 I1 r1 q1=>?_) (by rw[hs,bH]) (by rw[bH];rfl)))
 obtain⟨i,j,e,⟨q1,q2,q3,q4⟩,q⟩:=q1;subst e
 cases r1 with
 |cons r rr=>
  cases rr with
  |cons r' rr=>cases rr;obtain⟨t,rfl⟩:=r;obtain⟨t',rfl⟩:=r';exact call_range_2 (y8H I1 q1 q2 q3 q4 q)
noncomputable def w83(wi:TI)(g:TG)(tb:TS):TS:=fun D σ H=>wi σ H fun J H1=>∃W:Nat->Nat->St->Hp->Prop,(∃m,W 0 m σ H1)/\∀i m σ H,W i m σ H ->
 (J.stop i H/\D.nx σ H)∨(J.go i H/\∃N:St->Hp->Prop,(∀σ' H',N σ' H'->∃m',m'<m/\W (i+1) m' σ' H')/\∀x H',J.yld i H x H'->g x σ H' fun σ2 H2=>tb { D with nx:=N,ct:=N,bk:=D.nx } σ2 H2)
noncomputable def y1C(fp:List Ap)(h:C5):Pns:=fp.filterMap fun b=>(h.get? b).map fun o=>(b,o)
theorem z20{fp:List Ap}{h:C5}{b:Ap}{o:Ji}(hb:b∈fp)(e:h.get? b=some o):(b,o)∈y1C fp h:=Jc.mpr ⟨b,hb,by rw[e];rfl⟩
theorem x41{fp:List Ap}{h:C5}{p:Ap×Ji}(hp:p∈y1C fp h):p.1∈fp/\h.get? p.1=some p.2:=by
 obtain⟨b,hb,e⟩:=Jc.mp hp
 cases q:h.get? b with
 |none=>rw[q]at e;cases e
 |some o=>rw[q]at e;have e':(b,o)=p:=Bc e;subst e';exact⟨hb,q⟩
theorem Inv.pinned{aa:Pns}{σ:St}{H:Hp}{s:Ah}{fp:List Ap}(I:Inv X aa σ H s)(hf:∀b∈fp,x29 X aa H b)(ho:∀b∈fp,∃o,s.heap.get? b=some o/\∀v,o.data≠.cell v):Inv X (aa++y1C fp s.heap) σ H s:=I.pins_of fun p hp=>(Aw.mp hp).elim (fun z=>I.pin p (Ab _ z)) fun z=>by obtain⟨hb,e⟩:=x41 z;obtain⟨f0,f1,f2,_⟩:=hf p.1 hb;obtain⟨o,e',d⟩:=ho p.1 hb;rw[e]at e';cases e';exact⟨e,f0,f1,f2,d⟩
theorem Inv.unpinned{aa pl:Pns}{σ:St}{H:Hp}{s:Ah}(I:Inv X (aa++pl) σ H s):Inv X aa σ H s:=I.pins_of fun p hp=>I.pin p (Ab _ (B9 _ hp))
theorem x9L{ae:Expr}{body:List Db}{wi:TI}{g:TG}{tb:TS}{pos:F2}(hp:L9 (B3 X.prog X.w) X.A X.env X.xe)(hc:X.calm=true)(hi:PI X tg ae wi)(hg:PG X tg g)(hb:PSs X body tb)(hs:∀x,Cn ae X.env x=Ck x:=by intro _;rfl):PS X (.For tg ae body [] pos) (w83 wi g tb):=by
 intro aa s σ H D I h;refine wpAny_For (thn (hi aa s σ H _ I h) fun v s1 h1=>thn h1 fun itv s2 h2=>?_) hs;obtain⟨it,fp,tn,J,H2,e,I2,T,cX,f2,W,⟨m0,w0⟩,turn⟩:=h2;subst e;have br:∀{H':Hp},(∀b∈fp,H' b=none)->∀b∈fp,x29 X aa H' b:=fun hn b hb=>⟨hn b hb,(f2 b hb).2⟩;refine codeAny_forLoop_any (fun n s'=>∃i σ' H',Inv X aa σ' H' s'/\tn i s'.heap/\(∀b∈fp,H' b=none)/\W i n σ' H') ?_ m0 ⟨0,σ,H2,I2,cX,fun b hb=>(f2 b hb).1,w0⟩
 rintro n s3 ⟨i,σ3,H3,I3,jc,fr3,w3⟩;rcases turn i n σ3 H3 w3 with⟨stop,qn⟩|⟨go,N,hN,step⟩
 ·refine Ex hp (thn (T.done X rfl rfl rfl hc i aa s3 σ3 H3 X.xe I3 (br fr3) jc stop) fun r s4 ⟨hr,I4⟩=>?_);subst hr;exact Iq ⟨σ3,H3,I4,qn⟩
 ·refine Ex hp (thn (T.item X rfl rfl rfl hc i aa s3 σ3 H3 X.xe I3 (br fr3) jc go) fun r s4 ⟨u,hr,h4⟩=>?_);subst hr;refine Ex hp (thn h4 fun _ s5 ⟨x,H5,I5,r5,y5,eW,fZ⟩=>?_);have I5':=I5.pinned (br fZ) (T.obj _ _ eW);refine Ex hp (thn (hg _ s5 σ3 H5 x u _ I5' r5 (step x H5 y5)) fun _ s6 ⟨σ6,H6,I6,q6⟩=>?_);refine Ex hp (thn (hb _ s6 σ6 H6 _ I6 q6) fun f s7 q7=>?_)
  have Lh:∀{σ7:St} {H7:Hp},Inv X (aa++y1C fp s5.heap) σ7 H7 s7->N σ7 H7->∃m,m<n/\∃i σ' H',Inv X aa σ' H' s7/\tn i s7.heap/\(∀b∈fp,H' b=none)/\W i m σ' H':=fun {σ7 H7} I7 n7=>by obtain⟨m',hm,w7⟩:=hN σ7 H7 n7;refine⟨m',hm,i+1,σ7,H7,I7.unpinned,T.keep _ _ _ eW fun b hb o e=>(I7.pin (b,o) (Ab _ (Ab _ (z20 hb e)))).1,fun b hb=>?_,w7⟩;obtain⟨o,e,d⟩:=T.obj _ _ eW b hb;exact(I7.pin (b,o) (Ab _ (Ab _ (z20 hb e)))).2.1
  cases f with
  |next=>obtain⟨σ7,H7,I7,n7⟩:=q7;exact Lh I7 n7
  |cont=>obtain⟨σ7,H7,I7,n7⟩:=q7;exact Lh I7 n7
  |brk=>obtain⟨σ7,H7,I7,q7⟩:=q7;exact⟨σ7,H7,I7.unpinned,q7⟩
  |ret v=>obtain⟨x7,σ7,H7,I7,r7,q7⟩:=q7;exact⟨x7,σ7,H7,I7.unpinned,r7,q7⟩
end
abbrev R2:=V->V->Hp->VK->Prop
def OpR(X:Cx)(f:A8->A8->Sem A8)(r:R2):Prop:=
 ∀(aa:Pns) (s:Ah) (σ:St) (H:Hp) (x y:V) (v u:A8) (Q:VK),Inv X aa σ H s->z01 x v->z01 y u->r x y H Q ->
  Aq (B3 X.prog X.w) X.A (f v u) (EP X aa σ Q) X.xe s
def UnR(X:Cx)(f:A8->Sem A8)(r:V->Hp->VK->Prop):Prop:=
 ∀(aa:Pns) (s:Ah) (σ:St) (H:Hp) (x:V) (v:A8) (Q:VK),Inv X aa σ H s->z01 x v->r x H Q ->
  Aq (B3 X.prog X.w) X.A (f v) (EP X aa σ Q) X.xe s
def z0X(X:Cx)(f:A8)(r:List V->Hp->VK->Prop):Prop:=
 ∀(aa:Pns) (s:Ah) (σ:St) (H:Hp) (xs:List V) (us:List A8) (Q:VK),Inv X aa σ H s->Y3 xs us->r xs H Q ->
  Aq (B3 X.prog X.w) X.A (call f us) (EP X aa σ Q) X.xe s
def w99(X:Cx)(r:V->Hp->(Bool->Hp->Prop)->Prop):Prop:=
 ∀(aa:Pns) (s:Ah) (σ:St) (H:Hp) (x:V) (v:A8) (Q:Bool->Hp->Prop),Inv X aa σ H s->z01 x v->r x H Q ->
  Aq (B3 X.prog X.w) X.A (M8 v) (TP X aa σ Q) X.xe s
noncomputable def tOp(r:R2)(ta tb:TE):TE:=fun σ H Q=>ta σ H fun x H1=>tb σ H1 fun y H2=>r x y H2 Q
noncomputable def tUn(r:V->Hp->VK->Prop)(ta:TE):TE:=fun σ H Q=>ta σ H fun x H1=>r x H1 Q
noncomputable def rI(C:Int->Int->Prop)(g:Int->Int->V):R2:=fun x y H Q=>∃i j,x = .int i/\y = .int j/\C i j/\Q (g i j) H
noncomputable def rI0(g:Int->Int->V):R2:=fun x y H Q=>∃i j,x = .int i/\y = .int j/\Q (g i j) H
noncomputable def rU(g:Int->V):V->Hp->VK->Prop:=fun x H Q=>∃i,x = .int i/\Q (g i) H
section
variable{X:Cx}{a b c:Expr}{ta tb tc:TE}{pos:F2}
theorem w7V(ha:PE X a ta)(hb:PE X b tb){aa:Pns}{s:Ah}{σ:St}{H:Hp}{R:V->V->Hp->Prop}(I:Inv X aa σ H s)(h:ta σ H fun x H1=>tb σ H1 fun y H2=>R x y H2){Q:VP}{f:A8->A8->Sem A8}(hf:∀v u s2 x y H2,Inv X aa σ H2 s2->z01 x v->z01 y u->R x y H2->Aq (B3 X.prog X.w) X.A (f v u) Q X.xe s2):
  Aq (B3 X.prog X.w) X.A (C0 a X.env) (fun v s₁=>Aq (B3 X.prog X.w) X.A (C0 b X.env) (fun u s₂=>Aq (B3 X.prog X.w) X.A (f v u) Q X.xe s₂) X.xe s₁) X.xe s:=by
 refine z14 (ha aa s σ H _ I h) fun v s1 x H1 I1 r1 q1=>?_;refine z14 (hb aa s1 σ H1 _ I1 q1) fun u s2 y H2 I2 r2 q2=>?_;exact hf v u s2 x y H2 I2 r1 r2 q2
theorem w51{op:M9}{r:R2}(ho:OpR X (Gd op) r)(ha:PE X a ta)(hb:PE X b tb):PE X (.BinOp a op b pos) (tOp r ta tb):=by intro aa s σ H Q I h;exact wpAny_BinOp (w7V ha hb I h fun v u s2 x y H2 I2 rx ry q=>ho aa s2 σ H2 x y v u Q I2 rx ry q)
theorem w76{op:UnaryOp}{r:V->Hp->VK->Prop}(ho:UnR X (unaryOp op) r)(ha:PE X a ta):PE X (.UnaryOp op a pos) (tUn r ta):=by intro aa s σ H Q I h;exact UnaryOp_ (z14 (ha aa s σ H _ I h) fun v s1 x H1 I1 r1 q1=>ho aa s1 σ H1 x v Q I1 r1 q1)
theorem opI{f:A8->A8->Sem A8}{C:Int->Int->Prop}{g:Int->Int->Int}(rule:∀(i j:Int) (t u:M6) (s:Ah) (Q:VP) (E:VP),C i j->Q (.int (g i j) s.toks) { s with toks:=s.toks+1 }->Aq (B3 X.prog X.w) X.A (f (.int i t) (.int j u)) Q E s):
  OpR X f (rI C fun i j=>.int (g i j)):=by
 intro aa s σ H x y v u Q I rx ry h;obtain⟨i,j,rfl,rfl,hc,q⟩:=h;obtain⟨t,rfl⟩:=rx;obtain⟨t',rfl⟩:=ry;exact rule i j t t' s _ _ hc ⟨.int (g i j),H,I.tok _,⟨_,rfl⟩,q⟩
theorem w8B{f:A8->A8->Sem A8}{g:Int->Int->Int}(rule:∀(i j:Int) (t u:M6) (s:Ah) (Q:VP) (E:VP),Q (.int (g i j) s.toks) { s with toks:=s.toks+1 }->Aq (B3 X.prog X.w) X.A (f (.int i t) (.int j u)) Q E s):
  OpR X f (rI0 fun i j=>.int (g i j)):=by
 intro aa s σ H x y v u Q I rx ry h;obtain⟨i,j,rfl,rfl,q⟩:=h;obtain⟨t,rfl⟩:=rx;obtain⟨t',rfl⟩:=ry;exact rule i j t t' s _ _ ⟨.int (g i j),H,I.tok _,⟨_,rfl⟩,q⟩
theorem w6E{f:A8->A8->Sem A8}{g:Int->Int->Bool}(rule:∀(i j:Int) (t u:M6) (s:Ah) (Q:VP) (E:VP),Q (.bool (g i j)) s->Aq (B3 X.prog X.w) X.A (f (.int i t) (.int j u)) Q E s):
  OpR X f (rI0 fun i j=>.bl (g i j)):=by
 intro aa s σ H x y v u Q I rx ry h;obtain⟨i,j,rfl,rfl,q⟩:=h;obtain⟨t,rfl⟩:=rx;obtain⟨t',rfl⟩:=ry;exact rule i j t t' s _ _ ⟨.bl (g i j),H,I,rfl,q⟩
def w8M(i j:Int):Prop:=0<j/\j<1073741824
def w69(i j:Int):Prop:=(-(2 ^ 64)<i/\i<2 ^ 64)∨(-(2 ^ 64)<j/\j<2 ^ 64)
theorem w69.ok{i j:Int}(h:w69 i j):IntMulOk i j:=by
 rcases h with⟨h1,h2⟩|⟨h1,h2⟩
 ·exact .of_left (intBits_le_64 h1 h2)
 ·exact .of_right (intBits_le_64 h1 h2)
theorem w5I:OpR X (Gd .Add) (rI0 fun i j=>.int (i+j)):=w8B fun _ _ _ _ _ _ _ q=>add_int q
theorem w5C:OpR X (Gd .Sub) (rI0 fun i j=>.int (i-j)):=w8B fun _ _ _ _ _ _ _ q=>sub_int q
theorem w5D:OpR X (Gd .Mult) (rI w69 fun i j=>.int (i*j)):=opI fun _ _ _ _ _ _ _ hc q=>mul_int q hc.ok
theorem w1Y:OpR X (Gd .FloorDiv) (rI w8M fun i j=>.int (i / j)):=opI fun i j _ _ _ _ _ hc q=>by have h1:(0:Int)<j:=hc.1;have h2:j<1073741824:=hc.2;exact floordiv_int (by omega) (by rw[Int.fdiv_eq_ediv_of_nonneg i (by omega)];exact q) (.inl (PyProof.noPylong_small (by omega)))
theorem w5E:OpR X (Gd .Mod) (rI (fun _ j=>0<j) fun i j=>.int (i % j)):=opI fun i j _ _ _ _ _ hc q=>by have h1:(0:Int)<j:=hc;exact mod_int' (by omega) (by rw[Int.fmod_eq_emod_of_nonneg i (by omega)];exact q)
theorem unI{f:A8->Sem A8}{g:Int->Int}(rule:∀(i:Int) (t:M6) (s:Ah) (Q:VP) (E:VP),Q (.int (g i) s.toks) { s with toks:=s.toks+1 }->Aq (B3 X.prog X.w) X.A (f (.int i t)) Q E s):
  UnR X f (rU fun i=>.int (g i)):=by
 intro aa s σ H x v Q I rx h;obtain⟨i,rfl,q⟩:=h;obtain⟨t,rfl⟩:=rx;exact rule i t s _ _ ⟨.int (g i),H,I.tok _,⟨_,rfl⟩,q⟩
theorem w3U:UnR X (unaryOp .USub) (rU fun i=>.int (-i)):=unI fun _ _ _ _ _ q=>neg_int q
theorem x0L:OpR X (Cs .Lt) (rI0 fun i j=>.bl (decide (i<j))):=w6E fun _ _ _ _ _ _ _ q=>lt_int q
theorem w79:OpR X (Cs .LtE) (rI0 fun i j=>.bl (decide (i≤j))):=w6E fun _ _ _ _ _ _ _ q=>le_int q
theorem w7A:OpR X (Cs .Gt) (rI0 fun i j=>.bl (decide (j<i))):=w6E fun _ _ _ _ _ _ _ q=>gt_int q
theorem w7B:OpR X (Cs .GtE) (rI0 fun i j=>.bl (decide (j≤i))):=w6E fun _ _ _ _ _ _ _ q=>ge_int q
theorem OpR.or{f:A8->A8->Sem A8}{r r':R2}(h:OpR X f r)(h':OpR X f r'):OpR X f (fun x y H Q=>r x y H Q∨r' x y H Q):=by
 intro aa s σ H x y v u Q I rx ry q;rcases q with q|q
 ·exact h aa s σ H x y v u Q I rx ry q
 ·exact h' aa s σ H x y v u Q I rx ry q
theorem z6M(b:Expr){op:Lf}(h:op≠.In:=by decide)(h2:op≠.NotIn:=by decide):Dd op b=false:=by
 have e1:(op==Lf.In)=false:=by cases op<;>first|rfl|exact absurd rfl h
 have e2:(op==Lf.NotIn)=false:=by cases op<;>first|rfl|exact absurd rfl h2
 cases b<;>simp[Dd,e1,e2]
theorem w1U{op:Lf}{r:R2}(ho:OpR X (Cs op) r)(ha:PE X a ta)(hb:PE X b tb)(hm:Dd op b=false):PE X (.Compare a [op] [b] pos) (tOp r ta tb):=by intro aa s σ H Q I h;exact wpAny_Compare1 (w7V ha hb I h fun v u s2 x y H2 I2 rx ry q=>ho aa s2 σ H2 x y v u Q I2 rx ry q) hm
noncomputable def w3X(t:TE):TT:=fun σ H Q=>t σ H fun x H'=>∃k,x = .bl k/\Q k H'
theorem y6G{op:Lf}{r:R2}(ho:OpR X (Cs op) r)(ha:PE X a ta)(hb:PE X b tb)(hm:Dd op b=false):PT X (.Compare a [op] [b] pos) (w3X (tOp r ta tb)):=by
 intro aa s σ H Q I h
 refine wpAny_isTrue_Compare1 (z14 (ha aa s σ H _ I h) fun v s1 x H1 I1 r1 q1=>z14 (hb aa s1 σ H1 _ I1 q1) fun u s2 y H2 I2 r2 q2=>
  z14 (ho aa s2 σ H2 x y v u _ I2 r1 r2 q2) fun c s3 z H3 I3 r3 ⟨k,e,q3⟩=>?_) hm
 subst e;cases r3;exact Cm ⟨H3,I3,q3⟩
noncomputable def x98(r r':R2)(ta tb tc:TE):TE:=fun σ H Q=>ta σ H fun x H1=>tb σ H1 fun y H2=>r x y H2 fun z H3=>∃k,z = .bl k /\
 (if k=true then tc σ H3 fun w' H4=>r' y w' H4 Q else Q (.bl false) H3)
theorem x7M{op gf:Lf}{r r':R2}(ho:OpR X (Cs op) r)(bU:OpR X (Cs gf) r')(ha:PE X a ta)(hb:PE X b tb)(hc:PE X c tc)(hm:lastMarks [op,gf] [b,c]=false:=by with_unfolding_all rfl):PT X (.Compare a [op,gf] [b,c] pos) (w3X (x98 r r' ta tb tc)):=by
 intro aa s σ H Q I h
 refine isTrue_chain (z14 (ha aa s σ H _ I h) fun v s1 x H1 I1 r1 q1=>test_link (z14 (hb aa s1 σ H1 _ I1 q1) fun u s2 y H2 I2 r2 q2=>
  z14 (ho aa s2 σ H2 x y v u _ I2 r1 r2 q2) fun d s3 z H3 I3 r3 ⟨k,e,q3⟩=>?_)) hm
 subst e;cases r3;refine Cm ?_
 cases k with
 |false=>obtain⟨k',e',q'⟩:=q3;cases e';exact ite_ff ⟨H3,I3,q'⟩
 |true=>refine ite_tt (test_last (z14 (hc aa s3 σ H3 _ I3 q3) fun w' s4 z' H4 I4 r4 q4=>z14 (bU aa s4 σ H4 y z' u w' _ I4 r2 r4 q4) fun d' s5 z2 H5 I5 r5 ⟨k2,e2,q5⟩=>?_));subst e2;cases r5;exact Cm ⟨H5,I5,q5⟩
def w8K(K:A5)(x:V)(H:Hp)(k:Bool):Prop:=
 match x with
 | .non=>k=false
 | .bl b=>k=b
 | .int i=>k=(i != 0)
 | .str y=>y.length≤sizeLine/\k=((y.length:Int) != 0)
 | .byt y=>y.size≤sizeLine/\k=((y.size:Int) != 0)
 | .ref p=>(∃xs,SqL K H p xs/\k = !xs.isEmpty)∨(∃xs,SqT K H p xs/\k = !xs.isEmpty)∨∃kvs,H p=some (.dK kvs)/\k = !kvs.isEmpty
 |_=>False
theorem x10{κ:Type}{kvs:List (κ×V)}{vs:List (κ×A8)}(r:KV kvs vs):(!vs.isEmpty) = !kvs.isEmpty:=by cases r<;>rfl
theorem y1L{xs:List V}{its:List A8}(r:Y3 xs its):(!its.toArray.isEmpty) = !xs.isEmpty:=by cases r<;>simp
theorem y1K:(sizeLine:Nat)<2 ^ 63:=by rw[C3];decide
theorem w3V:w99 X (fun x H Q=>∃k,w8K X.K x H k/\Q k H):=by
 intro aa s σ H x v Q I rx h;obtain⟨k,e,q⟩:=h;have hl:=y1K;have hs:sizeLine=16777216:=C3
 cases x with
 |non=>cases rx;have e':k=false:=e;subst e';exact truthy_none ⟨H,I,q⟩
 |bl b=>cases rx;have e':k=b:=e;subst e';exact Cm ⟨H,I,q⟩
 |int i=>obtain⟨t,rfl⟩:=rx;have e':k=(i != 0):=e;subst e';exact PySem.P.truthy_int ⟨H,I,q⟩
 |str y=>obtain⟨t,rfl⟩:=rx;obtain⟨hy,e'⟩:y.length≤sizeLine/\k=((y.length:Int) != 0):=e;subst e';exact PySem.P.truthy_str (by omega) ⟨H,I.tok _,q⟩
 |byt y=>obtain⟨t,rfl⟩:=rx;obtain⟨hy,e'⟩:y.size≤sizeLine/\k=((y.size:Int) != 0):=e;subst e';exact PySem.W.truthy_bytes (by omega) ⟨H,I.tok _,q⟩
 |ref p=>
  cases rx;have e':(∃xs,SqL X.K H p xs/\k = !xs.isEmpty)∨(∃xs,SqT X.K H p xs/\k = !xs.isEmpty)∨∃kvs,H p=some (.dK kvs)/\k = !kvs.isEmpty:=e;rcases e' with⟨xs,hx,e'⟩|⟨xs,hx,e'⟩|⟨kvs,hx,e'⟩
  ·subst e';obtain⟨its,r,pl,hz⟩:=I.list hx;have ab:=r.length;exact wpAny_truthy_list pl.isList (by simp only[Ag];omega) ⟨H,I.tok _,by rw[y1L r];exact q⟩
  ·subst e';obtain⟨its,r,pl,hz⟩:=I.tuple hx;have ab:=r.length;exact truthy_tuple pl (by simp only[Ag];omega) ⟨H,I.tok _,by rw[y1L r];exact q⟩
  ·subst e';obtain⟨hz,hS,vs,r,m⟩:kvs.length≤sizeLine/\(p==F8)=false/\∃vs,KV kvs vs/\s.heap.DictOf (z0C X.prog X.w) p vs:=I.hok p _ hx;have ab:kvs.length=vs.length:=Jr r;exact wpAny_truthy_dict hS m (by omega) ⟨H,I.tok _,by rw[x10 r];exact q⟩
 |_=>exact(show False from e).elim
theorem x7L(ha:PE X a ta)(he:∀aL,isTrue a X.env aL=(do let v ←aL;Jk a.pos;Gb [v] (M8 v))):
  PT X a (fun σ H Q=>ta σ H fun x H'=>∃k,w8K X.K x H' k/\Q k H'):=by
 intro aa s σ H Q I h;exact isTrue_plain (z14 (ha aa s σ H _ I h) fun v s1 x H1 I1 r1 q1=>w3V aa s1 σ H1 x v Q I1 r1 q1) (he _)
theorem z3K{x:V}{us:List A8}(r:Y3 [x] us):∃u,us=[u]/\z01 x u:=by
 cases r with
 |cons r1 r2=>cases r2;exact⟨_,rfl,r1⟩
theorem x2O{x y:V}{us:List A8}(r:Y3 [x,y] us):∃u w',us=[u,w']/\z01 x u/\z01 y w':=by
 cases r with
 |cons r1 r2=>
  cases r2 with
  |cons r3 r4=>cases r4;exact⟨_,_,rfl,r1,r3⟩
theorem y59(hc:X.calm=true):z0X X (.builtin "max") (fun xs H Q=>∃i j,xs=[.int i,.int j]/\Q (.int (if j>i then j else i)) H):=by
 intro aa s σ H xs us Q I r h;obtain⟨i,j,rfl,q⟩:=h;obtain⟨u,w',rfl,⟨t,rfl⟩,⟨t',rfl⟩⟩:=x2O r;refine max_two_ints (I.ok.hd hc) fun h' tk k=>⟨_,H,I.kept k,?_,q⟩;by_cases hj:j>i
 ·rw[if_pos hj,if_pos hj];exact⟨_,rfl⟩
 ·rw[if_neg hj,if_neg hj];exact⟨_,rfl⟩
theorem y57(hc:X.calm=true):z0X X (.builtin "min") (fun xs H Q=>∃i j,xs=[.int i,.int j]/\Q (.int (if j<i then j else i)) H):=by
 intro aa s σ H xs us Q I r h;obtain⟨i,j,rfl,q⟩:=h;obtain⟨u,w',rfl,⟨t,rfl⟩,⟨t',rfl⟩⟩:=x2O r;refine min_two_ints (I.ok.hd hc) fun h' tk k=>⟨_,H,I.kept k,?_,q⟩;by_cases hj:j<i
 ·rw[if_pos hj,if_pos hj];exact⟨_,rfl⟩
 ·rw[if_neg hj,if_neg hj];exact⟨_,rfl⟩
theorem x64:z0X X (.type "int") (fun xs H Q=>(∃i,xs=[.int i]/\Q (.int i) H)∨∃k,xs=[.bl k]/\Q (.int (if k then 1 else 0)) H):=by
 intro aa s σ H xs us Q I r h;rcases h with⟨i,rfl,q⟩|⟨k,rfl,q⟩
 ·obtain⟨u,rfl,t,rfl⟩:=z3K r;exact call_int_int ⟨.int i,H,I,⟨_,rfl⟩,q⟩
 ·obtain⟨u,rfl,r1⟩:=z3K r;cases r1;exact call_int_bool ⟨.int (if k then 1 else 0),H,I.tok _,⟨_,rfl⟩,q⟩
end
theorem x28.some_of{v:V}{o:Option A8}(r:x28 (some v) o):∃u,o=some u/\z01 v u:=by
 cases o with
 |none=>exact(show False from r).elim
 |some u=>exact⟨u,rfl,r⟩
structure Room(k:Nat)(A:By):Prop where
 hd:A.handled=none
 dp:A.depth+3*k+5<recursionLimit
 un:A.units+16*k+200<Cy
 gd:A.guards=some []
theorem Room.mono{j k:Nat}{A:By}(r:Room k A)(h:j≤k):Room j A:=⟨r.hd,by have:=r.dp;omega,by have:=r.un;omega,r.gd⟩
theorem Room.deeper{k:Nat}{A:By}(r:Room (k+1) A)(env:Ls):Room k (A.deeper env):=
 ⟨r.hd,by have:=r.dp;show A.depth+1+3*k+5<_;omega,by have:=r.un;show A.units+3+16*k+200<_;omega,r.gd⟩
theorem Room.in1{k:Nat}{A:By}(r:Room (k+1) A):Room k A.in1:=
 ⟨r.hd,by have:=r.dp;show A.depth+3*k+5<_;omega,by have:=r.un;show A.units+1+16*k+200<_;omega,r.gd⟩
theorem Room.depth{k:Nat}{A:By}(r:Room k A):A.depth<recursionLimit:=by have:=r.dp;omega
theorem Room.units{k:Nat}{A:By}(r:Room k A):A.units+64<Cy:=by have:=r.un;omega
theorem Room.units0{k:Nat}{A:By}(r:Room k A):A.units<Cy:=by have:=r.un;omega
noncomputable def w6B:TA:=fun _ H Q=>Q [] H
noncomputable def w0Z(ta:TE)(tr:TA):TA:=fun σ H Q=>ta σ H fun x H1=>tr σ H1 fun xs H2=>Q (x::xs) H2
section
variable{X:Cx}{e:Expr}{es:List Expr}{te:TE}{t:TA}{pos:F2}
theorem Y0:PA X [] w6B:=fun _ _ _ _ H Q I h=>Calls.spliced_nil ⟨[],H,I,.nil,h⟩
theorem g9(ha:PE X e te)(hr:PA X es t)(hs:Ac (e::es) X.env=(false,C0 e X.env)::Ac es X.env:=by rfl):PA X (e::es) (w0Z te t):=by intro pos aa s σ H Q I h;rw[hs];show Aq _ _ (spliced ((false,C0 e X.env)::Bs pos (Ac es X.env))) _ _ s;refine Calls.spliced_cons (z14 (ha aa s σ H _ I h) fun u s1 x H1 I1 r1 q1=>?_);exact z14 (hr pos aa s1 σ H1 _ I1 q1) fun us s2 xs H2 I2 r2 q2=>⟨x::xs,H2,I2,.cons r1 r2,q2⟩
def w8O(t:TA):TE:=fun σ H Q=>t σ H fun xs H1=>xs.length≤sizeLine/\∀p,H1 p=none->Q (.ref p) (upd H1 p (.tup xs))
def w82(t:TA):TE:=fun σ H Q=>t σ H fun xs H1=>xs.length≤sizeLine/\∀p,H1 p=none->Q (.ref p) (upd H1 p (.lst xs))
theorem w4Z{x1}(h:PA X es t):PE X (.Tuple es x1 pos) (w8O t):=by
 intro aa s σ H Q I hq;refine wpAny_Tuple_spliced (z14 (h pos aa s σ H _ I hq) fun us s1 xs H1 I1 r ⟨z,q⟩=>⟨by rw[←r.length];exact z,?_⟩)
 have hf:H1 s1.heap.objs.size=none:=I1.hok.fresh (Ak _);refine⟨.ref s1.heap.objs.size,upd H1 s1.heap.objs.size (.tup xs),I1.laid (t':=s1.toks) (fun b u e=>Aa _ e) (Ak _) ?_,rfl,q _ hf⟩;exact⟨z,us,r,⟨_,At _ rfl,rfl,⟨_,rfl⟩,rfl⟩⟩
theorem x9O(h:PA X es t):PE X (.List es pos) (w82 t):=by
 intro aa s σ H Q I hq;refine wpAny_List_spliced (z14 (h pos aa s σ H _ I hq) fun us s1 xs H1 I1 r ⟨z,q⟩=>⟨by rw[←r.length];exact z,?_⟩)
 have hf:H1 s1.heap.objs.size=none:=I1.hok.fresh (Ak _);refine⟨.ref s1.heap.objs.size,upd H1 s1.heap.objs.size (.lst xs),I1.laid (t':=s1.toks) (fun b u e=>Aa _ e) (Ak _) ?_,rfl,q _ hf⟩;exact⟨z,us,0,r,At _ rfl⟩
end
abbrev Sp:=List V->Hp->VK->XK->Prop
abbrev CXT:=List Ls->Hp->Ah->XK->VP
structure Env0(P:Bo)(w:C8)(K:A5)(mg:Bb->Option A8)(base:C5)(A:By)(outer:List Ls)(s:Ah)(H:Hp):Prop where
 frames:A.frames=some outer
 mod:Mod K mg base
 bs:∀b o,base.get? b=some o->s.heap.get? b=some o/\H b=none
 bsz:base.objs.size≤s.heap.objs.size
 funs:s.heap.FunFrames base outer
 frf:∀b∈frs outer,H b=none
 hok:HOk P w H s.heap
 bare:Iv s.gens
def CE(outer:List Ls)(P:Bo)(w:C8)(H:Hp)(s:Ah)(Q:VK)(u:A8)(s':Ah):Prop:=∃v H',s'.os=s.os/\Iv s'.gens/\Un (frs outer) [] H H' s.heap s'.heap/\HOk P w H' s'.heap/\z01 v u/\Q v H'
def CR(CX:CXT)(outer:List Ls)(P:Bo)(w:C8)(H:Hp)(s:Ah)(Q:VK)(E:XK)(r:Js)(s':Ah):Prop:=
 match r with
 | .ok (.ret u)=>CE outer P w H s Q u s'
 | .ok _=>False
 | .error e=>CX outer H s E e s'
structure FnOk(P:Bo)(w:C8)(K:A5)(mg:Bb->Option A8)(base:C5)(CX:CXT)(k:Nat)(f:Ap)(fd:Ep)(ps:List Bb)(sp:Sp):Prop where
 len:∀vs H Q E,sp vs H Q E->vs.length=ps.length
 run:∀(A:By) (outer:List Ls) (s:Ah) (H:Hp) (args:Args) (us:List A8) (vs:List V) (Q:VK) (E:XK),Room k A->Env0 P w K mg base A outer s H->Lt s fd args (ps.zip us)->Y3 vs us->sp vs H Q E ->
  Dl (B3 P w) A (.call (.ref f) args) (CR CX outer P w H s Q E) s
theorem FnOk.mono{P:Bo}{w:C8}{K:A5}{mg:Bb->Option A8}{base:C5}{CX:CXT}{j k:Nat}{f:Ap}{fd:Ep}{ps:List Bb}{sp:Sp}(F:FnOk P w K mg base CX j f fd ps sp)(h:j≤k):
  FnOk P w K mg base CX k f fd ps sp:=⟨F.len,fun A outer s H args us vs Q E hr=>F.run A outer s H args us vs Q E (hr.mono h)⟩
section
variable{X:Cx}{aa:Pns}{σ:St}{H:Hp}{s s':Ah}
theorem Inv.env0(I:Inv X aa σ H s):Env0 X.prog X.w X.K X.mg X.base X.A X.stack s H:=
 ⟨I.ok.frames,I.ok.mod,I.bs,Bk I.ok.bsz I.sz,I.stack,I.stkFree,I.hok,I.bare⟩
theorem Inv.after{Q:VK}{u:A8}(I:Inv X aa σ H s)(h:CE X.stack X.prog X.w H s Q u s'):EP X aa σ Q u s':=by
 obtain⟨v,H',os,bare,un,hok,r,q⟩:=h;obtain⟨hh,g,d,t,os'⟩:=s'
 obtain rfl:os'=s.os:=os
 exact⟨v,H',I.call (h':=hh) (g':=g) (d':=d) (t':=t) (ch:=[]) un hok bare (fun b z=>absurd z (by simp)),r,q⟩
end
noncomputable def w6R(sp:Sp)(fq:List V)(E:XK)(t:TA):TE:=fun σ H Q=>t σ H fun vs H1=>sp (vs++fq) H1 Q E
def y7V(K:A5)(fd:Ep)(ps:List Bb)(ds:List A8):Prop:=∀(s:Ah) (us:List A8),K.In s.heap->(us++ds).length=ps.length->Lt s fd ⟨us,[]⟩ (ps.zip (us++ds))
theorem y7V.all{K:A5}{fd:Ep}{ps:List Bb}(h:∀us:List A8,us.length=ps.length->Ge fd ⟨us,[]⟩=Ck (ps.zip us)):y7V K fd ps []:=fun s us _ hl=>by rw[Ch]at hl ⊢;exact .of_eq (h us hl)
def x6F(CX:CXT)(X:Cx)(E:XK):Prop:=∀(aa:Pns) (σ:St) (H:Hp) (s:Ah) (e:A8) (s':Ah),Inv X aa σ H s->CX X.stack H s E e s'->X.xe e s'
section
variable{X:Cx}{CX:CXT}{k:Nat}{f C:Ap}{fd:Ep}{ps:List Bb}{sp:Sp}{fq:List V}{ds:List A8}{E:XK}{x m:Bb}{p pos cj:F2}{e o:Expr}{es:List Expr}{ta:TE}{t:TA}
theorem w47{aa:Pns}{σ:St}{H:Hp}{s:Ah}{Q:VK}{us:List A8}{vs:List V}(F:FnOk X.prog X.w X.K X.mg X.base CX k f fd ps sp)(hr:Room k X.A)(hb:y7V X.K fd ps ds)(hd:Y3 fq ds)(hx:x6F CX X E)(I:Inv X aa σ H s)(r:Y3 vs us)(h:sp (vs++fq) H Q E):Aq (B3 X.prog X.w) X.A (call (.ref f) us) (EP X aa σ Q) X.xe s:=by
 have r2:Y3 (vs++fq) (us++ds):=r.append hd
 have hl:(us++ds).length=ps.length:=by rw[←r2.length];exact F.len _ _ _ _ h
 refine Mc (Iw (F.run X.A X.stack s H ⟨us,[]⟩ (us++ds) (vs++fq) Q E hr I.env0 (hb s us I.kIn hl) r2 h) fun r s' hq=>?_)
 cases r with
 |error e=>exact hx aa σ H s e s' I hq
 |ok fl=>
  cases fl with
  |ret u=>exact I.after hq
  |next=>exact F9 hq
  |brk=>exact F9 hq
  |cont=>exact F9 hq
theorem w1V(F:FnOk X.prog X.w X.K X.mg X.base CX k f fd ps sp)(hr:Room k X.A)(hg:Gl X x)(hm:X.mg x=some (.ref f))(hk:Fh X.K (.ref f)=true)(hb:y7V X.K fd ps ds)(hd:Y3 fq ds)(hx:x6F CX X E)(ha:PA X (e::es) t)(bC:(x==("__debug__":Bb))=false:=by decide)(he:Ac (e::es) X.env=(false,C0 e X.env)::Ac es X.env:=by rfl)(ah:(Bs pos (Ac es X.env)).any (·.1)=false:=by rfl):
  PE X (.Call (.Name x p) (e::es) [] pos) (w6R sp fq E t):=by
 intro aa s σ H Q I h;refine E7 (x4L I hg hm ?_ bC);refine PySem.W.callWith_K (h₀:=X.base) I.ok.mod.kin hk (z14 (ha pos aa s σ H _ I h) fun us s1 vs H1 I1 r q=>⟨I1.kIn,?_⟩) he ah;exact w47 F hr hb hd hx I1 r q
end
structure FnScope(N P:List Bb)(sc:Scope):Prop where
 kind:sc.kind = .function
 co:sc.isCoroutine=false
 gen:sc.isGenerator=false
 nd:N.Nodup
 pre:N.take P.length=P
 par:∀x∈P,sc.names.lookup x=some .local∨sc.names.lookup x=some .cell
 nofree:∀y∈sc.names,y.2≠.free
theorem y5D{kindOf:Bb->Option Gf}{x:Bb}:∀{binds:List (Bb×A8)} {m:Bb->Option A8},(∀v,(x,v)∉binds)->Md kindOf binds m x=m x
 | [],_,_=>rfl
 | (n,v)::r,m,h=>by
  unfold Md;rw[y5D fun w hw=>h w (A7 _ hw)];split
  ·have:x≠n:=by rintro rfl;exact h v A6
   simp[this]
  ·rfl
theorem y5F{kindOf:Bb->Option Gf}{x:Bb}:∀{binds:List (Bb×A8)} {m:Bb->Option A8},(∀v,(x,v)∉binds)->Me kindOf binds m x=m x
 | [],_,_=>rfl
 | (n,v)::r,m,h=>by
  unfold Me;rw[y5F fun w hw=>h w (A7 _ hw)];split
  ·rfl
  ·have:x≠n:=by rintro rfl;exact h v A6
   simp[this]
theorem y5E{kindOf:Bb->Option Gf}{x:Bb}{v:A8}:∀{P:List Bb} {vs:List A8} {i:Nat} {m:Bb->Option A8},P.Nodup->P[i]?=some x->vs[i]?=some v->kindOf x=some .local ->
  Md kindOf (P.zip vs) m x=some v
 | [],_,_,_,_,h,_,_=>by simp at h
 |_::_,[],_,_,_,_,h,_=>by simp at h
 |p::P,w::vs,0,m,nd,h1,h2,hk=>by simp at h1 h2;subst h1;subst h2;show Md kindOf ((p,w)::P.zip vs) m p=_;unfold Md;rw[y5D fun v hv=>(Bz.mp nd).1 (Hc hv).1,if_pos hk];simp
 |p::P,w::vs,i+1,m,nd,h1,h2,hk=>by show Md kindOf ((p,w)::P.zip vs) m x=_;unfold Md;exact y5E (i:=i) (Bz.mp nd).2 (by simpa using h1) (by simpa using h2) hk
theorem y5G{kindOf:Bb->Option Gf}{x:Bb}{v:A8}:∀{P:List Bb} {vs:List A8} {i:Nat} {m:Bb->Option A8},P.Nodup->P[i]?=some x->vs[i]?=some v->kindOf x≠some .local ->
  Me kindOf (P.zip vs) m x=some v
 | [],_,_,_,_,h,_,_=>by simp at h
 |_::_,[],_,_,_,_,h,_=>by simp at h
 |p::P,w::vs,0,m,nd,h1,h2,hk=>by simp at h1 h2;subst h1;subst h2;show Me kindOf ((p,w)::P.zip vs) m p=_;unfold Me;rw[y5F fun v hv=>(Bz.mp nd).1 (Hc hv).1,if_neg hk];simp
 |p::P,w::vs,i+1,m,nd,h1,h2,hk=>by show Me kindOf ((p,w)::P.zip vs) m x=_;unfold Me;exact y5G (i:=i) (Bz.mp nd).2 (by simpa using h1) (by simpa using h2) hk
noncomputable def start(N:List Bb)(vs:List V):St:=vs.map some++B1 (N.length-vs.length) none
noncomputable def x1H(CX:CXT)(P:Bo)(w:C8)(K:A5)(mg:Bb->Option A8)(base:C5)(N:List Bb)(qual:Bb)(scope:Scope)(f:Ap)(cd:A8)(A:By)(outer:List Ls)(s:Ah)(H:Hp)(E:XK):Cx where
 prog:=P
 w:=w
 K:=K
 mg:=mg
 base:=base
 A:=A.deeper (Is qual scope s.heap.objs.size f cd)
 N:=N
 s₀:=s
 H₀:=H
 env:=Is qual scope s.heap.objs.size f cd
 outer:=outer
 stack:=Is qual scope s.heap.objs.size f cd::outer
 ex:=[]
 calm:=true
 fn:=fun _=>true
 pn:=[]
 xe:=fun e s'=>Aq (B3 P w) (A.deeper (Is qual scope s.heap.objs.size f cd)) (leaving (Is qual scope s.heap.objs.size f cd) e) (fun _ bt=>CX outer H s E e bt) (fun e' bt=>CX outer H s E e' bt) s'
theorem y9P{sc:Scope}{n:Nat}{x:Bb}(h:sc.names.lookup x=some .cell):∃c,(Gn n sc.names []).lookup x=some c:=by have q:=PySem.W.cellsFrom_some sc.names n [] (.inl h);exact Ea.mp q
theorem x50{CX:CXT}{P:Bo}{w:C8}{K:A5}{mg:Bb->Option A8}{base:C5}{N ps:List Bb}{qual:Bb}{scope:Scope}{f:Ap}{cd:A8}{A:By}{outer:List Ls}{s s1:Ah}{H:Hp}{E:XK}{us:List A8}{vs:List V}(S:FnScope N ps scope)(hd:A.handled=none)(e0:Env0 P w K mg base A outer s H)(hl:vs.length=ps.length)(r:Y3 vs us)(x:InCallC s s.heap.objs.size (Md (Is qual scope s.heap.objs.size f cd).kindOf (ps.zip us) fun _=>none) (Gn (s.heap.objs.size+1) scope.names []) (Me (Is qual scope s.heap.objs.size f cd).kindOf (ps.zip us) fun _=>none) s1):
  Inv (x1H CX P w K mg base N qual scope f cd A outer s H E) [] (start N vs) H s1:=by
 have ah:ps.length≤N.length:=by have:=congrArg Fq S.pre;rw[Fi]at this;omega
 obtain⟨h1,tk,rfl,hk⟩:=x.done;have eU:∀b:Ap,b∉(x1H CX P w K mg base N qual scope f cd A outer s H E).ex:=fun b z=>absurd (show b∈([]:List Ap) from z) (by simp)
 refine⟨⟨e0.mod,S.kind,rfl,rfl,Ak _,fun y z c h1 h2=>?_,fun y hy=>?_,fun y c _ h=>?_,fun _=>hd,By.frames_deeper e0.frames,.inr ⟨rfl,rfl⟩,fun b z=>absurd z (eU b),e0.bs,e0.bsz,fun b _ _=>eU b,fun b z=>absurd z (eU b),e0.funs,e0.frf⟩,
  rfl,e0.bare,Un.kept hk,⟨_,x.toInCall.ns,fun i y v h1 h2 h3=>?_⟩,fun y c h=>⟨_,x.cell y c h⟩,e0.hok.fresh (Ak _),fun y c h=>?_,fun p hp=>absurd (show p∈([]:Pns) from hp) (by simp),e0.hok.kept hk,?_⟩
 ·exact name_of_addr x.apart (Bt h1) (Bt h2)
 ·have hy:scope.names.lookup y=some .cell∨scope.names.lookup y=some .free:=hy;rcases hy with hy|hy
  ·exact y9P hy
  ·exact absurd rfl (S.nofree _ (Bt hy))
 ·exact D8 (x.above y c (Bt h))
 ·have hi:i<vs.length:=by
   unfold start at h2;by_cases hi:i<vs.length
   ·exact hi
   ·rw[List.getElem?_append_right (by simpa using hi)]at h2;rw[List.getElem?_replicate]at h2;split at h2<;>cases h2
  have ha:vs[i]?=some v:=by
   unfold start at h2;rw[Dg (by simpa using hi),Au]at h2
   cases e:vs[i]? with
   |none=>rw[e]at h2;cases h2
   |some a=>rw[e]at h2;cases h2;rfl
  obtain⟨u,hu,rv⟩:=r.get ha
  have hp:ps[i]?=some y:=by rw[←S.pre,List.getElem?_take_of_lt (by omega)];exact h1
  have ndP:ps.Nodup:=by rw[←S.pre];exact S.nd.sublist (Jl _ _)
  refine⟨u,rv,?_⟩;rcases S.par y (Dp hp) with k|k
  ·exact .inl ⟨k,y5E ndP hp hu k⟩
  ·obtain⟨c,e⟩:=y9P (n:=s.heap.objs.size+1) k;refine .inr ⟨.inl k,c,e,?_⟩;have q:=x.cell y c e;rw[y5G ndP hp hu (by show scope.names.lookup y≠_;rw[k];decide)]at q
   exact q
 ·exact e0.hok.fresh (D8 (x.above y c (Bt h)))
 ·unfold start;show _=N.length;rw[Ad,A0,Cd];omega
theorem w60{CX:CXT}{P:Bo}{w:C8}{K:A5}{mg:Bb->Option A8}{base:C5}{k:Nat}{f:Ap}{name qual:Bb}{params:Ja}{body:List Db}{scope:Scope}{dV kV av pm am ct oc:A8}{an od:Option Ap}{dO:Array (Option A8)}{N ps:List Bb}{sp:Sp}(lk:K.lookup f=some ⟨oc,od,.func (Dm name qual params body scope dV kV av pm an am ct),dO⟩)(aV:Hs K am qual=true)(S:FnScope N ps scope)(len:∀vs H Q E,sp vs H Q E->vs.length=ps.length)
  (ap:∀(A:By) (outer:List Ls) (s:Ah) (H:Hp) (vs:List V) (Q:VK) (E:XK),Room k (A.deeper (Is qual scope s.heap.objs.size f am))->sp vs H Q E ->
   ∃t,PSs (x1H CX P w K mg base N qual scope f am A outer s H E) body t/\t { nx:=fun _ H'=>Q .non H',rt:=Q } (start N vs) H):
  FnOk P w K mg base CX (k+1) f (Dm name qual params body scope dV kV av pm an am ct) ps sp:=by
 refine⟨len,fun A outer s H args us vs Q E hr e0 hb r fC=>?_⟩;have hl:=len _ _ _ _ fC;have KX:K.In s.heap:=e0.mod.kin.keeps fun b o e=>(e0.bs b o e).1;have lim:s.heap.NoLimit:=e0.mod.nolimit.keeps fun b o e=>(e0.bs b o e).1
 have dR:∀y∈ps.zip us,scope.names.lookup y.1=some .local∨(scope.names.lookup y.1=some .cell/\((Gn (s.heap.objs.size+1) scope.names []).lookup y.1).isSome=true):=fun ⟨n,v⟩ hy=>by
  rcases S.par n (Hc hy).1 with q|q
  ·exact .inl q
  ·exact .inr ⟨q,PySem.W.cellsFrom_some _ _ _ (.inl q)⟩
 refine codeAny_call_function hr.depth (KX _ _ lk) rfl S.co S.gen rfl (PySem.W.codeRec_of KX aV) (hb _ _ _ _ ?_);refine wpAny_newFunctionEnv_cells S.kind dR fun env he s1 x=>?_;subst he;refine⟨lim.keeps x.toInCall.keep,codeAny_func ?_⟩;obtain⟨t,ht,hq⟩:=ap A outer s H vs Q E (hr.deeper _) fC;have I:Inv (x1H CX P w K mg base N qual scope f am A outer s H E) [] (start N vs) H s1:=x50 S hr.hd e0 hl r x
 refine Ce (ht [] s1 (start N vs) H _ I hq) (fun fl s' hs=>?_) fun e s' hs=>hs
 have fin:∀{σ':St} {H':Hp} {v:V} {u:A8},Inv (x1H CX P w K mg base N qual scope f am A outer s H E) [] σ' H' s'->z01 v u->Q v H'->CE outer P w H s Q u s':=fun {σ' H' v u} J rv q=>⟨v,H',J.os,J.bare,J.base,J.hok,rv,q⟩
 cases fl with
 |ret u=>obtain⟨v,σ',H',J,rv,q⟩:=hs;exact fin J rv q
 |next=>obtain⟨σ',H',J,q⟩:=hs;exact fin (v:=V.non) (u:=C9) J rfl q
 |brk=>obtain⟨_,_,_,q⟩:=hs;exact F9 q
 |cont=>obtain⟨_,_,_,q⟩:=hs;exact F9 q
section
variable{X:Cx}{x:Bb}{p pos:F2}{e:Expr}{es:List Expr}{t:TA}{id T:String}{r:List V->Hp->VK->Prop}
noncomputable def tCB(r:List V->Hp->VK->Prop)(t:TA):TE:=fun σ H Q=>t σ H fun vs H1=>r vs H1 Q
theorem z1V(hc:z0X X (.builtin id) r)(hg:Gl X x)(hm:X.mg x=none)(hv:B5 x=some (.builtin id))(ha:PA X (e::es) t)(hn:x≠"__name__":=by decide)(bC:(x==("__debug__":Bb))=false:=by decide)(he:Ac (e::es) X.env=(false,C0 e X.env)::Ac es X.env:=by rfl)(ah:(Bs pos (Ac es X.env)).any (·.1)=false:=by rfl):PE X (.Call (.Name x p) (e::es) [] pos) (tCB r t):=by intro aa s σ H Q I h;refine E7 (z37 I hg hm hv ?_ hn bC);exact PyProof.Rows.callWith_builtin1 (z14 (ha pos aa s σ H _ I h) fun us s1 vs H1 I1 r1 q1=>hc aa s1 σ H1 vs us Q I1 r1 q1) he ah
theorem z0M(hc:z0X X (.type T) r)(hg:Gl X x)(hm:X.mg x=none)(hv:B5 x=some (.type T))(ha:PA X (e::es) t)(hn:x≠"__name__":=by decide)(bC:(x==("__debug__":Bb))=false:=by decide)(he:Ac (e::es) X.env=(false,C0 e X.env)::Ac es X.env:=by rfl)(ah:(Bs pos (Ac es X.env)).any (·.1)=false:=by rfl):PE X (.Call (.Name x p) (e::es) [] pos) (tCB r t):=by intro aa s σ H Q I h;refine E7 (z37 I hg hm hv ?_ hn bC);exact Du (z14 (ha pos aa s σ H _ I h) fun us s1 vs H1 I1 r1 q1=>hc aa s1 σ H1 vs us Q I1 r1 q1) he ah
end
end L2
namespace HT
open PySem PyProof.Rows
noncomputable def lexLt:List Int->List Int->Bool
 | [],[]=>false
 | [],_::_=>true
 |_::_,[]=>false
 |x::xs,y::ys=>if x=y then lexLt xs ys else decide (x<y)
theorem lexLt_cons(x y:Int)(xs ys:List Int):lexLt (x::xs) (y::ys)=if x=y then lexLt xs ys else decide (x<y):=rfl
theorem lexLt_nil_nil:lexLt [] []=false:=rfl
theorem z5H(y:Int)(ys:List Int):lexLt [] (y::ys)=true:=rfl
theorem z5I(x:Int)(xs:List Int):lexLt (x::xs) []=false:=rfl
theorem y9J(A:By)(s:Ah)(a:Int)(t:M6)(c:Int)(u:M6):∃e,Ln A s (.int a t) (.int c u) e/\(e=true↔a=c):=
 ⟨(a==c),Ln.int_int a t c u,by simp⟩
theorem x7I(A:By)(s:Ah)(a:Int)(t:M6)(c:Int)(u:M6)(prog:Bo)(w:C8)(E:VP)(Q:VP)(h:Q (.bool (decide (a<c))) s):
  Aq (B3 prog w) A (Dz .Lt (.int a t) (.int c u)) Q E s:=
 (PyProof.Rows.lt_int h:Aq (B3 prog w) A (Cs .Lt (.int a t) (.int c u)) Q E s)
section
open PySem.SeqAt
open PySem.AutoSeq1 (wpAny_loadPart')
open PySem.MeetsSeq PySem.MeetsSeq2 PySem.MeetsSeq3
theorem y1Z(l b:Ap)(items ak:Array A8)(n n2:Nat)(dd cB:Option Ap)(sl cI:Array (Option A8))(ns ms:List Int)(hi:C4 items.toList ns)(hj:C4 ak.toList ms):
  Mf (Df.«tuple.__lt__» ⟨[.ref l,.ref b],[]⟩)
   (fun _ R s=>s.heap.get? l=some { cls:=.type "tuple",dict:=dd,data:=.seq items n,slots:=sl }/\s.heap.get? b=some { cls:=.type "tuple",dict:=cB,data:=.seq ak n2,slots:=cI } /\
    R (.ok (.ret (.bool (lexLt ns ms)))) s):=
 .of_wp fun prog w A R s h=>by
  obtain⟨hp,g,d,tk,os⟩:=s;obtain⟨hl,hb,h⟩:=h;have f2:=AutoSeq1.sub_tuple_tuple
  have z1:items.size=ns.length:=by rw[←hi.length];simp
  have z2:ak.size=ms.length:=by rw[←hj.length];simp
  wp_walk using Fy hl,Fy hb,Jw _ (fun rest b s'=>b.1=none/\s'=⟨hp,g,d,tk,os⟩/\∃(vs ws:List A8) (bF bI:List Int),rest=vs.zip ws /\
   C4 vs bF/\C4 ws bI/\bF.length+ak.size=bI.length+items.size/\R (.ok (.ret (.bool (lexLt bF bI)))) ⟨hp,g,d,tk,os⟩) _
  case turn=>
   rintro ⟨y,x⟩ rest b s' ⟨aU,rfl,vs,ws,bF,bI,hz,fL,eX,ab,hR⟩
   cases fL with
   |nil=>rw[List.zip_nil_left]at hz;cases hz
   |cons a t hvi'=>
    cases eX with
    |nil=>rw[Jd]at hz;cases hz
    |cons c u hwi'=>
     rw[E8]at hz;injection hz with hyx hrest;injection hyx with hy hx;subst hy hx;rw[lexLt_cons]at hR;simp only[Ay]at ab;obtain⟨e,he,dM⟩:=y9J A.in1 ⟨hp,g,d,tk,os⟩ a t c u;refine A4 (he prog w _ _ ?_)
     cases e with
     |true=>
      rw[if_pos (dM.mp rfl)]at hR
      wp_walk
      exact⟨rfl,rfl,_,_,_,_,hrest,hvi',hwi',by omega,hR⟩
     |false=>
      rw[if_neg (fun q=>absurd (dM.mpr q) B0)]at hR;have hri:=x7I A.in1 ⟨hp,g,d,tk,os⟩ a t c u prog w
      wp_walk using hri
      exact⟨_,rfl,by simpa using hR⟩
  case fin=>
   rintro ⟨b1,b2⟩ s' ⟨aU,rfl,vs,ws,bF,bI,hz,fL,eX,ab,hR⟩;simp only at aU;subst aU
   have hv:lexLt bF bI=decide (items.size<ak.size):=by
    cases fL with
    |nil=>
     cases eX with
     |nil=>simp only[Cv]at ab;rw[lexLt_nil_nil];exact(decide_eq_false (by omega)).symm
     |cons c u hw=>simp only[Cv,Ay]at ab;rw[z5H];exact(decide_eq_true (by omega)).symm
    |cons a t hv=>
     cases eX with
     |nil=>simp only[Cv,Ay]at ab;rw[z5I];exact(decide_eq_false (by omega)).symm
     |cons c u hw=>rw[E8]at hz;cases hz
   rw[hv]at hR
   wp_walk
   exact⟨_,rfl,by simpa [Df.Tuple.tupleCompareSizes] using hR⟩
  case h=>exact⟨rfl,rfl,items.toList,ak.toList,ns,ms,rfl,hi,hj,by omega,h⟩
end
section
variable{prog:Bo}{w:C8}{A:By}{E:VP}{s:Ah}
theorem lt_tupInts{l b:Ap}{items ak:Array A8}{ns ms:List Int}{Q:VP}(hl:Kx s.heap l items)(hb:Kx s.heap b ak)(hi:C4 items.toList ns)(hj:C4 ak.toList ms)(hu:A.units<Cy)(h:Q (.bool (lexLt ns ms)) s):Aq (B3 prog w) A (Cs .Lt (.ref l) (.ref b)) Q E s:=by
 obtain⟨⟨cls,dd,data,sl⟩,ho,hc,n,hd⟩:=id hl;obtain⟨⟨eJ,cB,data2,cI⟩,cb,bf,n2,bv⟩:=id hb;simp only at hc hd bf bv;subst hc hd bf bv
 exact richCompare_meets_room (op:=.Lt) ⟨_,ho,rfl⟩ ⟨_,cb,rfl⟩ PySem.F.slot_tuple_lt PySem.F.entry_tuple_lt (PySem.F.args_tuple_lt_2 _ _) (y1Z l b items ak n n2 dd cB sl cI ns ms hi hj)
  ⟨ho,cb,show Lo (lexLt ns ms)≠Ik/\Q (.bool (lexLt ns ms)) s from ⟨(fun x=>nomatch x),h⟩⟩ hu
theorem cat_tup{t b:Ap}{vs ws:List A8}{Q:VP}(ht:Kx s.heap t vs.toArray)(hb:Kx s.heap b ws.toArray)(hv:vs≠[])(h1:ws=[]->Q (.ref t) s)(h2:ws≠[]->Q (.ref s.heap.objs.size) { s with heap:=s.heap.push { cls:=.type "tuple",data:=.seq (vs++ws).toArray } })(hsz:vs.length+ws.length≤sizeLine):Aq (B3 prog w) A (Gd .Add (.ref t) (.ref b)) Q E s:=by
 obtain⟨⟨cls,dd,data,sl⟩,ho,hc,n,hd⟩:=id ht;obtain⟨⟨eJ,cB,data2,cI⟩,cb,bf,n2,bv⟩:=id hb;simp only at hc hd bf bv;subst hc hd bf bv
 have e:vs.toArray++ws.toArray=(vs++ws).toArray:=by simp
 by_cases hw:ws=[]
 ·exact Kh ⟨_,ho,rfl⟩ ⟨_,cb,rfl⟩ Jx Li Ht Hk (Gz _ _)
   (tuple_addW1 t b vs.toArray ws.toArray n n2 dd cB sl cI (by simpa using hv) (by simp[hw])) ⟨ho,cb,h1 hw⟩
 ·refine Kh ⟨_,ho,rfl⟩ ⟨_,cb,rfl⟩ Jx Li Ht Hk (Gz _ _)
   (tuple_addW2 t b vs.toArray ws.toArray n n2 dd cB sl cI (by simpa using hv) (by simpa using hw) (by rw[Ag,Ag];exact hsz)) ⟨ho,cb,?_⟩
  rw[e];exact h2 hw
noncomputable def sIx(n d:Nat):Option Int->Nat
 |none=>d
 |some v=>if v<0 then (v+(n:Int)).toNat else Ip v.toNat n
theorem w46(n d:Nat)(hd:d≤n)(o:Option Int):sIx n d o≤n:=by
 cases o with
 |none=>exact hd
 |some v=>
  show (if v<0 then (v+(n:Int)).toNat else Ip v.toNat n)≤n;by_cases hv:v<0
  ·rw[if_pos hv];omega
  ·rw[if_neg hv];exact Nat.min_le_right _ _
theorem x5Y(v:Int)(n d:Nat):(if v<0 then Lu (v+(n:Int)) 0 else Ip v (n:Int))=((sIx n d (some v):Nat):Int):=by
 show (if v<0 then Lu (v+(n:Int)) 0 else Ip v (n:Int))=(((if v<0 then (v+(n:Int)).toNat else Ip v.toNat n):Nat):Int);by_cases hv:v<0
 ·simp only[if_pos hv];omega
 ·simp only[if_neg hv];omega
theorem x1V(lo hi:Option Int)(n:Nat):Gt lo hi 1 (n:Int)=(((sIx n 0 lo:Nat):Int),((sIx n n hi:Nat):Int)):=by
 have h1:¬((1:Int)<0):=by omega
 unfold Gt;simp only[h1,if_false];refine Mg ?_ ?_
 ·cases lo with
  |none=>rfl
  |some v=>exact x5Y v n 0
 ·cases hi with
  |none=>rfl
  |some v=>exact x5Y v n n
theorem x0J(i j:Nat):Et (i:Int) (j:Int) 1=j-i:=by
 unfold Et
 have h1:(1:Int)>0:=by omega
 simp only[h1,if_true,Int.ediv_one]
 split<;>omega
theorem y18{v:A8}{o:Option Int}{Q:Option Int->Ah->Prop}(p:Lp v o)(h:Q o s):Aq (B3 prog w) A (Df.Slice.slicePartIndex v) Q E s:=by
 cases p with
 |none=>exact slicePart_none h
 |int i t=>exact slicePart_int h
theorem z8C{sl:Ap}{vl vu:A8}{lo hi:Option Int}{n:Nat}{Q:Int×Int×Nat->Ah->Prop}(hs:s.heap.IsSliceOf sl vl vu .none)(pl:Lp vl lo)(pu:Lp vu hi)(h:Q (((sIx n 0 lo:Nat):Int),1,sIx n n hi-sIx n 0 lo) s):Aq (B3 prog w) A (Df.Slice.sliceApplied (.ref sl) (Ck (n:Int))) Q E s:=by
 obtain⟨os,iH,dv,gP⟩:=id hs;unfold Df.Slice.sliceApplied Df.Slice.sliceFields;refine A4 (A4 (Hl iH gP (x:=vl) rfl (A4 (Hl iH gP (x:=vu) rfl (A4 (Hl iH gP (x:=.none) rfl (wpAny_pure ?_)))))));refine A4 (slicePart_none ?_);show Aq _ _ (if ((1:Int)==0)=true then _ else _) _ _ s;rw[if_neg (by decide)];refine A4 (y18 pl (A4 (y18 pu (A4 (wpAny_pure ?_)))))
 show Aq _ _ (match Gt lo hi 1 (n:Int) with|(lo,hi)=>Ck (lo,(1:Int),Et lo hi 1)) _ _ s;rw[x1V lo hi n];show Aq _ _ (Ck (((sIx n 0 lo:Nat):Int),(1:Int),Et ((sIx n 0 lo:Nat):Int) ((sIx n n hi:Nat):Int) 1)) _ _ s;rw[x0J];exact wpAny_pure h
theorem x7Q(xs:Array A8)(i k:Nat):((A9 k).filterMap fun (m:Nat)=>xs[((i:Int)+(m:Int)*1).toNat]?).toArray=((xs.toList.drop i).take k).toArray:=by
 have e:(fun (m:Nat)=>xs[((i:Int)+(m:Int)*1).toNat]?)=fun m=>xs[i+m]?:=by
  funext m
  have:((i:Int)+(m:Int)*1).toNat=i+m:=by omega
  rw[this]
 rw[e]
 have:=pick_run xs i k
 rw[List.filterMap_map]at this;have e2:((fun x=>xs[x]?)∘fun x=>i+x)=fun m=>xs[i+m]?:=rfl;rw[e2]at this;rw[this]
theorem getItem_tuple_cut{t sl:Ap}{items:Array A8}{vl vu:A8}{lo hi:Option Int}{Q:VP}(ht:Kx s.heap t items)(hs:s.heap.IsSliceOf sl vl vu .none)(pl:Lp vl lo)(pu:Lp vu hi)(hw:¬(sIx items.size 0 lo=0/\sIx items.size items.size hi=items.size))(h:Q (.ref s.heap.objs.size) { s with heap:=s.heap.push { cls:=.type "tuple",data:=.seq ((items.toList.drop (sIx items.size 0 lo)).take (sIx items.size items.size hi-sIx items.size 0 lo)).toArray } })(hsz:items.size≤sizeLine):Aq (B3 prog w) A (Ki (.ref t) (.ref sl)) Q E s:=by
 have bA:sizeOk (.seq ((items.toList.drop (sIx items.size 0 lo)).take (sIx items.size items.size hi-sIx items.size 0 lo)).toArray):=by show ((items.toList.drop (sIx items.size 0 lo)).take (sIx items.size items.size hi-sIx items.size 0 lo)).toArray.size≤sizeLine;rw[Ag,Fi,Go,B4];omega
 have hj:sIx items.size items.size hi≤items.size:=w46 _ _ (Ak _) hi;obtain⟨os,iH,dv,gP⟩:=id hs;have hTs:s.TypeIs (.ref sl) "slice":=⟨os,iH,dv⟩;unfold Ki
 try with_reducible refine Cr ?_
 first|refine A4 (wpAny_pure ?_)|skip
 refine A4 (wpAny_sequenceKey ht.typeIs (by decide) ?_)
 refine A4 (Hm (name:=Bq "__getitem__") ht.typeIs Ff
  (Id Ff ht.typeIs entry_tuple_getitem ?_ (args_tuple_getitem _ _)))
 show Aq _ _ (Df.Tuple.tupleItemsOf (.ref t) >>= _) _ _ s;refine A4 (tupleItemsOf_ ht ?_);refine A4 (wpAny_typeOf hTs ?_);rw[if_pos (by decide)];refine A4 (z8C hs pl pu ?_)
 have dA:¬((((sIx items.size 0 lo:Nat):Int)==0&&(1:Int)==1&&(sIx items.size items.size hi-sIx items.size 0 lo)==items.size)=true):=by intro q;rw[Ax,Ax]at q;have q1:((sIx items.size 0 lo:Nat):Int)=0:=eq_of_beq q.1.1;have q2:sIx items.size items.size hi-sIx items.size 0 lo=items.size:=eq_of_beq q.2;exact hw ⟨by omega,by omega⟩
 show Aq _ _ (if (((sIx items.size 0 lo:Nat):Int)==0&&(1:Int)==1&&(sIx items.size items.size hi-sIx items.size 0 lo)==items.size)=true then _ else _) _ _ s;rw[if_neg dA,x7Q]
 first
  |exact A4 (m:=Fa _) (Cb (wpAny_pure ⟨_,rfl,wpAny_pure h⟩) bA)
  |exact A4 (m:=Fa _) (Cb (A4 (wpAny_pure (wpAny_pure ⟨_,rfl,wpAny_pure h⟩))) bA)
  |exact A4 (A4 (m:=Fa _) (Cb (wpAny_pure (wpAny_pure ⟨_,rfl,wpAny_pure h⟩)) bA))
  |exact A4 (A4 (m:=Fa _) (Cb (wpAny_pure ⟨_,rfl,wpAny_pure h⟩) bA))
end
end HT
namespace L2
open PySem PySem.Spec PyProof.Rows
abbrev TO:=St->Hp->(Option Int->Hp->Prop)->Prop
def PO(X:Cx)(e:Option Expr)(t:TO):Prop:=
 ∀(aa:Pns) (s:Ah) (σ:St) (H:Hp) (Q:Option Int->Hp->Prop),Inv X aa σ H s->t σ H Q ->
  Aq (B3 X.prog X.w) X.A (evalPart e X.env) (fun u s'=>∃o H',Inv X aa σ H' s'/\Lp u o/\Q o H') X.xe s
noncomputable def w0Y:TO:=fun _ H Q=>Q none H
noncomputable def w6M(t:TE):TO:=fun σ H Q=>t σ H fun x H1=>∃i,x = .int i/\Q (some i) H1
theorem Y1{ns:List Int}:∀{us:List A8},Y3 (ns.map V.int) us->C4 us ns:=by
 induction ns with
 |nil=>intro us r;rw[Ft]at r;cases r;exact .nil
 |cons n ns ih=>
  intro us r;rw[Ai]at r
  cases r with
  |cons r1 r2=>obtain⟨t,e⟩:=r1;subst e;exact .cons n t (ih r2)
section
variable{X:Cx}{e:Expr}{te:TE}{lo hi:Option Expr}{tl th:TO}{pos p2:F2}
theorem w1O:PO X none w0Y:=by intro aa s σ H Q I h;rw[evalPart_none];exact wpAny_pure ⟨none,H,I,.none,h⟩
theorem w1N(h:PE X e te):PO X (some e) (w6M te):=by intro aa s σ H Q I hw;rw[evalPart_some];refine z14 (h aa s σ H _ I hw) fun u s1 x H1 I1 r1 q1=>?_;obtain⟨i,rfl,q⟩:=q1;obtain⟨t,rfl⟩:=r1;exact⟨some i,H1,I1,.int i t,q⟩
def SlR(X:Cx)(r:V->Option Int->Option Int->Hp->VK->Prop):Prop:=
 ∀(aa:Pns) (s:Ah) (σ:St) (H:Hp) (x:V) (v vl vu:A8) (lo hi:Option Int) (sl:Ap) (Q:VK),Inv X aa σ H s->z01 x v->s.heap.IsSliceOf sl vl vu .none->Lp vl lo->Lp vu hi->r x lo hi H Q ->
  ∃T id,typeLookup (.type T) "__getitem__" = Ck (some (.builtin id))/\s.TypeIs v T/\Aq (B3 X.prog X.w) X.A (Ki v (.ref sl)) (EP X aa σ Q) X.xe s
theorem SlR.or{r r':V->Option Int->Option Int->Hp->VK->Prop}(h:SlR X r)(h':SlR X r'):SlR X (fun x lo hi H Q=>r x lo hi H Q∨r' x lo hi H Q):=by
 intro aa s σ H x v vl vu lo hi sl Q I rx hs pl pu q;rcases q with q|q
 ·exact h aa s σ H x v vl vu lo hi sl Q I rx hs pl pu q
 ·exact h' aa s σ H x v vl vu lo hi sl Q I rx hs pl pu q
noncomputable def tSl(r:V->Option Int->Option Int->Hp->VK->Prop)(te:TE)(tl th:TO):TE:=fun σ H Q=>te σ H fun x H1=>tl σ H1 fun l H2=>th σ H2 fun u H3=>r x l u H3 Q
theorem x7R{r:V->Option Int->Option Int->Hp->VK->Prop}(hr:SlR X r)(he:PE X e te)(hl:PO X lo tl)(hu:PO X hi th):PE X (.Subscript e (.Slice lo hi none p2) pos) (tSl r te tl th):=by
 intro aa s σ H Q I h;refine Mh (z14 (he aa s σ H _ I h) fun v s1 x H1 I1 r1 q1=>?_);refine wpAny_Slice (z14 (hl aa s1 σ H1 _ I1 q1) fun vl s2 l H2 I2 pl q2=>z14 (hu aa s2 σ H2 _ I2 q2) fun vu s3 u H3 I3 pu q3=>?_);rw[evalPart_none];refine wpAny_pure ?_;have I4:Inv X aa σ H3 { s3 with heap:=s3.heap.push { cls:=.type "slice",data:=.fields #[vl,vu,.none] } }:=I3.kept (t':=s3.toks) fun b ob q=>Aa _ q
 obtain⟨T,id,hT,ht,hg⟩:=hr aa { s3 with heap:=s3.heap.push { cls:=.type "slice",data:=.fields #[vl,vu,.none] } } σ H3 x v vl vu l u s3.heap.objs.size Q I4 r1 (C5.IsSliceOf.new ..) pl pu q3;show Aq (B3 X.prog X.w) X.A (Lj e (.Slice lo hi none p2) v (.ref s3.heap.objs.size)) (EP X aa σ Q) X.xe { s3 with heap:=s3.heap.push { cls:=.type "slice",data:=.fields #[vl,vu,.none] } };exact tail_any (ops:=[.ref s3.heap.objs.size,v]) ht hT hg (by with_unfolding_all rfl)
def x6S(xs:List V)(lo hi:Option Int):List V:=(xs.drop (HT.sIx xs.length 0 lo)).take (HT.sIx xs.length xs.length hi-HT.sIx xs.length 0 lo)
theorem y0C(xs:List V)(lo hi:Option Int):(x6S xs lo hi).length≤xs.length:=by unfold x6S;rw[Fi,Go];omega
def w8V(K:A5):V->Option Int->Option Int->Hp->VK->Prop:=fun x lo hi H Q=>∃a xs,x = .ref a/\SqT K H a xs /\
 ¬(HT.sIx xs.length 0 lo=0/\HT.sIx xs.length xs.length hi=xs.length)/\∀p,H p=none->Q (.ref p) (upd H p (.tup (x6S xs lo hi)))
theorem w42:SlR X (w8V X.K):=by
 intro aa s σ H x v vl vu lo hi sl Q I rx hs pl pu h;obtain⟨a,xs,rfl,hx,hw,q⟩:=h;cases rx;obtain⟨its,r,ht,hz⟩:=I.tuple hx
 have ab:its.toArray.size=xs.length:=by rw[Ag];exact r.length.symm
 refine⟨"tuple",_,Ff.lookup,ht.typeIs,?_⟩;refine HT.getItem_tuple_cut ht hs pl pu (by rw[ab];exact hw) ?_ (by rw[ab];exact hz)
 rw[ab];refine⟨.ref s.heap.objs.size,_,I.laid (t':=s.toks) (o:=.tup (x6S xs lo hi)) (fun b ob q=>Aa _ q) (Ak _) ?_,rfl,q _ (I.hok.fresh (Ak _))⟩;exact⟨Bk (y0C xs lo hi) hz,_,(r.drop (HT.sIx xs.length 0 lo)).take (HT.sIx xs.length xs.length hi-HT.sIx xs.length 0 lo),x6T.new _ _⟩
def w86(K:A5):R2:=fun x y H Q=>∃a b ns ms,x = .ref a/\y = .ref b/\SqT K H a (ns.map V.int)/\SqT K H b (ms.map V.int)/\Q (.bl (HT.lexLt ns ms)) H
theorem w5F(hu:X.A.units<Cy):OpR X (Cs .Lt) (w86 X.K):=by intro aa s σ H x y v u Q I rx ry h;obtain⟨a,b,ns,ms,rfl,rfl,ha,hb,q⟩:=h;cases rx;cases ry;obtain⟨its,r1,p1,_⟩:=I.tuple ha;obtain⟨ao,r2,p2,_⟩:=I.tuple hb;have i1:C4 its.toArray.toList ns:=Y1 r1;have i2:C4 ao.toArray.toList ms:=Y1 r2;exact HT.lt_tupInts p1 p2 i1 i2 hu ⟨.bl (HT.lexLt ns ms),H,I,rfl,q⟩
def w71(K:A5):R2:=fun x y H Q=>∃a b xs ys,x = .ref a/\y = .ref b/\SqT K H a xs/\SqT K H b ys/\xs≠[]/\xs.length+ys.length≤sizeLine /\
 (ys=[]->Q (.ref a) H)/\(ys≠[]->∀p,H p=none->Q (.ref p) (upd H p (.tup (xs++ys))))
theorem Y3.nil_iff{xs:List V}{us:List A8}(r:Y3 xs us):us=[]↔xs=[]:=by
 cases r with
 |nil=>simp
 |cons _ _=>simp
theorem w1Z:OpR X (Gd .Add) (w71 X.K):=by
 intro aa s σ H x y v u Q I rx ry h;obtain⟨a,b,xs,ys,rfl,rfl,ha,hb,hx,hz,q1,q2⟩:=h;cases rx;cases ry;obtain⟨its,r1,p1,_⟩:=I.tuple ha;obtain⟨ao,r2,p2,_⟩:=I.tuple hb;refine HT.cat_tup p1 p2 (fun z=>hx (r1.nil_iff.mp z)) (fun z=>⟨.ref a,H,I,rfl,q1 (r2.nil_iff.mp z)⟩) (fun z=>?_) (by rw[←r1.length,←r2.length];exact hz)
 refine⟨.ref s.heap.objs.size,_,I.laid (t':=s.toks) (o:=.tup (xs++ys)) (fun b ob q=>Aa _ q) (Ak _) ?_,rfl,q2 (fun w=>z (r2.nil_iff.mpr w)) _ (I.hok.fresh (Ak _))⟩;exact⟨by rw[Ad];exact hz,_,r1.append r2,x6T.new _ _⟩
end
noncomputable def ixN(n:Nat)(i:Int):Option Nat:=if 0≤i then (if i<n then some i.toNat else none) else if -(n:Int)≤i then some (i+n).toNat else none
def atI{α:Type}(xs:List α)(i:Int):Option α:=(ixN xs.length i).bind fun j=>xs[j]?
theorem x4Z{n:Nat}{i:Int}{j:Nat}(h:ixN n i=some j):seqIndex? i n=some j/\j<n/\-(n:Int)≤i/\i<n:=by
 unfold ixN at h;by_cases h0:0≤i
 ·rw[if_pos h0]at h;by_cases h1:i<n
  ·rw[if_pos h1]at h;have e:i.toNat=j:=Bc h;exact⟨by rw[seqIndex_of h0 h1,e],by omega,by omega,h1⟩
  ·rw[if_neg h1]at h;cases h
 ·rw[if_neg h0]at h;by_cases h1 : -(n:Int)≤i
  ·rw[if_pos h1]at h;have e:(i+n).toNat=j:=Bc h;exact⟨by rw[seqIndex_neg (by omega) h1,e],by omega,h1,by omega⟩
  ·rw[if_neg h1]at h;cases h
theorem y7G{α:Type}{xs:List α}{i:Int}{v:α}(h:atI xs i=some v):∃j,seqIndex? i xs.length=some j/\xs[j]?=some v/\j<xs.length/\-(xs.length:Int)≤i/\i<xs.length:=by
 unfold atI at h
 cases e:ixN xs.length i with
 |none=>rw[e]at h;cases h
 |some j=>rw[e]at h;obtain⟨h1,h2,h3,h4⟩:=x4Z e;exact⟨j,h1,h,h2,h3,h4⟩
def y33(b:Expr):Prop:=∀o i,Ky b false o i=operate [o,i] (Ki o i)
def IxR(X:Cx)(r:R2):Prop:=
 ∀(value aN:Expr) (aa:Pns) (s:Ah) (σ:St) (H:Hp) (x y:V) (v u:A8) (Q:VK),Inv X aa σ H s->z01 x v->z01 y u->r x y H Q ->
  Ky aN false v u=operate [v,u] (Ki v u)->Aq (B3 X.prog X.w) X.A (Lj value aN v u) (EP X aa σ Q) X.xe s
def MtR(X:Cx)(id:String)(r:V->List V->Hp->VK->Prop):Prop:=
 ∀(aa:Pns) (s:Ah) (σ:St) (H:Hp) (x:V) (xs:List V) (v:A8) (us:List A8) (Q:VK),Inv X aa σ H s->z01 x v->Y3 xs us->r x xs H Q ->
  Aq (B3 X.prog X.w) X.A (call (.builtin id) (v::us)) (EP X aa σ Q) X.xe s
section
variable{X:Cx}{a b:Expr}{ta tb:TE}{pos:F2}
theorem IxR.or{r r':R2}(h:IxR X r)(h':IxR X r'):IxR X (fun x y H Q=>r x y H Q∨r' x y H Q):=by
 intro value aN aa s σ H x y v u Q I rx ry q hs;rcases q with q|q
 ·exact h value aN aa s σ H x y v u Q I rx ry q hs
 ·exact h' value aN aa s σ H x y v u Q I rx ry q hs
theorem w55{r:R2}(hr:IxR X r)(ha:PE X a ta)(hb:PE X b tb)(hs:y33 b):PE X (.Subscript a b pos) (tOp r ta tb):=by intro aa s σ H Q I h;exact Mh (w7V ha hb I h fun v u s2 x y H2 I2 rx ry q=>hr a b aa s2 σ H2 x y v u Q I2 rx ry q (hs _ _))
def w89(K:A5):R2:=fun x y H Q=>∃p xs i v,x = .ref p/\y = .int i/\SqL K H p xs/\atI xs i=some v/\Q v H
def w87(K:A5):R2:=fun x y H Q=>∃p xs i v,x = .ref p/\y = .int i/\SqT K H p xs/\atI xs i=some v/\Q v H
def w88:R2:=fun x y H Q=>∃z i c,x = .str z/\y = .int i/\z.length≤sizeLine/\atI z.cps.toList i=some c/\Q (.str ⟨#[c]⟩) H
theorem x4Y:IxR X (w89 X.K):=by
 intro value aN aa s σ H x y v u Q I rx ry h hs;obtain⟨p,xs,i,z,rfl,rfl,hq,he,q⟩:=h;cases rx;obtain⟨t,rfl⟩:=ry;obtain⟨its,r,pl,hz⟩:=I.list hq;obtain⟨j,h1,h2,h3,h4,h5⟩:=y7G he;obtain⟨w,ew,rw'⟩:=r.get h2;have hl:=r.length;have hn:=y1K;have fin:EP X aa σ Q w s:=⟨z,H,I,rw',q⟩;by_cases h0:0≤i
 ·have hj:i.toNat=j:=by rw[seqIndex_of h0 h5]at h1;exact Bc h1
  exact item_listR pl.isList h0 (by omega) (by rw[hj];simpa using ew) fin hs
 ·have hj:(i+(its.toArray.size:Int)).toNat=j:=by rw[seqIndex_neg (by omega) h4]at h1;rw[Ag,←hl];exact Bc h1
  exact subscriptTail_builtinR (x:=w) pl.isList.typeIs slot_list_getitem.lookup
   (wpAny_getItem_list_neg (Q:=fun r s'=>r=w/\EP X aa σ Q r s') pl.isList (by omega) (by rw[Ag]<;>omega) (by omega) (by rw[hj];simpa using ew) ⟨rfl,fin⟩) hs
theorem w5U:IxR X (w87 X.K):=by
 intro value aN aa s σ H x y v u Q I rx ry h hs;obtain⟨p,xs,i,z,rfl,rfl,hq,he,q⟩:=h;cases rx;obtain⟨t,rfl⟩:=ry;obtain⟨its,r,pl,hz⟩:=I.tuple hq;obtain⟨j,h1,h2,h3,h4,h5⟩:=y7G he;obtain⟨w,ew,rw'⟩:=r.get h2;have hl:=r.length;have hn:=y1K;have fin:EP X aa σ Q w s:=⟨z,H,I,rw',q⟩
 exact subscriptTail_builtinR (x:=w) pl.typeIs slot_tuple_getitem.lookup
  (getItem_tuple (j:=j) (Q:=fun r s'=>r=w/\EP X aa σ Q r s') pl (by omega) (by omega) (by rw[Ag,←hl];exact h1) (by simpa using ew) ⟨rfl,fin⟩) hs
theorem w5V:IxR X w88:=by
 intro value aN aa s σ H x y v u Q I rx ry h hs;obtain⟨z,i,c,rfl,rfl,hz,he,q⟩:=h;obtain⟨t,rfl⟩:=rx;obtain⟨t',rfl⟩:=ry;obtain⟨j,h1,h2,h3,h4,h5⟩:=y7G he
 have hl:z.cps.toList.length=z.length:=by simp[Bb.length]
 rw[hl]at h1 h4 h5;have hn:=y1K
 exact tail_any (typeIs_str s z t) slot_str_getitem.lookup (getItem_str (c:=c) (by
  have e1:decide (i < -(2 ^ 63:Int))=false:=decide_eq_false (by omega);have e2:decide (i≥2 ^ 63)=false:=decide_eq_false (by omega)
  rw[e1,e2,Ii]) (by rw[h1];simpa using h2) ⟨.str ⟨#[c]⟩,H,I.tok _,⟨_,rfl⟩,q⟩) hs
def rIx(K:A5):R2:=fun x y H Q=>w89 K x y H Q∨w87 K x y H Q∨w88 x y H Q
theorem w5W:IxR X (rIx X.K):=x4Y.or (w5U.or w5V)
theorem Inv.lst{aa:Pns}{σ:St}{H:Hp}{s:Ah}{p:Ap}{xs:List V}(I:Inv X aa σ H s)(h:H p=some (.lst xs)):
  ∃(its:List A8) (n:Nat),Y3 xs its/\s.heap.get? p=some { cls:=.type "list",data:=.seq its.toArray n }/\xs.length≤sizeLine:=by
 obtain⟨z,its,n,r,e⟩:=I.hok p _ h;exact⟨its,n,r,e,z⟩
theorem y3U(lo hi:Option Int)(n:Nat):(Hn lo hi none n).1=((HT.sIx n 0 lo:Nat):Int)/\(Hn lo hi none n).2.1=((HT.sIx n n hi:Nat):Int)/\(Hn lo hi none n).2.2=1:=by
 refine⟨?_,?_,rfl⟩
 ·cases lo with
  |none=>simp[Hn,HT.sIx]
  |some i=>
   simp only[Hn,HT.sIx,Option.getD_none,show (1:Int)>0 by decide,if_true];by_cases h:i<0
   ·simp only[h,if_true]<;>omega
   ·simp only[h,if_false]<;>omega
 ·cases hi with
  |none=>simp[Hn,HT.sIx]
  |some i=>
   simp only[Hn,HT.sIx,Option.getD_none,show (1:Int)>0 by decide,if_true];by_cases h:i<0
   ·simp only[h,if_true]<;>omega
   ·simp only[h,if_false]<;>omega
theorem y25(its:List A8)(lo hi:Option Int):slicePick its.toArray lo hi none=((its.drop (HT.sIx its.length 0 lo)).take (HT.sIx its.length its.length hi-HT.sIx its.length 0 lo)).toArray:=by obtain⟨h1,h2,h3⟩:=y3U lo hi its.toArray.size;unfold slicePick;rw[h1,h2,h3];simp only[sliceRange_one,pick_run,Ag]<;>rfl
def w8W(K:A5):V->Option Int->Option Int->Hp->VK->Prop:=fun x lo hi H Q=>∃a xs,x = .ref a/\SqL K H a xs/\∀p,H p=none->Q (.ref p) (upd H p (.lst (x6S xs lo hi)))
theorem w13:SlR X (w8W X.K):=by
 intro aa s σ H x v vl vu lo hi sl Q I rx hs pl pu h;obtain⟨a,xs,rfl,hx,q⟩:=h;cases rx;obtain⟨its,r,ht,hz⟩:=I.list hx;have ab:=r.length;refine⟨"list",_,slot_list_getitem.lookup,ht.isList.typeIs,?_⟩;refine wpAny_getItem_list_slice ht.isList hs pl pu .none (by simp) ?_ (by rw[Ag]<;>omega)
 rw[y25,←ab];refine⟨.ref s.heap.objs.size,_,I.laid (t':=s.toks) (o:=.lst (x6S xs lo hi)) (fun b ob q=>Aa _ q) (Ak _) ?_,rfl,q _ (I.hok.fresh (Ak _))⟩;exact⟨Bk (y0C xs lo hi) hz,_,0,(r.drop (HT.sIx xs.length 0 lo)).take (HT.sIx xs.length xs.length hi-HT.sIx xs.length 0 lo),At _ rfl⟩
theorem y5B:z0X X (.builtin "len") (fun xs H Q=>∃p ys,xs=[.ref p]/\(SqL X.K H p ys∨SqT X.K H p ys)/\Q (.int ys.length) H):=by
 intro aa s σ H xs us Q I r h;obtain⟨p,ys,rfl,hq,q⟩:=h;obtain⟨u,rfl,rx⟩:=z3K r;cases rx;have hn:=y1K;rcases hq with hq|hq
 ·obtain⟨its,r',pl,hz⟩:=I.list hq;have ab:=r'.length;exact Calls.call_len_list pl.isList (by simp only[Ag]<;>omega) ⟨.int ys.length,H,I.tok _,⟨s.toks+1,by rw[Ag,ab]⟩,q⟩
 ·obtain⟨its,r',pl,hz⟩:=I.tuple hq;have ab:=r'.length;exact len_tuple pl (by simp only[Ag]<;>omega) ⟨.int ys.length,H,I.tok _,⟨s.toks+1,by rw[Ag,ab]⟩,q⟩
theorem z0X.or{f:A8}{r r':List V->Hp->VK->Prop}(h:z0X X f r)(h':z0X X f r'):z0X X f (fun xs H Q=>r xs H Q∨r' xs H Q):=by
 intro aa s σ H xs us Q I rs q;rcases q with q|q
 ·exact h aa s σ H xs us Q I rs q
 ·exact h' aa s σ H xs us Q I rs q
theorem y5A:z0X X (.type "list") (fun xs H Q=>∃p ys,xs=[.ref p]/\(SqL X.K H p ys∨SqT X.K H p ys)/\∀l,H l=none->Q (.ref l) (upd H l (.lst ys))):=by
 intro aa s σ H xs us Q I r h;obtain⟨p,ys,rfl,hq,q⟩:=h;obtain⟨u,rfl,rx⟩:=z3K r;cases rx
 have fin:∀(its:List A8),Y3 ys its->ys.length≤sizeLine->∀(h':C5) (c':Nat),(∀b o',s.heap.get? b=some o'->h'.get? b=some o') ->
   h'.get? s.heap.objs.size=some { cls:=.type "list",dict:=none,data:=.seq its.toArray c',slots:=#[] }->EP X aa σ Q (.ref s.heap.objs.size) { s with heap:=h' }:=fun its r' hz h' c' kp e=>
  ⟨.ref s.heap.objs.size,_,I.laid (t':=s.toks) kp (Ak _) (show z1D X.prog X.w _ h' _ (.lst ys) from ⟨hz,its,c',r',e⟩),rfl,q _ (I.hok.fresh (Ak _))⟩
 rcases hq with hq|hq
 ·obtain⟨its,r',pl,hz⟩:=I.list hq;have ab:=r'.length;obtain⟨o,ho,hc,n,hd⟩:=pl.isList;exact call_list_seq p (.inl rfl) ho hc hd (fun h' c' kp e=>fin its r' hz h' c' kp e) (by simp only[Ag]<;>omega)
 ·obtain⟨its,r',pl,hz⟩:=I.tuple hq;have ab:=r'.length;obtain⟨o,ho,hc,n,hd⟩:=pl;exact call_list_seq p (.inr rfl) ho hc hd (fun h' c' kp e=>fin its r' hz h' c' kp e) (by simp only[Ag]<;>omega)
theorem z6U:z0X X (.type "tuple") (fun xs H Q=>∃p ys,xs=[.ref p]/\((SqL X.K H p ys/\∀l,H l=none->Q (.ref l) (upd H l (.tup ys)))∨(SqT X.K H p ys/\Q (.ref p) H))):=by
 intro aa s σ H xs us Q I r h;obtain⟨p,ys,rfl,h⟩:=h;obtain⟨u,rfl,rx⟩:=z3K r;cases rx;rcases h with⟨hq,q⟩|⟨hq,q⟩
 ·obtain⟨its,r',pl,hz⟩:=I.list hq;have ab:=r'.length;refine call_tuple_list pl.isList (fun h' kp=>?_) (by simp only[Ag]<;>omega)
  have I1:Inv X aa σ H { s with heap:=h' }:=I.kept (t':=s.toks) kp
  have I2:Inv X aa σ (upd H h'.objs.size (.tup ys)) { s with heap:=h'.push { cls:=.type "tuple",data:=.seq its.toArray } }:=I1.laid (t':=s.toks) (fun b o e=>Aa _ e) (Ak _) (show z1D X.prog X.w _ _ _ (.tup ys) from ⟨hz,its,r',x6T.new _ _⟩)
  exact⟨.ref h'.objs.size,_,I2,rfl,q _ (I1.hok.fresh (Ak _))⟩
 ·obtain⟨its,r',pl,hz⟩:=I.tuple hq;exact call_tuple_same pl ⟨.ref p,H,I,rfl,q⟩
def tyV(K:A5)(T:String)(x:V)(H:Hp):Prop:=match x with
 | .str _=>T = "str"
 | .int _=>T = "int"
 | .ref p=>(T = "list"/\∃xs,SqL K H p xs)∨(T = "tuple"/\∃xs,SqT K H p xs) ∨
   (T = "dict"/\((∃kvs,H p=some (.dK kvs))∨∃kvs,H p=some (.dT kvs)))∨(T = "set"/\∃S n,H p=some (.set S n))
 |_=>False
theorem x96{aa:Pns}{σ:St}{H:Hp}{s:Ah}{T:String}{x:V}{v:A8}(I:Inv X aa σ H s)(r:z01 x v)(ty:tyV X.K T x H):
  s.TypeIs v T/\∀a,v = .ref a->∃ob,s.heap.get? a=some ob/\ob.dict=none:=by
 cases x with
 |str z=>obtain⟨t,rfl⟩:=r;cases (show T = "str" from ty);exact⟨typeIs_str s z t,fun _ e=>nomatch e⟩
 |int i=>obtain⟨t,rfl⟩:=r;cases (show T = "int" from ty);exact⟨typeIs_int s i t,fun _ e=>nomatch e⟩
 |ref p=>
  cases r;rcases ty with⟨rfl,xs,hq⟩|⟨rfl,xs,hq⟩|⟨rfl,hk⟩|⟨rfl,S,n,hk⟩
  ·obtain⟨its,_,pl,_⟩:=I.list hq;refine⟨pl.isList.typeIs,fun a e=>?_⟩;cases e;obtain⟨o,n,e,c,hd,_⟩:=pl;exact⟨o,e,hd⟩
  ·obtain⟨o,e0,hc,hd⟩:=I.tupleP hq;refine⟨⟨o,e0,hc⟩,fun a e=>?_⟩;cases e;exact⟨o,e0,hd⟩
  ·have z:∃o,s.heap.get? p=some o/\o.ExactDict:=by
    rcases hk with⟨kvs,hk⟩|⟨kvs,hk⟩
    ·obtain⟨_,_,_,_,o,_,_,e,ex,_⟩:=I.hok p _ hk;exact⟨o,e,ex⟩
    ·obtain⟨_,_,_,_,o,_,_,e,ex,_⟩:=I.hok p _ hk;exact⟨o,e,ex⟩
   obtain⟨o,e,ex⟩:=z;refine⟨⟨o,e,ex.1⟩,fun a e2=>?_⟩;cases e2;exact⟨o,e,ex.2.1⟩
  ·obtain⟨o,_,_,_,e,ex,_⟩:=I.hok p _ hk;refine⟨⟨o,e,ex.1⟩,fun a e2=>?_⟩;cases e2;exact⟨o,e,ex.2.1⟩
 |_=>exact F9 ty
noncomputable def w8R(K:A5)(T:String)(r:V->List V->Hp->VK->Prop)(to:TE):TE:=fun σ H Q=>to σ H fun x H1=>tyV K T x H1/\r x [] H1 Q
noncomputable def tBM(K:A5)(T:String)(r:V->List V->Hp->VK->Prop)(to:TE)(t:TA):TE:=fun σ H Q=>to σ H fun x H1=>tyV K T x H1/\t σ H1 fun xs H2=>r x xs H2 Q
variable{o e:Expr}{es:List Expr}{to:TE}{t:TA}{name:Bb}{cj bR:F2}{T id:String}{r:V->List V->Hp->VK->Prop}
theorem w57(pa:PlainAttrs T)(slot:Slot T name id)(hty:typeOf (.builtin id)=Ck (.type "method_descriptor"))(hm:MtR X id r)(ho:PE X o to)(ar:Eb o name X.env (C0 o X.env)=C0 o X.env:=by rfl)(au:(cj.endLine==bR.line)=true:=by rfl):PE X (.Call (.Attribute o name cj) [] [] bR) (w8R X.K T r to):=by intro aa s σ H Q I h;refine wpAny_Call_method0_late ar au (z14 (ho aa s σ H _ I h) fun v s1 x H1 I1 r1 ⟨ty,q1⟩=>?_);obtain⟨h1,h2⟩:=x96 I1 r1 ty;exact⟨T,id,pa,slot,hty,h1,h2,Calls.callWith_builtin rfl (PySem.evalArgs_none (hm aa s1 σ H1 x [] v [] Q I1 r1 .nil q1))⟩
theorem y6I(pa:PlainAttrs T)(slot:Slot T name id)(hty:typeOf (.builtin id)=Ck (.type "method_descriptor"))(hm:MtR X id r)(ho:PE X o to)(ha:PA X (e::es) t)(ar:Eb o name X.env (C0 o X.env)=C0 o X.env:=by rfl)
  (aX:((Bs bR (Ac (e::es) X.env)).all (fun x=>!x.1)&&(Je bR (Gg [] X.env)).all (fun x=>x.1.isSome)
   && decide ((e::es).length+([]:List Fu).length+(if ([]:List Fu).isEmpty then 0 else 1)<30))=true:=by rfl)
  (au:(cj.endLine==bR.line)=true:=by rfl) (hs:Ac (e::es) X.env=(false,C0 e X.env)::Ac es X.env:=by rfl) (aq:(Bs bR (Ac es X.env)).any (·.1)=false:=by rfl):
  PE X (.Call (.Attribute o name cj) (e::es) [] bR) (tBM X.K T r to t):=by
 intro aa s σ H Q I h;refine wpAny_Call_method_late ar aX au rfl (z14 (ho aa s σ H _ I h) fun v s1 x H1 I1 r1 ⟨ty,q1⟩=>?_);obtain⟨h1,h2⟩:=x96 I1 r1 ty;refine⟨T,id,pa,slot,hty,h1,h2,?_⟩;have hA:=ha bR aa s1 σ H1 _ I1 q1;rw[hs]at hA ⊢;refine Calls.callWith_builtin (by show (false||(Bs bR (Ac es X.env)).any (·.1))=false;rw[aq]<;>rfl) (Calls.evalArgs_plain ?_)
 exact thn hA fun us s2 ⟨vs,H2,I2,r2,q2⟩=>hm aa s2 σ H2 x vs v us Q I2 r1 r2 q2
end
def MtM(X:Cx)(id:String)(r:V->List V->Hp->VK->Prop):Prop:=
 ∀(aa:Pns) (s:Ah) (σ:St) (H:Hp) (x:V) (xs:List V) (v:A8) (us:List A8) (Q:VK),Inv X aa σ H s->z01 x v->Y3 xs us->r x xs H Q ->
  Aq (B3 X.prog X.w) X.A (call (.builtin id) (v::us)) (EP X aa σ Q) X.xe s
theorem Y3.one:∀{x:V} {us:List A8},Y3 [x] us->∃u,us=[u]/\z01 x u
 |_,_,.cons r .nil=>⟨_,rfl,r⟩
theorem Y3.two:∀{x y:V} {us:List A8},Y3 [x,y] us->∃u v,us=[u,v]/\z01 x u/\z01 y v
 |_,_,_,.cons r (.cons q .nil)=>⟨_,_,rfl,r,q⟩
theorem Y3.zero:∀{us:List A8},Y3 [] us->us=[]
 |_,.nil=>rfl
theorem Y3.eraseIdx:∀{xs:List V} {us:List A8} (i:Nat),Y3 xs us->Y3 (xs.eraseIdx i) (us.eraseIdx i)
 |_,_,_,.nil=>.nil
 |_,_,0,.cons _ t=>t
 |_,_,i+1,.cons r t=>.cons r (Y3.eraseIdx i t)
theorem Y3.rep{xs:List V}{us:List A8}(h:Y3 xs us):∀k:Nat,Y3 (B1 k xs).flatten (B1 k us).flatten
 | 0=>.nil
 |k+1=>by rw[D4,D4,Eg,Eg];exact Y3.append h (Y3.rep h k)
theorem y4L{α:Type}:∀(l:List α) (i:Nat),(l.eraseIdx i).length≤l.length
 | [],_=>Ak _
 |_::_,0=>Dq _
 |_::r,i+1=>Nat.succ_le_succ (y4L r i)
theorem y4T(its:List A8):∀(k:Nat) (af:List A8),
  Lq (fun x1 x2=>x1++x2) af.toArray (B1 k its.toArray)=(af++(B1 k its).flatten).toArray
 | 0,af=>by simp
 |k+1,af=>by
  have e:af.toArray++its.toArray=(af++its).toArray:=by simp
  have e2:(af++its)++(B1 k its).flatten=af++(B1 (k+1) its).flatten:=by rw[D4,Eg,Co]
  rw[←e2,←y4T its k (af++its),←e,D4,Fz]
section
variable{X:Cx}{aa:Pns}{σ:St}{H:Hp}{s:Ah}{l b:Ap}{xs ys zs:List V}
theorem Inv.lset{its its':List A8}{n:Nat}{f:Array A8->Array A8}{t':Nat}(I:Inv X aa σ H s)(hH:H l=some (.lst xs))(e:s.heap.get? l=some { cls:=.type "list",data:=.seq its.toArray n })(hf:f its.toArray=its'.toArray)(hv:Y3 ys its')(hz:ys.length≤sizeLine):
  Inv X aa σ (upd H l (.lst ys)) { s with heap:=s.heap.update l (Ca f),toks:=t' }:=by
 have q:=PySem.IsL.update e f;rw[hf]at q;refine I.write (x:=l) (e:=l) (by rw[hH];exact trivial) (.inl rfl) (fun b' u hb hu=>(B8 s.heap (Ca f) (Cl hb)).trans hu) ⟨_,q⟩ ?_
 exact⟨hz,its',_,hv,q⟩
theorem Inv.lnew{its:List A8}{t':Nat}(I:Inv X aa σ H s)(hv:Y3 ys its)(hz:ys.length≤sizeLine):
  Inv X aa σ (upd H s.heap.objs.size (.lst ys)) { s with heap:=s.heap.push { cls:=.type "list",data:=.seq its.toArray },toks:=t' }:=
 I.laid (fun _ _ q=>Aa _ q) (Ak _) ⟨hz,its,0,hv,At _ rfl⟩
theorem Inv.fresh(I:Inv X aa σ H s):H s.heap.objs.size=none:=I.hok.fresh (Ak _)
theorem Inv.lstM(I:Inv X aa σ H s)(hH:H l=some (.lst xs)):xs.length≤sizeLine/\∃(its:List A8) (n:Nat),Y3 xs its/\xs.length=its.length/\s.heap.get? l=some { cls:=.type "list",data:=.seq its.toArray n }:=by obtain⟨z,its,n,r,e⟩:=I.hok l _ hH;exact⟨z,its,n,r,r.length,e⟩
theorem x81{n:Nat}(h:n≤sizeLine):Ha n=false:=by unfold Ha;exact decide_eq_false (by omega)
end
section
variable{X:Cx}
def w1I:V->List V->Hp->VK->Prop:=fun x vs H Q=>∃l xs y,x = .ref l/\vs=[y]/\H l=some (.lst xs)/\xs.length<sizeLine/\Q .non (upd H l (.lst (xs++[y])))
theorem z6O:MtM X "list.append" w1I:=by
 intro aa s σ H x vs v us Q I rx rv h;obtain⟨l,xs,y,rfl,rfl,hH,hz,q⟩:=h;cases rx;obtain⟨u,rfl,ru⟩:=rv.one;obtain⟨z,its,n,r,hl,e⟩:=I.lstM hH;refine Hf F.slot_list_append ⟨_,e,rfl⟩ F.entry_list_append (F.args_list_append_2 _ _) (PySem.list_append l its.toArray n u (by rw[Ag];omega)) ⟨e,?_⟩
 refine⟨.non,_,I.lset (its':=its++[u]) hH e (by simp) (r.append (.cons ru .nil)) ?_,rfl,q⟩;rw[Ad,Az];omega
def w1H:V->List V->Hp->VK->Prop:=fun x vs H Q=>∃l b xs zs,x = .ref l/\vs=[.ref b]/\H l=some (.lst xs)/\H b=some (.lst zs)/\xs.length+zs.length≤sizeLine/\Q .non (upd H l (.lst (xs++zs)))
theorem x48:MtM X "list.extend" w1H:=by
 intro aa s σ H x vs v us Q I rx rv h;obtain⟨l,b,xs,zs,rfl,rfl,hH,hB,hz,q⟩:=h;cases rx;obtain⟨u,rfl,ru⟩:=rv.one;cases ru;obtain⟨z,its,n,r,hl,e⟩:=I.lstM hH;obtain⟨z2,ao,n2,r2,hl2,e2⟩:=I.lstM hB
 have hsz:its.toArray.size+ao.toArray.size≤sizeLine:=by rw[Ag,Ag];omega
 have jp:¬(!its.toArray.isEmpty&&Ha (its.toArray.size+ao.toArray.size))=true:=by rw[x81 hsz,Hu];exact B0
 refine Hf F.slot_list_extend ⟨_,e,rfl⟩ F.entry_list_extend (F.args_list_extend_2 _ _)
  (AutoSeq1.list_extend_list_list_0 l its.toArray n b ao.toArray n2 jp (by rw[Ag];omega) (by omega)) ⟨e,e2,?_⟩
 refine⟨.non,_,I.lset (its':=its++ao) hH e (by simp) (r.append r2) ?_,rfl,q⟩;rw[Ad];omega
def x9H:V->List V->Hp->VK->Prop:=fun x vs H Q=>∃l xs i k y,x = .ref l/\vs=[.int i]/\H l=some (.lst xs)/\-(2 ^ 63)≤i/\i<2 ^ 63/\seqIndex? i xs.length=some k/\xs[k]?=some y/\Q y (upd H l (.lst (xs.eraseIdx k)))
theorem x83:MtM X "list.pop" x9H:=by
 intro aa s σ H x vs v us Q I rx rv h;obtain⟨l,xs,i,k,y,rfl,rfl,hH,h1,h2,hk,hy,q⟩:=h;cases rx;obtain⟨u,rfl,ru⟩:=rv.one;obtain⟨t,rfl⟩:=ru;obtain⟨z,its,n,r,hl,e⟩:=I.lstM hH;obtain⟨w,hw,rw'⟩:=r.get hy
 refine Hf F.slot_list_pop ⟨_,e,rfl⟩ F.entry_list_pop (F.args_list_pop_2 _ _)
  (MeetsSeq.list_pop_at l its.toArray n i t k w (fitsIndex_both h1 h2) (by rw[Ag,←hl];exact hk) (by rw[←Array.getElem?_toList];exact hw) (by rw[Ag];omega)) ⟨e,?_⟩
 refine⟨y,_,I.lset (its':=its.eraseIdx k) hH e ?_ (r.eraseIdx k) ?_,rw',q⟩
 ·show its.toArray.eraseIdxIfInBounds k=(its.eraseIdx k).toArray;rw[List.eraseIdxIfInBounds_toArray]
 ·have:=y4L xs k
  omega
theorem w2K{α:Type}(xs:List α)(k:Nat):(B1 k xs).flatten.length=k*xs.length:=by
 induction k with
 |zero=>simp
 |succ k ih=>rw[D4,Eg,Ad,ih,Nat.succ_mul,Nat.add_comm]
end
end L2
namespace Att
open PySem PySem.W PySem.Calls PyProof.Rows
theorem z9T{P:Params}{h:C5}:∀(ns:List Int) (vs:List A8),WellAll P h vs (ns.map WData.int)->C4 vs ns:=by
 intro ns
 induction ns with
 |nil=>intro vs w;rw[Ft]at w;cases w;exact .nil
 |cons n ns ih=>
  intro vs w;rw[Ai]at w
  cases w with
  |cons a b=>cases a;exact .cons _ _ (ih _ b)
theorem x35{l:OpenLaw}{n:Nat}(hn:l.most=some n){P:Params}{h:C5}{args:List WData}{gm:List A8}(cJ:l.row.toRowW.claim.pre args=true)(hwl:WellAll P h gm args):
  ∃a vs ns,gm=[Ef a]/\args=[WData.list (ns.map WData.int)]/\h.get? a=some { cls:=.type "list",data:=.seq vs.toArray }/\C4 vs ns/\ns.length≤n:=by
 have hsh:WShape.hasAll [] args [.list .int]=true:=(pre_splitW cJ).1;have hc:l.pre.holds [] { args:=args }=true:=(pre_splitW cJ).2;obtain⟨d,r,rfl,h1,h2⟩:=hasAllW_cons hsh
 obtain rfl:=hasAllW_nil h2
 obtain⟨xs,rfl,h3⟩:=hasW_list h1;obtain⟨ns,rfl⟩:=items_int h3
 have ab:ns.length≤n:=by
  unfold OpenLaw.pre at hc
  have h4:(WTm.not (.lt (.lit (.int (n:Int))) (.len (.arg 0)))).holds [] { args:=[.list (ns.map .int)] }=true:=by have h4:=(holds_andW hc).1;rw[hn]at h4;exact h4
  have h5:=condW_of h4 (w_not (w_lt w_lit (w_len_list (w_arg rfl))));rw[A0]at h5;refine Nat.le_of_not_lt fun q=>?_
  have q':(n:Int)<((ns.length:Nat):Int):=by omega
  first
   | (rw[decide_eq_true q']at h5;exact absurd h5 (by decide))
   | (simp at h5;omega)
 cases hwl with
 |cons w1 w2=>
  cases w2
  cases w1 with
  |list ho bd=>exact⟨_,_,ns,rfl,rfl,ho,z9T ns _ bd,ab⟩
theorem x3O(l:OpenLaw)(args:List WData):l.row.toRowW.claim.post args (.bool true) args=true:=
 postW_of (r:=l.row.toRowW) (X:=(true==true))
  (show WShape.has [] (.bool true) .bool=true by first|rfl|decide|simp[WShape.has,WShape.arms,WShape.armsAll])
  (show (WTm.eq .res (.lit (.bool true))).value [] { args:=args,res:=some (.bool true),after:=args }=some (.bool (true==true)) from w_eq_bool (w_res rfl) w_lit) rfl
theorem attach_call{l:OpenLaw}{n:Nat}{q:Bo}{bL:List Bb}{XP:(Bb->Option A8)->C5->Prop}{YP:C8->C5->Prop}{d:DefRec}(hn:l.most=some n)(iY:d.params.defaults=[])
  (call:∀(w:C8) (s₀ s₁:Ah) (mg mb:Bb->Option A8) (fa:Ap) (o:Ji) (pm cd av:A8) (a:Ap) (vs:List A8) (ns:List Int),
   Ground q bL [] XP w s₀ mg mb s₁.heap->YP w s₁.heap ->
   s₁.heap.get? fa=some o->o.data = .func (docDef d.name d.params d.body d.scope pm cd av)->s₁.heap.CodeRec cd d.name->mg d.name=some (.ref fa) ->
   s₁.heap.get? a=some { cls:=.type "list",data:=.seq vs.toArray }->C4 vs ns->ns.length≤n->s₁.gens = #[] ->
   Dl (B3 l.prog w) La (.call (.ref fa) ⟨[.ref a],[]⟩) (fun r s'=>r = .ok (.ret (.bool true))/\OldK s₁.heap s'.heap/\s'.os=s₁.os/\Iv s'.gens) s₁):
  WalkO q bL XP YP l.row.toRowW d [] (fun f vs=>Mi f vs):=by
 intro w s₀ s₁ mg mb G Y fa o pm cd av dV kV ho hd aV hD jt hg args gm as cJ hlay hrd hwl hlo
 obtain rfl:dV = .none:=Dflts.none hD iY
 obtain rfl:kV = .none:=Dflts.noKw hD
 obtain⟨a,vs,ns,rfl,rfl,gh,dB,ab⟩:=x35 hn cJ hwl;refine enter_call (Iw (call w s₀ s₁ mg mb fa o pm cd av a vs ns G Y ho (fd_plain hd) aV jt gh dB ab hg) fun r s' hq=>?_);obtain⟨rfl,h2,h3,h4⟩:=hq;exact⟨.inl ⟨.bool true,.bool true,[],rfl,fun _=>rfl,.bool true,x3O l _,fun _=>⟨Eh,fun _ hm=>(nomatch hm)⟩⟩,h2,h3,h4⟩
end Att
namespace L2
open PySem PySem.Spec PyProof.Rows
theorem y3L:∀{vs:List A8} {ns:List Int},C4 vs ns->Y3 (ns.map V.int) vs
 |_,_,.nil=>.nil
 |_,_,.cons n t h=>.cons ⟨t,rfl⟩ (y3L h)
noncomputable def z2A(s:Db):Ja:=match s with
 | .FunctionDef _ a _ _ _ _ _ _ _ _=>a
 |_=>{ posonlyargs:=[],args:=[],vararg:=none,kwonlyargs:=[],kw_defaults:=[],kwarg:=none,defaults:=[] }
noncomputable def z05(s:Db):List Db:=match s with
 | .FunctionDef _ _ b _ _ _ _ _ _ _=>b
 |_=>[]
noncomputable def v6(s:Db):Scope:=match s with
 | .FunctionDef _ _ _ _ _ _ sc _ _ _=>sc
 |_=>{ kind:=.function,names:=[],isGenerator:=false,isCoroutine:=false }
noncomputable abbrev CX0:CXT:=fun _ _ _ _ _ _=>False
noncomputable abbrev E0:XK:=fun _ _ _=>False
theorem w78{X:Cx}:x6F CX0 X E0:=fun _ _ _ _ _ _ _ h=>h.elim
structure Fun(K:A5)(x qual:Bb)(st:Db)(f:Ap)(fd:Ep):Prop where
 ex:∃(oc:A8) (od:Option Ap) (kV av pm:A8) (an:Option Ap) (am ct:A8) (dO:Array (Option A8)),
  fd=Dm x qual (z2A st) (z05 st) (v6 st) .none kV av pm an am ct/\K.lookup f=some ⟨oc,od,.func fd,dO⟩/\Hs K am qual=true
 kp:Fh K (.ref f)=true
section
variable{P:Bo}{w:C8}{K:A5}{mg:Bb->Option A8}{base:C5}
theorem Fun.ok{x qual:Bb}{st:Db}{f:Ap}{fd:Ep}{N ps:List Bb}{k:Nat}{sp:Sp}(F:Fun K x qual st f fd)(S:FnScope N ps (v6 st))(len:∀vs H Q E,sp vs H Q E->vs.length=ps.length)
  (ap:∀(am:A8) (A:By) (outer:List Ls) (s:Ah) (H:Hp) (vs:List V) (Q:VK) (E:XK),Room k (A.deeper (Is qual (v6 st) s.heap.objs.size f am))->sp vs H Q E ->
   ∃t,PSs (x1H CX0 P w K mg base N qual (v6 st) f am A outer s H E).nox (z05 st) t/\t { nx:=fun _ H'=>Q .non H',rt:=Q } (start N vs) H):FnOk P w K mg base CX0 (k+1) f fd ps sp:=by
 obtain⟨oc,od,kV,av,pm,an,am,ct,dO,rfl,lk,aV⟩:=F.ex;refine w60 lk aV S len fun A outer s H vs Q E hr fC=>?_;obtain⟨t,h,q⟩:=ap am A outer s H vs Q E hr fC;exact⟨t,h.nox,q⟩
theorem Fun.binds{x qual:Bb}{st:Db}{f:Ap}{fd:Ep}{ps:List Bb}(F:Fun K x qual st f fd)(h:∀(kV av pm:A8) (an:Option Ap) (am ct:A8) (us:List A8),us.length=ps.length->Ge (Dm x qual (z2A st) (z05 st) (v6 st) .none kV av pm an am ct) ⟨us,[]⟩=Ck (ps.zip us)):y7V K fd ps []:=by obtain⟨oc,od,kV,av,pm,an,am,ct,dO,rfl,lk,aV⟩:=F.ex;exact .all (h kV av pm an am ct)
theorem w0B{x qual:Bb}{st:Db}{f:Ap}{oc:A8}{od an:Option Ap}{dO:Array (Option A8)}{kV av pm am ct:A8}(l:K.lookup f=some ⟨oc,od,.func (Dm x qual (z2A st) (z05 st) (v6 st) .none kV av pm an am ct),dO⟩)(c:Hs K am qual=true)(k:Fh K (.ref f)=true):Fun K x qual st f (Dm x qual (z2A st) (z05 st) (v6 st) .none kV av pm an am ct):=⟨⟨oc,od,kV,av,pm,an,am,ct,dO,rfl,l,c⟩,k⟩
end
theorem w04{A B:Prop}(h:B):if false=true then A else B:=by rw[if_neg B0];exact h
theorem x8A{A B:Prop}(h:A):if true=true then A else B:=by rw[if_pos rfl];exact h
def j6(H H':Hp):Prop:=∀b o,H b=some o->H' b=some o
theorem j6.refl(H:Hp):j6 H H:=fun _ _ h=>h
theorem j6.trans{H H1 H2:Hp}(a:j6 H H1)(b:j6 H1 H2):j6 H H2:=fun c o h=>b c o (a c o h)
theorem j6.free{H H':Hp}(e:j6 H H'){l:Ap}(h:H' l=Option.none):H l=Option.none:=by
 cases q:H l with
 |none=>rfl
 |some o=>rw[e l o q]at h;cases h
theorem j6.seq{K:A5}{H H':Hp}{a:Ap}{xs:List V}(e:j6 H H')(h:SqL K H a xs):SqL K H' a xs:=by
 rcases h with (h|⟨o,h⟩)|h
 ·exact .inl (.inl (e _ _ h))
 ·exact .inl (.inr ⟨o,e _ _ h⟩)
 ·exact .inr h
end L2
namespace L3
open PySem PySem.Spec PyProof.Rows L2
abbrev St:=L2.St
section
variable{env:Ls}
theorem x5X:∀(names:List (Bb×Gf)) (cs:List (Bb×Ap)),(∀x∈names,x.2 = .free->∃c,env.cells.lookup x.1=some c) ->
  ∃cl:List (Bb×Ap),(forIn names cs (fun (x:Bb×Gf) (r:List (Bb×Ap))=>(if (x.2==Br)=true then do
    let a ←cellOf env x.1
    Ck (Ej ((x.1,a)::r))
   else Ck (Ej r):Sem (ForInStep (List (Bb×Ap))))):Sem (List (Bb×Ap)))=Ck cl /\
   (∀x c,cl.lookup x=some c->cs.lookup x=some c∨(env.cells.lookup x=some c/\(x,Br)∈names)) /\
   (∀x,((x,Br)∈names∨∃c,cs.lookup x=some c)->∃c,cl.lookup x=some c)
 | [],cs,_=>⟨cs,rfl,fun x c h=>.inl h,fun x h=>by
   rcases h with h|h
   ·simp at h
   ·exact h⟩
 | (n,k)::r,cs,hf=>by
  by_cases hk:k = .free
  ·subst hk;obtain⟨c,hc⟩:=hf (n,.free) A6 rfl;obtain⟨cl,e,h1,h2⟩:=x5X r ((n,c)::cs) (fun x hx=>hf x (A7 _ hx));refine⟨cl,?_,fun x d hd=>?_,fun x hx=>?_⟩
   ·rw[List.forIn_cons]
    have e1:cellOf env n=Ck c:=by unfold cellOf;rw[hc]
    simp only[beq_self_eq_true,if_true,e1];exact e
   ·rcases h1 x d hd with q|⟨q1,q2⟩
    ·rw[Bi]at q
     cases hx:x==n with
     |true=>
      rw[hx]at q
      have ex:x=n:=by simpa using hx
      subst ex;cases q;exact .inr ⟨hc,A6⟩
     |false=>rw[hx]at q;exact .inl q
    ·exact .inr ⟨q1,A7 _ q2⟩
   ·refine h2 x ?_;rcases hx with hx|⟨d,hd⟩
    ·rcases Af.mp hx with z|z
     ·cases z;exact .inr ⟨c,by simp[Bi]⟩
     ·exact .inl z
    ·refine .inr ?_;rw[Bi]
     cases hx:x==n with
     |true=>exact⟨c,rfl⟩
     |false=>exact⟨d,hd⟩
  ·obtain⟨cl,e,h1,h2⟩:=x5X r cs (fun x hx=>hf x (A7 _ hx));refine⟨cl,?_,fun x d hd=>?_,fun x hx=>?_⟩
   ·rw[List.forIn_cons]
    have hb:(k==Br)=false:=by simpa using hk
    simp only[hb,E9,if_false];exact e
   ·rcases h1 x d hd with q|⟨q1,q2⟩
    ·exact .inl q
    ·exact .inr ⟨q1,A7 _ q2⟩
   ·refine h2 x ?_;rcases hx with hx|hx
    ·rcases Af.mp hx with z|z
     ·cases z;exact absurd rfl hk
     ·exact .inl z
    ·exact .inr hx
theorem y9N{scope:Scope}(hf:∀x∈scope.names,x.2 = .free->∃c,env.cells.lookup x.1=some c):
  ∃cl,Mj scope env=Ck cl/\(∀x c,cl.lookup x=some c->env.cells.lookup x=some c/\(x,Br)∈scope.names)/\(∀x,(x,Br)∈scope.names->∃c,cl.lookup x=some c):=by
 obtain⟨cl,e,h1,h2⟩:=x5X (env:=env) scope.names [] hf;refine⟨cl,?_,fun x c h=>?_,fun x h=>h2 x (.inl h)⟩
 ·unfold Mj;have e':=e
  first
   |exact(congrArg (fun m=>m >>= fun cs=>Ck cs) e')
   | (simp only[bind_pure];exact e')
   | (show (forIn scope.names [] _ >>= fun cs=>Ck cs)=Ck cl;rw[e'];rfl)
 ·rcases h1 x c h with q|q
  ·simp at q
  ·exact q
end
section
variable{prog:Bo}{w:C8}{A:By}{R:Js->Ah->Prop}{s:Ah}
theorem z86{aR ad ae:Expr}{aS:List Expr}{scope:Scope}{pos:F2}{it af:A8}{env:Ls}(I:Nat->Ah->Prop)
  (turn:∀n s,I n s->Aq (B3 prog w) A (Ic it) (fun r s1=>match r with
   |none=>R (.ok .next) s1
   |some v=>Aq (B3 prog w) A (Ir ad it v) (fun _ s1'=>Aq (B3 prog w) A (Kg ad env v) (fun _ s2=>
     Aq (B3 prog w) A (forIn aS true fun c r=>if r=true then do let ok ←isTrue c env (C0 c env);Ck (Ej ok) else Ck (Ej r)) (fun ok s3=>
      if ok=true then Aq (B3 prog w) A (C0 aR env) (fun x s4=>
       Aq (B3 prog w) A (call (.builtin "list.append") [af,x]) (fun _ s5=>∃m,m<n/\I m s5) (fun _ _=>False) s4) (fun _ _=>False) s3
      else ∃m,m<n/\I m s3) (fun _ _=>False) s2) (fun _ _=>False) s1') (fun _ _=>False) s1) (fun _ _=>False) s)
  (n:Nat) (h:I n s):
  Dl (B3 prog w) A (.compLoop (.ListComp aR [⟨ad,ae,aS,0⟩] scope pos) 0 it af env) R s:=by
 refine codeAny_loop rfl I (fun n s hI=>?_) n h;show Aq _ A ((compTurn (.ListComp aR [⟨ad,ae,aS,0⟩] scope pos) 0 it af env).onRaise (fun x=>do noteFrame x env;theTreesLotGoes x)) _ _ s
 refine wpAny_noted ?_;rw[compTurn_list];refine A4 (G7 (A4 (Ce (turn n s hI) (fun r s1 h1=>?_) fun _ _ h'=>h'.elim)))
 cases r with
 |none=>exact wpAny_pure h1
 |some v=>
  refine A4 (Ce h1 (fun _ s1' iR=>?_) fun _ _ h'=>h'.elim);refine A4 (Ce iR (fun _ s2 h2=>A4 (Ce h2 (fun ok s3 h3=>?_) fun _ _ h'=>h'.elim)) fun _ _ h'=>h'.elim)
  cases ok with
  |false=>exact wpAny_pure ⟨rfl,h3⟩
  |true=>exact A4 (A4 (Ce h3 (fun x s4 h4=>A4 (Ce h4 (fun _ s5 h5=>wpAny_pure (wpAny_pure ⟨rfl,h5⟩)) fun _ _ h'=>h'.elim)) fun _ _ h'=>h'.elim))
end
noncomputable abbrev K9(X:Cx)(N:List Bb)(scope:Scope)(cl:List (Bb×Ap))(C:Ap)(fp:List Ap)(s:Ah)(H:Hp):Cx where
 prog:=X.prog
 w:=X.w
 K:=X.K
 mg:=X.mg
 base:=X.base
 A:=X.A
 N:=N
 s₀:=s
 H₀:=H
 env:=Mk scope cl C X.env
 outer:=X.stack
 stack:=X.stack
 ex:=fp
 fn:=fun x=>match scope.names.lookup x with|some .local=>true|some .cell=>true|_=>false
 calm:=X.calm
 pn:=[]
 xe:=fun _ _=>False
structure CellsC(X:Cx)(scope:Scope)(s:Ah)(h1:C5)(cs:List (Bb×Ap)):Prop where
 old:∀x c,cs.lookup x=some c->(X.env.cells.lookup x=some c/\(x,Br)∈scope.names)∨(s.heap.objs.size<c/\h1.IsCell c none/\(x,De)∈scope.names)
 has:∀x,((x,Br)∈scope.names∨(x,De)∈scope.names)->∃c,cs.lookup x=some c
 inj:∀x y c,cs.lookup x=some c->cs.lookup y=some c->s.heap.objs.size<c->x=y
theorem z43:∀(names:List (Bb×Gf)) (n:Nat) (af:List (Bb×Ap)) (x:Bb),((x,De)∈names∨∃c,af.lookup x=some c)->∃c,(Gn n names af).lookup x=some c
 | [],_,_,_,h=>by
  rcases h with h|h
  ·simp at h
  ·exact h
 | (m,k)::r,n,af,x,h=>by
  unfold Gn;by_cases hk:(k==De)=true
  ·rw[if_pos hk];refine z43 r _ _ x ?_;rcases h with h|⟨c,h⟩
   ·rcases Af.mp h with z|z
    ·cases z;exact .inr ⟨n,by simp[Bi]⟩
    ·exact .inl z
   ·refine .inr ?_;rw[Bi]
    cases hx:x==m with
    |true=>exact⟨n,rfl⟩
    |false=>exact⟨c,h⟩
  ·rw[if_neg hk];refine z43 r _ _ x ?_;rcases h with h|h
   ·rcases Af.mp h with z|z
    ·cases z;exact absurd rfl hk
    ·exact .inl z
   ·exact .inr h
theorem z41:∀(names:List (Bb×Gf)) (h:C5) (af:List (Bb×Ap)) (x:Bb) (c:Ap),(Gn h.objs.size names af).lookup x=some c ->
  af.lookup x=some c∨(h.objs.size≤c/\(pushCells h names).IsCell c none/\(x,De)∈names)
 | [],_,_,_,_,e=>.inl e
 | (m,k)::r,h,af,x,c,e=>by
  unfold Gn at e;unfold pushCells;by_cases hk:(k==De)=true
  ·rw[if_pos hk]at e ⊢
   have ce:k=De:=by simpa using hk
   have ih:=z41 r (h.push { cls:=.type "cell",data:=.cell none }) ((m,h.objs.size)::af) x c (by rw[Cw];exact e)
   rcases ih with z|⟨z1,z2,z3⟩
   ·rw[Bi]at z
    cases hx:x==m with
    |true=>
     rw[hx]at z;cases z
     have:x=m:=by simpa using hx
     subst this;subst ce;exact .inr ⟨Ak _,⟨_,pushCells_keeps _ _ _ _ (At _ rfl),rfl⟩,A6⟩
    |false=>
     rw[hx]at z;exact .inl z
   ·rw[Cw]at z1;exact .inr ⟨by omega,z2,A7 _ z3⟩
  ·rw[if_neg hk]at e ⊢;rcases z41 r h af x c e with z|⟨z1,z2,z3⟩
   ·exact .inl z
   ·exact .inr ⟨z1,z2,A7 _ z3⟩
theorem z42:∀(names:List (Bb×Gf)) (n:Nat) (af:List (Bb×Ap)),(∀x c,af.lookup x=some c->c<n)->∀lo,(∀x y c,af.lookup x=some c->af.lookup y=some c->lo<c->x=y) ->
  ∀x y c,(Gn n names af).lookup x=some c->(Gn n names af).lookup y=some c->lo<c->x=y
 | [],_,_,_,_,hi,x,y,c,e1,e2,hc=>hi x y c e1 e2 hc
 | (m,k)::r,n,af,al,lo,hi,x,y,c,e1,e2,hc=>by
  unfold Gn at e1 e2;by_cases hk:(k==De)=true
  ·rw[if_pos hk]at e1 e2
   have ci:∀z d,((m,n)::af).lookup z=some d->(z=m/\d=n)∨(af.lookup z=some d):=fun z d e=>by
    rw[Bi]at e
    cases hx:z==m with
    |true=>rw[hx]at e;cases e;exact .inl ⟨by simpa using hx,rfl⟩
    |false=>rw[hx]at e;exact .inr e
   refine z42 r (n+1) _ (fun z d e=>?_) lo (fun z1 z2 d f1 f2 hd=>?_) x y c e1 e2 hc
   ·rcases ci z d e with⟨_,q⟩|q
    ·rw[q];exact Dr n
    ·exact C6 (al z d q)
   ·rcases ci z1 d f1 with⟨q1,q2⟩|q
    ·rcases ci z2 d f2 with⟨p1,_⟩|p
     ·rw[q1,p1]
     ·exact absurd (al z2 d p) (by rw[q2];exact Dj _)
    ·rcases ci z2 d f2 with⟨p1,p2⟩|p
     ·exact absurd (al z1 d q) (by rw[p2];exact Dj _)
     ·exact hi z1 z2 d q p hd
  ·rw[if_neg hk]at e1 e2;exact z42 r n af al lo hi x y c e1 e2 hc
section
variable{M:Model}{A:By}{E:VP}
theorem z6C{X:Cx}{scope:Scope}{cl:List (Bb×Ap)}{globals:Ap}{qual:Bb}{Q:Ls->Ah->Prop}{s:Ah}(ay:∀x c,cl.lookup x=some c->X.env.cells.lookup x=some c/\(x,Br)∈scope.names)(dZ:∀x,(x,Br)∈scope.names->∃c,cl.lookup x=some c)(al:∀x c,X.env.cells.lookup x=some c->c<s.heap.objs.size)
  (hQ:∀cs h' m,h'.Ns s.heap.objs.size m->(∀b o,s.heap.get? b=some o->h'.get? b=some o)->CellsC X scope s h' cs ->
   Q (newEnv scope s.heap.objs.size globals cs qual none .none (some X.env) He) { s with heap:=h',toks:=s.toks+([]:List (Bb×A8)).length }):
  Aq M A (newFunctionEnv scope globals cl [] qual none .none (some X.env)) Q E s:=by
 simp only[newFunctionEnv,Option.isSome_some,if_true];refine A4 (wpAny_alloc ?_);refine A4 (wpAny_layCells _ (fun name kind cells=>by cases hkc:kind==De<;>simp[hkc]) _ _ _ _ ?_)
 refine A4 ?_;rw[List.forIn_nil];refine wpAny_pure (wpAny_pure ?_);have hn:∀b o,s.heap.get? b=some o->(pushCells (s.heap.push { cls:=.type "dict",data:=.dict #[] }) scope.names).get? b=some o:=fun b o e=>pushCells_keeps _ _ b o (Aa _ e);have sz:(s.heap.push { cls:=.type "dict",data:=.dict #[] }).objs.size=s.heap.objs.size+1:=Cw ..;refine hQ _ _ (fun _=>none) ((C5.Ns.new s.heap (.type "dict")).keeps (pushCells_keeps _ _)) hn ⟨fun x c e=>?_,fun x hx=>?_,fun x y c e1 e2 hc=>?_⟩
 ·rcases z41 scope.names _ cl x c e with z|⟨z1,z2,z3⟩
  ·exact .inl (ay x c z)
  ·rw[sz]at z1;exact .inr ⟨by omega,z2,z3⟩
 ·refine z43 _ _ _ x ?_;rcases hx with hx|hx
  ·exact .inr (dZ x hx)
  ·exact .inl hx
 ·refine z42 scope.names _ cl (fun x c e=>?_) s.heap.objs.size (fun x y c e1 e2 hc=>?_) x y c e1 e2 hc
  ·show c<(s.heap.push { cls:=.type "dict",data:=.dict #[] }).objs.size;rw[sz];exact C6 (al x c (ay x c e).1)
  ·exact absurd (Cu hc (al x c (ay x c e1).1)) (Dj _)
end
theorem z2V{env:Ls}{x:Bb}:∀{names:List (Bb×Gf)} {k:Gf},
  (names.map fun (n,k)=>if (k==Br&&env.scope.kind==.function&&env.kindOf n==some .cell) then (n,De) else (n,k)).lookup x=some k ->
  (names.lookup x=some k∨(k = .cell/\names.lookup x=some .free))
 | [],_,h=>by simp at h
 | (n,k')::r,k,h=>by
  have ih:=@z2V env x r k;rw[Ai]at h;dsimp only at h;rw[Bi]
  cases hx:x==n with
  |true=>
   by_cases hc:(k'==Br&&env.scope.kind==.function&&env.kindOf n==some .cell)=true
   ·rw[if_pos hc,Bi,hx]at h;cases h
    have:k' = .free:=by simp only[Ax,beq_iff_eq]at hc;exact hc.1.1
    subst this;exact .inr ⟨rfl,rfl⟩
   ·rw[if_neg hc,Bi,hx]at h;exact .inl h
  |false=>
   by_cases hc:(k'==Br&&env.scope.kind==.function&&env.kindOf n==some .cell)=true
   ·rw[if_pos hc,Bi,hx]at h;exact ih h
   ·rw[if_neg hc,Bi,hx]at h;exact ih h
theorem z7Z{env:Ls}{x:Bb}:∀{names:List (Bb×Gf)},names.lookup x=some .free ->
    ((names.map fun (n,k)=>if (k==Br&&env.scope.kind==.function&&env.kindOf n==some .cell) then (n,De) else (n,k)).lookup x=some .cell ∨
     (names.map fun (n,k)=>if (k==Br&&env.scope.kind==.function&&env.kindOf n==some .cell) then (n,De) else (n,k)).lookup x=some .free)
  | [],h=>by simp at h
  | (n,k')::r,h=>by
    have ih:=@z7Z env x r
    rw[Ai]
    dsimp only
    rw[Bi]at h
    cases hx:x==n with
    |true=>
      rw[hx]at h
      cases h
      by_cases hc:((Br==Br)&&env.scope.kind==.function&&env.kindOf n==some .cell)=true
      · rw[if_pos hc,Bi,hx];exact .inl rfl
      · rw[if_neg hc,Bi,hx];exact .inr rfl
    |false=>
      rw[hx]at h
      by_cases hc:(k'==Br&&env.scope.kind==.function&&env.kindOf n==some .cell)=true
      · rw[if_pos hc,Bi,hx];exact ih h
      · rw[if_neg hc,Bi,hx];exact ih h
def w0O(X:Cx)(aS:List Expr)(t:TT):Prop:=
 ∀(aa:Pns) (s:Ah) (σ:St) (H:Hp) (Q:Bool->Hp->Prop),Inv X aa σ H s->t σ H Q ->
  Aq (B3 X.prog X.w) X.A (forIn aS true fun c r=>if r=true then do let ok ←isTrue c X.env (C0 c X.env);Ck (Ej ok) else Ck (Ej r)) (TP X aa σ Q) X.xe s
theorem y2G{X:Cx}:w0O X [] (fun _ H Q=>Q true H):=fun _ _ _ H _ I h=>wpAny_tests_nil ⟨H,I,h⟩
theorem x7P{X:Cx}{c:Expr}{t:TT}(h:PT X c t):w0O X [c] t:=fun aa s σ H Q I hw=>wpAny_tests_one (h aa s σ H Q I hw)
noncomputable def y0J(cap:List (Option Nat))(σ:St):St:=cap.map fun o=>o.bind fun j=>(σ[j]?).bind id
def x2W(cap:List (Option Nat))(wi:TI)(g:TG)(tt:TT)(te:TE):TE:=fun σ H Q=>wi σ H fun J H1=>∀l,H1 l=none ->
 ∃W:Nat->Nat->St->Hp->List V->Prop,(∃m,W 0 m (y0J cap σ) (upd H1 l (.lst [])) [])/\∀i m σ' H' af,W i m σ' H' af ->
  (J.stop i H'/\Q (.ref l) H') ∨
  (J.go i H'/\af.length<sizeLine/\∀x H2,J.yld i H' x H2->g x σ' H2 fun σ2 H3=>tt σ2 H3 fun ok H4=>
   if ok=true then te σ2 H4 fun y H5=>H5 l=some (.lst af)/\∃m',m'<m/\W (i+1) m' σ2 (upd H5 l (.lst (af++[y]))) (af++[y])
   else ∃m',m'<m/\W (i+1) m' σ2 H4 af)
section
variable{X:Cx}
theorem y98{aa:Pns}{σ:St}{H:Hp}{s:Ah}{scope:Scope}{cl:List (Bb×Ap)}{fp:List Ap}{N:List Bb}{cap:List (Option Nat)}{h1:C5}{tk:Nat}{m:Bb->Option A8}(I:Inv X aa σ H s)(hk:scope.kind = .function)(aA:∀y∈scope.names,y.2 = .cell->scope.names.lookup y.1=some .cell)(ay:CellsC X scope s h1 cl)(bJ:∀x∈scope.names,x.2 = .free->scope.names.lookup x.1=some .free)(bx:∀(i j:Nat),cap[i]?=some (some j)->∃x,N[i]?=some x/\X.N[j]?=some x/\scope.names.lookup x=some .free/\(X.env.scope.names.lookup x=some .cell∨X.env.scope.names.lookup x=some .free))(ab:cap.length=N.length)(hfp:∀b∈fp,x29 X aa H b)(cF:∀b∈fp,∃o,s.heap.get? b=some o)(ba:h1.Ns s.heap.objs.size m)(keep:∀b o,s.heap.get? b=some o->h1.get? b=some o):
  Inv (K9 X N scope cl s.heap.objs.size fp s H) [] (y0J cap σ) H { s with heap:=h1,toks:=tk }:=by
 have kk:∀x,(Mk scope cl s.heap.objs.size X.env).kindOf x=(relabel scope X.env).names.lookup x:=fun x=>rfl
 have nost:∀b∈fp,b∉frs X.stack:=fun b hb z=>by
  obtain⟨_,f1,f2,_⟩:=hfp b hb;rcases Af.mp (I.stkSub b z) with e|e
  ·exact f1 e
  ·exact f2 e
 have ik:∀b∈fp,b<s.heap.objs.size:=fun b hb=>by obtain⟨o,e⟩:=cF b hb;exact Am e
 have lts:∀x c,X.env.cells.lookup x=some c->c<s.heap.objs.size:=fun x c e=>by obtain⟨v,o,ho,_⟩:=I.cell x c e;exact Am ho
 have fro:∀x c,(x,Br)∈scope.names->cl.lookup x=some c->X.env.cells.lookup x=some c:=fun x c hx e=>by
  rcases ay.old x c e with z|⟨_,_,z⟩
  ·exact z.1
  ·have z1:=bJ _ hx rfl;have z2:=aA _ z rfl;rw[z1]at z2;cases z2
 have eR:∀x,((relabel scope X.env).names.lookup x=some .cell∨(relabel scope X.env).names.lookup x=some .free)->((x,Br)∈scope.names∨(x,De)∈scope.names):=fun x hx=>by
  have nc:∀{k},scope.names.lookup x=some k->(x,k)∈scope.names:=fun h=>Bt h;rcases hx with hx|hx
  ·rcases z2V hx with z|⟨_,z⟩
   ·exact .inr (nc z)
   ·exact .inl (nc z)
  ·rcases z2V hx with z|⟨z,_⟩
   ·exact .inl (nc z)
   ·cases z
 refine⟨⟨I.ok.mod,hk,I.ok.glob,I.ok.blt,Ak _,fun x y c e1 e2=>?inj,fun x hx=>ay.has x (eR x hx),fun x c hx e=>?cab,I.ok.hd,I.ok.frames,.inl rfl,fun b hb=>?exf,I.bs,Bk I.ok.bsz I.sz,fun b o e hb=>?noex,nost,I.stack,I.stkFree⟩,
  rfl,I.bare,Un.kept keep,⟨m,ba,fun i x v e1 e2 e3=>?loc⟩,fun x c e=>?cell,I.hok.fresh (Ak _),fun x c e=>?freeC,fun p hp=>absurd (show p∈([]:Pns) from hp) (by simp),I.hok.kept keep,?len⟩
 case inj=>
  rcases ay.old x c e1 with⟨z,_⟩|⟨z,_⟩
  ·rcases ay.old y c e2 with⟨z',_⟩|⟨z',_⟩
   ·exact I.ok.inj x y c z z'
   ·exact absurd (Cu z' (lts x c z)) (Dj _)
  ·exact ay.inj x y c e1 e2 z
 case freeC=>
  rcases ay.old x c e with⟨z,_⟩|⟨z,_⟩
  ·exact I.freeC x c z
  ·exact I.hok.fresh (D8 z)
 case cab=>
  have aI:(match scope.names.lookup x with|some .local=>true|some .cell=>true|_=>false)=true:=hx;rcases ay.old x c e with⟨_,z⟩|⟨z,_⟩
  ·have:=bJ _ z rfl
   rw[this]at aI;cases aI
  ·exact D8 z
 case exf=>
  refine⟨Ar (ik b hb),fun x c e=>?_⟩;rcases ay.old x c e with⟨z,_⟩|⟨z,_⟩
  ·exact(hfp b hb).2.2.2.2.1 x c z
  ·intro q;rw[q]at z;exact absurd (Cu z (ik b hb)) (Dj _)
 case noex=>
  obtain⟨_,_,_,f3,_⟩:=hfp b hb;rcases f3 with z|z
  ·exact I.ok.noex b o e z
  ·exact absurd (Bg (Am (I.ok.bs b o e).1) z) (Dj _)
 case loc=>
  have hc:∃j,cap[i]?=some (some j)/\σ[j]?=some (some v):=by
   unfold y0J at e2;rw[Au]at e2
   cases fE:cap[i]? with
   |none=>rw[fE]at e2;cases e2
   |some o=>
    rw[fE]at e2
    cases o with
    |none=>cases e2
    |some j=>
     refine⟨j,rfl,?_⟩;have eV:(σ[j]?).bind id=some v:=Bc e2
     cases hs:σ[j]? with
     |none=>rw[hs]at eV;cases eV
     |some q=>
      rw[hs]at eV
      have:q=some v:=eV
      rw[this]
  obtain⟨j,hj,hv⟩:=hc;obtain⟨y,n1,n2,n3,n4⟩:=bx i j hj
  have exy:y=x:=by
   have:N[i]?=some x:=e1
   rw[n1]at this;exact Bc this
  subst exy;obtain⟨mm,hm,hl⟩:=I.loc;obtain⟨u,r,ci⟩:=hl j y v n2 hv (.inr n4);refine⟨u,r,.inr ⟨z7Z n3,?_⟩⟩;rcases ci with⟨k,_⟩|⟨k,c,e,z⟩
  ·have k':X.env.scope.names.lookup y=some .local:=k;rw[k']at n4;rcases n4 with q|q<;>cases q
  ·obtain⟨c',bK⟩:=ay.has y (.inl (Bt n3))
   have:=fro y c' (Bt n3) bK
   rw[e]at this;cases this;obtain⟨o,ho,hd⟩:=z;exact⟨c,bK,o,keep _ _ ho,hd⟩
 case cell=>
  rcases ay.old x c e with⟨z,_⟩|⟨_,z,_⟩
  ·obtain⟨v,o,ho,hd⟩:=I.cell x c z;exact⟨v,o,keep _ _ ho,hd⟩
  ·exact⟨_,z⟩
 case len=>unfold y0J;rw[A0];exact ab
theorem x3U{aR ad ae:Expr}{aS:List Expr}{scope:Scope}{pos:F2}{N:List Bb}{cap:List (Option Nat)}{wi:TI}{g:TG}{tt:TT}{te:TE}(hc:X.calm=true)(hi:PI X ad ae wi)(hg:∀cl C fp s H,PG (K9 X N scope cl C fp s H) ad g)(ht:∀cl C fp s H,w0O (K9 X N scope cl C fp s H) aS tt)(he:∀cl C fp s H,PE (K9 X N scope cl C fp s H) aR te)(hk:scope.kind = .function)(aA:∀y∈scope.names,y.2 = .cell->scope.names.lookup y.1=some .cell)(bz:∀x∈scope.names,x.2 = .local->scope.names.lookup x.1=some .local)(bJ:∀x∈scope.names,x.2 = .free->scope.names.lookup x.1=some .free)(cA:∀x∈scope.names,x.2 = .free->X.env.scope.names.lookup x.1=some .cell∨X.env.scope.names.lookup x.1=some .free)(bx:∀(i j:Nat),cap[i]?=some (some j)->∃x,N[i]?=some x/\X.N[j]?=some x/\scope.names.lookup x=some .free)(ab:cap.length=N.length)(hs:∀x,Cn ae X.env x=Ck x:=by intro _;rfl):
  PE X (.ListComp aR [⟨ad,ae,aS,0⟩] scope pos) (x2W cap wi g tt te):=by
 intro aa s σ H Q I h;obtain⟨cl,dE,ay,dZ⟩:=y9N (env:=X.env) (scope:=scope) fun x hx hf=>I.ok.has x.1 (cA x hx hf);rw[eval_ListComp];refine wpAny_comprehension_free (use:=none) rfl hs dE hk bz ?_;show Aq _ _ (C0 ae X.env) _ _ s;refine thn (hi aa s σ H _ I h) fun v s1 h1=>thn h1 fun itv s2 h2=>?_;obtain⟨it,fp,tn,J,H2,rfl,I2,T,cX,f2,hW⟩:=h2;obtain⟨W,⟨m0,w0⟩,turn⟩:=hW s2.heap.objs.size I2.fresh
 refine Cb (z6C (X:=X) (E:=X.xe) ay dZ (fun x c e=>by
  obtain⟨v,o,ho,_⟩:=I2.cell x c e;show c<(C5.push _ _).objs.size;rw[Cw]
  exact C6 (Am ho)) (fun cs h4 m4 ba bw dv=>?_))
 dsimp only at ba bw ⊢;have I3:Inv X aa σ (upd H2 s2.heap.objs.size (.lst [])) { s2 with heap:=s2.heap.push { cls:=.type "list",dict:=none,data:=.seq ([]:List A8).toArray } }:=I2.lnew (its:=[]) (t':=s2.toks) .nil (Bf _);generalize ja:({ s2 with heap:=s2.heap.push { cls:=.type "list",dict:=none,data:=.seq ([]:List A8).toArray } }:Ah)=s3 at I3
 have cQ:s2.heap.push { cls:=.type "list",dict:=none,data:=.seq ([]:List A8).toArray }=s3.heap:=by rw[←ja]
 have hsz3:s3.heap.objs.size=s2.heap.objs.size+1:=by rw[←cQ,Cw]
 rw[cQ]at ba bw;have cn:∀b o,s3.heap.get? b=some o->h4.get? b=some o:=bw;have dq:CellsC X scope s3 h4 cs:=⟨fun x c e=>by rw[←cQ];exact dv.old x c e,dv.has,fun x y c e1 e2 hc=>dv.inj x y c e1 e2 (by rw[←cQ]at hc;exact hc)⟩
 have iM:∀b∈fp,(upd H2 s2.heap.objs.size (.lst [])) b=none/\x29 X aa (upd H2 s2.heap.objs.size (.lst [])) b:=fun b hb=>by
  obtain⟨o,e,_⟩:=T.obj 0 _ cX b hb;have ne:b≠s2.heap.objs.size:=Ar (Am e)
  have z:(upd H2 s2.heap.objs.size (.lst [])) b=none:=by rw[u8 ne];exact(f2 b hb).1
  exact⟨z,z,(f2 b hb).2⟩
 have cF:∀b∈fp,∃o,s3.heap.get? b=some o:=fun b hb=>by obtain⟨o,e,_⟩:=T.obj 0 _ cX b hb;exact⟨o,by rw[←cQ];exact Aa _ e⟩
 have I4:∀tk,Inv (K9 X N scope cs s3.heap.objs.size fp s3 (upd H2 s2.heap.objs.size (.lst []))) [] (y0J cap σ) (upd H2 s2.heap.objs.size (.lst [])) { s3 with heap:=h4,toks:=tk }:=fun tk=>
  y98 I3 hk aA dq bJ (fun i j e=>by
   obtain⟨x,n1,n2,n3⟩:=bx i j e
   exact⟨x,n1,n2,n3,cA _ (Bt n3) rfl⟩) ab (fun b hb=>(iM b hb).2) cF ba cn
 have iV:tn 0 h4:=T.keep _ _ _ cX fun b _ o e=>cn b o (by rw[←cQ];exact Aa _ e)
 have br:∀{H':Hp},(∀b∈fp,H' b=none)->∀b∈fp,x29 (K9 X N scope cs s3.heap.objs.size fp s3 (upd H2 s2.heap.objs.size (.lst []))) [] H' b:=fun {H'} hn b hb=>by
  obtain⟨o,e⟩:=cF b hb;obtain⟨_,f1,f3,_,f5,_⟩:=f2 b hb;refine⟨hn b hb,Ar (Am e),fun z=>?_,.inl hb,fun x c e=>(dq.old x c e).elim (fun z=>f5 x c z.1) (fun z q=>absurd (Am (q▸‹s3.heap.get? b=some o›)) (Ml.mpr (D8 z.1))),fun p hp=>absurd (show p∈([]:Pns) from hp) (by simp)⟩;rcases Af.mp (I3.stkSub b z) with e'|e'
  ·exact f1 e'
  ·exact f3 e'
 have cT:∀s4:Ah,s4={ s3 with heap:=h4,toks:=s2.toks+([]:List (Bb×A8)).length } ->
   Dl (B3 X.prog X.w) X.A (.compLoop (.ListComp aR [⟨ad,ae,aS,0⟩] scope pos) 0 (.ref it) (.ref s2.heap.objs.size) (Mk scope cs s3.heap.objs.size X.env))
    (compPost (B3 X.prog X.w) X.A X.xe none (EP X aa σ Q) (.ref s2.heap.objs.size) s3.heap.objs.size) s4:=by
  rintro s4 rfl;refine z86 (fun n s'=>∃i σ' H' af,Inv (K9 X N scope cs s3.heap.objs.size fp s3 (upd H2 s2.heap.objs.size (.lst []))) [] σ' H' s'/\tn i s'.heap/\(∀b∈fp,H' b=none)/\W i n σ' H' af) ?_ m0 ⟨0,_,_,[],I4 _,iV,fun b hb=>(iM b hb).1,w0⟩;rintro n s5 ⟨i,σ5,H5,af,I5,eW,fZ,w5⟩;rcases turn i n σ5 H5 af w5 with⟨stop,q⟩|⟨go,hz,step⟩
  ·refine thn (T.done (K9 X N scope cs s3.heap.objs.size fp s3 (upd H2 s2.heap.objs.size (.lst []))) rfl rfl rfl hc i [] s5 σ5 H5 _ I5 (br fZ) eW stop) fun r s6 ⟨hr,I6⟩=>?_;subst hr;obtain⟨m6,hn6,_⟩:=I6.loc;refine⟨m6,hn6,fun h' sb=>?_⟩
   have dU:∀b u,H5 b=some u->b≠s3.heap.objs.size:=fun b u e z=>by
    subst z
    have:=I6.free
    rw[show H5 s3.heap.objs.size=none from this]at e;cases e
   refine⟨.ref s2.heap.objs.size,H5,?_,rfl,q⟩;refine I3.call' (s':={ s6 with heap:=h' }) (ch:=fp) I6.os ?_ (fun b u e=>?_) I6.bare (fun b hb=>?_)
   ·have u6:Un (frs X.stack) fp (upd H2 s2.heap.objs.size (.lst [])) H5 s3.heap s6.heap:=I6.base;have ex:∀b o,s3.heap.get? b=some o->∀o',s6.heap.get? b=some o'->h'.get? b=some o':=fun b o e o' e'=>(sb.2 b (Ar (Am e))).trans e';exact⟨fun b o e n hb hx=>ex b o e _ (u6.keep b o e n hb hx),fun b o e n hb hx=>let ⟨sl,z⟩:=u6.slot b o e n hb hx;⟨sl,ex b o e _ z⟩,u6.free,fun b o e hx=>let ⟨o',z⟩:=u6.there b o e hx;⟨o',ex b o e _ z⟩,u6.tups,u6.frzs,u6.tbls⟩
   ·refine(I6.hok b u e).stay (fun c v bK q'=>(sb.2 c ?_).trans q') (fun _ q'=>q') (fun _ _ q'=>q') fun _ _ _ q'=>q';rcases bK with rfl|bK
    ·exact dU _ _ e
    ·exact dU _ _ bK
   ·obtain⟨_,f1,_,f3,f5,f6⟩:=f2 b hb;exact⟨f3,f1,f5,f6⟩
  ·refine thn (T.item (K9 X N scope cs s3.heap.objs.size fp s3 (upd H2 s2.heap.objs.size (.lst []))) rfl rfl rfl hc i [] s5 σ5 H5 _ I5 (br fZ) eW go) fun r s6 ⟨u,hr,h6⟩=>?_;subst hr;refine thn h6 fun _ s7 ⟨x,H7,I7,r7,y7,fR,fr7⟩=>?_;have I7':=I7.pinned (br fr7) (T.obj _ _ fR);refine thn (hg _ _ _ _ _ _ s7 σ5 H7 x u _ I7' r7 (step x H7 y7)) fun _ s8 ⟨σ8,H8,I8,q8⟩=>?_;refine thn (ht _ _ _ _ _ _ s8 σ8 H8 _ I8 q8) fun ok s9 ⟨H9,I9,q9⟩=>?_
   have Lh:∀{s':Ah} {σ':St} {H':Hp} {aM:List V} {m':Nat},Inv (K9 X N scope cs s3.heap.objs.size fp s3 (upd H2 s2.heap.objs.size (.lst []))) ([]++y1C fp s7.heap) σ' H' s'->m'<n->W (i+1) m' σ' H' aM ->
     ∃m,m<n/\∃i σ'' eZ af,Inv (K9 X N scope cs s3.heap.objs.size fp s3 (upd H2 s2.heap.objs.size (.lst []))) [] σ'' eZ s'/\tn i s'.heap/\(∀b∈fp,eZ b=none)/\W i m σ'' eZ af:=fun {s' σ' H' aM m'} I' hm w'=>by
    refine⟨m',hm,i+1,σ',H',aM,I'.unpinned,T.keep _ _ _ fR fun b hb o e=>(I'.pin (b,o) (Ab _ (Ab _ (z20 hb e)))).1,fun b hb=>?_,w'⟩;obtain⟨o,e,d⟩:=T.obj _ _ fR b hb;exact(I'.pin (b,o) (Ab _ (Ab _ (z20 hb e)))).2.1
   cases ok with
   |false=>rw[if_neg B0]at q9;obtain⟨m',hm,w'⟩:=q9;exact Lh I9 hm w'
   |true=>
    rw[if_pos rfl]at q9;show Aq _ _ (C0 aR _) _ _ s9;refine z14 (he _ _ _ _ _ _ s9 σ8 H9 _ I9 q9) fun xv s10 y fT I10 r10 ⟨fV,m',hm,w'⟩=>?_;refine z14 (z6O _ s10 σ8 fT (.ref s2.heap.objs.size) [y] (.ref s2.heap.objs.size) [xv] (fun (_:V) (H':Hp)=>H'=upd fT s2.heap.objs.size (.lst (af++[y]))) I10 rfl (.cons r10 .nil) ⟨_,af,y,rfl,rfl,fV,hz,rfl⟩) fun _ s11 _ H11 I11 _ e11=>?_;have gu:H11=upd fT s2.heap.objs.size (.lst (af++[y])):=e11
    subst gu;exact Lh I11 hm w'
 have hx:∀s4:Ah,s4={ s3 with heap:=h4,toks:=s2.toks+([]:List (Bb×A8)).length }->tn 0 s4.heap:=by rintro s4 rfl;exact iV
 subst ja;exact codeAny_compStart_list (cT _ rfl) (T.self X.A 0 _ _ _ (hx _ rfl) (cT _ rfl))
end
theorem ex6{a1 a2 a3 a4 a5 a6:Sort _}{p q r:a1->a2->a3->a4->a5->a6->Prop}{C:Prop}(h:∃a b c d e f,p a b c d e f/\q a b c d e f/\r a b c d e f)(k:∀a b c d e f,p a b c d e f->q a b c d e f->r a b c d e f->C):C:=by obtain⟨a,b,c,d,e,f,x,y,z⟩:=h;exact k a b c d e f x y z
inductive D where
 |non
 |bl (b:Bool)
 |int (i:Int)
 |str (x:Bb)
 |tup (xs:List D)
 |lst (xs:List D)
 |dct (ks:List Key) (vs:List D)
mutual
noncomputable def Rep(K:A5)(H:Hp):D->V->Prop
 | .non,v=>v=V.non
 | .bl b,v=>v=V.bl b
 | .int i,v=>v=V.int i
 | .str x,v=>v=V.str x
 | .tup ds,v=>∃a xs,v=V.ref a/\SqT K H a xs/\j7 K H ds xs
 | .lst ds,v=>∃a xs,v=V.ref a/\SqL K H a xs/\j7 K H ds xs
 | .dct ks ds,v=>∃a kvs,v=V.ref a/\H a=some (HO.dK kvs)/\kvs.map (·.1)=ks/\j7 K H ds (kvs.map (·.2))
noncomputable def j7(K:A5)(H:Hp):List D->List V->Prop
 | [],xs=>xs=[]
 |d::ds,xs=>∃v vs,xs=v::vs/\Rep K H d v/\j7 K H ds vs
end
section
variable{K:A5}{H H':Hp}
theorem j3{ds:List D}{v:V}:Rep K H (.tup ds) v↔∃a xs,v=V.ref a/\SqT K H a xs/\j7 K H ds xs:=by rw[Rep]
theorem J5{ds:List D}{v:V}:Rep K H (.lst ds) v↔∃a xs,v=V.ref a/\SqL K H a xs/\j7 K H ds xs:=by rw[Rep]
theorem Z8{ks:List Key}{ds:List D}{v:V}:Rep K H (.dct ks ds) v↔∃a kvs,v=V.ref a/\H a=some (HO.dK kvs)/\kvs.map (·.1)=ks/\j7 K H ds (kvs.map (·.2)):=by rw[Rep]
theorem w6{i:Int}{v:V}:Rep K H (.int i) v↔v=V.int i:=by rw[Rep]
theorem J8{i:Bool}{v:V}:Rep K H (.bl i) v↔v=V.bl i:=by rw[Rep]
theorem W9{i:Bb}{v:V}:Rep K H (.str i) v↔v=V.str i:=by rw[Rep]
theorem Z0{v:V}:Rep K H .non v↔v=V.non:=by rw[Rep]
theorem J6{xs:List V}:j7 K H [] xs↔xs=[]:=by rw[j7]
theorem j0{d:D}{ds:List D}{xs:List V}:j7 K H (d::ds) xs↔∃v vs,xs=v::vs/\Rep K H d v/\j7 K H ds vs:=by rw[j7]
theorem u9{a:Ap}{xs:List V}(e:j6 H H')(h:SqT K H a xs):SqT K H' a xs:=by
 rcases h with (h|⟨o,h⟩)|h
 ·exact .inl (.inl (e _ _ h))
 ·exact .inl (.inr ⟨o,e _ _ h⟩)
 ·exact .inr h
mutual
theorem Rep.mono(e:j6 H H'):∀{d:D} {v:V},Rep K H d v->Rep K H' d v
 | .non,_,h=>by rw[Z0]at h ⊢;exact h
 | .bl _,_,h=>by rw[J8]at h ⊢;exact h
 | .int _,_,h=>by rw[w6]at h ⊢;exact h
 | .str _,_,h=>by rw[W9]at h ⊢;exact h
 | .tup ds,_,h=>by rw[j3]at h ⊢;obtain⟨a,xs,h1,h2,h3⟩:=h;exact⟨a,xs,h1,u9 e h2,j7.mono e h3⟩
 | .lst ds,_,h=>by rw[J5]at h ⊢;obtain⟨a,xs,h1,h2,h3⟩:=h;exact⟨a,xs,h1,e.seq h2,j7.mono e h3⟩
 | .dct ks ds,_,h=>by rw[Z8]at h ⊢;obtain⟨a,kvs,h1,h2,h3,h4⟩:=h;exact⟨a,kvs,h1,e _ _ h2,h3,j7.mono e h4⟩
theorem j7.mono(e:j6 H H'):∀{ds:List D} {xs:List V},j7 K H ds xs->j7 K H' ds xs
 | [],_,h=>by rw[J6]at h ⊢;exact h
 |d::ds,_,h=>by rw[j0]at h ⊢;obtain⟨v,vs,h1,h2,h3⟩:=h;exact⟨v,vs,h1,Rep.mono e h2,j7.mono e h3⟩
end
theorem j7.length:∀{ds:List D} {xs:List V},j7 K H ds xs->ds.length=xs.length
 | [],_,h=>by rw[J6]at h;subst h;rfl
 |d::ds,_,h=>by rw[j0]at h;obtain⟨v,vs,rfl,_,h3⟩:=h;rw[Ay,Ay,j7.length h3]
theorem j7.get:∀{ds:List D} {xs:List V} {i:Nat} {d:D},j7 K H ds xs->ds[i]?=some d->∃v,xs[i]?=some v/\Rep K H d v
 | [],_,_,_,_,e=>by simp at e
 |d::ds,_,i,d',h,e=>by
  rw[j0]at h;obtain⟨v,vs,rfl,h2,h3⟩:=h
  cases i with
  |zero=>simp at e;subst e;exact⟨v,rfl,h2⟩
  |succ i=>simpa using j7.get (i:=i) h3 (by simpa using e)
theorem j7.at:∀{ds:List D} {xs:List V} {i:Nat} {v:V},j7 K H ds xs->xs[i]?=some v->∃d,ds[i]?=some d/\Rep K H d v
 | [],_,_,_,h,e=>by rw[J6]at h;subst h;simp at e
 |d::ds,_,i,v',h,e=>by
  rw[j0]at h;obtain⟨v,vs,rfl,h2,h3⟩:=h
  cases i with
  |zero=>simp at e;subst e;exact⟨d,rfl,h2⟩
  |succ i=>simpa using j7.at (i:=i) h3 (by simpa using e)
theorem j7.append:∀{ds es:List D} {xs ys:List V},j7 K H ds xs->j7 K H es ys->j7 K H (ds++es) (xs++ys)
 | [],_,_,_,h,h'=>by rw[J6]at h;subst h;exact h'
 |d::ds,_,_,_,h,h'=>by rw[j0]at h;obtain⟨v,vs,rfl,h2,h3⟩:=h;exact j0.mpr ⟨v,_,rfl,h2,j7.append h3 h'⟩
theorem j7.one{d:D}{v:V}(h:Rep K H d v):j7 K H [d] [v]:=j0.mpr ⟨v,[],rfl,h,J6.mpr rfl⟩
theorem j7.cons{d:D}{v:V}{ds:List D}{xs:List V}(h:Rep K H d v)(t:j7 K H ds xs):j7 K H (d::ds) (v::xs):=j0.mpr ⟨v,xs,rfl,h,t⟩
theorem j7.nil:j7 K H [] []:=J6.mpr rfl
theorem j7.take:∀{ds:List D} {xs:List V} (n:Nat),j7 K H ds xs->j7 K H (ds.take n) (xs.take n)
 |_,_,0,_=>J6.mpr rfl
 | [],_,n+1,h=>by rw[J6]at h;subst h;exact J6.mpr rfl
 |d::ds,_,n+1,h=>by rw[j0]at h;obtain⟨v,vs,rfl,h2,h3⟩:=h;exact j7.cons h2 (j7.take n h3)
theorem j7.drop:∀{ds:List D} {xs:List V} (n:Nat),j7 K H ds xs->j7 K H (ds.drop n) (xs.drop n)
 |_,_,0,h=>h
 | [],_,n+1,h=>by rw[J6]at h;subst h;exact J6.mpr rfl
 |d::ds,_,n+1,h=>by rw[j0]at h;obtain⟨v,vs,rfl,h2,h3⟩:=h;exact j7.drop n h3
theorem j7.eraseIdx:∀{ds:List D} {xs:List V} (n:Nat),j7 K H ds xs->j7 K H (ds.eraseIdx n) (xs.eraseIdx n)
 | [],_,n,h=>by rw[J6]at h;subst h;exact J6.mpr rfl
 |d::ds,_,0,h=>by rw[j0]at h;obtain⟨v,vs,rfl,h2,h3⟩:=h;exact h3
 |d::ds,_,n+1,h=>by rw[j0]at h;obtain⟨v,vs,rfl,h2,h3⟩:=h;exact j7.cons h2 (j7.eraseIdx n h3)
theorem j7.rep{ds:List D}{xs:List V}(h:j7 K H ds xs):∀k:Nat,j7 K H (B1 k ds).flatten (B1 k xs).flatten
 | 0=>J6.mpr rfl
 |k+1=>by rw[D4,D4,Eg,Eg];exact j7.append h (j7.rep h k)
theorem Q8:∀{ns:List Int} {xs:List V},j7 K H (ns.map D.int) xs↔xs=ns.map V.int
 | [],xs=>by rw[Ft,J6,Ft]
 |n::ns,xs=>by
  rw[Ai,j0,Ai];constructor
  ·rintro ⟨v,vs,rfl,h2,h3⟩;rw[w6]at h2;rw[Q8]at h3;rw[h2,h3]
  ·rintro rfl;exact⟨_,_,rfl,w6.mpr rfl,Q8.mpr rfl⟩
end
noncomputable def J3(Z:List Ap)(H:Hp):Hp:=fun b=>if b∈Z then none else H b
section
variable{Z B:List Ap}{H H':Hp}{a:Ap}{o:HO}
theorem w2O(h:a∈Z):J3 Z H a=none:=if_pos h
theorem K7(h:a∉Z):J3 Z H a=H a:=if_neg h
theorem W4(h:J3 Z H a=some o):a∉Z/\H a=some o:=by
 by_cases hz:a∈Z
 ·rw[w2O hz]at h;cases h
 ·rw[K7 hz]at h;exact⟨hz,h⟩
theorem x4:j6 (J3 Z H) H:=fun b o h=>(W4 h).2
theorem y8(e:j6 H H'):j6 (J3 Z H) (J3 Z H'):=fun b o h=>by obtain⟨h1,h2⟩:=W4 h;rw[K7 h1];exact e b o h2
theorem z0G(h:∀b∈B,b∈Z):j6 (J3 Z H) (J3 B H):=fun b o q=>by obtain⟨h1,h2⟩:=W4 q;rw[K7 fun z=>h1 (h b z)];exact h2
theorem z0O(hn:H a=none)(e:j6 H H'):j6 (J3 Z H) (J3 (a::Z) H'):=fun b u q=>by
 obtain⟨h1,h2⟩:=W4 q
 have ne:b≠a:=fun z=>by rw[z,hn]at h2;cases h2
 rw[K7 (by rw[Af];exact fun z=>z.elim ne h1)]
 exact e b u h2
theorem z1H(h:a∈Z):j6 (J3 Z H) (J3 Z (upd H a o)):=fun b u q=>by
 obtain⟨h1,h2⟩:=W4 q;have ne:b≠a:=fun z=>h1 (by rw[z];exact h)
 rw[K7 h1,u8 ne];exact h2
theorem j4(hn:H a=none):j6 H (upd H a o):=fun b u q=>by rw[u8 (W1 q hn)];exact q
theorem z1K{H0:Hp}(hn:H0 a=none)(e:j6 H0 H):j6 H0 (upd H a o):=fun b u q=>by
 have ne:b≠a:=fun z=>by rw[z,hn]at q;cases q
 rw[u8 ne];exact e b u q
end
inductive OC where
 |l (ds:List D)
 |d (ks:List Key) (vs:List D)
inductive Cell where
 |sh (d:D)
 |ow (ds:List D)
 |od (ks:List Key) (vs:List D)
noncomputable def Cell.oc:Cell->Option OC
 | .sh _=>none
 | .ow ds=>some (.l ds)
 | .od ks vs=>some (.d ks vs)
noncomputable def OC.cell:OC->Cell
 | .l ds=>.ow ds
 | .d ks vs=>.od ks vs
noncomputable def OC.dat:OC->D
 | .l ds=>.lst ds
 | .d ks vs=>.dct ks vs
theorem OC.cell_oc(c:OC):c.cell.oc=some c:=by cases c<;>rfl
def x20(K:A5)(H:Hp):OC->HO->Prop
 | .l ds,o=>∃xs,o=HO.lst xs/\j7 K H ds xs
 | .d ks ds,o=>∃kvs,o=HO.dK kvs/\kvs.map (·.1)=ks/\j7 K H ds (kvs.map (·.2))
theorem x20.mono{K:A5}{H H':Hp}(e:j6 H H'):∀{c:OC} {o:HO},x20 K H c o->x20 K H' c o
 | .l ds,o,⟨xs,h1,h2⟩=>⟨xs,h1,h2.mono e⟩
 | .d ks ds,o,⟨kvs,h1,h2,h3⟩=>⟨kvs,h1,h2,h3.mono e⟩
theorem x20.rep{K:A5}{H:Hp}{a:Ap}:∀{c:OC} {o:HO},x20 K H c o->H a=some o->Rep K H c.dat (.ref a)
 | .l ds,o,⟨xs,h1,h2⟩,e=>J5.mpr ⟨a,xs,rfl,SqL.of (by rw[e,h1]),h2⟩
 | .d ks ds,o,⟨kvs,h1,h2,h3⟩,e=>Z8.mpr ⟨a,kvs,rfl,by rw[e,h1],h2,h3⟩
abbrev u5:=List (Option Cell)
abbrev EL:=u5->Option (List D)
abbrev ED:=u5->Option D
abbrev EB:=u5->Option Bool
abbrev LD:=List D->Option D
noncomputable abbrev sC(d:D):Option Cell:=some (.sh d)
noncomputable def y93:List Bb:=["ties_over","queue_pages","hardest_tie","as_laid_on"]
def z9R(vs:Array A8):Bool:=match (vs[1]?:Option A8) with|some (.str q _)=>y93.contains q|_=>false
def TB(K:A5)(H:Hp):Prop:=∀c o vs P,K.lookup c=some o->o.cls = .type "code"->o.data = .fields vs->vs[11]?=some (.ref P)->K.lookup P=none->z9R vs=true ->
 ∃q t,vs[1]?=some (.str q t)/\H P=some (.tbl #[.str q 0])
theorem TB.mono{K:A5}{H H':Hp}(h:TB K H)(e:j6 H H'):TB K H':=fun c o vs P h1 h2 h3 h4 h5 h6=>let ⟨q,t,e1,e2⟩:=h c o vs P h1 h2 h3 h4 h5 h6;⟨q,t,e1,e _ _ e2⟩
theorem TB.upd{K:A5}{H:Hp}{a:Ap}{o u:HO}(h:TB K H)(ha:H a=some u)(hu:∀ps,u≠.tbl ps):TB K (upd H a o):=fun c ob vs P h1 h2 h3 h4 h5 h6=>by
 obtain⟨q,t,e1,e2⟩:=h c ob vs P h1 h2 h3 h4 h5 h6;refine⟨q,t,e1,?_⟩;rw[u8]
 ·exact e2
 ·rintro rfl;rw[e2]at ha;exact hu _ (Bc ha).symm
theorem x20.notbl{K:A5}{H:Hp}:∀{c:OC} {o:HO},x20 K H c o->∀ps,o≠.tbl ps
 | .l ds,o,⟨xs,h1,_⟩,ps=>by rw[h1];intro z;cases z
 | .d ks ds,o,⟨kvs,h1,_⟩,ps=>by rw[h1];intro z;cases z
structure SR(K:A5)(B:List Ap)(H0 V0 H:Hp)(Z:List Ap)(σ:St)(ρ:u5):Prop where
 same:j6 H0 H
 tb:TB K H
 vis:j6 V0 (J3 Z H)
 sub:∀b∈B,b∈Z
 zs:∀z∈Z,∃o,H z=some o
 sh:∀(i:Nat) d,ρ[i]?=some (some (.sh d))->∃v,σ[i]?=some (some v)/\Rep K (J3 Z H) d v
 own:∀(i:Nat) (c:OC),ρ[i]?=some (some c.cell)->∃a o,σ[i]?=some (some (.ref a))/\a∈Z/\a∉B/\H0 a=none/\H a=some o/\x20 K (J3 Z H) c o
 inj:∀(i j:Nat) (c e:OC) a,ρ[i]?=some (some c.cell)->ρ[j]?=some (some e.cell)->σ[i]?=some (some (.ref a))->σ[j]?=some (some (.ref a))->i=j
 len:σ.length=ρ.length
section
variable{K:A5}{B Z:List Ap}{H0 V0 H H':Hp}{σ:St}{ρ:u5}
theorem SR.ow(r:SR K B H0 V0 H Z σ ρ)(i:Nat)(ds:List D)(h:ρ[i]?=some (some (.ow ds))):∃a xs,σ[i]?=some (some (.ref a))/\a∈Z/\a∉B/\H0 a=none/\H a=some (.lst xs)/\j7 K (J3 Z H) ds xs:=by obtain⟨a,o,h1,h2,h3,h4,h5,xs,rfl,h7⟩:=r.own i (.l ds) h;exact⟨a,xs,h1,h2,h3,h4,h5,h7⟩
theorem SR.od(r:SR K B H0 V0 H Z σ ρ)(i:Nat)(ks:List Key)(ds:List D)(h:ρ[i]?=some (some (.od ks ds))):∃a kvs,σ[i]?=some (some (.ref a))/\a∈Z/\a∉B/\H0 a=none/\H a=some (.dK kvs)/\kvs.map (·.1)=ks/\j7 K (J3 Z H) ds (kvs.map (·.2)):=by obtain⟨a,o,h1,h2,h3,h4,h5,kvs,rfl,h7,h8⟩:=r.own i (.d ks ds) h;exact⟨a,kvs,h1,h2,h3,h4,h5,h7,h8⟩
theorem SR.mono(r:SR K B H0 V0 H Z σ ρ)(e:j6 H H'):SR K B H0 V0 H' Z σ ρ:=
 ⟨r.same.trans e,r.tb.mono e,r.vis.trans (y8 e),r.sub,fun z hz=>let ⟨o,h⟩:=r.zs z hz;⟨o,e _ _ h⟩,
  fun i d h=>let ⟨v,h1,h2⟩:=r.sh i d h;⟨v,h1,h2.mono (y8 e)⟩,
  fun i c h=>let ⟨a,o,h1,h2,hb,h3,h4,h5⟩:=r.own i c h;⟨a,o,h1,h2,hb,h3,e _ _ h4,h5.mono (y8 e)⟩,r.inj,r.len⟩
theorem SR.vis'(r:SR K B H0 V0 H Z σ ρ){V1:Hp}(e:j6 V1 (J3 Z H)):SR K B H0 V1 H Z σ ρ:=
 ⟨r.same,r.tb,e,r.sub,r.zs,r.sh,r.own,r.inj,r.len⟩
theorem SR.newer(r:SR K B H0 V0 H Z σ ρ){a:Ap}(h:H a=none):a∉Z:=fun z=>by obtain⟨o,e⟩:=r.zs a z;rw[h]at e;cases e
theorem SR.more(r:SR K B H0 V0 H Z σ ρ){a:Ap}{o:HO}(hn:H a=none)(e:j6 H H')(ha:H' a=some o):SR K B H0 V0 H' (a::Z) σ ρ:=
 ⟨r.same.trans e,r.tb.mono e,r.vis.trans (z0O hn e),fun b hb=>A7 _ (r.sub b hb),fun z hz=>(Af.mp hz).elim (fun q=>⟨o,q▸ha⟩) fun q=>let ⟨u,h⟩:=r.zs z q;⟨u,e _ _ h⟩,
  fun i d h=>let ⟨v,h1,h2⟩:=r.sh i d h;⟨v,h1,h2.mono (z0O hn e)⟩,
  fun i c h=>let ⟨b,o,h1,h2,hb,h3,h4,h5⟩:=r.own i c h;⟨b,o,h1,A7 _ h2,hb,h3,e _ _ h4,h5.mono (z0O hn e)⟩,r.inj,r.len⟩
theorem Y6{α:Type}{ρ:List (Option α)}{i j:Nat}{x y:α}(q:(ρ.set i (some x))[j]?=some (some y)):(i=j/\x=y/\i<ρ.length)∨(i≠j/\ρ[j]?=some (some y)):=by
 by_cases hj:i=j
 ·subst hj
  have hl:i<ρ.length:=by
   have:=(An.mp q).1
   rw[Ci]at this;exact this
  rw[C7 hl]at q;cases q;exact .inl ⟨rfl,rfl,hl⟩
 ·rw[Bd hj]at q;exact .inr ⟨hj,q⟩
theorem z5F{d:D}{c:OC}:Cell.sh d=c.cell->False:=fun e=>by cases c<;>cases e
theorem y9O{c e:OC}(h:c.cell=e.cell):c=e:=by
 have:=congrArg Cell.oc h
 rw[c.cell_oc,e.cell_oc]at this;exact Bc this
theorem SR.set(r:SR K B H0 V0 H Z σ ρ){i:Nat}{d:D}{v:V}(h:Rep K (J3 Z H) d v):SR K B H0 V0 H Z (σ.set i (some v)) (ρ.set i (some (.sh d))):=by
 refine⟨r.same,r.tb,r.vis,r.sub,r.zs,fun j e q=>?_,fun j c q=>?_,fun j k c e a q1 q2 s1 s2=>?_,by rw[Ci,Ci];exact r.len⟩
 ·rcases Y6 q with⟨rfl,z,hl⟩|⟨hj,q⟩
  ·cases z;exact⟨v,C7 (by rw[r.len];exact hl),h⟩
  ·obtain⟨u,h1,h2⟩:=r.sh j e q;exact⟨u,by rw[Bd hj];exact h1,h2⟩
 ·rcases Y6 q with⟨_,z,_⟩|⟨hj,q⟩
  ·exact(z5F z).elim
  ·obtain⟨a,o,h1,h2⟩:=r.own j c q;exact⟨a,o,by rw[Bd hj];exact h1,h2⟩
 ·rcases Y6 q1 with⟨_,z,_⟩|⟨n1,q1⟩
  ·exact(z5F z).elim
  rcases Y6 q2 with⟨_,z,_⟩|⟨n2,q2⟩
  ·exact(z5F z).elim
  rw[Bd n1]at s1;rw[Bd n2]at s2;exact r.inj j k c e a q1 q2 s1 s2
theorem SR.setO(r:SR K B H0 V0 H Z σ ρ){i:Nat}{c:OC}{a:Ap}{o:HO}(hz:a∈Z)(hb:a∉B)(h0:H0 a=none)(hH:H a=some o)(h:x20 K (J3 Z H) c o)(hn:∀(j:Nat) (e:OC),ρ[j]?=some (some e.cell)->σ[j]?≠some (some (.ref a))):SR K B H0 V0 H Z (σ.set i (some (.ref a))) (ρ.set i (some c.cell)):=by
 refine⟨r.same,r.tb,r.vis,r.sub,r.zs,fun j e q=>?_,fun j e q=>?_,fun j k fs gs b q1 q2 s1 s2=>?_,by rw[Ci,Ci];exact r.len⟩
 ·rcases Y6 q with⟨_,z,_⟩|⟨hj,q⟩
  ·exact(z5F z.symm).elim
  ·obtain⟨u,h1,h2⟩:=r.sh j e q;exact⟨u,by rw[Bd hj];exact h1,h2⟩
 ·rcases Y6 q with⟨rfl,z,hl⟩|⟨hj,q⟩
  ·have:=y9O z
   subst this;exact⟨a,o,C7 (by rw[r.len];exact hl),hz,hb,h0,hH,h⟩
  ·obtain⟨a',o',h1,h2⟩:=r.own j e q;exact⟨a',o',by rw[Bd hj];exact h1,h2⟩
 ·rcases Y6 q1 with⟨e1,_,hl⟩|⟨n1,q1⟩
  ·rcases Y6 q2 with⟨e2,_,_⟩|⟨n2,q2⟩
   ·rw[←e1,←e2]
   ·subst e1;rw[C7 (by rw[r.len];exact hl)]at s1
    cases s1;rw[Bd n2]at s2;exact absurd s2 (hn k gs q2)
  ·rw[Bd n1]at s1;rcases Y6 q2 with⟨e2,_,hl⟩|⟨n2,q2⟩
   ·subst e2;rw[C7 (by rw[r.len];exact hl)]at s2
    cases s2;exact absurd s1 (hn j fs q1)
   ·rw[Bd n2]at s2;exact r.inj j k fs gs b q1 q2 s1 s2
theorem SR.updC(r:SR K B H0 V0 H Z σ ρ){i:Nat}{c e:OC}{a:Ap}{o:HO}(hi:ρ[i]?=some (some c.cell))(hs:σ[i]?=some (some (.ref a)))(h:x20 K (J3 Z H) e o):
  SR K B H0 V0 (upd H a o) Z σ (ρ.set i (some e.cell)):=by
 obtain⟨a',o',s1,hz,hb,h0,hH,hld⟩:=r.own i c hi;rw[hs]at s1;cases s1;have vs:j6 (J3 Z H) (J3 Z (upd H a o)):=z1H hz;refine⟨z1K h0 r.same,r.tb.upd hH hld.notbl,r.vis.trans vs,r.sub,fun z q=>?_,fun j d q=>?_,fun j f q=>?_,fun j k fs gs b q1 q2 s1 s2=>?_,by rw[Ci];exact r.len⟩
 ·by_cases e:z=a
  ·subst e;exact⟨_,x9⟩
  ·obtain⟨o,ho⟩:=r.zs z q;exact⟨o,by rw[u8 e];exact ho⟩
 ·rcases Y6 q with⟨_,z,_⟩|⟨n,q⟩
  ·exact(z5F z.symm).elim
  ·obtain⟨u,h1,h2⟩:=r.sh j d q;exact⟨u,h1,h2.mono vs⟩
 ·rcases Y6 q with⟨rfl,z,_⟩|⟨n,q⟩
  ·have:=y9O z
   subst this;exact⟨a,o,hs,hz,hb,h0,x9,h.mono vs⟩
  ·obtain⟨b,zs,t1,t2,tb,t3,t4,t5⟩:=r.own j f q
   have ne:b≠a:=fun z=>by subst z;exact n (r.inj i j _ _ b hi q hs t1)
   exact⟨b,zs,t1,t2,tb,t3,by rw[u8 ne];exact t4,t5.mono vs⟩
 ·have g:∀{m:Nat} {fs:OC},(ρ.set i (some e.cell))[m]?=some (some fs.cell)->∃fs':OC,ρ[m]?=some (some fs'.cell):=fun {m fs} q=>by
   rcases Y6 q with⟨rfl,_,_⟩|⟨_,q⟩
   ·exact⟨c,hi⟩
   ·exact⟨fs,q⟩
  obtain⟨f1,p1⟩:=g q1;obtain⟨f2,p2⟩:=g q2;exact r.inj j k f1 f2 b p1 p2 s1 s2
theorem SR.updO(r:SR K B H0 V0 H Z σ ρ){i:Nat}{ds es:List D}{a:Ap}{ys:List V}(hi:ρ[i]?=some (some (.ow ds)))(hs:σ[i]?=some (some (.ref a)))(h:j7 K (J3 Z H) es ys):
  SR K B H0 V0 (upd H a (.lst ys)) Z σ (ρ.set i (some (.ow es))):=r.updC (c:=.l ds) (e:=.l es) hi hs ⟨ys,rfl,h⟩
end
def tD(K:A5)(f:ED):TE:=fun σ H Q=>∃ρ d B H0 V0 Z,f ρ=some d/\SR K B H0 V0 H Z σ ρ/\∀v H',j6 H H'->Rep K (J3 Z H') d v->Q v H'
def tQ(K:A5)(f:EL):TE:=fun σ H Q=>∃ρ ds B H0 V0 Z,f ρ=some ds/\SR K B H0 V0 H Z σ ρ/\∀a xs H',j6 H H'->(SqL K H' a xs∨SqT K (J3 Z H') a xs)->j7 K (J3 Z H') ds xs->Q (.ref a) H'
def tF(K:A5)(f:EL):TE:=fun σ H Q=>∃ρ ds B H0 V0 Z,f ρ=some ds/\SR K B H0 V0 H Z σ ρ/\∀a xs H',j6 H H'->H a=none->H' a=some (.lst xs)->j7 K (J3 (a::Z) H') ds xs->Q (.ref a) H'
noncomputable def tT(K:A5)(f:EB):TT:=fun σ H Q=>∃ρ b B H0 V0 Z,f ρ=some b/\SR K B H0 V0 H Z σ ρ/\∀H',j6 H H'->Q b H'
def tL(K:A5)(f:EL):TA:=fun σ H Q=>∃ρ ds B H0 V0 Z,f ρ=some ds/\SR K B H0 V0 H Z σ ρ/\∀xs H',j6 H H'->j7 K (J3 Z H') ds xs->Q xs H'
structure Walk(K:A5)(V:Hp)(J:It)(ds:List D):Prop where
 go:∀H',j6 V H'->∀i,i<ds.length->J.go i H'
 yld:∀H',j6 V H'->∀(i:Nat) x H3,J.yld i H' x H3->j6 H' H3/\∀d,ds[i]?=some d->∀Z:List Ap,(∀z∈Z,∃o,H' z=some o)->j6 V (J3 Z H')->Rep K (J3 Z H3) d x
 stop:∀H',j6 V H'->J.stop ds.length H'
def tI(K:A5)(f:EL):TI:=fun σ H R=>∃ρ ds B H0 V0 Z,f ρ=some ds/\SR K B H0 V0 H Z σ ρ/\∀J H',j6 H H'->Walk K (J3 Z H') J ds->R J H'
inductive Out where
 |nx (ρ:u5)
 |bk (ρ:u5)
 |ct (ρ:u5)
 |rt (d:D)
abbrev EO:=u5->Option Out
def w67(K:A5)(B:List Ap)(H0 V0:Hp)(E:Ends):Out->Prop
 | .nx ρ=>∀σ H Z,SR K B H0 V0 H Z σ ρ->E.nx σ H
 | .bk ρ=>∀σ H Z,SR K B H0 V0 H Z σ ρ->E.bk σ H
 | .ct ρ=>∀σ H Z,SR K B H0 V0 H Z σ ρ->E.ct σ H
 | .rt d=>∀v H,j6 H0 H->Rep K (J3 B H) d v->E.rt v H
def tS(K:A5)(g:EO):TS:=fun E σ H=>∃ρ o B H0 V0 Z,g ρ=some o/\SR K B H0 V0 H Z σ ρ/\w67 K B H0 V0 E o
def tG(K:A5)(h:D->u5->Option u5):TG:=fun v σ H Q=>∃ρ d ρ' B H0 V0 Z,h d ρ=some ρ'/\SR K B H0 V0 H Z σ ρ/\Rep K (J3 Z H) d v/\∀σ',SR K B H0 V0 H Z σ' ρ'->Q σ' H
def tGs(K:A5)(h:List D->u5->Option u5):TGs:=fun vs σ H Q=>∃ρ ds ρ' B H0 V0 Z,h ds ρ=some ρ'/\SR K B H0 V0 H Z σ ρ/\j7 K (J3 Z H) ds vs/\∀σ',SR K B H0 V0 H Z σ' ρ'->Q σ' H
abbrev SE(X:Cx)(e:Expr)(f:ED):Prop:=PE X e (tD X.K f)
structure ZE(X:Cx)(e:Expr)(f:ED):Prop where
 h:SE X e f
abbrev SQ(X:Cx)(e:Expr)(f:EL):Prop:=PE X e (tQ X.K f)
structure ZQ(X:Cx)(e:Expr)(f:EL):Prop where
 h:SQ X e f
abbrev SF(X:Cx)(e:Expr)(f:EL):Prop:=PE X e (tF X.K f)
structure ZF(X:Cx)(e:Expr)(f:EL):Prop where
 h:SF X e f
abbrev STt(X:Cx)(e:Expr)(f:EB):Prop:=PT X e (tT X.K f)
structure ZT(X:Cx)(e:Expr)(f:EB):Prop where
 h:STt X e f
abbrev STw(X:Cx)(e:Expr)(f:EB):Prop:=PW X e (tT X.K f)
structure ZW(X:Cx)(e:Expr)(f:EB):Prop where
 h:STw X e f
abbrev SA(X:Cx)(es:List Expr)(f:EL):Prop:=PA X es (tL X.K f)
structure ZA(X:Cx)(e:List Expr)(f:EL):Prop where
 h:SA X e f
abbrev SI(X:Cx)(tg e:Expr)(f:EL):Prop:=PI X tg e (tI X.K f)
structure ZI(X:Cx)(tg e:Expr)(f:EL):Prop where
 h:SI X tg e f
abbrev SS(X:Cx)(st:Db)(g:EO):Prop:=PS X st (tS X.K g)
structure ZS(X:Cx)(e:Db)(f:EO):Prop where
 h:SS X e f
abbrev SSs(X:Cx)(st:List Db)(g:EO):Prop:=PSs X st (tS X.K g)
structure ZB(X:Cx)(e:List Db)(f:EO):Prop where
 h:SSs X e f
abbrev SG(X:Cx)(e:Expr)(h:D->u5->Option u5):Prop:=PG X e (tG X.K h)
structure ZG(X:Cx)(e:Expr)(f:D->u5->Option u5):Prop where
 h:SG X e f
abbrev SGs(X:Cx)(es:List Expr)(h:List D->u5->Option u5):Prop:=PGs X es (tGs X.K h)
structure ZGs(X:Cx)(e:List Expr)(f:List D->u5->Option u5):Prop where
 h:SGs X e f
structure ZP(X:Cx)(aS:List Expr)(f:EB):Prop where
 h:w0O X aS (tT X.K f)
section
variable{X:Cx}{e:Expr}
theorem u7{t t':TE}(h:PE X e t)(w:∀σ H Q,t' σ H Q->t σ H Q):PE X e t':=fun aa s σ H Q I q=>h aa s σ H Q I (w σ H Q q)
theorem z1P{t t':TT}(h:PT X e t)(w:∀σ H Q,t' σ H Q->t σ H Q):PT X e t':=fun aa s σ H Q I q=>h aa s σ H Q I (w σ H Q q)
theorem x3I{t t':TT}(h:PW X e t)(w:∀σ H Q,t' σ H Q->t σ H Q):PW X e t':=fun wh aa s σ H Q I q=>h wh aa s σ H Q I (w σ H Q q)
theorem x3X{es:List Expr}{t t':TA}(h:PA X es t)(w:∀σ H Q,t' σ H Q->t σ H Q):PA X es t':=fun pos aa s σ H Q I q=>h pos aa s σ H Q I (w σ H Q q)
theorem z4M{tg:Expr}{t t':TI}(h:PI X tg e t)(w:∀σ H Q,t' σ H Q->t σ H Q):PI X tg e t':=fun aa s σ H Q I q=>h aa s σ H Q I (w σ H Q q)
theorem z0F{st:Db}{t t':TS}(h:PS X st t)(w:∀E σ H,t' E σ H->t E σ H):PS X st t':=fun aa s σ H E I q=>h aa s σ H E I (w E σ H q)
theorem y2C{st:List Db}{t t':TS}(h:PSs X st t)(w:∀E σ H,t' E σ H->t E σ H):PSs X st t':=fun aa s σ H E I q=>h aa s σ H E I (w E σ H q)
theorem x3T{t t':TG}(h:PG X e t)(w:∀v σ H Q,t' v σ H Q->t v σ H Q):PG X e t':=fun aa s σ H v u Q I r q=>h aa s σ H v u Q I r (w v σ H Q q)
theorem y8L{es:List Expr}{t t':TGs}(h:PGs X es t)(w:∀v σ H Q,t' v σ H Q->t v σ H Q):PGs X es t':=fun aa s σ H v u Q I r q=>h aa s σ H v u Q I r (w v σ H Q q)
end
noncomputable def LIM:Nat:=100000
theorem z9N{n:Nat}(h:n≤LIM):n≤sizeLine:=by rw[C3];unfold LIM at h;omega
theorem y4I{n:Nat}(h:n≤LIM):n<sizeLine:=by rw[C3];unfold LIM at h;omega
noncomputable def z8(i:Nat):ED:=fun ρ=>match ρ[i]? with|some (some (.sh d))=>some d|_=>none
noncomputable def z4Z(i:Nat):EL:=fun ρ=>match ρ[i]? with|some (some (.ow ds))=>some ds|_=>none
noncomputable def dC(d:D):ED:=fun _=>some d
theorem y4X{i:Nat}{ρ:u5}{d:D}(e:z8 i ρ=some d):ρ[i]?=some (some (.sh d)):=by
 unfold z8 at e;split at e
 ·rename_i h;cases e;exact h
 ·cases e
theorem z1N{i:Nat}{ρ:u5}{d:List D}(e:z4Z i ρ=some d):ρ[i]?=some (some (.ow d)):=by
 unfold z4Z at e;split at e
 ·rename_i h;cases e;exact h
 ·cases e
section
variable{X:Cx}
theorem zsv(i:Nat){x:Bb}{pos:F2}(hN:X.N[i]?=some x:=by rfl)(hv:Vis X.env.scope x:=by first|exact Dw rfl|exact D2 (Dw rfl)|exact D2 (D2 rfl))(hd:(x==("__debug__":Bb))=false:=by decide)(aV:(x==("__classdict__":Bb))=false:=by decide):ZE X (.Name x pos) (z8 i):=
 ⟨u7 (z2K hN hv hd aV) fun σ H Q h_=>by
  refine ex6 h_ fun ρ d B H0 V0 Z e r q=>?_;obtain⟨v,h1,h2⟩:=r.sh i d (y4X e)
  exact⟨v,h1,q v H (j6.refl H) h2⟩⟩
theorem zqv(i:Nat){x:Bb}{pos:F2}(hN:X.N[i]?=some x:=by rfl)(hv:Vis X.env.scope x:=by first|exact Dw rfl|exact D2 (Dw rfl)|exact D2 (D2 rfl))(hd:(x==("__debug__":Bb))=false:=by decide)(aV:(x==("__classdict__":Bb))=false:=by decide):ZQ X (.Name x pos) (z4Z i):=
 ⟨u7 (z2K hN hv hd aV) fun σ H Q h_=>by
  refine ex6 h_ fun ρ ds B H0 V0 Z e r q=>?_;obtain⟨a,xs,h1,h2,hb,h3,h4,h5⟩:=r.ow i ds (z1N e)
  exact⟨.ref a,h1,q a xs H (j6.refl H) (.inl (SqL.of h4)) h5⟩⟩
theorem w6D{e:Expr}{d:D}{v:V}(h:PE X e (tC v))(hr:∀H,Rep X.K H d v):SE X e (dC d):=u7 h fun σ H Q h_=>by refine ex6 h_ fun ρ d' B H0 V0 Z e r q=>?_;cases e;exact q v H (j6.refl H) (hr _)
theorem x8{i j pos}:ZE X (.Constant (.int i) j pos) (dC (.int i)):=
 ⟨w6D w56 fun _=>w6.mpr rfl⟩
theorem z1T{b j pos}:ZE X (.Constant (.bool b) j pos) (dC (.bl b)):=
 ⟨w6D w77 fun _=>J8.mpr rfl⟩
theorem y1Y{j pos}:ZE X (.Constant .none j pos) (dC .non):=
 ⟨w6D w54 fun _=>Z0.mpr rfl⟩
theorem z0L{x j pos}:ZE X (.Constant (.str x) j pos) (dC (.str x)):=
 ⟨w6D w50 fun _=>W9.mpr rfl⟩
end
noncomputable def dSq(f:ED):EL:=fun ρ=>match f ρ with|some (.lst ds)=>some ds|some (.tup ds)=>some ds|_=>none
noncomputable def dLs(f:EL):ED:=fun ρ=>(f ρ).map D.lst
section
variable{X:Cx}{e:Expr}
theorem w72{f:ED}(h:SE X e f):SQ X e (dSq f):=
 u7 h fun σ H Q h_=>by
  refine ex6 h_ fun ρ ds B H0 V0 Z e r q=>?_;unfold dSq at e;split at e
  ·rename_i es he;cases e
   exact⟨ρ,_,B,H0,V0,Z,he,r,fun v H' s hr=>by
    obtain⟨a,xs,rfl,h2,h3⟩:=J5.mp hr
    exact q a xs H' s (.inl (x4.seq h2)) h3⟩
  ·rename_i es he;cases e
   exact⟨ρ,_,B,H0,V0,Z,he,r,fun v H' s hr=>by
    obtain⟨a,xs,rfl,h2,h3⟩:=j3.mp hr
    exact q a xs H' s (.inr h2) h3⟩
  ·cases e
theorem z4K{f:EL}(h:ZF X e f):ZE X e (dLs f):=
 ⟨have h:=h.h;
 u7 h fun σ H Q h_=>by
  refine ex6 h_ fun ρ d B H0 V0 Z e r q=>?_;unfold dLs at e;obtain⟨ds,he,rfl⟩:=Bl.mp e;refine⟨ρ,ds,B,H0,V0,Z,he,r,fun a xs H' s hn ha hr=>q _ H' s (J5.mpr ⟨a,xs,rfl,SqL.of ?_,hr.mono (z0G fun b hb=>A7 _ hb)⟩)⟩;rw[K7 (r.newer hn)]
  exact ha⟩
theorem w3T{f:EL}(h:ZF X e f):ZQ X e f:=
 ⟨have h:=h.h;
 u7 h fun σ H Q ⟨ρ,ds,B,H0,V0,Z,e,r,q⟩=>
  ⟨ρ,ds,B,H0,V0,Z,e,r,fun a xs H' s hn ha hr=>q a xs H' s (.inl (SqL.of ha)) (hr.mono (z0G fun b hb=>A7 _ hb))⟩⟩
end
def z87(K:A5)(r:R2)(g:D->D->Option D):Prop:=∀x y d,g x y=some d->∀(Z:List Ap) (H:Hp) (u v:V) (Q:VK),(∀z∈Z,∃o,H z=some o)->Rep K (J3 Z H) x u->Rep K (J3 Z H) y v->(∀w' H',j6 H H'->Rep K (J3 Z H') d w'->Q w' H')->r u v H Q
noncomputable def d2(g:D->D->Option D)(fa fb:ED):ED:=fun ρ=>match fa ρ with|some x=>(match fb ρ with|some y=>g x y|none=>none)|none=>none
noncomputable def y9(f:ED):EB:=fun ρ=>match f ρ with|some (.bl b)=>some b|_=>none
theorem x5V{g:D->D->Option D}{fa fb:ED}{ρ:u5}{d:D}(e:d2 g fa fb ρ=some d):∃x y,fa ρ=some x/\fb ρ=some y/\g x y=some d:=by
 unfold d2 at e;split at e
 ·rename_i x hx;split at e
  ·rename_i y hy;exact⟨x,y,hx,hy,e⟩
  ·cases e
 ·cases e
section
variable{X:Cx}{a b c:Expr}{fa fb fc:ED}{pos:F2}
theorem y7C{K:A5}{r:R2}{g:D->D->Option D}(hr:z87 K r g):∀σ H Q,tD K (d2 g fa fb) σ H Q->tOp r (tD K fa) (tD K fb) σ H Q:=
 fun σ H Q h_=>by
  refine ex6 h_ fun ρ d B H0 V0 Z e r q=>?_;obtain⟨x,y,ex,ey,e⟩:=x5V e
  exact⟨ρ,x,B,H0,V0,Z,ex,r,fun u H1 s1 r1=>⟨ρ,y,B,H0,V0,Z,ey,r.mono s1,fun v H2 s2 r2=>
   hr x y d e Z H2 u v Q ((r.mono s1).mono s2).zs (r1.mono (y8 s2)) r2 fun w' H' s rr=>q w' H' (s1.trans (s2.trans s)) rr⟩⟩
theorem z2J{K:A5}{f:ED}:∀σ H Q,tT K (y9 f) σ H Q->tD K f σ H (fun x H'=>∃k,x = .bl k/\Q k H'):=
 fun σ H Q h_=>by
  refine ex6 h_ fun ρ b B H0 V0 Z e r q=>?_;unfold y9 at e;split at e
  ·rename_i b' hb;cases e;exact⟨ρ,_,B,H0,V0,Z,hb,r,fun v H' s rr=>⟨b,J8.mp rr,q H' s⟩⟩
  ·cases e
theorem y3W{op:M9}{r:R2}{g:D->D->Option D}(ho:OpR X (Gd op) r)(hr:z87 X.K r g)(ha:SE X a fa)(hb:SE X b fb):SE X (.BinOp a op b pos) (d2 g fa fb):=u7 (w51 ho ha hb) (y7C hr)
theorem x33{op:Lf}{r:R2}{g:D->D->Option D}(ho:OpR X (Cs op) r)(hr:z87 X.K r g)(ha:SE X a fa)(hb:SE X b fb)(hm:Dd op b=false):SE X (.Compare a [op] [b] pos) (d2 g fa fb):=u7 (w1U ho ha hb hm) (y7C hr)
theorem y14{op:Lf}{r:R2}{g:D->D->Option D}(ho:OpR X (Cs op) r)(hr:z87 X.K r g)(ha:SE X a fa)(hb:SE X b fb)(hm:Dd op b=false):STt X (.Compare a [op] [b] pos) (y9 (d2 g fa fb)):=z1P (y6G ho ha hb hm) fun σ H Q h=>y7C hr _ _ _ (z2J σ H Q h)
theorem z3I{f:ED}(h:ZE X a f)(he:∀aL,isTrue a X.env aL=(do let v ←aL;Jk a.pos;Gb [v] (M8 v)):=by intro _;rfl):ZT X a (y9 f):=
 ⟨have h:=h.h;
 z1P (w4R h he) fun σ H Q h=>z2J σ H Q h⟩
noncomputable def z4E(g g':D->D->Option D)(fa fb fc:ED):ED:=fun ρ=>match fa ρ with
 |some x=>(match fb ρ with
  |some y=>(match g x y with
   |some (.bl true)=>(match fc ρ with|some z=>g' y z|none=>none)
   |some (.bl false)=>some (.bl false)
   |_=>none)
  |none=>none)
 |none=>none
theorem x60{K:A5}{r r':R2}{g g':D->D->Option D}(hr:z87 K r g)(hr':z87 K r' g'):∀σ H Q,tD K (z4E g g' fa fb fc) σ H Q->x98 r r' (tD K fa) (tD K fb) (tD K fc) σ H Q:=
 fun σ H Q h_=>by
  refine ex6 h_ fun ρ d B H0 V0 Z e r q=>?_;unfold z4E at e;split at e
  ·rename_i x ex;split at e
   ·rename_i y ey;refine⟨ρ,x,B,H0,V0,Z,ex,r,fun u H1 s1 r1=>⟨ρ,y,B,H0,V0,Z,ey,r.mono s1,fun v H2 s2 r2=>?_⟩⟩;have R2:=(r.mono s1).mono s2;split at e
    ·rename_i eg;split at e
     ·rename_i z ez;refine hr x y _ eg Z H2 u v _ R2.zs (r1.mono (y8 s2)) r2 fun k H3 s3 r3=>⟨true,J8.mp r3,x8A ?_⟩
      exact⟨ρ,z,B,H0,V0,Z,ez,R2.mono s3,fun w' H4 s4 r4=>hr' y z d e Z H4 v w' Q ((R2.mono s3).mono s4).zs (r2.mono (y8 (s3.trans s4))) r4 fun k' H5 s5 r5=>
       q k' H5 (s1.trans (s2.trans (s3.trans (s4.trans s5)))) r5⟩
     ·cases e
    ·rename_i eg;cases e;exact hr x y _ eg Z H2 u v _ R2.zs (r1.mono (y8 s2)) r2 fun k H3 s3 r3=>⟨false,J8.mp r3,w04 (q _ H3 (s1.trans (s2.trans s3)) (J8.mpr rfl))⟩
    ·cases e
   ·cases e
  ·cases e
theorem z92{op gf:Lf}{r r':R2}{g g':D->D->Option D}(ho:OpR X (Cs op) r)(hr:z87 X.K r g)(bU:OpR X (Cs gf) r')(hr':z87 X.K r' g')(ha:ZE X a fa)(hb:ZE X b fb)(hc:ZE X c fc)(hm:lastMarks [op,gf] [b,c]=false:=by with_unfolding_all rfl):ZT X (.Compare a [op,gf] [b,c] pos) (y9 (z4E g g' fa fb fc)):=
 ⟨have ha:=ha.h;
 have hb:=hb.h;
 have hc:=hc.h;
 z1P (x7M ho bU ha hb hc hm) fun σ H Q h=>x60 hr hr' _ _ _ (z2J σ H Q h)⟩
noncomputable def x8Q(fa fb:ED):ED:=fun ρ=>match fa ρ with|some (.bl true)=>fb ρ|some (.bl false)=>some (.bl false)|_=>none
noncomputable def w3L(fa:ED):ED:=fun ρ=>match fa ρ with|some (.bl b)=>some (.bl (!b))|_=>none
noncomputable def z3Y(fa fb:EB):EB:=fun ρ=>match fa ρ with|some true=>fb ρ|some false=>some false|none=>none
noncomputable def y3D(fa fb:EB):EB:=fun ρ=>match fa ρ with|some true=>some true|some false=>fb ρ|none=>none
noncomputable def z64(fa:EB):EB:=fun ρ=>(fa ρ).map (!·)
variable{rest:List Expr}
theorem y5U{op}{f:ED}(h:ZE X a f):ZE X (.BoolOp op [a] pos) f:=
 ⟨have h:=h.h;
 w52 h⟩
theorem y5Y(ha:ZE X a fa)(hb:ZE X (.BoolOp .And (b::rest) pos) fb):ZE X (.BoolOp .And (a::b::rest) pos) (x8Q fa fb):=
 ⟨have ha:=ha.h;
 have hb:=hb.h;
 u7 (w58 ha hb) fun σ H Q h_=>by
  refine ex6 h_ fun ρ d B H0 V0 Z e r q=>?_;unfold x8Q at e;split at e
  ·rename_i ea;exact⟨ρ,_,B,H0,V0,Z,ea,r,fun u H1 s1 r1=>⟨true,J8.mp r1,x8A ⟨ρ,d,B,H0,V0,Z,e,r.mono s1,fun v H' s rr=>q v H' (s1.trans s) rr⟩⟩⟩
  ·rename_i ea;cases e;exact⟨ρ,_,B,H0,V0,Z,ea,r,fun u H1 s1 r1=>⟨false,J8.mp r1,w04 (q _ H1 s1 (J8.mpr rfl))⟩⟩
  ·cases e⟩
theorem x2J(ha:ZE X a fa):ZE X (.UnaryOp .Not a pos) (w3L fa):=
 ⟨have ha:=ha.h;
 u7 (w53 ha) fun σ H Q h_=>by
  refine ex6 h_ fun ρ d B H0 V0 Z e r q=>?_;unfold w3L at e;split at e
  ·rename_i b' ea;cases e;exact⟨ρ,_,B,H0,V0,Z,ea,r,fun u H1 s1 r1=>⟨b',J8.mp r1,q _ H1 s1 (J8.mpr rfl)⟩⟩
  ·cases e⟩
variable{ga gb:EB}
theorem z68(ha:ZT X a ga):ZW X (.BoolOp .And [a] pos) ga:=
 ⟨have ha:=ha.h;
 w1K ha⟩
theorem z5Q(ha:ZT X a ga):ZW X (.BoolOp .Or [a] pos) ga:=
 ⟨have ha:=ha.h;
 w4M ha⟩
theorem z90(ha:ZT X a ga)(hb:ZW X (.BoolOp .And (b::rest) pos) gb):ZW X (.BoolOp .And (a::b::rest) pos) (z3Y ga gb):=
 ⟨have ha:=ha.h;
 have hb:=hb.h;
 x3I (w4O ha hb) fun σ H Q h_=>by
  refine ex6 h_ fun ρ d B H0 V0 Z e r q=>?_;unfold z3Y at e;split at e
  ·rename_i ea;exact⟨ρ,_,B,H0,V0,Z,ea,r,fun H1 s1=>x8A ⟨ρ,d,B,H0,V0,Z,e,r.mono s1,fun H' s=>q H' (s1.trans s)⟩⟩
  ·rename_i ea;cases e;exact⟨ρ,_,B,H0,V0,Z,ea,r,fun H1 s1=>w04 (q H1 s1)⟩
  ·cases e⟩
theorem z8Z(ha:ZT X a ga)(hb:ZW X (.BoolOp .Or (b::rest) pos) gb):ZW X (.BoolOp .Or (a::b::rest) pos) (y3D ga gb):=
 ⟨have ha:=ha.h;
 have hb:=hb.h;
 x3I (w73 ha hb) fun σ H Q h_=>by
  refine ex6 h_ fun ρ d B H0 V0 Z e r q=>?_;unfold y3D at e;split at e
  ·rename_i ea;cases e;exact⟨ρ,_,B,H0,V0,Z,ea,r,fun H1 s1=>x8A (q H1 s1)⟩
  ·rename_i ea;exact⟨ρ,_,B,H0,V0,Z,ea,r,fun H1 s1=>w04 ⟨ρ,d,B,H0,V0,Z,e,r.mono s1,fun H' s=>q H' (s1.trans s)⟩⟩
  ·cases e⟩
theorem z8A(h:ZW X a ga):ZT X a ga:=
 ⟨have h:=h.h;
 PW.pt h⟩
theorem z72(ha:ZT X a ga):ZT X (.UnaryOp .Not a pos) (z64 ga):=
 ⟨have ha:=ha.h;
 z1P (w4S ha) fun σ H Q h_=>by
  refine ex6 h_ fun ρ d B H0 V0 Z e r q=>?_;unfold z64 at e;obtain⟨b',eb,rfl⟩:=Bl.mp e
  exact⟨ρ,b',B,H0,V0,Z,eb,r,fun H1 s1=>q H1 s1⟩⟩
noncomputable def dIf(fc:EB)(fa fb:ED):ED:=fun ρ=>match fc ρ with|some true=>fa ρ|some false=>fb ρ|none=>none
theorem w3R(hc:ZT X c ga)(ha:ZE X a fa)(hb:ZE X b fb):ZE X (.IfExp c a b pos) (dIf ga fa fb):=
 ⟨have hc:=hc.h;
 have ha:=ha.h;
 have hb:=hb.h;
 u7 (x7S hc ha hb) fun σ H Q h_=>by
  refine ex6 h_ fun ρ d B H0 V0 Z e r q=>?_;unfold dIf at e;split at e
  ·rename_i ea;exact⟨ρ,_,B,H0,V0,Z,ea,r,fun H1 s1=>x8A ⟨ρ,d,B,H0,V0,Z,e,r.mono s1,fun v H' s rr=>q v H' (s1.trans s) rr⟩⟩
  ·rename_i ea;exact⟨ρ,_,B,H0,V0,Z,ea,r,fun H1 s1=>w04 ⟨ρ,d,B,H0,V0,Z,e,r.mono s1,fun v H' s rr=>q v H' (s1.trans s) rr⟩⟩
  ·cases e⟩
end
noncomputable def x9M:Expr->Bool
 | .Starred _ _=>false
 |_=>true
theorem v5{e:Expr}{es:List Expr}{env:Ls}(h:x9M e=true):Ac (e::es) env=(false,C0 e env)::Ac es env:=by cases e<;>first|(cases h;done)|(rw[Ac];intro _ _ z;cases z)|rw[Ac]
theorem j8{pos:F2}{env:Ls}:∀{es:List Expr},es.all x9M=true->(Bs pos (Ac es env)).any (·.1)=false
 | [],_=>rfl
 |e::es,h=>by rw[List.all_cons,Ax]at h;rw[v5 h.1];have ih:=@j8 pos env es h.2;unfold Bs at ih ⊢;rw[Ai,Eo,ih];rfl
noncomputable def u3:EL:=fun _=>some []
noncomputable def z7(f:ED)(g:EL):EL:=fun ρ=>match f ρ with|some d=>(match g ρ with|some ds=>some (d::ds)|none=>none)|none=>none
section
variable{X:Cx}{e:Expr}{es:List Expr}{f:ED}{g:EL}{pos:F2}
theorem y19:SA X [] u3:=x3X Y0 fun σ H Q h_=>by refine ex6 h_ fun ρ ds B H0 V0 Z e r q=>?_;cases e;exact q [] H (j6.refl H) j7.nil
theorem z2T(ha:SE X e f)(hr:SA X es g)(hs:Ac (e::es) X.env=(false,C0 e X.env)::Ac es X.env:=by exact v5 rfl):SA X (e::es) (z7 f g):=
 x3X (g9 ha hr hs) fun σ H Q h_=>by
  refine ex6 h_ fun ρ ds B H0 V0 Z e r q=>?_;unfold z7 at e;split at e
  ·rename_i d ed;split at e
   ·rename_i ds' aD;cases e;exact⟨ρ,d,B,H0,V0,Z,ed,r,fun v H1 s1 r1=>⟨ρ,ds',B,H0,V0,Z,aD,r.mono s1,fun vs H2 s2 r2=>q (v::vs) H2 (s1.trans s2) (j7.cons (r1.mono (y8 s2)) r2)⟩⟩
   ·cases e
  ·cases e
def z2O(g:EL):ED:=fun ρ=>match g ρ with|some ds=>if ds.length≤LIM then some (.tup ds) else none|none=>none
def y09(g:EL):EL:=fun ρ=>match g ρ with|some ds=>if ds.length≤LIM then some ds else none|none=>none
theorem z0K{x1}(h:ZA X es g):ZE X (.Tuple es x1 pos) (z2O g):=
 ⟨have h:=h.h;
 u7 (w4Z h) fun σ H Q h_=>by
  refine ex6 h_ fun ρ d B H0 V0 Z e r q=>?_;unfold z2O at e;split at e
  ·rename_i ds aD;split at e
   ·rename_i hl;cases e;refine⟨ρ,ds,B,H0,V0,Z,aD,r,fun xs H1 s1 r1=>⟨z9N (by rw[←r1.length];exact hl),fun p hp=>?_⟩⟩
    have sn:=j4 (o:=HO.tup xs) hp;refine q _ _ (s1.trans sn) (j3.mpr ⟨p,xs,rfl,SqT.of ?_,r1.mono (y8 sn)⟩);rw[K7 ((r.mono s1).newer hp)];exact x9
   ·cases e
  ·cases e⟩
theorem z1O(h:ZA X es g):ZF X (.List es pos) (y09 g):=
 ⟨have h:=h.h;
 u7 (x9O h) fun σ H Q h_=>by
  refine ex6 h_ fun ρ d B H0 V0 Z e r q=>?_;unfold y09 at e;split at e
  ·rename_i ds aD;split at e
   ·rename_i hl;cases e;refine⟨ρ,_,B,H0,V0,Z,aD,r,fun xs H1 s1 r1=>⟨z9N (by rw[←r1.length];exact hl),fun p hp=>?_⟩⟩
    exact q p xs _ (s1.trans (j4 hp)) (s1.free hp) x9 (r1.mono (z0O hp (j4 hp)))
   ·cases e
  ·cases e⟩
def spD(K:A5)(F:LD):Sp:=fun vs H Q _=>∃Z ds d,(TB K H/\∀z∈Z,∃o,H z=some o)/\j7 K (J3 Z H) ds vs/\F ds=some d/\∀v H',j6 H H'->Rep K (J3 Z H') d v->Q v H'
noncomputable def x5(F:LD)(g:EL):ED:=fun ρ=>match g ρ with|some ds=>F ds|none=>none
theorem w18{k:Nat}{f':Ap}{fd:Ep}{ps:List Bb}{F:LD}{x:Bb}{p:F2}(G:FnOk X.prog X.w X.K X.mg X.base CX0 k f' fd ps (spD X.K F))(hr:Room k X.A)(hm:X.mg x=some (.ref f'))(hk:Fh X.K (.ref f')=true)(hb:y7V X.K fd ps [])(ha:SA X (e::es) g)(hg:Gl X x:=by rfl)(bC:(x==("__debug__":Bb))=false:=by decide)(he:Ac (e::es) X.env=(false,C0 e X.env)::Ac es X.env:=by exact v5 rfl)(ah:(Bs pos (Ac es X.env)).any (·.1)=false:=by exact j8 rfl):
  SE X (.Call (.Name x p) (e::es) [] pos) (x5 F g):=
 u7 (w1V G hr hg hm hk hb .nil w78 ha bC he ah) fun σ H Q h_=>by
  refine ex6 h_ fun ρ d B H0 V0 Z e r q=>?_;unfold x5 at e;split at e
  ·rename_i ds aD;refine⟨ρ,ds,B,H0,V0,Z,aD,r,fun vs H1 s1 r1=>?_⟩;show spD X.K F (vs++[]) H1 Q E0;rw[Ch];exact⟨Z,ds,d,⟨(r.mono s1).tb,(r.mono s1).zs⟩,r1,e,fun v H' s rr=>q v H' (s1.trans s) rr⟩
  ·cases e
end
noncomputable def K6(g k:EO):EO:=fun ρ=>match g ρ with|some (.nx ρ')=>k ρ'|o=>o
noncomputable def Z3:EO:=fun ρ=>some (.nx ρ)
noncomputable def z0E(f:ED):EO:=fun ρ=>match f ρ with|some d=>some (.rt d)|none=>none
noncomputable def z2E(c:EB)(g k:EO):EO:=fun ρ=>match c ρ with|some true=>g ρ|some false=>k ρ|none=>none
noncomputable def z0H(i:Nat)(f:ED):EO:=fun ρ=>match f ρ with|some d=>some (.nx (ρ.set i (some (.sh d))))|none=>none
noncomputable def z7Q(i:Nat)(f:EL):EO:=fun ρ=>match f ρ with|some d=>some (.nx (ρ.set i (some (.ow d))))|none=>none
noncomputable def dAsg(f:ED)(h:D->u5->Option u5):EO:=fun ρ=>match f ρ with|some d=>(match h d ρ with|some ρ'=>some (.nx ρ')|none=>none)|none=>none
noncomputable def w9(i:Nat):D->u5->Option u5:=fun d ρ=>some (ρ.set i (some (.sh d)))
noncomputable def y53:List D->u5->Option u5:=fun ds ρ=>match ds with|[]=>some ρ|_=>none
noncomputable def z2P(h:D->u5->Option u5)(k:List D->u5->Option u5):List D->u5->Option u5:=fun ds ρ=>match ds with|d::r=>(match h d ρ with|some ρ'=>k r ρ'|none=>none)|[]=>none
noncomputable def y52(n:Nat)(k:List D->u5->Option u5):D->u5->Option u5:=fun d ρ=>match d with|.tup ds=>if ds.length=n then k ds ρ else none|_=>none
noncomputable def y4Y(i:Nat)(f:u5->Option (List Key×List D)):EO:=fun ρ=>match f ρ with|some d=>some (.nx (ρ.set i (some (.od d.1 d.2))))|none=>none
def frz(i:Nat)(ρ:u5):u5:=match ρ[i]? with|some (some c)=>(match c.oc with|some o=>ρ.set i (some (.sh o.dat))|none=>ρ)|_=>ρ
theorem w23{c:Cell}{o:OC}(h:c.oc=some o):c=o.cell:=by cases c<;>cases h<;>rfl
def tFD(K:A5)(f:u5->Option (List Key×List D)):TE:=fun σ H Q=>∃ρ ds B H0 V0 Z,f ρ=some ds/\SR K B H0 V0 H Z σ ρ/\∀a kvs H',j6 H H'->H a=none->H' a=some (.dK kvs)->kvs.map (·.1)=ds.1->j7 K (J3 (a::Z) H') ds.2 (kvs.map (·.2))->Q (.ref a) H'
abbrev SFD(X:Cx)(e:Expr)(f:u5->Option (List Key×List D)):Prop:=PE X e (tFD X.K f)
structure ZFD(X:Cx)(e:Expr)(f:u5->Option (List Key×List D)):Prop where
 h:SFD X e f
section
variable{X:Cx}{st:Db}{rest:List Db}{e c:Expr}{pos:F2}{f:ED}{g k:EO}
theorem Y5:ZB X [] Z3:=
 ⟨y2C w1L fun E σ H h_=>by
 refine ex6 h_ fun ρ o B H0 V0 Z e r q=>?_;cases e
 exact q σ H Z r⟩
theorem y3(h1:ZS X st g)(h2:ZB X rest k):ZB X (st::rest) (K6 g k):=
 ⟨have h1:=h1.h;
 have h2:=h2.h;
 y2C (z8V h1 h2) fun E σ H h_=>by
  refine ex6 h_ fun ρ o B H0 V0 Z e r q=>?_;unfold K6 at e;split at e
  ·rename_i ρ' eg;exact⟨ρ,_,B,H0,V0,Z,eg,r,fun σ' H' Z' r'=>⟨ρ',o,B,H0,V0,Z',e,r',q⟩⟩
  ·rename_i ag;refine⟨ρ,o,B,H0,V0,Z,e,r,?_⟩
   cases o with
   |nx ρ'=>exact absurd e (ag ρ')
   |bk ρ'=>exact q
   |ct ρ'=>exact q
   |rt d=>exact q⟩
theorem y6(h1:ZS X st g):ZB X [st] g:=
 ⟨have h1:=h1.h;
 y6H h1⟩
theorem v7(h:ZE X e f):ZS X (.Return (some e) pos) (z0E f):=
 ⟨have h:=h.h;
 z0F (x3L h) fun E σ H h_=>by
 refine ex6 h_ fun ρ o B H0 V0 Z e r q=>?_;unfold z0E at e;split at e
 ·rename_i d ed;cases e;exact⟨ρ,d,B,H0,V0,Z,ed,r,fun v H' s rr=>q v H' (r.same.trans s) (rr.mono (z0G r.sub))⟩
 ·cases e⟩
theorem z08{a b:List Db}{fc:EB}(hc:ZT X c fc)(ha:ZB X a g)(hb:ZB X b k):ZS X (.If c a b pos) (z2E fc g k):=
 ⟨have hc:=hc.h;
 have ha:=ha.h;
 have hb:=hb.h;
 z0F (w75 hc ha hb) fun E σ H h_=>by
  refine ex6 h_ fun ρ o B H0 V0 Z e r q=>?_;unfold z2E at e;split at e
  ·rename_i ec;exact⟨ρ,true,B,H0,V0,Z,ec,r,fun H' s=>x8A ⟨ρ,o,B,H0,V0,Z,e,r.mono s,q⟩⟩
  ·rename_i ec;exact⟨ρ,false,B,H0,V0,Z,ec,r,fun H' s=>w04 ⟨ρ,o,B,H0,V0,Z,e,r.mono s,q⟩⟩
  ·cases e⟩
theorem J4{i:Nat}{x:Bb}{aF:F2}(he:ZE X e f)(hN:X.N.Nodup)(hi:X.N[i]?=some x:=by rfl)(hx:Loc X.env.scope x:=by first|exact Dw rfl|exact D2 rfl)(hs:Dy e (some (.Name x aF)) pos.line X.env=Ck false:=by rfl)(hf:X.fn x=true∨X.env.scope.names.lookup x=some .local:=by first|exact .inl rfl|exact .inr rfl):ZS X (.Assign [.Name x aF] e pos) (z0H i f):=
 ⟨have he:=he.h;
 z0F (x3K hN hi hx he hs hf) fun E σ H h_=>by
  refine ex6 h_ fun ρ o B H0 V0 Z e r q=>?_;unfold z0H at e;split at e
  ·rename_i d ed;cases e;exact⟨ρ,d,B,H0,V0,Z,ed,r,fun v H' s rr=>q _ H' Z ((r.mono s).set rr)⟩
  ·cases e⟩
theorem z2H{i:Nat}{x:Bb}{aF:F2}{fl:EL}(he:ZF X e fl)(hN:X.N.Nodup)(hi:X.N[i]?=some x:=by rfl)(hx:Loc X.env.scope x:=by first|exact Dw rfl|exact D2 rfl)(hs:Dy e (some (.Name x aF)) pos.line X.env=Ck false:=by rfl)(hf:X.fn x=true∨X.env.scope.names.lookup x=some .local:=by first|exact .inl rfl|exact .inr rfl):ZS X (.Assign [.Name x aF] e pos) (z7Q i fl):=
 ⟨have he:=he.h;
 z0F (x3K hN hi hx he hs hf) fun E σ H h_=>by
  refine ex6 h_ fun ρ o B H0 V0 Z e r q=>?_;unfold z7Q at e;split at e
  ·rename_i ds ed;cases e;refine⟨ρ,ds,B,H0,V0,Z,ed,r,fun a xs H' s hn ha rr=>q _ H' (a::Z) ?_⟩;refine(r.more hn s ha).setO (c:=.l ds) A6 (fun z=>r.newer hn (r.sub _ z)) ?_ ha ⟨_,rfl,rr⟩ fun j es hj cR=>?_
   ·exact r.same.free hn
   ·obtain⟨b,ys,t1,t2,_⟩:=r.own j es hj;rw[cR]at t1;cases t1;exact r.newer hn t2
  ·cases e⟩
theorem z51{i:Nat}{x:Bb}{aF:F2}{fl:u5->Option (List Key×List D)}(he:ZFD X e fl)(hN:X.N.Nodup)(hi:X.N[i]?=some x:=by rfl)(hx:Loc X.env.scope x:=by first|exact Dw rfl|exact D2 rfl)(hs:Dy e (some (.Name x aF)) pos.line X.env=Ck false:=by rfl)(hf:X.fn x=true∨X.env.scope.names.lookup x=some .local:=by first|exact .inl rfl|exact .inr rfl):ZS X (.Assign [.Name x aF] e pos) (y4Y i fl):=
 ⟨have he:=he.h;
 z0F (x3K hN hi hx he hs hf) fun E σ H h_=>by
  refine ex6 h_ fun ρ o B H0 V0 Z e r q=>?_;unfold y4Y at e;split at e
  ·rename_i ds ed;cases e;refine⟨ρ,ds,B,H0,V0,Z,ed,r,fun a xs H' s hn ha rk rr=>q _ H' (a::Z) ?_⟩;refine(r.more hn s ha).setO (c:=.d ds.1 ds.2) A6 (fun z=>r.newer hn (r.sub _ z)) ?_ ha ⟨_,rfl,rk,rr⟩ fun j es hj cR=>?_
   ·exact r.same.free hn
   ·obtain⟨b,ys,t1,t2,_⟩:=r.own j es hj;rw[cR]at t1;cases t1;exact r.newer hn t2
  ·cases e⟩
theorem v4{i:Nat}{x:Bb}(hN:X.N.Nodup)(hi:X.N[i]?=some x:=by rfl)(hx:Loc X.env.scope x:=by first|exact Dw rfl|exact D2 rfl)(hf:X.fn x=true∨X.env.scope.names.lookup x=some .local:=by first|exact .inl rfl|exact .inr rfl):ZG X (.Name x pos) (w9 i):=
 ⟨x3T (y2I hN hi hx hf) fun v σ H Q h_=>by
  obtain⟨ρ,d,ρ',B,H0,V0,Z,e,r,rr,q⟩:=h_;cases e
  exact q _ (r.set rr)⟩
theorem y1X:ZGs X [] y53:=
 ⟨y8L x3S fun v σ H Q h_=>by
 obtain⟨ρ,ds,ρ',B,H0,V0,Z,e,r,rr,q⟩:=h_;unfold y53 at e;split at e
 ·cases e;exact⟨J6.mp rr,q σ r⟩
 ·cases e⟩
theorem z31{es:List Expr}{h:D->u5->Option u5}{kk:List D->u5->Option u5}(h1:ZG X e h)(h2:ZGs X es kk)(hs:(Dv (e::es) X.env).map (·.2)=Kg e X.env::(Dv es X.env).map (·.2):=by rfl):ZGs X (e::es) (z2P h kk):=
 ⟨have h1:=h1.h;
 have h2:=h2.h;
 y8L (y2H h1 h2 hs) fun v σ H Q h_=>by
  obtain⟨ρ,ds,ρ',B,H0,V0,Z,e,r,rr,q⟩:=h_;unfold z2P at e;split at e
  ·rename_i d rs;split at e
   ·rename_i ρ1 e1;obtain⟨v',jk,rfl,t1,t2⟩:=j0.mp rr;exact⟨v',jk,rfl,ρ,d,ρ1,B,H0,V0,Z,e1,r,t1,fun σ' r'=>⟨ρ1,rs,ρ',B,H0,V0,Z,e,r',t2,q⟩⟩
   ·cases e
  ·cases e⟩
theorem y5S{es:List Expr}{kt:Nat}{kk:List D->u5->Option u5}{n:Nat}(hc:X.calm=true)(h:ZGs X es kk)(hn:(Dv es X.env).length=n:=by rfl)(bX:(Dv es X.env).findIdx? (·.1)=none:=by rfl):ZG X (.Tuple es kt pos) (y52 n kk):=
 ⟨have h:=h.h;
 x3T (x9N hc h hn bX) fun v σ H Q h_=>by
  obtain⟨ρ,d,ρ',B,H0,V0,Z,e,r,rr,q⟩:=h_;unfold y52 at e;split at e
  ·rename_i ds;split at e
   ·rename_i hl;obtain⟨a,xs,rfl,t1,t2⟩:=j3.mp rr;exact⟨a,xs,rfl,u9 x4 t1,t2.length.symm.trans hl,ρ,ds,ρ',B,H0,V0,Z,e,r,t2,q⟩
   ·cases e
  ·cases e⟩
theorem SR.frz{K:A5}{B Z:List Ap}{H0 V0 H:Hp}{σ:St}{ρ:u5}(i:Nat)(r:SR K B H0 V0 H Z σ ρ):∃Z',SR K B H0 V0 H Z' σ (frz i ρ)/\(∀b∈Z',b∈Z)/\(∀b∈Z,b∉Z'->∃(c:OC) (o:HO),ρ[i]?=some (some c.cell)/\H b=some o/\x20 K (J3 Z H) c o):=by
 unfold L3.frz;split
 ·rename_i cc hi;split
  ·rename_i c hc;have hcc:=w23 hc;subst hcc;obtain⟨a,o,h1,h2,hnb,h3,h4,h5⟩:=r.own i c hi;have cg:∀b∈Z.filter (fun b=>decide (b≠a)),b∈Z:=fun b hb=>(B2.mp hb).1;have hm:j6 (J3 Z H) (J3 (Z.filter (fun b=>decide (b≠a))) H):=z0G cg;have hl:i<ρ.length:=(An.mp hi).1;refine⟨Z.filter (fun b=>decide (b≠a)),⟨r.same,r.tb,r.vis.trans hm,fun b hb=>?_,fun z hz=>r.zs z (cg z hz),fun j d q=>?_,fun j es q=>?_,fun j k fs gs b q1 q2 s1 s2=>?_,by rw[Ci];exact r.len⟩,cg,fun b hb nb=>?_⟩
   ·exact B2.mpr ⟨r.sub b hb,decide_eq_true fun z=>hnb (z▸hb)⟩
   ·rcases Y6 q with⟨rfl,z,_⟩|⟨n,q⟩
    ·cases z;refine⟨_,h1,(h5.mono hm).rep ?_⟩;rw[K7 (fun z=>absurd rfl (of_decide_eq_true (B2.mp z).2))];exact h4
    ·obtain⟨v,t1,t2⟩:=r.sh j d q;exact⟨v,t1,t2.mono hm⟩
   ·rcases Y6 q with⟨_,z,_⟩|⟨n,q⟩
    ·exact(z5F z).elim
    ·obtain⟨b,ys,t1,t2,tb,t3,t4,t5⟩:=r.own j es q;refine⟨b,ys,t1,B2.mpr ⟨t2,decide_eq_true fun z=>?_⟩,tb,t3,t4,t5.mono hm⟩;subst z;exact n (r.inj i j _ _ b hi q h1 t1)
   ·rcases Y6 q1 with⟨_,z,_⟩|⟨n1,q1⟩
    ·exact(z5F z).elim
    rcases Y6 q2 with⟨_,z,_⟩|⟨n2,q2⟩
    ·exact(z5F z).elim
    exact r.inj j k fs gs b q1 q2 s1 s2
   ·have eb:b=a:=Classical.byContradiction fun z=>nb (B2.mpr ⟨hb,decide_eq_true z⟩);subst eb;exact⟨c,o,hi,h4,h5⟩
  ·exact⟨Z,r,fun _ h=>h,fun b hb nb=>absurd hb nb⟩
 ·exact⟨Z,r,fun _ h=>h,fun b hb nb=>absurd hb nb⟩
theorem z5R(i:Nat)(h:ZS X st g):ZS X st (fun ρ=>g (frz i ρ)):=
 ⟨have h:=h.h;
 z0F h fun E σ H h_=>by
 refine ex6 h_ fun ρ o B H0 V0 Z e r q=>?_;obtain⟨Z',r',_⟩:=r.frz i
 exact⟨frz i ρ,o,B,H0,V0,Z',e,r',q⟩⟩
noncomputable def z0D(h:D->u5->Option u5)(g:EO):List D->EO
 | [],ρ=>some (.nx ρ)
 |d::ds,ρ=>match h d ρ with
  |none=>none
  |some ρ1=>match g ρ1 with
   |some (.nx ρ2)=>z0D h g ds ρ2
   |some (.ct ρ2)=>z0D h g ds ρ2
   |some (.bk ρ2)=>some (.nx ρ2)
   |some (.rt v)=>some (.rt v)
   |none=>none
def z6S(fi:EL)(h:D->u5->Option u5)(g:EO):EO:=fun ρ=>match fi ρ with|some ds=>z0D h g ds ρ|none=>none
theorem z0A{tg ae:Expr}{body:List Db}{fi:EL}{h:D->u5->Option u5}(hp:L9 (B3 X.prog X.w) X.A X.env X.xe)(hc:X.calm=true)(hi:ZI X tg ae fi)(hg:ZG X tg h)(hb:ZB X body g)(hs:∀x,Cn ae X.env x=Ck x:=by intro _;rfl):ZS X (.For tg ae body [] pos) (z6S fi h g):=
 ⟨have hi:=hi.h;
 have hg:=hg.h;
 have hb:=hb.h;
 z0F (x9L hp hc hi hg hb hs) fun E σ H h_=>by
  refine ex6 h_ fun ρ o B H0 V0 Z e r q=>?_;unfold z6S at e;split at e
  ·rename_i ds aD;refine⟨ρ,ds,B,H0,V0,Z,aD,r,fun J H1 s1 wk=>?_⟩;have R1:=r.mono s1;have RV:SR X.K B H0 (J3 Z H1) H1 Z σ ρ:=R1.vis' (fun _ _ h=>h);have jo:∀{σ' H' Z' ρ'},SR X.K B H0 (J3 Z H1) H' Z' σ' ρ'->SR X.K B H0 V0 H' Z' σ' ρ':=fun r'=>r'.vis' (R1.vis.trans r'.vis);refine⟨fun i m σ' H'=>m=ds.length-i/\i≤ds.length/\∃ρ' Z',SR X.K B H0 (J3 Z H1) H' Z' σ' ρ'/\z0D h g (ds.drop i) ρ'=some o,⟨_,rfl,Bf _,ρ,Z,RV,e⟩,?_⟩
   rintro i m σ' H' ⟨rfl,aO,ρ',Z',r',e'⟩;have vis:j6 (J3 Z H1) H':=r'.vis.trans x4;by_cases al:i<ds.length
   ·refine .inr ⟨wk.go H' vis i al,fun σ2 H2=>∃ρ2 Z2,SR X.K B H0 (J3 Z H1) H2 Z2 σ2 ρ2/\z0D h g (ds.drop (i+1)) ρ2=some o,fun σ2 H2 ⟨ρ2,Z2,r2,e2⟩=>⟨ds.length-(i+1),by omega,rfl,al,ρ2,Z2,r2,e2⟩,fun x H3 hy=>?_⟩;obtain⟨sH,hx⟩:=wk.yld H' vis i x H3 hy;have hd:=hx ds[i] (A3 al) Z' r'.zs r'.vis;rw[Eu al]at e';unfold z0D at e';split at e'
    ·cases e'
    ·rename_i ρ1 e1;refine⟨ρ',ds[i],ρ1,B,H0,J3 Z H1,Z',e1,r'.mono sH,hd,fun σ4 r4=>?_⟩;split at e'
     ·rename_i ρ2 e2;exact⟨ρ1,_,B,H0,J3 Z H1,Z',e2,r4,fun σ5 H5 Z5 r5=>⟨ρ2,Z5,r5,e'⟩⟩
     ·rename_i ρ2 e2;exact⟨ρ1,_,B,H0,J3 Z H1,Z',e2,r4,fun σ5 H5 Z5 r5=>⟨ρ2,Z5,r5,e'⟩⟩
     ·rename_i ρ2 e2;cases e';exact⟨ρ1,_,B,H0,J3 Z H1,Z',e2,r4,fun σ5 H5 Z5 r5=>q σ5 H5 Z5 (jo r5)⟩
     ·rename_i v e2;cases e';exact⟨ρ1,_,B,H0,J3 Z H1,Z',e2,r4,q⟩
     ·cases e'
   ·have ei:i=ds.length:=by omega
    subst ei;rw[Jy]at e';unfold z0D at e';cases e';exact .inl ⟨wk.stop H' vis,q σ' H' Z' (jo r')⟩
  ·cases e⟩
theorem x2N{K:A5}{W0:Hp}{a:Ap}{xs:List V}{ds:List D}(h1:SqL K W0 a xs)(h2:j7 K W0 ds xs):Walk K W0 (Itl K a) ds where
 go:=fun H' s i hi=>by obtain⟨v,hv,_⟩:=h2.get (A3 hi);exact⟨xs,v,s.seq h1,hv⟩
 yld:=fun H' s i x H3 hy=>by
  obtain⟨rfl,hx⟩:=hy;refine⟨j6.refl _,fun d hd Z hz hs=>?_⟩;obtain⟨v,hv,rv⟩:=h2.get hd
  have:=hx xs (s.seq h1)
  rw[hv]at this;cases this;exact rv.mono hs
 stop:=fun H' s=>⟨xs,s.seq h1,by rw[h2.length];exact Ak _⟩
theorem x74{K:A5}{W0:Hp}{a:Ap}{xs:List V}{ds:List D}(h1:SqT K W0 a xs)(h2:j7 K W0 ds xs):Walk K W0 (Itt K a) ds where
 go:=fun H' s i hi=>by obtain⟨v,hv,_⟩:=h2.get (A3 hi);exact⟨xs,v,u9 s h1,hv⟩
 yld:=fun H' s i x H3 hy=>by
  obtain⟨rfl,hx⟩:=hy;refine⟨j6.refl _,fun d hd Z hz hs=>?_⟩;obtain⟨v,hv,rv⟩:=h2.get hd
  have:=hx xs (u9 s h1)
  rw[hv]at this;cases this;exact rv.mono hs
 stop:=fun H' s=>⟨xs,u9 s h1,by rw[h2.length];exact Ak _⟩
noncomputable def K5(lo:Int)(n:Nat):List D:=(A9 n).map fun (k:Nat)=>D.int (lo+(k:Int))
theorem y85{K:A5}{W0:Hp}(lo:Int)(n:Nat):Walk K W0 (Itr lo n) (K5 lo n) where
 go:=fun H' s i hi=>by show i<n;simpa [K5] using hi
 yld:=fun H' s i x H3 hy=>by
  obtain⟨rfl,rfl⟩:=hy;refine⟨j6.refl _,fun d hd Z hz hs=>?_⟩;unfold K5 at hd;rw[Au]at hd
  cases hr:(A9 n)[i]? with
  |none=>rw[hr]at hd;cases hd
  |some k=>
   rw[hr]at hd
   have ek:k=i:=by
    have:=An.mp hr
    obtain⟨h1,h2⟩:=this;simpa using h2.symm
   subst ek;cases hd;exact w6.mpr rfl
 stop:=fun H' s=>by show n≤(K5 lo n).length;simp[K5]
variable{tg:Expr}
noncomputable def z0V(f:ED):EL:=fun ρ=>match f ρ with|some (.lst ds)=>some ds|_=>none
noncomputable def x5S(f:ED):EL:=fun ρ=>match f ρ with|some (.tup ds)=>some ds|_=>none
theorem w44(h:SE X e f):SI X tg e (z0V f):=z4M (x3R h) fun σ H R h_=>by
 refine ex6 h_ fun ρ ds B H0 V0 Z e r q=>?_;unfold z0V at e;split at e
 ·rename_i es he;cases e;refine⟨ρ,_,B,H0,V0,Z,he,r,fun v H' s rr=>?_⟩;obtain⟨a,xs,rfl,h1,h2⟩:=J5.mp rr;exact⟨a,rfl,⟨xs,x4.seq h1⟩,q _ H' s (x2N h1 h2)⟩
 ·cases e
theorem w43(h:SE X e f):SI X tg e (x5S f):=z4M (w4U h) fun σ H R h_=>by
 refine ex6 h_ fun ρ ds B H0 V0 Z e r q=>?_;unfold x5S at e;split at e
 ·rename_i es he;cases e;refine⟨ρ,_,B,H0,V0,Z,he,r,fun v H' s rr=>?_⟩;obtain⟨a,xs,rfl,h1,h2⟩:=j3.mp rr;exact⟨a,rfl,⟨xs,u9 x4 h1⟩,q _ H' s (x74 h1 h2)⟩
 ·cases e
noncomputable def okR(i:Int):Bool:=decide (-(2 ^ 62)≤i)&&decide (i<2 ^ 62)
theorem y1F{i:Int}(h:okR i=true) : -(2 ^ 62)≤i/\i<2 ^ 62:=by unfold okR at h;rw[Ax]at h;exact⟨of_decide_eq_true h.1,of_decide_eq_true h.2⟩
def z0I(f:ED):EL:=fun ρ=>match f ρ with|some (.int j)=>if okR j=true then some (K5 0 j.toNat) else none|_=>none
def y4Z(f f':ED):EL:=fun ρ=>match f ρ with
 |some (.int i)=>(match f' ρ with|some (.int j)=>if okR i=true/\okR j=true then some (K5 i (j-i).toNat) else none|_=>none)
 |_=>none
theorem z0S{p:F2}(hm:X.mg "range" = none)(h:ZE X e f)(hg:Gl X "range":=by rfl)(hs:Ac [e] X.env=[(false,C0 e X.env)]:=by rfl):ZI X tg (.Call (.Name "range" p) [e] [] pos) (z0I f):=
 ⟨have h:=h.h;
 z4M (x3Q hg hm (g9 h Y0 (by rw[hs];rfl)) hs) fun σ H R h_=>by
  refine ex6 h_ fun ρ ds B H0 V0 Z e r q=>?_;unfold z0I at e;split at e
  ·rename_i j he;split at e
   ·rename_i hok;cases e;refine⟨ρ,_,B,H0,V0,Z,he,r,fun v H' s rr=>?_⟩
    obtain rfl:=w6.mp rr
    exact⟨j,rfl,(y1F hok).1,(y1F hok).2,q _ H' s (y85 0 j.toNat)⟩
   ·cases e
  ·cases e⟩
theorem x6X{p:F2}{e':Expr}{f':ED}(hm:X.mg "range" = none)(h:ZE X e f)(h':ZE X e' f')(hg:Gl X "range":=by rfl)(hs:Ac [e,e'] X.env=[(false,C0 e X.env),(false,C0 e' X.env)]:=by rfl)(bH:Ac [e'] X.env=[(false,C0 e' X.env)]:=by rfl):ZI X tg (.Call (.Name "range" p) [e,e'] [] pos) (y4Z f f'):=
 ⟨have h:=h.h;
 have h':=h'.h;
 z4M (x3P hg hm (g9 h (g9 h' Y0 (by rw[bH];rfl)) (by rw[hs,bH])) hs bH) fun σ H R h_=>by
  refine ex6 h_ fun ρ ds B H0 V0 Z e r q=>?_;unfold y4Z at e;split at e
  ·rename_i i he;split at e
   ·rename_i j hj;split at e
    ·rename_i hok;cases e;refine⟨ρ,_,B,H0,V0,Z,he,r,fun v H1 s1 r1=>⟨ρ,_,B,H0,V0,Z,hj,r.mono s1,fun w' H' s rr=>?_⟩⟩
     obtain rfl:=w6.mp r1
     obtain rfl:=w6.mp rr
     exact⟨i,j,rfl,⟨(y1F hok.1).1,(y1F hok.1).2,(y1F hok.2).1,(y1F hok.2).2⟩,q _ H' (s1.trans s) (y85 i (j-i).toNat)⟩
    ·cases e
   ·cases e
  ·cases e⟩
noncomputable def y0T(cap:List (Option Nat))(ρ:u5):u5:=cap.map fun o=>o.bind fun j=>(ρ[j]?).bind id
noncomputable def z4G(h:D->u5->Option u5)(ft:EB)(fe:ED):u5->List D->Option (List D)
 |_,[]=>some []
 | ρ,d::ds=>match h d ρ with
  |none=>none
  |some ρ1=>match ft ρ1 with
   |some true=>(match fe ρ1 with
    |some y=>(match z4G h ft fe ρ1 ds with|some ys=>some (y::ys)|none=>none)
    |none=>none)
   |some false=>z4G h ft fe ρ1 ds
   |none=>none
def Q3(cap:List (Option Nat))(fi:EL)(h:D->u5->Option u5)(ft:EB)(fe:ED):EL:=fun ρ=>match fi ρ with
 |some ds=>if ds.length≤LIM then z4G h ft fe (y0T cap ρ) ds else none
 |none=>none
noncomputable def z3C:EB:=fun _=>some true
theorem z97{K:A5}{B Z:List Ap}{H0 V0 H:Hp}{σ:St}{ρ:u5}{cap:List (Option Nat)}(cf:∀(i j k:Nat),cap[i]?=some (some k)->cap[j]?=some (some k)->i=j)(r:SR K B H0 V0 H Z σ ρ):
  SR K B H0 V0 H Z (y0J cap σ) (y0T cap ρ):=by
 have get:∀{c:Cell} {i:Nat},(y0T cap ρ)[i]?=some (some c)->∃j,cap[i]?=some (some j)/\ρ[j]?=some (some c):=fun {c i} q=>by
  unfold y0T at q;rw[Au]at q
  cases hc:cap[i]? with
  |none=>rw[hc]at q;cases q
  |some o=>
   rw[hc]at q
   cases o with
   |none=>cases q
   |some j=>
    refine⟨j,rfl,?_⟩;have q':(ρ[j]?).bind id=some c:=Bc q
    cases hs:ρ[j]? with
    |none=>rw[hs]at q';cases q'
    |some z=>
     rw[hs]at q'
     have:z=some c:=q'
     rw[this]
 have put:∀{v:V} {i j:Nat},cap[i]?=some (some j)->σ[j]?=some (some v)->(y0J cap σ)[i]?=some (some v):=fun {v i j} h1 h2=>by unfold y0J;rw[Au,h1];show some ((σ[j]?).bind id)=_;rw[h2];rfl
 have iT:∀{v:V} {i j:Nat},cap[i]?=some (some j)->(y0J cap σ)[i]?=some (some v)->σ[j]?=some (some v):=fun {v i j} h1 h2=>by
  unfold y0J at h2;rw[Au,h1]at h2;have cO:(σ[j]?).bind id=some v:=Bc h2
  cases hs:σ[j]? with
  |none=>rw[hs]at cO;cases cO
  |some z=>
   rw[hs]at cO
   have:z=some v:=cO
   rw[this]
 refine⟨r.same,r.tb,r.vis,r.sub,r.zs,fun i d q=>?_,fun i ds q=>?_,fun i j ds es a q1 q2 s1 s2=>?_,by unfold y0J y0T;rw[A0,A0]⟩
 ·obtain⟨j,h1,h2⟩:=get q;obtain⟨v,t1,t2⟩:=r.sh j d h2;exact⟨v,put h1 t1,t2⟩
 ·obtain⟨j,h1,h2⟩:=get q;obtain⟨a,xs,t1,t2⟩:=r.own j ds h2;exact⟨a,xs,put h1 t1,t2⟩
 ·obtain⟨i',h1,h2⟩:=get q1;obtain⟨j',h3,h4⟩:=get q2
  have:i'=j':=r.inj i' j' ds es a h2 h4 (iT h1 s1) (iT h3 s2)
  subst this;exact cf i j i' h1 h3
structure WalkC(K:A5)(Z:List Ap)(H:Hp)(J:It)(ds:List D):Prop where
 go:∀H',j6 H H'->∀i,i<ds.length->J.go i H'
 yld:∀H',j6 H H'->∀(i:Nat) x H3,J.yld i H' x H3->j6 H' H3/\∀d,ds[i]?=some d->∀Z':List Ap,(∀z∈Z',∃o,H' z=some o)->j6 (J3 Z H) (J3 Z' H')->Rep K (J3 Z' H3) d x
 stop:∀H',j6 H H'->J.stop ds.length H'
noncomputable def tIc(K:A5)(f:EL):TI:=fun σ H R=>∃ρ ds B H0 V0 Z,f ρ=some ds/\SR K B H0 V0 H Z σ ρ/\∀J H',j6 H H'->WalkC K Z H' J ds->R J H'
abbrev SIc(X:Cx)(tg e:Expr)(f:EL):Prop:=PI X tg e (tIc X.K f)
structure ZIc(X:Cx)(tg e:Expr)(f:EL):Prop where
 h:SIc X tg e f
theorem Z6{tg e:Expr}{f:EL}(h:ZI X tg e f):ZIc X tg e f:=
 ⟨have h:=h.h;
 z4M h fun σ H R ⟨ρ,ds,B,H0,V0,Z,e,r,q⟩=>
 ⟨ρ,ds,B,H0,V0,Z,e,r,fun J H' s wk=>q J H' s ⟨fun H2 s2=>wk.go H2 (x4.trans s2),fun H2 s2=>wk.yld H2 (x4.trans s2),fun H2 s2=>wk.stop H2 (x4.trans s2)⟩⟩⟩
theorem x6W{tg:Expr}(i:Nat){x:Bb}{pos:F2}(hN:X.N[i]?=some x:=by rfl)(hv:Vis X.env.scope x:=by first|exact Dw rfl|exact D2 (Dw rfl)|exact D2 (D2 rfl))(hd:(x==("__debug__":Bb))=false:=by decide)(aV:(x==("__classdict__":Bb))=false:=by decide):ZIc X tg (.Name x pos) (z4Z i):=
 ⟨z4M (x3R (z2K hN hv hd aV)) fun σ H R h_=>by
  refine ex6 h_ fun ρ ds B H0 V0 Z e r q=>?_;obtain⟨a,xs,h1,h2,hb,h3,h4,h5⟩:=r.ow i ds (z1N e);refine⟨.ref a,h1,a,rfl,⟨xs,SqL.of h4⟩,q _ H (j6.refl H) ⟨fun H' s j hj=>?_,fun H' s j y H3 hy=>?_,fun H' s=>⟨xs,SqL.of (s _ _ h4),by rw[h5.length];exact Ak _⟩⟩⟩
  ·obtain⟨v,cv,_⟩:=h5.get (A3 hj);exact⟨xs,v,SqL.of (s _ _ h4),cv⟩
  ·obtain⟨rfl,hx⟩:=hy;refine⟨j6.refl _,fun d bS Z' hz hs=>?_⟩;obtain⟨v,cv,rv⟩:=h5.get bS
   have:=hx xs (SqL.of (s _ _ h4))
   rw[cv]at this;cases this
   exact rv.mono hs⟩
theorem y9M{cap:List (Option Nat)}{fi:EL}{h:D->u5->Option u5}{ft:EB}{fe:ED}(cf:∀(i j k:Nat),cap[i]?=some (some k)->cap[j]?=some (some k)->i=j):
  ∀σ H Q,tF X.K (Q3 cap fi h ft fe) σ H Q->x2W cap (tIc X.K fi) (tG X.K h) (tT X.K ft) (tD X.K fe) σ H Q:=fun σ H Q h_=>by
  refine ex6 h_ fun ρ zs B H0 V0 Z e r q=>?_;unfold Q3 at e;split at e
  ·rename_i ds aD;split at e
   ·rename_i hl;refine⟨ρ,ds,B,H0,V0,Z,aD,r,fun J H1 s1 wk l bp=>?_⟩;have R1:=r.mono s1;have sl:j6 H1 (upd H1 l (.lst [])):=j4 bp;have RV:SR X.K B H0 (J3 Z H1) H1 Z σ ρ:=R1.vis' (fun _ _ h=>h);have eY:=RV.more bp sl x9
    have R2:SR X.K (l::B) H0 (J3 Z H1) (upd H1 l (.lst [])) (l::Z) (y0J cap σ) (y0T cap ρ):=z97 cf ⟨eY.same,eY.tb,eY.vis,fun b hb=>(Af.mp hb).elim (fun z=>z▸A6) fun z=>eY.sub b z,eY.zs,eY.sh,fun j es hj=>by
     obtain⟨a,xs,t1,t2,tb,t3,t4,t5⟩:=RV.own j es hj;obtain⟨a',xs',t1',t2',tb',t3',t4',t5'⟩:=eY.own j es hj;rw[t1]at t1';cases t1';refine⟨a,xs',t1,t2',fun z=>?_,t3',t4',t5'⟩;rcases Af.mp z with z|z
     ·rw[z,bp]at t4;cases t4
     ·exact tb z,eY.inj,eY.len⟩
    refine⟨fun i m σ' H' af=>m=ds.length-i/\i≤ds.length/\H' l=some (.lst af)/\j6 H1 H'/\af.length≤i/\∃ρ' ys ws,SR X.K (l::B) H0 (J3 Z H1) H' (l::Z) σ' ρ'/\j7 X.K (J3 (l::Z) H') ys af/\z4G h ft fe ρ' (ds.drop i)=some ws/\zs=ys++ws,
     ⟨_,rfl,Bf _,x9,sl,Ak _,y0T cap ρ,[],zs,R2,j7.nil,e,rfl⟩,?_⟩
    rintro i m σ' H' af ⟨rfl,aO,aP,hS,ig,ρ',ys,ws,r',ry,e',ez⟩;have vis:j6 (J3 Z H1) H':=r'.vis.trans x4;by_cases al:i<ds.length
    ·refine .inr ⟨wk.go H' hS i al,y4I (Bk ig (Bk aO hl)),fun x H3 hy=>?_⟩;obtain⟨sH,hx⟩:=wk.yld H' hS i x H3 hy;have hd:=hx ds[i] (A3 al) (l::Z) r'.zs r'.vis;have aP:=sH _ _ aP;have hS:=hS.trans sH;have ry:=ry.mono (y8 sH);rw[Eu al]at e';unfold z4G at e';split at e'
     ·cases e'
     ·rename_i ρ1 e1;refine⟨ρ',ds[i],ρ1,l::B,H0,J3 Z H1,l::Z,e1,r'.mono sH,hd,fun σ4 r4=>?_⟩;split at e'
      ·rename_i et;refine⟨ρ1,true,l::B,H0,J3 Z H1,l::Z,et,r4,fun H5 s5=>x8A ?_⟩;split at e'
       ·rename_i y ey;split at e'
        ·rename_i yy eyy;cases e';refine⟨ρ1,y,l::B,H0,J3 Z H1,l::Z,ey,r4.mono s5,fun v H6 s6 r6=>⟨s6 _ _ (s5 _ _ aP),ds.length-(i+1),by omega,rfl,al,x9,z1K bp (hS.trans (s5.trans s6)),?_,ρ1,ys++[y],yy,?_,?_,eyy,by rw[ez];simp⟩⟩
         ·rw[Ad];simpa using ig
         ·have R6:=(r4.mono s5).mono s6;have vs:j6 (J3 (l::Z) H6) (J3 (l::Z) (upd H6 l (.lst (af++[v])))):=z1H A6;have nl:H0 l=none:=(r.same.trans s1).free bp;refine⟨z1K nl R6.same,R6.tb.upd (s6 _ _ (s5 _ _ aP)) (fun _ z=>by cases z),R6.vis.trans vs,R6.sub,fun z hz=>?_,fun j d hj=>let ⟨u,t1,t2⟩:=R6.sh j d hj;⟨u,t1,t2.mono vs⟩,fun j es hj=>?_,R6.inj,R6.len⟩
          ·by_cases iU:z=l
           ·subst iU;exact⟨_,x9⟩
           ·obtain⟨o',bU⟩:=R6.zs z hz;exact⟨o',by rw[u8 iU];exact bU⟩
          ·obtain⟨a,xs,t1,t2,tb,t3,t4,t5⟩:=R6.own j es hj;have na:a≠l:=fun z=>tb (z▸A6);exact⟨a,xs,t1,t2,tb,t3,by rw[u8 na];exact t4,t5.mono vs⟩
         ·exact j7.append (ry.mono ((y8 (s5.trans s6)).trans (z1H A6))) (j7.one (r6.mono (z1H A6)))
        ·cases e'
       ·cases e'
      ·rename_i et;exact⟨ρ1,false,l::B,H0,J3 Z H1,l::Z,et,r4,fun H5 s5=>w04 ⟨ds.length-(i+1),by omega,rfl,al,s5 _ _ aP,hS.trans s5,by omega,ρ1,ys,ws,r4.mono s5,ry.mono (y8 s5),e',ez⟩⟩
      ·cases e'
    ·have ei:i=ds.length:=by omega
     subst ei;rw[Jy]at e';unfold z4G at e';cases e';rw[Ch]at ez;subst ez;exact .inl ⟨wk.stop H' hS,q l af H' (s1.trans hS) (s1.free bp) aP ry⟩
   ·cases e
  ·cases e
theorem w14{aR ad ae:Expr}{aS:List Expr}{scope:Scope}{N:List Bb}{cap:List (Option Nat)}{fi:EL}{h:D->u5->Option u5}{ft:EB}{fe:ED}(hc:X.calm=true)(hi:SIc X ad ae fi)(hg:∀cl C fp s H,SG (K9 X N scope cl C fp s H) ad h)(ht:∀cl C fp s H,w0O (K9 X N scope cl C fp s H) aS (tT X.K ft))(he:∀cl C fp s H,SE (K9 X N scope cl C fp s H) aR fe)(hk:scope.kind = .function)(aA:∀y∈scope.names,y.2 = .cell->scope.names.lookup y.1=some .cell)(bz:∀x∈scope.names,x.2 = .local->scope.names.lookup x.1=some .local)(bJ:∀x∈scope.names,x.2 = .free->scope.names.lookup x.1=some .free)(cA:∀x∈scope.names,x.2 = .free->X.env.scope.names.lookup x.1=some .cell∨X.env.scope.names.lookup x.1=some .free)(bx:∀(i j:Nat),cap[i]?=some (some j)->∃x,N[i]?=some x/\X.N[j]?=some x/\scope.names.lookup x=some .free)(ab:cap.length=N.length)(cf:∀(i j k:Nat),cap[i]?=some (some k)->cap[j]?=some (some k)->i=j)(hs:∀x,Cn ae X.env x=Ck x:=by intro _;rfl):
  SF X (.ListComp aR [⟨ad,ae,aS,0⟩] scope pos) (Q3 cap fi h ft fe):=
 u7 (x3U (g:=tG X.K h) (te:=tD X.K fe) hc hi hg ht he hk aA bz bJ cA bx ab hs) (y9M cf)
end
noncomputable def gI(g:Int->Int->Int):D->D->Option D:=fun x y=>match x,y with|.int i,.int j=>some (.int (g i j))|_,_=>none
noncomputable def gB(g:Int->Int->Bool):D->D->Option D:=fun x y=>match x,y with|.int i,.int j=>some (.bl (g i j))|_,_=>none
noncomputable def gIC(C:Int->Int->Bool)(g:Int->Int->Int):D->D->Option D:=fun x y=>match x,y with|.int i,.int j=>if C i j=true then some (.int (g i j)) else none|_,_=>none
section
variable{K:A5}
theorem x3G{g:Int->Int->Int}:z87 K (rI0 fun i j=>.int (g i j)) (gI g):=by
 intro x y d e Z H u v Q zs hx hy q;unfold gI at e;split at e
 ·rename_i i j;cases e
  obtain rfl:=w6.mp hx
  obtain rfl:=w6.mp hy
  exact⟨i,j,rfl,rfl,q _ H (j6.refl H) (w6.mpr rfl)⟩
 ·cases e
theorem z6G{g:Int->Int->Bool}:z87 K (rI0 fun i j=>.bl (g i j)) (gB g):=by
 intro x y d e Z H u v Q zs hx hy q;unfold gB at e;split at e
 ·rename_i i j;cases e
  obtain rfl:=w6.mp hx
  obtain rfl:=w6.mp hy
  exact⟨i,j,rfl,rfl,q _ H (j6.refl H) (J8.mpr rfl)⟩
 ·cases e
theorem y6F{C':Int->Int->Prop}{C:Int->Int->Bool}{g:Int->Int->Int}(hC:∀i j,C i j=true->C' i j):z87 K (rI C' fun i j=>.int (g i j)) (gIC C g):=by
 intro x y d e Z H u v Q zs hx hy q;unfold gIC at e;split at e
 ·rename_i i j;split at e
  ·rename_i hc;cases e
   obtain rfl:=w6.mp hx
   obtain rfl:=w6.mp hy
   exact⟨i,j,rfl,rfl,hC i j hc,q _ H (j6.refl H) (w6.mpr rfl)⟩
  ·cases e
 ·cases e
theorem z87.or{r r':R2}{g g':D->D->Option D}(h:z87 K r g)(h':z87 K r' g'):z87 K (fun x y H Q=>r x y H Q∨r' x y H Q) (fun x y=>match g x y with|some d=>some d|none=>g' x y):=by
 intro x y d e Z H u v Q zs hx hy q;dsimp only at e;split at e
 ·rename_i d' hd;cases e;exact .inl (h x y d hd Z H u v Q zs hx hy q)
 ·exact .inr (h' x y d e Z H u v Q zs hx hy q)
end
def w7S:=gI (fun i j=>i+j)
def y2U:=gI (fun i j=>i-j)
noncomputable def z4L(i:Int):Bool:=decide (-(2 ^ 64)<i)&&decide (i<2 ^ 64)
def x8M:=gIC (fun i j=>z4L i||z4L j) (fun i j=>i*j)
def y50:=gIC (fun _ j=>decide (0<j)) (fun i j=>i % j)
def w34:=gIC (fun _ j=>decide (0<j)&&decide (j<1073741824)) (fun i j=>i / j)
def x1E:=gB (fun i j=>decide (i<j))
def w8H:=gB (fun i j=>decide (i≤j))
def w32:=gB (fun i j=>decide (j<i))
def w6H:=gB (fun i j=>decide (j≤i))
section
variable{X:Cx}{a b c:Expr}{fa fb fc:ED}{pos:F2}
theorem y5T(ha:ZE X a fa)(hb:ZE X b fb):ZE X (.BinOp a .Sub b pos) (d2 y2U fa fb):=
 ⟨have ha:=ha.h;
 have hb:=hb.h;
 y3W w5C x3G ha hb⟩
theorem w4A{K:A5}:z87 K (rI w69 fun i j=>.int (i*j)) x8M:=y6F (C':=w69) fun i j h=>by
  rw[E2]at h;rcases h with h|h
  ·unfold z4L at h;rw[Ax]at h;exact .inl ⟨of_decide_eq_true h.1,of_decide_eq_true h.2⟩
  ·unfold z4L at h;rw[Ax]at h;exact .inr ⟨of_decide_eq_true h.1,of_decide_eq_true h.2⟩
theorem y5W(ha:ZE X a fa)(hb:ZE X b fb):ZE X (.BinOp a .Mod b pos) (d2 y50 fa fb):=
 ⟨have ha:=ha.h;
 have hb:=hb.h;
 y3W w5E (y6F fun i j h=>of_decide_eq_true h) ha hb⟩
theorem w0U(ha:ZE X a fa)(hb:ZE X b fb):ZE X (.BinOp a .FloorDiv b pos) (d2 w34 fa fb):=
 ⟨have ha:=ha.h;
 have hb:=hb.h;
 y3W w1Y (y6F (C':=w8M) fun i j h=>by
  rw[Ax]at h
  exact⟨of_decide_eq_true h.1,of_decide_eq_true h.2⟩) ha hb⟩
theorem w0T(ha:ZE X a fa)(hb:ZE X b fb):ZE X (.Compare a [.GtE] [b] pos) (d2 w6H fa fb):=
 ⟨have ha:=ha.h;
 have hb:=hb.h;
 x33 w7B z6G ha hb (z6M _)⟩
theorem x2C(ha:ZE X a fa)(hb:ZE X b fb):ZT X (.Compare a [.Gt] [b] pos) (y9 (d2 w32 fa fb)):=
 ⟨have ha:=ha.h;
 have hb:=hb.h;
 y14 w7A z6G ha hb (z6M _)⟩
end
def w7R:D->D->Option D:=fun x y=>match x,y with
 | .tup xs,.tup ys=>if xs.length+ys.length≤LIM then some (.tup (xs++ys)) else none
 | .lst xs,.lst ys=>if xs.length+ys.length≤LIM then some (.lst (xs++ys)) else none
 |_,_=>none
def w4J(K:A5):R2:=fun x y H Q=>∃a b xs ys,x = .ref a/\y = .ref b/\SqT K H a xs/\SqT K H b ys/\xs.length+ys.length≤sizeLine /\
 (xs=[]->Q (.ref b) H)/\(xs≠[]->ys=[]->Q (.ref a) H)/\(xs≠[]->ys≠[]->∀p,H p=none->Q (.ref p) (upd H p (.tup (xs++ys))))
def w4K(K:A5):R2:=fun x y H Q=>∃a b xs ys,x = .ref a/\y = .ref b/\SqL K H a xs/\SqL K H b ys/\xs.length+ys.length≤sizeLine/\∀p,H p=none->Q (.ref p) (upd H p (.lst (xs++ys)))
section
variable{X:Cx}
theorem w20:OpR X (Gd .Add) (w4J X.K):=by
 intro aa s σ H x y v u Q I rx ry h;obtain⟨a,b,xs,ys,rfl,rfl,ha,hb,hz,q0,q1,q2⟩:=h;by_cases hx:xs=[]
 ·cases rx;cases ry;obtain⟨its,r1,p1,_⟩:=I.tuple ha;obtain⟨ao,r2,p2,_⟩:=I.tuple hb;obtain⟨⟨cls,dd,data,sl⟩,ho,hc,n,hd⟩:=id p1;obtain⟨⟨eJ,cB,data2,cI⟩,cb,bf,n2,bv⟩:=id p2;simp only at hc hd bf bv;subst hc hd bf bv;have hv:its=[]:=r1.nil_iff.mpr hx
  exact Kh ⟨_,ho,rfl⟩ ⟨_,cb,rfl⟩ Jx Li Ht Hk (Gz _ _)
   (tuple_addW0 a b its.toArray ao.toArray n n2 dd cB sl cI (by simp[hv])) ⟨ho,cb,⟨.ref b,H,I,rfl,q0 hx⟩⟩
 ·exact w1Z aa s σ H _ _ v u Q I rx ry ⟨a,b,xs,ys,rfl,rfl,ha,hb,hx,hz,q1 hx,q2 hx⟩
theorem x40:OpR X (Gd .Add) (w4K X.K):=by
 intro aa s σ H x y v u Q I rx ry h;obtain⟨l,b,xs,zs,rfl,rfl,hH,hB,hz,q⟩:=h;cases rx;cases ry;obtain⟨its,r,pl,z⟩:=I.list hH;obtain⟨ao,r2,pl2,z2⟩:=I.list hB;have hl:=r.length;have hl2:=r2.length
 have ea:its.toArray++ao.toArray=(its++ao).toArray:=by simp
 obtain⟨⟨cls,dd,data,sl⟩,n,ho,hc,eC,hd⟩:=id pl;obtain⟨⟨eJ,cB,data2,cI⟩,n2,cb,bf,iy,bv⟩:=id pl2;simp only at hc hd bf bv eC iy;subst hc hd bf bv eC iy;refine Kh ⟨_,ho,rfl⟩ ⟨_,cb,rfl⟩ noFill_list_add seq_list_add PySem.F.slot_list_add PySem.F.entry_list_add (PySem.F.args_list_add_2 _ _) (list_addW l b its.toArray ao.toArray n n2 none none sl cI (by rw[Ag,Ag];omega)) ⟨ho,cb,?_⟩
 rw[ea];exact⟨.ref _,_,I.lnew (t':=s.toks) (r.append r2) (by rw[Ad];omega),rfl,q _ I.fresh⟩
theorem w4E{K:A5}:z87 K (fun x y H Q=>w4J K x y H Q∨w4K K x y H Q) w7R:=by
 intro x y d e Z H u v Q zs hx hy q
 have newer:∀{p:Ap},H p=none->p∉Z:=fun hp z=>by obtain⟨o,ho⟩:=zs _ z;rw[hp]at ho;cases ho
 unfold w7R at e;split at e
 ·rename_i xs ys;split at e
  ·rename_i hl;cases e;obtain⟨a,us,rfl,h1,h2⟩:=j3.mp hx;obtain⟨b,ws,rfl,h3,h4⟩:=j3.mp hy;refine .inl ⟨a,b,us,ws,rfl,rfl,u9 x4 h1,u9 x4 h3,by rw[←h2.length,←h4.length];exact z9N hl,fun z=>?_,fun z1 z2=>?_,fun z1 z2 p hp=>?_⟩
   ·have:xs=[]:=Ec (by rw[h2.length,z];rfl)
    subst this;exact q _ H (j6.refl H) hy
   ·have:ys=[]:=Ec (by rw[h4.length,z2];rfl)
    subst this;rw[Ch]at q;exact q _ H (j6.refl H) hx
   ·have sn:=j4 (o:=HO.tup (us++ws)) hp;refine q _ _ sn (j3.mpr ⟨p,_,rfl,SqT.of ?_,(j7.append h2 h4).mono (y8 sn)⟩);rw[K7 (newer hp)];exact x9
  ·cases e
 ·rename_i xs ys;split at e
  ·rename_i hl;cases e;obtain⟨a,us,rfl,h1,h2⟩:=J5.mp hx;obtain⟨b,ws,rfl,h3,h4⟩:=J5.mp hy;refine .inr ⟨a,b,us,ws,rfl,rfl,x4.seq h1,x4.seq h3,by rw[←h2.length,←h4.length];exact z9N hl,fun p hp=>?_⟩
   have sn:=j4 (o:=HO.lst (us++ws)) hp;refine q _ _ sn (J5.mpr ⟨p,_,rfl,SqL.of ?_,(j7.append h2 h4).mono (y8 sn)⟩);rw[K7 (newer hp)];exact x9
  ·cases e
 ·cases e
variable{a b c:Expr}{fa fb fc:ED}{pos:F2}
def z2Q:D->D->Option D:=fun x y=>match w7S x y with|some d=>some d|none=>w7R x y
theorem z0T(ha:ZE X a fa)(hb:ZE X b fb):ZE X (.BinOp a .Add b pos) (d2 z2Q fa fb):=
 ⟨have ha:=ha.h;
 have hb:=hb.h;
 y3W (w5I.or (w20.or x40)) (z87.or x3G w4E) ha hb⟩
def x5U(fa fb:EL):EL:=fun ρ=>match fa ρ with|some xs=>(match fb ρ with|some ys=>if xs.length+ys.length≤LIM then some (xs++ys) else none|none=>none)|none=>none
noncomputable def W8:List D->Option (List Int)
 | []=>some []
 | .int i::r=>(W8 r).map (i::·)
 |_::_=>none
theorem W3:∀{ds:List D} {ns:List Int},W8 ds=some ns->ds=ns.map D.int
 | [],ns,e=>by cases e;rfl
 | .int i::r,ns,e=>by unfold W8 at e;obtain⟨ms,h1,rfl⟩:=Bl.mp e;rw[W3 h1];rfl
 | .non::r,ns,e=>by unfold W8 at e;cases e
 | .bl _::r,ns,e=>by unfold W8 at e;cases e
 | .str _::r,ns,e=>by unfold W8 at e;cases e
 | .tup _::r,ns,e=>by unfold W8 at e;cases e
 | .lst _::r,ns,e=>by unfold W8 at e;cases e
 | .dct _ _::r,ns,e=>by unfold W8 at e;cases e
theorem x12(ns:List Int):W8 (ns.map D.int)=some ns:=by
 induction ns with
 |nil=>rfl
 |cons n r ih=>rw[Ai,W8,ih];rfl
def w7Q:D->D->Option D:=fun x y=>match x,y with
 | .tup xs,.tup ys=>(match W8 xs,W8 ys with|some ns,some ms=>some (.bl (HT.lexLt ns ms))|_,_=>none)
 |_,_=>none
theorem w4B{K:A5}:z87 K (w86 K) w7Q:=by
 intro x y d e Z H u v Q zs hx hy q;unfold w7Q at e;split at e
 ·rename_i xs ys;split at e
  ·rename_i ns ms h1 h2;cases e;obtain⟨a,us,rfl,h3,h4⟩:=j3.mp hx;obtain⟨b,ws,rfl,h5,h6⟩:=j3.mp hy;rw[W3 h1,Q8]at h4;rw[W3 h2,Q8]at h6;subst h4 h6;exact⟨a,b,ns,ms,rfl,rfl,u9 x4 h3,u9 x4 h5,q _ H (j6.refl H) (J8.mpr rfl)⟩
  ·cases e
 ·cases e
def dLt:D->D->Option D:=fun x y=>match x1E x y with|some d=>some d|none=>w7Q x y
noncomputable def x5E:V->Bool
 | .non=>true
 | .bl _=>true
 |_=>false
theorem w5G:OpR X (Cs .Is) (fun x y H Q=>x5E y=true/\Q (.bl (decide (x=y))) H):=by
 intro aa s σ H x y v u Q I rx ry h;obtain⟨hf,q⟩:=h
 have go:plainIs v u=true/\(v==u)=decide (x=y):=by
  cases y with
  |non=>cases ry;cases x<;>first|(cases rx;exact⟨rfl,rfl⟩)|(obtain⟨t,rfl⟩:=rx;exact⟨rfl,rfl⟩)
  |bl k=>
   cases ry
   cases x with
   |bl k'=>cases rx;refine⟨rfl,?_⟩;cases k<;>cases k'<;>rfl
   |non=>cases rx;exact⟨rfl,rfl⟩
   |ref _=>cases rx;exact⟨rfl,rfl⟩
   |ty _=>cases rx;exact⟨rfl,rfl⟩
   |int _=>obtain⟨t,rfl⟩:=rx;exact⟨rfl,rfl⟩
   |str _=>obtain⟨t,rfl⟩:=rx;exact⟨rfl,rfl⟩
   |byt _=>obtain⟨t,rfl⟩:=rx;exact⟨rfl,rfl⟩
   |flt _=>obtain⟨t,rfl⟩:=rx;exact⟨rfl,rfl⟩
  |_=>cases hf
 exact wpAny_is_plain go.1 ⟨.bl _,H,I,by rw[go.2];rfl,q⟩
theorem x3Z:OpR X (Cs .IsNot) (fun x y H Q=>x5E y=true/\Q (.bl (!decide (x=y))) H):=by
 intro aa s σ H x y v u Q I rx ry h;obtain⟨hf,q⟩:=h
 have go:plainIs v u=true/\(v==u)=decide (x=y):=by
  cases y with
  |non=>cases ry;cases x<;>first|(cases rx;exact⟨rfl,rfl⟩)|(obtain⟨t,rfl⟩:=rx;exact⟨rfl,rfl⟩)
  |bl k=>
   cases ry
   cases x with
   |bl k'=>cases rx;refine⟨rfl,?_⟩;cases k<;>cases k'<;>rfl
   |non=>cases rx;exact⟨rfl,rfl⟩
   |ref _=>cases rx;exact⟨rfl,rfl⟩
   |ty _=>cases rx;exact⟨rfl,rfl⟩
   |int _=>obtain⟨t,rfl⟩:=rx;exact⟨rfl,rfl⟩
   |str _=>obtain⟨t,rfl⟩:=rx;exact⟨rfl,rfl⟩
   |byt _=>obtain⟨t,rfl⟩:=rx;exact⟨rfl,rfl⟩
   |flt _=>obtain⟨t,rfl⟩:=rx;exact⟨rfl,rfl⟩
  |_=>cases hf
 exact wpAny_isNot_plain go.1 ⟨.bl _,H,I,by rw[go.2];rfl,q⟩
noncomputable def isD:D->D->Option Bool:=fun x y=>match y with
 | .non=>(match x with|.non=>some true|_=>some false)
 | .bl b=>(match x with|.bl b'=>some (b'==b)|_=>some false)
 |_=>none
def dIs:D->D->Option D:=fun x y=>(isD x y).map D.bl
def x8N:D->D->Option D:=fun x y=>(isD x y).map fun b=>D.bl (!b)
theorem w06{K:A5}{H:Hp}{x y:D}{u v:V}{b:Bool}(e:isD x y=some b)(hx:Rep K H x u)(hy:Rep K H y v):x5E v=true/\decide (u=v)=b:=by
 have ref:∀{x:D} {u:V},Rep K H x u->(match x with|.tup _=>∃a,u = .ref a|.lst _=>∃a,u = .ref a|.dct _ _=>∃a,u = .ref a|_=>True):=fun {x u} h=>by
  cases x with
  |tup _=>obtain⟨a,_,e,_⟩:=j3.mp h;exact⟨a,e⟩
  |lst _=>obtain⟨a,_,e,_⟩:=J5.mp h;exact⟨a,e⟩
  |dct _ _=>obtain⟨a,_,e,_⟩:=Z8.mp h;exact⟨a,e⟩
  |_=>trivial
 unfold isD at e
 cases y with
 |non=>
  obtain rfl:=Z0.mp hy
  refine⟨rfl,?_⟩
  cases x with
  |non=>obtain rfl:=Z0.mp hx;cases e;rfl
  |bl _=>obtain rfl:=J8.mp hx;cases e;rfl
  |int _=>obtain rfl:=w6.mp hx;cases e;rfl
  |str _=>obtain rfl:=W9.mp hx;cases e;rfl
  |tup _=>obtain⟨a,rfl⟩:=ref hx;cases e;rfl
  |lst _=>obtain⟨a,rfl⟩:=ref hx;cases e;rfl
  |dct _ _=>obtain⟨a,rfl⟩:=ref hx;cases e;rfl
 |bl k=>
  obtain rfl:=J8.mp hy
  refine⟨rfl,?_⟩
  cases x with
  |non=>obtain rfl:=Z0.mp hx;cases e;rfl
  |bl k'=>obtain rfl:=J8.mp hx;cases e;cases k<;>cases k'<;>rfl
  |int _=>obtain rfl:=w6.mp hx;cases e;rfl
  |str _=>obtain rfl:=W9.mp hx;cases e;rfl
  |tup _=>obtain⟨a,rfl⟩:=ref hx;cases e;rfl
  |lst _=>obtain⟨a,rfl⟩:=ref hx;cases e;rfl
  |dct _ _=>obtain⟨a,rfl⟩:=ref hx;cases e;rfl
 |_=>cases e
theorem w6X{K:A5}:z87 K (fun x y H Q=>x5E y=true/\Q (.bl (decide (x=y))) H) dIs:=by intro x y d e Z H u v Q zs hx hy q;unfold dIs at e;obtain⟨b,hb,rfl⟩:=Bl.mp e;obtain⟨h1,h2⟩:=w06 hb hx hy;refine⟨h1,?_⟩;rw[h2];exact q _ H (j6.refl H) (J8.mpr rfl)
theorem w4C{K:A5}:z87 K (fun x y H Q=>x5E y=true/\Q (.bl (!decide (x=y))) H) x8N:=by intro x y d e Z H u v Q zs hx hy q;unfold x8N at e;obtain⟨b,hb,rfl⟩:=Bl.mp e;obtain⟨h1,h2⟩:=w06 hb hx hy;refine⟨h1,?_⟩;rw[h2];exact q _ H (j6.refl H) (J8.mpr rfl)
theorem w3P(ha:ZE X a fa)(hb:ZE X b fb):ZT X (.Compare a [.Is] [b] pos) (y9 (d2 dIs fa fb)):=
 ⟨have ha:=ha.h;
 have hb:=hb.h;
 y14 w5G w6X ha hb (z6M _)⟩
theorem y5Q(ha:ZE X a fa)(hb:ZE X b fb):ZT X (.Compare a [.IsNot] [b] pos) (y9 (d2 x8N fa fb)):=
 ⟨have ha:=ha.h;
 have hb:=hb.h;
 y14 x3Z w4C ha hb (z6M _)⟩
end
end L3
namespace L3
open PySem PySem.Spec PyProof.Rows L2 PySem.SeqAt
mutual
noncomputable def beq:D->D->Bool
 | .non,e=>(match e with|.non=>true|_=>false)
 | .bl a,e=>(match e with|.bl b=>a==b|.int j=>(if a then (1:Int) else 0)==j|_=>false)
 | .int i,e=>(match e with|.int j=>i==j|.bl b=>i==(if b then (1:Int) else 0)|_=>false)
 | .str x,e=>(match e with|.str y=>x==y|_=>false)
 | .tup xs,e=>(match e with|.tup ys=>x1Q xs ys|_=>false)
 | .lst xs,e=>(match e with|.lst ys=>x1Q xs ys|_=>false)
 | .dct ks xs,e=>(match e with|.dct js ys=>decide (ks=js)&&x1Q xs ys|_=>false)
noncomputable def x1Q:List D->List D->Bool
 | [],e=>(match e with|[]=>true|_=>false)
 |x::xs,e=>(match e with|y::ys=>beq x y&&x1Q xs ys|[]=>false)
end
mutual
noncomputable def depth:D->Nat
 | .tup xs=>z00 xs+1
 | .lst xs=>z00 xs+1
 | .dct _ xs=>z00 xs+1000
 |_=>0
noncomputable def z00:List D->Nat
 | []=>0
 |x::xs=>Lu (depth x) (z00 xs)
end
theorem z3A:∀{ds:List D} {i:Nat} {d:D},ds[i]?=some d->depth d≤z00 ds
 | [],_,_,e=>by simp at e
 |x::xs,0,d,e=>by simp at e;subst e;rw[z00];omega
 |x::xs,i+1,d,e=>by
  have:=z3A (ds:=xs) (i:=i) (d:=d) (by simpa using e)
  rw[z00];omega
mutual
theorem z8Y:∀d:D,beq d d=true
 | .non=>by rw[beq]
 | .bl b=>by rw[beq];exact beq_self_eq_true b
 | .int i=>by rw[beq];exact beq_self_eq_true i
 | .str x=>by rw[beq];exact beq_self_eq_true x
 | .tup xs=>by rw[beq];exact z6V xs
 | .lst xs=>by rw[beq];exact z6V xs
 | .dct ks xs=>by rw[beq,z6V xs];simp
theorem z6V:∀ds:List D,x1Q ds ds=true
 | []=>by rw[x1Q]
 |d::ds=>by rw[x1Q,z8Y d,z6V ds];rfl
end
theorem z5D:∀(xs ys:List D),x1Q xs ys=((A9 (Ip xs.length ys.length)).all (fun j=>beq (xs.getD j .non) (ys.getD j .non))&&xs.length==ys.length)
 | [],[]=>by rw[x1Q];rfl
 | [],y::ys=>by simp[x1Q]
 |x::xs,[]=>by simp[x1Q]
 |x::xs,y::ys=>by
  rw[x1Q,z5D xs ys]
  have e:Ip (x::xs).length (y::ys).length=Ip xs.length ys.length+1:=by simp only[Ay];omega
  rw[e,Fv,List.all_cons,Kj]
  have e2:((x::xs).length==(y::ys).length)=(xs.length==ys.length):=by simp
  rw[e2,Bool.and_assoc];rfl
section
variable{X:Cx}{aa:Pns}{σ:St}{H:Hp}{s:Ah}
theorem y6E{K:A5}{d:D}{a:Ap}(h:Rep K H d (.ref a)):(∃ds,d = .tup ds)∨(∃ds,d = .lst ds)∨∃ks ds,d = .dct ks ds:=by
 cases d with
 |non=>cases Z0.mp h
 |bl _=>cases J8.mp h
 |int _=>cases w6.mp h
 |str _=>cases W9.mp h
 |tup ds=>exact .inl ⟨ds,rfl⟩
 |lst ds=>exact .inr (.inl ⟨ds,rfl⟩)
 |dct ks ds=>exact .inr (.inr ⟨ks,ds,rfl⟩)
theorem y71(I:Inv X aa σ H s){a:Ap}{kvs:List (Key×V)}(h:H a=some (.dK kvs)):∃o,s.heap.get? a=some o/\o.cls = .type "dict":=by obtain⟨_,_,vs,_,p⟩:=(show z1D X.prog X.w H s.heap a (.dK kvs) from I.hok a _ h);obtain⟨o,es,ep,h1,h2,_⟩:=p;exact⟨o,h1,h2.1⟩
theorem w5J(I:Inv X aa σ H s){a:Ap}{kvs:List (Key×V)}{xs:List V}(h:H a=some (.dK kvs))(h':SqT X.K H a xs):False:=by obtain⟨o,e,c⟩:=y71 I h;obtain⟨its,_,p,_⟩:=I.tuple h';obtain⟨o',h1,h2,_⟩:=p;rw[e]at h1;cases h1;rw[c]at h2;revert h2;simp
theorem w5K(I:Inv X aa σ H s){a:Ap}{kvs:List (Key×V)}{xs:List V}(h:H a=some (.dK kvs))(h':SqL X.K H a xs):False:=by obtain⟨o,e,c⟩:=y71 I h;obtain⟨its,_,p,_⟩:=I.list h';obtain⟨o',n,h1,h2,_⟩:=p;rw[e]at h1;cases h1;rw[c]at h2;revert h2;simp
theorem x43(I:Inv X aa σ H s){a:Ap}{xs ys:List V}(h:SqT X.K H a xs)(h':SqL X.K H a ys):False:=by obtain⟨its,_,p,_⟩:=I.tuple h;obtain⟨ao,_,q,_⟩:=I.list h';exact ne_of_list_tuple q.isList p rfl
mutual
theorem y2A(I:Inv X aa σ H s):∀{d e:D} {v:V},Rep X.K H d v->Rep X.K H e v->d=e
 | .non,e,v,h,h'=>by
  obtain rfl:=Z0.mp h
  cases e with
  |non=>rfl
  |bl _=>cases J8.mp h'
  |int _=>cases w6.mp h'
  |str _=>cases W9.mp h'
  |tup _=>obtain⟨_,_,z,_⟩:=j3.mp h';cases z
  |lst _=>obtain⟨_,_,z,_⟩:=J5.mp h';cases z
  |dct _ _=>obtain⟨_,_,z,_⟩:=Z8.mp h';cases z
 | .bl b,e,v,h,h'=>by
  obtain rfl:=J8.mp h
  cases e with
  |non=>cases Z0.mp h'
  |bl _=>cases J8.mp h';rfl
  |int _=>cases w6.mp h'
  |str _=>cases W9.mp h'
  |tup _=>obtain⟨_,_,z,_⟩:=j3.mp h';cases z
  |lst _=>obtain⟨_,_,z,_⟩:=J5.mp h';cases z
  |dct _ _=>obtain⟨_,_,z,_⟩:=Z8.mp h';cases z
 | .int b,e,v,h,h'=>by
  obtain rfl:=w6.mp h
  cases e with
  |non=>cases Z0.mp h'
  |bl _=>cases J8.mp h'
  |int _=>cases w6.mp h';rfl
  |str _=>cases W9.mp h'
  |tup _=>obtain⟨_,_,z,_⟩:=j3.mp h';cases z
  |lst _=>obtain⟨_,_,z,_⟩:=J5.mp h';cases z
  |dct _ _=>obtain⟨_,_,z,_⟩:=Z8.mp h';cases z
 | .str b,e,v,h,h'=>by
  obtain rfl:=W9.mp h
  cases e with
  |non=>cases Z0.mp h'
  |bl _=>cases J8.mp h'
  |int _=>cases w6.mp h'
  |str _=>cases W9.mp h';rfl
  |tup _=>obtain⟨_,_,z,_⟩:=j3.mp h';cases z
  |lst _=>obtain⟨_,_,z,_⟩:=J5.mp h';cases z
  |dct _ _=>obtain⟨_,_,z,_⟩:=Z8.mp h';cases z
 | .tup ds,e,v,h,h'=>by
  obtain⟨a,xs,rfl,h1,h2⟩:=j3.mp h;rcases y6E h' with⟨es,rfl⟩|⟨es,rfl⟩|⟨ks,es,rfl⟩
  ·obtain⟨b,ys,z,h3,h4⟩:=j3.mp h';cases z
   have:=I.tuple_inj h1 h3
   subst this;rw[z8T I h2 h4]
  ·obtain⟨b,ys,z,h3,h4⟩:=J5.mp h';cases z;exact(x43 I h1 h3).elim
  ·obtain⟨b,ys,z,h3,h4⟩:=Z8.mp h';cases z;exact(w5J I h3 h1).elim
 | .lst ds,e,v,h,h'=>by
  obtain⟨a,xs,rfl,h1,h2⟩:=J5.mp h;rcases y6E h' with⟨es,rfl⟩|⟨es,rfl⟩|⟨ks,es,rfl⟩
  ·obtain⟨b,ys,z,h3,h4⟩:=j3.mp h';cases z;exact(x43 I h3 h1).elim
  ·obtain⟨b,ys,z,h3,h4⟩:=J5.mp h';cases z
   have:=I.list_inj h1 h3
   subst this;rw[z8T I h2 h4]
  ·obtain⟨b,ys,z,h3,h4⟩:=Z8.mp h';cases z;exact(w5K I h3 h1).elim
 | .dct ks ds,e,v,h,h'=>by
  obtain⟨a,kvs,rfl,h1,h2,cO⟩:=Z8.mp h;rcases y6E h' with⟨es,rfl⟩|⟨es,rfl⟩|⟨js,es,rfl⟩
  ·obtain⟨b,ys,z,h3,h4⟩:=j3.mp h';cases z;exact(w5J I h1 h3).elim
  ·obtain⟨b,ys,z,h3,h4⟩:=J5.mp h';cases z;exact(w5K I h1 h3).elim
  ·obtain⟨b,ys,z,h3,h4,h5⟩:=Z8.mp h';cases z;rw[h1]at h3;cases h3;rw[←h2,←h4,z8T I cO h5]
theorem z8T(I:Inv X aa σ H s):∀{ds es:List D} {xs:List V},j7 X.K H ds xs->j7 X.K H es xs->ds=es
 | [],es,xs,h,h'=>by
  obtain rfl:=J6.mp h
  cases es with
  |nil=>rfl
  |cons e es=>obtain⟨_,_,z,_⟩:=j0.mp h';cases z
 |d::ds,es,xs,h,h'=>by
  obtain⟨v,vs,rfl,h1,h2⟩:=j0.mp h
  cases es with
  |nil=>cases J6.mp h'
  |cons e es=>obtain⟨v',jk,z,h3,h4⟩:=j0.mp h';cases z;rw[y2A I h1 h3,z8T I h2 h4]
end
theorem K4{α:Type}{xs:List α}{j:Nat}{d x:α}(h:xs[j]?=some x):xs.getD j d=x:=by rw[Bh,h];rfl
theorem x5L(I:Inv X aa σ H s){A:By}(h0:A.units<Cy){d e:D}{x y:V}{u v:A8}(hd:depth d=0)(he:depth e<1000)(hx:Rep X.K H d x)(hy:Rep X.K H e y)(rx:z01 x u)(ry:z01 y v):
  Fj A s u v (beq d e)/\Fo A s u v (beq d e)/\Cz A s u v (!beq d e):=by
 cases d with
 |tup xs=>rw[depth]at hd;omega
 |lst xs=>rw[depth]at hd;omega
 |dct _ xs=>rw[depth]at hd;omega
 |non=>
  obtain rfl:=Z0.mp hx
  cases rx
  cases e with
  |non=>obtain rfl:=Z0.mp hy;cases ry;exact⟨Mq _,Fo.none_none,Cz.none_none⟩
  |bl b=>obtain rfl:=J8.mp hy;cases ry;exact⟨Fj.none_bool b,Fo.none_bool b,Cz.none_bool b⟩
  |int j=>obtain rfl:=w6.mp hy;obtain⟨t,rfl⟩:=ry;exact⟨Fj.none_int j t,Fo.none_int j t,Cz.none_int j t⟩
  |str z=>obtain rfl:=W9.mp hy;obtain⟨t,rfl⟩:=ry;exact⟨Fj.none_str z t,Fo.none_str z t,Cz.none_str z t⟩
  |tup ys=>obtain⟨b,zs,rfl,h1,_⟩:=j3.mp hy;cases ry;obtain⟨its,_,p,_⟩:=I.tuple h1;exact⟨Fj.none_tuple p h0,Fo.none_tuple p h0,Cz.none_tuple p h0⟩
  |lst ys=>obtain⟨b,zs,rfl,h1,_⟩:=J5.mp hy;cases ry;obtain⟨its,_,p,_⟩:=I.list h1;exact⟨Fj.none_list p.isList h0,Fo.none_list p.isList h0,Cz.none_list p.isList h0⟩
  |dct _ ys=>rw[depth]at he;omega
 |bl a=>
  obtain rfl:=J8.mp hx
  cases rx
  cases e with
  |non=>obtain rfl:=Z0.mp hy;cases ry;exact⟨Fj.bool_none a,Fo.bool_none a,Cz.bool_none a⟩
  |bl b=>obtain rfl:=J8.mp hy;cases ry;exact⟨Fj.bool_bool a b,Fo.bool_bool a b,Cz.bool_bool a b⟩
  |int j=>obtain rfl:=w6.mp hy;obtain⟨t,rfl⟩:=ry;exact⟨Fj.bool_int a j t,Fo.bool_int a j t,Cz.bool_int a j t⟩
  |str z=>obtain rfl:=W9.mp hy;obtain⟨t,rfl⟩:=ry;exact⟨Fj.bool_str a z t,Fo.bool_str a z t,Cz.bool_str a z t⟩
  |tup ys=>obtain⟨b,zs,rfl,h1,_⟩:=j3.mp hy;cases ry;obtain⟨its,_,p,_⟩:=I.tuple h1;exact⟨Fj.bool_tuple a p h0,Fo.bool_tuple a p h0,Cz.bool_tuple a p h0⟩
  |lst ys=>obtain⟨b,zs,rfl,h1,_⟩:=J5.mp hy;cases ry;obtain⟨its,_,p,_⟩:=I.list h1;exact⟨Fj.bool_list a p.isList h0,Fo.bool_list a p.isList h0,Cz.bool_list a p.isList h0⟩
  |dct _ ys=>rw[depth]at he;omega
 |int i=>
  obtain rfl:=w6.mp hx
  obtain⟨t0,rfl⟩:=rx
  cases e with
  |non=>obtain rfl:=Z0.mp hy;cases ry;exact⟨Fj.int_none i t0,Fo.int_none i t0,Cz.int_none i t0⟩
  |bl b=>obtain rfl:=J8.mp hy;cases ry;exact⟨Fj.int_bool i t0 b,Fo.int_bool i t0 b,Cz.int_bool i t0 b⟩
  |int j=>obtain rfl:=w6.mp hy;obtain⟨t,rfl⟩:=ry;exact⟨Fj.int_int i t0 j t,Fo.int_int i t0 j t,Cz.int_int i t0 j t⟩
  |str z=>obtain rfl:=W9.mp hy;obtain⟨t,rfl⟩:=ry;exact⟨Fj.int_str i t0 z t,Fo.int_str i t0 z t,Cz.int_str i t0 z t⟩
  |tup ys=>obtain⟨b,zs,rfl,h1,_⟩:=j3.mp hy;cases ry;obtain⟨its,_,p,_⟩:=I.tuple h1;exact⟨Fj.int_tuple i t0 p h0,Fo.int_tuple i t0 p h0,Cz.int_tuple i t0 p h0⟩
  |lst ys=>obtain⟨b,zs,rfl,h1,_⟩:=J5.mp hy;cases ry;obtain⟨its,_,p,_⟩:=I.list h1;exact⟨Fj.int_list i t0 p.isList h0,Fo.int_list i t0 p.isList h0,Cz.int_list i t0 p.isList h0⟩
  |dct _ ys=>rw[depth]at he;omega
 |str w'=>
  obtain rfl:=W9.mp hx
  obtain⟨t0,rfl⟩:=rx
  cases e with
  |non=>obtain rfl:=Z0.mp hy;cases ry;exact⟨Fj.str_none w' t0,Fo.str_none w' t0,Cz.str_none w' t0⟩
  |bl b=>obtain rfl:=J8.mp hy;cases ry;exact⟨Fj.str_bool w' t0 b,Fo.str_bool w' t0 b,Cz.str_bool w' t0 b⟩
  |int j=>obtain rfl:=w6.mp hy;obtain⟨t,rfl⟩:=ry;exact⟨Fj.str_int w' t0 j t,Fo.str_int w' t0 j t,Cz.str_int w' t0 j t⟩
  |str z=>obtain rfl:=W9.mp hy;obtain⟨t,rfl⟩:=ry;exact⟨Fj.str_str w' t0 z t,Fo.str_str w' t0 z t,Cz.str_str w' t0 z t⟩
  |tup ys=>obtain⟨b,zs,rfl,h1,_⟩:=j3.mp hy;cases ry;obtain⟨its,_,p,_⟩:=I.tuple h1;exact⟨Fj.str_tuple w' t0 p h0,Fo.str_tuple w' t0 p h0,Cz.str_tuple w' t0 p h0⟩
  |lst ys=>obtain⟨b,zs,rfl,h1,_⟩:=J5.mp hy;cases ry;obtain⟨its,_,p,_⟩:=I.list h1;exact⟨Fj.str_list w' t0 p.isList h0,Fo.str_list w' t0 p.isList h0,Cz.str_list w' t0 p.isList h0⟩
  |dct _ ys=>rw[depth]at he;omega
theorem y6W(I:Inv X aa σ H s):∀(n:Nat) (A:By),A.units+n<Cy->n<1000->∀{d e:D} {x y:V} {u v:A8},depth d≤n->depth e<1000->Rep X.K H d x->Rep X.K H e y->z01 x u->z01 y v ->
  Fj A s u v (beq d e)/\Fo A s u v (beq d e)/\Cz A s u v (!beq d e):=by
 intro n
 induction n with
 |zero=>intro A hu hn d e x y u v hd he hx hy rx ry;exact x5L I (by omega) (by omega) he hx hy rx ry
 |succ n ih=>
  intro A hu hn d e x y u v hd he hx hy rx ry
  have h0:A.units<Cy:=by omega
  have iR:A.in1.units+n<Cy:=by show A.units+1+n<Cy;omega
  by_cases eB:depth d=0
  ·exact x5L I h0 eB he hx hy rx ry
  ·cases d with
   |non=>exact absurd (by simp[depth]) eB
   |bl _=>exact absurd (by simp[depth]) eB
   |int _=>exact absurd (by simp[depth]) eB
   |str _=>exact absurd (by simp[depth]) eB
   |dct _ xs=>rw[depth]at hd;omega
   |tup xs=>
    obtain⟨a,us,rfl,h1,h2⟩:=j3.mp hx;cases rx;obtain⟨its,rv,p,_⟩:=I.tuple h1;rw[depth]at hd
    cases e with
    |dct _ ys=>rw[depth]at he;omega
    |non=>obtain rfl:=Z0.mp hy;cases ry;exact⟨Fj.tuple_none p h0,Fo.tuple_none p h0,Cz.tuple_none p h0⟩
    |bl b=>obtain rfl:=J8.mp hy;cases ry;exact⟨Fj.tuple_bool b p h0,Fo.tuple_bool b p h0,Cz.tuple_bool b p h0⟩
    |int j=>obtain rfl:=w6.mp hy;obtain⟨t,rfl⟩:=ry;exact⟨Fj.tuple_int j t p h0,Fo.tuple_int j t p h0,Cz.tuple_int j t p h0⟩
    |str z=>obtain rfl:=W9.mp hy;obtain⟨t,rfl⟩:=ry;exact⟨Fj.tuple_str z t p h0,Fo.tuple_str z t p h0,Cz.tuple_str z t p h0⟩
    |lst ys=>obtain⟨b,zs,rfl,g1,_⟩:=J5.mp hy;cases ry;obtain⟨ao,_,p2,_⟩:=I.list g1;exact⟨Fj.tuple_list p p2.isList h0,Fo.tuple_list p p2.isList h0,Cz.tuple_list p p2.isList h0⟩
    |tup ys=>
     obtain⟨b,zs,rfl,g1,g2⟩:=j3.mp hy;cases ry;obtain⟨ao,iJ,p2,_⟩:=I.tuple g1
     have l1:its.toArray.size=xs.length:=by rw[Ag,←rv.length,←h2.length]
     have l2:ao.toArray.size=ys.length:=by rw[Ag,←iJ.length,←g2.length]
     have items:∀j (k1:j<its.toArray.size) (k2:j<ao.toArray.size),Fj A.in1 s its.toArray[j] ao.toArray[j] (beq (xs.getD j .non) (ys.getD j .non)):=fun j k1 k2=>by
      have fX:j<xs.length:=by omega
      have fQ:j<ys.length:=by omega
      obtain⟨vj,e1,r1⟩:=h2.get (A3 fX);obtain⟨wj,e2,r2⟩:=g2.get (A3 fQ);obtain⟨uj,f1,s1⟩:=rv.get e1;obtain⟨tj,f2,s2⟩:=iJ.get e2
      have z1:its.toArray[j]=uj:=by
       rw[A3 (by rw[Ag]at k1;exact k1)]at f1
       simpa using f1
      have z2:ao.toArray[j]=tj:=by
       rw[A3 (by rw[Ag]at k2;exact k2)]at f2
       simpa using f2
      rw[z1,z2,K4 (A3 fX),K4 (A3 fQ)];have dd:=z3A (A3 fX);have de:=z3A (A3 fQ);rw[depth]at he;exact(ih A.in1 iR (by omega) (by omega) (by omega) r1 r2 s1 s2).1
     have eb:beq (.tup xs) (.tup ys)=((A9 (Ip its.toArray.size ao.toArray.size)).all (fun j=>beq (xs.getD j .non) (ys.getD j .non))&&its.toArray.size==ao.toArray.size):=by rw[beq,z5D,l1,l2]
     have rc:Fo A s (.ref a) (.ref b) (beq (.tup xs) (.tup ys)):=by rw[eb];exact Fo.tuples p p2 h0 items
     have rn:Cz A s (.ref a) (.ref b) (!beq (.tup xs) (.tup ys)):=by rw[eb];exact Cz.tuples p p2 h0 items
     refine⟨?_,rc,rn⟩;by_cases cN:a=b
     ·subst cN;rw[y2A I hx hy,z8Y];exact Mq _
     ·exact Fj.of_refs cN rc
   |lst xs=>
    obtain⟨a,us,rfl,h1,h2⟩:=J5.mp hx;cases rx;obtain⟨its,rv,p,_⟩:=I.list h1;rw[depth]at hd
    cases e with
    |dct _ ys=>rw[depth]at he;omega
    |non=>obtain rfl:=Z0.mp hy;cases ry;exact⟨Fj.list_none p.isList h0,Fo.list_none p.isList h0,Cz.list_none p.isList h0⟩
    |bl b=>obtain rfl:=J8.mp hy;cases ry;exact⟨Fj.list_bool b p.isList h0,Fo.list_bool b p.isList h0,Cz.list_bool b p.isList h0⟩
    |int j=>obtain rfl:=w6.mp hy;obtain⟨t,rfl⟩:=ry;exact⟨Fj.list_int j t p.isList h0,Fo.list_int j t p.isList h0,Cz.list_int j t p.isList h0⟩
    |str z=>obtain rfl:=W9.mp hy;obtain⟨t,rfl⟩:=ry;exact⟨Fj.list_str z t p.isList h0,Fo.list_str z t p.isList h0,Cz.list_str z t p.isList h0⟩
    |tup ys=>obtain⟨b,zs,rfl,g1,_⟩:=j3.mp hy;cases ry;obtain⟨ao,_,p2,_⟩:=I.tuple g1;exact⟨Fj.list_tuple p.isList p2 h0,Fo.list_tuple p.isList p2 h0,Cz.list_tuple p.isList p2 h0⟩
    |lst ys=>
     obtain⟨b,zs,rfl,g1,g2⟩:=J5.mp hy;cases ry;obtain⟨ao,iJ,p2,_⟩:=I.list g1
     have l1:its.toArray.size=xs.length:=by rw[Ag,←rv.length,←h2.length]
     have l2:ao.toArray.size=ys.length:=by rw[Ag,←iJ.length,←g2.length]
     have items:∀j (k1:j<its.toArray.size) (k2:j<ao.toArray.size),Fj A.in1 s its.toArray[j] ao.toArray[j] (beq (xs.getD j .non) (ys.getD j .non)):=fun j k1 k2=>by
      have fX:j<xs.length:=by omega
      have fQ:j<ys.length:=by omega
      obtain⟨vj,e1,r1⟩:=h2.get (A3 fX);obtain⟨wj,e2,r2⟩:=g2.get (A3 fQ);obtain⟨uj,f1,s1⟩:=rv.get e1;obtain⟨tj,f2,s2⟩:=iJ.get e2
      have z1:its.toArray[j]=uj:=by
       rw[A3 (by rw[Ag]at k1;exact k1)]at f1
       simpa using f1
      have z2:ao.toArray[j]=tj:=by
       rw[A3 (by rw[Ag]at k2;exact k2)]at f2
       simpa using f2
      rw[z1,z2,K4 (A3 fX),K4 (A3 fQ)];have dd:=z3A (A3 fX);have de:=z3A (A3 fQ);rw[depth]at he;exact(ih A.in1 iR (by omega) (by omega) (by omega) r1 r2 s1 s2).1
     have gc:Fo A s (.ref a) (.ref b) (beq (.lst xs) (.lst ys))/\Cz A s (.ref a) (.ref b) (!beq (.lst xs) (.lst ys)):=by
      by_cases hl:its.toArray.size=ao.toArray.size
      ·have eb:beq (.lst xs) (.lst ys)=((A9 its.toArray.size).all (fun j=>beq (xs.getD j .non) (ys.getD j .non))):=by
        rw[beq,z5D]
        have:xs.length=ys.length:=by omega
        rw[l1,this,Nat.min_self];simp
       rw[eb];exact⟨Fo.lists p.isList p2.isList hl h0 items,Cz.lists p.isList p2.isList hl h0 items⟩
      ·have eb:beq (.lst xs) (.lst ys)=false:=by
        rw[beq,z5D]
        have:(xs.length==ys.length)=false:=by simp;omega
        rw[this,Hu]
       rw[eb];exact⟨Fo.lists_lengths p.isList p2.isList (by simpa using hl) h0,Cz.lists_lengths p.isList p2.isList (by simpa using hl) h0⟩
     refine⟨?_,gc⟩;by_cases cN:a=b
     ·subst cN;rw[y2A I hx hy,z8Y];exact Mq _
     ·exact Fj.of_refs cN gc.1
end
noncomputable def z22:Nat:=60
def w8A(K:A5):R2:=fun x y H Q=>∃d e,depth d≤z22/\depth e≤z22/\Rep K H d x/\Rep K H e y/\Q (.bl (beq d e)) H
def w85(K:A5):R2:=fun x y H Q=>∃d e,depth d≤z22/\depth e≤z22/\Rep K H d x/\Rep K H e y/\Q (.bl (!beq d e)) H
def dEq:D->D->Option D:=fun x y=>if depth x≤z22/\depth y≤z22 then some (.bl (beq x y)) else none
def dNe:D->D->Option D:=fun x y=>if depth x≤z22/\depth y≤z22 then some (.bl (!beq x y)) else none
section
variable{X:Cx}{a b c:Expr}{fa fb fc:ED}{pos:F2}
theorem x9R(hu:X.A.units+64<Cy):OpR X (Cs .Eq) (w8A X.K):=by
 intro aa s σ H x y v u Q I rx ry h;obtain⟨d,e,hd,he,hx,hy,q⟩:=h;have fJ:depth e<1000:=Jf he (by unfold z22;decide)
 exact(y6W I z22 X.A (by unfold z22;omega) (by unfold z22;decide) hd fJ hx hy rx ry).2.1 X.prog X.w X.xe _ ⟨.bl _,H,I,rfl,q⟩
theorem x9Q(hu:X.A.units+64<Cy):OpR X (Cs .NotEq) (w85 X.K):=by
 intro aa s σ H x y v u Q I rx ry h;obtain⟨d,e,hd,he,hx,hy,q⟩:=h;have fJ:depth e<1000:=Jf he (by unfold z22;decide)
 exact(y6W I z22 X.A (by unfold z22;omega) (by unfold z22;decide) hd fJ hx hy rx ry).2.2 X.prog X.w X.xe _ ⟨.bl _,H,I,rfl,q⟩
theorem x9G{K:A5}:z87 K (w8A K) dEq:=by
 intro x y d e Z H u v Q zs hx hy q;unfold dEq at e;split at e
 ·rename_i h;cases e;exact⟨x,y,h.1,h.2,hx.mono x4,hy.mono x4,q _ H (j6.refl H) (J8.mpr rfl)⟩
 ·cases e
theorem x9D{K:A5}:z87 K (w85 K) dNe:=by
 intro x y d e Z H u v Q zs hx hy q;unfold dNe at e;split at e
 ·rename_i h;cases e;exact⟨x,y,h.1,h.2,hx.mono x4,hy.mono x4,q _ H (j6.refl H) (J8.mpr rfl)⟩
 ·cases e
theorem y84(hu:X.A.units+64<Cy)(ha:ZE X a fa)(hb:ZE X b fb):ZE X (.Compare a [.Eq] [b] pos) (d2 dEq fa fb):=
 ⟨have ha:=ha.h;
 have hb:=hb.h;
 x33 (x9R hu) x9G ha hb (z6M _)⟩
theorem w3Q(hu:X.A.units+64<Cy)(ha:ZE X a fa)(hb:ZE X b fb):ZE X (.Compare a [.NotEq] [b] pos) (d2 dNe fa fb):=
 ⟨have ha:=ha.h;
 have hb:=hb.h;
 x33 (x9Q hu) x9D ha hb (z6M _)⟩
theorem z69(hu:X.A.units+64<Cy)(ha:ZE X a fa)(hb:ZE X b fb):ZT X (.Compare a [.Eq] [b] pos) (y9 (d2 dEq fa fb)):=
 ⟨have ha:=ha.h;
 have hb:=hb.h;
 y14 (x9R hu) x9G ha hb (z6M _)⟩
theorem y10(hu:X.A.units+64<Cy)(ha:ZE X a fa)(hb:ZE X b fb):ZT X (.Compare a [.NotEq] [b] pos) (y9 (d2 dNe fa fb)):=
 ⟨have ha:=ha.h;
 have hb:=hb.h;
 y14 (x9Q hu) x9D ha hb (z6M _)⟩
def inD(x:D)(ds:List D):Bool:=ds.any fun y=>beq y x
def w6Z(K:A5)(neg:Bool):R2:=fun x y H Q=>∃d ds p xs,z00 ds≤z22/\depth d≤z22/\Rep K H d x/\y = .ref p/\(SqL K H p xs∨SqT K H p xs)/\j7 K H ds xs/\Q (.bl (if neg then !inD d ds else inD d ds)) H
open Classical in
noncomputable def inE (ds:List D) (its:List A8) (x:D) (u:A8):Bool:=if ∃(j:Nat) (d:D),its[j]?=some u/\ds[j]?=some d/\beq d x=true then true else false
theorem y9C{aa:Pns}{σ:St}{H:Hp}{s:Ah}(I:Inv X aa σ H s){ds:List D}{xs:List V}{its:List A8}{x d:D}{u:A8}{j:Nat}(hr:j7 X.K H ds xs)(rv:Y3 xs its)(h1:its[j]?=some u)(h2:ds[j]?=some d):inE ds its x u=beq d x:=by
 unfold inE
 have uniq:∀(i:Nat) (e:D),its[i]?=some u->ds[i]?=some e->e=d:=fun i e g1 g2=>by
  obtain⟨v,e1,r1⟩:=hr.get g2;obtain⟨w',e2,r2⟩:=hr.get h2;obtain⟨u1,f1,s1⟩:=rv.get e1;obtain⟨u2,f2,s2⟩:=rv.get e2;rw[g1]at f1;cases f1;rw[h1]at f2;cases f2
  have:v=w':=s1.inj s2
  subst this;exact y2A I r1 r2
 by_cases hb:beq d x=true
 ·rw[if_pos ⟨j,d,h1,h2,hb⟩,hb]
 ·rw[if_neg ?_]
  ·exact(Jm.mpr hb).symm
  ·rintro ⟨i,e,g1,g2,g3⟩;rw[uniq i e g1 g2]at g3;exact hb g3
theorem y32{aa:Pns}{σ:St}{H:Hp}{s:Ah}(I:Inv X aa σ H s){ds:List D}{xs:List V}{its:List A8}{x:D}(hr:j7 X.K H ds xs)(rv:Y3 xs its):its.any (inE ds its x)=inD x ds:=by
 have bp:=hr.length;have hl2:=rv.length;rw[Bool.eq_iff_iff];unfold inD;rw[Jz,Jz];constructor
 ·rintro ⟨u,hu,e⟩;obtain⟨j,hj,rfl⟩:=Gh.mp hu;have h2:ds[j]?=some ds[j]:=A3 (by omega);rw[y9C I hr rv (A3 hj) h2]at e;exact⟨ds[j],Bw _,e⟩
 ·rintro ⟨d,hd,e⟩;obtain⟨j,hj,rfl⟩:=Gh.mp hd;have h1:its[j]?=some its[j]:=A3 (by omega);refine⟨its[j],Bw _,?_⟩;rw[y9C I hr rv h1 (A3 hj)];exact e
theorem z9M{aa:Pns}{σ:St}{H:Hp}{s:Ah}(I:Inv X aa σ H s)(hu:X.A.units+64<Cy){ds:List D}{xs:List V}{its:List A8}{x:D}{xv:V}{v:A8}(hr:j7 X.K H ds xs)(rv:Y3 xs its)(hd:z00 ds≤z22)(bS:depth x≤z22)(hx:Rep X.K H x xv)(rx:z01 xv v):∀w'∈its.toArray,Fj X.A.in1 s w' v (inE ds its x w'):=fun w' hw=>by
 have bp:=hr.length;have hl2:=rv.length
 have hw':w'∈its:=by simpa using hw
 obtain⟨j,hj,rfl⟩:=Gh.mp hw';have h2:ds[j]?=some ds[j]:=A3 (by omega);have h1:its[j]?=some its[j]:=A3 hj;rw[y9C I hr rv h1 h2];obtain⟨z,e1,r1⟩:=hr.get h2;obtain⟨u1,f1,s1⟩:=rv.get e1;rw[h1]at f1;cases f1;have dd:=z3A h2;exact(y6W I z22 X.A.in1 (by show X.A.units+1+z22<Cy;unfold z22;omega) (by unfold z22;decide) (by omega) (Jf bS (by unfold z22;decide)) r1 hx s1 rx).1
theorem w5H(hu:X.A.units+64<Cy):OpR X (Cs .In) (w6Z X.K false):=by
 intro aa s σ H x y v u Q I rx ry h;obtain⟨d,ds,p,xs,hd,bS,hx,rfl,hq,hr,q⟩:=h;cases ry;rcases hq with hq|hq
 ·obtain⟨its,rv,pl,_⟩:=I.list hq;refine SeqAt.in_listAt (inE ds its d) pl.isList (z9M I hu hr rv hd bS hx rx) ⟨.bl _,H,I,rfl,?_⟩;rw[show its.toArray.any (inE ds its d)=its.any (inE ds its d) by simp,y32 I hr rv];exact q
 ·obtain⟨its,rv,pl,_⟩:=I.tuple hq;refine SeqAt.in_tupleAt (inE ds its d) pl (z9M I hu hr rv hd bS hx rx) ⟨.bl _,H,I,rfl,?_⟩;rw[show its.toArray.any (inE ds its d)=its.any (inE ds its d) by simp,y32 I hr rv];exact q
theorem x3Y(hu:X.A.units+64<Cy):OpR X (Cs .NotIn) (w6Z X.K true):=by
 intro aa s σ H x y v u Q I rx ry h;obtain⟨d,ds,p,xs,hd,bS,hx,rfl,hq,hr,q⟩:=h;cases ry;rcases hq with hq|hq
 ·obtain⟨its,rv,pl,_⟩:=I.list hq;refine SeqAt.notIn_listAt (inE ds its d) pl.isList (z9M I hu hr rv hd bS hx rx) ⟨.bl _,H,I,rfl,?_⟩;rw[show its.toArray.any (inE ds its d)=its.any (inE ds its d) by simp,y32 I hr rv];exact q
 ·obtain⟨its,rv,pl,_⟩:=I.tuple hq;refine SeqAt.notIn_tupleAt (inE ds its d) pl (z9M I hu hr rv hd bS hx rx) ⟨.bl _,H,I,rfl,?_⟩;rw[show its.toArray.any (inE ds its d)=its.any (inE ds its d) by simp,y32 I hr rv];exact q
def dIn(neg:Bool)(fa:ED)(fb:EL):ED:=fun ρ=>match fa ρ with
 |some x=>(match fb ρ with|some ds=>if z00 ds≤z22/\depth x≤z22 then some (.bl (if neg then !inD x ds else inD x ds)) else none|none=>none)
 |none=>none
theorem w07{K:A5}{neg:Bool}{fb:EL}:∀σ H Q,tD K (dIn neg fa fb) σ H Q->tOp (w6Z K neg) (tD K fa) (tQ K fb) σ H Q:=
 fun σ H Q h_=>by
  refine ex6 h_ fun ρ d B H0 V0 Z e r q=>?_;unfold dIn at e;split at e
  ·rename_i x ex;split at e
   ·rename_i ds ey;split at e
    ·rename_i hd;cases e
     exact⟨ρ,x,B,H0,V0,Z,ex,r,fun u H1 s1 r1=>⟨ρ,ds,B,H0,V0,Z,ey,r.mono s1,fun p xs H2 s2 hq r2=>
      ⟨x,ds,p,xs,hd.1,hd.2,(r1.mono (y8 s2)).mono x4,rfl,hq.imp id (u9 x4),r2.mono x4,q _ H2 (s1.trans s2) (J8.mpr rfl)⟩⟩⟩
    ·cases e
   ·cases e
  ·cases e
theorem w41{fb:EL}(hu:X.A.units+64<Cy)(ha:SE X a fa)(hb:SQ X b fb)(hm:Dd .In b=false:=by with_unfolding_all rfl):STt X (.Compare a [.In] [b] pos) (y9 (dIn false fa fb)):=z1P (y6G (w5H hu) ha hb hm) fun σ H Q h=>w07 _ _ _ (z2J σ H Q h)
theorem x9A{fb:EL}(hu:X.A.units+64<Cy)(ha:SE X a fa)(hb:SQ X b fb)(hm:Dd .NotIn b=false:=by with_unfolding_all rfl):STt X (.Compare a [.NotIn] [b] pos) (y9 (dIn true fa fb)):=z1P (y6G (x3Y hu) ha hb hm) fun σ H Q h=>w07 _ _ _ (z2J σ H Q h)
theorem x7G{K:A5}{H:Hp}{ds:List D}{xs:List V}{i:Int}{d:D}(h:j7 K H ds xs)(e:atI ds i=some d):∃v,atI xs i=some v/\Rep K H d v:=by
 unfold atI at e ⊢;rw[←h.length]
 cases hi:ixN ds.length i with
 |none=>rw[hi]at e;cases e
 |some j=>rw[hi]at e;exact h.get e
def dIx(fa:EL)(fb:ED):ED:=fun ρ=>match fa ρ with|some ds=>(match fb ρ with|some (.int i)=>atI ds i|_=>none)|none=>none
theorem w6V{fa:EL}(ha:SQ X a fa)(hb:SE X b fb)(hs:y33 b:=by exact fun _ _=>rfl):SE X (.Subscript a b pos) (dIx fa fb):=
 u7 (w55 w5W ha hb hs) fun σ H Q h_=>by
  refine ex6 h_ fun ρ d B H0 V0 Z e r q=>?_;unfold dIx at e;split at e
  ·rename_i ds aD;split at e
   ·rename_i i ei;refine⟨ρ,ds,B,H0,V0,Z,aD,r,fun p xs H1 s1 hq r1=>⟨ρ,_,B,H0,V0,Z,ei,r.mono s1,fun u H2 s2 r2=>?_⟩⟩
    obtain rfl:=w6.mp r2
    obtain⟨v,hv,rv⟩:=x7G (r1.mono (y8 s2)) e;have fin:=q v H2 (s1.trans s2) rv;rcases hq with hq|hq
    ·exact .inl ⟨p,xs,i,v,rfl,rfl,s2.seq hq,hv,fin⟩
    ·exact .inr (.inl ⟨p,xs,i,v,rfl,rfl,u9 s2 (u9 x4 hq),hv,fin⟩)
   ·cases e
  ·cases e
noncomputable def tO(K:A5)(f:u5->Option (Option Int)):TO:=fun σ H Q=>∃ρ o B H0 V0 Z,f ρ=some o/\SR K B H0 V0 H Z σ ρ/\∀H',j6 H H'->Q o H'
abbrev SO(X:Cx)(e:Option Expr)(f:u5->Option (Option Int)):Prop:=PO X e (tO X.K f)
structure ZO(X:Cx)(e:Option Expr)(f:u5->Option (Option Int)):Prop where
 h:SO X e f
noncomputable def w8G:u5->Option (Option Int):=fun _=>some none
noncomputable def y73(f:ED):u5->Option (Option Int):=fun ρ=>match f ρ with|some (.int i)=>some (some i)|_=>none
theorem x6V:ZO X none w8G:=
 ⟨fun aa s σ H Q I h_=>by
 refine ex6 h_ fun ρ o B H0 V0 Z e r q=>?_;cases e
 exact w1O aa s σ H Q I (q H (j6.refl H))⟩
theorem y1W{f:ED}(h:ZE X a f):ZO X (some a) (y73 f):=
 ⟨have h:=h.h;
 fun aa s σ H Q I h_=>by
 refine ex6 h_ fun ρ o B H0 V0 Z e r q=>?_;refine w1N h aa s σ H Q I ?_;unfold y73 at e;split at e
 ·rename_i i ei;cases e;exact⟨ρ,_,B,H0,V0,Z,ei,r,fun v H' s rr=>⟨i,w6.mp rr,q H' s⟩⟩
 ·cases e⟩
def cut{α:Type}(xs:List α)(lo hi:Option Int):List α:=(xs.drop (HT.sIx xs.length 0 lo)).take (HT.sIx xs.length xs.length hi-HT.sIx xs.length 0 lo)
theorem y8E{K:A5}{H:Hp}{ds:List D}{xs:List V}(lo hi:Option Int)(h:j7 K H ds xs):j7 K H (cut ds lo hi) (x6S xs lo hi):=by unfold cut x6S;rw[h.length];exact(h.drop _).take _
def dSl:D->Option Int->Option Int->Option D:=fun x lo hi=>match x with
 | .tup ds=>if HT.sIx ds.length 0 lo=0/\HT.sIx ds.length ds.length hi=ds.length then none else some (.tup (cut ds lo hi))
 | .lst ds=>some (.lst (cut ds lo hi))
 |_=>none
def w0H(f:ED)(fl fh:u5->Option (Option Int)):ED:=fun ρ=>match f ρ with
 |some x=>(match fl ρ with|some lo=>(match fh ρ with|some hi=>dSl x lo hi|none=>none)|none=>none)
 |none=>none
theorem w6U{lo hi:Option Expr}{p2:F2}{fl fh:u5->Option (Option Int)}(he:SE X a fa)(hl:SO X lo fl)(hh:SO X hi fh):SE X (.Subscript a (.Slice lo hi none p2) pos) (w0H fa fl fh):=
 u7 (x7R (w42.or w13) he hl hh) fun σ H Q h_=>by
  refine ex6 h_ fun ρ d B H0 V0 Z e r q=>?_;unfold w0H at e;split at e
  ·rename_i x ex;split at e
   ·rename_i l el;split at e
    ·rename_i h eh;refine⟨ρ,x,B,H0,V0,Z,ex,r,fun u H1 s1 r1=>⟨ρ,l,B,H0,V0,Z,el,r.mono s1,fun H2 s2=>⟨ρ,h,B,H0,V0,Z,eh,(r.mono s1).mono s2,fun H3 s3=>?_⟩⟩⟩;have R3:=((r.mono s1).mono s2).mono s3;have rx:=r1.mono (y8 (s2.trans s3));unfold dSl at e;split at e
     ·rename_i ds;split at e
      ·cases e
      ·rename_i hw;cases e;obtain⟨p,xs,rfl,h1,h2⟩:=j3.mp rx;refine .inl ⟨p,xs,rfl,u9 x4 h1,by rw[←h2.length];exact hw,fun n hn=>?_⟩
       have sn:=j4 (o:=HO.tup (x6S xs l h)) hn;refine q _ _ (s1.trans (s2.trans (s3.trans sn))) (j3.mpr ⟨n,_,rfl,SqT.of ?_,(y8E l h h2).mono (y8 sn)⟩);rw[K7 (R3.newer hn)];exact x9
     ·rename_i ds;cases e;obtain⟨p,xs,rfl,h1,h2⟩:=J5.mp rx;refine .inr ⟨p,xs,rfl,x4.seq h1,fun n hn=>?_⟩;have sn:=j4 (o:=HO.lst (x6S xs l h)) hn;refine q _ _ (s1.trans (s2.trans (s3.trans sn))) (J5.mpr ⟨n,_,rfl,SqL.of ?_,(y8E l h h2).mono (y8 sn)⟩);rw[K7 (R3.newer hn)];exact x9
     ·cases e
    ·cases e
   ·cases e
  ·cases e
noncomputable def z15(f:EL):ED:=fun ρ=>(f ρ).map fun ds=>D.int ds.length
theorem Z7{p:F2}{f:EL}(hm:X.mg "len" = none)(h:ZQ X a f)(hg:Gl X "len":=by rfl)(he:Ac [a] X.env=(false,C0 a X.env)::Ac [] X.env:=by exact v5 rfl)(ah:(Bs pos (Ac [] X.env)).any (·.1)=false:=by exact j8 rfl):ZE X (.Call (.Name "len" p) [a] [] pos) (z15 f):=
 ⟨have h:=h.h;
 u7 (z1V y5B hg hm PySem.boot_len (g9 h Y0 he) (by decide) (by decide) he ah) fun σ H Q h_=>by
  refine ex6 h_ fun ρ d B H0 V0 Z e r q=>?_;unfold z15 at e;obtain⟨ds,aD,rfl⟩:=Bl.mp e
  exact⟨ρ,ds,B,H0,V0,Z,aD,r,fun p xs H' s hq rr=>⟨p,xs,rfl,hq.imp id (u9 x4),q _ H' s (by rw[←rr.length];exact w6.mpr rfl)⟩⟩⟩
noncomputable def z6R(f:EL):ED:=fun ρ=>(f ρ).map D.tup
theorem z4I{p:F2}{f:EL}(hm:X.mg "tuple" = none)(h:ZQ X a f)(hg:Gl X "tuple":=by rfl)(he:Ac [a] X.env=(false,C0 a X.env)::Ac [] X.env:=by exact v5 rfl)(ah:(Bs pos (Ac [] X.env)).any (·.1)=false:=by exact j8 rfl)(hv:B5 "tuple" = some (.type "tuple"):=by decide +kernel):ZE X (.Call (.Name "tuple" p) [a] [] pos) (z6R f):=
 ⟨have h:=h.h;
 u7 (z0M z6U hg hm hv (g9 h Y0 he) (by decide) (by decide) he ah) fun σ H Q h_=>by
  refine ex6 h_ fun ρ d B H0 V0 Z e r q=>?_;unfold z6R at e;obtain⟨ds,aD,rfl⟩:=Bl.mp e;refine⟨ρ,ds,B,H0,V0,Z,aD,r,fun p xs H' s hq rr=>⟨p,xs,rfl,?_⟩⟩;rcases hq with hq|hq
  ·refine .inl ⟨hq,fun l hl=>?_⟩;have sn:=j4 (o:=HO.tup xs) hl;refine q _ _ (s.trans sn) (j3.mpr ⟨l,xs,rfl,SqT.of ?_,rr.mono (y8 sn)⟩);rw[K7 ((r.mono s).newer hl)];exact x9
  ·exact .inr ⟨u9 x4 hq,q _ H' s (j3.mpr ⟨p,xs,rfl,hq,rr⟩)⟩⟩
end
end L3
namespace L3
open PySem PySem.W PyProof.Rows
noncomputable def z21{α:Type}(lt:Nat->Nat->Bool):Ms α->α
 | .ret a=>a
 | .ask i j k=>z21 lt (k (lt i j))
theorem z0Z{α β:Type}(lt:Nat->Nat->Bool)(f:α->Ms β):∀t:Ms α,z21 lt (t.bind f)=z21 lt (f (z21 lt t))
 | .ret _=>rfl
 | .ask i j k=>z0Z lt f (k (lt i j))
structure KOrd(lt:Nat->Nat->Bool):Prop where
 asym:∀i j,lt i j=true->lt j i=false
 tr:∀i j k,lt j i=false->lt k j=false->lt k i=false
noncomputable def gt(p:Array Nat)(i:Nat):Nat:=p.getD i 0
theorem x14{p q:Array Nat}{i j:Nat}(h:p[i]?=q[j]?):gt p i=gt q j:=by unfold gt;rw[Gc,Gc,h]
def Up(lt:Nat->Nat->Bool)(p:Array Nat)(b:Nat):Prop:=∀i j,i≤j->j<b->lt (gt p j) (gt p i)=false
def Dn(lt:Nat->Nat->Bool)(p:Array Nat)(b:Nat):Prop:=∀i j,i≤j->j<b->lt (gt p i) (gt p j)=false
def Al(lt:Nat->Nat->Bool)(p:Array Nat)(a b:Nat):Prop:=∀i j,a≤i->i<b->a≤j->j<b->lt (gt p i) (gt p j)=false
section
variable{lt:Nat->Nat->Bool}(O:KOrd lt)
theorem KOrd.irr{lt:Nat->Nat->Bool}(O:KOrd lt)(i:Nat):lt i i=false:=by
 cases h:lt i i with
 |false=>rfl
 |true=>rw[O.asym i i h]at h;cases h
theorem z7Y{p:Array Nat}{i j:Nat}(hj:j≤p.size)(be:i≤j)(k:Nat):gt (Es p i j) k=if i≤k/\k<j then gt p (i+j-1-k) else gt p k:=by
 unfold Es;have e:=getElem?_mirror (xs:=p) (i:=i) hj ((j-i) / 2) (by omega) k;by_cases h:i≤k/\k<j
 ·rw[if_pos h];by_cases h2:(i≤k/\k<i+(j-i) / 2)∨(j-(j-i) / 2≤k/\k<j)
  ·rw[if_pos h2]at e;exact x14 e
  ·rw[if_neg h2]at e
   have:i+j-1-k=k:=by omega
   rw[this];exact x14 e
 ·rw[if_neg h];rw[if_neg (by omega)]at e;exact x14 e
theorem z3O(p:Array Nat)(i j:Nat):(Es p i j).size=p.size:=mirror_size _ _ _ _
theorem z1U(p:Array Nat)(i j:Nat):(Es p i j).Perm p:=mirror_perm _ _ _ _
include O
theorem x6B{p:Array Nat}:∀(f n:Nat),1≤n->Up lt p n->n≤z21 lt (Ij p f n)/\z21 lt (Ij p f n)≤n+f/\Up lt p (z21 lt (Ij p f n)) /\
  (z21 lt (Ij p f n)<n+f->lt (gt p (z21 lt (Ij p f n))) (gt p (z21 lt (Ij p f n)-1))=true)
 | 0,n,h1,h=>⟨Ak _,Ak _,h,fun z=>absurd z (Dj _)⟩
 |f+1,n,h1,h=>by
  have e:z21 lt (Ij p (f+1) n)=z21 lt (if lt (gt p n) (gt p (n-1))=true then Ms.ret n else Ij p f (n+1)):=rfl;rw[e]
  cases hc:lt (gt p n) (gt p (n-1)) with
  |true=>rw[if_pos rfl];exact⟨Ak _,Ka _ _,h,fun _=>hc⟩
  |false=>
   rw[if_neg B0]
   have h':Up lt p (n+1):=fun i j be hj=>by
    by_cases df:j<n
    ·exact h i j be df
    ·have:j=n:=by omega
     subst this;by_cases hi:i=j
     ·subst hi;exact O.irr _
     ·exact O.tr _ _ _ (h i (j-1) (by omega) (by omega)) hc
   obtain⟨a1,a2,a3,a4⟩:=x6B f (n+1) (by omega) h';exact⟨by omega,by omega,a3,fun z=>a4 (by omega)⟩
theorem x9C{p:Array Nat}{n q:Nat}(hz:n≤p.size)(hq:q+1≤n)(hd:Dn lt p n)(ha:Al lt p (n-(q+1)) n):Dn lt (Es p (n-(q+1)) n) n:=fun i j be hj=>by
 rw[z7Y hz (by omega),z7Y hz (by omega)];by_cases h1:n-(q+1)≤i/\i<n
 ·have h2:n-(q+1)≤j/\j<n:=by omega
  rw[if_pos h1,if_pos h2];exact ha _ _ (by omega) (by omega) (by omega) (by omega)
 ·rw[if_neg h1];by_cases h2:n-(q+1)≤j/\j<n
  ·rw[if_pos h2];exact hd _ _ (by omega) (by omega)
  ·rw[if_neg h2];exact hd _ _ be hj
theorem y2S:∀(f:Nat) (p:Array Nat) (n q:Nat),n+f≤p.size->q+1≤n->Dn lt p n->Al lt p (n-(q+1)) n ->
  ∃p' m q',z21 lt (F4 f p n q)=(p',m,q')/\p'.size=p.size/\p'.Perm p/\n≤m/\m≤n+f/\q'+1≤m/\Dn lt p' m/\Al lt p' (m-(q'+1)) m
 | 0,p,n,q,hz,hq,hd,ha=>⟨p,n,q,rfl,rfl,Ey _,Ak _,Ak _,hq,hd,ha⟩
 |f+1,p,n,q,hz,hq,hd,ha=>by
  have e:z21 lt (F4 (f+1) p n q)=z21 lt (if lt (gt p n) (gt p (n-1))=true then (if q>0 then F4 f (Es p (n-(q+1)) n) (n+1) 0 else F4 f p (n+1) 0)
   else .ask (p.getD (n-1) 0) (p.getD n 0) fun d=>if d=true then .ret (p,n,q) else F4 f p (n+1) (q+1)):=rfl
  rw[e]
  cases hc:lt (gt p n) (gt p (n-1)) with
  |true=>
   rw[if_pos rfl];have less:∀i,i<n->lt (gt p i) (gt p n)=false:=fun i hi=>O.tr _ _ _ (O.asym _ _ hc) (hd i (n-1) (by omega) (by omega));by_cases h0:q>0
   ·rw[if_pos h0];have bS:=x9C O (by omega) hq hd ha
    have bv:Dn lt (Es p (n-(q+1)) n) (n+1):=fun i j be hj=>by
     by_cases df:j<n
     ·exact bS i j be df
     ·have:j=n:=by omega
      subst this;by_cases hi:i=j
      ·subst hi;exact O.irr _
      ·rw[z7Y (by omega) (by omega),z7Y (by omega) (by omega),if_neg (by omega:¬(j-(q+1)≤j/\j<j))];split
       ·exact less _ (by omega)
       ·exact less _ (by omega)
    obtain⟨p',m,q',e1,e2,e3,e4,e5,e6,e7,e8⟩:=y2S f (Es p (n-(q+1)) n) (n+1) 0 (by rw[z3O];omega) (by omega) bv (fun i j h1 h2 h3 h4=>by
     have:i=j:=by omega
     subst this;exact O.irr _)
    exact⟨p',m,q',e1,by rw[e2,z3O],e3.trans (z1U _ _ _),by omega,by omega,e6,e7,e8⟩
   ·rw[if_neg h0]
    have bv:Dn lt p (n+1):=fun i j be hj=>by
     by_cases df:j<n
     ·exact hd i j be df
     ·have:j=n:=by omega
      subst this;by_cases hi:i=j
      ·subst hi;exact O.irr _
      ·exact less i (by omega)
    obtain⟨p',m,q',e1,e2,e3,e4,e5,e6,e7,e8⟩:=y2S f p (n+1) 0 (by omega) (by omega) bv (fun i j h1 h2 h3 h4=>by
     have:i=j:=by omega
     subst this;exact O.irr _)
    exact⟨p',m,q',e1,e2,e3,by omega,by omega,e6,e7,e8⟩
  |false=>
   rw[if_neg B0];have e':z21 lt (Lv (p.getD (n-1) 0) (p.getD n 0) fun d=>if d=true then .ret (p,n,q) else F4 f p (n+1) (q+1))=z21 lt (if lt (gt p (n-1)) (gt p n)=true then .ret (p,n,q) else F4 f p (n+1) (q+1)):=rfl;rw[e']
   cases bf:lt (gt p (n-1)) (gt p n) with
   |true=>rw[if_pos rfl];exact⟨p,n,q,rfl,rfl,Ey _,Ak _,by omega,hq,hd,ha⟩
   |false=>
    rw[if_neg B0]
    have bv:Dn lt p (n+1):=fun i j be hj=>by
     by_cases df:j<n
     ·exact hd i j be df
     ·have:j=n:=by omega
      subst this;by_cases hi:i=j
      ·subst hi;exact O.irr _
      ·exact O.tr _ _ _ bf (hd i (j-1) (by omega) (by omega))
    have ha2:Al lt p (n+1-(q+1+1)) (n+1):=fun i j h1 h2 h3 h4=>by
     have iq:∀i,n-(q+1)≤i->i<n->lt (gt p i) (gt p n)=false:=fun i g1 g2=>O.tr _ _ _ bf (ha i (n-1) g1 g2 (by omega) (by omega));have jh:∀i,n-(q+1)≤i->i<n->lt (gt p n) (gt p i)=false:=fun i g1 g2=>O.tr _ _ _ (ha (n-1) i (by omega) (by omega) g1 g2) hc;by_cases hi:i<n
     ·by_cases hj:j<n
      ·exact ha i j (by omega) hi (by omega) hj
      ·have:j=n:=by omega
       subst this;exact iq i (by omega) hi
     ·have:i=n:=by omega
      subst this;by_cases hj:j<i
      ·exact jh j (by omega) hj
      ·have:j=i:=by omega
       subst this;exact O.irr _
    obtain⟨p',m,q',e1,e2,e3,e4,e5,e6,e7,e8⟩:=y2S f p (n+1) (q+1) (by omega) (by omega) bv ha2;exact⟨p',m,q',e1,e2,e3,by omega,by omega,e6,e7,e8⟩
theorem w48{p:Array Nat}{n:Nat}(hz:n≤p.size)(hd:Dn lt p n):Up lt (Es p 0 n) n:=fun i j be hj=>by rw[z7Y hz (by omega),z7Y hz (by omega),if_pos (by omega),if_pos (by omega)];exact hd _ _ (by omega) (by omega)
theorem x2S{p:Array Nat}{n nrem:Nat}(hn:n≤nrem)(h1:1≤n)(hz:nrem≤p.size)(hd:Dn lt p n):
  ∃m p',z21 lt (Lb n nrem p)=(m,p')/\p'.size=p.size/\p'.Perm p/\1≤m/\m≤nrem/\Up lt p' m:=by
 unfold Lb;rw[z0Z];obtain⟨a1,a2,a3,_⟩:=x6B O (nrem-n) n h1 (w48 O (by omega) hd);exact⟨_,_,rfl,z3O _ _ _,z1U _ _ _,by omega,by omega,a3⟩
theorem y03{p:Array Nat}{n nrem:Nat}(hn:n+1≤nrem)(hz:nrem≤p.size)(hd:Dn lt p (n+1)):
  ∃m p',z21 lt (F5 n nrem p)=(m,p')/\p'.size=p.size/\p'.Perm p/\1≤m/\m≤nrem/\Up lt p' m:=by
 unfold F5;rw[z0Z]
 obtain⟨p',m,q',e1,e2,e3,e4,e5,e6,e7,e8⟩:=y2S O (nrem-(n+1)) p (n+1) 0 (by omega) (by omega) hd (fun i j h1 h2 h3 h4=>by
  have:i=j:=by omega
  subst this;exact O.irr _)
 rw[e1];dsimp only;by_cases hq:q'>0
 ·rw[if_pos hq];obtain⟨m2,p2,t1,t2,t3,t4,t5,t6⟩:=x2S O (p:=Es p' (m-(q'+1)) m) (n:=m) (nrem:=nrem) (by omega) (by omega) (by rw[z3O];omega) (x9C O (by omega) e6 e7 e8)
  exact⟨m2,p2,t1,by rw[t2,z3O,e2],t3.trans ((z1U _ _ _).trans e3),t4,t5,t6⟩
 ·rw[if_neg hq];obtain⟨m2,p2,t1,t2,t3,t4,t5,t6⟩:=x2S O (p:=p') (n:=m) (nrem:=nrem) (by omega) (by omega) (by omega) e7;exact⟨m2,p2,t1,by rw[t2,e2],t3.trans e3,t4,t5,t6⟩
theorem x8S{p:Array Nat}{nrem:Nat}(h1:1≤nrem)(hz:nrem≤p.size):
  ∃m p',z21 lt (Lc nrem p)=(m,p')/\p'.size=p.size/\p'.Perm p/\1≤m/\m≤nrem/\Up lt p' m:=by
 unfold Lc;rw[z0Z]
 obtain⟨a1,a2,a3,a4⟩:=x6B O (p:=p) (nrem-1) 1 (Ak _) (fun i j be hj=>by
  have:i=j:=by omega
  subst this;exact O.irr _)
 generalize z21 lt (Ij p (nrem-1) 1)=n at a1 a2 a3 a4;by_cases e1:(n==nrem)=true
 ·rw[if_pos e1];exact⟨n,p,rfl,rfl,Ey _,a1,by omega,a3⟩
 ·rw[if_neg e1];have ag:n≠nrem:=fun q=>e1 (by rw[q];exact beq_self_eq_true _)
  have al:=a4 (by omega);by_cases e2:n>1
  ·rw[if_pos e2];have e':z21 lt (Lv (p.getD 0 0) (p.getD (n-1) 0) fun c=>if c=true then .ret (n,p) else F5 n nrem (Es p 0 n))=z21 lt (if lt (gt p 0) (gt p (n-1))=true then .ret (n,p) else F5 n nrem (Es p 0 n)):=rfl;rw[e']
   cases hc:lt (gt p 0) (gt p (n-1)) with
   |true=>rw[if_pos rfl];exact⟨n,p,rfl,rfl,Ey _,a1,by omega,a3⟩
   |false=>
    rw[if_neg B0]
    have all:∀i j,i<n->j<n->lt (gt p i) (gt p j)=false:=fun i j hi hj=>O.tr _ _ _ (O.tr _ _ _ (a3 j (n-1) (by omega) (by omega)) hc) (a3 0 i (by omega) hi)
    obtain⟨m2,p2,t1,t2,t3,t4,t5,t6⟩:=y03 O (p:=Es p 0 n) (n:=n) (nrem:=nrem) (by omega) (by rw[z3O];exact hz) (fun i j be hj=>by
     rw[z7Y (by omega) (by omega),z7Y (by omega) (by omega)];by_cases df:j<n
     ·rw[if_pos (by omega),if_pos (by omega)];exact all _ _ (by omega) (by omega)
     ·have:j=n:=by omega
      subst this;rw[if_neg (by omega:¬(0≤j/\j<j))];by_cases hi:i<j
      ·rw[if_pos (by omega)];exact O.tr _ _ _ (O.asym _ _ al) (all _ _ (by omega) (by omega))
      ·rw[if_neg (by omega)]
       have:i=j:=by omega
       subst this;exact O.irr _)
    exact⟨m2,p2,t1,by rw[t2,z3O],t3.trans (z1U _ _ _),t4,t5,t6⟩
  ·rw[if_neg e2]
   have:n=1:=by omega
   subst this
   obtain⟨m2,p2,t1,t2,t3,t4,t5,t6⟩:=y03 O (p:=p) (n:=1) (nrem:=nrem) (by omega) hz (fun i j be hj=>by
    by_cases gp:i=j
    ·subst gp;exact O.irr _
    ·have hi:i=0:=by omega
     have bG:j=1:=by omega
     subst hi bG
     exact O.asym _ _ al)
   exact⟨m2,p2,t1,t2,t3,t4,t5,t6⟩
theorem y2E{p:Array Nat}{k:Nat}(hu:Up lt p k):∀(f l r:Nat),r-l≤f->l≤r->r≤k->(∀i,i<l->lt (gt p k) (gt p i)=false)->(∀i,r≤i->i<k->lt (gt p i) (gt p k)=false) ->
  z21 lt (Ez p k f l r)≤k/\(∀i,i<z21 lt (Ez p k f l r)->lt (gt p k) (gt p i)=false)/\(∀i,z21 lt (Ez p k f l r)≤i->i<k->lt (gt p i) (gt p k)=false)
 | 0,l,r,hf,hlr,hr,h1,h2=>⟨show l≤k by omega,h1,fun i (g1:l≤i) g2=>h2 i (by omega) g2⟩
 |f+1,l,r,hf,hlr,hr,h1,h2=>by
  have e:z21 lt (Ez p k (f+1) l r)=z21 lt (if l≥r then .ret l else .ask (p.getD k 0) (p.getD ((l+r) / 2) 0) fun c=>if c=true then Ez p k f l ((l+r) / 2) else Ez p k f ((l+r) / 2+1) r):=rfl;rw[e];by_cases gK:l≥r
  ·rw[if_pos gK];exact⟨show l≤k by omega,h1,fun i (g1:l≤i) g2=>h2 i (by omega) g2⟩
  ·rw[if_neg gK]
   have e':z21 lt (Lv (p.getD k 0) (p.getD ((l+r) / 2) 0) fun c=>if c=true then Ez p k f l ((l+r) / 2) else Ez p k f ((l+r) / 2+1) r) =
    z21 lt (if lt (gt p k) (gt p ((l+r) / 2))=true then Ez p k f l ((l+r) / 2) else Ez p k f ((l+r) / 2+1) r):=rfl
   rw[e']
   cases hc:lt (gt p k) (gt p ((l+r) / 2)) with
   |true=>rw[if_pos rfl];exact y2E hu f l ((l+r) / 2) (by omega) (by omega) (by omega) h1 fun i g1 g2=>O.tr _ _ _ (O.asym _ _ hc) (hu _ i g1 g2)
   |false=>rw[if_neg B0];exact y2E hu f ((l+r) / 2+1) r (by omega) (by omega) hr (fun i g1=>O.tr _ _ _ (hu i _ (by omega) (by omega)) hc) h2
theorem w0L:∀(f:Nat) (p:Array Nat) (k:Nat),k+f≤p.size->Up lt p k->∃p',z21 lt (kas_bin f p k)=p'/\p'.size=p.size/\p'.Perm p/\Up lt p' (k+f)
 | 0,p,k,_,hu=>⟨p,rfl,rfl,Ey _,hu⟩
 |f+1,p,k,hz,hu=>by
  have e:z21 lt (kas_bin (f+1) p k)=z21 lt ((Ez p k k 0 k).bind fun l=>kas_bin f (bubble p k (k-l)) (k+1)):=rfl;rw[e,z0Z];obtain⟨b1,b2,b3⟩:=y2E O hu k 0 k (by omega) (by omega) (Ak _) (fun i g=>by omega) (fun i g1 g2=>by omega);generalize z21 lt (Ez p k k 0 k)=l at b1 b2 b3
  have bg:∀x,gt (bubble p k (k-l)) x=if x=l then gt p k else if l<x/\x≤k then gt p (x-1) else gt p x:=fun x=>by
   have e:=getElem?_bubble (xs:=p) (src:=k) (by omega) (k-l) (by omega) x
   have ek:k-(k-l)=l:=by omega
   rw[ek]at e;by_cases g1:x=l
   ·rw[if_pos g1]at e ⊢;exact x14 e
   ·rw[if_neg g1]at e ⊢;by_cases g2:l<x/\x≤k
    ·rw[if_pos g2]at e ⊢;exact x14 e
    ·rw[if_neg g2]at e ⊢;exact x14 e
  have hu':Up lt (bubble p k (k-l)) (k+1):=fun i j be hj=>by
   by_cases gp:i=j
   ·subst gp;exact O.irr _
   rw[bg,bg];by_cases hj1:j=l
   ·rw[if_pos hj1,if_neg (by omega:¬i=l),if_neg (by omega:¬(l<i/\i≤k))];exact b2 i (by omega)
   ·rw[if_neg hj1];by_cases hj2:l<j/\j≤k
    ·rw[if_pos hj2];by_cases da:i=l
     ·rw[if_pos da];exact b3 _ (by omega) (by omega)
     ·rw[if_neg da];by_cases dg:l<i/\i≤k
      ·rw[if_pos dg];exact hu _ _ (by omega) (by omega)
      ·rw[if_neg dg];exact hu _ _ (by omega) (by omega)
    ·rw[if_neg hj2,if_neg (by omega:¬i=l),if_neg (by omega:¬(l<i/\i≤k))];exact hu _ _ be (by omega)
  obtain⟨p',e1,e2,e3,e4⟩:=w0L f (bubble p k (k-l)) (k+1) (by rw[bubble_size];omega) hu'
  exact⟨p',e1,by rw[e2,bubble_size],e3.trans (bubble_perm _ _ _),by rw[show k+(f+1)=k+1+f by omega];exact e4⟩
theorem x2Y{n:Nat}(hn:1≤n):∃p,z21 lt (kas_sort n)=p/\p.size=n/\p.Perm (Bn (A9 n))/\Up lt p n:=by
 unfold kas_sort;rw[z0Z]
 have hz:(Bn (A9 n)).size=n:=by simp
 obtain⟨m,p',e1,e2,e3,e4,e5,e6⟩:=x8S O (p:=Bn (A9 n)) (nrem:=n) hn (by rw[hz];exact Ak _)
 rw[e1];dsimp only;by_cases h:m<n
 ·rw[if_pos h]
  have em:Lu m 1=m:=by omega
  rw[em];obtain⟨p2,t1,t2,t3,t4⟩:=w0L O (n-m) p' m (by omega) e6;exact⟨p2,t1,by rw[t2,e2,hz],t3.trans e3,by rw[show n=m+(n-m) by omega];exact t4⟩
 ·rw[if_neg h]
  have em:m=n:=by omega
  subst em;exact⟨p',rfl,by rw[e2,hz],e3,e6⟩
end
noncomputable def y3C{α:Type}(lt:Nat->Nat->Bool)(n:Nat):Ms α->Prop
 | .ret _=>True
 | .ask i j k=>i<n/\j<n/\y3C lt n (k (lt i j))
def InN(n:Nat)(p:Array Nat):Prop:=0<n/\∀x,x∈p->x<n
section
variable{lt:Nat->Nat->Bool}{n:Nat}
theorem z3E{α β:Type}{f:α->Ms β}:∀{t:Ms α},y3C lt n t->y3C lt n (f (z21 lt t))->y3C lt n (t.bind f)
 | .ret _,_,h=>h
 | .ask i j k,⟨h1,h2,h3⟩,h=>⟨h1,h2,z3E (t:=k (lt i j)) h3 h⟩
theorem InN.gt{p:Array Nat}(h:InN n p)(i:Nat):p.getD i 0<n:=by
 rw[Gc]
 cases e:p[i]? with
 |none=>exact h.1
 |some x=>exact h.2 x (Array.mem_of_getElem? e)
theorem InN.perm{p q:Array Nat}(h:InN n p)(e:q.Perm p):InN n q:=⟨h.1,fun x hx=>h.2 x (e.mem_iff.mp hx)⟩
theorem z6W{α:Type}{c:Bool}{t u:Ms α}(h1:y3C lt n t)(h2:y3C lt n u):y3C lt n (if c=true then t else u):=by
 cases c with
 |true=>rw[if_pos rfl];exact h1
 |false=>rw[if_neg B0];exact h2
theorem z3D{α:Type}{c:Prop}[Decidable c]{t u:Ms α}(h1:y3C lt n t)(h2:y3C lt n u):y3C lt n (if c then t else u):=by
 split
 ·exact h1
 ·exact h2
theorem x6C{p:Array Nat}(h:InN n p):∀f m,y3C lt n (Ij p f m)
 | 0,_=>trivial
 |f+1,m=>⟨h.gt _,h.gt _,z6W trivial (x6C h f (m+1))⟩
theorem z63:∀(f:Nat) (p:Array Nat) (m q:Nat),InN n p->y3C lt n (F4 f p m q)/\InN n (z21 lt (F4 f p m q)).1
 | 0,p,_,_,h=>⟨trivial,h⟩
 |f+1,p,m,q,h=>by
  have hr:InN n (Es p (m-(q+1)) m):=h.perm (z1U _ _ _)
  have e:z21 lt (F4 (f+1) p m q)=z21 lt (if lt (p.getD m 0) (p.getD (m-1) 0)=true then (if q>0 then F4 f (Es p (m-(q+1)) m) (m+1) 0 else F4 f p (m+1) 0)
   else .ask (p.getD (m-1) 0) (p.getD m 0) fun d=>if d=true then .ret (p,m,q) else F4 f p (m+1) (q+1)):=rfl
  refine⟨⟨h.gt _,h.gt _,z6W (z3D (z63 f _ _ _ hr).1 (z63 f _ _ _ h).1) ⟨h.gt _,h.gt _,z6W trivial (z63 f _ _ _ h).1⟩⟩,?_⟩;rw[e]
  cases lt (p.getD m 0) (p.getD (m-1) 0) with
  |true=>
   rw[if_pos rfl];split
   ·exact(z63 f _ _ _ hr).2
   ·exact(z63 f _ _ _ h).2
  |false=>
   rw[if_neg B0];have e':z21 lt (Lv (p.getD (m-1) 0) (p.getD m 0) fun d=>if d=true then .ret (p,m,q) else F4 f p (m+1) (q+1))=z21 lt (if lt (p.getD (m-1) 0) (p.getD m 0)=true then .ret (p,m,q) else F4 f p (m+1) (q+1)):=rfl;rw[e']
   cases lt (p.getD (m-1) 0) (p.getD m 0) with
   |true=>rw[if_pos rfl];exact h
   |false=>rw[if_neg B0];exact(z63 f _ _ _ h).2
theorem y22{p:Array Nat}{a b:Nat}(h:InN n p):y3C lt n (Lb a b p)/\InN n (z21 lt (Lb a b p)).2:=by have hr:InN n (Es p 0 a):=h.perm (z1U _ _ _);refine⟨z3E (x6C hr _ _) trivial,?_⟩;unfold Lb;rw[z0Z];exact hr
theorem z3W{p:Array Nat}{a b:Nat}(h:InN n p):y3C lt n (F5 a b p)/\InN n (z21 lt (F5 a b p)).2:=by
 obtain⟨d1,d2⟩:=z63 (lt:=lt) (b-(a+1)) p (a+1) 0 h;unfold F5;rw[z0Z];refine⟨z3E d1 ?_,?_⟩
 ·exact z3D (y22 (d2.perm (z1U _ _ _))).1 (y22 d2).1
 ·split
  ·exact(y22 (d2.perm (z1U _ _ _))).2
  ·exact(y22 d2).2
theorem x8T{p:Array Nat}{b:Nat}(h:InN n p):y3C lt n (Lc b p)/\InN n (z21 lt (Lc b p)).2:=by
 have hr:∀m,InN n (Es p 0 m):=fun m=>h.perm (z1U _ _ _);unfold Lc;rw[z0Z];generalize hm:z21 lt (Ij p (b-1) 1)=m;refine⟨z3E (x6C h _ _) ?_,?_⟩
 ·rw[hm];exact z3D trivial (z3D ⟨h.gt _,h.gt _,z6W trivial (z3W (hr m)).1⟩ (z3W h).1)
 ·split
  ·exact h
  ·split
   ·have e':z21 lt (Lv (p.getD 0 0) (p.getD (m-1) 0) fun c=>if c=true then .ret (m,p) else F5 m b (Es p 0 m))=z21 lt (if lt (p.getD 0 0) (p.getD (m-1) 0)=true then .ret (m,p) else F5 m b (Es p 0 m)):=rfl;rw[e']
    cases lt (p.getD 0 0) (p.getD (m-1) 0) with
    |true=>rw[if_pos rfl];exact h
    |false=>rw[if_neg B0];exact(z3W (hr m)).2
   ·exact(z3W h).2
theorem y2F{p:Array Nat}{k:Nat}(h:InN n p):∀f l r,y3C lt n (Ez p k f l r)
 | 0,_,_=>trivial
 |f+1,l,r=>z3D (t:=.ret l) trivial ⟨h.gt _,h.gt _,z6W (y2F h f _ _) (y2F h f _ _)⟩
theorem w0M:∀(f:Nat) (p:Array Nat) (k:Nat),InN n p->y3C lt n (kas_bin f p k)
 | 0,_,_,_=>trivial
 |f+1,p,k,h=>z3E (y2F h _ _ _) (w0M f _ _ (h.perm (bubble_perm _ _ _)))
theorem x2Z(hn:0<n):y3C lt n (kas_sort n):=by have h:InN n (Bn (A9 n)):=⟨hn,fun x hx=>by simpa using hx⟩;obtain⟨c1,c2⟩:=x8T (lt:=lt) (b:=n) h;exact z3E c1 (z3D (w0M _ _ _ c2) trivial)
end
theorem z7G{α:Type}{lt:Nat->Nat->Bool}{n:Nat}{cE:Nat->Nat->(Bool->Ah->Prop)->Ah->Prop}{Ok:Ah->Prop}(hc:∀i j C s,i<n->j<n->Ok s->(∀s',Ok s'->C (lt i j) s')->cE i j C s){Q:α->Ah->Prop}:
  ∀(t:Ms α) (s:Ah),y3C lt n t->Ok s->(∀s',Ok s'->Q (z21 lt t) s')->t.kasWp cE Q s
 | .ret a,s,_,ok,q=>q s ok
 | .ask i j k,s,⟨h1,h2,h3⟩,ok,q=>hc i j _ s h1 h2 ok fun s' ok'=>z7G hc (k (lt i j)) s' h3 ok' q
end L3
namespace L3
open PySem PySem.Spec PyProof.Rows L2 PySem.SeqAt PySem.W
theorem y4J:∀a:List Int,HT.lexLt a a=false
 | []=>rfl
 |x::xs=>by rw[HT.lexLt_cons,if_pos rfl];exact y4J xs
theorem z57:∀a b:List Int,HT.lexLt a b=true->HT.lexLt b a=false
 | [],[],h=>by cases h
 | [],_::_,_=>rfl
 |_::_,[],h=>by cases h
 |x::xs,y::ys,h=>by
  rw[HT.lexLt_cons]at h ⊢;by_cases e:x=y
  ·rw[if_pos e]at h;rw[if_pos e.symm];exact z57 xs ys h
  ·rw[if_neg e]at h;rw[if_neg (Cl e)]
   have:=of_decide_eq_true h
   exact decide_eq_false (by omega)
theorem z56:∀a b c:List Int,HT.lexLt b a=false->HT.lexLt c b=false->HT.lexLt c a=false
 |a,b,[],h1,h2=>by
  cases a with
  |nil=>rfl
  |cons x xs=>
   cases b with
   |nil=>cases h1
   |cons y ys=>cases h2
 |a,[],z::zs,h1,h2=>by
  cases a with
  |nil=>rfl
  |cons x xs=>cases h1
 | [],y::ys,z::zs,h1,h2=>rfl
 |x::xs,y::ys,z::zs,h1,h2=>by
  rw[HT.lexLt_cons]at h1 h2 ⊢;by_cases e1:y=x
  ·rw[if_pos e1]at h1;by_cases e2:z=y
   ·rw[if_pos e2]at h2;rw[if_pos (e2.trans e1)];exact z56 xs ys zs h1 h2
   ·rw[if_neg e2]at h2
    have:=of_decide_eq_false h2
    rw[if_neg (by omega)];exact decide_eq_false (by omega)
  ·rw[if_neg e1]at h1;have g1:=of_decide_eq_false h1;by_cases e2:z=y
   ·rw[if_neg (by omega)];exact decide_eq_false (by omega)
   ·rw[if_neg e2]at h2;have g2:=of_decide_eq_false h2;rw[if_neg (by omega)];exact decide_eq_false (by omega)
theorem y2N:∀a b:List Int,HT.lexLt a b=false->HT.lexLt b a=false->a=b
 | [],[],_,_=>rfl
 | [],_::_,h,_=>by cases h
 |_::_,[],_,h=>by cases h
 |x::xs,y::ys,h1,h2=>by
  rw[HT.lexLt_cons]at h1 h2;by_cases e:x=y
  ·rw[if_pos e]at h1;rw[if_pos e.symm]at h2;rw[e,y2N xs ys h1 h2]
  ·rw[if_neg e]at h1;rw[if_neg (Cl e)]at h2;have g1:=of_decide_eq_false h1;have g2:=of_decide_eq_false h2;omega
theorem z76{α:Type}{le:α->α->Prop}(cu:∀a b,le a b->le b a->a=b):∀{xs ys:List α},xs.Perm ys->xs.Pairwise le->ys.Pairwise le->(∀a,le a a)->xs=ys
 | [],ys,p,_,_,_=>(List.nil_perm.mp p).symm
 |x::xs,ys,p,h1,h2,rf=>by
  cases ys with
  |nil=>exact absurd (List.perm_nil.mp p) (by simp)
  |cons y ys=>
   have hx:=Dc.mp h1;have hy:=Dc.mp h2
   have e:x=y:=by
    have m1:x∈y::ys:=p.mem_iff.mp A6;have m2:y∈x::xs:=p.mem_iff.mpr A6;refine cu x y ?_ ?_
    ·rcases Af.mp m2 with z|z
     ·rw[z];exact rf x
     ·exact hx.1 y z
    ·rcases Af.mp m1 with z|z
     ·rw[z];exact rf y
     ·exact hy.1 x z
   subst e;rw[z76 cu (List.perm_cons x |>.mp p) hx.2 hy.2 rf]
def leL(a b:List Int):Bool:=!HT.lexLt b a
def y3S(nss:List (List Int)):List (List Int):=nss.mergeSort leL
theorem z77(nss:List (List Int)):(y3S nss).Perm nss:=Dh nss leL
theorem y89(nss:List (List Int)):(y3S nss).Pairwise fun a b=>HT.lexLt b a=false:=by
 have h:=Ds (le:=leL) (l:=nss) (fun a b c h1 h2=>by
  unfold leL at h1 h2 ⊢;simp only[F6]at h1 h2 ⊢
  exact z56 a b c h1 h2) (fun a b=>by
  unfold leL
  cases h:HT.lexLt b a with
  |false=>rfl
  |true=>rw[z57 b a h];rfl)
 exact h.imp fun q=>by unfold leL at q;simpa using q
noncomputable def y24(ns:List Int):List Int:=ns.mergeSort fun a b=>decide (a≤b)
theorem x0B(ns:List Int):(y24 ns).Perm ns:=Dh ns _
theorem x7C(ns:List Int):(y24 ns).Pairwise (·≤·):=by
 have h:=Ds (le:=fun a b:Int=>decide (a≤b)) (l:=ns) (fun a b c h1 h2=>by
  have:=of_decide_eq_true h1
  have:=of_decide_eq_true h2
  exact decide_eq_true (by omega)) (fun a b=>by
  by_cases h:a≤b
  ·simp[h]
  ·simp;omega)
 exact h.imp fun q=>of_decide_eq_true q
section
variable{prog:Bo}{w:C8}{A:By}{E:VP}{s:Ah}
theorem y1A(vs:List A8):(A9 vs.length).map (fun i=>vs.getD i C9)=vs:=by
 apply Ie
 ·simp
 ·intro i h1 h2;simp[List.getElem_map,h2]
theorem x7A{a:Ap}{vs:List A8}{n:Nat}{P:Ld->Ah->Prop}{κ:Kz}{lt:Nat->Nat->Bool}(O:KOrd lt)(ho:s.heap.get? a=some (Be "list" vs.toArray n))(fB:vs.length<64)(hk:2≤vs.length->∀h:C5,(∀b o,b≠a->s.heap.get? b=some o->h.get? b=some o)->∀Q:Kz->Ah->Prop,Q κ { s with heap:=h }->Aq (B3 prog w) A (Mm vs.toArray) Q (fun _ _=>False) { s with heap:=h })
  (hc:∀h:C5,(∀b o,b≠a->s.heap.get? b=some o->h.get? b=some o)->∀i j,i<vs.length->j<vs.length->∀C:Bool->Ah->Prop,C (lt i j) { s with heap:=h } ->
   Aq (B3 prog w) A (keyLt' κ (vs.getD i C9) (vs.getD j C9)) C (fun _ _=>False) { s with heap:=h })
  (fin:∀p:Array Nat,p.size=vs.length->p.Perm (Bn (A9 vs.length))->Up lt p vs.length->P (.done (.ret .none)) { s with heap:=sortedHeap s.heap a vs (Bn (p.toList.map fun i=>vs.getD i C9)) }):
  Aq (B3 prog w) A (Df.«list.sort» ⟨[.ref a],[]⟩) P E s:=by
 rw[list_sort_plain];have al:a<s.heap.objs.size:=Am ho
 have hzz:vs.toArray.size≤sizeLine:=by rw[Ag,C3];omega
 refine A4 (Ix ho rfl (A4 (G8 ho rfl ?_ hzz (Bf _))));obtain⟨e1,gH⟩:∃e1,(s.heap.update a (Ca fun _=>(#[]:Array A8))).get? a=some (Be "list" #[] e1):=⟨_,get?_update_seq ho (fun _=>#[])⟩;refine A4 (L0 gH rfl (A4 (wpAny_newTuple (A4 (Hb (Cr ?_) (Bf _))) (by show vs.length≤_;rw[C3];omega))))
 generalize hS:({ s with heap:=((s.heap.update a (Ca fun _=>(#[]:Array A8))).push (Be "tuple" vs.toArray 0)).push (Be "list" #[] 0) }:Ah)=S6
 have hh6:S6.heap=((s.heap.update a (Ca fun _=>(#[]:Array A8))).push (Be "tuple" vs.toArray 0)).push (Be "list" #[] 0):=by rw[←hS]
 have e6:S6={ s with heap:=S6.heap }:=by rw[←hS]
 have ho6:S6.heap.get? a=some (Be "list" #[] e1):=by
  rw[hh6,C5.get?_push_ne _ _ _ (by rw[Lr,Gp];exact Ar (C6 al)),C5.get?_push_ne _ _ _ (by rw[Gp];exact Ar al)]
  exact gH
 have kept:∀b o,b≠a->s.heap.get? b=some o->S6.heap.get? b=some o:=fun b o hb e=>by rw[hh6];exact Aa _ (Aa _ ((B8 _ _ (Cl hb)).trans e))
 show Aq (B3 prog w) A _ P E S6;dsimp only
 have dH:∀(aW:SortSt) (p:Array Nat),p.size=vs.length->p.Perm (Bn (A9 vs.length))->Up lt p vs.length->(arrOf aW).map (·.2)=Bn (p.toList.map fun i=>vs.getD i C9)->Lw aW=none ->
   Aq (B3 prog w) A (do
    let touched:=(←seqEpoch a) != e1
    Df.List.listUpdate (.ref a) fun _=>(arrOf aW).map (·.2)
    if let some e:=Lw aW then rule "list.sort.comparison-raised";throw e
    if touched then rule "list.sort.modified";raiseError "ValueError" "list modified during sort"
    ret .none) P E S6:=fun aW p h1 h2 h3 h4 h5=>by
  refine A4 (L0 ho6 rfl ?_);refine A4 (G8 ho6 rfl ?_ (Bf _) ?_)
  ·rw[h5,h4];simp only[bne_self_eq_false,E9,if_false];have z:=fin p h1 h2 h3;unfold sortedHeap at z;rw[←hh6]at z;refine wpAny_pure ?_;rw[e6];exact z
  ·rw[h4];show (Bn (p.toList.map fun i=>vs.getD i C9)).size≤sizeLine+1;rw[Ag,A0,B4,h1,C3];omega
 by_cases h2:vs.toArray.size<2
 ·rw[if_pos h2,if_pos h2];refine A4 (wpAny_pure ?_);rw[StateT.run_pure];refine A4 (wpAny_pure ?_);dsimp only;refine dH (SortSt.mk' general' (vs.toArray.zip vs.toArray) #[] 7 none) (Bn (A9 vs.length)) (by simp) (Ey _) (fun i j be hj=>?_) ?_ rfl
  ·have:i=j:=by rw[Ag]at h2;omega
   subst this;exact O.irr _
  ·rw[show (Bn (A9 vs.length)).toList=A9 vs.length from rfl,y1A];apply Array.toList_inj.mp;show ((vs.toArray.zip vs.toArray).map (·.2)).toList=vs;apply Ie
   ·simp
   ·intro i g1 g2;simp
 ·rw[if_neg h2,if_neg h2]
  have cO:2≤vs.length:=by rw[Ag]at h2;omega
  have zk:=hk cO S6.heap kept (fun κ' s'=>κ'=κ/\s'=S6) ⟨rfl,e6.symm⟩;rw[←e6]at zk;refine A4 (Ce zk (fun κ' s' hq=>?_) fun _ _ x=>x.elim);obtain⟨jz,iD⟩:=hq;rw[jz,iD];obtain⟨p,ep,p1,p2,p3⟩:=x2Y O (n:=vs.length) (by omega)
  refine A4 (Ce (kat_run (ks:=vs) (vs:=vs) (Q:=fun aW s'=>∃q,q.size=vs.length/\arrOf aW=q.map (kas_item (vs.toArray.zip vs.toArray))/\Lw aW=none/\q=p/\s'=S6) rfl cO fB (fun q aW s' a1 a2 a3 a4=>⟨q,a1,a2,a3,a4⟩)
   (z7G (lt:=lt) (n:=vs.length) (Ok:=fun s'=>s'=S6) (fun i j C s' hi hj hs hC=>?_) _ S6 (x2Z (by omega)) rfl (fun s' hs=>⟨ep,hs⟩))) ?_ fun _ _ e=>e)
  ·rw[hs];unfold kas_ask;have z0:=hC S6 rfl;rw[e6]at z0;have z:=hc S6.heap kept i j hi hj C z0;rw[←e6]at z;exact z
  ·rintro ⟨⟨⟩,aW⟩ s' ⟨q,q1,q2,q3,hqp,hqs⟩;rw[hqs];rw[hqp]at q2;exact dH aW p p1 p2 p3 (kat_snds rfl q2) q3
theorem y1N{l:Ap}{us:List A8}{Q:List A8->Ah->Prop}(ht:Kx s.heap l us.toArray)(q:Q us { s with heap:=(s.heap.push (Be "list" #[] 0)).update s.heap.objs.size (Ca (·++us.toArray)) })(hz:us.length≤sizeLine):Aq (B3 prog w) A (Ly (.ref l)) Q E s:=by
 obtain⟨ob,hob,ay,n,hdt⟩:=id ht;have jr:(s.heap.push (Be "list" #[] 0)).get? l=some ob:=Aa _ hob;unfold Ly;refine A4 (L1 (codeAny_builtin entry_proto_collect' (A4 (Hb (wpAny_pure ⟨Code.quiet_builtin _ (by decide +kernel),codeAny_builtin entry_list_iadd' ?_⟩)))));show Aq _ _ (Df.List.listExtendWith (.ref s.heap.objs.size) (.ref l) (.ref s.heap.objs.size)) _ _ { s with heap:=s.heap.push (Be "list" #[] 0) }
 unfold Df.List.listExtendWith;refine A4 (wpAny_typeOf (T:="tuple") ⟨ob,jr,ay⟩ ?_);rw[if_pos (by rw[show (Cf "tuple"==Cf "tuple")=true by rfl];simp)]
 refine A4 (Ix jr hdt (A4 (Ix (xs:=#[]) (n:=0) (At _ rfl) rfl ?_)));rw[if_neg (by simp)];refine A4 (G8 (xs:=#[]) (n:=0) (At _ rfl) rfl (wpAny_pure ?_) (Bf _) (by show (#[]++us.toArray).size≤sizeLine+1;simp only[Array.size_append,Ag,Cv];omega))
 refine A4 (Mb (get?_update_seq (At _ rfl) _) ?_);show Aq _ _ (Ck ((#[]:Array A8)++us.toArray).toList) Q E _;rw[show ((#[]:Array A8)++us.toArray).toList=us by simp];exact wpAny_pure q
theorem y16{l:Ap}{us:List A8}{Q:VP}{κ:Kz}{lt:Nat->Nat->Bool}(O:KOrd lt)(hl:s.heap.IsList l us.toArray∨Kx s.heap l us.toArray)(fB:us.length<64)(hk:2≤us.length->∀h:C5,(∀b o,s.heap.get? b=some o->h.get? b=some o)->∀Q':Kz->Ah->Prop,Q' κ { s with heap:=h }->Aq (B3 prog w) A.in1.in1 (Mm us.toArray) Q' (fun _ _=>False) { s with heap:=h })
  (hc:∀h:C5,(∀b o,s.heap.get? b=some o->h.get? b=some o)->∀i j,i<us.length->j<us.length->∀C:Bool->Ah->Prop,C (lt i j) { s with heap:=h } ->
   Aq (B3 prog w) A.in1.in1 (keyLt' κ (us.getD i C9) (us.getD j C9)) C (fun _ _=>False) { s with heap:=h })
  (fin:∀p:Array Nat,p.size=us.length->p.Perm (Bn (A9 us.length))->Up lt p us.length->Q (.ref (s.heap.objs.size+1)) { s with heap:=sortedAll s.heap us (Bn (p.toList.map fun i=>us.getD i C9)) }):
  Aq (B3 prog w) A (call (.builtin "sorted") [.ref l]) Q E s:=by
 have hz:us.length≤sizeLine:=by rw[C3];omega
 have h1:((s.heap.push (Be "list" #[] 0)).update s.heap.objs.size (Ca (·++us.toArray))).objs.size=s.heap.objs.size+1:=by rw[Gp,Lr]
 have h2:(((s.heap.push (Be "list" #[] 0)).update s.heap.objs.size (Ca (·++us.toArray))).push (Be "list" us.toArray 0)).get? (s.heap.objs.size+1)=some (Be "list" us.toArray 0):=by have e:=At ((s.heap.push (Be "list" #[] 0)).update s.heap.objs.size (Ca (·++us.toArray))) (o:=Be "list" us.toArray 0) rfl;rw[h1]at e;exact e
 have h3:∀b o,s.heap.get? b=some o->(((s.heap.push (Be "list" #[] 0)).update s.heap.objs.size (Ca (·++us.toArray))).push (Be "list" us.toArray 0)).get? b=some o:=fun b o e=>Aa _ ((B8 _ _ (Cl (Ar (Am e)))).trans (Aa _ e))
 refine Calls.call_function_entry kind_sorted plain_sorted entry_sorted (args_sorted1 _) ?_;unfold Df.«sorted»;refine A4 (m:=checkCount "sorted" 1 1 _) (wpAny_pure ?_)
 have col:∀{A':By} {E':VP} {Q':List A8->Ah->Prop},Q' us { s with heap:=(s.heap.push (Be "list" #[] 0)).update s.heap.objs.size (Ca (·++us.toArray)) }->Aq (B3 prog w) A' (Ly (.ref l)) Q' E' s:=fun q=>by
  rcases hl with hl|hl
  ·exact collect_list hl q hz
  ·exact y1N hl q hz
 refine A4 (col (A4 (Hb ?_ hz)));show Aq _ _ _ _ _ { s with heap:=((s.heap.push (Be "list" #[] 0)).update s.heap.objs.size (Ca (·++us.toArray))).push (Be "list" us.toArray 0) };rw[h1]
 refine A4 (Cr (Id slot_list_sort ⟨_,h2,rfl⟩ entry_list_sort (x7A (κ:=κ) O h2 fB (fun g2 h eu Q' q'=>hk g2 h (fun b o e=>eu b o (Ar (C6 (Am e))) (h3 b o e)) Q' q')
  (fun h eu i j hi hj C hC=>hc h (fun b o e=>eu b o (Ar (C6 (Am e))) (h3 b o e)) i j hi hj C hC) (fun p a1 a2 a3=>⟨_,rfl,wpAny_pure ⟨_,rfl,fin p a1 a2 a3⟩⟩)) (args_list_sort _)))
theorem y6S{b:Bool}{Q:Bool->Ah->Prop}:∀{us ws:List A8} {ns ms:List Int},C4 us ns->C4 ws ms->∀(i:Nat) (fin:Bool),fin=decide (ns.length<ms.length)->Q (HT.lexLt ns ms) s ->
  KatLex prog w A b fin Q (us.zip ws) i s
 |_,_,_,_,.nil,.nil,i,fin,e,q=>by subst e;exact kat_nil q
 |_,_,_,_,.nil,.cons m t h,i,fin,e,q=>by
  have e':fin=true:=by rw[e];simp
  rw[e'];exact kat_nil q
 |_,_,_,_,.cons n t h,.nil,i,fin,e,q=>by
  have e':fin=false:=by rw[e];simp
  rw[e'];exact kat_nil q
 |_,_,_,_,.cons n t h,.cons m t' h',i,fin,e,q=>by
  rw[E8];refine kat_cons (Fj.int_int n t m t' prog w _ _ ?_);rw[HT.lexLt_cons]at q;by_cases du:n=m
  ·rw[show (n==m)=true by simpa using du];rw[if_pos du]at q;exact kat_yes (y6S h h' (i+1) fin (by rw[e];simp) q)
  ·rw[show (n==m)=false by simpa using du];rw[if_neg du]at q;refine kat_no ?_
   cases (b&&i==0) with
   |true=>exact oneLt_int q
   |false=>exact kat_one _ _ (lt_int q)
end
def z1J:List D->Option (List (List Int))
 | []=>some []
 | .tup xs::r=>(match W8 xs with|some (n::ns)=>(z1J r).map ((n::ns)::·)|_=>none)
 |_::_=>none
theorem z3M:∀{ds:List D} {nss:List (List Int)},z1J ds=some nss->ds=nss.map (fun ns=>D.tup (ns.map D.int))/\∀ns∈nss,ns≠[]
 | [],nss,e=>by cases e;exact⟨rfl,fun _ h=>by simp at h⟩
 | .tup xs::r,nss,e=>by
  unfold z1J at e;split at e
  ·rename_i n ns h1;obtain⟨mss,h2,rfl⟩:=Bl.mp e;obtain⟨h3,h4⟩:=z3M h2;refine⟨by rw[h3,W3 h1];rfl,fun ms hm=>?_⟩
   rcases Af.mp hm with z|z
   ·rw[z];simp
   ·exact h4 ms z
  ·cases e
 | .non::r,_,e=>by unfold z1J at e;cases e
 | .bl _::r,_,e=>by unfold z1J at e;cases e
 | .str _::r,_,e=>by unfold z1J at e;cases e
 | .int _::r,_,e=>by unfold z1J at e;cases e
 | .lst _::r,_,e=>by unfold z1J at e;cases e
theorem z52:∀{nss:List (List Int)},(∀ns∈nss,ns≠[])->z1J (nss.map fun ns=>D.tup (ns.map D.int))=some nss
 | [],_=>rfl
 |ns::nss,h=>by
  cases ns with
  |nil=>exact absurd rfl (h [] A6)
  |cons n ns=>rw[Ai,z1J,x12];dsimp only;rw[z52 fun ms hm=>h ms (A7 _ hm)];rfl
def z99(ds:List D):Option (List D):=if ds.length<64 then
  (match W8 ds with
  |some ns=>some ((y24 ns).map D.int)
  |none=>(match z1J ds with|some nss=>some ((y3S nss).map fun ns=>D.tup (ns.map D.int))|none=>none))
 else none
section
variable{X:Cx}
theorem w2G{α:Type}{p:Array Nat}{us:List α}{d:α}(hp:p.Perm (Bn (A9 us.length))):(p.toList.map fun i=>us.getD i d).Perm us:=by
 have h1:p.toList.Perm (A9 us.length):=Array.perm_iff_toList_perm.mp hp;have h2:=h1.map (fun i=>us.getD i d)
 have h3:(A9 us.length).map (fun i=>us.getD i d)=us:=by
  apply Ie
  ·simp
  ·intro i g1 g2;simp[List.getElem_map,g2]
 rw[h3]at h2;exact h2
theorem w1Q{K:A5}{H:Hp}{ds:List D}{xs:List V}(h:j7 K H ds xs):∀is:List Nat,(∀i∈is,i<ds.length)->j7 K H (is.map fun i=>ds.getD i .non) (is.map fun i=>xs.getD i .non)
 | [],_=>j7.nil
 |i::is,hi=>by have h1:i<ds.length:=hi i A6;obtain⟨v,e,r⟩:=h.get (A3 h1);rw[Ai,Ai];refine j7.cons ?_ (w1Q h is fun j hj=>hi j (A7 _ hj));rw[K4 (A3 h1),K4 e];exact r
theorem w1P{xs:List V}{us:List A8}(h:Y3 xs us):∀is:List Nat,(∀i∈is,i<xs.length)->Y3 (is.map fun i=>xs.getD i .non) (is.map fun i=>us.getD i C9)
 | [],_=>.nil
 |i::is,hi=>by have h1:i<xs.length:=hi i A6;obtain⟨v,e,r⟩:=h.get (A3 h1);rw[Ai,Ai];refine .cons ?_ (w1P h is fun j hj=>hi j (A7 _ hj));rw[K4 (A3 h1),K4 e];exact r
theorem z7B{p:Array Nat}{n:Nat}(hp:p.Perm (Bn (A9 n))):∀i∈p.toList,i<n:=fun i hi=>by
 have:=(Array.perm_iff_toList_perm.mp hp).mem_iff.mp hi
 simpa using this
theorem z5T{lt:Nat->Nat->Bool}{p:Array Nat}{n:Nat}(hz:p.size=n)(h:Up lt p n):p.toList.Pairwise fun i j=>lt j i=false:=by
 rw[Ev];intro i j hi hj be
 have aO:i<p.size:=by simpa using hi
 have bG:j<p.size:=by simpa using hj
 have e:=h i j (D8 be) (by omega);unfold gt at e
 have e1:p.getD i 0=p.toList[i]:=by simp[Kk,aO]
 have e2:p.getD j 0=p.toList[j]:=by simp[Kk,bG]
 rw[e1,e2]at e;exact e
theorem y4N:∀{its:List A8} {ns:List Int},C4 its ns->2≤its.length->Mm its.toArray=Ck oneType'
 | [],_,_,h=>absurd h (by simp)
 | [_],_,_,h=>absurd h (by simp)
 |v1::v2::r,ns,hi,_=>keyKind_ints hi
theorem y31{its:List A8}{ns:List Int}(hi:C4 its ns){i:Nat}(h:i<its.length):∃t,its.getD i C9 = .int (ns.getD i 0) t:=by
 have hl:=hi.length
 have h2:i<ns.length:=by omega
 obtain⟨t,e⟩:=hi.get i ns[i] (A3 h2);exact⟨t,by rw[K4 e,K4 (A3 h2)]⟩
theorem x7Z(ns:List Int):KOrd (fun i j=>decide (ns.getD i 0<ns.getD j 0)):=
 ⟨fun i j h=>by
  have:=of_decide_eq_true h
  exact decide_eq_false (by omega),fun i j k h1 h2=>by
  have:=of_decide_eq_false h1
  have:=of_decide_eq_false h2
  exact decide_eq_false (by omega)⟩
theorem x7Y(nss:List (List Int)):KOrd (fun i j=>HT.lexLt (nss.getD i []) (nss.getD j [])):=
 ⟨fun i j h=>z57 _ _ h,fun i j k h1 h2=>z56 _ _ _ h1 h2⟩
theorem x7X{ns:List Int}{p:Array Nat}(p1:p.size=ns.length)(p2:p.Perm (Bn (A9 ns.length)))(p3:Up (fun i j=>decide (ns.getD i 0<ns.getD j 0)) p ns.length):
  (p.toList.map fun i=>(ns.map D.int).getD i .non)=(y24 ns).map D.int:=by
 have e:(p.toList.map fun i=>(ns.map D.int).getD i .non)=(p.toList.map fun i=>ns.getD i 0).map D.int:=by rw[B6];apply B7;intro i hi;have h2:i<ns.length:=z7B p2 i hi;show (ns.map D.int).getD i .non=D.int (ns.getD i 0);rw[K4 (x:=D.int ns[i]) (by rw[Au,A3 h2];rfl),K4 (A3 h2)]
 rw[e];congr 1;refine z76 (le:=fun a b:Int=>a≤b) (fun a b h1 h2=>by omega) ((w2G p2).trans (x0B ns).symm) ?_ (x7C ns) (fun a=>Il a);rw[Bu]
 exact(z5T p1 p3).imp fun h=>by
  have:=of_decide_eq_false h
  omega
theorem x7W{nss:List (List Int)}{p:Array Nat}(p1:p.size=nss.length)(p2:p.Perm (Bn (A9 nss.length)))(p3:Up (fun i j=>HT.lexLt (nss.getD i []) (nss.getD j [])) p nss.length):
  (p.toList.map fun i=>(nss.map fun ns=>D.tup (ns.map D.int)).getD i .non)=(y3S nss).map fun ns=>D.tup (ns.map D.int):=by
 have e:(p.toList.map fun i=>(nss.map fun ns=>D.tup (ns.map D.int)).getD i .non)=(p.toList.map fun i=>nss.getD i []).map fun ns=>D.tup (ns.map D.int):=by rw[B6];apply B7;intro i hi;have h2:i<nss.length:=z7B p2 i hi;show (nss.map fun ns=>D.tup (ns.map D.int)).getD i .non=D.tup ((nss.getD i []).map D.int);rw[K4 (x:=D.tup (nss[i].map D.int)) (by rw[Au,A3 h2];rfl),K4 (A3 h2)]
 rw[e];congr 1;refine z76 (le:=fun a b:List Int=>HT.lexLt b a=false) (fun a b h1 h2=>y2N a b h2 h1) ((w2G p2).trans (z77 nss).symm) ?_ (y89 nss) (fun a=>y4J a);rw[Bu];exact(z5T p1 p3).imp fun h=>h
theorem z95{aa:Pns}{σ:St}{H:Hp}{s:Ah}(I:Inv X aa σ H s){ns:List Int}{x:V}{u:A8}(hr:Rep X.K H (D.tup (ns.map D.int)) x)(rv:z01 x u):
  ∃a o its n,u = .ref a/\s.heap.get? a=some o/\o.cls = .type "tuple"/\o.data = .seq its n/\C4 its.toList ns:=by
 obtain⟨a,xs,rfl,h1,h2⟩:=j3.mp hr;rw[Q8]at h2;subst h2;cases rv;obtain⟨its,r,p,_⟩:=I.tuple h1;obtain⟨o,ho,hc,n,hd⟩:=p;exact⟨a,o,its.toArray,n,rfl,ho,hc,hd,Y1 r⟩
theorem x4W{aa:Pns}{σ:St}{H:Hp}{s:Ah}(I:Inv X aa σ H s){h:C5}(hk:∀b o,s.heap.get? b=some o->h.get? b=some o):∀{nss:List (List Int)} {us:List V} {its:List A8},(∀ns∈nss,ns≠[]) ->
  j7 X.K H (nss.map fun ns=>D.tup (ns.map D.int)) us->Y3 us its->∃fs,KatTups h its fs/\fs.length=its.length/\∀v∈fs,∃n t,v=Gm n t
 | [],us,its,_,hr,rv=>by rw[Ft,J6]at hr;subst hr;cases rv;exact⟨[],KatTups.nil,rfl,fun v hv=>by simp at hv⟩
 |ns::nss,us,its,ag,hr,rv=>by
  rw[Ai,j0]at hr;obtain⟨x,xs,rfl,h1,h2⟩:=hr
  cases rv with
  |cons r1 r2=>
   obtain⟨fs,t1,t2,t3⟩:=x4W I hk (fun ms hm=>ag ms (A7 _ hm)) h2 r2;obtain⟨a,o,js,n,rfl,ho,hc,hd,hi⟩:=z95 I h1 r1
   cases ns with
   |nil=>exact absurd rfl (ag [] A6)
   |cons m ms=>
    obtain⟨t,e⟩:=hi.get 0 m rfl
    have e':js[0]?=some (Gm m t):=by simpa using e
    refine⟨Gm m t::fs,KatTups.cons (hk _ _ ho) hc hd e' t1,by simp[t2],fun v hv=>?_⟩;rcases Af.mp hv with z|z
    ·exact⟨m,t,z⟩
    ·exact t3 v z
def w4F(K:A5):List V->Hp->VK->Prop:=fun xs H Q=>∃a us ds es Hh,xs=[.ref a]/\j6 Hh H/\(SqL K H a us∨SqT K H a us)/\j7 K Hh ds us/\z99 ds=some es/\∀p ys,H p=none->j7 K Hh es ys->Q (.ref p) (upd H p (.lst ys))
theorem y79:z0X X (.builtin "sorted") (w4F X.K):=by
 intro aa s σ H xs vs Q I r h;obtain⟨a,us,ds,es,Hh,rfl,sH,hq,hr0,hs,q⟩:=h;have hr:=hr0.mono sH;obtain⟨u,rfl,ru⟩:=z3K r;cases ru
 have src:∃its:List A8,Y3 us its/\(s.heap.IsList a its.toArray∨Kx s.heap a its.toArray):=by
  rcases hq with hq|hq
  ·obtain⟨its,rv,pl,_⟩:=I.list hq;exact⟨its,rv,.inl pl.isList⟩
  ·obtain⟨its,rv,pl,_⟩:=I.tuple hq;exact⟨its,rv,.inr pl⟩
 obtain⟨its,rv,hl⟩:=src;have l1:=hr.length;have l2:=rv.length;unfold z99 at hs;split at hs
 ·rename_i fB
  have fin:∀p:Array Nat,p.size=its.length->p.Perm (Bn (A9 its.length))->(p.toList.map fun i=>ds.getD i .non)=es ->
    EP X aa σ Q (.ref (s.heap.objs.size+1)) { s with heap:=sortedAll s.heap its (Bn (p.toList.map fun i=>its.getD i C9)) }:=fun p p1 p2 p3=>by
   have pl:∀i∈p.toList,i<its.length:=z7B p2
   have v1:Y3 (p.toList.map fun i=>us.getD i .non) (p.toList.map fun i=>its.getD i C9):=w1P rv _ fun i hi=>by have:=pl i hi;omega
   have v2:j7 X.K Hh es (p.toList.map fun i=>us.getD i .non):=by
    rw[←p3]
    exact w1Q hr0 _ fun i hi=>by have:=pl i hi;omega
   obtain⟨e,he⟩:=sortedAll_at s.heap its (Bn (p.toList.map fun i=>its.getD i C9));have bJ:H (s.heap.objs.size+1)=none:=I.hok.fresh (Dq _);refine⟨.ref (s.heap.objs.size+1),_,I.laid (t':=s.toks) (a:=s.heap.objs.size+1) (o:=.lst (p.toList.map fun i=>us.getD i .non)) (fun b o hb=>sortedAll_old hb) (Dq _) ?_,rfl,q _ _ bJ v2⟩;refine⟨?_,_,e,v1,he⟩;rw[A0,B4,p1,C3]
   omega
  split at hs
  ·rename_i ns hn;cases hs;have hd:=W3 hn;subst hd;have hus:=Q8.mp hr;subst hus;have hi:C4 its ns:=Y1 rv;have hz:its.length=ns.length:=hi.length;refine y16 (κ:=oneType') (x7Z ns) hl (by omega) (fun g2 h eu Q' q'=>?_) (fun h eu i j aO bG C hC=>?_) (fun p p1 p2 p3=>fin p p1 p2 (x7X (by rw[p1,hz]) (by rw[←hz];exact p2) (by rw[←hz];exact p3)))
   ·rw[y4N hi g2];exact wpAny_pure q'
   ·obtain⟨ti,ei⟩:=y31 hi aO;obtain⟨tj,ej⟩:=y31 hi bG;rw[ei,ej,keyLt'_oneType];exact oneLt_int hC
  ·split at hs
   ·rename_i nss hn;cases hs;obtain⟨hd,ag⟩:=z3M hn;subst hd
    have hz:its.length=nss.length:=by rw[←l2,←l1,A0]
    refine y16 (κ:=tuples' (Cf "int" != Cf "tuple")) (x7Y nss) hl (by omega) (fun g2 h eu Q' q'=>?_) (fun h eu i j aO bG C hC=>?_) (fun p p1 p2 p3=>fin p p1 p2 (x7W (by rw[p1,hz]) (by rw[←hz];exact p2) (by rw[←hz];exact p3)))
    ·obtain⟨fs,t1,t2,t3⟩:=x4W I eu ag hr rv;refine kat_kind (s:={ s with heap:=h }) t1 (by omega) (fun v hv=>?_) rfl q';obtain⟨n,t,rfl⟩:=t3 v hv;exact Looks.of_pure rfl
    ·have gi:i<nss.length:=by omega
     have gj:j<nss.length:=by omega
     obtain⟨xi,e1,r1⟩:=hr.get (i:=i) (d:=D.tup (nss[i].map D.int)) (by rw[Au,A3 gi];rfl)
     obtain⟨xj,e2,r2⟩:=hr.get (i:=j) (d:=D.tup (nss[j].map D.int)) (by rw[Au,A3 gj];rfl)
     obtain⟨ui,f1,s1⟩:=rv.get e1;obtain⟨uj,f2,s2⟩:=rv.get e2;obtain⟨ai,oi,ji,ni,rfl,iW,fE,hdi,ii⟩:=z95 I r1 s1;obtain⟨aj,oj,jj,nj,rfl,hoj,hcj,hdj,ij⟩:=z95 I r2 s2;rw[K4 f1,K4 f2];rw[K4 (A3 gi),K4 (A3 gj)]at hC;refine kat_lt (s:={ s with heap:=h }) (eu _ _ iW) hdi (eu _ _ hoj) hdj (y6S ii ij 0 _ ?_ hC);have a1:=ii.length;have a2:=ij.length;rw[B4]at a1 a2
     rw[a1,a2]
   ·cases hs
 ·cases hs
end
end L3
namespace L3
open PySem PySem.Spec PyProof.Rows L2 PySem.SeqAt
def RdC(K:A5)(r:List V->Hp->VK->Prop)(F:LD):Prop:=∀ds d,F ds=some d->∀(Z:List Ap) (H:Hp) (vs:List V) (Q:VK),(∀z∈Z,∃o,H z=some o)->j7 K (J3 Z H) ds vs->(∀w' H',j6 H H'->Rep K (J3 Z H') d w'->Q w' H')->r vs H Q
def w66(K:A5)(r:List V->Hp->VK->Prop)(F:List D->Option (List D)):Prop:=
 ∀ds es,F ds=some es->∀(Z:List Ap) (H:Hp) (a:Ap) (xs:List V) (Q:VK),(∀z∈Z,∃o,H z=some o)->(SqL K H a xs∨SqT K (J3 Z H) a xs)->j7 K (J3 Z H) ds xs ->
  (∀l ys H',j6 H H'->H l=none->H' l=some (.lst ys)->j7 K (J3 (l::Z) H') es ys->Q (.ref l) H')->r [.ref a] H Q
noncomputable def dQ(F:LD)(f:EL):ED:=fun ρ=>match f ρ with|some ds=>F ds|none=>none
noncomputable def dQF(F:List D->Option (List D))(f:EL):EL:=fun ρ=>match f ρ with|some ds=>F ds|none=>none
section
variable{X:Cx}{x:Bb}{p pos:F2}{e:Expr}{es:List Expr}{id T:String}{r:List V->Hp->VK->Prop}{F:LD}{FL:List D->Option (List D)}{g f:EL}
theorem y5C{K:A5}(hr:RdC K r F):∀σ H Q,tD K (x5 F g) σ H Q->tCB r (tL K g) σ H Q:=fun σ H Q h_=>by
 refine ex6 h_ fun ρ d B H0 V0 Z e r' q=>?_;unfold x5 at e;split at e
 ·rename_i ds aD;exact⟨ρ,ds,B,H0,V0,Z,aD,r',fun vs H1 s1 rr=>hr ds d e Z H1 vs Q (r'.mono s1).zs rr fun w' H' s rw'=>q w' H' (s1.trans s) rw'⟩
 ·cases e
theorem z8R(hc:z0X X (.builtin id) r)(hr:RdC X.K r F)(hm:X.mg x=none)(hv:B5 x=some (.builtin id))(ha:SA X (e::es) g)(hg:Gl X x:=by rfl)(hn:x≠"__name__":=by decide)(bC:(x==("__debug__":Bb))=false:=by decide)(he:Ac (e::es) X.env=(false,C0 e X.env)::Ac es X.env:=by exact v5 rfl)(ah:(Bs pos (Ac es X.env)).any (·.1)=false:=by exact j8 rfl):SE X (.Call (.Name x p) (e::es) [] pos) (x5 F g):=u7 (z1V hc hg hm hv ha hn bC he ah) (y5C hr)
theorem x34(hc:z0X X (.type T) r)(hr:RdC X.K r F)(hm:X.mg x=none)(hv:B5 x=some (.type T))(ha:SA X (e::es) g)(hg:Gl X x:=by rfl)(hn:x≠"__name__":=by decide)(bC:(x==("__debug__":Bb))=false:=by decide)(he:Ac (e::es) X.env=(false,C0 e X.env)::Ac es X.env:=by exact v5 rfl)(ah:(Bs pos (Ac es X.env)).any (·.1)=false:=by exact j8 rfl):SE X (.Call (.Name x p) (e::es) [] pos) (x5 F g):=u7 (z0M hc hg hm hv ha hn bC he ah) (y5C hr)
theorem y1P{K:A5}(hr:w66 K r FL):∀σ H Q,tF K (dQF FL f) σ H Q->tCB r (w0Z (tQ K f) w6B) σ H Q:=fun σ H Q h_=>by
 refine ex6 h_ fun ρ d B H0 V0 Z e r' q=>?_;unfold dQF at e;split at e
 ·rename_i ds aD;exact⟨ρ,ds,B,H0,V0,Z,aD,r',fun a xs H1 s1 hq rr=>hr ds d e Z H1 a xs Q (r'.mono s1).zs hq rr fun l ys H' s hn hl rw'=>q l ys H' (s1.trans s) (s1.free hn) hl rw'⟩
 ·cases e
theorem x7D(hc:z0X X (.builtin id) r)(hr:w66 X.K r FL)(hm:X.mg x=none)(hv:B5 x=some (.builtin id))(h:SQ X e f)(hg:Gl X x:=by rfl)(hn:x≠"__name__":=by decide)(bC:(x==("__debug__":Bb))=false:=by decide)(he:Ac [e] X.env=(false,C0 e X.env)::Ac [] X.env:=by exact v5 rfl)(ah:(Bs pos (Ac [] X.env)).any (·.1)=false:=by exact j8 rfl):SF X (.Call (.Name x p) [e] [] pos) (dQF FL f):=u7 (z1V hc hg hm hv (g9 h Y0 he) hn bC he ah) (y1P hr)
theorem x0C(hc:z0X X (.type T) r)(hr:w66 X.K r FL)(hm:X.mg x=none)(hv:B5 x=some (.type T))(h:SQ X e f)(hg:Gl X x:=by rfl)(hn:x≠"__name__":=by decide)(bC:(x==("__debug__":Bb))=false:=by decide)(he:Ac [e] X.env=(false,C0 e X.env)::Ac [] X.env:=by exact v5 rfl)(ah:(Bs pos (Ac [] X.env)).any (·.1)=false:=by exact j8 rfl):SF X (.Call (.Name x p) [e] [] pos) (dQF FL f):=u7 (z0M hc hg hm hv (g9 h Y0 he) hn bC he ah) (y1P hr)
end
section
variable{X:Cx}{p pos:F2}{e:Expr}{f:EL}
theorem y8S{Z:List Ap}{H:Hp}(zs:∀z∈Z,∃o,H z=some o){l:Ap}(hl:H l=none):l∉Z:=fun z=>by obtain⟨o,ho⟩:=zs _ z;rw[hl]at ho;cases ho
theorem x3F{K:A5}:w66 K (w4F K) z99:=by intro ds es hs Z H a xs Q zs hq rr q;refine⟨a,xs,ds,es,J3 Z H,rfl,x4,hq.imp id (u9 x4),rr,hs,fun l ys hl ry=>?_⟩;exact q l ys _ (j4 hl) hl x9 (ry.mono (z0O hl (j4 hl)))
theorem z73(hm:X.mg "sorted" = none)(h:ZQ X e f)(hg:Gl X "sorted":=by rfl)(hv:B5 "sorted" = some (.builtin "sorted"):=by decide +kernel)(he:Ac [e] X.env=(false,C0 e X.env)::Ac [] X.env:=by exact v5 rfl)(ah:(Bs pos (Ac [] X.env)).any (·.1)=false:=by exact j8 rfl):ZF X (.Call (.Name "sorted" p) [e] [] pos) (dQF z99 f):=
 ⟨have h:=h.h;
 x7D y79 x3F hm hv h hg (by decide) (by decide) he ah⟩
theorem w1C{K:A5}:w66 K (fun xs H Q=>∃p ys,xs=[.ref p]/\(SqL K H p ys∨SqT K H p ys)/\∀l,H l=none->Q (.ref l) (upd H l (.lst ys))) some:=by intro ds es hs Z H a xs Q zs hq rr q;cases hs;refine⟨a,xs,rfl,hq.imp id (u9 x4),fun l hl=>?_⟩;exact q l xs _ (j4 hl) hl x9 (rr.mono (z0O hl (j4 hl)))
theorem x6Y(hm:X.mg "list" = none)(h:ZQ X e f)(hg:Gl X "list":=by rfl)(hv:B5 "list" = some (.type "list"):=by decide +kernel)(he:Ac [e] X.env=(false,C0 e X.env)::Ac [] X.env:=by exact v5 rfl)(ah:(Bs pos (Ac [] X.env)).any (·.1)=false:=by exact j8 rfl):ZF X (.Call (.Name "list" p) [e] [] pos) (dQF some f):=
 ⟨have h:=h.h;
 x0C y5A w1C hm hv h hg (by decide) (by decide) he ah⟩
noncomputable def w8Y(K:A5):List V->Hp->VK->Prop:=fun xs H Q=>∃p,∃bs:List Bool,xs=[.ref p]/\SqL K H p (bs.map V.bl)/\Q (.bl (bs.all id)) H
theorem y9V:∀{bs:List Bool} {us:List A8},Y3 (bs.map V.bl) us->LSm.BoolsAre us bs
 | [],_,.nil=>.nil
 |b::bs,_,.cons r t=>by cases r;exact .cons _ (y9V t)
theorem x8W(hc:X.calm=true):z0X X (.builtin "all") (w8Y X.K):=by
 intro aa s σ H xs us Q I r h;obtain⟨l,bs,rfl,hq,q⟩:=h;obtain⟨u,rfl,rx⟩:=z3K r;cases rx;obtain⟨vs,rv,pl,hz⟩:=I.list hq;have hl:=pl.isList;have hb:=y9V rv
 have al:l<s.heap.objs.size:=by obtain⟨_,e,_⟩:=hl;exact Am e
 refine call_all_walk (Hr hl ?_)
 refine⟨s.heap.objs.size,[s.heap.objs.size,l],[s.heap.objs.size],vs.toArray.size,_,_,fun i=>(bs[i]?).getD true,rfl,M4.list (A:=X.A.in1) (I.ok.hd hc) _ l (Ar al) vs.toArray,
  ⟨⟨_,At _ rfl,rfl,rfl⟩,hl.push _⟩,fun i v s' Q' E' hP hQ=>?_,fun h' tk hk=>?_⟩
 ·obtain⟨b,e,rfl⟩:=hb.get i v (by simpa using hP);simp only[e,Option.getD_some]at hQ;exact Cm hQ
 ·have e:((A9 vs.toArray.size).all fun i=>(bs[i]?).getD true)=bs.all id:=by rw[Ag,hb.length];exact LSm.range_all bs
  rw[e];exact⟨.bl _,H,I.kept (LSm.kept_iter hk),rfl,q⟩
noncomputable def z7S:List D->Option (List Bool)
 | []=>some []
 | .bl b::r=>(z7S r).map (b::·)
 |_::_=>none
theorem y1Q:∀{ds:List D} {bs:List Bool},z7S ds=some bs->ds=bs.map D.bl
 | [],bs,e=>by cases e;rfl
 | .bl b::r,bs,e=>by unfold z7S at e;obtain⟨cs,h1,rfl⟩:=Bl.mp e;rw[y1Q h1];rfl
 | .int _::r,_,e=>by unfold z7S at e;cases e
 | .non::r,_,e=>by unfold z7S at e;cases e
 | .str _::r,_,e=>by unfold z7S at e;cases e
 | .tup _::r,_,e=>by unfold z7S at e;cases e
 | .lst _::r,_,e=>by unfold z7S at e;cases e
 | .dct _ _::r,_,e=>by unfold z7S at e;cases e
theorem y8F{K:A5}{H:Hp}:∀{bs:List Bool} {xs:List V},j7 K H (bs.map D.bl) xs->xs=bs.map V.bl
 | [],xs,h=>J6.mp h
 |b::bs,xs,h=>by obtain⟨v,vs,rfl,h1,h2⟩:=j0.mp h;rw[J8.mp h1,y8F h2];rfl
def w3M(f:EL):ED:=fun ρ=>match f ρ with|some ds=>(match z7S ds with|some bs=>some (.bl (bs.all id))|none=>none)|none=>none
theorem x2K(hc:X.calm=true)(hm:X.mg "all" = none)(h:ZF X e f)(hg:Gl X "all":=by rfl)(hv:B5 "all" = some (.builtin "all"):=by decide +kernel)(he:Ac [e] X.env=(false,C0 e X.env)::Ac [] X.env:=by exact v5 rfl)(ah:(Bs pos (Ac [] X.env)).any (·.1)=false:=by exact j8 rfl):ZE X (.Call (.Name "all" p) [e] [] pos) (w3M f):=
 ⟨have h:=h.h;
 u7 (z1V (x8W hc) hg hm hv (g9 h Y0 he) (by decide) (by decide) he ah) fun σ H Q h_=>by
  refine ex6 h_ fun ρ d B H0 V0 Z e r q=>?_;unfold w3M at e;split at e
  ·rename_i ds aD;split at e
   ·rename_i bs hb;cases e
    have:=y1Q hb
    subst this;refine⟨ρ,_,B,H0,V0,Z,aD,r,fun a xs H' s hn ha rr=>⟨a,bs,rfl,?_,q _ H' s (J8.mpr rfl)⟩⟩;rw[←y8F rr];exact SqL.of ha
   ·cases e
  ·cases e⟩
noncomputable def tyN:D->String
 | .non=>"NoneType"
 | .bl _=>"bool"
 | .int _=>"int"
 | .str _=>"str"
 | .tup _=>"tuple"
 | .lst _=>"list"
 | .dct _ _=>"dict"
def y4Q(T:String)(d:D):Bool:=tyN d==T||(T=="int"&&tyN d=="bool")
def w8X(K:A5)(T:String):List V->Hp->VK->Prop:=fun xs H Q=>∃x d,xs=[x,.ty T]/\Rep K H d x/\Q (.bl (y4Q T d)) H
def Kit(T:String):Prop:=∀(K:A5) (d:D),Er K (.type (tyN d)) (.type T)=some (y4Q T d)
theorem x4S{T:String} (h:∀K:A5,Er K (.type "NoneType") (.type T)=some (y4Q T .non)/\Er K (.type "bool") (.type T)=some (y4Q T (.bl true))/\Er K (.type "int") (.type T)=some (y4Q T (.int 0))/\Er K (.type "str") (.type T)=some (y4Q T (.str ⟨#[]⟩)) /\
  Er K (.type "tuple") (.type T)=some (y4Q T (.tup []))/\Er K (.type "list") (.type T)=some (y4Q T (.lst []))/\Er K (.type "dict") (.type T)=some (y4Q T (.dct [] []))):Kit T:=fun K d=>by
 obtain⟨h1,h2,h3,h4,h5,h6,h7⟩:=h K
 cases d with
 |non=>exact h1
 |bl _=>exact h2
 |int _=>exact h3
 |str _=>exact h4
 |tup _=>exact h5
 |lst _=>exact h6
 |dct _ _=>exact h7
theorem x4T:Kit "int":=x4S fun K=>⟨rfl,rfl,rfl,rfl,rfl,rfl,rfl⟩
theorem y2O:Kit "bool":=x4S fun K=>⟨rfl,rfl,rfl,rfl,rfl,rfl,rfl⟩
theorem x4R:Kit "tuple":=x4S fun K=>⟨rfl,rfl,rfl,rfl,rfl,rfl,rfl⟩
theorem x8V{T:String}(kt:Kit T):z0X X (.builtin "isinstance") (w8X X.K T):=by
 intro aa s σ H xs us Q I r h;obtain⟨x,d,rfl,hx,q⟩:=h;obtain⟨u,w',rfl,ru,rw'⟩:=x2O r;cases rw';have e:=kt X.K d;have fin:∀tk,EP X aa σ Q (.bool (y4Q T d)) { s with toks:=tk }:=fun tk=>⟨.bl _,H,I.tok tk,rfl,q⟩
 cases d with
 |non=>obtain rfl:=Z0.mp hx;cases ru;exact F0 PySem.W.kitx_none I.kIn Fw e (fun z=>nomatch z) fin
 |bl b=>obtain rfl:=J8.mp hx;cases ru;exact F0 PySem.W.kitx_bool I.kIn Fw e (fun z=>nomatch z) fin
 |int i=>obtain rfl:=w6.mp hx;obtain⟨t,rfl⟩:=ru;exact F0 PySem.W.kitx_int I.kIn Fw e (fun z=>nomatch z) fin
 |str i=>obtain rfl:=W9.mp hx;obtain⟨t,rfl⟩:=ru;exact F0 PySem.W.kitx_str I.kIn Fw e (fun z=>nomatch z) fin
 |tup ds=>obtain⟨a,ys,rfl,h1,_⟩:=j3.mp hx;cases ru;obtain⟨its,_,⟨o,h1,h2,_⟩,_⟩:=I.tuple h1;exact F0 PySem.W.kitx_tuple I.kIn ⟨o,h1,h2⟩ e (fun z=>nomatch z) fin
 |lst ds=>obtain⟨a,ys,rfl,h1,_⟩:=J5.mp hx;cases ru;obtain⟨its,_,⟨o,n,h1,h2,_⟩,_⟩:=I.list h1;exact F0 PySem.W.kitx_list I.kIn ⟨o,h1,h2⟩ e (fun z=>nomatch z) fin
 |dct ks ds=>obtain⟨a,kvs,rfl,h1,_⟩:=Z8.mp hx;cases ru;obtain⟨o,h1,h2⟩:=y71 I h1;exact F0 PySem.W.kitx_dict I.kIn ⟨o,h1,h2⟩ e (fun z=>nomatch z) fin
def x27(T:String)(f:ED):ED:=fun ρ=>match f ρ with|some d=>some (.bl (y4Q T d))|none=>none
theorem z75{T:String}{x:Bb}{p1 p2:F2}{fe:ED}(kt:Kit T)(hm:X.mg "isinstance" = none)(hmT:X.mg x=none)(h:ZE X e fe)(hvT:B5 x=some (.type T))(hg:Gl X "isinstance":=by rfl)(hgT:Gl X x:=by rfl)(hv:B5 "isinstance" = some (.builtin "isinstance"):=by decide +kernel)(hn:x≠"__name__":=by decide)(bC:(x==("__debug__":Bb))=false:=by decide)(he:Ac [e,.Name x p1] X.env=(false,C0 e X.env)::Ac [.Name x p1] X.env:=by exact v5 rfl)(bV:Ac [.Name x p1] X.env=(false,C0 (.Name x p1) X.env)::Ac [] X.env:=by exact v5 rfl)(ah:(Bs pos (Ac [.Name x p1] X.env)).any (·.1)=false:=by exact j8 rfl):ZE X (.Call (.Name "isinstance" p2) [e,.Name x p1] [] pos) (x27 T fe):=
 ⟨have h:=h.h;
 u7 (z1V (x8V kt) hg hm hv (g9 h (g9 (w1W hgT hmT hvT (v:=.ty T) rfl hn bC) Y0 bV) he) (by decide) (by decide) he ah) fun σ H Q h_=>by
  refine ex6 h_ fun ρ d B H0 V0 Z e r q=>?_;unfold x27 at e;split at e
  ·rename_i d' ed;cases e;exact⟨ρ,d',B,H0,V0,Z,ed,r,fun v H' s rr=>⟨v,d',rfl,rr.mono x4,q _ H' s (J8.mpr rfl)⟩⟩
  ·cases e⟩
end
section
variable{X:Cx}{p p2 pos aJ:F2}{a b e:Expr}{f:EL}{fa fb:ED}
def w1F:List V->Hp->VK->Prop:=fun xs H Q=>∃j:Int,xs=[.int j]/\∀p,H p=none->Q (.ref p) (upd H p (.rng 0 j))
theorem y0D:z0X X (.type "range") w1F:=by intro aa s σ H xs us Q I r h;obtain⟨j,rfl,q⟩:=h;obtain⟨u,rfl,ru⟩:=z3K r;obtain⟨t,rfl⟩:=ru;exact call_range_1 ⟨.ref s.heap.objs.size,_,I.laid (o:=.rng 0 j) (fun b o e=>Aa _ e) (Ak _) ⟨_,_,_,At _ rfl⟩,rfl,q _ I.fresh⟩
noncomputable def iUp(lo:Int)(n:Nat):List Int:=(A9 n).map fun (k:Nat)=>lo+(k:Int)
def x7J:List V->Hp->VK->Prop:=fun xs H Q=>∃p,∃j:Int,xs=[.ref p]/\H p=some (.rng 0 j)/\-(2 ^ 62)≤j/\j≤1000000/\∀l,H l=none->Q (.ref l) (upd H l (.lst ((iUp 0 j.toNat).map V.int)))
theorem y2Y(hc:X.calm=true):z0X X (.type "list") x7J:=by
 intro aa s σ H xs us Q I r h;obtain⟨p,j,rfl,hp,h1,h2,q⟩:=h;obtain⟨u,rfl,ru⟩:=z3K r;cases ru;obtain⟨t,u,v,ho⟩:=(show z1D X.prog X.w H s.heap p (.rng 0 j) from I.hok p _ hp)
 have hn:Hj 0 j 1=((j.toNat:Nat):Int):=by rw[Lg];split<;>omega
 refine call_list_range (I.ok.hd hc) ho (small_one (by omega) (by omega) h1 (by omega)) hn (by omega) fun h' tk aM c' hk hS' aP=>?_;refine⟨.ref s.heap.objs.size,_,I.laid (o:=.lst ((iUp 0 j.toNat).map V.int)) hk (Ak _) ⟨?_,aM.toList,c',?_,?_⟩,rfl,q _ I.fresh⟩
 ·unfold iUp;rw[A0,A0,As,C3];omega
 ·have hv:∀(n:Nat) (af:List A8) (lo:Nat),af.length=n->(∀(i:Nat) v,af[i]?=some v->∃t,v = .int (0+((lo+i:Nat):Int)*1) t)->Y3 (((A9 n).map fun (k:Nat)=>(0:Int)+((lo+k:Nat):Int)).map V.int) af:=by
   intro n
   induction n with
   |zero=>intro af lo hl _;cases af with|nil=>exact .nil|cons _ _=>cases hl
   |succ n ih=>
    intro af lo hl hg
    cases af with
    |nil=>cases hl
    |cons x af=>
     rw[Fv,Ai,Ai];refine .cons ?_ ?_
     ·obtain⟨t,e⟩:=hg 0 x rfl;exact⟨t,by rw[e];simp⟩
     ·rw[B6,B6]
      have:=ih af (lo+1) (by simpa using hl) fun i v hv=>by obtain⟨t,e⟩:=hg (i+1) v (by simpa using hv);refine⟨t,?_⟩;rw[e];congr 3;omega
      rw[B6]at this;refine Eq.mp (congrArg (fun l=>Y3 l af) (B7 fun k _=>?_)) this;simp only[Jt];congr 2;omega
  have:=hv j.toNat aM.toList 0 (by simpa using aP.1) fun i v e=>by obtain⟨t,e'⟩:=aP.2 i v (by simpa using e);exact⟨t,by rw[e'];simp⟩
  unfold iUp;refine Eq.mp (congrArg (fun l=>Y3 l aM.toList) ?_) this;simp
 ·simpa using hS'
def Y7(f:ED):EL:=fun ρ=>match f ρ with|some (.int j)=>if -(2 ^ 62)≤j/\j≤100000 then some ((iUp 0 j.toNat).map D.int) else none|_=>none
theorem z5S(hc:X.calm=true)(hm:X.mg "list" = none)(dm:X.mg "range" = none)(h:ZE X a fa)(hg:Gl X "list":=by rfl)(ip:Gl X "range":=by rfl)(hv:B5 "list" = some (.type "list"):=by decide +kernel)(gy:B5 "range" = some (.type "range"):=by decide +kernel)(he:Ac [a] X.env=(false,C0 a X.env)::Ac [] X.env:=by exact v5 rfl)(ah:(Bs aJ (Ac [] X.env)).any (·.1)=false:=by exact j8 rfl)(bV:Ac [.Call (.Name "range" p2) [a] [] aJ] X.env=(false,C0 (.Call (.Name "range" p2) [a] [] aJ) X.env)::Ac [] X.env:=by exact v5 rfl)(dF:(Bs pos (Ac [] X.env)).any (·.1)=false:=by exact j8 rfl):ZF X (.Call (.Name "list" p) [.Call (.Name "range" p2) [a] [] aJ] [] pos) (Y7 fa):=
 ⟨have h:=h.h;
 u7 (z0M (y2Y hc) hg hm hv (g9 (z0M y0D ip dm gy (g9 h Y0 he) (by decide) (by decide) he ah) Y0 bV) (by decide) (by decide) bV dF) fun σ H Q h_=>by
  refine ex6 h_ fun ρ d B H0 V0 Z e r q=>?_;unfold Y7 at e;split at e
  ·rename_i j ej;split at e
   ·rename_i hj;cases e;refine⟨ρ,_,B,H0,V0,Z,ej,r,fun v H' s rr=>?_⟩
    obtain rfl:=w6.mp rr
    refine⟨j,rfl,fun p1 ff=>⟨p1,j,rfl,x9,hj.1,by omega,fun l hl=>?_⟩⟩;have s1:=j4 (o:=HO.rng 0 j) ff;have s2:=j4 (o:=HO.lst ((iUp 0 j.toNat).map V.int)) hl;exact q l _ _ (s.trans (s1.trans s2)) ((s.trans s1).free hl) x9 (Q8.mpr rfl)
   ·cases e
  ·cases e⟩
noncomputable def x26:LD:=fun ds=>match ds with|[.int i,.int j]=>some (.int (if j<i then j else i))|_=>none
noncomputable def w0D:LD:=fun ds=>match ds with|[.int i,.int j]=>some (.int (if j>i then j else i))|_=>none
theorem z8S{K:A5}{H:Hp}{d e:D}{xs:List V}(h:j7 K H [d,e] xs):∃u v,xs=[u,v]/\Rep K H d u/\Rep K H e v:=by
 obtain⟨u,vs,rfl,h1,h2⟩:=j0.mp h;obtain⟨v,ws,rfl,h3,h4⟩:=j0.mp h2
 obtain rfl:=J6.mp h4
 exact⟨u,v,rfl,h1,h3⟩
theorem y8D{K:A5}{H:Hp}{d:D}{xs:List V}(h:j7 K H [d] xs):∃u,xs=[u]/\Rep K H d u:=by
 obtain⟨u,vs,rfl,h1,h2⟩:=j0.mp h
 obtain rfl:=J6.mp h2
 exact⟨u,rfl,h1⟩
theorem x9E{K:A5}:RdC K (fun xs H Q=>∃i j,xs=[.int i,.int j]/\Q (.int (if j<i then j else i)) H) x26:=by
 intro ds d e Z H vs Q zs rr q;unfold x26 at e;split at e
 ·rename_i i j;cases e;obtain⟨u,v,rfl,h1,h2⟩:=z8S rr
  obtain rfl:=w6.mp h1
  obtain rfl:=w6.mp h2
  exact⟨i,j,rfl,q _ H (j6.refl H) (w6.mpr rfl)⟩
 ·cases e
theorem x9F{K:A5}:RdC K (fun xs H Q=>∃i j,xs=[.int i,.int j]/\Q (.int (if j>i then j else i)) H) w0D:=by
 intro ds d e Z H vs Q zs rr q;unfold w0D at e;split at e
 ·rename_i i j;cases e;obtain⟨u,v,rfl,h1,h2⟩:=z8S rr
  obtain rfl:=w6.mp h1
  obtain rfl:=w6.mp h2
  exact⟨i,j,rfl,q _ H (j6.refl H) (w6.mpr rfl)⟩
 ·cases e
theorem z8P(hc:X.calm=true)(hm:X.mg "min" = none)(ha:ZE X a fa)(hb:ZE X b fb)(hg:Gl X "min":=by rfl)(hv:B5 "min" = some (.builtin "min"):=by decide +kernel)(he:Ac [a,b] X.env=(false,C0 a X.env)::Ac [b] X.env:=by exact v5 rfl)(bV:Ac [b] X.env=(false,C0 b X.env)::Ac [] X.env:=by exact v5 rfl)(ah:(Bs pos (Ac [b] X.env)).any (·.1)=false:=by exact j8 rfl):ZE X (.Call (.Name "min" p) [a,b] [] pos) (x5 x26 (z7 fa (z7 fb u3))):=
 ⟨have ha:=ha.h;
 have hb:=hb.h;
 z8R (y57 hc) x9E hm hv (z2T ha (z2T hb y19 bV) he) hg (by decide) (by decide) he ah⟩
theorem y81(hc:X.calm=true)(hm:X.mg "max" = none)(ha:ZE X a fa)(hb:ZE X b fb)(hg:Gl X "max":=by rfl)(hv:B5 "max" = some (.builtin "max"):=by decide +kernel)(he:Ac [a,b] X.env=(false,C0 a X.env)::Ac [b] X.env:=by exact v5 rfl)(bV:Ac [b] X.env=(false,C0 b X.env)::Ac [] X.env:=by exact v5 rfl)(ah:(Bs pos (Ac [b] X.env)).any (·.1)=false:=by exact j8 rfl):ZE X (.Call (.Name "max" p) [a,b] [] pos) (x5 w0D (z7 fa (z7 fb u3))):=
 ⟨have ha:=ha.h;
 have hb:=hb.h;
 z8R (y59 hc) x9F hm hv (z2T ha (z2T hb y19 bV) he) hg (by decide) (by decide) he ah⟩
noncomputable def fBool:LD:=fun ds=>match ds with|[.int i]=>some (.bl (i != 0))|[.bl b]=>some (.bl b)|_=>none
noncomputable def x6Q:LD:=fun ds=>match ds with|[.int i]=>some (.int i)|[.bl b]=>some (.int (if b then 1 else 0))|_=>none
theorem w4D{K:A5}:RdC K (fun xs H Q=>(∃i,xs=[.int i]/\Q (.int i) H)∨∃k,xs=[.bl k]/\Q (.int (if k then 1 else 0)) H) x6Q:=by
 intro ds d e Z H vs Q zs rr q;unfold x6Q at e;split at e
 ·cases e;obtain⟨u,rfl,h1⟩:=y8D rr
  obtain rfl:=w6.mp h1
  exact .inl ⟨_,rfl,q _ H (j6.refl H) (w6.mpr rfl)⟩
 ·cases e;obtain⟨u,rfl,h1⟩:=y8D rr
  obtain rfl:=J8.mp h1
  exact .inr ⟨_,rfl,q _ H (j6.refl H) (w6.mpr rfl)⟩
 ·cases e
theorem y3I(hm:X.mg "int" = none)(ha:ZE X a fa)(hg:Gl X "int":=by rfl)(hv:B5 "int" = some (.type "int"):=by decide +kernel)(he:Ac [a] X.env=(false,C0 a X.env)::Ac [] X.env:=by exact v5 rfl)(ah:(Bs pos (Ac [] X.env)).any (·.1)=false:=by exact j8 rfl):ZE X (.Call (.Name "int" p) [a] [] pos) (x5 x6Q (z7 fa u3)):=
 ⟨have ha:=ha.h;
 x34 x64 w4D hm hv (z2T ha y19 he) hg (by decide) (by decide) he ah⟩
noncomputable def x1D(f:ED):ED:=fun ρ=>match f ρ with|some (.int i)=>some (.int (-i))|_=>none
theorem y5V(h:ZE X a fa):ZE X (.UnaryOp .USub a pos) (x1D fa):=
 ⟨have h:=h.h;
 u7 (w76 w3U h) fun σ H Q h_=>by
  refine ex6 h_ fun ρ d B H0 V0 Z e r q=>?_;unfold x1D at e;split at e
  ·rename_i i ei;cases e;exact⟨ρ,_,B,H0,V0,Z,ei,r,fun v H' s rr=>⟨i,w6.mp rr,q _ H' s (w6.mpr rfl)⟩⟩
  ·cases e⟩
def y9L(i:Nat)(f:ED):EO:=fun ρ=>match z4Z i ρ with
 |some ds=>(match f ρ with|some d=>if ds.length<LIM then some (.nx (ρ.set i (some (.ow (ds++[d]))))) else none|none=>none)
 |none=>none
def x6R(i:Nat)(f:EL):EO:=fun ρ=>match z4Z i ρ with
 |some ds=>(match f ρ with|some es=>if ds.length+es.length≤LIM then some (.nx (ρ.set i (some (.ow (ds++es))))) else none|none=>none)
 |none=>none
theorem y1V{i:Nat}{x:Bb}{p1 p2 p3:F2}(h:ZE X a fa)(hN:X.N[i]?=some x:=by rfl)(hv:Vis X.env.scope x:=by first|exact Dw rfl|exact D2 (Dw rfl)|exact D2 (D2 rfl))(hd:(x==("__debug__":Bb))=false:=by decide)(aV:(x==("__classdict__":Bb))=false:=by decide)(ar:Eb (.Name x p1) "append" X.env (C0 (.Name x p1) X.env)=C0 (.Name x p1) X.env:=by rfl) (aX:((Bs p3 (Ac [a] X.env)).all (fun x=>!x.1)&&(Je p3 (Gg [] X.env)).all (fun x=>x.1.isSome)
   && decide (([a]:List Expr).length+([]:List Fu).length+(if ([]:List Fu).isEmpty then 0 else 1)<30))=true:=by rfl) (au:(p2.endLine==p3.line)=true:=by rfl) (hs:Ac [a] X.env=(false,C0 a X.env)::Ac [] X.env:=by exact v5 rfl) (aq:(Bs p3 (Ac [] X.env)).any (·.1)=false:=by exact j8 rfl) (bY:Dy (.Call (.Attribute (.Name x p1) "append" p2) [a] [] p3) none pos.line X.env=Ck false:=by rfl):ZS X (.Expr (.Call (.Attribute (.Name x p1) "append" p2) [a] [] p3) pos) (y9L i fa):=
 ⟨have h:=h.h;
 z0F (z9D (y6I Fk PySem.F.slot_list_append PySem.F.type_list_append z6O (z2K hN hv hd aV) (g9 h Y0 hs) ar aX au hs aq) bY) fun E σ H h_=>by
  refine ex6 h_ fun ρ o B H0 V0 Z e r q=>?_;unfold y9L at e;split at e
  ·rename_i ds aD;split at e
   ·rename_i d ed;split at e
    ·rename_i hl;cases e;obtain⟨n,xs,h1,h2,hb,h3,h4,h5⟩:=r.ow i ds (z1N aD);refine⟨.ref n,h1,.inl ⟨rfl,xs,SqL.of h4⟩,ρ,_,B,H0,V0,Z,ed,r,fun v H1 s1 r1=>?_⟩;have g5:=h5.mono (y8 s1);refine⟨n,xs,v,rfl,rfl,s1 _ _ h4,by rw[←h5.length];exact y4I (D8 hl),?_⟩
     exact q σ _ Z ((r.mono s1).updO (z1N aD) h1 (j7.append g5 (j7.one r1)))
    ·cases e
   ·cases e
  ·cases e⟩
theorem y5R{i:Nat}{x:Bb}{p1 p2 p3:F2}(h:ZF X a f)(hN:X.N[i]?=some x:=by rfl)(hv:Vis X.env.scope x:=by first|exact Dw rfl|exact D2 (Dw rfl)|exact D2 (D2 rfl))(hd:(x==("__debug__":Bb))=false:=by decide)(aV:(x==("__classdict__":Bb))=false:=by decide)(ar:Eb (.Name x p1) "extend" X.env (C0 (.Name x p1) X.env)=C0 (.Name x p1) X.env:=by rfl) (aX:((Bs p3 (Ac [a] X.env)).all (fun x=>!x.1)&&(Je p3 (Gg [] X.env)).all (fun x=>x.1.isSome)
   && decide (([a]:List Expr).length+([]:List Fu).length+(if ([]:List Fu).isEmpty then 0 else 1)<30))=true:=by rfl) (au:(p2.endLine==p3.line)=true:=by rfl) (hs:Ac [a] X.env=(false,C0 a X.env)::Ac [] X.env:=by exact v5 rfl) (aq:(Bs p3 (Ac [] X.env)).any (·.1)=false:=by exact j8 rfl) (bY:Dy (.Call (.Attribute (.Name x p1) "extend" p2) [a] [] p3) none pos.line X.env=Ck false:=by rfl):ZS X (.Expr (.Call (.Attribute (.Name x p1) "extend" p2) [a] [] p3) pos) (x6R i f):=
 ⟨have h:=h.h;
 z0F (z9D (y6I Fk PySem.F.slot_list_extend PySem.F.type_list_extend x48 (z2K hN hv hd aV) (g9 h Y0 hs) ar aX au hs aq) bY) fun E σ H h_=>by
  refine ex6 h_ fun ρ o B H0 V0 Z e r q=>?_;unfold x6R at e;split at e
  ·rename_i ds aD;split at e
   ·rename_i es ee;split at e
    ·rename_i hl;cases e;obtain⟨n,xs,h1,h2,hb,h3,h4,h5⟩:=r.ow i ds (z1N aD);refine⟨.ref n,h1,.inl ⟨rfl,xs,SqL.of h4⟩,ρ,_,B,H0,V0,Z,ee,r,fun l ys H1 s1 hn bp r1=>?_⟩;have g5:=h5.mono (y8 s1);refine⟨n,l,xs,ys,rfl,rfl,s1 _ _ h4,bp,by rw[←h5.length,←r1.length];exact z9N hl,?_⟩
     exact q σ _ Z ((r.mono s1).updO (z1N aD) h1 (j7.append g5 (r1.mono (z0G fun b hb=>A7 _ hb))))
    ·cases e
   ·cases e
  ·cases e⟩
end
theorem z8G:fillsNumberSlot (.type "tuple") "mul" = Ck false:=PySem.fillsNumberSlot_seq (id:="tuple.__mul__") (r:=some (.builtin "tuple.__rmul__")) F.slot_tuple_mul.lookup (by decide +kernel) F.slot_tuple_rmul.lookup (by decide +kernel)
theorem y40:seqRepeat? (.type "tuple")=Ck (some (.builtin "tuple.__mul__")):=by unfold seqRepeat?;rw[PySem.seqSlot_of (T:="tuple") (name:="__mul__") (id:="tuple.__mul__") F.slot_tuple_mul.lookup (by decide +kernel),PySem.seqSlot_of (T:="tuple") (name:="__rmul__") (id:="tuple.__rmul__") F.slot_tuple_rmul.lookup (by decide +kernel)];rfl
theorem x07(l:Ap)(items:Array A8)(n:Nat)(dd:Option Ap)(sl:Array (Option A8))(x:Int)(t:M6)(h1:(decide (x < -(2 ^ 63))||decide (x≥2 ^ 63))=false)(h2:(items.isEmpty||x==1)=false)(h3:(decide (x≤0)||items.isEmpty)=true)(hz:¬(#[]:Array A8).size>sizeLine):
  Mf (Df.«tuple.__mul__» ⟨[.ref l,.int x t],[]⟩) (fun _ R s=>s.heap.get? l=some { cls:=.type "tuple",dict:=dd,data:=.seq items n,slots:=sl }/\R (.ok (.ret (.ref s.heap.objs.size))) { s with heap:=s.heap.push { cls:=Cf "tuple",data:=G0 #[] } }):=
 .of_wp fun prog w A R s h=>by obtain⟨hp,g,d,tk,os⟩:=s;obtain⟨hl,h⟩:=h;wp_walk;refine Kt (decide_eq_false (by rw[h1];exact B0)) ?_;wp_walk;exact⟨_,rfl,h⟩
theorem x05(l:Ap)(items:Array A8)(n:Nat)(dd:Option Ap)(sl:Array (Option A8))(x:Int)(t:M6)(h1:(decide (x < -(2 ^ 63))||decide (x≥2 ^ 63))=false)(h2:(items.isEmpty||x==1)=false)(h3:(decide (x≤0)||items.isEmpty)=false)(h4:¬(items.size:Int)*x>(2 ^ 63-1) / 8)(h5:Df.Tuple.tupleTooMany ((items.size:Int)*x)=false)(h6:¬(Lq (fun x1 x2=>x1++x2) #[] (B1 x.toNat items)).size>sizeLine):
  Mf (Df.«tuple.__mul__» ⟨[.ref l,.int x t],[]⟩) (fun _ R s=>s.heap.get? l=some { cls:=.type "tuple",dict:=dd,data:=.seq items n,slots:=sl }/\R (.ok (.ret (.ref s.heap.objs.size))) { s with heap:=s.heap.push { cls:=Cf "tuple",data:=G0 (Lq (fun x1 x2=>x1++x2) #[] (B1 x.toNat items)) } }):=
 .of_wp fun prog w A R s h=>by obtain⟨hp,g,d,tk,os⟩:=s;obtain⟨hl,h⟩:=h;wp_walk;refine Kt (decide_eq_false (by rw[h1];exact B0)) ?_;wp_walk;refine Kt (decide_eq_false h4) ?_;wp_walk;exact⟨_,rfl,h⟩
theorem y0R(a:Int)(t:M6)(l:Ap)(items:Array A8)(n:Nat)(dd:Option Ap)(sl:Array (Option A8)):
  Mf (Df.«int.__rmul__» ⟨[.int a t,.ref l],[]⟩) (fun _ R s=>s.heap.get? l=some { cls:=.type "tuple",dict:=dd,data:=.seq items n,slots:=sl }/\R (.ok (.ret Ik)) s):=
 .of_wp fun prog w A R s h=>by obtain⟨hp,g,d,tk,os⟩:=s;obtain⟨hl,h⟩:=h;wp_walk;exact⟨_,rfl,h⟩
theorem x06(l:Ap)(items:Array A8)(n:Nat)(dd:Option Ap)(sl:Array (Option A8))(t:M6):
  Mf (Df.«tuple.__mul__» ⟨[.ref l,.int 1 t],[]⟩) (fun _ R s=>s.heap.get? l=some { cls:=.type "tuple",dict:=dd,data:=.seq items n,slots:=sl }/\R (.ok (.ret (.ref l))) s):=
 .of_wp fun prog w A R s h=>by obtain⟨hp,g,d,tk,os⟩:=s;obtain⟨hl,h⟩:=h;wp_walk;exact⟨_,rfl,h⟩
def w4H(K:A5):R2:=fun x y H Q=>∃a k xs,x = .ref a/\y = .int k/\SqT K H a xs/\xs≠[]/\-(2 ^ 63)≤k/\k<2 ^ 63/\xs.length*k.toNat≤1000000 /\
 (k=1->Q (.ref a) H)/\(k≠1->∀p,H p=none->Q (.ref p) (upd H p (.tup (B1 k.toNat xs).flatten)))
section
variable{X:Cx}
theorem w1X:OpR X (Gd .Mult) (w4H X.K):=by
 intro aa s σ H x y v u Q I rx ry h;obtain⟨a,k,xs,rfl,rfl,ha,ag,h1,h2,hz,q1,q2⟩:=h;cases rx;obtain⟨t,rfl⟩:=ry;obtain⟨its,r,p,_⟩:=I.tuple ha;have hl:=r.length;obtain⟨⟨cls,dd,data,sl⟩,ho,hc,n,hd⟩:=id p;simp only at hc hd;subst hc hd;have hne':its≠[]:=fun z=>ag (r.nil_iff.mp z)
 have he:its.toArray.isEmpty=false:=by
  cases its with
  |nil=>exact absurd rfl hne'
  |cons _ _=>rfl
 have b1:(decide (k < -(2 ^ 63))||decide (k≥2 ^ 63))=false:=by rw[decide_eq_false (by omega),decide_eq_false (by omega)];rfl
 refine wpAny_binaryOp_repeat_ref (T:="tuple") (U:="int") (by decide) ⟨_,ho,rfl⟩ (fun s'=>typeIs_int s' k t) z8G F.fills_int_mul F.slot_int_rmul y40 F.slot_int_index.lookup
  (Hf F.slot_int_rmul (typeIs_int s k t) F.entry_int_rmul (F.args_int_rmul_2 _ _) (y0R k t a its.toArray n dd sl) ⟨ho,rfl,⟨_,ho,rfl⟩,?_⟩)
 by_cases hk:k=1
 ·subst hk;exact Hf F.slot_tuple_mul ⟨_,ho,rfl⟩ F.entry_tuple_mul (F.args_tuple_mul_2 _ _) (x06 a its.toArray n dd sl t) ⟨ho,⟨.ref a,H,I,rfl,q1 rfl⟩⟩
 ·have b2:(its.toArray.isEmpty||k==1)=false:=by rw[he,Ju];exact beq_eq_false_iff_ne.mpr hk
  by_cases h0:k≤0
  ·refine Hf F.slot_tuple_mul ⟨_,ho,rfl⟩ F.entry_tuple_mul (F.args_tuple_mul_2 _ _) (x07 a its.toArray n dd sl k t b1 b2 (by rw[decide_eq_true h0];rfl) (by simp)) ⟨ho,?_⟩
   have e0:k.toNat=0:=by omega
   have:=q2 hk s.heap.objs.size I.fresh
   rw[e0]at this;exact⟨.ref _,_,I.laid (o:=.tup []) (t':=s.toks) (fun b o e=>Aa _ e) (Ak _) ⟨Bf _,[],.nil,x6T.new _ _⟩,rfl,this⟩
  ·have hsz:((its.toArray.size:Nat):Int)*k≤1000000:=by
    rw[Ag,←hl]
    have e1:k=((k.toNat:Nat):Int):=by omega
    rw[e1]
    have:((xs.length*k.toNat:Nat):Int)≤1000000:=Int.ofNat_le.mpr hz
    rw[Int.natCast_mul]at this;exact this
   have f0:Lq (fun x1 x2=>x1++x2) #[] (B1 k.toNat its.toArray)=(B1 k.toNat its).flatten.toArray:=by
    have:=y4T its k.toNat []
    rw[Ku]at this;exact this
   have ab:(B1 k.toNat xs).flatten.length≤sizeLine:=by rw[w2K,Nat.mul_comm,C3];omega
   refine Hf F.slot_tuple_mul ⟨_,ho,rfl⟩ F.entry_tuple_mul (F.args_tuple_mul_2 _ _) (x05 a its.toArray n dd sl k t b1 b2 (by rw[decide_eq_false h0,he];rfl) (by omega) (by unfold Df.Tuple.tupleTooMany;rw[C3];exact decide_eq_false (by omega)) ?_) ⟨ho,?_⟩
   ·rw[f0,Ag,←(r.rep k.toNat).length];omega
   ·rw[f0];exact⟨.ref _,_,I.laid (o:=.tup (B1 k.toNat xs).flatten) (t':=s.toks) (fun b o e=>Aa _ e) (Ak _) ⟨ab,_,r.rep k.toNat,x6T.new _ _⟩,rfl,q2 hk _ I.fresh⟩
def x5T:D->D->Option D:=fun x y=>match x,y with
 | .tup ds,.int k=>if ds≠[]/\-(2 ^ 63)≤k/\k<2 ^ 63/\ds.length*k.toNat≤LIM then some (.tup (B1 k.toNat ds).flatten) else none
 |_,_=>none
theorem w19{K:A5}:z87 K (w4H K) x5T:=by
 intro x y d e Z H u v Q zs hx hy q;unfold x5T at e;split at e
 ·rename_i ds k;split at e
  ·rename_i hh;obtain⟨ag,h1,h2,hl⟩:=hh;cases e;obtain⟨a,us,rfl,g1,g2⟩:=j3.mp hx
   obtain rfl:=w6.mp hy
   have ab:=g2.length;refine⟨a,k,us,rfl,rfl,u9 x4 g1,fun z=>ag (Ec (by rw[ab,z];rfl)),h1,h2,by rw[←ab];unfold LIM at hl;omega,fun e1=>?_,fun e1 p hp=>?_⟩
   ·subst e1
    have:(B1 (1:Int).toNat ds).flatten=ds:=by simp
    rw[this]at q;exact q _ H (j6.refl H) hx
   ·have sn:=j4 (o:=HO.tup (B1 k.toNat us).flatten) hp;refine q _ _ sn (j3.mpr ⟨p,_,rfl,SqT.of ?_,(g2.rep k.toNat).mono (y8 sn)⟩);rw[K7 (y8S zs hp)];exact x9
  ·cases e
 ·cases e
def z65:D->D->Option D:=fun x y=>match x8M x y with|some d=>some d|none=>x5T x y
variable{a b:Expr}{fa fb:ED}{pos:F2}
theorem z4J(ha:ZE X a fa)(hb:ZE X b fb):ZE X (.BinOp a .Mult b pos) (d2 z65 fa fb):=
 ⟨have ha:=ha.h;
 have hb:=hb.h;
 y3W (w5D.or w1X) (z87.or w4A w19) ha hb⟩
end
noncomputable def z4B(N:List Bb)(ds:List D):u5:=ds.map (fun d=>some (Cell.sh d))++B1 (N.length-ds.length) none
noncomputable def z2F:Option Out->Option D
 |some (.rt d)=>some d
 |some (.nx _)=>some .non
 |_=>none
theorem y87{K:A5}{Z:List Ap}{H:Hp}{N:List Bb}{ds:List D}{vs:List V}(zs:TB K H/\∀z∈Z,∃o,H z=some o)(rr:j7 K (J3 Z H) ds vs):SR K Z H (J3 Z H) H Z (start N vs) (z4B N ds):=by
 have hl:=rr.length
 have get:∀{i:Nat} {c:Cell},(z4B N ds)[i]?=some (some c)->∃d,ds[i]?=some d/\c = .sh d:=fun {i c} q=>by
  unfold z4B at q;by_cases hi:i<ds.length
  ·rw[Dg (by simpa using hi),Au]at q
   cases e:ds[i]? with
   |none=>rw[e]at q;cases q
   |some d=>rw[e]at q;cases q;exact⟨d,rfl,rfl⟩
  ·rw[List.getElem?_append_right (by simpa using hi),List.getElem?_replicate]at q;split at q<;>cases q
 refine⟨j6.refl H,zs.1,fun _ _ h=>h,fun b hb=>hb,zs.2,fun i d q=>?_,fun i c q=>?_,fun i j c e a q1 q2=>?_,?_⟩
 ·obtain⟨d',e,z⟩:=get q;cases z;obtain⟨v,e1,r1⟩:=rr.get e;refine⟨v,?_,r1⟩;have hi:i<vs.length:=(An.mp e1).1;unfold L2.start;rw[Dg (by simpa using hi),Au,e1];rfl
 ·obtain⟨d',e,z⟩:=get q;exact(z5F z.symm).elim
 ·obtain⟨d',e,z⟩:=get q1;exact(z5F z.symm).elim
 ·unfold L2.start z4B;rw[Ad,Ad,A0,A0,Cd,Cd,hl]
theorem x5D{P:Bo}{w:C8}{K:A5}{mg:Bb->Option A8}{base:C5}{x:Bb}{st:Db}{f:Ap}{fd:Ep}{N ps:List Bb}{k:Nat}{g:EO}{F:LD}(G:Fun K x x st f fd)(S:FnScope N ps (v6 st))(len:∀ds d,F ds=some d->ds.length=ps.length)(hF:∀ds d,F ds=some d->z2F (g (z4B N ds))=some d)
  (ap:∀(am:A8) (A:By) (outer:List Ls) (s:Ah) (H:Hp) (E:XK),Room k (A.deeper (Is x (v6 st) s.heap.objs.size f am)) ->
   SSs (x1H CX0 P w K mg base N x (v6 st) f am A outer s H E).nox (z05 st) g):FnOk P w K mg base CX0 (k+1) f fd ps (spD K F):=by
 refine G.ok S (fun vs H Q E h=>?_) fun am A outer s H vs Q E hr h=>?_
 ·obtain⟨Z,ds,d,zs,rr,e,q⟩:=h;rw[←rr.length];exact len ds d e
 ·obtain⟨Z,ds,d,zs,rr,e,q⟩:=h;have e2:=hF ds d e;refine⟨_,ap am A outer s H E hr,?_⟩
  cases ho:g (z4B N ds) with
  |none=>rw[ho]at e2;cases e2
  |some o=>
   refine⟨z4B N ds,o,Z,H,J3 Z H,Z,ho,y87 zs rr,?_⟩;rw[ho]at e2
   cases o with
   |rt d'=>cases e2;exact fun v H' s' rv=>q v H' s' rv
   |nx ρ=>cases e2;exact fun σ H' Z' r'=>q .non H' r'.same (Z0.mpr rfl)
   |bk _=>cases e2
   |ct _=>cases e2
def z4F(sc outer:Scope)(N:List Bb)(cap:List (Option Nat))(M:List Bb):Bool:=
 (sc.kind==.function)&&(sc.names.all fun y=>if y.2==.cell then sc.names.lookup y.1==some .cell else true)&&(sc.names.all fun y=>if y.2==.local then sc.names.lookup y.1==some .local else true) &&
 (sc.names.all fun y=>if y.2==.free then sc.names.lookup y.1==some .free&&(outer.names.lookup y.1==some .cell||outer.names.lookup y.1==some .free) else true) &&
 ((A9 cap.length).all fun i=>match cap[i]? with|some (some j)=>(match N[i]? with|some x=>(match M[j]? with|some y=>x==y&&sc.names.lookup x==some .free|none=>false)|none=>false)|_=>true) &&
 (cap.length==N.length)&&((A9 cap.length).all fun i=>(A9 cap.length).all fun j=>match cap[i]? with|some (some k)=>(match cap[j]? with|some (some k')=>if k==k' then i==j else true|_=>true)|_=>true)
def x0W(sc outer:Scope)(N:List Bb)(cap:List (Option Nat))(M:List Bb):Bool:=z4F sc outer N cap M&&(sc.names.all fun y=>y.2 != .cell)
section
variable{X:Cx}{pos:F2}
theorem Y4{aR ad ae:Expr}{aS:List Expr}{scope:Scope}{fi:EL}{h:D->u5->Option u5}{ft:EB}{fe:ED}(N:List Bb)(cap:List (Option Nat))(hc:X.calm=true)(hi:ZIc X ad ae fi)(hg:N.Nodup->∀cl C fp s H,ZG (K9 X N scope cl C fp s H) ad h)(ht:∀cl C fp s H,ZP (K9 X N scope cl C fp s H) aS ft)(he:∀cl C fp s H,ZE (K9 X N scope cl C fp s H) aR fe)(hok:z4F scope X.env.scope N cap X.N=true:=by rfl)(hs:∀x,Cn ae X.env x=Ck x:=by intro _;rfl)(nd:N.Nodup:=by decide +kernel):ZF X (.ListComp aR [⟨ad,ae,aS,0⟩] scope pos) (Q3 cap fi h ft fe):=by
 have hg:=hg nd;have hi:=hi.h;have hg:=fun cl C fp s H=>(hg cl C fp s H).h;have ht:=fun cl C fp s H=>(ht cl C fp s H).h;have he:=fun cl C fp s H=>(he cl C fp s H).h;refine⟨?_⟩;unfold z4F at hok;simp only[Ax]at hok;obtain⟨⟨⟨⟨⟨⟨h1,h2⟩,h3⟩,h4⟩,h5⟩,h6⟩,h7⟩:=hok;rw[C1]at h2 h3 h4 h5 h7;refine w14 (N:=N) (cap:=cap) hc hi hg ht he (by simpa using h1) (fun y hy e=>by have z:=h2 y hy;rw[e]at z;simpa using z) (fun y hy e=>?_) (fun y hy e=>?_) (fun y hy e=>?_) (fun i j e=>?_) (by simpa using h6) (fun i j k e1 e2=>?_) hs
 ·have z:=h3 y hy;rw[e]at z;simpa using z
 ·have z:=h4 y hy;rw[e]at z;simp only[beq_self_eq_true,if_true,Ax]at z;simpa using z.1
 ·have z:=h4 y hy;rw[e]at z;simp only[beq_self_eq_true,if_true,Ax,E2]at z;simpa using z.2
 ·have aO:i<cap.length:=(An.mp e).1;have z:=h5 i (Aj.mpr aO);rw[e]at z;dsimp only at z;split at z
  ·rename_i x hx;split at z
   ·rename_i y hy;simp only[Ax,beq_iff_eq]at z;obtain⟨z1,z2⟩:=z;subst z1;exact⟨x,hx,hy,z2⟩
   ·cases z
  ·cases z
 ·have aO:i<cap.length:=(An.mp e1).1;have bG:j<cap.length:=(An.mp e2).1;have z:=h7 i (Aj.mpr aO);rw[C1]at z;have z2:=z j (Aj.mpr bG);rw[e1,e2]at z2;simpa using z2
theorem z6B:ZP X [] z3C:=
 ⟨fun aa s σ H Q I h_=>by
 refine ex6 h_ fun ρ b B H0 V0 Z e r q=>?_;cases e
 exact y2G aa s σ H Q I (q H (j6.refl H))⟩
theorem z4A{c:Expr}{f:EB}(h:ZT X c f):ZP X [c] f:=
 ⟨have h:=h.h;
 x7P h⟩
def tQL(K:A5)(f:EL):TE:=fun σ H Q=>∃ρ ds B H0 V0 Z,f ρ=some ds/\SR K B H0 V0 H Z σ ρ/\∀a xs H',j6 H H'->SqL K H' a xs->j7 K (J3 Z H') ds xs->Q (.ref a) H'
abbrev SQL(X:Cx)(e:Expr)(f:EL):Prop:=PE X e (tQL X.K f)
structure ZQL(X:Cx)(e:Expr)(f:EL):Prop where
 h:SQL X e f
theorem x72{e:Expr}{f:EL}(h:ZF X e f):ZQL X e f:=
 ⟨have h:=h.h;
 u7 h fun σ H Q ⟨ρ,ds,B,H0,V0,Z,e,r,q⟩=>
  ⟨ρ,ds,B,H0,V0,Z,e,r,fun a xs H' s hn ha hr=>q a xs H' s (SqL.of ha) (hr.mono (z0G fun b hb=>A7 _ hb))⟩⟩
theorem y12{e:Expr}{f:ED}(h:ZE X e f):ZQL X e (z0V f):=
 ⟨have h:=h.h;
 u7 h fun σ H Q h_=>by
  refine ex6 h_ fun ρ ds B H0 V0 Z e r q=>?_;unfold z0V at e;split at e
  ·rename_i es he;cases e;refine⟨ρ,_,B,H0,V0,Z,he,r,fun v H' s rr=>?_⟩;obtain⟨a,xs,rfl,h1,h2⟩:=J5.mp rr;exact q a xs H' s (x4.seq h1) h2
  ·cases e⟩
theorem w0S{a b:Expr}{fa fb:EL}(ha:ZQL X a fa)(hb:ZQL X b fb):ZF X (.BinOp a .Add b pos) (x5U fa fb):=
 ⟨have ha:=ha.h;
 have hb:=hb.h;
 u7 (w51 x40 ha hb) fun σ H Q h_=>by
  refine ex6 h_ fun ρ ds B H0 V0 Z e r q=>?_;unfold x5U at e;split at e
  ·rename_i xs ex;split at e
   ·rename_i ys ey;split at e
    ·rename_i hl;cases e;refine⟨ρ,xs,B,H0,V0,Z,ex,r,fun n us H1 s1 jz r1=>⟨ρ,ys,B,H0,V0,Z,ey,r.mono s1,fun m ws H2 s2 iD r2=>⟨n,m,us,ws,rfl,rfl,s2.seq jz,iD,by rw[←r1.length,←r2.length];exact z9N hl,fun l cp=>?_⟩⟩⟩
     exact q l _ _ (s1.trans (s2.trans (j4 cp))) ((s1.trans s2).free cp) x9 ((j7.append (r1.mono (y8 s2)) r2).mono (z0O cp (j4 cp)))
    ·cases e
   ·cases e
  ·cases e⟩
end
structure FnD(P:Bo)(w:C8)(K:A5)(mg:Bb->Option A8)(base:C5)(k:Nat)(x:Bb)(ps:List Bb)(F:LD):Prop where
 ex:∃f fd,FnOk P w K mg base CX0 k f fd ps (spD K F)/\mg x=some (.ref f)/\Fh K (.ref f)=true/\y7V K fd ps []
theorem j5{X:Cx}{j k:Nat}{ps:List Bb}{F:LD}{x:Bb}{p pos:F2}{e:Expr}{es:List Expr}{g:EL}(G:FnD X.prog X.w X.K X.mg X.base j x ps F)(hr:Room k X.A)(ha:ZA X (e::es) g)(hjk:j≤k:=by decide)(hg:Gl X x:=by rfl)(bC:(x==("__debug__":Bb))=false:=by decide)(he:Ac (e::es) X.env=(false,C0 e X.env)::Ac es X.env:=by exact v5 rfl)(ah:(Bs pos (Ac es X.env)).any (·.1)=false:=by exact j8 rfl):ZE X (.Call (.Name x p) (e::es) [] pos) (x5 F g):=by have ha:=ha.h;refine⟨?_⟩;obtain⟨f,fd,h1,h2,h3,h4⟩:=G.ex;exact w18 h1 (hr.mono hjk) h2 h3 h4 ha hg bC he ah
structure Stands(K:A5)(mg:Bb->Option A8)(x:Bb)(st:Db):Prop where
 ex:∃f fd,Fun K x x st f fd/\mg x=some (.ref f)
theorem x5C{P:Bo}{w:C8}{K:A5}{mg:Bb->Option A8}{base:C5}{x:Bb}{st:Db}{N ps:List Bb}{k:Nat}{g:EO}{F:LD}(G:Stands K mg x st)(S:FnScope N ps (v6 st))(len:∀ds d,F ds=some d->ds.length=ps.length)(hF:∀ds d,F ds=some d->z2F (g (z4B N ds))=some d)(hb:∀(kV av pm:A8) (an:Option Ap) (am ct:A8) (us:List A8),us.length=ps.length->Ge (Dm x x (z2A st) (z05 st) (v6 st) .none kV av pm an am ct) ⟨us,[]⟩=Ck (ps.zip us))
  (ap:∀(f:Ap) (am:A8) (A:By) (outer:List Ls) (s:Ah) (H:Hp) (E:XK),Room k (A.deeper (Is x (v6 st) s.heap.objs.size f am)) ->
   SSs (x1H CX0 P w K mg base N x (v6 st) f am A outer s H E).nox (z05 st) g):FnD P w K mg base (k+1) x ps F:=by
 obtain⟨f,fd,G1,G2⟩:=G.ex;exact⟨f,fd,x5D G1 S len hF (ap f),G2,G1.kp,G1.binds hb⟩
def tX(K:A5)(f:u5->Option (D×u5)):TE:=fun σ H Q=>∃ρ d ρ' B H0 V0 Z,f ρ=some (d,ρ')/\SR K B H0 V0 H Z σ ρ/\∀v H',SR K B H0 V0 H' Z σ ρ'->Rep K (J3 Z H') d v->Q v H'
abbrev SX(X:Cx)(e:Expr)(f:u5->Option (D×u5)):Prop:=PE X e (tX X.K f)
structure ZX(X:Cx)(e:Expr)(f:u5->Option (D×u5)):Prop where
 h:SX X e f
def w3K(i:Nat)(f:ED):u5->Option (D×u5):=fun ρ=>match z4Z i ρ with
 |some ds=>(match f ρ with
  |some (.int j)=>(match ixN ds.length j with
   |some k=>(match ds[k]? with|some d=>if ds.length≤LIM then some (d,ρ.set i (some (.ow (ds.eraseIdx k)))) else none|none=>none)
   |none=>none)
  |_=>none)
 |none=>none
def tR(K:A5)(f:EL):TE:=fun σ H Q=>∃ρ ds B H0 V0 Z,f ρ=some ds/\SR K B H0 V0 H Z σ ρ/\∀a xs H',j6 H0 H'->SqL K H' a xs->j7 K (J3 B H') ds xs->(∀b∈B,∃o,H' b=some o)->Q (.ref a) H'
abbrev SL(X:Cx)(e:Expr)(f:EL):Prop:=PE X e (tR X.K f)
structure ZL(X:Cx)(e:Expr)(f:EL):Prop where
 h:SL X e f
section
variable{X:Cx}{pos:F2}
theorem w3Z{i:Nat}{call:Expr}{f:ED}(h:PE X call (tBM X.K "list" x9H (w6A i) (w0Z (tD X.K f) w6B))):SX X call (w3K i f):=
 u7 h fun σ H Q h_=>by
  obtain⟨ρ,d,ρ',B,H0,V0,Z,e,r,q⟩:=h_;unfold w3K at e;split at e
  ·rename_i ds aD;split at e
   ·rename_i j ej;split at e
    ·rename_i k ek;split at e
     ·rename_i d' ed;split at e
      ·rename_i hz;cases e;obtain⟨n,xs,h1,h2,hb,h3,h4,h5⟩:=r.ow i ds (z1N aD);refine⟨.ref n,h1,.inl ⟨rfl,xs,SqL.of h4⟩,ρ,_,B,H0,V0,Z,ej,r,fun v H1 s1 r1=>?_⟩
       obtain rfl:=w6.mp r1
       have R1:=r.mono s1;have g5:=h5.mono (y8 s1);obtain⟨y,hy,ry⟩:=g5.get ed;have hl:=h5.length;obtain⟨q1,q2,q3,q4⟩:=x4Z ek
       have big:(ds.length:Int)<2 ^ 63:=by
        have:ds.length≤100000:=hz
        omega
       refine⟨n,xs,j,k,y,rfl,rfl,s1 _ _ h4,by omega,by omega,by rw[←hl];exact q1,hy,?_⟩
       have vs:j6 (J3 Z H1) (J3 Z (upd H1 n (.lst (xs.eraseIdx k)))):=z1H h2;exact q y _ (R1.updO (z1N aD) h1 (g5.eraseIdx k)) (ry.mono vs)
      ·cases e
     ·cases e
    ·cases e
   ·cases e
  ·cases e
noncomputable def z3Z(h:D->u5->Option u5)(fe:u5->Option (D×u5)):u5->List D->Option (List D)
 |_,[]=>some []
 | ρ,d::ds=>match h d ρ with
  |none=>none
  |some ρ1=>match fe ρ1 with
   |some (y,ρ2)=>(match z3Z h fe ρ2 ds with|some ys=>some (y::ys)|none=>none)
   |none=>none
def y55(cap:List (Option Nat))(fi:EL)(h:D->u5->Option u5)(fe:u5->Option (D×u5)):EL:=fun ρ=>match fi ρ with
 |some ds=>if ds.length≤LIM then z3Z h fe (y0T cap ρ) ds else none
 |none=>none
theorem SR.base{K:A5}{B Z:List Ap}{H0 V0 H:Hp}{σ:St}{ρ:u5}(r:SR K B H0 V0 H Z σ ρ){l:Ap}{o:HO}(hl:H l=some o)(hn:H0 l=none)(dA:∀(j:Nat) (es:OC) a,ρ[j]?=some (some es.cell)->σ[j]?=some (some (.ref a))->a≠l):SR K B (upd H0 l o) V0 H Z σ ρ:=
 ⟨fun b u e=>by
   by_cases z:b=l
   ·subst z;rw[x9]at e;cases e;exact hl
   ·rw[u8 z]at e;exact r.same b u e,
  r.tb,r.vis,r.sub,r.zs,r.sh,fun j es hj=>by
   obtain⟨a,xs,t1,t2,tb,t3,t4,t5⟩:=r.own j es hj
   exact⟨a,xs,t1,t2,tb,by rw[u8 (dA j es a hj t1)];exact t3,t4,t5⟩,r.inj,r.len⟩
theorem SR.unbase{K:A5}{B Z:List Ap}{H0 V0 H:Hp}{σ:St}{ρ:u5}{l:Ap}{o:HO}(r:SR K B (upd H0 l o) V0 H Z σ ρ)(hn:H0 l=none):SR K B H0 V0 H Z σ ρ:=
 ⟨fun b u e=>r.same b u (by rw[u8 (fun z=>by rw[z,hn]at e;cases e)];exact e),r.tb,r.vis,r.sub,r.zs,r.sh,fun j es hj=>by
   obtain⟨a,xs,t1,t2,tb,t3,t4,t5⟩:=r.own j es hj
   have na:a≠l:=fun z=>by rw[z,x9]at t3;cases t3
   exact⟨a,xs,t1,t2,tb,by rw[u8 na]at t3;exact t3,t4,t5⟩,r.inj,r.len⟩
theorem x2F{aR ad ae:Expr}{scope:Scope}{fi:EL}{h:D->u5->Option u5}{fe:u5->Option (D×u5)}(N:List Bb)(cap:List (Option Nat))(hc:X.calm=true)(hi:ZI X ad ae fi)(hg:N.Nodup->∀cl C fp s H,ZG (K9 X N scope cl C fp s H) ad h)(he:∀cl C fp s H,ZX (K9 X N scope cl C fp s H) aR fe)(hok:z4F scope X.env.scope N cap X.N=true:=by rfl)(hs:∀x,Cn ae X.env x=Ck x:=by intro _;rfl)(nd:N.Nodup:=by decide +kernel):ZL X (.ListComp aR [⟨ad,ae,[],0⟩] scope pos) (y55 cap fi h fe):=by
 have hg:=hg nd;have hi:=hi.h;have hg:=fun cl C fp s H=>(hg cl C fp s H).h;have he:=fun cl C fp s H=>(he cl C fp s H).h;refine⟨?_⟩;unfold z4F at hok;simp only[Ax]at hok;obtain⟨⟨⟨⟨⟨⟨h1,h2⟩,h3⟩,h4⟩,h5⟩,h6⟩,h7⟩:=hok;rw[C1]at h2 h3 h4 h5 h7
 have cf:∀(i j k:Nat),cap[i]?=some (some k)->cap[j]?=some (some k)->i=j:=fun i j k e1 e2=>by have aO:i<cap.length:=(An.mp e1).1;have bG:j<cap.length:=(An.mp e2).1;have z:=h7 i (Aj.mpr aO);rw[C1]at z;have z2:=z j (Aj.mpr bG);rw[e1,e2]at z2;simpa using z2
 refine u7 (x3U (N:=N) (cap:=cap) (g:=tG X.K h) (te:=tX X.K fe) hc hi hg (fun cl C fp s H=>y2G) he (by simpa using h1) (fun y hy e=>by have z:=h2 y hy;rw[e]at z;simpa using z) (fun y hy e=>?_) (fun y hy e=>?_) (fun y hy e=>?_) (fun i j e=>?_) (by simpa using h6) hs) fun σ H Q ⟨ρ,zs,B,H0,V0,Z,e,r,q⟩=>?_
 ·have z:=h3 y hy;rw[e]at z;simpa using z
 ·have z:=h4 y hy;rw[e]at z;simp only[beq_self_eq_true,if_true,Ax]at z;simpa using z.1
 ·have z:=h4 y hy;rw[e]at z;simp only[beq_self_eq_true,if_true,Ax,E2]at z;simpa using z.2
 ·have aO:i<cap.length:=(An.mp e).1;have z:=h5 i (Aj.mpr aO);rw[e]at z;dsimp only at z;split at z
  ·rename_i x hx;split at z
   ·rename_i y hy;simp only[Ax,beq_iff_eq]at z;obtain⟨z1,z2⟩:=z;subst z1;exact⟨x,hx,hy,z2⟩
   ·cases z
  ·cases z
 ·unfold y55 at e;split at e
  ·rename_i ds aD;split at e
   ·rename_i hl;refine⟨ρ,ds,B,H0,V0,Z,aD,r,fun J H1 s1 wk l bp=>?_⟩;have R1:=r.mono s1;have n0:H0 l=none:=R1.same.free bp;have sl:j6 H1 (upd H1 l (.lst [])):=j4 bp;have R2:SR X.K B H0 (J3 Z H1) (upd H1 l (.lst [])) (l::Z) (y0J cap σ) (y0T cap ρ):=z97 cf ((R1.vis' (fun _ _ h=>h)).more bp sl x9)
    have noL:∀{H':Hp} {σ':St} {ρ':u5} {o:HO},SR X.K B (upd H0 l o) (J3 Z H1) H' (l::Z) σ' ρ'->∀(j:Nat) (es:OC) a,ρ'[j]?=some (some es.cell)->σ'[j]?=some (some (.ref a))->a≠l:=fun r' j es a hj cR z=>by obtain⟨a',xs,t1,_,_,t3,_⟩:=r'.own j es hj;rw[cR]at t1;cases t1;rw[z,x9]at t3;cases t3
    have R3:SR X.K B (upd H0 l (.lst [])) (J3 Z H1) (upd H1 l (.lst [])) (l::Z) (y0J cap σ) (y0T cap ρ):=by refine R2.base x9 n0 fun j es a hj cR z=>?_;have rc:=z97 cf R1;obtain⟨a',xs,t1,_,_,_,t4,_⟩:=rc.own j es hj;rw[cR]at t1;cases t1;rw[z,bp]at t4;cases t4
    refine⟨fun i m σ' H' af=>m=ds.length-i/\i≤ds.length/\af.length≤i/\∃ρ' ys ws,SR X.K B (upd H0 l (.lst af)) (J3 Z H1) H' (l::Z) σ' ρ'/\j7 X.K (J3 (l::Z) H') ys af/\z3Z h fe ρ' (ds.drop i)=some ws/\zs=ys++ws/\j7 X.K (J3 Z H1) [] [],
     ⟨_,rfl,Bf _,Ak _,y0T cap ρ,[],zs,R3,j7.nil,e,rfl,j7.nil⟩,?_⟩
    rintro i m σ' H' af ⟨rfl,aO,ig,ρ',ys,ws,r',ry,e',ez,_⟩;have vis:j6 (J3 Z H1) H':=r'.vis.trans x4;have aP:H' l=some (.lst af):=r'.same l _ x9;by_cases al:i<ds.length
    ·refine .inr ⟨wk.go H' vis i al,y4I (Bk ig (Bk aO hl)),fun x H3 hy=>?_⟩;obtain⟨sH,hx⟩:=wk.yld H' vis i x H3 hy;have hd:=hx ds[i] (A3 al) (l::Z) r'.zs r'.vis;have r':=r'.mono sH;have ry:=ry.mono (y8 sH);rw[Eu al]at e';unfold z3Z at e';split at e'
     ·cases e'
     ·rename_i ρ1 e1;refine⟨ρ',ds[i],ρ1,B,upd H0 l (.lst af),J3 (l::Z) H3,l::Z,e1,r'.vis' (fun _ _ h=>h),hd,fun σ4 r4=>x8A ?_⟩;split at e'
      ·rename_i y ρ2 ey;split at e'
       ·rename_i yy eyy;cases e';refine⟨ρ1,y,ρ2,B,upd H0 l (.lst af),J3 (l::Z) H3,l::Z,ey,r4,fun v H6 r6 rv=>⟨r6.same l _ x9,ds.length-(i+1),by omega,rfl,al,?_,ρ2,ys++[y],yy,?_,?_,eyy,by rw[ez];simp,j7.nil⟩⟩
        ·rw[Ad];simpa using ig
        ·have R6:=(r6.vis' (r'.vis.trans r6.vis)).unbase n0;have vs:j6 (J3 (l::Z) H6) (J3 (l::Z) (upd H6 l (.lst (af++[v])))):=z1H A6;have na:=noL (r6.vis' (V1:=J3 Z H1) (r'.vis.trans r6.vis))
         have R7:SR X.K B H0 (J3 Z H1) (upd H6 l (.lst (af++[v]))) (l::Z) σ4 ρ2:=by
          refine⟨z1K n0 R6.same,R6.tb.upd (r6.same l _ x9) (fun _ z=>by cases z),R6.vis.trans vs,R6.sub,fun z hz=>?_,fun j d hj=>let ⟨u,t1,t2⟩:=R6.sh j d hj;⟨u,t1,t2.mono vs⟩,fun j es hj=>?_,R6.inj,R6.len⟩
          ·by_cases iU:z=l
           ·subst iU;exact⟨_,x9⟩
           ·obtain⟨o',bU⟩:=R6.zs z hz;exact⟨o',by rw[u8 iU];exact bU⟩
          ·obtain⟨a,xs,t1,t2,tb,t3,t4,t5⟩:=R6.own j es hj;exact⟨a,xs,t1,t2,tb,t3,by rw[u8 (na j es a hj t1)];exact t4,t5.mono vs⟩
         exact R7.base x9 n0 na
        ·exact j7.append ((ry.mono r6.vis).mono (z1H A6)) (j7.one (rv.mono (z1H A6)))
       ·cases e'
      ·cases e'
    ·have ei:i=ds.length:=by omega
     subst ei;rw[Jy]at e';unfold z3Z at e';cases e';rw[Ch]at ez;subst ez;have r0:=r'.unbase n0;exact .inl ⟨wk.stop H' vis,q l af H' r0.same (SqL.of aP) (ry.mono (z0G fun b hb=>A7 _ (r.sub b hb))) fun b hb=>r0.zs b (r0.sub b hb)⟩
   ·cases e
  ·cases e
theorem y3G{a:Expr}{p aJ:F2}{f:EL}(hm:X.mg "tuple" = none)(h:ZL X a f)(hg:Gl X "tuple":=by rfl)(he:Ac [a] X.env=(false,C0 a X.env)::Ac [] X.env:=by exact v5 rfl)(ah:(Bs aJ (Ac [] X.env)).any (·.1)=false:=by exact j8 rfl)(hv:B5 "tuple" = some (.type "tuple"):=by decide +kernel):ZS X (.Return (some (.Call (.Name "tuple" p) [a] [] aJ)) pos) (z0E (z6R f)):=
 ⟨have h:=h.h;
 z0F (x3L (z0M z6U hg hm hv (g9 h Y0 he) (by decide) (by decide) he ah)) fun E σ H h_=>by
  refine ex6 h_ fun ρ o B H0 V0 Z e r q=>?_;unfold z0E z6R at e
  cases ef:f ρ with
  |none=>rw[ef]at e;cases e
  |some ds=>
   rw[ef]at e;cases e;refine⟨ρ,ds,B,H0,V0,Z,ef,r,fun n xs H1 s1 hq rr hB=>⟨n,xs,rfl,.inl ⟨hq,fun l hl=>?_⟩⟩⟩;have sn:=j4 (o:=HO.tup xs) hl;refine q _ _ (s1.trans sn) (j3.mpr ⟨l,xs,rfl,SqT.of ?_,rr.mono (y8 sn)⟩);rw[K7 (fun z=>by obtain⟨u,hu⟩:=hB l z;rw[hl]at hu;cases hu)]
   exact x9⟩
end
section
variable{X:Cx}{pos p p2 aJ:F2}{a b c e tg:Expr}{fa fb fc f:ED}
theorem w4V{w1 w2:TI}(h1:PI X tg e w1)(h2:PI X tg e w2):PI X tg e (fun σ H R=>w1 σ H R∨w2 σ H R):=fun aa s σ H R I h=>by
 rcases h with h|h
 ·exact h1 aa s σ H R I h
 ·exact h2 aa s σ H R I h
theorem Q7(h:ZE X e f):ZI X tg e (dSq f):=
 ⟨have h:=h.h;
 z4M (w4V (w44 h) (w43 h)) fun σ H R h_=>by
 refine ex6 h_ fun ρ ds B H0 V0 Z e r q=>?_;unfold dSq at e;split at e
 ·rename_i es he;cases e;exact .inl ⟨ρ,_,B,H0,V0,Z,by unfold z0V;rw[he],r,q⟩
 ·rename_i es he;cases e;exact .inr ⟨ρ,_,B,H0,V0,Z,by unfold x5S;rw[he],r,q⟩
 ·cases e⟩
theorem y3E(hu:X.A.units<Cy)(ha:ZE X a fa)(hb:ZE X b fb):ZT X (.Compare a [.Lt] [b] pos) (y9 (d2 dLt fa fb)):=
 ⟨have ha:=ha.h;
 have hb:=hb.h;
 y14 (x0L.or (w5F hu)) (z87.or z6G w4B) ha hb (z6M _)⟩
theorem x2I{i:Nat}{x:Bb}{p1 p2 p3:F2}(h:ZE X a fa)(hN:X.N[i]?=some x:=by rfl)(hv:Vis X.env.scope x:=by first|exact Dw rfl|exact D2 (Dw rfl)|exact D2 (D2 rfl))(hd:(x==("__debug__":Bb))=false:=by decide)(aV:(x==("__classdict__":Bb))=false:=by decide)(ar:Eb (.Name x p1) "pop" X.env (C0 (.Name x p1) X.env)=C0 (.Name x p1) X.env:=by rfl) (aX:((Bs p3 (Ac [a] X.env)).all (fun x=>!x.1)&&(Je p3 (Gg [] X.env)).all (fun x=>x.1.isSome)
   && decide (([a]:List Expr).length+([]:List Fu).length+(if ([]:List Fu).isEmpty then 0 else 1)<30))=true:=by rfl) (au:(p2.endLine==p3.line)=true:=by rfl) (hs:Ac [a] X.env=(false,C0 a X.env)::Ac [] X.env:=by exact v5 rfl) (aq:(Bs p3 (Ac [] X.env)).any (·.1)=false:=by exact j8 rfl):ZX X (.Call (.Attribute (.Name x p1) "pop" p2) [a] [] p3) (w3K i fa):=
 ⟨have h:=h.h;
 w3Z (y6I Fk PySem.F.slot_list_pop PySem.F.type_list_pop x83 (z2K hN hv hd aV) (g9 h Y0 hs) ar aX au hs aq)⟩
end
theorem x8C{H:Hp}:J3 [] H=H:=by funext b;unfold J3;rw[if_neg (by simp)]
def dFn(n:Nat)(N:List Bb)(g:EO):LD:=fun ds=>if ds.length=n then z2F (g (z4B N ds)) else none
theorem w6K{P:Bo}{w:C8}{K:A5}{mg:Bb->Option A8}{base:C5}{x:Bb}{st:Db}{N ps:List Bb}{k n:Nat}{g:EO}(G:Stands K mg x st)(S:FnScope N ps (v6 st))(hb:∀(kV av pm:A8) (an:Option Ap) (am ct:A8) (us:List A8),us.length=ps.length->Ge (Dm x x (z2A st) (z05 st) (v6 st) .none kV av pm an am ct) ⟨us,[]⟩=Ck (ps.zip us))(hn:ps.length=n) (ap:∀(f:Ap) (am:A8) (A:By) (outer:List Ls) (s:Ah) (H:Hp) (E:XK),Room k (A.deeper (Is x (v6 st) s.heap.objs.size f am)) ->
   ZB (x1H CX0 P w K mg base N x (v6 st) f am A outer s H E).nox (z05 st) g):FnD P w K mg base (k+1) x ps (dFn n N g):=
 have ap:=fun f am A outer s H E hr=>(ap f am A outer s H E hr).h;
 x5C G S (fun ds d e=>by
  unfold dFn at e;split at e
  ·rename_i h;rw[h,hn]
  ·cases e) (fun ds d e=>by
  unfold dFn at e;split at e
  ·exact e
  ·cases e) hb ap
section
variable{prog:Bo}{w:C8}{A:By}{E:VP}{s:Ah}
theorem y3N{it t:Ap}{i:Nat}{items:Array A8}{x:A8}{Q:VP}(bi:s.heap.IsTupleIter it t i)(ht:s.heap.IsTuple t items)(hx:items[i]?=some x)(hQ:∀h',h'.IsTupleIter it t (i+1)->F3 it s.heap h'->Q x { s with heap:=h' }):Aq (B3 prog w) A (Ew (.ref it)) Q E s:=by
 rcases id bi with⟨ob,eo,ec,ed⟩;rcases ht with⟨ot,et,_,nt,edt⟩;unfold Ew;refine A4 (Hm (name:=Bq "__next__") bi.typeIs F.slot_tuple_iterator_next (Id F.slot_tuple_iterator_next bi.typeIs F.entry_tuple_iterator_next ?_ (F.args_tuple_iterator_next_1 _)));show Aq _ _ (field (.ref it) 0 >>= _) _ _ s;refine A4 (Hl eo ed (x:=.ref t) rfl ?_)
 show Aq _ _ (if (Ef t==C9)=true then _ else _) _ _ s;rw[if_neg (show ¬((Ef t==C9)=true) from B0)];show Aq _ _ (field (.ref it) 1 >>= _) _ _ s;refine A4 (Hl eo ed (x:=.int i 0) rfl ?_);show Aq _ _ (G9 (.ref t) >>= _) _ _ s;refine A4 (Dk et edt ?_);simp only[Ao,hx];refine A4 (wpAny_setField eo ed (by simp) (wpAny_pure ⟨x,rfl,wpAny_pure (hQ _ ?_ (Di ..))⟩))
 exact⟨_,E5 _ eo (Ji.isFreed_of_fields (Ji.data_mapFields ed _)),(Ji.cls_mapFields ..).trans ec,by rw[Ji.data_mapFields ed];simp[rawInt]⟩
theorem y60{it t:Ap}{i:Nat}{items:Array A8}{Q:VP}(hh:A.handled=none)(bi:s.heap.IsTupleIter it t i)(ht:s.heap.IsTuple t items)(hx:items[i]?=none)(hE:∀h' e,C5.ExtBut it s.heap h'->(∃o,h'.get? e=some o/\o.cls = .type "StopIteration")->E (.ref e) { s with heap:=h' }):Aq (B3 prog w) A (Ew (.ref it)) Q E s:=by
 rcases id bi with⟨ob,eo,ec,ed⟩;rcases ht with⟨ot,et,_,nt,edt⟩;unfold Ew;refine A4 (Hm (name:=Bq "__next__") bi.typeIs F.slot_tuple_iterator_next (Id F.slot_tuple_iterator_next bi.typeIs F.entry_tuple_iterator_next ?_ (F.args_tuple_iterator_next_1 _)));show Aq _ _ (field (.ref it) 0 >>= _) _ _ s;refine A4 (Hl eo ed (x:=.ref t) rfl ?_)
 show Aq _ _ (if (Ef t==C9)=true then _ else _) _ _ s;rw[if_neg (show ¬((Ef t==C9)=true) from B0)];show Aq _ _ (field (.ref it) 1 >>= _) _ _ s;refine A4 (Hl eo ed (x:=.int i 0) rfl ?_);show Aq _ _ (G9 (.ref t) >>= _) _ _ s;refine A4 (Dk et edt ?_);simp only[Ao,hx];refine A4 (Kl (A4 (wpAny_setField eo ed (by simp) ?_)))
 show Aq _ _ (newExc (.type "StopIteration") [] >>= _) _ _ _;refine A4 ?_;simp only[newExc,Mn];refine A4 (Cb ?_ (by size_fits));refine A4 (m:=firstArgMember _ _) (Gi (a:=C9) (by first|rfl|(simp only[firstArgMember];rfl)) (Cb ?_ (by size_fits)))
 simp only[raiseNew];refine A4 (wpAny_handled ?_)
 first|rw[show A.in1.handled=none from hh]|rw[hh]
 refine A4 (wpAny_pure (wpAny_throw ?_));exact hE _ _ (((Di ..).extBut.push _).push _) ⟨_,At _ rfl,rfl⟩
theorem y6Y(hh:A.handled=none)(it t:Ap)(ag:t≠it)(items:Array A8):
  Draws prog w A it [it,t] items.size (fun i v=>items[i]?=some v) (fun i h=>h.IsTupleIter it t i/\h.IsTuple t items) where
 live:=fun _ _ st=>by obtain⟨⟨o,ho,_⟩,_⟩:=st;exact⟨o,ho⟩
 frame:=fun _ _ _ st hk=>by obtain⟨⟨o,ho,z⟩,⟨o2,cb,z2⟩⟩:=st;exact⟨⟨o,hk it (by simp) o ho,z⟩,⟨o2,hk t (by simp) o2 cb,z2⟩⟩
 item:=fun i s Q E hi st hQ=>y3N st.1 st.2 (x:=items[i]) (by simp[hi]) fun h' a b=>hQ _ h' s.toks (by simp[hi]) ⟨a,st.2.extBut b.extBut ag⟩ b
 done:=fun s Q E st hE=>y60 hh st.1 st.2 (by simp) hE
theorem y6X(l:Ap)(items:Array A8)(n:Nat)(dct:Option Ap)(sl:Array (Option A8)):
  Mf (Df.«enumerate.__new__» ⟨[.type "enumerate",.ref l],[]⟩) (fun _ R s=>s.heap.get? l=some { cls:=.type "tuple",dict:=dct,data:=.seq items n,slots:=sl } /\
   R (.ok (.ret (.ref (s.heap.push { cls:=.type "tuple_iterator",data:=.fields #[.ref l,.int 0 0] }).objs.size)))
    { s with heap:=(s.heap.push { cls:=.type "tuple_iterator",data:=.fields #[.ref l,.int 0 0] }).push { cls:=.type "enumerate",data:=.fields #[.none,.bool false,.ref s.heap.objs.size,rawInt 0,.none,.none] } }):=
 .of_wp fun prog w A R s h=>by
  obtain⟨hp,g,d,tk,os⟩:=s;obtain⟨hl,h⟩:=h;have cg:=sub_enumerate;have hL:C5.IsTuple (Ah.heap ⟨hp,g,d,tk,os⟩) l items:=⟨_,hl,rfl,n,rfl⟩
  wp_walk using Fb hl;refine wpAny_stack_any fun st=>wpAny_pure ?_
  split
  ·rename_i c _ _ _ _ _;cases (c==Cf "enumerate")<;>(wp_walk using Fb hl,E6 hL;exact⟨_,rfl,h⟩)
  ·wp_walk using Fb hl,E6 hL;exact⟨_,rfl,h⟩
theorem y2Z{l:Ap}{items:Array A8}{Q:VP}(hL:s.heap.IsTuple l items)(h:∀h',IsEnum h' (s.heap.objs.size+1) s.heap.objs.size 0 .none->h'.IsTupleIter s.heap.objs.size l 0->(∀b o,s.heap.get? b=some o->h'.get? b=some o)->Q (.ref (s.heap.objs.size+1)) { s with heap:=h' }):
  Aq (B3 prog w) A (call (.type "enumerate") [.ref l]) Q E s:=by
 rcases hL with⟨⟨c,dct,dt,sl⟩,hl,hc,n,hd⟩;have bK:c = .type "tuple":=hc;have bS:dt = .seq items n:=hd;subst bK bS;refine callType_new F.called_enumerate (by decide) (F.typeCall_enumerate_1 _) (F.newCall_enumerate_1 _) (fun obj=>F.args_object_init_2 obj _) F.entry_enumerate_new (y6X l items n dct sl) ⟨hl,?_⟩;have hz:(s.heap.push { cls:=.type "tuple_iterator",data:=.fields #[.ref l,.int 0 0] }).objs.size=s.heap.objs.size+1:=Cw ..
 have he:IsEnum ((s.heap.push { cls:=.type "tuple_iterator",data:=.fields #[.ref l,.int 0 0] }).push { cls:=.type "enumerate",data:=.fields #[.none,.bool false,.ref s.heap.objs.size,rawInt 0,.none,.none] }) (s.heap.objs.size+1) s.heap.objs.size 0 .none:=by
  have z:=At (s.heap.push { cls:=.type "tuple_iterator",data:=.fields #[.ref l,.int 0 0] }) (o:={ cls:=.type "enumerate",data:=.fields #[.none,.bool false,.ref s.heap.objs.size,rawInt 0,.none,.none] }) rfl
  rwa [hz]at z
 show _/\_;rw[hz];exact⟨⟨_,he,rfl⟩,h _ he ⟨_,Aa _ (At _ rfl),rfl,rfl⟩ fun b o x=>Aa _ (Aa _ x)⟩
end
theorem x11{X:Cx}{aa:Pns}{σ:St}{H:Hp}{s:Ah}{h':C5}{t':Nat}{ch:List Ap}{a:Ap}{o:HO}(I:Inv X aa σ H s)(k:∀b ob,b∉ch->s.heap.get? b=some ob->h'.get? b=some ob)(hf:∀b∈ch,x29 X aa H b)(ha:s.heap.objs.size≤a)(new:z1D X.prog X.w (upd H a o) h' a o):Inv X aa σ (upd H a o) { s with heap:=h',toks:=t' }:=by
 have hn:H a=none:=I.hok.fresh ha;have lt:∀b ob,s.heap.get? b=some ob->b≠a:=fun b ob e=>Ar (Bg (Am e) ha)
 have fw:∀b u,H b=some u->b∉ch:=fun b u e z=>by
  have:=(hf b z).1
  rw[e]at this;cases this
 refine I.call (g':=s.gens) (d':=s.drawn) (ch:=ch) ⟨fun b ob e n _ hx=>k b ob hx e,fun b ob e n _ hx=>⟨ob.slots,k b ob hx e⟩,fun b ob e n _=>by rw[u8 (lt b ob e)];exact n,fun b ob e hx=>⟨ob,k b ob hx e⟩,
  fun b xs e=>by rw[u8 (W1 e hn)];exact e,fun b ob u e=>by rw[u8 (W1 e hn)];exact e,fun b ps e=>⟨#[],by rw[u8 (W1 e hn),e];simp⟩⟩ (fun b u e=>?_) I.bare fun b hb=>?_
 ·by_cases hb:b=a
  ·subst hb;rw[x9]at e;cases e;exact new
  ·rw[u8 hb]at e
   refine(I.hok b u e).stay (fun c v hc q=>k c v ?_ q) (fun c q=>by rw[u8 (W1 q hn)];exact q) (fun c xs q=>by rw[u8 (W1 q hn)];exact q) fun c ob xs q=>by rw[u8 (W1 q hn)];exact q
   rcases hc with z|z
   ·rw[z];exact fw b u e
   ·exact fw c _ z
 ·obtain⟨_,f1,_,f3,f5,f6⟩:=hf b hb;exact⟨f3,f1,f5,f6⟩
def Ite(Sq:Hp->List V->Prop):It:=
 ⟨fun i H=>∃xs x,Sq H xs/\xs[i]?=some x,fun i H x H'=>∃p y,H p=none/\x = .ref p/\H'=upd H p (.tup [.int (i:Nat),y])/\∀xs,Sq H xs->xs[i]?=some y,fun i H=>∃xs,Sq H xs/\xs.length=i⟩
structure ESrc(P:Bo)(w:C8)(K:A5)(a it:Ap)(Sq:Hp->List V->Prop)(Sr:C5->Array A8->Prop)(fD:Nat->C5->Prop):Prop where
 src:∀(X:Cx) aa σ H s,X.K=K->Inv X aa σ H s->∀xs,Sq H xs->∃its:List A8,Y3 xs its/\Sr s.heap its.toArray
 inj:∀(X:Cx) aa σ H s,X.K=K->Inv X aa σ H s->∀xs ys,Sq H xs->Sq H ys->xs=ys
 draw:∀(A:By) (items:Array A8),A.handled=none->Draws P w A it [it,a] items.size (fun i v=>items[i]?=some v) (fun i h=>fD i h/\Sr h items)
 obj:∀i h,fD i h->∃o,h.get? it=some o/\∀v,o.data≠.cell v
 keep:∀i h h',fD i h->(∀o,h.get? it=some o->h'.get? it=some o)->fD i h'
 cls:∀h items,Sr h items->∃o,h.get? a=some o/\o.cls≠.type "enumerate"
theorem y3M{P:Bo}{w:C8}{K:A5}{dL:List Expr}{x1:Nat}{cK:F2}{a it e:Ap}{Sq:Hp->List V->Prop}{Sr:C5->Array A8->Prop}{fD:Nat->C5->Prop}(D:ESrc P w K a it Sq Sr fD)(hei:e≠it):
  Turn P w K (.Tuple dL x1 cK) (Ite Sq) [e,it] e (fun i h=>(∃old,IsEnum h e it ((i:Nat):Int) old)/\fD i h) where
 mem:=by simp
 obj:=fun i h st b hb=>by
  obtain⟨⟨old,he⟩,hi⟩:=st;rcases Af.mp hb with z|z
  ·subst z;exact⟨_,he,fun v q=>by cases q⟩
  ·rw[Ae.mp z];exact D.obj i h hi
 keep:=fun i h h' st k=>by obtain⟨⟨old,he⟩,hi⟩:=st;exact⟨⟨old,k e (by simp) _ he⟩,D.keep i h h' hi fun o q=>k it (by simp) o q⟩
 item:=by
  intro X hP hw hK hc i aa s σ H E I hf st hg;subst hP hw;obtain⟨xs,x,hq,hx⟩:=hg;obtain⟨⟨old,he⟩,hi⟩:=st;obtain⟨its,rv,sr⟩:=D.src X aa σ H s hK I xs hq;obtain⟨u,hu,ru⟩:=rv.get hx
  have al:i<its.toArray.size:=by rw[Ag];exact(An.mp hu).1
  have hea:e≠a:=fun z=>by obtain⟨o,h1,h2⟩:=D.cls _ _ sr;rw[←z,he]at h1;cases h1;exact h2 rfl
  have hef:e∉[it,a]:=by simp[hei,hea]
  have heL:e<s.heap.objs.size:=Am he;obtain⟨oi,iW,_⟩:=D.obj i _ hi;have hiL:it<s.heap.objs.size:=Am iW;refine wpAny_pyNext_enum_itemD (D.draw X.A.in1 its.toArray (I.ok.hd hc)) he ⟨hi,sr⟩ al hei hef fun v h1 tk hv ho hs hT hz hk=>?_
  have ev:v=u:=by
   have:its.toArray[i]?=some v:=hv
   rw[show its.toArray[i]?=its[i]? by simp,hu]at this;exact(Bc this).symm
  subst ev;refine⟨_,rfl,wpAny_letOwnedTupleGo_enum ho fun h2 bV bH=>?_⟩
  have kk:∀b ob,b∉[e,it]->s.heap.get? b=some ob->h2.get? b=some ob:=fun b ob hb q=>by have n1:b≠e:=fun z=>hb (by simp[z]);have n2:b≠it:=fun z=>hb (by simp[z]);exact(bH.2 b n1).trans (hk b ob n1 n2 q)
  have hT2:h2.get? s.heap.objs.size=some { cls:=.type "tuple",data:=.seq #[.int i tk,v] }:=(bH.2 _ (D0 heL)).trans hT;refine⟨.ref s.heap.objs.size,upd H s.heap.objs.size (.tup [.int (i:Nat),x]),x11 (s:=s) (t':=tk+1) I kk hf (Ak _) ⟨by rw[C3];simp,[.int i tk,v],.cons ⟨tk,rfl⟩ (.cons ru .nil),⟨_,hT2,rfl,⟨_,rfl⟩,rfl⟩⟩,rfl,⟨_,x,I.fresh,rfl,rfl,fun ys hy=>by rw[D.inj X aa σ H s hK I ys xs hy hq];exact hx⟩,⟨⟨v,?_⟩,?_⟩,fun b hb=>?_⟩
  ·have:(((i+1:Nat):Nat):Int)=(i:Int)+1:=by omega
   rw[this];exact bV
  ·exact D.keep _ _ _ hs.1 fun o q=>(bH.2 it (Cl hei)).trans q
  ·have aU:b<s.heap.objs.size:=by
    rcases Af.mp hb with z|z
    ·rw[z];exact heL
    ·rw[Ae.mp z];exact hiL
   rw[u8 (Ar aU)];exact(hf b hb).1
 done:=by
  intro X hP hw hK hc i aa s σ H E I hf st hg;subst hP hw;obtain⟨xs,hq,hx⟩:=hg;obtain⟨⟨old,he⟩,hi⟩:=st;obtain⟨its,rv,sr⟩:=D.src X aa σ H s hK I xs hq
  have hn:i=its.toArray.size:=by rw[Ag,←rv.length,hx]
  obtain⟨f0,f1,f2,f3,f4,f5⟩:=hf it (by simp);refine wpAny_pyNext_enum_endD (D.draw X.A.in1 its.toArray (I.ok.hd hc)) he ⟨hn▸hi,sr⟩ fun h' eb=>⟨rfl,I.turned (t':=s.toks) (fun b o hb q=>eb b o hb q) f0 f1 f3 f4 f5⟩
 self:=fun _ _ _ _ _ st h=>by obtain⟨⟨old,he⟩,_⟩:=st;exact Jn he h
theorem x5K{P:Bo}{w:C8}{K:A5}{a it:Ap}(ag:a≠it):ESrc P w K a it (fun H xs=>SqL K H a xs) (fun h items=>h.IsList a items) (fun i h=>h.IsListIter it a i) where
 src:=fun X aa σ H s hK I xs hq=>by subst hK;obtain⟨its,rv,p,_⟩:=I.list hq;exact⟨its,rv,p.isList⟩
 inj:=fun X aa σ H s hK I xs ys h1 h2=>by subst hK;exact I.list_inj h1 h2
 draw:=fun A items hh=>Draws.list hh it a ag items
 obj:=fun i h st=>by obtain⟨o,e,c,d⟩:=st;exact⟨o,e,fun v z=>by rw[d]at z;cases z⟩
 keep:=fun i h h' st k=>by obtain⟨o,e,z⟩:=st;exact⟨o,k o e,z⟩
 cls:=fun h items st=>by obtain⟨o,e,c,_⟩:=st;exact⟨o,e,by rw[c];decide⟩
theorem x8I{P:Bo}{w:C8}{K:A5}{a it:Ap}(ag:a≠it):ESrc P w K a it (fun H xs=>SqT K H a xs) (fun h items=>h.IsTuple a items) (fun i h=>h.IsTupleIter it a i) where
 src:=fun X aa σ H s hK I xs hq=>by subst hK;obtain⟨its,rv,p,_⟩:=I.tuple hq;exact⟨its,rv,p⟩
 inj:=fun X aa σ H s hK I xs ys h1 h2=>by subst hK;exact I.tuple_inj h1 h2
 draw:=fun A items hh=>y6Y hh it a ag items
 obj:=fun i h st=>by obtain⟨o,e,c,d⟩:=st;exact⟨o,e,fun v z=>by rw[d]at z;cases z⟩
 keep:=fun i h h' st k=>by obtain⟨o,e,z⟩:=st;exact⟨o,k o e,z⟩
 cls:=fun h items st=>by obtain⟨o,e,c,_⟩:=st;exact⟨o,e,by rw[c];decide⟩
section
variable{X:Cx}{dL:List Expr}{x1:Nat}{cK pos p:F2}{a:Expr}{f:ED}
def w95(K:A5)(ta:TA):TI:=fun σ H R=>ta σ H fun vs H1=>∃a,vs=[.ref a]/\(∃xs,SqL K H1 a xs)/\R (Ite fun H xs=>SqL K H a xs) H1
def w94(K:A5)(ta:TA):TI:=fun σ H R=>ta σ H fun vs H1=>∃a,vs=[.ref a]/\(∃xs,SqT K H1 a xs)/\R (Ite fun H xs=>SqT K H a xs) H1
theorem w4X{ta:TA}(hg:Gl X "enumerate")(hm:X.mg "enumerate" = none)(ha:PA X [a] ta)(hv:B5 "enumerate" = some (.type "enumerate"))(he:Ac [a] X.env=(false,C0 a X.env)::Ac [] X.env)(ah:(Bs pos (Ac [] X.env)).any (·.1)=false):PI X (.Tuple dL x1 cK) (.Call (.Name "enumerate" p) [a] [] pos) (w95 X.K ta):=by
 intro aa s σ H R I h;refine Call_ (z37 I hg hm hv (Du (thn (ha pos aa s σ H _ I h) fun us s1 ⟨vs,H1,I1,r1,l,ev,⟨xs,hq⟩,q1⟩=>?_) he ah));subst ev;obtain⟨u,rfl,ru⟩:=z3K r1;cases ru;obtain⟨its,rv,pl,_⟩:=I1.list hq;refine call_enumerate_list pl.isList fun h' e1 e2 hz kk=>Jn e1 ?_;have I2:Inv X aa σ H1 { s1 with heap:=h' }:=I1.kept (t':=s1.toks) kk
 have hll:l<s1.heap.objs.size:=by obtain⟨o,e,_⟩:=pl.isList;exact Am e
 refine⟨s1.heap.objs.size+1,[s1.heap.objs.size+1,s1.heap.objs.size],_,_,H1,rfl,I2,y3M (x5K (Ar hll)) (Nat.succ_ne_self _),⟨⟨_,e1⟩,e2⟩,fun b hb=>?_,q1⟩
 have aU:s1.heap.objs.size≤b:=by
  rcases Af.mp hb with z|z
  ·rw[z];exact Dq _
  ·rw[Ae.mp z];exact Ak _
 exact I1.fpOk aU (I1.hok.fresh aU)
theorem w4W{ta:TA}(hg:Gl X "enumerate")(hm:X.mg "enumerate" = none)(ha:PA X [a] ta)(hv:B5 "enumerate" = some (.type "enumerate"))(he:Ac [a] X.env=(false,C0 a X.env)::Ac [] X.env)(ah:(Bs pos (Ac [] X.env)).any (·.1)=false):PI X (.Tuple dL x1 cK) (.Call (.Name "enumerate" p) [a] [] pos) (w94 X.K ta):=by
 intro aa s σ H R I h;refine Call_ (z37 I hg hm hv (Du (thn (ha pos aa s σ H _ I h) fun us s1 ⟨vs,H1,I1,r1,l,ev,⟨xs,hq⟩,q1⟩=>?_) he ah));subst ev;obtain⟨u,rfl,ru⟩:=z3K r1;cases ru;obtain⟨its,rv,pl,_⟩:=I1.tuple hq;refine y2Z (show s1.heap.IsTuple l its.toArray from pl) fun h' e1 e2 kk=>Jn e1 ?_;have I2:Inv X aa σ H1 { s1 with heap:=h' }:=I1.kept (t':=s1.toks) kk
 have hll:l<s1.heap.objs.size:=by obtain⟨o,e,_⟩:=id pl;exact Am e
 refine⟨s1.heap.objs.size+1,[s1.heap.objs.size+1,s1.heap.objs.size],_,_,H1,rfl,I2,y3M (x8I (Ar hll)) (Nat.succ_ne_self _),⟨⟨_,e1⟩,e2⟩,fun b hb=>?_,q1⟩
 have aU:s1.heap.objs.size≤b:=by
  rcases Af.mp hb with z|z
  ·rw[z];exact Dq _
  ·rw[Ae.mp z];exact Ak _
 exact I1.fpOk aU (I1.hok.fresh aU)
noncomputable def z4Y:Nat->List D->List D
 |_,[]=>[]
 |k,d::ds=>.tup [.int (k:Int),d]::z4Y (k+1) ds
theorem y4W:∀(ds:List D) (k i:Nat),(z4Y k ds)[i]?=(ds[i]?).map fun d=>.tup [.int ((k+i:Nat):Int),d]
 | [],k,i=>by simp[z4Y]
 |d::ds,k,0=>by simp[z4Y]
 |d::ds,k,i+1=>by rw[z4Y,Ei,y4W ds (k+1) i,Ei,show k+1+i=k+(i+1) by omega]
theorem y01:∀(ds:List D) (k:Nat),(z4Y k ds).length=ds.length
 | [],_=>rfl
 |d::ds,k=>by rw[z4Y,Ay,Ay,y01 ds]
theorem y3K{K:A5}{W0:Hp}{Sq:Hp->List V->Prop}{xs:List V}{ds:List D}(h1:∀H',j6 W0 H'->Sq H' xs)(h2:j7 K W0 ds xs):Walk K W0 (Ite Sq) (z4Y 0 ds) where
 go:=fun H' s i hi=>by rw[y01]at hi;obtain⟨v,hv,_⟩:=h2.get (A3 hi);exact⟨xs,v,h1 H' s,hv⟩
 yld:=fun H' s i x H3 hy=>by
  obtain⟨p,y,hp,rfl,rfl,hx⟩:=hy;refine⟨j4 hp,fun d hd Z hz hs=>?_⟩;rw[y4W]at hd
  cases e:ds[i]? with
  |none=>rw[e]at hd;cases hd
  |some d0=>
   rw[e]at hd;cases hd;obtain⟨v,hv,rv⟩:=h2.get e
   have:=hx xs (h1 H' s)
   rw[hv]at this
   obtain rfl:=Bc this
   have sn:=j4 (o:=HO.tup [.int (i:Nat),v]) hp;refine j3.mpr ⟨p,[.int (i:Nat),v],rfl,SqT.of ?_,j7.cons (w6.mpr (by simp)) (j7.one ((rv.mono hs).mono (y8 sn)))⟩;rw[K7 (y8S hz hp)];exact x9
 stop:=fun H' s=>⟨xs,h1 H' s,by rw[y01,h2.length]⟩
def x8O(f:ED):EL:=fun ρ=>match f ρ with|some (.lst ds)=>some (z4Y 0 ds)|some (.tup ds)=>some (z4Y 0 ds)|_=>none
theorem y7Z(hm:X.mg "enumerate" = none)(h:ZE X a f)(hg:Gl X "enumerate":=by rfl)(hv:B5 "enumerate" = some (.type "enumerate"):=by decide +kernel)(he:Ac [a] X.env=(false,C0 a X.env)::Ac [] X.env:=by exact v5 rfl)(ah:(Bs pos (Ac [] X.env)).any (·.1)=false:=by exact j8 rfl):ZI X (.Tuple dL x1 cK) (.Call (.Name "enumerate" p) [a] [] pos) (x8O f):=
 ⟨have h:=h.h;
 z4M (w4V (w4X hg hm (g9 h Y0 he) hv he ah) (w4W hg hm (g9 h Y0 he) hv he ah)) fun σ H R h_=>by
  refine ex6 h_ fun ρ ds B H0 V0 Z e r q=>?_;unfold x8O at e;split at e
  ·rename_i es he;cases e;refine .inl ⟨ρ,_,B,H0,V0,Z,he,r,fun v H' s rr=>?_⟩;obtain⟨l,xs,rfl,h1,h2⟩:=J5.mp rr;exact⟨l,rfl,⟨xs,x4.seq h1⟩,q _ H' s (y3K (fun eZ bt=>bt.seq h1) h2)⟩
  ·rename_i es he;cases e;refine .inr ⟨ρ,_,B,H0,V0,Z,he,r,fun v H' s rr=>?_⟩;obtain⟨l,xs,rfl,h1,h2⟩:=j3.mp rr;exact⟨l,rfl,⟨xs,u9 x4 h1⟩,q _ H' s (y3K (fun eZ bt=>u9 bt h1) h2)⟩
  ·cases e⟩
end
end L3
namespace L2
open PySem PySem.Spec PyProof.Rows
section
variable{κ:Type}[DecidableEq κ]
noncomputable def y0I(kvs:List (κ×V))(k:κ):Option V:=(kvs.find? fun kv=>decide (kv.1=k)).map (·.2)
noncomputable def z9C(kvs:List (κ×V))(k:κ)(v:V):List (κ×V):=if (kvs.any fun kv=>decide (kv.1=k))=true then kvs.map (fun kv=>if kv.1=k then (kv.1,v) else kv) else kvs++[(k,v)]
theorem z6D{p:κ×V}{r:List (κ×V)}{k:κ}(e:p.1=k):y0I (p::r) k=some p.2:=by simp[y0I,G4,e]
theorem z6E{p:κ×V}{r:List (κ×V)}{k:κ}(e:¬p.1=k):y0I (p::r) k=y0I r k:=by simp[y0I,G4,e]
theorem y86(k:κ):∀kvs:List (κ×V),(kvs.any fun kv=>decide (kv.1=k))=(y0I kvs k).isSome
 | []=>rfl
 |p::r=>by
  rw[Eo];by_cases e:p.1=k
  ·simp only[z6D e,decide_eq_true e,Lz,Option.isSome_some]
  ·rw[z6E e,decide_eq_false e,Ju];exact y86 k r
theorem z3Q(kvs:List (κ×V))(k:κ)(v:V):(z9C kvs k v).length≤kvs.length+1:=by
 unfold z9C;split
 ·rw[A0];omega
 ·rw[Ad,Ay,Cv];omega
theorem x28.isSome_eq{o:Option V}{u:Option A8}(r:x28 o u):o.isSome=u.isSome:=by
 cases o with
 |none=>cases u with
  |none=>rfl
  |some _=>exact(show False from r).elim
 |some _=>cases u with
  |none=>exact(show False from r).elim
  |some _=>rfl
theorem x28.getD{o:Option V}{u:Option A8}{d:V}{d':A8}(r:x28 o u)(rd:z01 d d'):z01 (o.getD d) (u.getD d'):=by
 cases o with
 |none=>cases u with
  |none=>exact rd
  |some _=>exact(show False from r).elim
 |some _=>cases u with
  |none=>exact(show False from r).elim
  |some _=>exact r
theorem KV.val{kvs:List (κ×V)}{vs:List (κ×A8)}(r:KV kvs vs)(k:κ):x28 (y0I kvs k) (Le vs k):=by
 unfold KV at r
 induction r with
 |nil=>exact Fw
 | @cons p q ps qs h t ih=>
  obtain⟨h1,h2⟩:=h;by_cases e:p.1=k
  ·have e':q.1=k:=h1.symm.trans e
   have b:Le (q::qs) k=some q.2:=by simp[Le,G4,e']
   rw[z6D e,b];exact h2
  ·have e':¬q.1=k:=fun z=>e (h1.trans z)
   have b:Le (q::qs) k=Le qs k:=by simp[Le,G4,e']
   rw[z6E e,b];exact ih
theorem KV.any{kvs:List (κ×V)}{vs:List (κ×A8)}(r:KV kvs vs)(k:κ):(kvs.any fun kv=>decide (kv.1=k))=vs.any fun kv=>decide (kv.1=k):=by
 unfold KV at r
 induction r with
 |nil=>rfl
 |cons h t ih=>rw[Eo,Eo,ih,h.1]
theorem KV.repl{kvs:List (κ×V)}{vs:List (κ×A8)}(r:KV kvs vs)(k:κ){y:V}{u:A8}(ry:z01 y u):
  KV (kvs.map fun kv=>if kv.1=k then (kv.1,y) else kv) (vs.map fun kv=>if kv.1=k then (kv.1,u) else kv):=by
 unfold KV at r ⊢
 induction r with
 |nil=>exact .nil
 | @cons p q ps qs h t ih=>
  rw[Ai,Ai];refine .cons ?_ ih;obtain⟨h1,h2⟩:=h;by_cases e:p.1=k
  ·rw[if_pos e,if_pos (h1.symm.trans e)];exact⟨h1,ry⟩
  ·rw[if_neg e,if_neg (fun z=>e (h1.trans z))];exact⟨h1,h2⟩
theorem KV.put{kvs:List (κ×V)}{vs:List (κ×A8)}(r:KV kvs vs)(k:κ){y:V}{u:A8}(ry:z01 y u):KV (z9C kvs k y) (stored vs k u):=by
 unfold z9C stored;rw[r.any k];by_cases e:(vs.any fun kv=>decide (kv.1=k))=true
 ·rw[if_pos e,if_pos e];exact r.repl k ry
 ·rw[if_neg e,if_neg e];exact Jb.snoc r ⟨rfl,ry⟩
theorem KV.length{kvs:List (κ×V)}{vs:List (κ×A8)}(r:KV kvs vs):kvs.length=vs.length:=Jr r
end
theorem x0Z{P:Bo}{w:C8}{k:Key}{u:A8}(r:z01 (kV k) u):(z0C P w).is k u=true:=by
 cases k with
 |inl i=>obtain⟨t,e⟩:=(show ∃t,u=Gm i t from r);subst e;exact y6P P w i t
 |inr x=>obtain⟨t,e⟩:=(show ∃t,u=L7 x t from r);subst e;exact y6O P w x t
theorem y4P{P:Bo}{w:C8}:∀{ks:List Key} {us:List A8},Y3 (ks.map kV) us->ItemsAre (z0C P w) ks us
 | [],_,r=>by rw[Ft]at r;cases r;exact .nil
 |k::ks,_,r=>by
  rw[Ai]at r
  cases r with
  |cons h t=>exact .cons (x0Z h) (y4P t)
abbrev KT(H:Hp):List (List Key×V)->List (List Key×Ap×A8)->Prop:=Jb fun p q=>p.1=q.1/\H q.2.1=some (.tup (p.1.map kV))/\z01 p.2 q.2.2
theorem KT.val{H:Hp}{kvs:List (List Key×V)}{xs:List (List Key×Ap×A8)}(r:KT H kvs xs)(k:List Key):x28 (y0I kvs k) ((M5 xs k).map (·.2)):=by
 induction r with
 |nil=>exact Fw
 | @cons p q ps qs h t ih=>
  obtain⟨h1,_,h2⟩:=h;by_cases e:p.1=k
  ·have e':q.1=k:=h1.symm.trans e
   have b:M5 (q::qs) k=some q.2:=by simp[M5,G4,e']
   rw[z6D e,b];exact h2
  ·have e':¬q.1=k:=fun z=>e (h1.trans z)
   have b:M5 (q::qs) k=M5 qs k:=by simp[M5,G4,e']
   rw[z6E e,b];exact ih
theorem KT.repl{H:Hp}{kvs:List (List Key×V)}{xs:List (List Key×Ap×A8)}(r:KT H kvs xs)(k:List Key){y:V}{u:A8}(ry:z01 y u):
  KT H (kvs.map fun kv=>if kv.1=k then (kv.1,y) else kv) (xs.map (putAt k u)):=by
 induction r with
 |nil=>exact .nil
 | @cons p q ps qs h t ih=>
  rw[Ai,Ai];refine .cons ?_ ih;obtain⟨h1,h2,h3⟩:=h;unfold putAt;by_cases e:p.1=k
  ·rw[if_pos e,if_pos (h1.symm.trans e)];exact⟨h1,h2,ry⟩
  ·rw[if_neg e,if_neg (fun z=>e (h1.trans z))];exact⟨h1,h2,h3⟩
theorem KT.put{H:Hp}{kvs:List (List Key×V)}{xs:List (List Key×Ap×A8)}(r:KT H kvs xs)(k:List Key){b:Ap}{y:V}{u:A8}(hb:H b=some (.tup (k.map kV)))(ry:z01 y u):
  KT H (z9C kvs k y) (storedH xs k b u):=by
 have e:(kvs.any fun kv=>decide (kv.1=k))=(M5 xs k).isSome:=by rw[y86,(r.val k).isSome_eq,F7]
 unfold z9C storedH;rw[e];by_cases q:(M5 xs k).isSome=true
 ·rw[if_pos q,if_pos q];exact r.repl k ry
 ·rw[if_neg q,if_neg q];exact Jb.snoc r ⟨rfl,hb,ry⟩
theorem KT.keeps{H H':Hp}{kvs:List (List Key×V)}{xs:List (List Key×Ap×A8)}(r:KT H kvs xs)(ht:∀b ys,H b=some (.tup ys)->H' b=some (.tup ys)):KT H' kvs xs:=Jb.mapP r fun _ _ z=>⟨z.1,ht _ _ z.2.1,z.2.2⟩
section
variable{P:Bo}{w:C8}{H:Hp}{h:C5}{a:Ap}
theorem w49{u:HO}(ok:HOk P w H h)(e:Rd H a u):z1D P w H h a u:=e.ok ok
theorem x1B{kvs:List (Key×V)}(ok:HOk P w H h)(e:Rd H a (.dK kvs)):kvs.length≤sizeLine/\(a==F8)=false/\∃vs,KV kvs vs/\h.DictOf (z0C P w) a vs:=show z1D P w H h a (.dK kvs) from w49 ok e
theorem y6Z{kvs:List (Key×V)}(ok:HOk P w H h)(e:H a=some (.dK kvs)):kvs.length≤sizeLine/\(a==F8)=false/\∃vs,KV kvs vs/\h.DictOf (z0C P w) a vs:=x1B ok (.inl e)
theorem y4O{ks:List Key}(ok:HOk P w H h)(e:H a=some (.tup (ks.map kV))):(L8 (z0C P w)).is h ks a:=by obtain⟨_,its,r,o,h1,h2,⟨n,h3⟩,_⟩:=(show z1D P w H h a (.tup (ks.map kV)) from ok a _ e);exact⟨o,its.toArray,n,h1,h2,h3,by simpa using y4P r⟩
theorem x5M{kvs:List (List Key×V)}(ok:HOk P w H h)(e:Rd H a (.dT kvs)):kvs.length≤sizeLine/\(a==F8)=false /\
  ∃xs,KT H kvs xs/\h.DictOfH (L8 (z0C P w)) a xs:=by
 obtain⟨z,y,xs,r,o,es,ep,h1,h2,h3,h4,h5⟩:=(show z1D P w H h a (.dT kvs) from w49 ok e);refine⟨z,y,xs,r,o,es,ep,h1,h2,h3,h4,fun x hx=>?_,h5⟩
 have all:∀{l:List (List Key×V)} {m:List (List Key×Ap×A8)},KT H l m->∀x∈m,(L8 (z0C P w)).is h x.1 x.2.1:=by
  intro l m q
  induction q with
  |nil=>intro x hx;exact nomatch hx
  | @cons p q ps qs hq t ih=>
   intro x hx;rcases Af.mp hx with e|hx
   ·subst e;exact y4O ok (by rw[←hq.1];exact hq.2.1)
   ·exact ih x hx
 exact all r x hx
theorem w7O{kvs:List (List Key×V)}(ok:HOk P w H h)(e:H a=some (.dT kvs)):kvs.length≤sizeLine/\(a==F8)=false /\
  ∃xs,KT H kvs xs/\h.DictOfH (L8 (z0C P w)) a xs:=x5M ok (.inl e)
end
def y7T(H:Hp)(a:Ap)(y:V)(r:Option V):Prop:=(∃kvs k,Rd H a (.dK kvs)/\y=kV k/\r=y0I kvs k)∨∃kvs k b,Rd H a (.dT kvs)/\y = .ref b/\H b=some (.tup (k.map kV))/\r=y0I kvs k
def w3F(H:Hp)(a:Ap)(y v:V)(H':Hp):Prop:=
 (∃kvs k,H a=some (.dK kvs)/\y=kV k/\kvs.length<sizeLine/\H'=upd H a (.dK (z9C kvs k v))) ∨
 ∃kvs k b,H a=some (.dT kvs)/\y = .ref b/\H b=some (.tup (k.map kV))/\kvs.length<sizeLine/\H'=upd H a (.dT (z9C kvs k v))
theorem y7T.k{H:Hp}{a:Ap}{kvs:List (Key×V)}{k:Key}(e:H a=some (.dK kvs)):y7T H a (kV k) (y0I kvs k):=.inl ⟨kvs,k,.inl e,rfl,rfl⟩
theorem y7T.t{H:Hp}{a b:Ap}{kvs:List (List Key×V)}{k:List Key}(e:H a=some (.dT kvs))(eb:H b=some (.tup (k.map kV))):y7T H a (.ref b) (y0I kvs k):=.inr ⟨kvs,k,b,.inl e,rfl,eb,rfl⟩
theorem w3F.k{H:Hp}{a:Ap}{kvs:List (Key×V)}{k:Key}{v:V}(e:H a=some (.dK kvs))(hl:kvs.length<sizeLine):w3F H a (kV k) v (upd H a (.dK (z9C kvs k v))):=.inl ⟨kvs,k,e,rfl,hl,rfl⟩
theorem w3F.t{H:Hp}{a b:Ap}{kvs:List (List Key×V)}{k:List Key}{v:V}(e:H a=some (.dT kvs))(eb:H b=some (.tup (k.map kV)))(hl:kvs.length<sizeLine):
  w3F H a (.ref b) v (upd H a (.dT (z9C kvs k v))):=.inr ⟨kvs,k,b,e,rfl,eb,hl,rfl⟩
section
variable{X:Cx}{aa:Pns}{σ:St}{H:Hp}{s:Ah}{a:Ap}{y v:V}{u r:A8}{o:Option V}{A:By}{E:VP}
theorem Inv.big(I:Inv X aa σ H s):F8<s.heap.objs.size:=by have h:Ct<s.heap.objs.size:=(I.mod.glob.keeps I.bk).lt;exact Cu (by decide) h
theorem x5Q{Q:VP}(hu:A.units+1<Cy)(I:Inv X aa σ H s)(g:y7T H a y (some v))(ry:z01 y u)(h:∀w' s',Inv X aa σ H s'->z01 v w'->Q w' s'):
  Aq (B3 X.prog X.w) A (Ki (.ref a) u) Q E s:=by
 rcases g with⟨kvs,k,e,ey,l⟩|⟨kvs,k,b,e,ey,eb,l⟩
 ·subst ey;obtain⟨z,hd,vs,aQ,dd⟩:=x1B I.hok e;obtain⟨w',hw,rw'⟩:=x28.some_of (v:=v) (o:=Le vs k) (by rw[l];exact aQ.val k)
  exact wpAny_getItem_of (x0Z ry) dd.mapOf hw (h w' _ (I.tok _) rw')
 ·subst ey;cases (show u=Ef b from ry);obtain⟨z,hd,xs,aQ,dd⟩:=x5M I.hok e;obtain⟨w',hw,rw'⟩:=x28.some_of (v:=v) (o:=(M5 xs k).map (·.2)) (by rw[l];exact aQ.val k)
  obtain⟨p,hp,fP⟩:=Bl.mp hw;refine wpAny_getItem_heap (Hg hu) (y4O I.hok eb) dd hp ?_;rw[fP];exact h w' _ (I.tok _) rw'
theorem w96{Q:VP}(hu:A.units+1<Cy)(I:Inv X aa σ H s)(g:y7T H a y o)(ry:z01 y u)(h:∀s',Inv X aa σ H s'->Q (.bool o.isSome) s'):
  Aq (B3 X.prog X.w) A (Cs .In u (.ref a)) Q E s:=by
 rcases g with⟨kvs,k,e,ey,l⟩|⟨kvs,k,b,e,ey,eb,l⟩
 ·subst ey;obtain⟨z,hd,vs,aQ,dd⟩:=x1B I.hok e;refine wpAny_in_of (x0Z ry) hd dd.mapOf ?_;rw[←(aQ.val k).isSome_eq,←l];exact h _ (I.tok _)
 ·subst ey;cases (show u=Ef b from ry);obtain⟨z,hd,xs,aQ,dd⟩:=x5M I.hok e;refine wpAny_in_heap (Hg hu) (y4O I.hok eb) hd dd ?_;have q:=(aQ.val k).isSome_eq;rw[F7]at q;rw[←q,←l];exact h _ (I.tok _)
theorem w31{Q:VP}(hu:A.units+1<Cy)(I:Inv X aa σ H s)(g:y7T H a y o)(ry:z01 y u)(h:∀s',Inv X aa σ H s'->Q (.bool (!o.isSome)) s'):
  Aq (B3 X.prog X.w) A (Cs .NotIn u (.ref a)) Q E s:=by
 rcases g with⟨kvs,k,e,ey,l⟩|⟨kvs,k,b,e,ey,eb,l⟩
 ·subst ey;obtain⟨z,hd,vs,aQ,dd⟩:=x1B I.hok e;refine wpAny_notIn_of (x0Z ry) hd dd.mapOf ?_;rw[←(aQ.val k).isSome_eq,←l];exact h _ (I.tok _)
 ·subst ey;cases (show u=Ef b from ry);obtain⟨z,hd,xs,aQ,dd⟩:=x5M I.hok e;refine wpAny_notIn_heap (Hg hu) (y4O I.hok eb) hd dd ?_;have q:=(aQ.val k).isSome_eq;rw[F7]at q;rw[←q,←l];exact h _ (I.tok _)
theorem y2T{h':C5}{t':Nat}{ob:HO}(I:Inv X aa σ H s)(mu:Mut (H a))(hs:F3 a s.heap h')(he:∃q,h'.get? a=some q)(new:z1D X.prog X.w (upd H a ob) h' a ob):
  Inv X aa σ (upd H a ob) { s with heap:=h',toks:=t' }:=
 I.write (x:=a) (e:=a) mu (.inl rfl) (fun b q hb z=>(hs.2 b hb).trans z) he new
theorem y9K{P:Bo}{w:C8}{H':Hp}{h':C5}{kvs:List (Key×V)}{vs:List (Key×A8)}(z:kvs.length≤sizeLine)(hd:(a==F8)=false)(aQ:KV kvs vs)(dd:h'.DictOf (z0C P w) a vs):
  z1D P w H' h' a (.dK kvs):=⟨z,hd,vs,aQ,dd⟩
theorem x5P{H':Hp}{Q:Unit->Ah->Prop}(hu:A.units+1<Cy)(I:Inv X aa σ H s)(g:w3F H a y v H')(ry:z01 y u)(rv:z01 v r)(h:∀s',Inv X aa σ H' s'->Q () s'):
  Aq (B3 X.prog X.w) A (setItem (.ref a) u r) Q E s:=by
 rcases g with⟨kvs,k,e,ey,l,eH⟩|⟨kvs,k,b,e,ey,eb,l,eH⟩
 ·subst ey eH;obtain⟨z,hd,vs,aQ,dd⟩:=y6Z I.hok e
  have hz:vs.length≤sizeLine:=by rw[←aQ.length];exact z
  have hl:(z9C kvs k v).length≤sizeLine:=by have:=z3Q kvs k v;omega
  refine wpAny_setItem_pairs (hsz:=hz) (x0Z ry) dd fun h' dl hs=>h _ ?_
  have he:∃q,h'.get? a=some q:=let ⟨q,_,_,hq,_⟩:=dl;⟨q,hq⟩
  exact y2T I (by rw[e];exact Fw) hs he (y9K hl hd (aQ.put k rv) dl)
 ·subst ey eH;cases (show u=Ef b from ry);obtain⟨z,hd,xs,aQ,dd⟩:=w7O I.hok e
  have hz:xs.length≤sizeLine:=by rw[←Jr aQ];exact z
  have hl:(z9C kvs k v).length≤sizeLine:=by have:=z3Q kvs k v;omega
  refine wpAny_setItem_heap (hsz:=hz) (Hg hu) (y4O I.hok eb) dd fun h' dl hs=>h _ ?_;obtain⟨q,es,ep,hq,h2,h3,h4,_,h5⟩:=dl;refine y2T I (by rw[e];exact Fw) hs ⟨q,hq⟩ ⟨hl,hd,_,(aQ.put k eb rv).keeps fun c ys ec=>?_,q,es,ep,hq,h2,h3,h4,h5⟩
  rw[u8 (w7C ec e (fun z=>nomatch z))];exact ec
end
section
variable{X:Cx}{aa:Pns}{σ:St}{H:Hp}{s:Ah}{a:Ap}{kvs:List (Key×V)}{k:Key}{u:A8}{A:By}{E:VP}
theorem w7P{Q:VP}(I:Inv X aa σ H s)(e:Rd H a (.dK kvs))(h:∀t s',Inv X aa σ H s'->Q (.int kvs.length t) s'):Aq (B3 X.prog X.w) A (call (.builtin "len") [.ref a]) Q E s:=by
 obtain⟨z,hd,vs,aQ,dd⟩:=x1B I.hok e;refine call_len_dict hd dd (by rw[←aQ.length];rw[C3]at z;omega) ?_
 rw[←aQ.length];exact h _ _ (I.tok _)
end
def w68(i:Expr):Prop:=∀ov iv,Ky i false ov iv=operate [ov,iv] (Ki ov iv)
theorem x2X{prog:Bo}{w:C8}{A:By}{E:VP}{s:Ah}{env:Ls}{value aN:Expr}{pos:F2}{T id:String}{Q:VP}(hl:typeLookup (.type T) "__getitem__" = Ck (some (.builtin id)))(hs:w68 aN)(h:Aq (B3 prog w) A (C0 value env) (fun o s₁=>Aq (B3 prog w) A (C0 aN env) (fun i s₂=>s₂.TypeIs o T/\Aq (B3 prog w) A (Ki o i) Q E s₂) E s₁) E s):
  Aq (B3 prog w) A (C0 (.Subscript value aN pos) env) Q E s:=by
 refine Mh (Ce h (fun o s₁ h₁=>Ce h₁ (fun i s₂ h₂=>?_) fun _ _ x=>x) fun _ _ x=>x);obtain⟨hT,h₂⟩:=h₂;unfold Lj;refine A4 ?_;rw[getitemInPython_of_ne hT.not_modules];refine A4 (wpAny_specialOf hT hl ?_)
 have fin:Aq (B3 prog w) A (Ky aN false o i) (fun r s₃=>Aq (B3 prog w) A (letTemporaryGo value o r >>= fun _=>Ck r) Q E s₃) E s₂:=by rw[hs o i];exact wpAny_operating (Ce h₂ (fun r s₃ h₃=>A4 (wpAny_letTemporaryGo (wpAny_pure h₃))) fun _ _ x=>x)
 first
  |exact wpAny_pure (A4 fin)
  |exact A4 (wpAny_pure (A4 fin))
  |exact A4 fin
theorem y70{X:Cx}{aa:Pns}{σ:St}{H:Hp}{s:Ah}{a:Ap}{y:V}{o:Option V}(I:Inv X aa σ H s)(g:y7T H a y o):s.TypeIs (.ref a) "dict":=by
 rcases g with⟨kvs,k,e,_,_⟩|⟨kvs,k,b,e,_,_,_⟩
 ·obtain⟨_,_,vs,_,dd⟩:=x1B I.hok e;exact dd.typeIs
 ·obtain⟨_,_,xs,_,dd⟩:=x5M I.hok e;exact dd.typeIs
noncomputable def w6Q(td ty:TE):TE:=fun σ H Q=>td σ H fun x H1=>ty σ H1 fun y H2=>∃a v,x = .ref a/\y7T H2 a y (some v)/\Q v H2
noncomputable def w84(ty td:TE):TE:=fun σ H Q=>ty σ H fun y H1=>td σ H1 fun x H2=>∃a o,x = .ref a/\y7T H2 a y o/\Q (.bl o.isSome) H2
noncomputable def y61(ty td:TE):TE:=fun σ H Q=>ty σ H fun y H1=>td σ H1 fun x H2=>∃a o,x = .ref a/\y7T H2 a y o/\Q (.bl (!o.isSome)) H2
noncomputable def w6W(td ty tv:TE):TS:=fun D σ H=>tv σ H fun v H1=>td σ H1 fun x H2=>ty σ H2 fun y H3=>∃a H4,x = .ref a/\w3F H3 a y v H4/\D.nx σ H4
section
variable{X:Cx}{o i e value:Expr}{pos aF cK:F2}{td ty tv:TE}
theorem w1T(hu:X.A.units+1<Cy)(ho:PE X o td)(hi:PE X i ty)(hs:w68 i):PE X (.Subscript o i pos) (w6Q td ty):=by
 intro aa s σ H Q I h;refine x2X PySem.F.slot_dict_getitem.lookup hs (z14 (ho aa s σ H _ I h) fun u s1 x H1 I1 rx q1=>z14 (hi aa s1 σ H1 _ I1 q1) fun iv s2 y H2 I2 ry ⟨a,v,ex,g,q2⟩=>?_);subst ex
 obtain rfl:u=Ef a:=rx
 exact⟨y70 I2 g,x5Q hu I2 g ry fun w' s3 I3 rw'=>⟨v,H2,I3,rw',q2⟩⟩
theorem w59(hu:X.A.units+1<Cy)(hi:PE X i ty)(ho:PE X o td):PC X .In i o (w84 ty td):=by
 intro aa s σ H Q I h;refine z14 (hi aa s σ H _ I h) fun iv s1 y H1 I1 ry q1=>z14 (ho aa s1 σ H1 _ I1 q1) fun u s2 x H2 I2 rx ⟨a,ov,ex,g,q2⟩=>?_;subst ex
 obtain rfl:u=Ef a:=rx
 exact w96 hu I2 g ry fun s3 I3=>⟨.bl ov.isSome,H2,I3,rfl,q2⟩
theorem y44(hu:X.A.units+1<Cy)(hi:PE X i ty)(ho:PE X o td):PC X .NotIn i o (y61 ty td):=by
 intro aa s σ H Q I h;refine z14 (hi aa s σ H _ I h) fun iv s1 y H1 I1 ry q1=>z14 (ho aa s1 σ H1 _ I1 q1) fun u s2 x H2 I2 rx ⟨a,ov,ex,g,q2⟩=>?_;subst ex
 obtain rfl:u=Ef a:=rx
 exact w31 hu I2 g ry fun s3 I3=>⟨.bl (!ov.isSome),H2,I3,rfl,q2⟩
theorem w1M(hu:X.A.units+1<Cy)(ho:PE X o td)(hi:PE X i ty)(hv:PE X value tv)(hs:Dy value (some (.Subscript o i aF)) pos.line X.env=Ck false):
  PS X (.Assign [.Subscript o i aF] value pos) (w6W td ty tv):=by
 intro aa s σ H D I h;refine wpAny_Assign_Subscript (z14 (hv aa s σ H _ I h) fun r s1 v H1 I1 rv q1=>z14 (ho aa s1 σ H1 _ I1 q1) fun u s2 x H2 I2 rx q2=>z14 (hi aa s2 σ H2 _ I2 q2) fun iv s3 y H3 I3 ry ⟨a,H4,ex,g,q3⟩=>?_) hs;subst ex
 obtain rfl:u=Ef a:=rx
 exact x5P hu I3 g ry rv fun s4 I4=>⟨σ,H4,I4,q3⟩
end
theorem x8K{P:Bo}{w:C8}{H:Hp}(h:C5)(hb:F8<h.objs.size):z1D P w H (h.push { cls:=.type "dict",data:=.dict #[] }) h.objs.size (.dK []):=
 ⟨Bf _,beq_eq_false_iff_ne.mpr (Cl (Ar hb)),[],.nil,C5.DictOf.new h⟩
def w3Y:TE:=fun _ H Q=>∀p,H p=none->Q (.ref p) (upd H p (.dK []))
section
variable{X:Cx}{pos:F2}
theorem x7T:PE X (.Dict [] [] pos) w3Y:=fun aa s σ H Q I h=>wpAny_Dict_empty ⟨.ref s.heap.objs.size,_,I.laid (a:=s.heap.objs.size) (o:=.dK []) (t':=s.toks) (fun _ _ q=>Aa _ q) (Ak _) (x8K s.heap I.big),rfl,h _ (I.hok.fresh (Ak _))⟩
end
end L2
namespace L3
open PySem PySem.Spec PyProof.Rows L2 PySem.SeqAt
noncomputable def x6P:D->Option Key
 | .int i=>some (.inl i)
 | .str x=>some (.inr x)
 |_=>none
noncomputable def z0U:List Key->List D->Key->Option D
 |k::ks,v::vs,j=>if k=j then some v else z0U ks vs j
 |_,_,_=>none
noncomputable def z71:List Key->List D->Key->D->List Key×List D
 |k::ks,v::vs,j,d=>if k=j then (k::ks,d::vs) else (k::(z71 ks vs j d).1,v::(z71 ks vs j d).2)
 |_,_,j,d=>([j],[d])
noncomputable def y8K:List (Key×V)->Key->V->List (Key×V)
 | [],j,d=>[(j,d)]
 |p::r,j,d=>if p.1=j then (p.1,d)::r else p::y8K r j d
theorem z6H(j:Key)(d:V):∀kvs:List (Key×V),(kvs.map (·.1)).Nodup->z9C kvs j d=y8K kvs j d
 | [],_=>rfl
 |p::r,hn=>by
  rw[Ai,Bz]at hn;have ih:=z6H j d r hn.2;unfold y8K;by_cases e:p.1=j
  ·rw[if_pos e];unfold z9C
   have ha:((p::r).any fun kv=>decide (kv.1=j))=true:=by rw[Eo,decide_eq_true e,Lz]
   rw[if_pos ha,Ai,if_pos e];congr 1
   have:∀kv∈r,(if kv.1=j then (kv.1,d) else kv)=kv:=fun kv hkv=>if_neg fun z=>hn.1 (by rw[e,←z];exact Bv hkv)
   exact(B7 this).trans (Ho _)
  ·rw[if_neg e,←ih];unfold z9C;rw[Eo,decide_eq_false e,Ju];by_cases h:(r.any fun kv=>decide (kv.1=j))=true
   ·rw[if_pos h,if_pos h,Ai,if_neg e]
   ·rw[if_neg h,if_neg h];rfl
section
variable{K:A5}{H:Hp}
theorem y8Y:∀{kvs:List (Key×V)} {vs:List D} {j:Key} {d:D},j7 K H vs (kvs.map (·.2))->z0U (kvs.map (·.1)) vs j=some d->∃v,y0I kvs j=some v/\Rep K H d v
 | [],vs,j,d,_,e=>by cases vs<;>cases e
 |p::r,vs,j,d,h,e=>by
  cases vs with
  |nil=>cases e
  |cons x xs=>
   obtain⟨v,ws,e1,h1,h2⟩:=j0.mp h;rw[Ai]at e1;cases e1;rw[Ai]at e;unfold z0U at e;by_cases z:p.1=j
   ·rw[if_pos z]at e;cases e;exact⟨_,z6D z,h1⟩
   ·rw[if_neg z]at e;obtain⟨v,q1,q2⟩:=y8Y h2 e;exact⟨v,by rw[z6E z];exact q1,q2⟩
theorem z4Q:∀{kvs:List (Key×V)} {vs:List D} {j:Key},j7 K H vs (kvs.map (·.2))->(z0U (kvs.map (·.1)) vs j).isSome=(y0I kvs j).isSome
 | [],vs,j,_=>by cases vs<;>rfl
 |p::r,vs,j,h=>by
  cases vs with
  |nil=>cases J6.mp h
  |cons x xs=>
   obtain⟨v,ws,e1,h1,h2⟩:=j0.mp h;rw[Ai]at e1;cases e1;rw[Ai];unfold z0U;by_cases z:p.1=j
   ·rw[if_pos z,z6D z];rfl
   ·rw[if_neg z,z6E z];exact z4Q h2
theorem y2B:∀{kvs:List (Key×V)} {vs:List D} {j:Key} {d:D} {v:V},j7 K H vs (kvs.map (·.2))->Rep K H d v->(y8K kvs j v).map (·.1)=(z71 (kvs.map (·.1)) vs j d).1/\j7 K H (z71 (kvs.map (·.1)) vs j d).2 ((y8K kvs j v).map (·.2))
 | [],vs,j,d,v,h,hd=>by
  obtain rfl:vs=[]:=by cases vs with|nil=>rfl|cons _ _=>obtain⟨_,_,e,_⟩:=j0.mp h;cases e
  exact⟨rfl,j7.one hd⟩
 |p::r,vs,j,d,v,h,hd=>by
  cases vs with
  |nil=>cases J6.mp h
  |cons x xs=>
   obtain⟨y,ws,e1,h1,h2⟩:=j0.mp h;rw[Ai]at e1;cases e1;rw[Ai];unfold y8K z71;by_cases z:p.1=j
   ·rw[if_pos z,if_pos z];exact⟨rfl,j7.cons hd h2⟩
   ·rw[if_neg z,if_neg z];obtain⟨q1,q2⟩:=y2B (j:=j) (d:=d) (v:=v) h2 hd;exact⟨by rw[Ai,q1],j7.cons h1 q2⟩
end
theorem z58{K:A5}{H:Hp}{d:D}{k:Key}{v:V}(e:x6P d=some k)(h:Rep K H d v):v=kV k:=by
 cases d with
 |int i=>cases e;exact w6.mp h
 |str x=>cases e;exact W9.mp h
 |_=>cases e
section
variable{X:Cx}{a b e o:Expr}{pos aF p:F2}{f fa fb:ED}
theorem w74{t1 t2:TT}(h1:PT X e t1)(h2:PT X e t2):PT X e (fun σ H Q=>t1 σ H Q∨t2 σ H Q):=fun aa s σ H Q I h=>by
 rcases h with h|h
 ·exact h1 aa s σ H Q I h
 ·exact h2 aa s σ H Q I h
noncomputable def x8L{α:Type}(f g:u5->Option α):u5->Option α:=fun ρ=>match f ρ with|some d=>some d|none=>g ρ
theorem x99{ga gb:EB}(h1:STt X e ga)(h2:STt X e gb):STt X e (x8L ga gb):=z1P (w74 h1 h2) fun σ H Q h_=>by
 refine ex6 h_ fun ρ d B H0 V0 Z e r q=>?_;unfold x8L at e;split at e
 ·rename_i d' h;cases e;exact .inl ⟨ρ,_,B,H0,V0,Z,h,r,q⟩
 ·exact .inr ⟨ρ,_,B,H0,V0,Z,e,r,q⟩
theorem z3J:ZFD X (.Dict [] [] pos) (fun _=>some ([],[])):=
 ⟨u7 x7T fun σ H Q ⟨ρ,ds,B,H0,V0,Z,e,r,q⟩ p hp=>by
 cases e
 exact q p [] _ (j4 hp) hp x9 rfl j7.nil⟩
def z8K(fa fb:ED):ED:=fun ρ=>match fa ρ with
 |some (.dct ks vs)=>(match fb ρ with|some kd=>(match x6P kd with|some k=>z0U ks vs k|none=>none)|none=>none)
 |_=>none
theorem w17(hu:X.A.units+64<Cy)(ho:SE X o fa)(hi:SE X a fb)(hs:w68 a:=by exact fun _ _=>rfl):SE X (.Subscript o a pos) (z8K fa fb):=
 u7 (w1T (by omega) ho hi hs) fun σ H Q h_=>by
  refine ex6 h_ fun ρ d B H0 V0 Z e r q=>?_;unfold z8K at e;split at e
  ·rename_i ks vs ed;split at e
   ·rename_i kd ek;split at e
    ·rename_i k hk;refine⟨ρ,_,B,H0,V0,Z,ed,r,fun x H1 s1 r1=>⟨ρ,kd,B,H0,V0,Z,ek,r.mono s1,fun y H2 s2 r2=>?_⟩⟩;obtain⟨n,kvs,rfl,h1,h2,h3⟩:=Z8.mp (r1.mono (y8 s2));subst h2;obtain⟨v,q1,q2⟩:=y8Y h3 e
     obtain rfl:=z58 hk r2
     refine⟨n,v,rfl,?_,q v H2 (s1.trans s2) q2⟩;rw[←q1];exact y7T.k (W4 h1).2
    ·cases e
   ·cases e
  ·cases e
noncomputable def y07(i:Nat):u5->Option (List Key×List D):=fun ρ=>match ρ[i]? with|some (some (.od ks vs))=>some (ks,vs)|_=>none
theorem z1B{i:Nat}{ρ:u5}{d:List Key×List D}(e:y07 i ρ=some d):ρ[i]?=some (some (.od d.1 d.2)):=by
 unfold y07 at e;split at e
 ·rename_i h;cases e;exact h
 ·cases e
def dDGetO(i:Nat)(fb:ED):ED:=fun ρ=>match y07 i ρ with
 |some d=>(match fb ρ with|some kd=>(match x6P kd with|some k=>z0U d.1 d.2 k|none=>none)|none=>none)
 |_=>none
def x8P(neg:Bool)(fb fa:ED):ED:=fun ρ=>match fb ρ with
 |some kd=>(match fa ρ with|some (.dct ks vs)=>(match x6P kd with|some k=>some (.bl (if neg then !(z0U ks vs k).isSome else (z0U ks vs k).isSome))|none=>none)|_=>none)
 |none=>none
def x1F(neg:Bool)(fb:ED)(i:Nat):ED:=fun ρ=>match fb ρ with
 |some kd=>(match y07 i ρ with|some d=>(match x6P kd with|some k=>some (.bl (if neg then !(z0U d.1 d.2 k).isSome else (z0U d.1 d.2 k).isSome))|none=>none)|_=>none)
 |none=>none
theorem w30{K:A5}:∀σ H Q,tD K (x8P false fb fa) σ H Q->w84 (tD K fb) (tD K fa) σ H Q:=fun σ H Q h_=>by
 refine ex6 h_ fun ρ d B H0 V0 Z e r q=>?_;unfold x8P at e;split at e
 ·rename_i kd ek;split at e
  ·rename_i ks vs ed;split at e
   ·rename_i k hk;cases e;refine⟨ρ,kd,B,H0,V0,Z,ek,r,fun y H1 s1 r1=>⟨ρ,_,B,H0,V0,Z,ed,r.mono s1,fun x H2 s2 r2=>?_⟩⟩;obtain⟨n,kvs,rfl,h1,h2,h3⟩:=Z8.mp r2;subst h2
    obtain rfl:=z58 hk r1
    refine⟨n,y0I kvs k,rfl,y7T.k (W4 h1).2,?_⟩;rw[z4Q h3]at q;exact q _ H2 (s1.trans s2) (J8.mpr rfl)
   ·cases e
  ·cases e
 ·cases e
theorem x8J{K:A5}:∀σ H Q,tD K (x8P true fb fa) σ H Q->y61 (tD K fb) (tD K fa) σ H Q:=fun σ H Q h_=>by
 refine ex6 h_ fun ρ d B H0 V0 Z e r q=>?_;unfold x8P at e;split at e
 ·rename_i kd ek;split at e
  ·rename_i ks vs ed;split at e
   ·rename_i k hk;cases e;refine⟨ρ,kd,B,H0,V0,Z,ek,r,fun y H1 s1 r1=>⟨ρ,_,B,H0,V0,Z,ed,r.mono s1,fun x H2 s2 r2=>?_⟩⟩;obtain⟨n,kvs,rfl,h1,h2,h3⟩:=Z8.mp r2;subst h2
    obtain rfl:=z58 hk r1
    refine⟨n,y0I kvs k,rfl,y7T.k (W4 h1).2,?_⟩;rw[z4Q h3]at q;exact q _ H2 (s1.trans s2) (J8.mpr rfl)
   ·cases e
  ·cases e
 ·cases e
theorem x5N{K:A5}{i:Nat}:∀σ H Q,tD K (x1F true fb i) σ H Q->y61 (tD K fb) (w6A i) σ H Q:=fun σ H Q h_=>by
 refine ex6 h_ fun ρ d B H0 V0 Z e r q=>?_;unfold x1F at e;split at e
 ·rename_i kd ek;split at e
  ·rename_i dd ed;split at e
   ·rename_i k hk;cases e;obtain⟨n,kvs,h1,h2,hb,h3,h4,h5,h6⟩:=r.od i dd.1 dd.2 (z1B ed);refine⟨ρ,kd,B,H0,V0,Z,ek,r,fun y H1 s1 r1=>⟨.ref n,h1,?_⟩⟩
    obtain rfl:=z58 hk r1
    refine⟨n,y0I kvs k,rfl,y7T.k (s1 _ _ h4),?_⟩;rw[←h5,z4Q h6]at q;exact q _ H1 s1 (J8.mpr rfl)
   ·cases e
  ·cases e
 ·cases e
theorem x2A(i:Nat){x:Bb}(hu:X.A.units+64<Cy)(hi:ZE X a fb)(hN:X.N[i]?=some x:=by rfl)(hv:Vis X.env.scope x:=by first|exact Dw rfl|exact D2 (Dw rfl)|exact D2 (D2 rfl))(hd:(x==("__debug__":Bb))=false:=by decide)(aV:(x==("__classdict__":Bb))=false:=by decide):ZT X (.Compare a [.NotIn] [.Name x p] pos) (y9 (x1F true fb i)):=
 ⟨have hi:=hi.h;
 z1P (x3J (y44 (by omega) hi (z2K hN hv hd aV)) rfl) fun σ H Q h=>x5N _ _ _ (z2J σ H Q h)⟩
theorem w0Q(hu:X.A.units+64<Cy)(ha:ZE X a fb)(hb:ZE X b fa)(hm:Dd .In b=false:=by with_unfolding_all rfl):ZT X (.Compare a [.In] [b] pos) (x8L (y9 (dIn false fb (dSq fa))) (y9 (x8P false fb fa))):=
 ⟨have ha:=ha.h;
 have hb:=hb.h;
 x99 (w41 hu ha (w72 hb) hm) (z1P (x3J (w59 (by omega) ha hb) hm) fun σ H Q h=>w30 _ _ _ (z2J σ H Q h))⟩
theorem x6U(hu:X.A.units+64<Cy)(ha:ZE X a fb)(hb:ZE X b fa)(hm:Dd .NotIn b=false:=by with_unfolding_all rfl):ZT X (.Compare a [.NotIn] [b] pos) (x8L (y9 (dIn true fb (dSq fa))) (y9 (x8P true fb fa))):=
 ⟨have ha:=ha.h;
 have hb:=hb.h;
 x99 (x9A hu ha (w72 hb) hm) (z1P (x3J (y44 (by omega) ha hb) hm) fun σ H Q h=>x8J _ _ _ (z2J σ H Q h))⟩
def y72(i:Nat)(fk fv:ED):EO:=fun ρ=>match fv ρ with
 |some v=>(match y07 i ρ with
  |some d=>(match fk ρ with
   |some kd=>(match x6P kd with|some k=>if d.1.Nodup/\d.1.length<LIM then some (.nx (ρ.set i (some (.od (z71 d.1 d.2 k v).1 (z71 d.1 d.2 k v).2)))) else none|none=>none)
   |none=>none)
  |none=>none)
 |none=>none
theorem y1U{i:Nat}{x:Bb}(hu:X.A.units+64<Cy)(hi:ZE X a fb)(cv:ZE X b fa)(hN:X.N[i]?=some x:=by rfl)(hv:Vis X.env.scope x:=by first|exact Dw rfl|exact D2 (Dw rfl)|exact D2 (D2 rfl))(hd:(x==("__debug__":Bb))=false:=by decide)(aV:(x==("__classdict__":Bb))=false:=by decide)(hs:Dy b (some (.Subscript (.Name x p) a aF)) pos.line X.env=Ck false:=by rfl):ZS X (.Assign [.Subscript (.Name x p) a aF] b pos) (y72 i fb fa):=
 ⟨have hi:=hi.h;
 have cv:=cv.h;
 z0F (w1M (by omega) (z2K hN hv hd aV) hi cv hs) fun E σ H h_=>by
  refine ex6 h_ fun ρ o B H0 V0 Z e r q=>?_;unfold y72 at e;split at e
  ·rename_i v ev;split at e
   ·rename_i dd ed;split at e
    ·rename_i kd ek;split at e
     ·rename_i k hk;split at e
      ·rename_i hz;cases e;obtain⟨n,kvs,h1,h2,hb,h3,h4,h5,h6⟩:=r.od i dd.1 dd.2 (z1B ed);refine⟨ρ,v,B,H0,V0,Z,ev,r,fun y H1 s1 r1=>⟨.ref n,h1,ρ,kd,B,H0,V0,Z,ek,r.mono s1,fun z H2 s2 r2=>?_⟩⟩
       obtain rfl:=z58 hk r2
       have ab:kvs.length<sizeLine:=by
        have:kvs.length=dd.1.length:=by rw[←h5,A0]
        rw[this];exact y4I (D8 hz.2)
       refine⟨n,_,rfl,w3F.k (s2 _ _ (s1 _ _ h4)) ab,?_⟩;rw[z6H k y kvs (by rw[h5];exact hz.1)]
       have R2:=(r.mono s1).mono s2;obtain⟨p1,p2⟩:=y2B (j:=k) (h6.mono (y8 (s1.trans s2))) (r1.mono (y8 s2));rw[h5]at p1 p2;exact q σ _ Z (R2.updC (c:=.d dd.1 dd.2) (e:=.d (z71 dd.1 dd.2 k v).1 (z71 dd.1 dd.2 k v).2) (z1B ed) h1 ⟨_,rfl,p1,p2⟩)
      ·cases e
     ·cases e
    ·cases e
   ·cases e
  ·cases e⟩
end
section
variable{prog:Bo}{w:C8}{A:By}{E:VP}{s:Ah}{R:Js->Ah->Prop}
def Kp(it S:Ap)(h h':C5):Prop:=∀b o,b≠it->b≠S->h.get? b=some o->h'.get? b=some o
theorem Kp.trans{it S:Ap}{h h1 h2:C5}(a:Kp it S h h1)(b:Kp it S h1 h2):Kp it S h h2:=fun c o n1 n2 e=>b c o n1 n2 (a c o n1 n2 e)
theorem x4E{it T S:Ap}{u v x:A8}{c:Nat}(hh:A.handled=none)(bi:s.heap.IsTupleIter it T 2)(ht:s.heap.IsTuple T #[u,v])(ag:S≠it)(hS:s.heap.get? S=some { cls:=.type "list",dict:=none,data:=.seq #[x,x] c,slots:=#[] })(hR:∀h',Kp it S s.heap h'->R (.ok (.ret x)) { s with heap:=h' }):Dl (B3 prog w) A (.builtin "max.loop" ⟨[.ref it,.none,.ref S],[]⟩) R s:=by
 refine codeAny_builtin F.entry_max_loop ?_;rw[Bx F.plain_max_loop _];show Aq _ A.in1 (G9 (.ref S) >>= _) _ _ s;refine A4 (Dk hS rfl ?_);show Aq _ A.in1 (Ed (Ic (.ref it)) _ >>= _) _ _ s;refine A4 (Cp (Fs hh bi ht (by simp) fun h1 k1=>?_));have bW:=k1 S _ ag hS;show Aq _ A.in1 (Gq S (fun _=>#[]) >>= _) _ _ _;refine A4 (E3 bW rfl (A4 (E4 (wpAny_pure (hR _ fun b o n1 n2 e=>?_)))))
 exact(B8 _ _ (Cl n2)).trans (k1 b o n1 e)
theorem w2E{it T S:Ap}{u v:A8}{c:Nat}{bb:Bool}(hh:A.handled=none)(bi:s.heap.IsTupleIter it T 1)(ht:s.heap.IsTuple T #[u,v])(ag:S≠it)(eE:T≠it)(eO:T≠S)(hS:s.heap.get? S=some { cls:=.type "list",dict:=none,data:=.seq #[u,u] c,slots:=#[] })(hc:∀h' (Q:VP) (E:VP),Kp it S s.heap h'->Q (.bool bb) { s with heap:=h' }->Aq (B3 prog w) A.in1 (Dz .Gt v u) Q E { s with heap:=h' })(hR:∀h',Kp it S s.heap h'->R (.ok (.ret (if bb=true then v else u))) { s with heap:=h' }):Dl (B3 prog w) A (.builtin "max.loop" ⟨[.ref it,.none,.ref S],[]⟩) R s:=by
 have aC:(Ee "max"++Ee ".loop":String) = "max.loop":=by decide
 refine codeAny_builtin F.entry_max_loop ?_;rw[Bx F.plain_max_loop _];show Aq _ A.in1 (G9 (.ref S) >>= _) _ _ s;refine A4 (Dk hS rfl ?_);show Aq _ A.in1 (Ed (Ic (.ref it)) _ >>= _) _ _ s;refine A4 (Cp (Do bi ht (x:=v) (by simp) fun h1 i1 k1=>?_));have cS:Kp it S s.heap h1:=fun b o n1 _ e=>(k1.2 b n1).trans e
 have bW:=(k1.2 S ag).trans hS;have eN:h1.IsTuple T #[u,v]:=ht.extBut k1.extBut eE;show Aq _ A.in1 (Ed (Gb [v,v] (Dz .Gt v u >>= _)) _ >>= _) _ _ _;refine A4 (Cp (Cr (A4 (hc h1 _ _ cS ?_))));refine A4 (Cr (Cm (A4 (E4 (wpAny_pure ?_)))))
 cases bb with
 |true=>
  simp only[if_true];refine A4 (E3 bW rfl (A4 (E4 ?_)));rw[aC];refine wpAny_pure ⟨plainId_quiet F.plain_max_loop _,x4E (u:=u) (v:=v) (T:=T) hh ?_ ?_ ag (E5 _ bW rfl) fun h2 k2=>hR h2 (cS.trans (Kp.trans (fun b o n1 n2 e=>(B8 _ _ (Cl n2)).trans e) k2))⟩
  ·obtain⟨o,e,z⟩:=i1;exact⟨o,(B8 _ _ ag).trans e,z⟩
  ·obtain⟨o,e,z⟩:=eN;exact⟨o,(B8 _ _ (Cl eO)).trans e,z⟩
 |false=>simp only[E9,if_false];refine A4 (E4 ?_);rw[aC];exact wpAny_pure ⟨plainId_quiet F.plain_max_loop _,x4E (u:=u) (v:=v) hh i1 eN ag bW fun h2 k2=>hR h2 (cS.trans k2)⟩
theorem w2F{it T S:Ap}{u v:A8}{c:Nat}{bb:Bool}(hh:A.handled=none)(bi:s.heap.IsTupleIter it T 0)(ht:s.heap.IsTuple T #[u,v])(ag:S≠it)(eE:T≠it)(eO:T≠S)(hS:s.heap.get? S=some { cls:=.type "list",dict:=none,data:=.seq #[] c,slots:=#[] })(hc:∀h' (Q:VP) (E:VP),Kp it S s.heap h'->Q (.bool bb) { s with heap:=h' }->Aq (B3 prog w) A.in1 (Dz .Gt v u) Q E { s with heap:=h' })(hR:∀h',Kp it S s.heap h'->R (.ok (.ret (if bb=true then v else u))) { s with heap:=h' }):Dl (B3 prog w) A (.builtin "max.loop" ⟨[.ref it,.none,.ref S],[]⟩) R s:=by
 have aC:(Ee "max"++Ee ".loop":String) = "max.loop":=by decide
 refine codeAny_builtin F.entry_max_loop ?_;rw[Bx F.plain_max_loop _];show Aq _ A.in1 (G9 (.ref S) >>= _) _ _ s;refine A4 (Dk hS rfl ?_);show Aq _ A.in1 (Ed (Ic (.ref it)) _ >>= _) _ _ s;refine A4 (Cp (Do bi ht (x:=u) (by simp) fun h1 i1 k1=>?_));have cS:Kp it S s.heap h1:=fun b o n1 _ e=>(k1.2 b n1).trans e
 have bW:=(k1.2 S ag).trans hS;have eN:h1.IsTuple T #[u,v]:=ht.extBut k1.extBut eE;show Aq _ A.in1 (Gq S (fun _=>#[u,u]) >>= _) _ _ _;refine A4 (E3 bW rfl ?_);rw[aC];have ku:Kp it S h1 _:=fun b o n1 n2 e=>(B8 h1 (Ca fun _=>#[u,u]) (Cl n2)).trans e;refine wpAny_pure ⟨plainId_quiet F.plain_max_loop _,w2E (u:=u) (v:=v) (T:=T) (bb:=bb) hh ?_ ?_ ag eE eO (E5 _ bW rfl) (fun h' Q E k q=>hc h' Q E (cS.trans (ku.trans k)) q) fun h2 k2=>hR h2 (cS.trans (ku.trans k2))⟩
 ·obtain⟨o,e,z⟩:=i1;exact⟨o,(B8 _ _ ag).trans e,z⟩
 ·obtain⟨o,e,z⟩:=eN;exact⟨o,(B8 _ _ (Cl eO)).trans e,z⟩
theorem w2D{u v:A8}{bb:Bool}{Q:VP}(hh:A.handled=none)(hc:∀h' (Q:VP) (E:VP),(∀b o,s.heap.get? b=some o->h'.get? b=some o)->Q (.bool bb) { s with heap:=h' }->Aq (B3 prog w) A.in1 (Dz .Gt v u) Q E { s with heap:=h' })(hQ:∀h',(∀b o,s.heap.get? b=some o->h'.get? b=some o)->Q (if bb=true then v else u) { s with heap:=h' }):Aq (B3 prog w) A (call (.builtin "max") [u,v]) Q E s:=by
 have aC:(Ee "max"++Ee ".loop":String) = "max.loop":=by decide
 refine call_function_tree F.kind_max F.plain_max F.entry_max (F.args_max2 _ _) ?_;show Aq _ A.in1 (Bm "max" ["key","default"] 0 ⟨[],[]⟩ >>= _) _ _ s;refine A4 (Gi (show Bm "max" ["key","default"] 0 ⟨[],[]⟩=Ck [none,none] from rfl) ?_);show Aq _ A.in1 (Mn [u,v] >>= _) _ _ s;refine A4 (Cb ?_);generalize fN:s.heap.push { cls:=Cf "tuple",data:=G0 #[u,v] }=h1
 have k1:∀b o,s.heap.get? b=some o->h1.get? b=some o:=fun b o e=>by rw[←fN];exact Aa _ e
 have t1:h1.IsTuple s.heap.objs.size #[u,v]:=by rw[←fN];exact⟨_,At _ rfl,rfl,_,rfl⟩
 have z1:h1.objs.size=s.heap.objs.size+1:=by rw[←fN,Cw]
 refine A4 (E6 (s:={ s with heap:=h1 }) t1 (A4 (Cb ?_)));generalize gk:(h1.push { cls:=Cf "tuple_iterator",data:=M3 #[.ref s.heap.objs.size,.int 0 0] })=h2
 have k2:∀b o,h1.get? b=some o->h2.get? b=some o:=fun b o e=>by rw[←gk];exact Aa _ e
 have i2:h2.IsTupleIter h1.objs.size s.heap.objs.size 0:=by rw[←gk];exact⟨_,At _ rfl,rfl,rfl⟩
 have z2:h2.objs.size=h1.objs.size+1:=by rw[←gk,Cw]
 rw[aC]
 have eI:s.heap.objs.size<h1.objs.size:=by rw[z1];exact Dr _
 have dW:h1.objs.size<h2.objs.size:=by rw[z2];exact Dr _
 have k3:∀b o,h2.get? b=some o->(h2.push { cls:=Cf "list",data:=G0 ([]:List A8).toArray }).get? b=some o:=fun b o e=>Aa _ e
 have all:∀{h'},Kp h1.objs.size h2.objs.size (h2.push { cls:=Cf "list",data:=G0 ([]:List A8).toArray }) h'->∀b o,s.heap.get? b=some o->h'.get? b=some o:=fun {h'} k b o e=>k b o (Ar (Cu (Am e) eI)) (Ar (Cu (Am e) (Cu eI dW))) (k3 b o (k2 b o (k1 b o e)))
 refine wpAny_pure ⟨plainId_quiet F.plain_max_loop _,w2F (u:=u) (v:=v) (T:=s.heap.objs.size) (bb:=bb) (s:={ s with heap:=h2.push { cls:=Cf "list",data:=G0 ([]:List A8).toArray } }) hh ?_ ?_ (D0 dW) (Ar eI) (Ar (Cu eI dW)) (At _ rfl) (fun h' Q E k q=>hc h' Q E (all k) q) fun h' k=>hQ h' (all k)⟩
 ·obtain⟨o,e,z⟩:=i2;exact⟨o,k3 _ _ e,z⟩
 ·obtain⟨o,e,z⟩:=t1;exact⟨o,k3 _ _ (k2 _ _ e),z⟩
theorem x4B{it T S:Ap}{u v x:A8}{c:Nat}(hh:A.handled=none)(bi:s.heap.IsTupleIter it T 2)(ht:s.heap.IsTuple T #[u,v])(ag:S≠it)(hS:s.heap.get? S=some { cls:=.type "list",dict:=none,data:=.seq #[x,x] c,slots:=#[] })(hR:∀h',Kp it S s.heap h'->R (.ok (.ret x)) { s with heap:=h' }):Dl (B3 prog w) A (.builtin "min.loop" ⟨[.ref it,.none,.ref S],[]⟩) R s:=by
 refine codeAny_builtin F.entry_min_loop ?_;rw[Bx F.plain_min_loop _];show Aq _ A.in1 (G9 (.ref S) >>= _) _ _ s;refine A4 (Dk hS rfl ?_);show Aq _ A.in1 (Ed (Ic (.ref it)) _ >>= _) _ _ s;refine A4 (Cp (Fs hh bi ht (by simp) fun h1 k1=>?_));have bW:=k1 S _ ag hS;show Aq _ A.in1 (Gq S (fun _=>#[]) >>= _) _ _ _;refine A4 (E3 bW rfl (A4 (E4 (wpAny_pure (hR _ fun b o n1 n2 e=>?_)))))
 exact(B8 _ _ (Cl n2)).trans (k1 b o n1 e)
theorem w2A{it T S:Ap}{u v:A8}{c:Nat}{bb:Bool}(hh:A.handled=none)(bi:s.heap.IsTupleIter it T 1)(ht:s.heap.IsTuple T #[u,v])(ag:S≠it)(eE:T≠it)(eO:T≠S)(hS:s.heap.get? S=some { cls:=.type "list",dict:=none,data:=.seq #[u,u] c,slots:=#[] })(hc:∀h' (Q:VP) (E:VP),Kp it S s.heap h'->Q (.bool bb) { s with heap:=h' }->Aq (B3 prog w) A.in1 (Dz .Lt v u) Q E { s with heap:=h' })(hR:∀h',Kp it S s.heap h'->R (.ok (.ret (if bb=true then v else u))) { s with heap:=h' }):Dl (B3 prog w) A (.builtin "min.loop" ⟨[.ref it,.none,.ref S],[]⟩) R s:=by
 have aC:(Ee "min"++Ee ".loop":String) = "min.loop":=by decide
 refine codeAny_builtin F.entry_min_loop ?_;rw[Bx F.plain_min_loop _];show Aq _ A.in1 (G9 (.ref S) >>= _) _ _ s;refine A4 (Dk hS rfl ?_);show Aq _ A.in1 (Ed (Ic (.ref it)) _ >>= _) _ _ s;refine A4 (Cp (Do bi ht (x:=v) (by simp) fun h1 i1 k1=>?_));have cS:Kp it S s.heap h1:=fun b o n1 _ e=>(k1.2 b n1).trans e
 have bW:=(k1.2 S ag).trans hS;have eN:h1.IsTuple T #[u,v]:=ht.extBut k1.extBut eE;show Aq _ A.in1 (Ed (Gb [v,v] (Dz .Lt v u >>= _)) _ >>= _) _ _ _;refine A4 (Cp (Cr (A4 (hc h1 _ _ cS ?_))));refine A4 (Cr (Cm (A4 (E4 (wpAny_pure ?_)))))
 cases bb with
 |true=>
  simp only[if_true];refine A4 (E3 bW rfl (A4 (E4 ?_)));rw[aC];refine wpAny_pure ⟨plainId_quiet F.plain_min_loop _,x4B (u:=u) (v:=v) (T:=T) hh ?_ ?_ ag (E5 _ bW rfl) fun h2 k2=>hR h2 (cS.trans (Kp.trans (fun b o n1 n2 e=>(B8 _ _ (Cl n2)).trans e) k2))⟩
  ·obtain⟨o,e,z⟩:=i1;exact⟨o,(B8 _ _ ag).trans e,z⟩
  ·obtain⟨o,e,z⟩:=eN;exact⟨o,(B8 _ _ (Cl eO)).trans e,z⟩
 |false=>simp only[E9,if_false];refine A4 (E4 ?_);rw[aC];exact wpAny_pure ⟨plainId_quiet F.plain_min_loop _,x4B (u:=u) (v:=v) hh i1 eN ag bW fun h2 k2=>hR h2 (cS.trans k2)⟩
theorem w2B{it T S:Ap}{u v:A8}{c:Nat}{bb:Bool}(hh:A.handled=none)(bi:s.heap.IsTupleIter it T 0)(ht:s.heap.IsTuple T #[u,v])(ag:S≠it)(eE:T≠it)(eO:T≠S)(hS:s.heap.get? S=some { cls:=.type "list",dict:=none,data:=.seq #[] c,slots:=#[] })(hc:∀h' (Q:VP) (E:VP),Kp it S s.heap h'->Q (.bool bb) { s with heap:=h' }->Aq (B3 prog w) A.in1 (Dz .Lt v u) Q E { s with heap:=h' })(hR:∀h',Kp it S s.heap h'->R (.ok (.ret (if bb=true then v else u))) { s with heap:=h' }):Dl (B3 prog w) A (.builtin "min.loop" ⟨[.ref it,.none,.ref S],[]⟩) R s:=by
 have aC:(Ee "min"++Ee ".loop":String) = "min.loop":=by decide
 refine codeAny_builtin F.entry_min_loop ?_;rw[Bx F.plain_min_loop _];show Aq _ A.in1 (G9 (.ref S) >>= _) _ _ s;refine A4 (Dk hS rfl ?_);show Aq _ A.in1 (Ed (Ic (.ref it)) _ >>= _) _ _ s;refine A4 (Cp (Do bi ht (x:=u) (by simp) fun h1 i1 k1=>?_));have cS:Kp it S s.heap h1:=fun b o n1 _ e=>(k1.2 b n1).trans e
 have bW:=(k1.2 S ag).trans hS;have eN:h1.IsTuple T #[u,v]:=ht.extBut k1.extBut eE;show Aq _ A.in1 (Gq S (fun _=>#[u,u]) >>= _) _ _ _;refine A4 (E3 bW rfl ?_);rw[aC];have ku:Kp it S h1 _:=fun b o n1 n2 e=>(B8 h1 (Ca fun _=>#[u,u]) (Cl n2)).trans e;refine wpAny_pure ⟨plainId_quiet F.plain_min_loop _,w2A (u:=u) (v:=v) (T:=T) (bb:=bb) hh ?_ ?_ ag eE eO (E5 _ bW rfl) (fun h' Q E k q=>hc h' Q E (cS.trans (ku.trans k)) q) fun h2 k2=>hR h2 (cS.trans (ku.trans k2))⟩
 ·obtain⟨o,e,z⟩:=i1;exact⟨o,(B8 _ _ ag).trans e,z⟩
 ·obtain⟨o,e,z⟩:=eN;exact⟨o,(B8 _ _ (Cl eO)).trans e,z⟩
theorem w29{u v:A8}{bb:Bool}{Q:VP}(hh:A.handled=none)(hc:∀h' (Q:VP) (E:VP),(∀b o,s.heap.get? b=some o->h'.get? b=some o)->Q (.bool bb) { s with heap:=h' }->Aq (B3 prog w) A.in1 (Dz .Lt v u) Q E { s with heap:=h' })(hQ:∀h',(∀b o,s.heap.get? b=some o->h'.get? b=some o)->Q (if bb=true then v else u) { s with heap:=h' }):Aq (B3 prog w) A (call (.builtin "min") [u,v]) Q E s:=by
 have aC:(Ee "min"++Ee ".loop":String) = "min.loop":=by decide
 refine call_function_tree F.kind_min F.plain_min F.entry_min (F.args_min2 _ _) ?_;show Aq _ A.in1 (Bm "min" ["key","default"] 0 ⟨[],[]⟩ >>= _) _ _ s;refine A4 (Gi (show Bm "min" ["key","default"] 0 ⟨[],[]⟩=Ck [none,none] from rfl) ?_);show Aq _ A.in1 (Mn [u,v] >>= _) _ _ s;refine A4 (Cb ?_);generalize fN:s.heap.push { cls:=Cf "tuple",data:=G0 #[u,v] }=h1
 have k1:∀b o,s.heap.get? b=some o->h1.get? b=some o:=fun b o e=>by rw[←fN];exact Aa _ e
 have t1:h1.IsTuple s.heap.objs.size #[u,v]:=by rw[←fN];exact⟨_,At _ rfl,rfl,_,rfl⟩
 have z1:h1.objs.size=s.heap.objs.size+1:=by rw[←fN,Cw]
 refine A4 (E6 (s:={ s with heap:=h1 }) t1 (A4 (Cb ?_)));generalize gk:(h1.push { cls:=Cf "tuple_iterator",data:=M3 #[.ref s.heap.objs.size,.int 0 0] })=h2
 have k2:∀b o,h1.get? b=some o->h2.get? b=some o:=fun b o e=>by rw[←gk];exact Aa _ e
 have i2:h2.IsTupleIter h1.objs.size s.heap.objs.size 0:=by rw[←gk];exact⟨_,At _ rfl,rfl,rfl⟩
 have z2:h2.objs.size=h1.objs.size+1:=by rw[←gk,Cw]
 rw[aC]
 have eI:s.heap.objs.size<h1.objs.size:=by rw[z1];exact Dr _
 have dW:h1.objs.size<h2.objs.size:=by rw[z2];exact Dr _
 have k3:∀b o,h2.get? b=some o->(h2.push { cls:=Cf "list",data:=G0 ([]:List A8).toArray }).get? b=some o:=fun b o e=>Aa _ e
 have all:∀{h'},Kp h1.objs.size h2.objs.size (h2.push { cls:=Cf "list",data:=G0 ([]:List A8).toArray }) h'->∀b o,s.heap.get? b=some o->h'.get? b=some o:=fun {h'} k b o e=>k b o (Ar (Cu (Am e) eI)) (Ar (Cu (Am e) (Cu eI dW))) (k3 b o (k2 b o (k1 b o e)))
 refine wpAny_pure ⟨plainId_quiet F.plain_min_loop _,w2B (u:=u) (v:=v) (T:=s.heap.objs.size) (bb:=bb) (s:={ s with heap:=h2.push { cls:=Cf "list",data:=G0 ([]:List A8).toArray } }) hh ?_ ?_ (D0 dW) (Ar eI) (Ar (Cu eI dW)) (At _ rfl) (fun h' Q E k q=>hc h' Q E (all k) q) fun h' k=>hQ h' (all k)⟩
 ·obtain⟨o,e,z⟩:=i2;exact⟨o,k3 _ _ e,z⟩
 ·obtain⟨o,e,z⟩:=t1;exact⟨o,k3 _ _ (k2 _ _ e),z⟩
end
section
open HT
theorem y8G(A:By)(s:Ah)(a:Int)(t:M6)(c:Int)(u:M6)(prog:Bo)(w:C8)(E:VP)(Q:VP)(h:Q (.bool (decide (c<a))) s):
  Aq (B3 prog w) A (Dz .Gt (.int a t) (.int c u)) Q E s:=
 (PyProof.Rows.gt_int h:Aq (B3 prog w) A (Cs .Gt (.int a t) (.int c u)) Q E s)
open PySem.SeqAt
open PySem.AutoSeq1 (wpAny_loadPart')
open PySem.MeetsSeq PySem.MeetsSeq2 PySem.MeetsSeq3
theorem y21(l b:Ap)(items ak:Array A8)(n n2:Nat)(dd cB:Option Ap)(sl cI:Array (Option A8))(ns ms:List Int)(hi:C4 items.toList ns)(hj:C4 ak.toList ms):
  Mf (Df.«tuple.__gt__» ⟨[.ref l,.ref b],[]⟩)
   (fun _ R s=>s.heap.get? l=some { cls:=.type "tuple",dict:=dd,data:=.seq items n,slots:=sl }/\s.heap.get? b=some { cls:=.type "tuple",dict:=cB,data:=.seq ak n2,slots:=cI } /\
    R (.ok (.ret (.bool (lexLt ms ns)))) s):=
 .of_wp fun prog w A R s h=>by
  obtain⟨hp,g,d,tk,os⟩:=s;obtain⟨hl,hb,h⟩:=h;have f2:=AutoSeq1.sub_tuple_tuple
  have z1:items.size=ns.length:=by rw[←hi.length];simp
  have z2:ak.size=ms.length:=by rw[←hj.length];simp
  wp_walk using Fy hl,Fy hb,Jw _ (fun rest b s'=>b.1=none/\s'=⟨hp,g,d,tk,os⟩/\∃(vs ws:List A8) (bF bI:List Int),rest=vs.zip ws /\
   C4 vs bF/\C4 ws bI/\bF.length+ak.size=bI.length+items.size/\R (.ok (.ret (.bool (lexLt bI bF)))) ⟨hp,g,d,tk,os⟩) _
  case turn=>
   rintro ⟨y,x⟩ rest b s' ⟨aU,rfl,vs,ws,bF,bI,hz,fL,eX,ab,hR⟩
   cases fL with
   |nil=>rw[List.zip_nil_left]at hz;cases hz
   |cons a t hvi'=>
    cases eX with
    |nil=>rw[Jd]at hz;cases hz
    |cons c u hwi'=>
     rw[E8]at hz;injection hz with hyx hrest;injection hyx with hy hx;subst hy hx;rw[lexLt_cons]at hR;simp only[Ay]at ab;obtain⟨e,he,dM⟩:=y9J A.in1 ⟨hp,g,d,tk,os⟩ a t c u;refine A4 (he prog w _ _ ?_)
     cases e with
     |true=>
      rw[if_pos (dM.mp rfl).symm]at hR
      wp_walk
      exact⟨rfl,rfl,_,_,_,_,hrest,hvi',hwi',by omega,hR⟩
     |false=>
      rw[if_neg (fun q=>absurd (dM.mpr q.symm) B0)]at hR;have hri:=y8G A.in1 ⟨hp,g,d,tk,os⟩ a t c u prog w
      wp_walk using hri
      exact⟨_,rfl,by simpa using hR⟩
  case fin=>
   rintro ⟨b1,b2⟩ s' ⟨aU,rfl,vs,ws,bF,bI,hz,fL,eX,ab,hR⟩;simp only at aU;subst aU
   have hv:lexLt bI bF=decide (ak.size<items.size):=by
    cases fL with
    |nil=>
     cases eX with
     |nil=>simp only[Cv]at ab;rw[lexLt_nil_nil];exact(decide_eq_false (by omega)).symm
     |cons c u hw=>simp only[Cv,Ay]at ab;rw[z5I];exact(decide_eq_false (by omega)).symm
    |cons a t hv=>
     cases eX with
     |nil=>simp only[Cv,Ay]at ab;rw[z5H];exact(decide_eq_true (by omega)).symm
     |cons c u hw=>rw[E8]at hz;cases hz
   rw[hv]at hR
   wp_walk
   exact⟨_,rfl,by simpa [Df.Tuple.tupleCompareSizes] using hR⟩
  case h=>exact⟨rfl,rfl,items.toList,ak.toList,ns,ms,rfl,hi,hj,by omega,h⟩
end
section
variable{prog:Bo}{w:C8}{A:By}{E:VP}{s:Ah}
theorem y1M{l b:Ap}{items ak:Array A8}{ns ms:List Int}{Q:VP}(hl:Kx s.heap l items)(hb:Kx s.heap b ak)(hi:C4 items.toList ns)(hj:C4 ak.toList ms)(hu:A.units<Cy)(h:Q (.bool (HT.lexLt ms ns)) s):Aq (B3 prog w) A (Dz .Gt (.ref l) (.ref b)) Q E s:=by
 rcases id hl with⟨⟨cls,dd,data,sl⟩,ho,hc,n,hd⟩;rcases id hb with⟨⟨eJ,cB,data2,cI⟩,cb,bf,n2,bv⟩;simp only at hc hd bf bv;subst hc hd bf bv
 exact richCompare_meets_room (op:=.Gt) ⟨_,ho,rfl⟩ ⟨_,cb,rfl⟩ PySem.F.slot_tuple_gt PySem.F.entry_tuple_gt (PySem.F.args_tuple_gt_2 _ _) (y21 l b items ak n n2 dd cB sl cI ns ms hi hj)
  ⟨ho,cb,show Lo (HT.lexLt ms ns)≠Ik/\Q (.bool (HT.lexLt ms ns)) s from ⟨(fun x=>nomatch x),h⟩⟩ hu
end
section
variable{X:Cx}{a b:Expr}{fa fb:ED}{p pos:F2}
def x9J(K:A5):List V->Hp->VK->Prop:=fun xs H Q=>∃a b ns ms,xs=[.ref a,.ref b]/\SqT K H a (ns.map V.int)/\SqT K H b (ms.map V.int)/\Q (if HT.lexLt ns ms=true then .ref b else .ref a) H
def x9I(K:A5):List V->Hp->VK->Prop:=fun xs H Q=>∃a b ns ms,xs=[.ref a,.ref b]/\SqT K H a (ns.map V.int)/\SqT K H b (ms.map V.int)/\Q (if HT.lexLt ms ns=true then .ref b else .ref a) H
theorem x1N(hc:X.calm=true)(hu:X.A.units+64<Cy):z0X X (.builtin "max") (x9J X.K):=by
 intro aa s σ H xs us Q I r h;obtain⟨a,b,ns,ms,rfl,ha,hb,q⟩:=h;obtain⟨u,v,rfl,ru,rv⟩:=x2O r;cases ru;cases rv;refine w2D (bb:=HT.lexLt ns ms) (I.ok.hd hc) (fun h' Q' E' k q'=>?_) fun h' k=>?_
 ·have I':Inv X aa σ H { s with heap:=h' }:=I.kept (t':=s.toks) k;obtain⟨its,r1,p1,_⟩:=I'.tuple ha;obtain⟨ao,r2,p2,_⟩:=I'.tuple hb;exact y1M (s:={ s with heap:=h' }) p2 p1 (show C4 ao.toArray.toList ms from Y1 r2) (show C4 its.toArray.toList ns from Y1 r1) (by show X.A.units+1<Cy;omega) q'
 ·refine⟨_,H,I.kept (t':=s.toks) k,?_,q⟩
  split<;>rfl
theorem x1K(hc:X.calm=true)(hu:X.A.units+64<Cy):z0X X (.builtin "min") (x9I X.K):=by
 intro aa s σ H xs us Q I r h;obtain⟨a,b,ns,ms,rfl,ha,hb,q⟩:=h;obtain⟨u,v,rfl,ru,rv⟩:=x2O r;cases ru;cases rv;refine w29 (bb:=HT.lexLt ms ns) (I.ok.hd hc) (fun h' Q' E' k q'=>?_) fun h' k=>?_
 ·have I':Inv X aa σ H { s with heap:=h' }:=I.kept (t':=s.toks) k;obtain⟨its,r1,p1,_⟩:=I'.tuple ha;obtain⟨ao,r2,p2,_⟩:=I'.tuple hb
  have:=HT.lt_tupInts (prog:=X.prog) (w:=X.w) (A:=X.A.in1) (E:=E') (Q:=Q') (s:={ s with heap:=h' }) p2 p1 (show C4 ao.toArray.toList ms from Y1 r2) (show C4 its.toArray.toList ns from Y1 r1) (by show X.A.units+1<Cy;omega) q'
  exact this
 ·refine⟨_,H,I.kept (t':=s.toks) k,?_,q⟩
  split<;>rfl
def x51:D->Option (List Int)
 | .tup ds=>W8 ds
 |_=>none
def w2W:LD:=fun ds=>match ds with|[x,y]=>(match x51 x,x51 y with|some ns,some ms=>some (if HT.lexLt ns ms=true then y else x)|_,_=>none)|_=>none
def w2U:LD:=fun ds=>match ds with|[x,y]=>(match x51 x,x51 y with|some ns,some ms=>some (if HT.lexLt ms ns=true then y else x)|_,_=>none)|_=>none
theorem z5A{K:A5}{H:Hp}{d:D}{ns:List Int}{v:V}(e:x51 d=some ns)(h:Rep K H d v):∃a,v = .ref a/\SqT K H a (ns.map V.int):=by
 cases d with
 |tup ds=>have e':W8 ds=some ns:=e;obtain⟨a,xs,rfl,h1,h2⟩:=j3.mp h;rw[W3 e',Q8]at h2;subst h2;exact⟨a,rfl,h1⟩
 |_=>cases e
theorem w1B{K:A5}:RdC K (x9J K) w2W:=by
 intro ds d e Z H vs Q zs rr q;unfold w2W at e;split at e
 ·rename_i x y;split at e
  ·rename_i ns ms e1 e2;cases e;obtain⟨u,v,rfl,h1,h2⟩:=z8S rr;obtain⟨a,rfl,g1⟩:=z5A e1 h1;obtain⟨b,rfl,g2⟩:=z5A e2 h2;refine⟨a,b,ns,ms,rfl,u9 x4 g1,u9 x4 g2,q _ H (j6.refl H) ?_⟩;split
   ·exact h2
   ·exact h1
  ·cases e
 ·cases e
theorem w1A{K:A5}:RdC K (x9I K) w2U:=by
 intro ds d e Z H vs Q zs rr q;unfold w2U at e;split at e
 ·rename_i x y;split at e
  ·rename_i ns ms e1 e2;cases e;obtain⟨u,v,rfl,h1,h2⟩:=z8S rr;obtain⟨a,rfl,g1⟩:=z5A e1 h1;obtain⟨b,rfl,g2⟩:=z5A e2 h2;refine⟨a,b,ns,ms,rfl,u9 x4 g1,u9 x4 g2,q _ H (j6.refl H) ?_⟩;split
   ·exact h2
   ·exact h1
  ·cases e
 ·cases e
theorem RdC.or{K:A5}{r r':List V->Hp->VK->Prop}{F F':LD}(h:RdC K r F)(h':RdC K r' F'):RdC K (fun xs H Q=>r xs H Q∨r' xs H Q) (fun ds=>match F ds with|some d=>some d|none=>F' ds):=by
 intro ds d e Z H vs Q zs rr q;dsimp only at e;split at e
 ·rename_i d' hd;cases e;exact .inl (h ds d hd Z H vs Q zs rr q)
 ·exact .inr (h' ds d e Z H vs Q zs rr q)
def w2X:LD:=fun ds=>match w0D ds with|some d=>some d|none=>w2W ds
def w2V:LD:=fun ds=>match x26 ds with|some d=>some d|none=>w2U ds
theorem x70(hc:X.calm=true)(hu:X.A.units+64<Cy)(hm:X.mg "max" = none)(ha:ZE X a fa)(hb:ZE X b fb)(hg:Gl X "max":=by rfl)(hv:B5 "max" = some (.builtin "max"):=by decide +kernel)(he:Ac [a,b] X.env=(false,C0 a X.env)::Ac [b] X.env:=by exact v5 rfl)(bV:Ac [b] X.env=(false,C0 b X.env)::Ac [] X.env:=by exact v5 rfl)(ah:(Bs pos (Ac [b] X.env)).any (·.1)=false:=by exact j8 rfl):ZE X (.Call (.Name "max" p) [a,b] [] pos) (x5 w2X (z7 fa (z7 fb u3))):=
 ⟨have ha:=ha.h;
 have hb:=hb.h;
 z8R ((y59 hc).or (x1N hc hu)) (x9F.or w1B) hm hv (z2T ha (z2T hb y19 bV) he) hg (by decide) (by decide) he ah⟩
theorem x6Z(hc:X.calm=true)(hu:X.A.units+64<Cy)(hm:X.mg "min" = none)(ha:ZE X a fa)(hb:ZE X b fb)(hg:Gl X "min":=by rfl)(hv:B5 "min" = some (.builtin "min"):=by decide +kernel)(he:Ac [a,b] X.env=(false,C0 a X.env)::Ac [b] X.env:=by exact v5 rfl)(bV:Ac [b] X.env=(false,C0 b X.env)::Ac [] X.env:=by exact v5 rfl)(ah:(Bs pos (Ac [b] X.env)).any (·.1)=false:=by exact j8 rfl):ZE X (.Call (.Name "min" p) [a,b] [] pos) (x5 w2V (z7 fa (z7 fb u3))):=
 ⟨have ha:=ha.h;
 have hb:=hb.h;
 z8R ((y57 hc).or (x1K hc hu)) (x9E.or w1A) hm hv (z2T ha (z2T hb y19 bV) he) hg (by decide) (by decide) he ah⟩
noncomputable def w4I(K:A5)(nm:Bool):List V->Hp->VK->Prop:=fun xs H Q=>∃a n ns,xs=[.ref a]/\SqL K H a ((n::ns).map V.int)/\∀m,m∈(n::ns)->(∀x∈(n::ns),if nm=true then x≤m else m≤x)->Q (.int m) H
theorem x62(hc:X.calm=true):z0X X (.builtin "max") (w4I X.K true):=by
 intro aa s σ H xs us Q I r h;obtain⟨a,n,ns,rfl,ha,q⟩:=h;obtain⟨u,rfl,ru⟩:=z3K r;cases ru;obtain⟨its,r1,p1,_⟩:=I.list ha;have i1:C4 its (n::ns):=Y1 r1;obtain⟨zs,e⟩:=i1.allInts.items
 have ba:(n::ns)=zs.toList.map (·.1):=by rw[←i1.numsOf,←nums_intItems,←e]
 have hsz:0<zs.size:=by
  have:=congrArg Fq ba
  rw[A0,B4]at this;simp at this;omega
 have hl:=p1.isList;rw[e]at hl;refine max_intList (I.ok.hd hc) hl hsz fun v h' tk hv hk=>?_;obtain⟨t,rfl⟩:=intItems_at hv;obtain⟨h1,h2⟩:=argBest_gt (numAt zs) (zs.size-1);refine⟨.int _,H,I.kept hk,⟨t,rfl⟩,q _ ?_ fun x hx=>?_⟩
 ·rw[ba,Mo];exact getD_mem (by rw[A0,B4];omega)
 ·rw[ba]at hx;obtain⟨j,hj,rfl⟩:=mem_getD hx;rw[A0,B4]at hj;rw[if_pos rfl,←Mo];exact h2 j (by omega)
theorem x61(hc:X.calm=true):z0X X (.builtin "min") (w4I X.K false):=by
 intro aa s σ H xs us Q I r h;obtain⟨a,n,ns,rfl,ha,q⟩:=h;obtain⟨u,rfl,ru⟩:=z3K r;cases ru;obtain⟨its,r1,p1,_⟩:=I.list ha;have i1:C4 its (n::ns):=Y1 r1;obtain⟨zs,e⟩:=i1.allInts.items
 have ba:(n::ns)=zs.toList.map (·.1):=by rw[←i1.numsOf,←nums_intItems,←e]
 have hsz:0<zs.size:=by
  have:=congrArg Fq ba
  rw[A0,B4]at this;simp at this;omega
 have hl:=p1.isList;rw[e]at hl;refine min_intList (I.ok.hd hc) hl hsz fun v h' tk hv hk=>?_;obtain⟨t,rfl⟩:=intItems_at hv;obtain⟨h1,h2⟩:=argBest_lt (numAt zs) (zs.size-1);refine⟨.int _,H,I.kept hk,⟨t,rfl⟩,q _ ?_ fun x hx=>?_⟩
 ·rw[ba,Mo];exact getD_mem (by rw[A0,B4];omega)
 ·rw[ba]at hx;obtain⟨j,hj,rfl⟩:=mem_getD hx;rw[A0,B4]at hj;rw[if_neg B0,←Mo];exact h2 j (by omega)
end
theorem y20(l:Ap)(items:Array A8)(n:Nat)(dd:Option Ap)(sl:Array (Option A8))(x:A8)(e:A8->Bool)(j:Nat)(hj:j<items.size)(bi:e items[j]=true)(dA:∀m (hm:m<items.size),m<j->e items[m]=false):
  Mf (Df.«tuple.index» ⟨[.ref l,x],[]⟩)
   (fun A R s=>s.heap.get? l=some { cls:=.type "tuple",dict:=dd,data:=.seq items n,slots:=sl }/\(∀y,y∈items->Fj A.in1 s y x (e y))/\R (.ok (.ret (.int j s.toks))) { s with toks:=s.toks+1 }):=
 .of_wp fun prog w A R s h=>by
  obtain⟨hp,g,d,tk,os⟩:=s;obtain⟨hl,he,h⟩:=h
  wp_walk using Fb hl
  change Aq _ _ (forIn [:Ip items.size items.size] (none,()) (fun (i:Nat) __s=>match items[i]? with
    |some y=>do
     let __do_lift ←eqBool y x
     if __do_lift=true then do
       let __do_lift ←retInt (i:Int)
       Ck (ForInStep.done (some __do_lift,()))
      else Ck (Ej (none,()))
    |x=>Ck (Ej (none,())))) _ _ _
  rw[Std.Legacy.Range.forIn_eq_forIn_range'];refine Jw _ (fun rest b s'=>s'=⟨hp,g,d,tk,os⟩/\∃i,i≤j/\rest=List.range' i (items.size-i)) _ ?turn ?fin _ _ ⟨rfl,0,Bf _,by simp[Std.Legacy.Range.size]⟩
  case turn=>
   rintro i0 rest b s' ⟨rfl,i,be,hr⟩
   have al:i<items.size:=by omega
   have e0:items.size-i=(items.size-(i+1))+1:=by omega
   rw[e0,List.range'_succ]at hr;cases hr;rw[Array.getElem?_eq_getElem al];refine A4 (he _ (Array.getElem_mem al) prog w _ _ ?_);by_cases bG:i0=j
   ·subst bG;rw[bi]
    wp_walk
    exact⟨_,rfl,h⟩
   ·rw[dA i0 al (by omega)]
    wp_walk
    exact⟨rfl,i0+1,by omega,rfl⟩
  case fin=>
   rintro ⟨b1,b2⟩ s' ⟨rfl,i,be,hr⟩
   have:=congrArg Fq hr
   simp at this;omega
def w3J(d:D)(ds:List D):Option Nat:=ds.findIdx? fun y=>beq y d
def w70(K:A5):V->List V->Hp->VK->Prop:=fun x vs H Q=>∃a xs ds d y j,x = .ref a/\vs=[y]/\SqT K H a xs/\j7 K H ds xs/\Rep K H d y/\z00 ds≤z22/\depth d≤z22/\w3J d ds=some j/\Q (.int (j:Nat)) H
section
variable{X:Cx}{a b:Expr}{fa fb:ED}{p pos cj:F2}
theorem x47(hu:X.A.units+64<Cy):MtR X "tuple.index" (w70 X.K):=by
 intro aa s σ H x vs v us Q I rx rv h;obtain⟨a,xs,ds,d,y,j,rfl,rfl,hq,hr,hd,h1,h2,hj,q⟩:=h;cases rx;obtain⟨u,rfl,ru⟩:=z3K rv;obtain⟨its,r1,p1,_⟩:=I.tuple hq;obtain⟨⟨cls,dd,data,sl⟩,ho,hc,n,hdt⟩:=id p1;simp only at hc hdt;subst hc hdt;have l1:=hr.length;have l2:=r1.length;unfold w3J at hj;rw[List.findIdx?_eq_some_iff_getElem]at hj;obtain⟨al,hjt,df⟩:=hj
 have iG:j<its.toArray.size:=by rw[Ag];omega
 have dJ:∀m (hm:m<its.toArray.size),inE ds its d its.toArray[m]=beq (ds[m]'(by rw[Ag]at hm;omega)) d:=fun m hm=>by
  have hm':m<its.length:=by rw[Ag]at hm;exact hm
  have e1:its[m]?=some its.toArray[m]:=by rw[A3 hm'];simp
  exact y9C I hr r1 e1 (A3 (by omega))
 refine Hf F.slot_tuple_index ⟨_,ho,rfl⟩ F.entry_tuple_index (F.args_tuple_index_2 _ _) (y20 a its.toArray n dd sl u (inE ds its d) j iG ?_ ?_) ⟨ho,?_,?_⟩
 ·rw[dJ j iG];exact hjt
 ·intro m hm hmj;rw[dJ m hm];exact Jm.mpr (df m hmj)
 ·exact z9M I hu hr r1 h1 h2 hd ru
 ·exact⟨.int _,H,I.tok _,⟨_,rfl⟩,q⟩
def y0A(fa fb:ED):ED:=fun ρ=>match fa ρ with
 |some (.tup ds)=>(match fb ρ with|some d=>if z00 ds≤z22/\depth d≤z22 then (match w3J d ds with|some j=>some (.int (j:Nat))|none=>none) else none|none=>none)
 |_=>none
theorem y3J(hu:X.A.units+64<Cy)(ha:ZE X a fa)(hb:ZE X b fb)(ar:Eb a "index" X.env (C0 a X.env)=C0 a X.env:=by rfl) (aX:((Bs pos (Ac [b] X.env)).all (fun x=>!x.1)&&(Je pos (Gg [] X.env)).all (fun x=>x.1.isSome)
   && decide (([b]:List Expr).length+([]:List Fu).length+(if ([]:List Fu).isEmpty then 0 else 1)<30))=true:=by rfl) (au:(cj.endLine==pos.line)=true:=by rfl) (hs:Ac [b] X.env=(false,C0 b X.env)::Ac [] X.env:=by exact v5 rfl) (aq:(Bs pos (Ac [] X.env)).any (·.1)=false:=by exact j8 rfl):ZE X (.Call (.Attribute a "index" cj) [b] [] pos) (y0A fa fb):=
 ⟨have ha:=ha.h;
 have hb:=hb.h;
 u7 (y6I PySem.F.plainAttrs_tuple PySem.F.slot_tuple_index PySem.F.type_tuple_index (x47 hu) ha (g9 hb Y0 hs) ar aX au hs aq) fun σ H Q h_=>by
  refine ex6 h_ fun ρ d B H0 V0 Z e r q=>?_;unfold y0A at e;split at e
  ·rename_i ds ea;split at e
   ·rename_i d' eb;split at e
    ·rename_i hz;split at e
     ·rename_i j hj;cases e;refine⟨ρ,_,B,H0,V0,Z,ea,r,fun x H1 s1 r1=>?_⟩;obtain⟨n,xs,rfl,h1,h2⟩:=j3.mp r1;refine⟨.inr (.inl ⟨rfl,xs,u9 x4 h1⟩),ρ,d',B,H0,V0,Z,eb,r.mono s1,fun y H2 s2 r2=>?_⟩;exact⟨n,xs,ds,d',y,j,rfl,rfl,u9 (x4.trans s2) h1,h2.mono (x4.trans s2),r2.mono x4,hz.1,hz.2,hj,q _ H2 (s1.trans s2) (w6.mpr rfl)⟩
     ·cases e
    ·cases e
   ·cases e
  ·cases e⟩
noncomputable def z84:Int->List Int->Int
 |n,[]=>n
 |n,m::r=>z84 (Ip n m) r
noncomputable def y4D:Int->List Int->Int
 |n,[]=>n
 |n,m::r=>y4D (Lu n m) r
theorem z9O:∀(ns:List Int) (n:Int),z84 n ns∈n::ns/\∀x∈n::ns,z84 n ns≤x
 | [],n=>by simp[z84]
 |m::r,n=>by
  obtain⟨h1,h2⟩:=z9O r (Ip n m);show z84 (Ip n m) r∈_/\∀x∈_,z84 (Ip n m) r≤x;have hm:=h2 (Ip n m) A6;constructor
  ·rcases Af.mp h1 with z|z
   ·rw[z];rcases Kn n m with q|q
    ·rw[G5 q];exact A6
    ·rw[Fl q];exact A7 _ A6
   ·exact A7 _ (A7 _ z)
  ·intro x hx;rcases Af.mp hx with z|z
   ·omega
   ·rcases Af.mp z with z|z
    ·omega
    ·exact h2 x (A7 _ z)
theorem y8T:∀(ns:List Int) (n:Int),y4D n ns∈n::ns/\∀x∈n::ns,x≤y4D n ns
 | [],n=>by simp[y4D]
 |m::r,n=>by
  obtain⟨h1,h2⟩:=y8T r (Lu n m);show y4D (Lu n m) r∈_/\∀x∈_,x≤y4D (Lu n m) r;have hm:=h2 (Lu n m) A6;constructor
  ·rcases Af.mp h1 with z|z
   ·rw[z];rcases Kn n m with q|q
    ·rw[Fm q];exact A7 _ A6
    ·rw[G6 q];exact A6
   ·exact A7 _ (A7 _ z)
  ·intro x hx;rcases Af.mp hx with z|z
   ·omega
   ·rcases Af.mp z with z|z
    ·omega
    ·exact h2 x (A7 _ z)
def z8J(f:EL):ED:=fun ρ=>match f ρ with|some ds=>(match W8 ds with|some (n::ns)=>some (.int (z84 n ns))|_=>none)|none=>none
def y75(f:EL):ED:=fun ρ=>match f ρ with|some ds=>(match W8 ds with|some (n::ns)=>some (.int (y4D n ns))|_=>none)|none=>none
theorem z8O{f:EL}(hc:X.calm=true)(hm:X.mg "min" = none)(h:ZQL X a f)(hg:Gl X "min":=by rfl)(hv:B5 "min" = some (.builtin "min"):=by decide +kernel)(he:Ac [a] X.env=(false,C0 a X.env)::Ac [] X.env:=by exact v5 rfl)(ah:(Bs pos (Ac [] X.env)).any (·.1)=false:=by exact j8 rfl):ZE X (.Call (.Name "min" p) [a] [] pos) (z8J f):=
 ⟨have h:=h.h;
 u7 (z1V (x61 hc) hg hm hv (g9 h Y0 he) (by decide) (by decide) he ah) fun σ H Q h_=>by
  refine ex6 h_ fun ρ d B H0 V0 Z e r q=>?_;unfold z8J at e;split at e
  ·rename_i ds aD;split at e
   ·rename_i n ns hn;cases e;refine⟨ρ,ds,B,H0,V0,Z,aD,r,fun l xs H' s hq rr=>⟨l,n,ns,rfl,?_,fun m hm hb=>?_⟩⟩
    ·rw[W3 hn,Q8]at rr;rw[←rr];exact hq
    ·obtain⟨h1,h2⟩:=z9O ns n;have e1:=hb _ h1;have e2:=h2 _ hm;rw[if_neg B0]at e1
     have:m=z84 n ns:=by omega
     rw[this];exact q _ H' s (w6.mpr rfl)
   ·cases e
  ·cases e⟩
theorem y80{f:EL}(hc:X.calm=true)(hm:X.mg "max" = none)(h:ZQL X a f)(hg:Gl X "max":=by rfl)(hv:B5 "max" = some (.builtin "max"):=by decide +kernel)(he:Ac [a] X.env=(false,C0 a X.env)::Ac [] X.env:=by exact v5 rfl)(ah:(Bs pos (Ac [] X.env)).any (·.1)=false:=by exact j8 rfl):ZE X (.Call (.Name "max" p) [a] [] pos) (y75 f):=
 ⟨have h:=h.h;
 u7 (z1V (x62 hc) hg hm hv (g9 h Y0 he) (by decide) (by decide) he ah) fun σ H Q h_=>by
  refine ex6 h_ fun ρ d B H0 V0 Z e r q=>?_;unfold y75 at e;split at e
  ·rename_i ds aD;split at e
   ·rename_i n ns hn;cases e;refine⟨ρ,ds,B,H0,V0,Z,aD,r,fun l xs H' s hq rr=>⟨l,n,ns,rfl,?_,fun m hm hb=>?_⟩⟩
    ·rw[W3 hn,Q8]at rr;rw[←rr];exact hq
    ·obtain⟨h1,h2⟩:=y8T ns n;have e1:=hb _ h1;have e2:=h2 _ hm;rw[if_pos rfl]at e1
     have:m=y4D n ns:=by omega
     rw[this];exact q _ H' s (w6.mpr rfl)
   ·cases e
  ·cases e⟩
noncomputable def y0S(f:EL):EB:=fun ρ=>match f ρ with|some ds=>some (!ds.isEmpty)|none=>none
theorem y7W{f:EL}(h:ZQL X a f)(he:∀aL,isTrue a X.env aL=(do let v ←aL;Jk a.pos;Gb [v] (M8 v)):=by intro _;rfl):ZT X a (y0S f):=
 ⟨have h:=h.h;
 z1P (x7L h he) fun σ H Q h_=>by
  refine ex6 h_ fun ρ d B H0 V0 Z e r q=>?_;unfold y0S at e;split at e
  ·rename_i ds aD;cases e;refine⟨ρ,ds,B,H0,V0,Z,aD,r,fun l xs H' s hq rr=>?_⟩;refine⟨!xs.isEmpty,.inl ⟨xs,hq,rfl⟩,?_⟩;have hl:=rr.length
   have:ds.isEmpty=xs.isEmpty:=by cases ds<;>cases xs<;>first|rfl|cases hl
   rw[←this];exact q H' s
  ·cases e⟩
end
end L3
namespace L3
open PySem PySem.Spec PyProof.Rows L2 PySem.SeqAt PySem.W
end L3
namespace L3
open PySem PySem.Spec PyProof.Rows L2 PySem.SeqAt
def w7Z(K:A5)(w:C8)(a:Ap)(kvs:List (Bb×Bb)):Prop:=∃es n,K.lookup a=some ⟨.type "dict",none,.dict es n,#[]⟩/\PySem.W.KeysLit w.params es.toList/\∀kv∈kvs,∃t,Hv K a kv.1=some (some (.str kv.2 t))
noncomputable def w33(kvs:List (Bb×Bb))(f:ED):ED:=fun ρ=>match f ρ with
 |some (.str x)=>(match kvs.lookup x with|some y=>some (.str y)|none=>none)
 |_=>none
theorem y1I{x y:Bb}:∀{kvs:List (Bb×Bb)},kvs.lookup x=some y->(x,y)∈kvs
 | [],h=>by cases h
 | (a,b)::r,h=>by
  rw[Bi]at h;split at h
  ·rename_i e;cases h;rw[eq_of_beq e];exact A6
  ·exact A7 _ (y1I h)
section
variable{X:Cx}{i:Expr}{p pos:F2}{f:ED}
theorem x71{x:Bb}{a:Ap}{kvs:List (Bb×Bb)}(hm:X.mg x=some (.ref a))(ht:w7Z X.K X.w a kvs)(hi:ZE X i f)(hg:Gl X x:=by rfl)(hd:(x==("__debug__":Bb))=false:=by decide)(hs:w68 i:=by exact fun _ _=>rfl):ZE X (.Subscript (.Name x p) i pos) (w33 kvs f):=
 ⟨have hi:=hi.h;
 fun aa s σ H Q I h_=>by
 refine ex6 h_ fun ρ d B H0 V0 Z e r q=>?_;unfold w33 at e;split at e
 ·rename_i k hk;split at e
  ·rename_i y hy;cases e;obtain⟨es,n,hl,ce,hv⟩:=ht;obtain⟨t,ht⟩:=hv _ (y1I hy);have h0:tC (.ref a) σ H (fun x H1=>x=V.ref a/\H1=H):=⟨rfl,rfl⟩;refine x2X PySem.F.slot_dict_getitem.lookup hs (z14 (w1S (pos:=p) hg hm (v:=.ref a) rfl hd aa s σ H _ I h0) fun u s1 x' H1 I1 rx ⟨ex,eH⟩=>?_);subst ex eH
   obtain rfl:u=Ef a:=rx
   refine z14 (hi aa s1 σ H1 (fun v H'=>j6 H1 H'/\v=V.str k) I1 ⟨ρ,_,B,H0,V0,Z,hk,r,fun v H' sm rv=>⟨sm,W9.mp rv⟩⟩) fun iv s2 y' H2 I2 ry ⟨sm,ey⟩=>?_;subst ey;obtain⟨tk,rfl⟩:=ry;have hm:=PySem.W.mapOf_K (prog:=X.prog) (w:=X.w) I2.kIn hl ce;refine⟨hm.typeIs,wpAny_getItem_of (strKind_is X.prog X.w k tk) hm (PySem.W.find_K hl ht) ⟨.str y,H2,I2.tok _,⟨t,rfl⟩,q _ _ sm (W9.mpr rfl)⟩⟩
  ·cases e
 ·cases e⟩
end
end L3
namespace L3
open PySem PySem.Spec PyProof.Rows L2
section
variable{X:Cx}
theorem x3N{i:Nat}{y:Bb}{py aY:F2}{aR ad ae:Expr}{aS:List Expr}{scope:Scope}{pos:F2}{N:List Bb}{cap:List (Option Nat)}{wi:TI}{g:TG}{tt:TT}{te:TE}(hc:X.calm=true)(hi:PI X ad ae wi)(hg:∀cl C fp s H,PG (K9 X N scope cl C fp s H) ad g)(ht:∀cl C fp s H,w0O (K9 X N scope cl C fp s H) aS tt)(he:∀cl C fp s H,PE (K9 X N scope cl C fp s H) aR te)(hk:scope.kind = .function)(aA:∀y∈scope.names,y.2 = .cell->scope.names.lookup y.1=some .cell)(bz:∀x∈scope.names,x.2 = .local->scope.names.lookup x.1=some .local)(bJ:∀x∈scope.names,x.2 = .free->scope.names.lookup x.1=some .free)(cA:∀x∈scope.names,x.2 = .free->X.env.scope.names.lookup x.1=some .cell∨X.env.scope.names.lookup x.1=some .free)(bx:∀(i j:Nat),cap[i]?=some (some j)->∃x,N[i]?=some x/\X.N[j]?=some x/\scope.names.lookup x=some .free)(ab:cap.length=N.length)(hN:X.N.Nodup)(dY:X.N[i]?=some y)(hy:Loc X.env.scope y)(hf:X.fn y=true∨X.env.scope.names.lookup y=some .local)(bY:Dy (.ListComp aR [⟨ad,ae,aS,0⟩] scope pos) (some (.Name y py)) aY.line X.env=Ck true)(hs:∀x,Cn ae X.env x=Ck x:=by intro _;rfl):
  PS X (.Assign [.Name y py] (.ListComp aR [⟨ad,ae,aS,0⟩] scope pos) aY) (w6C (x2W cap wi g tt te) (y2P i)):=by
 intro aa s σ H D I h;obtain⟨cl,dE,ay,dZ⟩:=y9N (env:=X.env) (scope:=scope) fun x hx hf=>I.ok.has x.1 (cA x hx hf);rw[exec_Assign_Name_used _ _ _ _ bY];refine A4 (G7 (A4 ?_));show Aq _ X.A (do let _ ←comprehension (.ListComp aR [⟨ad,ae,aS,0⟩] scope pos) scope X.env _ (newList []) false (C0 ae X.env) (some (Kg (.Name y py) X.env))) _ _ s;refine A4 (Ce (wpAny_comprehension_free (use:=some (Kg (.Name y py) X.env)) (Q:=fun _ s'=>SP X aa D .next s') rfl hs dE hk bz ?_) (fun _ s' hq=>wpAny_pure (wpAny_pure hq)) fun _ _ e=>e)
 show Aq _ _ (C0 ae X.env) _ _ s;refine thn (hi aa s σ H _ I h) fun v s1 h1=>thn h1 fun itv s2 h2=>?_;obtain⟨it,fp,tn,J,H2,rfl,I2,T,cX,f2,hW⟩:=h2;obtain⟨W,⟨m0,w0⟩,turn⟩:=hW s2.heap.objs.size I2.fresh
 refine Cb (z6C (X:=X) (E:=X.xe) ay dZ (fun x c e=>by
  obtain⟨v,o,ho,_⟩:=I2.cell x c e;show c<(C5.push _ _).objs.size;rw[Cw]
  exact C6 (Am ho)) (fun cs h4 m4 ba bw dv=>?_))
 dsimp only at ba bw ⊢;have I3:Inv X aa σ (upd H2 s2.heap.objs.size (.lst [])) { s2 with heap:=s2.heap.push { cls:=.type "list",dict:=none,data:=.seq ([]:List A8).toArray } }:=I2.lnew (its:=[]) (t':=s2.toks) .nil (Bf _);generalize ja:({ s2 with heap:=s2.heap.push { cls:=.type "list",dict:=none,data:=.seq ([]:List A8).toArray } }:Ah)=s3 at I3
 have cQ:s2.heap.push { cls:=.type "list",dict:=none,data:=.seq ([]:List A8).toArray }=s3.heap:=by rw[←ja]
 have hsz3:s3.heap.objs.size=s2.heap.objs.size+1:=by rw[←cQ,Cw]
 rw[cQ]at ba bw;have cn:∀b o,s3.heap.get? b=some o->h4.get? b=some o:=bw;have dq:CellsC X scope s3 h4 cs:=⟨fun x c e=>by rw[←cQ];exact dv.old x c e,dv.has,fun x y c e1 e2 hc=>dv.inj x y c e1 e2 (by rw[←cQ]at hc;exact hc)⟩
 have iM:∀b∈fp,(upd H2 s2.heap.objs.size (.lst [])) b=none/\x29 X aa (upd H2 s2.heap.objs.size (.lst [])) b:=fun b hb=>by
  obtain⟨o,e,_⟩:=T.obj 0 _ cX b hb;have ne:b≠s2.heap.objs.size:=Ar (Am e)
  have z:(upd H2 s2.heap.objs.size (.lst [])) b=none:=by rw[u8 ne];exact(f2 b hb).1
  exact⟨z,z,(f2 b hb).2⟩
 have cF:∀b∈fp,∃o,s3.heap.get? b=some o:=fun b hb=>by obtain⟨o,e,_⟩:=T.obj 0 _ cX b hb;exact⟨o,by rw[←cQ];exact Aa _ e⟩
 have I4:∀tk,Inv (K9 X N scope cs s3.heap.objs.size fp s3 (upd H2 s2.heap.objs.size (.lst []))) [] (y0J cap σ) (upd H2 s2.heap.objs.size (.lst [])) { s3 with heap:=h4,toks:=tk }:=fun tk=>
  y98 I3 hk aA dq bJ (fun i j e=>by
   obtain⟨x,n1,n2,n3⟩:=bx i j e
   exact⟨x,n1,n2,n3,cA _ (Bt n3) rfl⟩) ab (fun b hb=>(iM b hb).2) cF ba cn
 have iV:tn 0 h4:=T.keep _ _ _ cX fun b _ o e=>cn b o (by rw[←cQ];exact Aa _ e)
 have br:∀{H':Hp},(∀b∈fp,H' b=none)->∀b∈fp,x29 (K9 X N scope cs s3.heap.objs.size fp s3 (upd H2 s2.heap.objs.size (.lst []))) [] H' b:=fun {H'} hn b hb=>by
  obtain⟨o,e⟩:=cF b hb;obtain⟨_,f1,f3,_,f5,_⟩:=f2 b hb;refine⟨hn b hb,Ar (Am e),fun z=>?_,.inl hb,fun x c e=>(dq.old x c e).elim (fun z=>f5 x c z.1) (fun z q=>absurd (Am (q▸‹s3.heap.get? b=some o›)) (Ml.mpr (D8 z.1))),fun p hp=>absurd (show p∈([]:Pns) from hp) (by simp)⟩;rcases Af.mp (I3.stkSub b z) with e'|e'
  ·exact f1 e'
  ·exact f3 e'
 have cT:∀s4:Ah,s4={ s3 with heap:=h4,toks:=s2.toks+([]:List (Bb×A8)).length } ->
   Dl (B3 X.prog X.w) X.A (.compLoop (.ListComp aR [⟨ad,ae,aS,0⟩] scope pos) 0 (.ref it) (.ref s2.heap.objs.size) (Mk scope cs s3.heap.objs.size X.env))
    (compPost (B3 X.prog X.w) X.A X.xe (some (Kg (.Name y py) X.env)) (fun _ s'=>SP X aa D .next s') (.ref s2.heap.objs.size) s3.heap.objs.size) s4:=by
  rintro s4 rfl;refine z86 (fun n s'=>∃i σ' H' af,Inv (K9 X N scope cs s3.heap.objs.size fp s3 (upd H2 s2.heap.objs.size (.lst []))) [] σ' H' s'/\tn i s'.heap/\(∀b∈fp,H' b=none)/\W i n σ' H' af) ?_ m0 ⟨0,_,_,[],I4 _,iV,fun b hb=>(iM b hb).1,w0⟩;rintro n s5 ⟨i,σ5,H5,af,I5,eW,fZ,w5⟩;rcases turn i n σ5 H5 af w5 with⟨stop,q⟩|⟨go,hz,step⟩
  ·refine thn (T.done (K9 X N scope cs s3.heap.objs.size fp s3 (upd H2 s2.heap.objs.size (.lst []))) rfl rfl rfl hc i [] s5 σ5 H5 _ I5 (br fZ) eW stop) fun r s6 ⟨hr,I6⟩=>?_;subst hr;obtain⟨m6,hn6,_⟩:=I6.loc
   have IX:Inv X aa σ H5 s6:=by
    refine I3.call' (s':=s6) (ch:=fp) I6.os ?_ (fun b u e=>I6.hok b u e) I6.bare (fun b hb=>?_)
    ·have u6:Un (frs X.stack) fp (upd H2 s2.heap.objs.size (.lst [])) H5 s3.heap s6.heap:=I6.base;exact u6
    ·obtain⟨_,f1,_,f3,f5,f6⟩:=f2 b hb;exact⟨f3,f1,f5,f6⟩
   have ltL:X.env.locals<s3.heap.objs.size:=by obtain⟨m3,hn3,_⟩:=I3.loc;obtain⟨o,_,_,ho,_⟩:=hn3;exact Am ho
   have ik:∀x c,X.env.cells.lookup x=some c->c<s3.heap.objs.size:=fun x c e=>by obtain⟨v,o,ho,_⟩:=I3.cell x c e;exact Am ho
   show Aq _ X.A (Kg (.Name y py) X.env (.ref s2.heap.objs.size)) _ _ s6;refine wpAny_assign_Name (y3Q IX hN dY hy (v:=.ref s2.heap.objs.size) rfl (fun s7 I7 hsb7=>?_) hf);obtain⟨a7,sb7,ha7⟩:=hsb7
   have neA:s3.heap.objs.size≠a7:=by
    rcases ha7 with rfl|ha7
    ·exact Cl (Ar ltL)
    ·exact Cl (Ar (ik _ _ ha7))
   refine⟨m6,hn6.sameBut sb7 neA,fun h' sb=>?_⟩
   have dU:∀b u,H5 b=some u->b≠s3.heap.objs.size:=fun b u e z=>by
    subst z
    have:=I6.free
    rw[show H5 s3.heap.objs.size=none from this]at e;cases e
   refine⟨_,H5,?_,q⟩;refine I7.call' (s':={ s7 with heap:=h' }) (ch:=[s3.heap.objs.size]) rfl ?_ (fun b u e=>?_) I7.bare (fun b hb=>?_)
   ·have ex:∀b,b∉[s3.heap.objs.size]->∀o,s7.heap.get? b=some o->h'.get? b=some o:=fun b hb o e=>(sb.2 b fun z=>hb (by rw[z];exact Ae.mpr rfl)).trans e
    exact⟨fun b o e n hb hx=>ex b hx o e,fun b o e n hb hx=>⟨o.slots,ex b hx o e⟩,fun b o e n hx=>n,fun b o e hx=>⟨o,ex b hx o e⟩,fun _ _ e=>e,fun _ _ _ e=>e,fun b ps e=>⟨#[],by simpa using e⟩⟩
   ·refine(I7.hok b u e).stay (fun c v bK q'=>(sb.2 c ?_).trans q') (fun _ q'=>q') (fun _ _ q'=>q') fun _ _ _ q'=>q';rcases bK with rfl|bK
    ·exact dU _ _ e
    ·exact dU _ _ bK
   ·obtain rfl:=Ae.mp hb
    refine⟨.inr ?_,Cl (Ar ltL),fun x c e=>Ar (ik x c e),fun p hp=>?_⟩
    ·exact I3.sz
    ·exact Ar (Am (I3.pin p hp).1)
  ·refine thn (T.item (K9 X N scope cs s3.heap.objs.size fp s3 (upd H2 s2.heap.objs.size (.lst []))) rfl rfl rfl hc i [] s5 σ5 H5 _ I5 (br fZ) eW go) fun r s6 ⟨u,hr,h6⟩=>?_;subst hr;refine thn h6 fun _ s7 ⟨x,H7,I7,r7,y7,fR,fr7⟩=>?_;have I7':=I7.pinned (br fr7) (T.obj _ _ fR);refine thn (hg _ _ _ _ _ _ s7 σ5 H7 x u _ I7' r7 (step x H7 y7)) fun _ s8 ⟨σ8,H8,I8,q8⟩=>?_;refine thn (ht _ _ _ _ _ _ s8 σ8 H8 _ I8 q8) fun ok s9 ⟨H9,I9,q9⟩=>?_
   have Lh:∀{s':Ah} {σ':St} {H':Hp} {aM:List V} {m':Nat},Inv (K9 X N scope cs s3.heap.objs.size fp s3 (upd H2 s2.heap.objs.size (.lst []))) ([]++y1C fp s7.heap) σ' H' s'->m'<n->W (i+1) m' σ' H' aM ->
     ∃m,m<n/\∃i σ'' eZ af,Inv (K9 X N scope cs s3.heap.objs.size fp s3 (upd H2 s2.heap.objs.size (.lst []))) [] σ'' eZ s'/\tn i s'.heap/\(∀b∈fp,eZ b=none)/\W i m σ'' eZ af:=fun {s' σ' H' aM m'} I' hm w'=>by
    refine⟨m',hm,i+1,σ',H',aM,I'.unpinned,T.keep _ _ _ fR fun b hb o e=>(I'.pin (b,o) (Ab _ (Ab _ (z20 hb e)))).1,fun b hb=>?_,w'⟩;obtain⟨o,e,d⟩:=T.obj _ _ fR b hb;exact(I'.pin (b,o) (Ab _ (Ab _ (z20 hb e)))).2.1
   cases ok with
   |false=>rw[if_neg B0]at q9;obtain⟨m',hm,w'⟩:=q9;exact Lh I9 hm w'
   |true=>
    rw[if_pos rfl]at q9;show Aq _ _ (C0 aR _) _ _ s9;refine z14 (he _ _ _ _ _ _ s9 σ8 H9 _ I9 q9) fun xv s10 y fT I10 r10 ⟨fV,m',hm,w'⟩=>?_;refine z14 (z6O _ s10 σ8 fT (.ref s2.heap.objs.size) [y] (.ref s2.heap.objs.size) [xv] (fun (_:V) (H':Hp)=>H'=upd fT s2.heap.objs.size (.lst (af++[y]))) I10 rfl (.cons r10 .nil) ⟨_,af,y,rfl,rfl,fV,hz,rfl⟩) fun _ s11 _ H11 I11 _ e11=>?_;have gu:H11=upd fT s2.heap.objs.size (.lst (af++[y])):=e11
    subst gu;exact Lh I11 hm w'
 have hx:∀s4:Ah,s4={ s3 with heap:=h4,toks:=s2.toks+([]:List (Bb×A8)).length }->tn 0 s4.heap:=by rintro s4 rfl;exact iV
 subst ja;exact codeAny_compStart_list (cT _ rfl) (T.self X.A 0 _ _ _ (hx _ rfl) (cT _ rfl))
theorem x79{i:Nat}{y:Bb}{py aY pos:F2}{aR ad ae:Expr}{aS:List Expr}{scope:Scope}{fi:EL}{h:D->u5->Option u5}{ft:EB}{fe:ED}{go:EO}(N:List Bb)(cap:List (Option Nat))(hc:X.calm=true)(hi:SIc X ad ae fi)(hg:∀cl C fp s H,SG (K9 X N scope cl C fp s H) ad h)(ht:∀cl C fp s H,w0O (K9 X N scope cl C fp s H) aS (tT X.K ft))(he:∀cl C fp s H,SE (K9 X N scope cl C fp s H) aR fe)(hN:X.N.Nodup)(dY:X.N[i]?=some y)(hy:Loc X.env.scope y)(hf:X.fn y=true∨X.env.scope.names.lookup y=some .local)(bY:Dy (.ListComp aR [⟨ad,ae,aS,0⟩] scope pos) (some (.Name y py)) aY.line X.env=Ck true)(hok:z4F scope X.env.scope N cap X.N=true)(hs:∀x,Cn ae X.env x=Ck x)(himp:∀E σ H,tS X.K go E σ H->tF X.K (Q3 cap fi h ft fe) σ H (fun v H1=>E.nx (σ.set i (some v)) H1)):
  SS X (.Assign [.Name y py] (.ListComp aR [⟨ad,ae,aS,0⟩] scope pos) aY) go:=by
 unfold z4F at hok;simp only[Ax]at hok;obtain⟨⟨⟨⟨⟨⟨h1,h2⟩,h3⟩,h4⟩,h5⟩,h6⟩,h7⟩:=hok;rw[C1]at h2 h3 h4 h5 h7
 refine z0F (x3N (N:=N) (cap:=cap) (wi:=tIc X.K fi) (g:=tG X.K h) (tt:=tT X.K ft) (te:=tD X.K fe) hc hi hg ht he (by simpa using h1) (fun y hy e=>by have z:=h2 y hy;rw[e]at z;simpa using z) (fun y hy e=>?_) (fun y hy e=>?_) (fun y hy e=>?_) (fun i j e=>?_) (by simpa using h6) hN dY hy hf bY hs)
  fun E σ H z=>y9M (X:=X) (fun i j k e1 e2=>?_) σ H _ (himp E σ H z)
 ·have z:=h3 y hy;rw[e]at z;simpa using z
 ·have z:=h4 y hy;rw[e]at z;simp only[beq_self_eq_true,if_true,Ax]at z;simpa using z.1
 ·have z:=h4 y hy;rw[e]at z;simp only[beq_self_eq_true,if_true,Ax,E2]at z;simpa using z.2
 ·have aO:i<cap.length:=(An.mp e).1;have z:=h5 i (Aj.mpr aO);rw[e]at z;dsimp only at z;split at z
  ·rename_i x hx;split at z
   ·rename_i y hy;simp only[Ax,beq_iff_eq]at z;obtain⟨z1,z2⟩:=z;subst z1;exact⟨x,hx,hy,z2⟩
   ·cases z
  ·cases z
 ·have aO:i<cap.length:=(An.mp e1).1;have bG:j<cap.length:=(An.mp e2).1;have z:=h7 i (Aj.mpr aO);rw[C1]at z;have z2:=z j (Aj.mpr bG);rw[e1,e2]at z2;simpa using z2
theorem z4H{i:Nat}{y:Bb}{py aY pos:F2}{aR ad ae:Expr}{aS:List Expr}{scope:Scope}{fi:EL}{h:D->u5->Option u5}{ft:EB}{fe:ED}(N:List Bb)(cap:List (Option Nat))(hc:X.calm=true)(hi:ZIc X ad ae fi)(hg:N.Nodup->∀cl C fp s H,ZG (K9 X N scope cl C fp s H) ad h)(ht:∀cl C fp s H,ZP (K9 X N scope cl C fp s H) aS ft)(he:∀cl C fp s H,ZE (K9 X N scope cl C fp s H) aR fe)(hN:X.N.Nodup)(dY:X.N[i]?=some y:=by rfl)(hy:Loc X.env.scope y:=by first|exact Dw rfl|exact D2 rfl)(hf:X.fn y=true∨X.env.scope.names.lookup y=some .local:=by first|exact .inl rfl|exact .inr rfl)(bY:Dy (.ListComp aR [⟨ad,ae,aS,0⟩] scope pos) (some (.Name y py)) aY.line X.env=Ck true:=by rfl)(hok:z4F scope X.env.scope N cap X.N=true:=by rfl)(hs:∀x,Cn ae X.env x=Ck x:=by intro _;rfl)(nd:N.Nodup:=by decide +kernel):ZS X (.Assign [.Name y py] (.ListComp aR [⟨ad,ae,aS,0⟩] scope pos) aY) (z0H i (dLs (Q3 cap fi h ft fe))):=
 ⟨have hg:=hg nd;
 have hi:=hi.h;
 have hg:=fun cl C fp s H=>(hg cl C fp s H).h;
 have ht:=fun cl C fp s H=>(ht cl C fp s H).h;
 have he:=fun cl C fp s H=>(he cl C fp s H).h;
 x79 N cap hc hi hg ht he hN dY hy hf bY hok hs fun E σ H h_=>by
  refine ex6 h_ fun ρ o B H0 V0 Z e r q=>?_;unfold z0H at e;split at e
  ·rename_i d ed;cases e;unfold dLs at ed;obtain⟨ds,he,rfl⟩:=Bl.mp ed;refine⟨ρ,ds,B,H0,V0,Z,he,r,fun a xs H' s hn ha hr=>q _ H' Z ((r.mono s).set (J5.mpr ⟨a,xs,rfl,SqL.of ?_,hr.mono (z0G fun b hb=>A7 _ hb)⟩))⟩;rw[K7 (r.newer hn)];exact ha
  ·cases e⟩
end
end L3
namespace HT
open PySem PyProof.Rows
end HT
namespace L3
open PySem PySem.Spec PyProof.Rows L2 PySem.SeqAt
end L3
namespace L3
open PySem PySem.Spec PyProof.Rows L2
def z9Q(K:A5)(cd:A8)(x:Bb):Bool:=match cd with
 | .ref c=>(match K.lookup c with
  |some ⟨.type "code",_,.fields vs,_⟩=>(match (vs[11]?:Option A8) with|some (.ref P)=>If K c P&&(K.lookup P).isNone|_=>false)&&(match (vs[1]?:Option A8) with|some (.str q _)=>q==x&&y93.contains q|_=>false)
  |_=>false)
 |_=>false
theorem x0X{K:A5}{cd:A8}{x:Bb}(h:z9Q K cd x=true):∃c o vs P t,cd = .ref c/\K.lookup c=some o/\o.cls = .type "code"/\o.data = .fields vs/\vs[11]?=some (.ref P)/\vs[1]?=some (.str x t) /\
  If K c P=true/\K.lookup P=none/\z9R vs=true:=by
 unfold z9Q at h;split at h
 ·rename_i c;split at h
  ·rename_i od vs dO hk;rw[Ax]at h;obtain⟨h1,h2⟩:=h;split at h1
   ·rename_i P hP;rw[Ax]at h1;split at h2
    ·rename_i q t hq;rw[Ax]at h2
     have e:q=x:=by simpa using h2.1
     subst e;exact⟨c,_,vs,P,t,rfl,hk,rfl,rfl,hP,hq,h1.1,by simpa using h1.2,by unfold z9R;rw[hq];exact h2.2⟩
    ·cases h2
   ·cases h1
  ·cases h
 ·cases h
structure BmAt(K:A5)(mg:Bb->Option A8):Prop where
 ex:True
theorem x1U{p:F2}{a b:Int}{c v:A8}(l:List A8)(h:TriplesOk l)(e:Iz p (l++[rawInt a,rawInt b,c])=some v):Iz p l=some v∨v=c:=by
 fun_induction TriplesOk l with
 |case1=>
  simp only[Ku,Iz,rawInt]at e;split at e
  ·exact .inr (Bc e).symm
  ·cases e
 |case2 i t j u y r ih=>
  simp only[List.cons_append,Iz]at e ⊢;split at e
  ·rename_i hc;rw[if_pos hc];exact .inl e
  ·rename_i hc;rw[if_neg hc];exact ih h e
 |case3 l h1 h2=>exact h.elim
noncomputable abbrev y4M(qual:Bb)(params:Ja)(body:Expr)(scope:Scope)(cl:List (Bb×Ap))(av pm:A8)(c:Ap)(ct:A8):Ji:=PySem.W.kdv_obj "<lambda>" qual params (.expr body) scope cl .none av pm c ct
section
variable{X:Cx}{aa:Pns}{σ:St}{H:Hp}{s:Ah}
theorem Inv.pin1{f:Ap}{o:Ji}(I:Inv X aa σ H s)(ho:s.heap.get? f=some o)(hn:H f=none)(hl:f≠X.env.locals)(hf:f∉X.fs)(hd:∀v,o.data≠.cell v):Inv X ((f,o)::aa) σ H s:=
 I.pins_of fun p hp=>by
  rcases Af.mp hp with z|z
  ·subst z;exact⟨ho,hn,hl,hf,hd⟩
  ·exact I.pin p (Ab _ z)
theorem x9W{A:By}{E:VP}{params:Ja}{body:Expr}{scope:Scope}{pos:F2}{cl:List (Bb×Ap)}{x:Bb}{Q:VP}(I:Inv X aa σ H s)(tb:TB X.K H)(bm:BmAt X.K X.mg)(hl:z9Q X.K X.env.code x=true)(hq:X.env.qual=x++".<locals>.")(ay:Mj scope X.env=Ck cl)(bO:Ko params X.env=([],[]))(h:∀f c oc vs t av pm ct s' H',j6 H H'->Inv X ((f,y4M (X.env.qual++"<lambda>") params body scope cl av pm c ct)::aa) σ H' s'->(∃u,H' c=some (.frz oc u))->oc.data = .fields vs->vs[1]?=some (.str (X.env.qual++"<lambda>") t)->Q (.ref f) s'):
  Aq (B3 X.prog X.w) A (C0 (.Lambda params body scope pos) X.env) Q E s:=by
 refine PySem.W.kla_eval bO ?_;rw[makeFunction_eq];simp only[Jd,List.filterMap_nil,List.isEmpty_nil,if_true,pure_bind];obtain⟨c,o,vs,P,t0,hc,k1,k2,k3,k4,k5,k6,k7,k8⟩:=x0X hl;obtain⟨q,t,e1,hP⟩:=tb c o vs P k1 k2 k3 k4 k7 k8;rw[k5]at e1;cases e1;obtain⟨qs,hp,ht,iA⟩:=I.hok P _ hP;have CH:PySem.W.CodeHd s.heap c P:=PySem.W.codeHd_of_K I.kIn k6;have hg:s.heap.Ns Ct X.mg:=I.ok.mod.glob.keeps I.bk
 have hgP:Ct≠P:=fun z=>by
  obtain⟨og,es,ep,e,_⟩:=I.ok.mod.glob
  have:=(I.bs _ _ e).2
  rw[z,hP]at this;cases this
 obtain⟨bm,ob,b1,b6,b2,b3,b4,b5⟩:=I.ok.mod.bm
 have b7:bm≠Ct:=fun z=>by obtain⟨og,es,ep,e,hd,_⟩:=I.ok.mod.glob;rw[←z,b2]at e;cases e;rw[b5]at hd;cases hd
 have hB:s.heap.BuiltinsAt X.mg P:=⟨bm,ob,b1,b6,b7,(fun z=>by
  have:=(I.bs _ _ b2).2
  rw[z,hP]at this
  cases this),I.bk _ _ b2,b3,b4,b5⟩
 have tq:x2U #[L7 x 0]=X.env.qual++"<lambda>":=by rw[hq];rfl
 cases hca:Iz pos qs.toList with
 |none=>
  refine PySem.W.kdv_makeTail ay I.ok.glob hg hc CH hp ht hca hgP hB fun c' ct av h' tk hx gK al hrec gg=>?_;obtain⟨c2,oc,ws,t2,e2,gF,hd,hv⟩:=hrec;cases e2;have hcn:H c'=none:=I.hok.fresh gK
  have cne:∀b u,H b=some u->b≠c':=fun b u e z=>by rw[z,hcn]at e;cases e
  have sm:j6 H (upd H c' (.frz oc (.own P))):=j4 hcn;have hsz:s.heap.objs.size≤h'.objs.size:=Bk gK (D8 al);generalize cF:PySem.W.kdv_obj "<lambda>" (X.env.qual++"<lambda>") params (.expr body) scope cl .none av ((X.mg "__name__").getD .none) c' ct=fo
  have hok:HOk X.prog X.w (upd H c' (.frz oc (.own P))) (h'.push fo):=fun b u e=>by
   by_cases hb:b=c'
   ·subst hb;rw[x9]at e;cases e;exact⟨Aa _ gF,oc,Aa _ gF⟩
   ·rw[u8 hb]at e;by_cases hbP:b=P
    ·subst hbP;rw[hP]at e;cases e;refine⟨qs++#[rawInt pos.line,rawInt pos.col,.ref c'],Aa _ gg,?_,fun p v cv=>?_⟩
     ·have:=TriplesOk_snoc pos.line pos.col (.ref c') qs.toList ht
      simpa using this
     ·have gy:Iz p (qs.toList++[rawInt pos.line,rawInt pos.col,.ref c'])=some v:=by simpa using cv
      rcases x1U qs.toList ht gy with z|z
      ·obtain⟨c3,oc3,vs3,t3,z1,z2,z3,z4⟩:=iA p v z;exact⟨c3,oc3,vs3,t3,z1,sm _ _ z2,z3,z4⟩
      ·exact⟨c',oc,ws,t2,z,x9,hd,by rw[tq];exact hv⟩
    ·refine(I.hok b u e).stay (fun d v bS r=>Aa _ (hx d v ?_ r)) (fun d r=>sm _ _ r) (fun d ys r=>sm _ _ r) fun d cz ys r=>sm _ _ r;rcases bS with z|z
     ·rw[z];exact hbP
     ·intro z2;rw[z2,hP]at z;cases z
  have un:Un X.fs [] H (upd H c' (.frz oc (.own P))) s.heap (h'.push fo):=by
   have kp:∀b cz,s.heap.get? b=some cz->H b=none->(h'.push fo).get? b=some cz:=fun b cz e n=>Aa _ (hx b cz (fun z=>by rw[z,hP]at n;cases n) e)
   refine⟨fun b cz e n _ _=>kp b cz e n,fun b cz e n _ _=>⟨cz.slots,kp b cz e n⟩,fun b cz e n _=>?_,fun b cz e _=>?_,fun b ys e=>sm _ _ e,fun b cz u e=>sm _ _ e,fun b ps e=>⟨#[],by rw[sm _ _ e];simp⟩⟩
   ·rw[u8]
    ·exact n
    ·intro z
     have:=Am e
     rw[z]at this;exact absurd (Bg this gK) (Dj _)
   ·by_cases hb:b=P
    ·rw[hb];exact⟨_,Aa _ gg⟩
    ·exact⟨cz,Aa _ (hx b cz hb e)⟩
  have I2:=I.un (h':=h'.push fo) (t':=tk) un hok;refine h h'.objs.size c' oc ws t2 av ((X.mg "__name__").getD .none) ct _ _ sm ?_ ⟨_,x9⟩ hd hv;have hf:(h'.push fo).get? h'.objs.size=some fo:=At _ (by rw[←cF];rfl)
  rw[←cF]at hf I2 ⊢;refine Inv.pin1 I2 hf ?_ ?_ ?_ ?_
  ·rw[u8 (D0 al)];exact I.hok.fresh hsz
  ·exact D0 (Bg I.lt hsz)
  ·exact I.nofs hsz
  ·intro v z;cases z
 |some v=>
  obtain⟨c',oc,ws,t2,rfl,z2,z3,z4⟩:=iA pos v hca;refine PySem.W.kdv_makeTailHit ay I.ok.glob hg hc CH hp ht hca hB fun ct av h' tk hx hsz=>?_;rw[tq]at z4;have I2:=I.kept (h':=h'.push (y4M (X.env.qual++"<lambda>") params body scope cl av ((X.mg "__name__").getD .none) c' ct)) (t':=tk) fun b u e=>Aa _ (hx b u e);refine h h'.objs.size c' oc ws t2 av ((X.mg "__name__").getD .none) ct _ H (j6.refl H) ?_ ⟨_,z2⟩ z3 z4
  refine Inv.pin1 I2 (At _ rfl) (I.hok.fresh hsz) (D0 (Bg I.lt hsz)) (I.nofs hsz) ?_;intro v z;cases z
end
noncomputable abbrev z8I(X:Cx)(A:By)(N:List Bb)(qual:Bb)(scope:Scope)(cl:List (Bb×Ap))(f:Ap)(cd:A8)(s:Ah)(H:Hp):Cx where
 prog:=X.prog
 w:=X.w
 K:=X.K
 mg:=X.mg
 base:=X.base
 A:=A.deeper (Kq qual scope s.heap.objs.size f cd cl)
 N:=N
 s₀:=s
 H₀:=H
 env:=Kq qual scope s.heap.objs.size f cd cl
 outer:=X.stack
 stack:=Kq qual scope s.heap.objs.size f cd cl::X.stack
 ex:=[]
 fn:=fun x=>match scope.names.lookup x with|some .local=>true|_=>false
 calm:=true
 pn:=[]
 xe:=fun _ _=>False
section
variable{X:Cx}{aa:Pns}{σ:St}{H:Hp}{s:Ah}{scope:Scope}{cl:List (Bb×Ap)}{N:List Bb}{cap:List (Option Nat)}{A:By}{qual p:Bb}{f:Ap}{cd u:A8}{v:V}
theorem w2N{h1:C5}{tk:Nat}(I:Inv X aa σ H s)(hAf:A.frames=some X.stack)(hAh:A.handled=none)(hk:scope.kind = .function)(aA:∀y∈scope.names,y.2≠.cell)(ay:∀x c,cl.lookup x=some c->X.env.cells.lookup x=some c/\(x,Br)∈scope.names)(dZ:∀x,(x,Br)∈scope.names->∃c,cl.lookup x=some c)(bJ:∀x∈scope.names,x.2 = .free->scope.names.lookup x.1=some .free)(bx:∀(i j:Nat),cap[i]?=some (some j)->∃x,N[i]?=some x/\X.N[j]?=some x/\scope.names.lookup x=some .free/\(X.env.scope.names.lookup x=some .cell∨X.env.scope.names.lookup x=some .free))(ab:cap.length=N.length)(h0:cap[0]?=some none)(hp:N[0]?=some p)(ah:scope.names.lookup p=some .local)(rv:z01 v u)(ba:h1.Ns s.heap.objs.size (fun y=>([(p,u)]:List (Bb×A8)).reverse.lookup y))(keep:∀b o,s.heap.get? b=some o->h1.get? b=some o):
  Inv (z8I X A N qual scope cl f cd s H) [] ((y0J cap σ).set 0 (some v)) H { s with heap:=h1,toks:=tk }:=by
 have e0:=I.env0;have eU:∀b:Ap,b∉(z8I X A N qual scope cl f cd s H).ex:=fun b z=>absurd (show b∈([]:List Ap) from z) (by simp)
 refine⟨⟨e0.mod,hk,rfl,rfl,Ak _,fun x y c e1 e2=>I.ok.inj x y c (ay x c e1).1 (ay y c e2).1,fun x hx=>?_,fun x c hx e=>?_,fun _=>hAh,By.frames_deeper hAf,.inr ⟨rfl,rfl⟩,fun b z=>absurd z (eU b),e0.bs,e0.bsz,fun b _ _=>eU b,fun b z=>absurd z (eU b),e0.funs,e0.frf⟩,
  rfl,e0.bare,Un.kept keep,⟨_,ba,fun i y w e1 e2 e3=>?_⟩,fun x c e=>?_,e0.hok.fresh (Ak _),fun x c e=>I.freeC x c (ay x c e).1,fun q hq=>absurd (show q∈([]:Pns) from hq) (by simp),e0.hok.kept keep,?_⟩
 ·have hx:scope.names.lookup x=some .cell∨scope.names.lookup x=some .free:=hx;rcases hx with z|z
  ·exact absurd rfl (aA _ (Bt z))
  ·exact dZ x (Bt z)
 ·have aI:(match scope.names.lookup x with|some .local=>true|_=>false)=true:=hx
  have:=bJ _ (ay x c e).2 rfl
  rw[this]at aI;cases aI
 ·cases i with
  |zero=>
   have e1':N[0]?=some y:=e1;rw[hp]at e1';cases e1'
   have hl0:0<(y0J cap σ).length:=by unfold y0J;rw[A0];exact(An.mp h0).1
   rw[C7 hl0]at e2;cases e2;refine⟨u,rv,.inl ⟨ah,?_⟩⟩;simp[Bi]
  |succ i=>
   rw[Bd (by omega)]at e2
   have hc:∃j,cap[i+1]?=some (some j)/\σ[j]?=some (some w):=by
    unfold y0J at e2;rw[Au]at e2
    cases fE:cap[i+1]? with
    |none=>rw[fE]at e2;cases e2
    |some o=>
     rw[fE]at e2
     cases o with
     |none=>cases e2
     |some j=>
      refine⟨j,rfl,?_⟩;have eV:(σ[j]?).bind id=some w:=Bc e2
      cases hs:σ[j]? with
      |none=>rw[hs]at eV;cases eV
      |some q=>
       rw[hs]at eV
       have:q=some w:=eV
       rw[this]
   obtain⟨j,hj,hv⟩:=hc;obtain⟨x,n1,n2,n3,n4⟩:=bx (i+1) j hj
   have exy:x=y:=by
    have:N[i+1]?=some y:=e1
    rw[n1]at this;exact Bc this
   subst exy;obtain⟨mm,hm,hl⟩:=I.loc;obtain⟨u',r,ci⟩:=hl j x w n2 hv (.inr n4);refine⟨u',r,.inr ⟨.inr n3,?_⟩⟩;rcases ci with⟨k,_⟩|⟨k,c,e,z⟩
   ·have k':X.env.scope.names.lookup x=some .local:=k;rw[k']at n4;rcases n4 with q|q<;>cases q
   ·obtain⟨c',bK⟩:=dZ x (Bt n3)
    have:=(ay x c' bK).1
    rw[e]at this;cases this;obtain⟨o,ho,hd⟩:=z;exact⟨c,bK,o,keep _ _ ho,hd⟩
 ·obtain⟨v',o,ho,hd⟩:=I.cell x c (ay x c e).1;exact⟨v',o,keep _ _ ho,hd⟩
 ·rw[Ci];unfold y0J;rw[A0];exact ab
theorem y92{params:Ja}{body:Expr}{av pm ct:A8}{c:Ap}{oc:Ji}{vs:Array A8}{t:M6}{te:TE}{Q:VK}{E:VP}(I:Inv X aa σ H s)(hAf:A.frames=some X.stack)(hr:Room 0 A)(hf:s.heap.get? f=some (y4M qual params body scope cl av pm c ct))(hc:∃u,H c=some (.frz oc u))(hd:oc.data = .fields vs)(hv:vs[1]?=some (.str qual t))(hk:scope.kind = .function)(aA:∀y∈scope.names,y.2≠.cell)(dn:scope.isCoroutine=false)(bQ:scope.isGenerator=false)(ay:∀x c,cl.lookup x=some c->X.env.cells.lookup x=some c/\(x,Br)∈scope.names)(dZ:∀x,(x,Br)∈scope.names->∃c,cl.lookup x=some c)(bJ:∀x∈scope.names,x.2 = .free->scope.names.lookup x.1=some .free)(bx:∀(i j:Nat),cap[i]?=some (some j)->∃x,N[i]?=some x/\X.N[j]?=some x/\scope.names.lookup x=some .free/\(X.env.scope.names.lookup x=some .cell∨X.env.scope.names.lookup x=some .free))(ab:cap.length=N.length)(h0:cap[0]?=some none)(hp:N[0]?=some p)(ah:scope.names.lookup p=some .local)(rv:z01 v u)(hb:Ge (Hw "<lambda>" qual params (.expr body) scope cl .none av pm (.ref c) ct) ⟨[u],[]⟩=Ck [(p,u)])(he:PE (z8I X A N qual scope cl f (.ref c) s H) body te)(h:te ((y0J cap σ).set 0 (some v)) H Q):
  Aq (B3 X.prog X.w) A (call (.ref f) [u]) (EP X aa σ Q) E s:=by
 obtain⟨uu,hc⟩:=hc;have gF:s.heap.get? c=some oc:=(I.hok c _ hc).1;refine Mc (PySem.W.kla_callFunE hr.depth hf rfl dn bQ rfl ⟨c,oc,vs,t,rfl,gF,hd,hv⟩ ?_);rw[hb];refine wpAny_pure (wpAny_newFunctionEnv aA (fun y hy=>?_) (fun h₁ ba hsb=>⟨I.nolimit.fresh _ hsb,?_⟩) hk)
 ·rw[Ae.mp hy];exact ah
 have keep:∀b o,s.heap.get? b=some o->h₁.get? b=some o:=fun b o e=>hsb.extBut b o (Ar (Am e)) (Aa _ e);show Dl _ _ (.expr body (Kq qual scope s.heap.objs.size f (.ref c) cl)) _ _
 have I2:Inv (z8I X A N qual scope cl f (.ref c) s H) [] ((y0J cap σ).set 0 (some v)) H { s with heap:=h₁,toks:=s.toks+([(p,u)]:List (Bb×A8)).length }:=w2N I hAf hr.hd hk aA ay dZ bJ bx ab h0 hp ah rv ba keep
 refine PySem.W.kla_codeExpr (Ce (he [] _ _ H Q I2 h) (fun x s' hs=>?_) fun _ _ z=>z.elim);obtain⟨w,H',J,r,q⟩:=hs;exact I.after ⟨w,H',J.os,J.bare,J.base,J.hok,r,q⟩
end
end L3
namespace L3
open PySem PySem.Spec PyProof.Rows L2 PySem.SeqAt PySem.W
section
variable{X:Cx}{aa:Pns}{σ:St}{H:Hp}{s:Ah}
theorem Inv.repin{b:Ap}{o o':Ji}{h':C5}{t':Nat}(J:Inv X ((b,o)::aa) σ H s)(hk:F3 b s.heap h')(ho:h'.get? b=some o')(h0:X.s₀.heap.objs.size≤b)(hc:∀x c,X.env.cells.lookup x=some c->c≠b)(hp:∀p∈X.pn++aa,p.1≠b)(hd:∀v,o'.data≠.cell v):Inv X ((b,o')::aa) σ H { s with heap:=h',toks:=t' }:=by obtain⟨_,p2,p3,p4,_⟩:=J.pin (b,o) (Ab _ A6);have J1:Inv X aa σ H s:=J.pins_of fun p z=>J.pin p (Ab _ (A7 _ z));exact Inv.pin1 (J1.turned (h':=h') (t':=t') (fun c u ne e=>(hk.2 c ne).trans e) p2 p3 (.inr h0) hc hp) ho p2 p3 p4 hd
theorem Inv.tail{p:Ap×Ji}(J:Inv X (p::aa) σ H s):Inv X aa σ H s:=J.pins_of fun q z=>J.pin q (Ab _ (A7 _ z))
theorem Inv.told{a b:Ap}{oa ob:Ji}{ys:List V}{h':C5}{t':Nat}(J:Inv X ((b,ob)::(a,oa)::aa) σ H s)(hk:∀c u,c≠a->c≠b->s.heap.get? c=some u->h'.get? c=some u)(hb:∃u,h'.get? b=some u)(ha:z1D X.prog X.w (upd H a (.lst ys)) h' a (.lst ys))(h0:X.s₀.heap.objs.size≤a)(h1:X.s₀.heap.objs.size≤b)(hc:∀x c,X.env.cells.lookup x=some c->c≠a/\c≠b)(hp:∀p∈X.pn++aa,p.1≠a/\p.1≠b):Inv X aa σ (upd H a (.lst ys)) { s with heap:=h',toks:=t' }:=by
 obtain⟨q1,q2,q3,q4,_⟩:=J.pin (b,ob) (Ab _ A6);obtain⟨p1,p2,p3,p4,_⟩:=J.pin (a,oa) (Ab _ (A7 _ A6));have sm:j6 H (upd H a (.lst ys)):=j4 p2;have J1:Inv X aa σ H s:=Inv.tail (Inv.tail J);have nt:∀c u,H c=some u->c≠a/\c≠b:=fun c u e=>⟨(fun z=>by rw[z,p2]at e;cases e),(fun z=>by rw[z,q2]at e;cases e)⟩
 refine J1.step (g':=s.gens) (d':=s.drawn) (ch:=[a,b]) (fun c bK=>?_) (fun c u _ _ hn e _=>hk c u (fun z=>hn (by simp[z])) (fun z=>hn (by simp[z])) e) (fun c u _ _ hn e _=>⟨u.slots,hk c u (fun z=>hn (by simp[z])) (fun z=>hn (by simp[z])) e⟩)
  (fun c u hn e n=>by rw[u8 (fun z=>hn (by simp[z]))];exact n) (fun c u hn e=>⟨u,hk c u (fun z=>hn (by simp[z])) (fun z=>hn (by simp[z])) e⟩) (fun c xs e=>sm _ _ e) (fun c o' u e=>sm _ _ e) (fun c ps e=>⟨#[],by rw[sm _ _ e];simp⟩)
  (fun m hm=>?_) (fun c u e=>?_) J1.bare
 ·rcases Af.mp bK with z|z
  ·subst z;exact⟨.inr h0,p3,fun x c e=>(hc x c e).1,fun p z=>(hp p z).1⟩
  ·rw[Ae.mp z];exact⟨.inr h1,q3,fun x c e=>(hc x c e).2,fun p z=>(hp p z).2⟩
 ·obtain⟨o',dy,fH,bU,r'⟩:=hm;exact⟨o',dy,fH,hk _ _ (Cl p3) (Cl q3) bU,r'⟩
 ·by_cases aU:c=a
  ·subst aU;rw[x9]at e;cases e;exact ha
  ·rw[u8 aU]at e;refine(J1.hok c u e).stay (fun d v hd r=>?_) (fun d r=>sm _ _ r) (fun d xs r=>sm _ _ r) fun d o' u r=>sm _ _ r;rcases hd with z|z
   ·rw[z]at r ⊢;exact hk _ _ (nt c u e).1 (nt c u e).2 r
   ·exact hk _ _ (nt _ _ z).1 (nt _ _ z).2 r
variable{A:By}{E:VP}
theorem y88{a:Ap}{f:A8}{vs:List A8}{us:List V}{n:Nat}{P:Ld->Ah->Prop}{Z:List Ap}{kds:List D}{κ:Kz}{lt:Nat->Nat->Bool}(O:KOrd lt)(I:Inv X ((a,Be "list" vs.toArray n)::aa) σ H s)(fB:vs.length<64)(hkl:kds.length=vs.length)(rv:Y3 us vs)(h0:X.s₀.heap.objs.size≤a)(hc:∀x c,X.env.cells.lookup x=some c->c<a)(hp:∀p∈X.pn++aa,p.1<a)
  (turn:∀(i:Nat) (u:A8) (d:D),vs[i]?=some u->kds[i]?=some d->∀(more:Pns) (H1:Hp) (s1:Ah),j6 H H1->Inv X (more++aa) σ H1 s1 ->
   Aq (B3 X.prog X.w) A (call f [u]) (EP X (more++aa) σ fun k H2=>j6 H1 H2/\Rep X.K (J3 Z H2) d k) (fun _ _=>False) s1)
  (dR:∀(more:Pns) (H1:Hp) (s1:Ah) (ks:List V) (kvs:List A8),j6 H H1->Inv X (more++aa) σ H1 s1->Y3 ks kvs->j7 X.K (J3 Z H1) kds ks->2≤kvs.length->∀Q:Kz->Ah->Prop,Q κ s1->Aq (B3 X.prog X.w) A (Mm kvs.toArray) Q (fun _ _=>False) s1)
  (al:∀(more:Pns) (H1:Hp) (s1:Ah) (ks:List V) (kvs:List A8),j6 H H1->Inv X (more++aa) σ H1 s1->Y3 ks kvs->j7 X.K (J3 Z H1) kds ks->∀i j,i<kvs.length->j<kvs.length->∀C:Bool->Ah->Prop,C (lt i j) s1 ->
   Aq (B3 X.prog X.w) A (keyLt' κ (kvs.getD i C9) (kvs.getD j C9)) C (fun _ _=>False) s1)
  (fin:∀(p:Array Nat) (H1:Hp) (s1:Ah),p.size=vs.length->p.Perm (Bn (A9 vs.length))->Up lt p vs.length->j6 H H1->H1 a=none->Inv X aa σ (upd H1 a (.lst (p.toList.map fun i=>us.getD i .non))) s1->P (.done (.ret .none)) s1):
  Aq (B3 X.prog X.w) A (ksk_tree a f false) P E s:=by
 have ho:s.heap.get? a=some (Be "list" vs.toArray n):=(I.pin _ (Ab _ A6)).1;have ha:a<s.heap.objs.size:=Am ho
 have hzz:vs.toArray.size≤sizeLine:=by rw[Ag,C3];omega
 obtain⟨e1,gH⟩:∃e1,(s.heap.update a (Ca fun _=>(#[]:Array A8))).get? a=some (Be "list" #[] e1):=⟨_,get?_update_seq ho fun _=>#[]⟩
 have I1:Inv X ((a,Be "list" #[] e1)::aa) σ H { s with heap:=s.heap.update a (Ca fun _=>(#[]:Array A8)),toks:=s.toks }:=Inv.repin I (Di _ _ _) gH h0 (fun x c e=>Ar (hc x c e)) (fun p z=>Ar (hp p z)) (fun v z=>by cases z)
 unfold ksk_tree;refine A4 (Ix ho rfl (A4 (G8 ho rfl ?_ hzz (Bf _))));refine A4 (L0 gH rfl (A4 (wpAny_newTuple (A4 (Hb (Cr ?_) (Bf _))) (by show vs.length≤_;rw[C3];omega))))
 generalize hh1:s.heap.update a (Ca fun _=>(#[]:Array A8))=h1 at I1 gH ⊢
 have dW:s.heap.objs.size=h1.objs.size:=by rw[←hh1,Gp]
 generalize hkS:(h1.push (Be "tuple" vs.toArray 0)).objs.size=kS
 have kS1:kS=h1.objs.size+1:=by rw[←hkS,Lr]
 have gv:a<kS:=by rw[kS1,←dW];exact C6 ha
 have ckS:∀x c,X.env.cells.lookup x=some c->c≠kS:=fun x c e=>Ar (Cu (hc x c e) gv)
 have I2:Inv X ((kS,Be "list" #[] 0)::(a,Be "list" #[] e1)::aa) σ H { s with heap:=(h1.push (Be "tuple" vs.toArray 0)).push (Be "list" #[] 0),toks:=s.toks }:=by have J:=I1.kept (h':=(h1.push (Be "tuple" vs.toArray 0)).push (Be "list" #[] 0)) (t':=s.toks) fun b u e=>Aa _ (Aa _ e);refine Inv.pin1 J (by rw[←hkS];exact At _ rfl) (I1.hok.fresh (by rw[kS1];exact Dq _)) (D0 (by rw[kS1];exact C6 I1.lt)) (I1.nofs (by rw[kS1];exact Dq _)) (fun v z=>by cases z)
 have pkS:∀p∈X.pn++(a,Be "list" #[] e1)::aa,p.1≠kS:=fun p z=>by
  rcases Aw.mp z with z|z
  ·exact Ar (Cu (hp p (B9 _ z)) gv)
  ·rcases Af.mp z with z|z
   ·rw[z];exact Ar gv
   ·exact Ar (Cu (hp p (Ab _ z)) gv)
 have h0k:X.s₀.heap.objs.size≤kS:=Bk h0 (D8 gv);show Aq _ _ (ksk_rest a f false vs.toArray e1 (.ref kS)) P E { s with heap:=(h1.push (Be "tuple" vs.toArray 0)).push (Be "list" #[] 0) };unfold ksk_rest;refine A4 (Kl ?_);rw[List.forIn_toArray]
 refine A4 (ksk_fold (fun i s'=>∃(H1:Hp) (kA:Array A8) (ks:List V) (e:Nat),Inv X ((kS,Be "list" kA e)::(a,Be "list" #[] e1)::aa) σ H1 s'/\j6 H H1/\Y3 ks kA.toList/\j7 X.K (J3 Z H1) (kds.take i) ks) vs 0 _
  ⟨H,#[],[],0,I2,j6.refl H,.nil,by rw[Jg];exact j7.nil⟩ ?step ?done)
 case step=>
  rintro j x s' hx ⟨H1,kA,ks,e,J,sm,rk,rr⟩;simp only[M0]at rr ⊢;have hj:j<vs.length:=(An.mp hx).1;have eM:kds[j]?=some kds[j]:=A3 (by omega)
  have hz:kA.size≤vs.length:=by have l1:=rk.length;have l2:=rr.length;have l3:kA.toList.length=kA.size:=B4;rw[Fi]at l2;omega
  refine A4 (wpAny_attempt (Ce (turn j x _ hx eM [(kS,Be "list" kA e),(a,Be "list" #[] e1)] H1 s' sm J) (fun k bt he=>?_) fun _ _ z=>z.elim));obtain⟨kv,H2,J2,rkv,aT,rd⟩:=he;have J2':Inv X ((kS,Be "list" kA e)::(a,Be "list" #[] e1)::aa) σ H2 bt:=J2;have hok:bt.heap.get? kS=some (Be "list" kA e):=(J2'.pin _ (Ab _ A6)).1;obtain⟨e2,fM⟩:∃e2,(bt.heap.update kS (Ca (·.push k))).get? kS=some (Be "list" (kA.push k) e2):=⟨_,get?_update_seq hok (·.push k)⟩
  try dsimp only
  refine A4 (G8 hok rfl ?_ (by rw[C3];omega) (Bk (Nat.le_of_eq (Array.size_push ..)) (by rw[C3];omega)))
  refine wpAny_pure ⟨rfl,H2,kA.push k,ks++[kv],e2,?_,sm.trans aT,?_,?_⟩
  ·exact Inv.repin (t':=bt.toks) J2' (Di _ _ _) fM h0k ckS pkS (fun v z=>by cases z)
  ·rw[Array.toList_push];exact rk.append (.cons rkv .nil)
  ·rw[List.take_add_one,eM];exact j7.append (rr.mono (y8 aT)) (j7.one rd)
 case done=>
  rintro s' ⟨H1,kA,ks,e,J,sm,rk,rr⟩
  have rr':j7 X.K (J3 Z H1) kds ks:=by rw[List.take_of_length_le (by omega)]at rr;exact rr
  have lk:kA.size=vs.length:=by have l1:=rk.length;have l2:=rr'.length;have l3:kA.toList.length=kA.size:=B4;omega
  have hok:s'.heap.get? kS=some (Be "list" kA e):=(J.pin _ (Ab _ A6)).1;have hoa:s'.heap.get? a=some (Be "list" #[] e1):=(J.pin _ (Ab _ (A7 _ A6))).1
  try dsimp only
  refine A4 (Ix hok rfl ?_);have eK:kA.toList.toArray=kA:=Array.toArray_toList
  have dH:∀(aW:SortSt) (p:Array Nat),p.size=vs.length->p.Perm (Bn (A9 vs.length))->Up lt p vs.length->(arrOf aW).map (·.2)=Bn (p.toList.map fun i=>vs.getD i C9)->Lw aW=none ->
    Aq (B3 X.prog X.w) A (ksk_tail a false e1 (.ref kS) aW) P E s':=fun aW p h1 h2 h3 h4 h5=>by
   have s1:=Di s'.heap kS (Ca fun _=>(#[]:Array A8));have na1:(s'.heap.update kS (Ca fun _=>(#[]:Array A8))).get? a=some (Be "list" #[] e1):=(s1.2 a (Ar gv)).trans hoa;unfold ksk_tail
   try dsimp only
   refine A4 (G8 hok rfl ?_ (by rw[lk,C3];omega) (Bf _))
   refine A4 (E4 ?_);refine A4 (L0 na1 rfl ?_);rw[h4,h5]
   refine A4 (G8 na1 rfl ?_ (Bf _) (by
    show (if false=true then _ else Bn (p.toList.map fun i=>vs.getD i C9)).size≤sizeLine+1;rw[if_neg B0,Ag,A0,B4,h1,C3]
    omega))
   simp only[bne_self_eq_false,E9,if_false];refine wpAny_pure (fin p H1 _ h1 h2 h3 sm ?_ ?_)
   ·exact(J.pin _ (Ab _ (A7 _ A6))).2.1
   ·have pl:∀i∈p.toList,i<vs.length:=z7B h2;have s2:=Di (s'.heap.update kS (Ca fun _=>(#[]:Array A8))) a (Ca fun _=>Bn (p.toList.map fun i=>vs.getD i C9));refine Inv.told (t':=s'.toks) J (fun c u n1 n2 e=>(s2.2 c n1).trans ((s1.2 c n2).trans e)) ?_ ?_ h0 h0k (fun x c e=>⟨Ar (hc x c e),ckS x c e⟩) (fun q z=>⟨Ar (hp q z),pkS q ?_⟩)
    ·have:(s'.heap.update kS (Ca fun _=>(#[]:Array A8))).get? kS=some _:=get?_update_seq hok fun _=>#[]
     exact⟨_,(s2.2 kS (D0 gv)).trans this⟩
    ·refine⟨?_,p.toList.map fun i=>vs.getD i C9,_,w1P rv _ fun i hi=>by have:=pl i hi;have:=rv.length;omega,get?_update_seq na1 _⟩
     rw[A0,B4,h1,C3];omega
    ·rcases Aw.mp z with z|z
     ·exact B9 _ z
     ·exact Ab _ (A7 _ z)
  unfold ksk_end
  try dsimp only
  simp only[E9,if_false]
  have lks:kA.toList.length=vs.length:=by rw[B4];exact lk
  by_cases h2:vs.toArray.size<2
  ·rw[if_pos h2,if_pos h2];refine A4 (wpAny_pure ?_);rw[StateT.run_pure];refine A4 (wpAny_pure ?_);dsimp only;refine dH (SortSt.mk' general' (kA.zip vs.toArray) #[] 7 none) (Bn (A9 vs.length)) (by simp) (Ey _) (fun i j be hj=>?_) ?_ rfl
   ·have:i=j:=by rw[Ag]at h2;omega
    subst this;exact O.irr _
   ·rw[show (Bn (A9 vs.length)).toList=A9 vs.length from rfl,y1A];apply Array.toList_inj.mp;show ((kA.zip vs.toArray).map (·.2)).toList=vs;apply Ie
    ·simp[lk]
    ·intro i g1 g2;simp
  ·rw[if_neg h2,if_neg h2]
   have cO:2≤vs.length:=by rw[Ag]at h2;omega
   have zk:=dR [(kS,Be "list" kA e),(a,Be "list" #[] e1)] H1 s' ks kA.toList sm J rk rr' (by omega) (fun κ' bt=>κ'=κ/\bt=s') ⟨rfl,rfl⟩;rw[eK]at zk;refine A4 (Ce zk (fun κ' bt hq=>?_) fun _ _ x=>x.elim);obtain⟨jz,iD⟩:=hq;rw[jz,iD];obtain⟨p,ep,p1,p2,p3⟩:=x2Y O (n:=vs.length) (by omega)
   have kr:=kat_run (prog:=X.prog) (w:=X.w) (A:=A) (s:=s') (E:=fun _ _=>False) (κ:=κ) (ks:=kA.toList) (vs:=vs) (Q:=fun aW bt=>∃q,q.size=vs.length/\arrOf aW=q.map (kas_item (kA.toList.toArray.zip vs.toArray))/\Lw aW=none/\q=p/\bt=s') lks cO fB (fun q aW bt a1 a2 a3 a4=>⟨q,a1,a2,a3,a4⟩)
    (z7G (lt:=lt) (n:=vs.length) (Ok:=fun bt=>bt=s') (fun i j C bt hi hj hs hC=>by
     rw[hs];unfold kas_ask;have z0:=hC s' rfl
     exact al [(kS,Be "list" kA e),(a,Be "list" #[] e1)] H1 s' ks kA.toList sm J rk rr' i j (by omega) (by omega) C z0) _ s' (x2Z (by omega)) rfl (fun bt hs=>⟨ep,hs⟩))
   rw[eK]at kr;refine A4 (Ce kr ?_ fun _ _ e=>e.elim);rintro ⟨⟨⟩,aW⟩ bt ⟨q,q1,q2,q3,hqp,hqs⟩;rw[hqs];rw[hqp]at q2;rw[←eK]at q2;exact dH aW p p1 p2 p3 (kat_snds lks q2) q3
end
structure CapOk(sc outer:Scope)(N:List Bb)(cap:List (Option Nat))(M:List Bb):Prop where
 kind:sc.kind = .function
 cell:∀y∈sc.names,y.2≠.cell
 loc:∀y∈sc.names,y.2 = .local->sc.names.lookup y.1=some .local
 fre:∀y∈sc.names,y.2 = .free->sc.names.lookup y.1=some .free
 out:∀y∈sc.names,y.2 = .free->outer.names.lookup y.1=some .cell∨outer.names.lookup y.1=some .free
 sel:∀(i j:Nat),cap[i]?=some (some j)->∃x,N[i]?=some x/\M[j]?=some x/\sc.names.lookup x=some .free
 len:cap.length=N.length
 inj:∀(i j k:Nat),cap[i]?=some (some k)->cap[j]?=some (some k)->i=j
theorem y9R{sc outer:Scope}{N:List Bb}{cap:List (Option Nat)}{M:List Bb}(hok:x0W sc outer N cap M=true):CapOk sc outer N cap M:=by
 unfold x0W z4F at hok;simp only[Ax]at hok;obtain⟨⟨⟨⟨⟨⟨⟨h1,_⟩,h3⟩,h4⟩,h5⟩,h6⟩,h7⟩,h2⟩:=hok;rw[C1]at h2 h3 h4 h5 h7;refine⟨by simpa using h1,fun y hy=>by simpa using h2 y hy,fun y hy e=>?_,fun y hy e=>?_,fun y hy e=>?_,fun i j e=>?_,by simpa using h6,fun i j k e1 e2=>?_⟩
 ·have z:=h3 y hy;rw[e]at z;simpa using z
 ·have z:=h4 y hy;rw[e]at z;simp only[beq_self_eq_true,if_true,Ax]at z;simpa using z.1
 ·have z:=h4 y hy;rw[e]at z;simp only[beq_self_eq_true,if_true,Ax,E2]at z;simpa using z.2
 ·have aO:i<cap.length:=(An.mp e).1;have z:=h5 i (Aj.mpr aO);rw[e]at z;dsimp only at z
  cases hn:N[i]? with
  |none=>rw[hn]at z;cases z
  |some x=>
   rw[hn]at z;dsimp only at z
   cases hm:M[j]? with
   |none=>rw[hm]at z;cases z
   |some y=>rw[hm]at z;simp only[Ax,beq_iff_eq]at z;obtain⟨rfl,z2⟩:=z;exact⟨x,rfl,rfl,z2⟩
 ·have aO:i<cap.length:=(An.mp e1).1;have bG:j<cap.length:=(An.mp e2).1;have z:=h7 i (Aj.mpr aO);rw[C1]at z;have z2:=z j (Aj.mpr bG);rw[e1,e2]at z2;simpa using z2
noncomputable def x0S(fb:ED)(ρ:u5):List D->Option (List D)
 | []=>some []
 |d::ds=>match fb (ρ.set 0 (some (.sh d))) with|some k=>(match x0S fb ρ ds with|some ks=>some (k::ks)|none=>none)|none=>none
theorem y2L{fb:ED}{ρ:u5}:∀{ds ks:List D},x0S fb ρ ds=some ks->ks.length=ds.length
 | [],ks,e=>by cases e;rfl
 |d::ds,ks,e=>by
  unfold x0S at e;split at e
  ·split at e
   ·rename_i ks' h;cases e;rw[Ay,Ay,y2L h]
   ·cases e
  ·cases e
theorem y6Q{fb:ED}{ρ:u5}:∀{ds ks:List D} {i:Nat} {d k:D},x0S fb ρ ds=some ks->ds[i]?=some d->ks[i]?=some k->fb (ρ.set 0 (some (.sh d)))=some k
 | [],ks,i,d,k,_,h,_=>by simp at h
 |d'::ds,ks,i,d,k,e,h1,h2=>by
  unfold x0S at e;split at e
  ·rename_i k' ce;split at e
   ·rename_i ks' h;cases e
    cases i with
    |zero=>simp at h1 h2;subst h1;subst h2;exact ce
    |succ i=>exact y6Q (i:=i) h (by simpa using h1) (by simpa using h2)
   ·cases e
  ·cases e
noncomputable def y0E{α:Type}(le:α->α->Bool)(kk:List α)(ds:List D):List D:=((kk.zip ds).mergeSort fun a b=>le a.1 b.1).map (·.2)
noncomputable def leI(a b:Int):Bool:=decide (a≤b)
def x7B(ks ds:List D):Option (List D):=if ds.length<64 then
  (match W8 ks with
  |some ns=>if ns.Nodup then some (y0E leI ns ds) else none
  |none=>(match z1J ks with|some nss=>if nss.Nodup then some (y0E leL nss ds) else none|none=>none))
 else none
def z5M(cap:List (Option Nat))(fa:EL)(fb:ED):EL:=fun ρ=>match fa ρ with
 |some ds=>(match x0S fb (y0T cap ρ) ds with|some ks=>x7B ks ds|none=>none)
 |none=>none
theorem z98{α:Type}{le:α->α->Prop}:∀{xs ys:List α},(∀a∈xs,∀b∈xs,le a b->le b a->a=b)->xs.Perm ys->xs.Pairwise le->ys.Pairwise le->(∀a,le a a)->xs=ys
 | [],ys,_,p,_,_,_=>(List.nil_perm.mp p).symm
 |x::xs,ys,cu,p,h1,h2,rf=>by
  cases ys with
  |nil=>exact absurd (List.perm_nil.mp p) (by simp)
  |cons y ys=>
   have hx:=Dc.mp h1;have hy:=Dc.mp h2
   have e:x=y:=by
    have m1:x∈y::ys:=p.mem_iff.mp A6;have m2:y∈x::xs:=p.mem_iff.mpr A6;refine cu x A6 y m2 ?_ ?_
    ·rcases Af.mp m2 with z|z
     ·rw[z];exact rf x
     ·exact hx.1 y z
    ·rcases Af.mp m1 with z|z
     ·rw[z];exact rf y
     ·exact hy.1 x z
   subst e;rw[z98 (fun a ha b hb=>cu a (A7 _ ha) b (A7 _ hb)) (List.perm_cons x |>.mp p) hx.2 hy.2 rf]
theorem x2L{α β:Type}:∀{kk:List α} {ds:List β},kk.Nodup->∀a∈kk.zip ds,∀b∈kk.zip ds,a.1=b.1->a=b
 | [],_,_,a,ha,_,_,_=>by simp at ha
 |_::_,[],_,a,ha,_,_,_=>by simp at ha
 |k::kk,d::ds,nd,a,ha,b,hb,e=>by
  rw[E8]at ha hb;have nd':=Bz.mp nd;rcases Af.mp ha with z|z
  ·rcases Af.mp hb with y|y
   ·rw[z,y]
   ·exfalso
    have:=(Hc y).1
    rw[←e,z]at this;exact nd'.1 this
  ·rcases Af.mp hb with y|y
   ·exfalso
    have:=(Hc z).1
    rw[e,y]at this;exact nd'.1 this
   ·exact x2L nd'.2 a z b y e
theorem x73{α β:Type}(dk:α)(dd:β):∀{kk:List α} {ds:List β},kk.length=ds.length->∀is:List Nat,(∀i∈is,i<kk.length)->(is.map fun i=>(kk.getD i dk,ds.getD i dd))=is.map fun i=>(kk.zip ds).getD i (dk,dd):=fun {kk ds} hl is hi=>by
 apply B7;intro i h;have h1:=hi i h
 have h2:i<ds.length:=by omega
 have e1:(kk.zip ds)[i]?=some (kk[i],ds[i]):=by rw[A3 (by rw[List.length_zip];omega),List.getElem_zip]
 rw[K4 (A3 h1),K4 (A3 h2),K4 e1]
theorem y8O{α:Type}{le:α->α->Bool}(tr:∀a b c,le a b=true->le b c=true->le a c=true)(tot:∀a b,(le a b||le b a)=true)(cu:∀a b,le a b=true->le b a=true->a=b){kk:List α}{ds:List D}{dk:α}(hl:kk.length=ds.length)(nd:kk.Nodup){p:Array Nat}(p1:p.size=kk.length)(p2:p.Perm (Bn (A9 kk.length)))(p3:Up (fun i j=>!le (kk.getD j dk) (kk.getD i dk)) p kk.length):(p.toList.map fun i=>ds.getD i .non)=y0E le kk ds:=by
 have pl:=z7B p2
 have e:(p.toList.map fun i=>ds.getD i .non)=(p.toList.map fun i=>(kk.getD i dk,ds.getD i .non)).map (·.2):=by rw[B6];rfl
 rw[e];unfold y0E;congr 1
 have hz:(kk.zip ds).length=kk.length:=by rw[List.length_zip];omega
 have pm:(p.toList.map fun i=>(kk.getD i dk,ds.getD i .non)).Perm (kk.zip ds):=by rw[x73 dk D.non hl _ pl];exact w2G (us:=kk.zip ds) (by rw[hz];exact p2)
 have up:((kk.zip ds).mergeSort fun a b=>le a.1 b.1).Pairwise fun a b=>le a.1 b.1=true:=Ds (le:=fun a b:α×D=>le a.1 b.1) (fun a b c=>tr _ _ _) (fun a b=>tot _ _) _
 refine z98 (le:=fun a b:α×D=>le a.1 b.1=true) (fun a ha b hb h1 h2=>x2L nd a (pm.mem_iff.mp ha) b (pm.mem_iff.mp hb) (cu _ _ h1 h2)) (pm.trans (Dh _ _).symm) ?_ up (fun a=>by
  have:=tot a.1 a.1
  simpa using this)
 rw[Bu]
 exact(z5T p1 p3).imp fun h=>by simpa using h
theorem w02(a b c:Int)(h1:leI a b=true)(h2:leI b c=true):leI a c=true:=by
 have:=of_decide_eq_true h1
 have:=of_decide_eq_true h2
 exact decide_eq_true (by omega)
theorem x4K(a b:Int):(leI a b||leI b a)=true:=by
 unfold leI;by_cases h:a≤b
 ·simp[h]
 ·simp;omega
theorem x88(a b:Int)(h1:leI a b=true)(h2:leI b a=true):a=b:=by
 have:=of_decide_eq_true h1
 have:=of_decide_eq_true h2
 omega
theorem w01(a b c:List Int)(h1:leL a b=true)(h2:leL b c=true):leL a c=true:=by unfold leL at h1 h2 ⊢;simp only[F6]at h1 h2 ⊢;exact z56 a b c h1 h2
theorem x4J(a b:List Int):(leL a b||leL b a)=true:=by
 unfold leL
 cases h:HT.lexLt b a with
 |false=>rfl
 |true=>rw[z57 b a h];rfl
theorem x87(a b:List Int)(h1:leL a b=true)(h2:leL b a=true):a=b:=by unfold leL at h1 h2;simp only[F6]at h1 h2;exact y2N a b h2 h1
theorem y8P{α:Type}{le:α->α->Bool}(tr:∀a b c,le a b=true->le b c=true->le a c=true)(tot:∀a b,(le a b||le b a)=true)(kk:List α)(dk:α):KOrd (fun i j=>!le (kk.getD j dk) (kk.getD i dk)):=by
 refine⟨fun i j h=>?_,fun i j k h1 h2=>?_⟩
 ·simp only[F6,Bool.not_eq_false']at h ⊢
  have:=tot (kk.getD i dk) (kk.getD j dk)
  rw[h,Ii]at this;exact this
 ·simp only[Bool.not_eq_false']at h1 h2 ⊢;exact tr _ _ _ h1 h2
theorem x77{af:Array A8}{n:Nat}(aP:ItemsOf (fun i v=>∃t,v = .int (0+(i:Int)*1) t) af n):Y3 ((iUp 0 n).map V.int) af.toList:=by
 have hv:∀(n:Nat) (af:List A8) (lo:Nat),af.length=n->(∀(i:Nat) v,af[i]?=some v->∃t,v = .int ((lo+i:Nat):Int) t)->Y3 ((A9 n).map fun (k:Nat)=>V.int ((lo+k:Nat):Int)) af:=by
  intro n
  induction n with
  |zero=>intro af lo hl _;cases af with|nil=>exact .nil|cons _ _=>cases hl
  |succ n ih=>
   intro af lo hl hg
   cases af with
   |nil=>cases hl
   |cons x af=>
    rw[Fv,Ai];refine .cons ?_ ?_
    ·obtain⟨t,e⟩:=hg 0 x rfl;exact⟨t,e⟩
    ·rw[B6]
     refine Eq.mp (congrArg (fun l=>Y3 l af) (B7 fun k _=>?_)) (ih af (lo+1) (by simpa using hl) fun i v hv=>by
      obtain⟨t,e⟩:=hg (i+1) v (by simpa using hv);refine⟨t,?_⟩;rw[e];congr 2
      omega)
     simp only[Jt];congr 2;omega
 have:=hv n af.toList 0 (by simpa using aP.1) fun i v e=>by obtain⟨t,e'⟩:=aP.2 i v (by simpa using e);exact⟨t,by rw[e'];congr 1;omega⟩
 unfold iUp;rw[B6];refine Eq.mp (congrArg (fun l=>Y3 l af.toList) (B7 fun k _=>?_)) this;simp only[Jt];congr 1
theorem x8B{prog:Bo}{w:C8}{A:By}{s:Ah}{R:Js->Ah->Prop}{r:Ap}{j:Int}{t u v:M6}(hh:A.handled=none)(hr:IsRange s.heap r 0 j 1 t u v)(h1 : -(2 ^ 62)≤j)(h2:j≤100000)(S:Ap)(c₀:Nat)(hS:s.heap.get? S=some { cls:=.type "list",data:=.seq #[] c₀ })(hR:∀h' tk aM c',(∀b o,b≠S->s.heap.get? b=some o->h'.get? b=some o)->h'.get? S=some { cls:=.type "list",dict:=none,data:=.seq aM c',slots:=#[] }->ItemsOf (fun i v=>∃t,v = .int (0+(i:Int)*1) t) aM j.toNat->R (.ok (.ret (.ref S))) { s with heap:=h',toks:=tk }):
  Dl (B3 prog w) A (.builtin "list.__iadd__" ⟨[.ref S,.ref r],[]⟩) R s:=by
 have hn:Hj 0 j 1=((j.toNat:Nat):Int):=by rw[Lg];split<;>omega
 refine codeAny_builtin F.entry_list_iadd ?_;rw[Bx F.plain_list_iadd _];exact wpAny_extend_range hh hr (small_one (by omega) (by omega) h1 (by omega)) hn (by omega) S (.ref S) c₀ hS hR
theorem y77{prog:Bo}{w:C8}{A:By}{E:VP}{s:Ah}{r:Ap}{j:Int}{t u v:M6}{Q:List A8->Ah->Prop}(hh:A.handled=none)(hr:IsRange s.heap r 0 j 1 t u v)(h1 : -(2 ^ 62)≤j)(h2:j≤100000)(hQ:∀its h' tk,Y3 ((iUp 0 j.toNat).map V.int) its->(∀b o,s.heap.get? b=some o->h'.get? b=some o)->s.heap.objs.size≤h'.objs.size->Q its { s with heap:=h',toks:=tk }):Aq (B3 prog w) A (Ly (.ref r)) Q E s:=by
 unfold Ly;refine A4 (L1 (codeAny_builtin F.entry_proto_collect ?_));rw[Bx F.plain_proto_collect _];show Aq _ A.in1 (newList [] >>= fun l=>Lh (.builtin "list.__iadd__" ⟨[l,.ref r],[]⟩)) _ _ s;refine A4 (Cb ?_);have k1:∀b o,s.heap.get? b=some o->(s.heap.push { cls:=.type "list",data:=.seq ([]:List A8).toArray }).get? b=some o:=fun b o e=>Aa _ e
 refine wpAny_pure ⟨plainId_quiet F.plain_list_iadd _,x8B hh (k1 _ _ hr) h1 h2 s.heap.objs.size 0 (At _ rfl) fun h' tk aM c' hk hS' aP=>?_⟩;show Aq _ A (load s.heap.objs.size >>= _) _ _ _;refine A4 (Mb hS' ?_);exact wpAny_pure (hQ aM.toList h' tk (x77 aP) (fun b o e=>hk b o (Ar (Am e)) (k1 b o e)) (D8 (Am hS')))
def w8L(X:Cx)(Z:List Ap)(H:Hp)(a:Ap)(xs:List V):Prop:=SqL X.K H a xs∨SqT X.K (J3 Z H) a xs∨(X.calm=true/\∃j:Int,H a=some (.rng 0 j)/\-(2 ^ 62)≤j/\j≤100000/\xs=(iUp 0 j.toNat).map V.int)
def tV(X:Cx)(f:EL):TE:=fun σ H Q=>∃ρ ds B H0 V0 Z,f ρ=some ds/\SR X.K B H0 V0 H Z σ ρ/\∀(a:Ap) (xs:List V) (H':Hp),j6 H H'->w8L X Z H' a xs->j7 X.K (J3 Z H') ds xs->Q (.ref a) H'
abbrev SV(X:Cx)(e:Expr)(f:EL):Prop:=PE X e (tV X f)
theorem w8U{X:Cx}{e:Expr}{f:EL}(h:SQ X e f):SV X e f:=u7 h fun σ H Q ⟨ρ,ds,B,H0,V0,Z,e1,r,q⟩=>
 ⟨ρ,ds,B,H0,V0,Z,e1,r,fun a xs H' s hq rr=>q a xs H' s (hq.elim .inl fun z=>.inr (.inl z)) rr⟩
theorem w40{X:Cx}{p2 aJ:F2}{a:Expr}{fa:ED}(hc:X.calm=true)(dm:X.mg "range" = none)(h:SE X a fa)(ip:Gl X "range":=by rfl)(gy:B5 "range" = some (.type "range"):=by decide +kernel)(he:Ac [a] X.env=(false,C0 a X.env)::Ac [] X.env:=by exact v5 rfl)(ah:(Bs aJ (Ac [] X.env)).any (·.1)=false:=by exact j8 rfl):SV X (.Call (.Name "range" p2) [a] [] aJ) (Y7 fa):=
 u7 (z0M y0D ip dm gy (g9 h Y0 he) (by decide) (by decide) he ah) fun σ H Q h_=>by
  refine ex6 h_ fun ρ d B H0 V0 Z e r q=>?_;unfold Y7 at e;split at e
  ·rename_i j ej;split at e
   ·rename_i hj;cases e;refine⟨ρ,_,B,H0,V0,Z,ej,r,fun v H' s rr=>?_⟩
    obtain rfl:=w6.mp rr
    refine⟨j,rfl,fun p1 ff=>?_⟩;exact q p1 _ _ (s.trans (j4 ff)) (.inr (.inr ⟨hc,j,x9,hj.1,hj.2,rfl⟩)) (Q8.mpr rfl)
   ·cases e
  ·cases e
section
variable{X:Cx}{e body:Expr}{params:Ja}{scope:Scope}{lp kp p pos:F2}{fa:EL}{fb:ED}
theorem y3V{x pn:Bb}{k:Nat}(N:List Bb)(cap:List (Option Nat))(hm:X.mg "sorted" = none)(bm:BmAt X.K X.mg)(hl:z9Q X.K X.env.code x=true)(hr:Room (k+3) X.A)(ha:SV X e fa)(he:∀A' cl f cd s H,Room k (z8I X A' N (X.env.qual++"<lambda>") scope cl f cd s H).A->SE (z8I X A' N (X.env.qual++"<lambda>") scope cl f cd s H) body fb)(hok:x0W scope X.env.scope N cap X.N=true:=by rfl)(h0:cap[0]?=some none:=by rfl)(hp:N[0]?=some pn:=by rfl)(ah:scope.names.lookup pn=some .local:=by rfl)(dn:scope.isCoroutine=false:=by rfl)(bQ:scope.isGenerator=false:=by rfl)(hq:X.env.qual=x++".<locals>.":=by rfl)(bO:Ko params X.env=([],[]):=by rfl)(hb:∀(cl:List (Bb×Ap)) (av pm:A8) (c:Ap) (ct u:A8),Ge (Hw "<lambda>" (X.env.qual++"<lambda>") params (.expr body) scope cl .none av pm (.ref c) ct) ⟨[u],[]⟩=Ck [(pn,u)]:=by intros;rfl)(hg:Gl X "sorted":=by rfl)(hv:B5 "sorted" = some (.builtin "sorted"):=by decide +kernel)(hs:Ac [e] X.env=(false,C0 e X.env)::Ac [] X.env:=by exact v5 rfl):
  SF X (.Call (.Name "sorted" p) [e] [⟨some "key",.Lambda params body scope lp,kp⟩] pos) (z5M cap fa fb):=by
 intro aa s σ H Q I h;have C:=y9R hok;obtain⟨ρ,es,B,H0,V0,Z,e1,r,q⟩:=h;unfold z5M at e1;split at e1
 ·rename_i ds aD;split at e1
  ·rename_i ks je;refine E7 (z37 I hg hm hv ?_ (by decide) (by decide))
   have bX:Bs pos (Ac [e] X.env)=(false,C0 e X.env)::Bs pos (Ac [] X.env):=by rw[hs];rfl
   refine Fc ?_ bX (by rw[bX];rfl)
   refine z14 (g9 ha Y0 hs pos aa s σ H (fun vs H1=>∃a xs,vs=[.ref a]/\j6 H H1/\w8L X Z H1 a xs/\j7 X.K (J3 Z H1) ds xs) I ⟨ρ,ds,B,H0,V0,Z,aD,r,fun a xs H1 s1 hq rr=>⟨a,xs,rfl,s1,hq,rr⟩⟩) fun us s1 vs H1 I1 gn ⟨a,xs,dN,cG,gC,rr⟩=>?_;subst dN;obtain⟨u,rfl,ru⟩:=z3K gn;cases ru;have R1:=r.mono cG;obtain⟨cl,ay,hc1,bf⟩:=y9N (env:=X.env) (scope:=scope) fun y hy hf=>I1.ok.has y.1 (C.out y hy hf)
   show Aq _ _ (evalAll ((do let v ←C0 (.Lambda params body scope lp) X.env;Jk pos;Ck v)::[])) _ _ s1
   refine Fx (A4 (x9W I1 R1.tb bm hl hq ay bO fun f c oc ws t av pm ct s2 H2 aT I2 hfc hd hws=>A4 (G7 (wpAny_pure (Hx ?_)))));show Aq _ _ (call (.builtin "sorted") [.ref a] [(Bq "key",.ref f)]) _ _ s2;have l1:=rr.length;have l3:=y2L je;unfold x7B at e1;split at e1
   ·rename_i fB;generalize cF:y4M (X.env.qual++"<lambda>") params body scope cl av pm c ct=fo at I2
    have xl:xs.length<64:=by omega
    have col:∀{E':VP} {Q':List A8->Ah->Prop},(∀its h' tk,Y3 xs its->(∀b o,s2.heap.get? b=some o->h'.get? b=some o)->s2.heap.objs.size≤h'.objs.size->Q' its { s2 with heap:=h',toks:=tk })->Aq (B3 X.prog X.w) X.A.in1 (Ly (.ref a)) Q' E' s2:=fun {E' Q'} z=>by
     have ext:∀its:List A8,(∀b o,s2.heap.get? b=some o->((s2.heap.push (Be "list" #[] 0)).update s2.heap.objs.size (Ca (·++its.toArray))).get? b=some o)/\s2.heap.objs.size≤((s2.heap.push (Be "list" #[] 0)).update s2.heap.objs.size (Ca (·++its.toArray))).objs.size:=fun its=>
      ⟨fun b o y=>(B8 _ _ (Cl (Ar (Am y)))).trans (Aa _ y),by rw[Gp,Lr];exact Dq _⟩
     rcases gC with y|y|⟨hc,j,hj,j1,j2,rfl⟩
     ·obtain⟨its,rv,pl,_⟩:=I2.list (aT.seq y);have l2:=rv.length;exact collect_list pl.isList (z its _ s2.toks rv (ext its).1 (ext its).2) (by rw[C3];omega)
     ·obtain⟨its,rv,pl,_⟩:=I2.tuple (u9 (x4.trans aT) y);have l2:=rv.length;exact y1N pl (z its _ s2.toks rv (ext its).1 (ext its).2) (by rw[C3];omega)
     ·obtain⟨t',u',v',ho⟩:=(show z1D X.prog X.w H2 s2.heap a (.rng 0 j) from I2.hok a _ (aT _ _ hj));exact y77 (show X.A.in1.handled=none from I2.ok.hd hc) ho j1 j2 z
    refine PyProof.Rows.call_function_entry_kw kind_sorted plain_sorted entry_sorted (ksk_s1 _ _) ?_;unfold Df.«sorted»;refine A4 (m:=checkCount "sorted" 1 1 _) (wpAny_pure ?_);refine A4 (col fun its h' tk rv ce cM=>?_);have l2:=rv.length
    have hz:its.length≤sizeLine:=by rw[C3];omega
    refine A4 (Hb ?_ hz);have g2:(h'.push (Be "list" its.toArray 0)).get? h'.objs.size=some (Be "list" its.toArray 0):=At h' (o:=Be "list" its.toArray 0) rfl;have g3:∀b o,s2.heap.get? b=some o->(h'.push (Be "list" its.toArray 0)).get? b=some o:=fun b o z=>Aa _ (ce b o z)
    have I3:Inv X ((h'.objs.size,Be "list" its.toArray 0)::(f,fo)::aa) σ H2 { s2 with heap:=h'.push (Be "list" its.toArray 0),toks:=tk }:=Inv.pin1 (I2.kept (t':=tk) g3) g2 (I2.hok.fresh cM) (D0 (Bg I2.lt cM)) (I2.nofs cM) (fun v z=>by cases z)
    have jq:∀y c',X.env.cells.lookup y=some c'->c'<h'.objs.size:=fun y c' z=>by obtain⟨v,o,ho,_⟩:=I2.cell y c' z;exact Bg (Am ho) cM
    have hZ:∀w∈X.pn++(f,fo)::aa,w.1<h'.objs.size:=fun w z=>Bg (Am (I2.pin w z).1) cM
    have turn:∀(i:Nat) (u:A8) (d:D),its[i]?=some u->ks[i]?=some d->∀(more:Pns) (H3:Hp) (s3:Ah),j6 H2 H3->Inv X (more++(f,fo)::aa) σ H3 s3 ->
      Aq (B3 X.prog X.w) X.A.in1.in1 (call (.ref f) [u]) (EP X (more++(f,fo)::aa) σ fun k' H4=>j6 H3 H4/\Rep X.K (J3 Z H4) d k') (fun _ _=>False) s3:=fun i u d hu gw more H3 s3 bo I4=>by
     have hi:i<its.length:=(An.mp hu).1;have eB:ds[i]?=some ds[i]:=A3 (by omega);obtain⟨v,cv,rv0⟩:=(rr.mono (y8 (aT.trans bo))).get eB;obtain⟨u',hu',ru⟩:=rv.get cv;rw[hu]at hu';cases hu';have jw:s3.heap.get? f=some fo:=(I4.pin (f,fo) (Ab _ (Ab _ A6))).1;rw[←cF]at jw;obtain⟨uu,fS⟩:=hfc;have gG:Room (k+1) X.A.in1.in1:=(Room.in1 (Room.in1 hr))
     exact y92 (te:=tD X.K fb) I4 I.ok.frames (gG.mono (Bf _)) jw ⟨uu,bo _ _ fS⟩ hd hws C.kind C.cell dn bQ hc1 bf C.fre
      (fun i j z=>let ⟨y,n1,n2,n3⟩:=C.sel i j z;⟨y,n1,n2,n3,C.out _ (Bt n3) rfl⟩) C.len h0 hp ah ru (hb cl av pm c ct u) (he _ _ _ _ _ _ (gG.deeper _))
      ⟨(y0T cap ρ).set 0 (some (.sh ds[i])),d,B,H0,V0,Z,y6Q je eB gw,((z97 C.inj (r.mono (cG.trans (aT.trans bo)))).set rv0),fun w H4 gZ rw'=>⟨gZ,rw'⟩⟩
    have fin:∀{dy:List D},dy=es->∀(pp:Array Nat) (H3:Hp) (s3:Ah),pp.size=its.length->pp.Perm (Bn (A9 its.length))->(pp.toList.map fun i=>ds.getD i .non)=dy->j6 H2 H3->H3 (h'.objs.size)=none ->
      Inv X ((f,fo)::aa) σ (upd H3 (h'.objs.size) (.lst (pp.toList.map fun i=>xs.getD i .non))) s3->EP X aa σ Q (.ref (h'.objs.size)) s3:=fun {dy} ee pp H3 s3 z1 z2 z3 bo hn I4=>by
     have pl:=z7B z2;have gZ:=cG.trans (aT.trans bo);have hn0:H (h'.objs.size)=none:=gZ.free hn;refine⟨.ref (h'.objs.size),_,Inv.tail I4,rfl,q _ _ _ (gZ.trans (j4 hn)) hn0 x9 ?_⟩;rw[←ee,←z3];exact(w1Q (rr.mono (y8 (aT.trans bo))) _ fun i hi=>by have:=pl i hi;omega).mono (z0O hn (j4 hn))
    refine A4 (Cr (wpAny_call_entry_kw slot_list_sort ⟨_,g2,rfl⟩ entry_list_sort ?body (ksk_l1 _ _)))
    case body=>
     show Aq (B3 X.prog X.w) X.A.in1.in1 (Df.«list.sort» ⟨[.ref (h'.objs.size)],[(Bq "key",.ref f)]⟩) _ _ _;rw[ksk_t1];have h0':X.s₀.heap.objs.size≤h'.objs.size:=Bk I2.sz cM;split at e1
     ·rename_i ns hn;split at e1
      ·rename_i nd;cases e1;have bZ:=W3 hn
       have iu:ns.length=its.length:=by rw[bZ,A0]at l3;omega
       refine y88 (κ:=oneType') (y8P w02 x4K ns 0) I3 (by omega) (by omega) rv h0' jq hZ turn (fun more H3 s3 kx kvs bo I4 rk cZ g Q' q'=>?_) (fun more H3 s3 kx kvs bo I4 rk cZ i j hi hj C' hC=>?_)
        (fun pp H3 s3 z1 z2 z3 bo bj I4=>⟨_,rfl,wpAny_pure ⟨_,rfl,fin rfl pp H3 s3 z1 z2 (y8O w02 x4K x88 (by omega) nd (by omega) (by rw[iu];exact z2) (by rw[iu];exact z3)) bo bj I4⟩⟩)
       ·rw[bZ,Q8]at cZ;subst cZ;have hi:C4 kvs ns:=Y1 rk;rw[y4N hi g];exact wpAny_pure q'
       ·rw[bZ,Q8]at cZ;subst cZ;have hI:C4 kvs ns:=Y1 rk;obtain⟨ti,ei⟩:=y31 hI hi;obtain⟨tj,ej⟩:=y31 hI hj;rw[ei,ej,keyLt'_oneType];refine oneLt_int ?_
        have:(!leI (ns.getD j 0) (ns.getD i 0))=decide (ns.getD i 0<ns.getD j 0):=by
         unfold leI;by_cases z:ns.getD i 0<ns.getD j 0
         ·rw[decide_eq_true z,decide_eq_false (by omega)];rfl
         ·rw[decide_eq_false z,decide_eq_true (by omega)];rfl
        rw[this]at hC;exact hC
      ·cases e1
     ·split at e1
      ·rename_i nss hn;split at e1
       ·rename_i nd;cases e1;obtain⟨bZ,ag⟩:=z3M hn
        have iu:nss.length=its.length:=by rw[bZ,A0]at l3;omega
        refine y88 (κ:=tuples' (Cf "int" != Cf "tuple")) (y8P w01 x4J nss []) I3 (by omega) (by omega) rv h0' jq hZ turn (fun more H3 s3 kx kvs bo I4 rk cZ g Q' q'=>?_) (fun more H3 s3 kx kvs bo I4 rk cZ i j hi hj C' hC=>?_)
         (fun pp H3 s3 z1 z2 z3 bo bj I4=>⟨_,rfl,wpAny_pure ⟨_,rfl,fin rfl pp H3 s3 z1 z2 (y8O w01 x4J x87 (by omega) nd (by omega) (by rw[iu];exact z2) (by rw[iu];exact z3)) bo bj I4⟩⟩)
        ·rw[bZ]at cZ;obtain⟨fs,t1,t2,t3⟩:=x4W I4 (fun _ _ z=>z) ag (cZ.mono x4) rk;refine kat_kind t1 (by omega) (fun v hv=>?_) rfl q';obtain⟨n,t,rfl⟩:=t3 v hv;exact Looks.of_pure rfl
        ·rw[bZ]at cZ;have im:=cZ.mono (x4 (Z:=Z));have lk1:=cZ.length;have lk2:=rk.length;rw[A0]at lk1
         have gi:i<nss.length:=by omega
         have gj:j<nss.length:=by omega
         obtain⟨xi,f1,r1⟩:=im.get (i:=i) (d:=D.tup (nss[i].map D.int)) (by rw[Au,A3 gi];rfl)
         obtain⟨xj,f2,r2⟩:=im.get (i:=j) (d:=D.tup (nss[j].map D.int)) (by rw[Au,A3 gj];rfl)
         obtain⟨ui,k1,s1'⟩:=rk.get f1;obtain⟨uj,k2,s2'⟩:=rk.get f2;obtain⟨ai,oi,ji,ni,rfl,iW,fE,hdi,ii⟩:=z95 I4 r1 s1';obtain⟨aj,oj,jj,nj,rfl,hoj,hcj,hdj,ij⟩:=z95 I4 r2 s2';rw[K4 k1,K4 k2];rw[K4 (A3 gi),K4 (A3 gj)]at hC
         have:(!leL nss[j] nss[i])=HT.lexLt nss[i] nss[j]:=by unfold leL;rw[Bool.not_not]
         rw[this]at hC;refine kat_lt iW hdi hoj hdj (y6S ii ij 0 _ ?_ hC);have a1:=ii.length;have a2:=ij.length;rw[B4]at a1 a2;rw[a1,a2]
       ·cases e1
      ·cases e1
   ·cases e1
  ·cases e1
 ·cases e1
theorem x2H{x pn:Bb}{k:Nat}(N:List Bb)(cap:List (Option Nat))(hm:X.mg "sorted" = none)(bm:BmAt X.K X.mg)(hl:z9Q X.K X.env.code x=true)(hr:Room (k+3) X.A)(ha:ZQ X e fa)(he:∀A' cl f cd s H,Room k (z8I X A' N (X.env.qual++"<lambda>") scope cl f cd s H).A->ZE (z8I X A' N (X.env.qual++"<lambda>") scope cl f cd s H) body fb)(hok:x0W scope X.env.scope N cap X.N=true:=by rfl)(h0:cap[0]?=some none:=by rfl)(hp:N[0]?=some pn:=by rfl)(ah:scope.names.lookup pn=some .local:=by rfl)(dn:scope.isCoroutine=false:=by rfl)(bQ:scope.isGenerator=false:=by rfl)(hq:X.env.qual=x++".<locals>.":=by rfl)(bO:Ko params X.env=([],[]):=by rfl)(hb:∀(cl:List (Bb×Ap)) (av pm:A8) (c:Ap) (ct u:A8),Ge (Hw "<lambda>" (X.env.qual++"<lambda>") params (.expr body) scope cl .none av pm (.ref c) ct) ⟨[u],[]⟩=Ck [(pn,u)]:=by intros;rfl)(hg:Gl X "sorted":=by rfl)(hv:B5 "sorted" = some (.builtin "sorted"):=by decide +kernel)(hs:Ac [e] X.env=(false,C0 e X.env)::Ac [] X.env:=by exact v5 rfl):ZF X (.Call (.Name "sorted" p) [e] [⟨some "key",.Lambda params body scope lp,kp⟩] pos) (z5M cap fa fb):=
 ⟨have ha:=ha.h;
 have he:=fun A' cl f cd s H hr=>(he A' cl f cd s H hr).h;
 y3V N cap hm bm hl hr (w8U ha) he hok h0 hp ah dn bQ hq bO hb hg hv hs⟩
theorem y9Z{x pn:Bb}{k:Nat}{a:Expr}{fc:ED}{p2 aJ:F2}(N:List Bb)(cap:List (Option Nat))(jA:X.calm=true)(hm:X.mg "sorted" = none)(dm:X.mg "range" = none)(bm:BmAt X.K X.mg)(hl:z9Q X.K X.env.code x=true)(hr:Room (k+3) X.A)(ha:ZE X a fc)(he:∀A' cl f cd s H,Room k (z8I X A' N (X.env.qual++"<lambda>") scope cl f cd s H).A->ZE (z8I X A' N (X.env.qual++"<lambda>") scope cl f cd s H) body fb)(hok:x0W scope X.env.scope N cap X.N=true:=by rfl)(h0:cap[0]?=some none:=by rfl)(hp:N[0]?=some pn:=by rfl)(ah:scope.names.lookup pn=some .local:=by rfl)(dn:scope.isCoroutine=false:=by rfl)(bQ:scope.isGenerator=false:=by rfl)(hq:X.env.qual=x++".<locals>.":=by rfl)(bO:Ko params X.env=([],[]):=by rfl)(hb:∀(cl:List (Bb×Ap)) (av pm:A8) (c:Ap) (ct u:A8),Ge (Hw "<lambda>" (X.env.qual++"<lambda>") params (.expr body) scope cl .none av pm (.ref c) ct) ⟨[u],[]⟩=Ck [(pn,u)]:=by intros;rfl)(hg:Gl X "sorted":=by rfl)(hv:B5 "sorted" = some (.builtin "sorted"):=by decide +kernel)(ip:Gl X "range":=by rfl)(gy:B5 "range" = some (.type "range"):=by decide +kernel)(bH:Ac [a] X.env=(false,C0 a X.env)::Ac [] X.env:=by exact v5 rfl)(dF:(Bs aJ (Ac [] X.env)).any (·.1)=false:=by exact j8 rfl)(hs:Ac [.Call (.Name "range" p2) [a] [] aJ] X.env=(false,C0 (.Call (.Name "range" p2) [a] [] aJ) X.env)::Ac [] X.env:=by exact v5 rfl):ZF X (.Call (.Name "sorted" p) [.Call (.Name "range" p2) [a] [] aJ] [⟨some "key",.Lambda params body scope lp,kp⟩] pos) (z5M cap (Y7 fc) fb):=
 ⟨have ha:=ha.h;
 have he:=fun A' cl f cd s H hr=>(he A' cl f cd s H hr).h;
 y3V N cap hm bm hl hr (w40 jA dm ha ip gy bH dF) he hok h0 hp ah dn bQ hq bO hb hg hv hs⟩
end
def Y2(gt:Nat->Nat->Bool):Nat->Nat->Nat->Nat
 | 0,_,b=>b
 |r+1,j,b=>Y2 gt r (j+1) (if gt j b=true then j else b)
section
variable{X:Cx}{aa:Pns}{σ:St}{H:Hp}{s:Ah}
theorem Inv.swap{p q:Ap×Ji}(J:Inv X (p::q::aa) σ H s):Inv X (q::p::aa) σ H s:=J.pins_of fun r z=>J.pin r (Ab _ (by
 rcases Af.mp z with z|z
 ·rw[z];exact A7 _ A6
 ·rcases Af.mp z with z|z
  ·rw[z];exact A6
  ·exact A7 _ (A7 _ z)))
theorem Inv.repin'{b:Ap}{o o':Ji}{h':C5}{t':Nat}(J:Inv X ((b,o)::aa) σ H s)(hk:∀c u,c≠b->s.heap.get? c=some u->h'.get? c=some u)(ho:h'.get? b=some o')(h0:X.s₀.heap.objs.size≤b)(hc:∀x c,X.env.cells.lookup x=some c->c≠b)(hp:∀p∈X.pn++aa,p.1≠b)(hd:∀v,o'.data≠.cell v):Inv X ((b,o')::aa) σ H { s with heap:=h',toks:=t' }:=by obtain⟨_,p2,p3,p4,_⟩:=J.pin (b,o) (Ab _ A6);exact Inv.pin1 ((Inv.tail J).turned (h':=h') (t':=t') (fun c u ne e=>hk c u ne e) p2 p3 (.inr h0) hc hp) ho p2 p3 p4 hd
theorem Inv.gone{b:Ap}{o:Ji}{h':C5}{t':Nat}(J:Inv X ((b,o)::aa) σ H s)(hk:∀c u,c≠b->s.heap.get? c=some u->h'.get? c=some u)(h0:X.s₀.heap.objs.size≤b)(hc:∀x c,X.env.cells.lookup x=some c->c≠b)(hp:∀p∈X.pn++aa,p.1≠b):Inv X aa σ H { s with heap:=h',toks:=t' }:=by obtain⟨_,p2,p3,p4,_⟩:=J.pin (b,o) (Ab _ A6);exact(Inv.tail J).turned (h':=h') (t':=t') (fun c u ne e=>hk c u ne e) p2 p3 (.inr h0) hc hp
structure Src(X:Cx)(aa:Pns)(σ:St)(H:Hp)(A:By)(it ax:Ap)(xs:List V)(Φ:Nat->Ji->Prop)(Sx:Nat->C5->Prop):Prop where
 W:M4 X.prog X.w A it [it,ax] [it] xs.length (fun i v=>∃x,xs[i]?=some x/\z01 x v) Sx
 to:∀(i:Nat) (o:Ji) (more:Pns) (H1:Hp) (s1:Ah),j6 H H1->Inv X (more++aa) σ H1 s1->s1.heap.get? it=some o->Φ i o->Sx i s1.heap
 of:∀i h,Sx i h->∃o,h.get? it=some o/\Φ i o
 nc:∀i o v,Φ i o->o.data≠.cell v
variable{A:By}{E:VP}
def w0P(X:Cx)(aa:Pns)(σ:St)(H:Hp)(A:By)(Z:List Ap)(aE:A8)(xs:List V)(kds:List D):Prop:=
 ∀(i:Nat) (x:V) (u:A8) (d:D),xs[i]?=some x->z01 x u->kds[i]?=some d->∀(more:Pns) (H1:Hp) (s1:Ah),j6 H H1->Inv X (more++aa) σ H1 s1 ->
   Aq (B3 X.prog X.w) A (call aE [u]) (EP X (more++aa) σ fun k H2=>j6 H1 H2/\Rep X.K (J3 Z H2) d k) (fun _ _=>False) s1
def z30(X:Cx)(aa:Pns)(σ:St)(H:Hp)(A:By)(Z:List Ap)(kds:List D)(gt:Nat->Nat->Bool):Prop:=
 ∀(more:Pns) (H1:Hp) (s1:Ah),j6 H H1->Inv X (more++aa) σ H1 s1->∀(i j:Nat) (di dj:D) (x y:V) (u v:A8),kds[i]?=some di->kds[j]?=some dj->Rep X.K (J3 Z H1) di x->Rep X.K (J3 Z H1) dj y->z01 x u->z01 y v ->
  ∀(Q:VP) (E:VP),Q (.bool (gt i j)) s1->Aq (B3 X.prog X.w) A (Dz .Gt u v) Q E s1
theorem x84{it S ax:Ap}{xs:List V}{Φ:Nat->Ji->Prop}{Sx:Nat->C5->Prop}{aE:A8}{kw:List (Bb×A8)}{kds:List D}{Z:List Ap}{gt:Nat->Nat->Bool}{R:Js->Ah->Prop}(bh:(∃q,aE = .ref q)∨∃id,aE = .builtin id)(ab:kds.length=xs.length)(h0:X.s₀.heap.objs.size≤it)(h1:X.s₀.heap.objs.size≤S)(ag:S≠it)(hc:∀x c,X.env.cells.lookup x=some c->c≠it/\c≠S)(hp:∀p∈X.pn++aa,p.1≠it/\p.1≠S)(src:Src X aa σ H A.in1 it ax xs Φ Sx)(turn:w0P X aa σ H A.in1 Z aE xs kds)(cE:z30 X aa σ H A.in1 Z kds gt)(hR:∀b x v H1 s1,xs[b]?=some x->z01 x v->b=Y2 gt (xs.length-1) 1 0->j6 H H1->Inv X aa σ H1 s1->R (.ok (.ret v)) s1):
  ∀(r j b:Nat) (H1:Hp) (s1:Ah) (xb:V) (vb bq:A8) (kb:V) (db:D) (c:Nat) (oI:Ji),xs.length-j=r->j≤xs.length->Y2 gt r j b=Y2 gt (xs.length-1) 1 0->j6 H H1->Inv X ((S,Be "list" #[vb,bq] c)::(it,oI)::aa) σ H1 s1->Φ j oI ->
   xs[b]?=some xb->z01 xb vb->kds[b]?=some db->Rep X.K (J3 Z H1) db kb->z01 kb bq->Dl (B3 X.prog X.w) A (.builtin "max.loop" ⟨[.ref it,aE,.ref S],kw⟩) R s1:=by
 have aC:(Ee "max"++Ee ".loop":String) = "max.loop":=by decide
 have pS:∀(o:Ji),∀p∈X.pn++(it,o)::aa,p.1≠S:=fun o p z=>by
  rcases Aw.mp z with z|z
  ·exact(hp p (B9 _ z)).2
  ·rcases Af.mp z with z|z
   ·rw[z];exact Cl ag
   ·exact(hp p (Ab _ z)).2
 have pI:∀(o:Ji),∀p∈X.pn++(S,o)::aa,p.1≠it:=fun o p z=>by
  rcases Aw.mp z with z|z
  ·exact(hp p (B9 _ z)).1
  ·rcases Af.mp z with z|z
   ·rw[z];exact ag
   ·exact(hp p (Ab _ z)).1
 intro r
 induction r with
 |zero=>
  intro j b H1 s1 xb vb bq kb db c oI hr hj bB sm J hΦ hvb rxb bC rb rv
  have df:j=xs.length:=by omega
  have gS:s1.heap.get? S=some (Be "list" #[vb,bq] c):=(J.pin _ (Ab _ A6)).1;have gI:s1.heap.get? it=some oI:=(J.pin _ (Ab _ (A7 _ A6))).1
  have sx:Sx xs.length s1.heap:=by rw[←df];exact src.to j oI [(S,Be "list" #[vb,bq] c),(it,oI)] H1 s1 sm J gI hΦ
  refine codeAny_builtin Hy ?_;rw[Bx D1 _];show Aq _ A.in1 (G9 (.ref S) >>= _) _ _ _;refine A4 (Dk gS rfl ?_);show Aq _ A.in1 (Ed (Ic (.ref it)) _ >>= _) _ _ _;refine A4 (Cp (src.W.done _ _ _ sx fun h' cY ce=>?_));have gS':h'.get? S=some (Be "list" #[vb,bq] c):=ce S _ (by simpa using ag) gS
  have J1:Inv X ((S,Be "list" #[vb,bq] c)::aa) σ H1 { s1 with heap:=h',toks:=cY }:=Inv.gone (Inv.swap J) (fun c u ne e=>ce c u (by simpa using ne) e) h0 (fun x c e=>(hc x c e).1) (pI _);show Aq _ A.in1 (Gq S (fun _=>#[]) >>= _) _ _ _;refine A4 (E3 gS' rfl (A4 (E4 (wpAny_pure ?_))));have hb0:b=Y2 gt (xs.length-1) 1 0:=bB;exact hR b xb vb H1 _ hvb rxb hb0 sm (Inv.gone (t':=cY) J1 (fun c u ne e=>(B8 _ _ (Cl ne)).trans e) h1 (fun x c e=>(hc x c e).2) (fun p z=>(hp p z).2))
 |succ r ih=>
  intro j b H1 s1 xb vb bq kb db c oI hr hj bB sm J hΦ hvb rxb bC rb rv
  have al:j<xs.length:=by omega
  have gS:s1.heap.get? S=some (Be "list" #[vb,bq] c):=(J.pin _ (Ab _ A6)).1;have gI:s1.heap.get? it=some oI:=(J.pin _ (Ab _ (A7 _ A6))).1;have sx:Sx j s1.heap:=src.to j oI [(S,Be "list" #[vb,bq] c),(it,oI)] H1 s1 sm J gI hΦ;refine codeAny_builtin Hy ?_;rw[Bx D1 _]
  show Aq _ A.in1 (G9 (.ref S) >>= _) _ _ _;refine A4 (Dk gS rfl ?_);show Aq _ A.in1 (Ed (Ic (.ref it)) _ >>= _) _ _ _;refine A4 (Cp (src.W.item j _ _ _ al sx fun v h' cY hP fG ce=>?_));obtain⟨x,hv,rx⟩:=hP;obtain⟨cr,gI',gQ⟩:=src.of (j+1) h' fG;have J1:Inv X ((S,Be "list" #[vb,bq] c)::(it,cr)::aa) σ H1 { s1 with heap:=h',toks:=cY }:=Inv.swap (Inv.repin' (Inv.swap J) (fun c u ne e=>ce c u (by simpa using ne) e) gI' h0 (fun x c e=>(hc x c e).1) (pI _) (fun w=>src.nc _ _ w gQ))
  have eM:kds[j]?=some kds[j]:=A3 (by omega);have dD:Aq (B3 X.prog X.w) A.in1 (call aE [v]) (EP X ((S,Be "list" #[vb,bq] c)::(it,cr)::aa) σ fun k H2=>j6 H1 H2/\Rep X.K (J3 Z H2) kds[j] k) (fun _ _=>False) { s1 with heap:=h',toks:=cY }:=turn j x v _ hv rx eM [(S,Be "list" #[vb,bq] c),(it,cr)] H1 _ sm J1
  have dw:Aq (B3 X.prog X.w) A.in1 (Ed (Gb [v] (call aE [v])) fun e=>do
    Gq S fun _=>#[]
    letGo ([v]++[vb,bq].reverse) [e]
    throw e) (EP X ((S,Be "list" #[vb,bq] c)::(it,cr)::aa) σ fun k H2=>j6 H1 H2/\Rep X.K (J3 Z H2) kds[j] k) (fun _ _=>False) { s1 with heap:=h',toks:=cY }:=
   Cp (Cr (Ce dD (fun _ _ z=>z) fun _ _ z=>z.elim))
  have rest:∀(k:A8) (s2:Ah),EP X ((S,Be "list" #[vb,bq] c)::(it,cr)::aa) σ (fun k H2=>j6 H1 H2/\Rep X.K (J3 Z H2) kds[j] k) k s2 ->
    ∀(P:Ld->Ah->Prop) (E':VP),(∀s3,Dl (B3 X.prog X.w) A (.builtin "max.loop" ⟨[.ref it,aE,.ref S],kw⟩) R s3->P (.again (.builtin "max.loop" ⟨[.ref it,aE,.ref S],kw⟩)) s3) ->
    Aq (B3 X.prog X.w) A.in1 (do
     let better ←Ed (Gb [v,k] do
       let answer ←Dz .Gt k bq
       let yes ←Gb [answer] (M8 answer)
       letGo [answer]
       Ck yes) fun e=>do
      Gq S fun _=>#[]
      letGo ([k,v]++[vb,bq].reverse) [e]
      throw e
     if better then
      Gq S fun _=>#[v,k]
      letGo [bq,vb]
     else letGo [v,k]
     Ck (Iu (.builtin "max.loop" ⟨[.ref it,aE,.ref S],kw⟩))) P E' s2:=fun k s2 he P E' hP=>by
   obtain⟨kx,H2,J2,rk,aT,rd⟩:=he;refine A4 (Cp (Cr (A4 (cE [(S,Be "list" #[vb,bq] c),(it,cr)] H2 s2 (sm.trans aT) J2 j b _ _ kx kb k bq eM bC rd (rb.mono (y8 aT)) rk rv _ _ ?_))));refine A4 (Cr (Cm (A4 (E4 (wpAny_pure ?_)))));have iw:s2.heap.get? S=some (Be "list" #[vb,bq] c):=(J2.pin _ (Ab _ A6)).1
   have aU:Y2 gt r (j+1) (if gt j b=true then j else b)=Y2 gt (xs.length-1) 1 0:=bB
   cases hg:gt j b with
   |true=>rw[hg,if_pos rfl]at aU;simp only[if_true];obtain⟨c2,bf⟩:∃c2,(s2.heap.update S (Ca fun _=>#[v,k])).get? S=some (Be "list" #[v,k] c2):=⟨_,get?_update_seq iw fun _=>#[v,k]⟩;refine A4 (E3 iw rfl (A4 (E4 (wpAny_pure (hP _ ?_)))));refine ih (j+1) j H2 _ x v k kx _ c2 cr (by omega) al aU (sm.trans aT) ?_ gQ hv rx eM rd rk;exact Inv.repin' (t':=s2.toks) J2 (fun c u ne e=>(B8 _ _ (Cl ne)).trans e) bf h1 (fun x c e=>(hc x c e).2) (pS _) (fun w z=>by cases z)
   |false=>rw[hg,if_neg B0]at aU;simp only[E9,if_false];refine A4 (E4 (wpAny_pure (hP _ ?_)));exact ih (j+1) b H2 _ xb vb bq kb db c cr (by omega) al aU (sm.trans aT) J2 gQ hvb rxb bC (rb.mono (y8 aT)) rv
  rcases bh with⟨q,rfl⟩|⟨id,rfl⟩
  ·show Aq _ A.in1 (Ed (Gb [v] (call (.ref q) [v])) _ >>= _) _ _ _;refine A4 (Ce dw (fun k s2 he=>?_) fun _ _ z=>z.elim);refine rest k s2 he _ _ fun s3 z=>?_;exact⟨plainId_quiet D1 _,z⟩
  ·show Aq _ A.in1 (Ed (Gb [v] (call (.builtin id) [v])) _ >>= _) _ _ _;refine A4 (Ce dw (fun k s2 he=>?_) fun _ _ z=>z.elim);refine rest k s2 he _ _ fun s3 z=>?_;exact⟨plainId_quiet D1 _,z⟩
end
section
variable{X:Cx}{aa:Pns}{σ:St}{H:Hp}{s:Ah}{A:By}{E:VP}
theorem x4C{it S ax:Ap}{xs:List V}{Φ:Nat->Ji->Prop}{Sx:Nat->C5->Prop}{aE:A8}{kw:List (Bb×A8)}{kds:List D}{Z:List Ap}{gt:Nat->Nat->Bool}{R:Js->Ah->Prop}{c:Nat}{oI:Ji}(bh:(∃q,aE = .ref q)∨∃id,aE = .builtin id)(ab:kds.length=xs.length)(h0:X.s₀.heap.objs.size≤it)(h1:X.s₀.heap.objs.size≤S)(ag:S≠it)(hc:∀x c,X.env.cells.lookup x=some c->c≠it/\c≠S)(hp:∀p∈X.pn++aa,p.1≠it/\p.1≠S)(src:Src X aa σ H A.in1 it ax xs Φ Sx)(turn:w0P X aa σ H A.in1 Z aE xs kds)(cE:z30 X aa σ H A.in1 Z kds gt)(hR:∀b x v H1 s1,xs[b]?=some x->z01 x v->b=Y2 gt (xs.length-1) 1 0->j6 H H1->Inv X aa σ H1 s1->R (.ok (.ret v)) s1)(hE:xs=[]->∃x d,kw=[(x,d)]/\∀s1,Inv X aa σ H s1->R (.ok (.ret d)) s1)(J:Inv X ((S,Be "list" #[] c)::(it,oI)::aa) σ H s)(hΦ:Φ 0 oI):Dl (B3 X.prog X.w) A (.builtin "max.loop" ⟨[.ref it,aE,.ref S],kw⟩) R s:=by
 have aC:(Ee "max"++Ee ".loop":String) = "max.loop":=by decide
 have pS:∀(o:Ji),∀p∈X.pn++(it,o)::aa,p.1≠S:=fun o p z=>by
  rcases Aw.mp z with z|z
  ·exact(hp p (B9 _ z)).2
  ·rcases Af.mp z with z|z
   ·rw[z];exact Cl ag
   ·exact(hp p (Ab _ z)).2
 have pI:∀(o:Ji),∀p∈X.pn++(S,o)::aa,p.1≠it:=fun o p z=>by
  rcases Aw.mp z with z|z
  ·exact(hp p (B9 _ z)).1
  ·rcases Af.mp z with z|z
   ·rw[z];exact ag
   ·exact(hp p (Ab _ z)).1
 have gS:s.heap.get? S=some (Be "list" #[] c):=(J.pin _ (Ab _ A6)).1;have gI:s.heap.get? it=some oI:=(J.pin _ (Ab _ (A7 _ A6))).1;have sx:Sx 0 s.heap:=src.to 0 oI [(S,Be "list" #[] c),(it,oI)] H s (j6.refl H) J gI hΦ;refine codeAny_builtin Hy ?_;rw[Bx D1 _]
 show Aq _ A.in1 (G9 (.ref S) >>= _) _ _ _;refine A4 (Dk gS rfl ?_);show Aq _ A.in1 (Ed (Ic (.ref it)) _ >>= _) _ _ _
 cases gT:xs with
 |nil=>
  obtain⟨x,d,rfl,hd⟩:=hE gT
  have sx':Sx xs.length s.heap:=by rw[gT];exact sx
  refine A4 (Cp (src.W.done _ _ _ sx' fun h' cY ce=>?_));have J1:Inv X ((S,Be "list" #[] c)::aa) σ H { s with heap:=h',toks:=cY }:=Inv.gone (Inv.swap J) (fun c u ne e=>ce c u (by simpa using ne) e) h0 (fun x c e=>(hc x c e).1) (pI _);refine A4 (Kl (wpAny_pure ?_));exact hd _ (Inv.tail J1)
 |cons v0 vr=>
  have hn:0<xs.length:=by rw[gT];exact Nat.succ_pos _
  refine A4 (Cp (src.W.item 0 _ _ _ hn sx fun v h' cY hP fG ce=>?_));obtain⟨x,hv,rx⟩:=hP;obtain⟨cr,gI',gQ⟩:=src.of (0+1) h' fG;have J1:Inv X ((S,Be "list" #[] c)::(it,cr)::aa) σ H { s with heap:=h',toks:=cY }:=Inv.swap (Inv.repin' (Inv.swap J) (fun c u ne e=>ce c u (by simpa using ne) e) gI' h0 (fun x c e=>(hc x c e).1) (pI _) (fun w=>src.nc _ _ w gQ));have eM:kds[0]?=some kds[0]:=A3 (by omega)
  have dD:Aq (B3 X.prog X.w) A.in1 (call aE [v]) (EP X ((S,Be "list" #[] c)::(it,cr)::aa) σ fun k H2=>j6 H H2/\Rep X.K (J3 Z H2) kds[0] k) (fun _ _=>False) { s with heap:=h',toks:=cY }:=turn 0 x v _ hv rx eM [(S,Be "list" #[] c),(it,cr)] H _ (j6.refl H) J1
  have dw:Aq (B3 X.prog X.w) A.in1 (Ed (Gb [v] (call aE [v])) fun e=>do
    Gq S fun _=>#[]
    letGo ([v]++[].reverse) [e]
    throw e) (EP X ((S,Be "list" #[] c)::(it,cr)::aa) σ fun k H2=>j6 H H2/\Rep X.K (J3 Z H2) kds[0] k) (fun _ _=>False) { s with heap:=h',toks:=cY }:=
   Cp (Cr (Ce dD (fun _ _ z=>z) fun _ _ z=>z.elim))
  have rest:∀(k:A8) (s2:Ah),EP X ((S,Be "list" #[] c)::(it,cr)::aa) σ (fun k H2=>j6 H H2/\Rep X.K (J3 Z H2) kds[0] k) k s2 ->
    ∀(P:Ld->Ah->Prop) (E':VP),(∀s3,Dl (B3 X.prog X.w) A (.builtin "max.loop" ⟨[.ref it,aE,.ref S],kw⟩) R s3->P (.again (.builtin "max.loop" ⟨[.ref it,aE,.ref S],kw⟩)) s3) ->
    Aq (B3 X.prog X.w) A.in1 (do
     Gq S fun _=>#[v,k]
     Ck (Iu (.builtin "max.loop" ⟨[.ref it,aE,.ref S],kw⟩))) P E' s2:=fun k s2 he P E' hP=>by
   obtain⟨kx,H2,J2,rk,aT,rd⟩:=he;have iw:s2.heap.get? S=some (Be "list" #[] c):=(J2.pin _ (Ab _ A6)).1;obtain⟨c2,bf⟩:∃c2,(s2.heap.update S (Ca fun _=>#[v,k])).get? S=some (Be "list" #[v,k] c2):=⟨_,get?_update_seq iw fun _=>#[v,k]⟩;refine A4 (E3 iw rfl (wpAny_pure (hP _ ?_)));refine x84 bh ab h0 h1 ag hc hp src turn cE hR (xs.length-1) 1 0 H2 _ x v k kx _ c2 cr rfl hn rfl aT ?_ gQ hv rx eM rd rk
   exact Inv.repin' (t':=s2.toks) J2 (fun c u ne e=>(B8 _ _ (Cl ne)).trans e) bf h1 (fun x c e=>(hc x c e).2) (pS _) (fun w z=>by cases z)
  rcases bh with⟨q,rfl⟩|⟨id,rfl⟩
  ·show Aq _ A.in1 (Ed (Gb [v] (call (.ref q) [v])) _ >>= _) _ _ _;refine A4 (Ce dw (fun k s2 he=>?_) fun _ _ z=>z.elim);refine rest k s2 he _ _ fun s3 z=>?_;exact⟨plainId_quiet D1 _,z⟩
  ·show Aq _ A.in1 (Ed (Gb [v] (call (.builtin id) [v])) _ >>= _) _ _ _;refine A4 (Ce dw (fun k s2 he=>?_) fun _ _ z=>z.elim);refine rest k s2 he _ _ fun s3 z=>?_;exact⟨plainId_quiet D1 _,z⟩
theorem x02{it ax:Ap}{xs:List V}(hh:A.handled=none)(ag:ax≠it):M4 X.prog X.w A.in1 it [it,ax] [it] xs.length (fun i v=>∃x,xs[i]?=some x/\z01 x v) (fun i h=>h.IsListIter it ax i/\∃its:List A8,Y3 xs its/\h.IsList ax its.toArray) where
 sub:=fun b hb=>by simp at hb;simp[hb]
 frame:=fun _ _ _ st hk=>⟨st.1.at fun o e=>hk it (by simp) o e,let ⟨its,rv,hl⟩:=st.2;⟨its,rv,hl.at fun o e=>hk ax (by simp) o e⟩⟩
 item:=fun i s Q E hi st hQ=>by
  obtain⟨dS,its,rv,hl⟩:=st;have l:=rv.length
  have aO:i<its.length:=by omega
  obtain⟨u,hu,ru⟩:=rv.get (A3 hi);refine wpAny_pyNext_list_item dS hl (x:=u) (by simpa using hu) fun h' fO cR=>?_;exact hQ _ h' s.toks ⟨_,A3 hi,ru⟩ ⟨fO,its,rv,hl.extBut cR.extBut ag⟩ fun b o hb e=>cR.extBut b o (fun h=>hb (by simp[h])) e
 done:=fun s Q E st hQ=>by obtain⟨dS,its,rv,hl⟩:=st;have l:=rv.length;exact wpAny_pyNext_list_end (A:=A.in1) hh dS hl (by simp[l]) fun h' fJ=>hQ h' s.toks fun b o hb e=>fJ b o (fun h=>hb (by simp[h])) e
 self:=fun _ _ _ _ st hQ=>wpAny_pyIter_listiter st.1 hQ
theorem x2M{it ax:Ap}{xs:List V}(hh:A.handled=none)(ag:ax≠it):M4 X.prog X.w A.in1 it [it,ax] [it] xs.length (fun i v=>∃x,xs[i]?=some x/\z01 x v) (fun i h=>h.IsTupleIter it ax i/\∃its:List A8,Y3 xs its/\h.IsTuple ax its.toArray) where
 sub:=fun b hb=>by simp at hb;simp[hb]
 frame:=fun _ _ _ st hk=>⟨st.1.at fun o e=>hk it (by simp) o e,let ⟨its,rv,hl⟩:=st.2;⟨its,rv,hl.at fun o e=>hk ax (by simp) o e⟩⟩
 item:=fun i s Q E hi st hQ=>by
  obtain⟨dS,its,rv,hl⟩:=st;have l:=rv.length
  have aO:i<its.length:=by omega
  obtain⟨u,hu,ru⟩:=rv.get (A3 hi);refine Do dS hl (x:=u) (by simpa using hu) fun h' fO cR=>?_;exact hQ _ h' s.toks ⟨_,A3 hi,ru⟩ ⟨fO,its,rv,hl.extBut cR.extBut ag⟩ fun b o hb e=>cR.extBut b o (fun h=>hb (by simp[h])) e
 done:=fun s Q E st hQ=>by obtain⟨dS,its,rv,hl⟩:=st;have l:=rv.length;exact Fs (A:=A.in1) hh dS hl (by simp[l]) fun h' fJ=>hQ h' s.toks fun b o hb e=>fJ b o (fun h=>hb (by simp[h])) e
 self:=fun _ _ _ _ st hQ=>wpAny_pyIter_tupleiter st.1 hQ
theorem x4D{ax:Ap}{xs:List V}{aE:A8}{kw:List (Bb×A8)}{kds:List D}{Z:List Ap}{gt:Nat->Nat->Bool}{R:Js->Ah->Prop}{P:Ld->Ah->Prop}(bh:(∃q,aE = .ref q)∨∃id,aE = .builtin id)(hh:A.handled=none)(I:Inv X aa σ H s)(ab:kds.length=xs.length)(cW:(∀(more:Pns) (H1:Hp) (s1:Ah),j6 H H1->Inv X (more++aa) σ H1 s1->∃its:List A8,Y3 xs its/\s1.heap.IsList ax its.toArray)∨(∀(more:Pns) (H1:Hp) (s1:Ah),j6 H H1->Inv X (more++aa) σ H1 s1->∃its:List A8,Y3 xs its/\s1.heap.IsTuple ax its.toArray))(turn:w0P X aa σ H A.in1 Z aE xs kds)(cE:z30 X aa σ H A.in1 Z kds gt)(hR:∀b x v H1 s1,xs[b]?=some x->z01 x v->b=Y2 gt (xs.length-1) 1 0->j6 H H1->Inv X aa σ H1 s1->R (.ok (.ret v)) s1)(hE:xs=[]->∃x d,kw=[(x,d)]/\∀s1,Inv X aa σ H s1->R (.ok (.ret d)) s1)(hP:∀c' s',c'.quiet=true->Dl (B3 X.prog X.w) A c' R s'->P (.again c') s'):
  Aq (B3 X.prog X.w) A.in1 (do
   let it ←Ma (.ref ax)
   let l ←newList []
   Ck (Iu (.builtin "max.loop" ⟨[it,aE,l],kw⟩))) P E s:=by
 have axlt:ax<s.heap.objs.size:=by
  rcases cW with h|h
  ·obtain⟨_,_,o,e,_⟩:=h [] H s (j6.refl H) I;exact Am e
  ·obtain⟨_,_,o,e,_⟩:=h [] H s (j6.refl H) I;exact Am e
 have jq:∀y c',X.env.cells.lookup y=some c'->c'<s.heap.objs.size:=fun y c' z=>by obtain⟨v,o,ho,_⟩:=I.cell y c' z;exact Am ho
 have hZ:∀w∈X.pn++aa,w.1<s.heap.objs.size:=fun w z=>Am (I.pin w z).1
 have go:∀(oI:Ji) (Φ:Nat->Ji->Prop) (Sx:Nat->C5->Prop),(∀v,oI.data≠.cell v)->oI.isFreed=false->Φ 0 oI->Src X aa σ H A.in1 s.heap.objs.size ax xs Φ Sx ->
   Aq (B3 X.prog X.w) A.in1 (do
    let l ←newList []
    Ck (Iu (.builtin "max.loop" ⟨[.ref s.heap.objs.size,aE,l],kw⟩))) P E { s with heap:=s.heap.push oI }:=fun oI Φ Sx hnc bJ hΦ src=>by
  have z1:(s.heap.push oI).objs.size=s.heap.objs.size+1:=Cw ..;refine A4 (Hb (wpAny_pure (hP _ _ (plainId_quiet D1 _) ?_)) (Bf _));show Dl _ _ (.builtin "max.loop" ⟨[.ref s.heap.objs.size,aE,.ref (s.heap.push oI).objs.size],kw⟩) R { s with heap:=(s.heap.push oI).push (Be "list" #[] 0) };rw[z1]
  have I1:Inv X ((s.heap.objs.size,oI)::aa) σ H { s with heap:=s.heap.push oI,toks:=s.toks }:=Inv.pin1 (I.kept (h':=s.heap.push oI) (t':=s.toks) fun b u e=>Aa _ e) (At _ bJ) (I.hok.fresh (Ak _)) (D0 I.lt) (I.nofs (Ak _)) hnc
  have I2:Inv X ((s.heap.objs.size+1,Be "list" #[] 0)::(s.heap.objs.size,oI)::aa) σ H { s with heap:=(s.heap.push oI).push (Be "list" #[] 0),toks:=s.toks }:=by have g:=At (s.heap.push oI) (o:=Be "list" #[] 0) rfl;rw[z1]at g;exact Inv.pin1 (I1.kept (h':=(s.heap.push oI).push (Be "list" #[] 0)) (t':=s.toks) fun b u e=>Aa _ e) g (I.hok.fresh (Dq _)) (D0 (C6 I.lt)) (I.nofs (Dq _)) (fun v z=>by cases z)
  exact x4C (S:=s.heap.objs.size+1) bh ab I.sz (Nat.le_succ_of_le I.sz) (D0 (Dr _)) (fun x c e=>⟨Ar (jq x c e),Ar (C6 (jq x c e))⟩)
   (fun p z=>⟨Ar (hZ p z),Ar (C6 (hZ p z))⟩) src turn cE hR hE I2 hΦ
 have iF:ax≠s.heap.objs.size:=Ar axlt;rcases cW with hs|hs
 ·obtain⟨its,rv,hl⟩:=hs [] H s (j6.refl H) I;refine A4 (Hr hl ?_)
  refine go { cls:=.type "list_iterator",data:=.fields #[.ref ax,.int 0 0] } (fun i o=>o.cls = .type "list_iterator"/\o.data = .fields #[.ref ax,.int i 0]) (fun i h=>h.IsListIter s.heap.objs.size ax i/\∃its:List A8,Y3 xs its/\h.IsList ax its.toArray) (fun v z=>by cases z) rfl ⟨rfl,rfl⟩
   ⟨x02 hh iF,fun i o more H1 s1 sm J g hΦ=>⟨⟨o,g,hΦ.1,hΦ.2⟩,hs more H1 s1 sm J⟩,fun i h z=>let ⟨o,g,a,b⟩:=z.1;⟨o,g,a,b⟩,fun i o v hΦ z=>by rw[hΦ.2]at z;cases z⟩
 ·obtain⟨its,rv,hl⟩:=hs [] H s (j6.refl H) I;refine A4 (E6 hl ?_)
  refine go { cls:=.type "tuple_iterator",data:=.fields #[.ref ax,.int 0 0] } (fun i o=>o.cls = .type "tuple_iterator"/\o.data = .fields #[.ref ax,.int i 0]) (fun i h=>h.IsTupleIter s.heap.objs.size ax i/\∃its:List A8,Y3 xs its/\h.IsTuple ax its.toArray) (fun v z=>by cases z) rfl ⟨rfl,rfl⟩
   ⟨x2M hh iF,fun i o more H1 s1 sm J g hΦ=>⟨⟨o,g,hΦ.1,hΦ.2⟩,hs more H1 s1 sm J⟩,fun i h z=>let ⟨o,g,a,b⟩:=z.1;⟨o,g,a,b⟩,fun i o v hΦ z=>by rw[hΦ.2]at z;cases z⟩
theorem x6D(a v:A8):Mp "max" ⟨[a],[(Bq "key",v)]⟩:=by unfold Mp;kernel_rfl
theorem x1S(a v d:A8):Mp "max" ⟨[a],[(Bq "key",v),(Bq "default",d)]⟩:=by unfold Mp;kernel_rfl
theorem x1T(a b v:A8):Mp "max" ⟨[a,b],[(Bq "key",v)]⟩:=by unfold Mp;kernel_rfl
variable{ax:Ap}{xs:List V}{aE:A8}{kds:List D}{Z:List Ap}{gt:Nat->Nat->Bool}{Q:VP}
theorem y58(bh:(∃q,aE = .ref q)∨∃id,aE = .builtin id)(hh:A.handled=none)(I:Inv X aa σ H s)(ab:kds.length=xs.length)(cW:(∀(more:Pns) (H1:Hp) (s1:Ah),j6 H H1->Inv X (more++aa) σ H1 s1->∃its:List A8,Y3 xs its/\s1.heap.IsList ax its.toArray)∨(∀(more:Pns) (H1:Hp) (s1:Ah),j6 H H1->Inv X (more++aa) σ H1 s1->∃its:List A8,Y3 xs its/\s1.heap.IsTuple ax its.toArray))(turn:w0P X aa σ H A.in1 Z aE xs kds)(cE:z30 X aa σ H A.in1 Z kds gt)(hn:xs≠[])(hR:∀b x v H1 s1,xs[b]?=some x->z01 x v->b=Y2 gt (xs.length-1) 1 0->j6 H H1->Inv X aa σ H1 s1->Q v s1):
  Aq (B3 X.prog X.w) A (call (.builtin "max") [.ref ax] [(Bq "key",aE)]) Q E s:=by
 have aC:(Ee "max"++Ee ".loop":String) = "max.loop":=by decide
 refine kmk_tree Kb Jo Jp (x6D _ _) ?_
 have fin:=x4D (E:=E) (P:=fun fin s'=>match fin with
   | .done f=>(match (Mr f:Js) with|.ok (.ret v)=>Q v s'|.ok _=>False|.error e=>E e s')
   | .again c'=>c'.quiet=true/\Dl (B3 X.prog X.w) A c' (fun r s'=>match r with|.ok (.ret v)=>Q v s'|.ok _=>False|.error e=>E e s') s') (kw:=[]) bh hh I ab cW turn cE (fun b x v H1 s1 a0 a1 a2 a3 a4=>hR b x v H1 s1 a0 a1 a2 a3 a4) (fun z=>absurd z hn) (fun c' s' h1 h2=>⟨h1,h2⟩)
 rcases bh with⟨q,rfl⟩|⟨id,rfl⟩
 ·show Aq _ A.in1 (Bm "max" ["key","default"] 0 ⟨[],[(Bq "key",.ref q)]⟩ >>= _) _ _ s;refine A4 (Gi (show Bm "max" ["key","default"] 0 ⟨[],[(Bq "key",.ref q)]⟩=Ck [some (.ref q),none] from rfl) ?_);refine A4 (wpAny_pure ?_);exact fin
 ·show Aq _ A.in1 (Bm "max" ["key","default"] 0 ⟨[],[(Bq "key",.builtin id)]⟩ >>= _) _ _ s;refine A4 (Gi (show Bm "max" ["key","default"] 0 ⟨[],[(Bq "key",.builtin id)]⟩=Ck [some (.builtin id),none] from rfl) ?_);refine A4 (wpAny_pure ?_);exact fin
theorem x1L{id:String}{d:A8}(hh:A.handled=none)(I:Inv X aa σ H s)(ab:kds.length=xs.length)(cW:(∀(more:Pns) (H1:Hp) (s1:Ah),j6 H H1->Inv X (more++aa) σ H1 s1->∃its:List A8,Y3 xs its/\s1.heap.IsList ax its.toArray)∨(∀(more:Pns) (H1:Hp) (s1:Ah),j6 H H1->Inv X (more++aa) σ H1 s1->∃its:List A8,Y3 xs its/\s1.heap.IsTuple ax its.toArray))(turn:w0P X aa σ H A.in1 Z (.builtin id) xs kds)(cE:z30 X aa σ H A.in1 Z kds gt)(hE:xs=[]->∀s1,Inv X aa σ H s1->Q d s1)(hR:∀b x v H1 s1,xs[b]?=some x->z01 x v->b=Y2 gt (xs.length-1) 1 0->j6 H H1->Inv X aa σ H1 s1->Q v s1):
  Aq (B3 X.prog X.w) A (call (.builtin "max") [.ref ax] [(Bq "key",.builtin id),(Bq "default",d)]) Q E s:=by
 refine kmk_tree Kb Jo Jp (x1S _ _ _) ?_
 have fin:=x4D (E:=E) (P:=fun fin s'=>match fin with
   | .done f=>(match (Mr f:Js) with|.ok (.ret v)=>Q v s'|.ok _=>False|.error e=>E e s')
   | .again c'=>c'.quiet=true/\Dl (B3 X.prog X.w) A c' (fun r s'=>match r with|.ok (.ret v)=>Q v s'|.ok _=>False|.error e=>E e s') s') (kw:=[("default",d)]) (.inr ⟨id,rfl⟩) hh I ab cW turn cE (fun b x v H1 s1 a0 a1 a2 a3 a4=>hR b x v H1 s1 a0 a1 a2 a3 a4) (fun z=>⟨_,d,rfl,fun s1 J=>hE z s1 J⟩) (fun c' s' h1 h2=>⟨h1,h2⟩)
 show Aq _ A.in1 (Bm "max" ["key","default"] 0 ⟨[],[(Bq "key",.builtin id),(Bq "default",d)]⟩ >>= _) _ _ s;refine A4 (Gi (show Bm "max" ["key","default"] 0 ⟨[],[(Bq "key",.builtin id),(Bq "default",d)]⟩=Ck [some (.builtin id),some d] from rfl) ?_);refine A4 (wpAny_pure ?_);exact fin
theorem x1M{id:String}{x y:V}{u v:A8}(ru:z01 x u)(rv:z01 y v)(hh:A.handled=none)(I:Inv X aa σ H s)(ab:kds.length=2)(turn:∀(o:Ji) (t:Nat),w0P X ((s.heap.objs.size,o)::aa) σ H A.in1 Z (.builtin id) [x,y] kds)(cE:∀(o:Ji),z30 X ((s.heap.objs.size,o)::aa) σ H A.in1 Z kds gt)(hR:∀w H1 s1,z01 (if gt 1 0=true then y else x) w->j6 H H1->Inv X aa σ H1 s1->Q w s1):
  Aq (B3 X.prog X.w) A (call (.builtin "max") [u,v] [(Bq "key",.builtin id)]) Q E s:=by
 refine kmk_tree Kb Jo Jp (x1T _ _ _) ?_;show Aq _ A.in1 (Bm "max" ["key","default"] 0 ⟨[],[(Bq "key",.builtin id)]⟩ >>= _) _ _ s;refine A4 (Gi (show Bm "max" ["key","default"] 0 ⟨[],[(Bq "key",.builtin id)]⟩=Ck [some (.builtin id),none] from rfl) ?_);show Aq _ A.in1 (Mn [u,v] >>= _) _ _ s
 refine A4 (Cb ?_)
 have I1:Inv X ((s.heap.objs.size,{ cls:=Cf "tuple",data:=G0 #[u,v] })::aa) σ H { s with heap:=s.heap.push { cls:=Cf "tuple",data:=G0 #[u,v] },toks:=s.toks }:=Inv.pin1 (I.kept (t':=s.toks) fun b u e=>Aa _ e) (At _ rfl) (I.hok.fresh (Ak _)) (D0 I.lt) (I.nofs (Ak _)) (fun v z=>by cases z)
 exact x4D (E:=E) (ax:=s.heap.objs.size) (xs:=[x,y]) (P:=fun fin s'=>match fin with
   | .done f=>(match (Mr f:Js) with|.ok (.ret v)=>Q v s'|.ok _=>False|.error e=>E e s')
   | .again c'=>c'.quiet=true/\Dl (B3 X.prog X.w) A c' (fun r s'=>match r with|.ok (.ret v)=>Q v s'|.ok _=>False|.error e=>E e s') s') (kw:=[]) (.inr ⟨id,rfl⟩) hh I1 ab
  (.inr fun more H1 s1 sm J=>⟨[u,v],.cons ru (.cons rv .nil),_,(J.pin (s.heap.objs.size,{ cls:=Cf "tuple",data:=G0 #[u,v] }) (Ab _ (Ab _ A6))).1,rfl,_,rfl⟩) (turn _ 0) (cE _) (fun b z w H1 s1 a1 a0 a2 a3 a4=>by
   have e:b=if gt 1 0=true then 1 else 0:=a2
   refine hR w H1 s1 ?_ a3 (Inv.tail a4)
   cases hg:gt 1 0 with
   |true=>rw[hg,if_pos rfl]at e;rw[if_pos rfl];subst e;cases a1;exact a0
   |false=>
    rw[hg,if_neg B0]at e;rw[if_neg B0];subst e;cases a1
    exact a0) (fun z=>by cases z) (fun c' s' h1 h2=>⟨h1,h2⟩)
end
noncomputable def w5N:D->Option Int
 | .tup xs=>some xs.length
 | .lst xs=>some xs.length
 |_=>none
def z8H:List D->Option (List Int)
 | []=>some []
 |d::ds=>match w5N d with|some n=>(match z8H ds with|some ns=>some (n::ns)|none=>none)|none=>none
theorem y4K:∀{ds:List D} {ns:List Int},z8H ds=some ns->ns.length=ds.length
 | [],ns,e=>by cases e;rfl
 |d::ds,ns,e=>by
  unfold z8H at e;split at e
  ·split at e
   ·rename_i h;cases e;rw[Ay,Ay,y4K h]
   ·cases e
  ·cases e
theorem y90:∀{ds:List D} {ns:List Int} {i:Nat} {d:D} {n:Int},z8H ds=some ns->ds[i]?=some d->ns[i]?=some n->w5N d=some n
 | [],_,i,d,n,_,h,_=>by simp at h
 |d'::ds,ns,i,d,n,e,h1,h2=>by
  unfold z8H at e;split at e
  ·rename_i m hm;split at e
   ·rename_i bF h;cases e
    cases i with
    |zero=>simp at h1 h2;subst h1;subst h2;exact hm
    |succ i=>exact y90 (i:=i) h (by simpa using h1) (by simpa using h2)
   ·cases e
  ·cases e
noncomputable def gtI(ns:List Int)(i j:Nat):Bool:=decide (ns.getD j 0<ns.getD i 0)
def gtT(nss:List (List Int))(i j:Nat):Bool:=HT.lexLt (nss.getD j []) (nss.getD i [])
def z1G(gt:Nat->Nat->Bool)(ds:List D):Option D:=ds[Y2 gt (ds.length-1) 1 0]?
section
variable{X:Cx}{aa:Pns}{σ:St}{H:Hp}{s:Ah}{A:By}{Z:List Ap}{ds:List D}{xs:List V}
theorem y95{ns:List Int}(rr:j7 X.K (J3 Z H) ds xs)(hn:z8H ds=some ns):w0P X aa σ H A Z (.builtin "len") xs (ns.map D.int):=by
 intro i x u d hx ru hd more H1 s1 sm I;rw[Au]at hd
 cases iO:ns[i]? with
 |none=>rw[iO]at hd;cases hd
 |some n=>
  rw[iO]at hd;cases hd;have rr1:=rr.mono (y8 sm);obtain⟨dd,eC,rd⟩:=rr1.at hx;have hl:=y90 hn eC iO;have h63:=y1K
  cases dd with
  |tup es=>have e:(es.length:Int)=n:=Bc hl;obtain⟨a,ys,rfl,hq,r2⟩:=j3.mp rd;cases ru;obtain⟨its,r',pl,hz⟩:=I.tuple (u9 x4 hq);have ab:=r'.length;have dP:=r2.length;exact len_tuple pl (by simp only[Ag]<;>omega) ⟨.int n,H1,I.tok _,⟨s1.toks+1,by rw[Ag,←ab,←dP,e]⟩,j6.refl _,w6.mpr rfl⟩
  |lst es=>have e:(es.length:Int)=n:=Bc hl;obtain⟨a,ys,rfl,hq,r2⟩:=J5.mp rd;cases ru;obtain⟨its,r',pl,hz⟩:=I.list (x4.seq hq);have ab:=r'.length;have dP:=r2.length;exact Calls.call_len_list pl.isList (by simp only[Ag]<;>omega) ⟨.int n,H1,I.tok _,⟨s1.toks+1,by rw[Ag,←ab,←dP,e]⟩,j6.refl _,w6.mpr rfl⟩
  |non=>cases hl
  |bl _=>cases hl
  |int _=>cases hl
  |str _=>cases hl
  |dct _ _=>cases hl
theorem z7I(ns:List Int):z30 X aa σ H A Z (ns.map D.int) (gtI ns):=by
 intro more H1 s1 sm I i j di dj x y u v hi hj rx ry ru rv Q E q;rw[Au]at hi hj
 cases ei:ns[i]? with
 |none=>rw[ei]at hi;cases hi
 |some a=>
  cases ej:ns[j]? with
  |none=>rw[ej]at hj;cases hj
  |some b=>rw[ei]at hi;rw[ej]at hj;cases hi;cases hj;rw[w6]at rx ry;subst rx;subst ry;obtain⟨t,rfl⟩:=ru;obtain⟨t',rfl⟩:=rv;refine y8G A s1 a t b t' X.prog X.w E Q ?_;unfold gtI at q;rw[K4 ei,K4 ej]at q;exact q
theorem x15(nss:List (List Int))(hu:A.units<Cy):z30 X aa σ H A Z (nss.map fun ns=>D.tup (ns.map D.int)) (gtT nss):=by
 intro more H1 s1 sm I i j di dj x y u v hi hj rx ry ru rv Q E q;rw[Au]at hi hj
 cases ei:nss[i]? with
 |none=>rw[ei]at hi;cases hi
 |some a=>
  cases ej:nss[j]? with
  |none=>rw[ej]at hj;cases hj
  |some b=>rw[ei]at hi;rw[ej]at hj;cases hi;cases hj;obtain⟨p1,o1,i1,n1,rfl,g1,c1,d1,ia1⟩:=z95 I (rx.mono x4) ru;obtain⟨p2,o2,i2,n2,rfl,g2,c2,d2,ia2⟩:=z95 I (ry.mono x4) rv;unfold gtT at q;rw[K4 ei,K4 ej]at q;exact y1M ⟨o1,g1,c1,n1,d1⟩ ⟨o2,g2,c2,n2,d2⟩ ia1 ia2 hu q
theorem y63{a:Ap}(gC:SqL X.K H a xs∨SqT X.K (J3 Z H) a xs):(∀(more:Pns) (H1:Hp) (s1:Ah),j6 H H1->Inv X (more++aa) σ H1 s1->∃its:List A8,Y3 xs its/\s1.heap.IsList a its.toArray) ∨
  (∀(more:Pns) (H1:Hp) (s1:Ah),j6 H H1->Inv X (more++aa) σ H1 s1->∃its:List A8,Y3 xs its/\s1.heap.IsTuple a its.toArray):=by
 rcases gC with z|z
 ·exact .inl fun more H1 s1 sm I=>let ⟨its,rv,pl,_⟩:=I.list (sm.seq z);⟨its,rv,pl.isList⟩
 ·exact .inr fun more H1 s1 sm I=>let ⟨its,rv,pl,_⟩:=I.tuple (u9 (x4.trans sm) z);⟨its,rv,pl⟩
end
section
variable{X:Cx}{e body dflt ea eb:Expr}{params:Ja}{scope:Scope}{lp kp kp2 p pos:F2}{fa:EL}{fb fd f1 f2:ED}
def y1H(ds:List D)(d0:D):Option D:=match z8H ds with|some ns=>(match ds with|[]=>some d0|_::_=>z1G (gtI ns) ds)|none=>none
def y08(fa:EL)(fd:ED):ED:=fun ρ=>match fa ρ with|some ds=>(match fd ρ with|some d0=>y1H ds d0|none=>none)|none=>none
theorem y11(hc:X.calm=true)(hm:X.mg "max" = none)(hml:X.mg "len" = none)(ha:ZQ X e fa)(hd:ZE X dflt fd)(hg:Gl X "max":=by rfl)(jm:Gl X "len":=by rfl)(hv:B5 "max" = some (.builtin "max"):=by decide +kernel)(hvl:B5 "len" = some (.builtin "len"):=by decide +kernel)(hs:Ac [e] X.env=(false,C0 e X.env)::Ac [] X.env:=by exact v5 rfl):ZE X (.Call (.Name "max" p) [e] [⟨some "key",.Name "len" lp,kp⟩,⟨some "default",dflt,kp2⟩] pos) (y08 fa fd):=by
 have ha:=ha.h;have hd:=hd.h;refine⟨?_⟩;intro aa s σ H Q I h;obtain⟨ρ,d,B,H0,V0,Z,e1,r,q⟩:=h;unfold y08 at e1;split at e1
 ·rename_i ds aD;split at e1
  ·rename_i d0 ed0;refine E7 (z37 I hg hm hv ?_ (by decide) (by decide))
   have bX:Bs pos (Ac [e] X.env)=(false,C0 e X.env)::Bs pos (Ac [] X.env):=by rw[hs];rfl
   refine Fc ?_ bX (by rw[bX];rfl)
   refine z14 (g9 ha Y0 hs pos aa s σ H (fun vs H1=>∃a xs,vs=[.ref a]/\j6 H H1/\(SqL X.K H1 a xs∨SqT X.K (J3 Z H1) a xs)/\j7 X.K (J3 Z H1) ds xs) I ⟨ρ,ds,B,H0,V0,Z,aD,r,fun a xs H1 s1 hq rr=>⟨a,xs,rfl,s1,hq,rr⟩⟩) fun us s1 vs H1 I1 gn ⟨a,xs,dN,cG,gC,rr⟩=>?_;subst dN;obtain⟨u,rfl,ru⟩:=z3K gn;cases ru;have R1:=r.mono cG;show Aq _ _ (evalAll ((do let v ←C0 (.Name "len" lp) X.env;Jk pos;Ck v)::(do let v ←C0 dflt X.env;Jk pos;Ck v)::[])) _ _ s1
   refine Fx (A4 (z37 I1 jm hml hvl (A4 (G7 (wpAny_pure ?_))) (by decide) (by decide)));refine Fx (A4 (z14 (hd aa s1 σ H1 (fun v H2=>j6 H1 H2/\Rep X.K (J3 Z H2) d0 v) I1 ⟨ρ,d0,B,H0,V0,Z,ed0,R1,fun v H2 s2 r2=>⟨s2,r2⟩⟩) fun w s2 v0 H2 I2 rw0 ⟨aT,rd0⟩=>A4 (G7 (wpAny_pure (Hx ?_)))));show Aq _ _ (call (.builtin "max") [.ref a] [(Bq "key",.builtin "len"),(Bq "default",w)]) _ _ s2
   have iI:=rr.mono (y8 aT);have eD:SqL X.K H2 a xs∨SqT X.K (J3 Z H2) a xs:=gC.imp aT.seq (u9 (y8 aT));unfold y1H at e1;split at e1
   ·rename_i ns hn;have l1:=rr.length;have l2:=y4K hn;refine x1L (I2.ok.hd hc) I2 (by rw[A0];omega) (y63 eD) (y95 iI hn) (z7I ns) (fun hx s3 I3=>?_) (fun b x v H3 s3 hb rb bB bo I3=>?_)
    ·have:ds=[]:=by rw[hx]at l1;exact List.length_eq_zero_iff.mp l1
     subst this;cases e1;exact⟨v0,H2,I3,rw0,q v0 H2 (cG.trans aT) rd0⟩
    ·have rr3:=iI.mono (y8 bo);obtain⟨dd,eC,rd⟩:=rr3.at hb
     have:dd=d:=by
      have ag:ds≠[]:=fun z=>by rw[z]at eC;simp at eC
      split at e1
      ·exact absurd rfl ag
      ·unfold z1G at e1;rw[l1,←bB,eC]at e1;exact Bc e1
     subst this;exact⟨x,H3,I3,rb,q x H3 (cG.trans (aT.trans bo)) rd⟩
   ·cases e1
  ·cases e1
 ·cases e1
def z7E(a b:D):Option D:=match w5N a with|some n=>(match w5N b with|some m=>some (if n<m then b else a)|none=>none)|none=>none
theorem y5X(hc:X.calm=true)(hm:X.mg "max" = none)(hml:X.mg "len" = none)(ha:ZE X ea f1)(hb:ZE X eb f2)(hg:Gl X "max":=by rfl)(jm:Gl X "len":=by rfl)(hv:B5 "max" = some (.builtin "max"):=by decide +kernel)(hvl:B5 "len" = some (.builtin "len"):=by decide +kernel)(hs:Ac [ea,eb] X.env=(false,C0 ea X.env)::Ac [eb] X.env:=by exact v5 rfl)(bH:Ac [eb] X.env=(false,C0 eb X.env)::Ac [] X.env:=by exact v5 rfl):ZE X (.Call (.Name "max" p) [ea,eb] [⟨some "key",.Name "len" lp,kp⟩] pos) (d2 z7E f1 f2):=by
 have ha:=ha.h;have hb:=hb.h;refine⟨?_⟩;intro aa s σ H Q I h;obtain⟨ρ,d,B,H0,V0,Z,e1,r,q⟩:=h;obtain⟨x0,y0,ex,ey,e1⟩:=x5V e1;refine E7 (z37 I hg hm hv ?_ (by decide) (by decide))
 have bX:Bs pos (Ac [ea,eb] X.env)=(false,C0 ea X.env)::Bs pos (Ac [eb] X.env):=by rw[hs];rfl
 have hst2:(Bs pos (Ac [eb] X.env)).any (·.1)=false:=by rw[bH];rfl
 refine Fc ?_ bX (by rw[bX,Eo,hst2];rfl)
 refine z14 (g9 ha (g9 hb Y0 bH) hs pos aa s σ H (fun vs H1=>∃x y,vs=[x,y]/\j6 H H1/\Rep X.K (J3 Z H1) x0 x/\Rep X.K (J3 Z H1) y0 y) I
  ⟨ρ,x0,B,H0,V0,Z,ex,r,fun x H1 s1 rx=>⟨ρ,y0,B,H0,V0,Z,ey,r.mono s1,fun y H2 s2 ry=>⟨x,y,rfl,s1.trans s2,rx.mono (y8 s2),ry⟩⟩⟩) fun us s1 vs H1 I1 gn ⟨x,y,dN,cG,rx,ry⟩=>?_
 subst dN
 obtain⟨u,v,rfl,ru,rv⟩:∃u v,us=[u,v]/\z01 x u/\z01 y v:=by
  cases gn with
  |cons a b=>
   cases b with
   |cons c d=>cases d;exact⟨_,_,rfl,a,c⟩
 show Aq _ _ (evalAll ((do let v ←C0 (.Name "len" lp) X.env;Jk pos;Ck v)::[])) _ _ s1
 refine Fx (A4 (z37 I1 jm hml hvl (A4 (G7 (wpAny_pure (Hx ?_)))) (by decide) (by decide)));show Aq _ _ (call (.builtin "max") [u,v] [(Bq "key",.builtin "len")]) _ _ s1;unfold z7E at e1;split at e1
 ·rename_i n hn;split at e1
  ·rename_i m hm'
   have hl:z8H [x0,y0]=some [n,m]:=by unfold z8H;rw[hn];dsimp only;unfold z8H;rw[hm'];rfl
   have rr:j7 X.K (J3 Z H1) [x0,y0] [x,y]:=j7.cons rx (j7.one ry);refine x1M (kds:=[D.int n,D.int m]) (gt:=gtI [n,m]) ru rv (I1.ok.hd hc) I1 rfl (fun o t=>y95 rr hl) (fun o=>z7I [n,m]) (fun w H2 s2 rw' aT I2=>?_);have g:gtI [n,m] 1 0=decide (n<m):=rfl;rw[g]at rw';by_cases du:n<m
   ·rw[if_pos du]at e1;cases e1;rw[decide_eq_true du,if_pos rfl]at rw';exact⟨y,H2,I2,rw',q y H2 (cG.trans aT) (ry.mono (y8 aT))⟩
   ·rw[if_neg du]at e1;cases e1;rw[decide_eq_false du,if_neg B0]at rw';exact⟨x,H2,I2,rw',q x H2 (cG.trans aT) (rx.mono (y8 aT))⟩
  ·cases e1
 ·cases e1
def w6F(ks ds:List D):Option D:=match ds with
 | []=>none
 |_::_=>(match W8 ks with
  |some ns=>z1G (gtI ns) ds
  |none=>(match z1J ks with|some nss=>z1G (gtT nss) ds|none=>none))
def y2V(cap:List (Option Nat))(fa:EL)(fb:ED):ED:=fun ρ=>match fa ρ with
 |some ds=>(match x0S fb (y0T cap ρ) ds with|some ks=>w6F ks ds|none=>none)
 |none=>none
theorem x00{x pn:Bb}{k:Nat}(N:List Bb)(cap:List (Option Nat))(hc:X.calm=true)(hm:X.mg "max" = none)(bm:BmAt X.K X.mg)(hl:z9Q X.K X.env.code x=true)(hr:Room (k+3) X.A)(ha:ZQ X e fa)(he:∀A' cl f cd s H,Room k (z8I X A' N (X.env.qual++"<lambda>") scope cl f cd s H).A->ZE (z8I X A' N (X.env.qual++"<lambda>") scope cl f cd s H) body fb)(hok:x0W scope X.env.scope N cap X.N=true:=by rfl)(h0:cap[0]?=some none:=by rfl)(hp:N[0]?=some pn:=by rfl)(ah:scope.names.lookup pn=some .local:=by rfl)(dn:scope.isCoroutine=false:=by rfl)(bQ:scope.isGenerator=false:=by rfl)(hq:X.env.qual=x++".<locals>.":=by rfl)(bO:Ko params X.env=([],[]):=by rfl)(hb:∀(cl:List (Bb×Ap)) (av pm:A8) (c:Ap) (ct u:A8),Ge (Hw "<lambda>" (X.env.qual++"<lambda>") params (.expr body) scope cl .none av pm (.ref c) ct) ⟨[u],[]⟩=Ck [(pn,u)]:=by intros;rfl)(hg:Gl X "max":=by rfl)(hv:B5 "max" = some (.builtin "max"):=by decide +kernel)(hs:Ac [e] X.env=(false,C0 e X.env)::Ac [] X.env:=by exact v5 rfl):ZE X (.Call (.Name "max" p) [e] [⟨some "key",.Lambda params body scope lp,kp⟩] pos) (y2V cap fa fb):=by
 have ha:=ha.h;have he:=fun A' cl f cd s H hr=>(he A' cl f cd s H hr).h;refine⟨?_⟩;intro aa s σ H Q I h;have C:=y9R hok;obtain⟨ρ,d,B,H0,V0,Z,e1,r,q⟩:=h;unfold y2V at e1;split at e1
 ·rename_i ds aD;split at e1
  ·rename_i ks je;refine E7 (z37 I hg hm hv ?_ (by decide) (by decide))
   have bX:Bs pos (Ac [e] X.env)=(false,C0 e X.env)::Bs pos (Ac [] X.env):=by rw[hs];rfl
   refine Fc ?_ bX (by rw[bX];rfl)
   refine z14 (g9 ha Y0 hs pos aa s σ H (fun vs H1=>∃a xs,vs=[.ref a]/\j6 H H1/\(SqL X.K H1 a xs∨SqT X.K (J3 Z H1) a xs)/\j7 X.K (J3 Z H1) ds xs) I ⟨ρ,ds,B,H0,V0,Z,aD,r,fun a xs H1 s1 hq rr=>⟨a,xs,rfl,s1,hq,rr⟩⟩) fun us s1 vs H1 I1 gn ⟨a,xs,dN,cG,gC,rr⟩=>?_;subst dN;obtain⟨u,rfl,ru⟩:=z3K gn;cases ru;have R1:=r.mono cG;obtain⟨cl,ay,hc1,bf⟩:=y9N (env:=X.env) (scope:=scope) fun y hy hf=>I1.ok.has y.1 (C.out y hy hf)
   show Aq _ _ (evalAll ((do let v ←C0 (.Lambda params body scope lp) X.env;Jk pos;Ck v)::[])) _ _ s1
   refine Fx (A4 (x9W I1 R1.tb bm hl hq ay bO fun f c oc ws t av pm ct s2 H2 aT I2 hfc hd hws=>A4 (G7 (wpAny_pure (Hx ?_)))));show Aq _ _ (call (.builtin "max") [.ref a] [(Bq "key",.ref f)]) _ _ s2;have iI:=rr.mono (y8 aT);have eD:SqL X.K H2 a xs∨SqT X.K (J3 Z H2) a xs:=gC.imp aT.seq (u9 (y8 aT));have l1:=rr.length;have l3:=y2L je
   generalize cF:y4M (X.env.qual++"<lambda>") params body scope cl av pm c ct=fo at I2;have gG:Room (k+2) X.A.in1:=Room.in1 hr
   have turn:w0P X ((f,fo)::aa) σ H2 X.A.in1 Z (.ref f) xs ks:=fun i x u d hx ru gw more H3 s3 bo I4=>by
    obtain⟨di,eB,rd⟩:=(iI.mono (y8 bo)).at hx;have jw:s3.heap.get? f=some fo:=(I4.pin (f,fo) (Ab _ (Ab _ A6))).1;rw[←cF]at jw;obtain⟨uu,fS⟩:=hfc
    exact y92 (te:=tD X.K fb) I4 I.ok.frames (gG.mono (Bf _)) jw ⟨uu,bo _ _ fS⟩ hd hws C.kind C.cell dn bQ hc1 bf C.fre
     (fun i j z=>let ⟨y,n1,n2,n3⟩:=C.sel i j z;⟨y,n1,n2,n3,C.out _ (Bt n3) rfl⟩) C.len h0 hp ah ru (hb cl av pm c ct u) (he _ _ _ _ _ _ ((gG.mono (Dq _)).deeper _))
     ⟨(y0T cap ρ).set 0 (some (.sh di)),d,B,H0,V0,Z,y6Q je eB gw,((z97 C.inj (r.mono (cG.trans (aT.trans bo)))).set rd),fun w H4 gZ rw'=>⟨gZ,rw'⟩⟩
   have fin:∀{gt:Nat->Nat->Bool},z1G gt ds=some d->∀b x v H3 s3,xs[b]?=some x->z01 x v->b=Y2 gt (xs.length-1) 1 0->j6 H2 H3->Inv X ((f,fo)::aa) σ H3 s3->EP X aa σ Q v s3:=fun {gt} hpk b x v H3 s3 aU rb bB bo I3=>by obtain⟨dd,eC,rd⟩:=(iI.mono (y8 bo)).at aU;unfold z1G at hpk;rw[l1,←bB,eC]at hpk;cases hpk;exact⟨x,H3,Inv.tail I3,rb,q x H3 (cG.trans (aT.trans bo)) rd⟩
   unfold w6F at e1;split at e1
   ·cases e1
   ·rename_i dh dr
    have ag:xs≠[]:=fun z=>by rw[z]at l1;simp at l1
    split at e1
    ·rename_i ns hn;have bZ:=W3 hn
     have gr:z30 X ((f,fo)::aa) σ H2 X.A.in1 Z ks (gtI ns):=by rw[bZ];exact z7I ns
     exact y58 (.inl ⟨f,rfl⟩) (I2.ok.hd hc) I2 (by omega) (y63 eD) turn gr ag (fin e1)
    ·split at e1
     ·rename_i nss hn;obtain⟨bZ,_⟩:=z3M hn
      have gr:z30 X ((f,fo)::aa) σ H2 X.A.in1 Z ks (gtT nss):=by rw[bZ];exact x15 nss gG.units0
      exact y58 (.inl ⟨f,rfl⟩) (I2.ok.hd hc) I2 (by omega) (y63 eD) turn gr ag (fin e1)
     ·cases e1
  ·cases e1
 ·cases e1
end
end L3
namespace L3
open PySem PySem.Spec PyProof.Rows L2
abbrev Ris(xs:Array Nat):Prop:=xs.toList.Pairwise (· < ·)
theorem y6D{xs:Array Nat}(h:Ris xs){i k:Nat}(hik:i<k)(hk:k<xs.size)(j:Nat):xs.getD i j<xs.getD k j:=by
 have hi:i<xs.size:=Cu hik hk
 have e1:xs.getD i j=xs.toList[i]'(by simpa using hi):=by simp[Kk,hi]
 have e2:xs.getD k j=xs.toList[k]'(by simpa using hk):=by simp[Kk,hk]
 rw[e1,e2];exact Ev.mp h i k _ _ hik
theorem y30{xs:Array Nat}(h:Ris xs)(j:Nat):∀(fuel lo hi:Nat),lo≤hi->hi≤xs.size->hi-lo≤fuel->(∀i,i<lo->xs.getD i j<j)->(∀i,hi≤i->i<xs.size->j≤xs.getD i j) ->
  Hz xs j fuel lo hi≤xs.size/\(∀i,i<Hz xs j fuel lo hi->xs.getD i j<j)/\(∀i,Hz xs j fuel lo hi≤i->i<xs.size->j≤xs.getD i j)
 | 0,lo,hi,h1,h2,h3,a,b=>by
  have e:lo=hi:=by omega
  subst e;exact⟨h2,a,b⟩
 |fuel+1,lo,hi,h1,h2,h3,a,b=>by
  unfold Hz;by_cases al:lo<hi
  ·rw[if_pos al];dsimp only
   have hm:(lo+hi) / 2<hi:=by omega
   have dm:lo≤(lo+hi) / 2:=by omega
   by_cases hc:xs.getD ((lo+hi) / 2) j<j
   ·rw[if_pos hc];refine y30 h j fuel _ hi (by omega) h2 (by omega) (fun i aO=>?_) b;by_cases e:i=(lo+hi) / 2
    ·rw[e];exact hc
    ·exact Cu (y6D h (by omega:i<(lo+hi) / 2) (by omega) j) hc
   ·rw[if_neg hc];refine y30 h j fuel lo _ dm (by omega) (by omega) a (fun i aO dg=>?_);by_cases e:i=(lo+hi) / 2
    ·rw[e];omega
    ·have:=y6D h (by omega:(lo+hi) / 2<i) dg j
     omega
  ·rw[if_neg al]
   have e:lo=hi:=by omega
   subst e;exact⟨h2,a,b⟩
theorem x8X{xs:Array Nat}(h:Ris xs)(j:Nat):Cj xs j≤xs.size/\(∀i,i<Cj xs j->xs.getD i j<j)/\(∀i,Cj xs j≤i->i<xs.size->j≤xs.getD i j):=y30 h j xs.size 0 xs.size (Bf _) (Ak _) (by omega) (fun i hi=>absurd hi (F1 _)) (fun i h1 h2=>absurd h2 (Ml.mpr h1))
theorem x13{xs:Array Nat}(h:Ris xs){j:Nat}(hn:xs[Cj xs j]?≠some j):Ris (D3.insertAt xs (Cj xs j) j):=by
 obtain⟨b1,b2,b3⟩:=x8X h j;unfold Ris;rw[D3.toList_insertAt]
 have ge:∀(k:Nat) (hk:k<xs.toList.length),xs.getD k j=xs.toList[k]:=fun k hk=>by
  have ce:k<xs.size:=by simpa using hk
  simp[Kk,ce]
 rw[Cq];refine⟨h.sublist (Jl _ _),Dc.mpr ⟨fun y hy=>?_,h.sublist (List.drop_sublist _ _)⟩,fun x hx y hy=>?_⟩
 ·obtain⟨k,hk,rfl⟩:=Ek hy;rw[Go]at hk;rw[List.getElem_drop]
  have fM:Cj xs j+k<xs.toList.length:=by omega
  have jg:Cj xs j+k<xs.size:=by simpa using fM
  have hb:=b3 _ (Ka _ k) jg;rw[ge _ fM]at hb;rcases Nat.lt_or_ge j (xs.toList[Cj xs j+k]) with z|z
  ·exact z
  ·exfalso
   have e:xs.toList[Cj xs j+k]=j:=by omega
   by_cases k0:k=0
   ·subst k0;apply hn
    have hs:Cj xs j<xs.size:=by simpa using jg
    rw[Array.getElem?_eq_getElem hs];simpa using e
   ·have hs:Cj xs j<xs.size:=by omega
    have h1:=y6D h (by omega:Cj xs j<Cj xs j+k) jg j;rw[ge _ fM,e]at h1;have h2:=b3 _ (Ak _) hs;omega
 ·obtain⟨k,hk,rfl⟩:=Ek hx;rw[Fi]at hk;rw[List.getElem_take]
  have fM:k<xs.toList.length:=by omega
  have h1:=b2 k (by omega);rw[ge k fM]at h1;rcases Af.mp hy with z|z
  ·rw[z];exact h1
  ·obtain⟨m,hm,rfl⟩:=Ek z;rw[Go]at hm;rw[List.getElem_drop]
   have dm:Cj xs j+m<xs.toList.length:=by omega
   have h2:=b3 _ (Ka _ m) (by simpa using dm);rw[ge _ dm]at h2;omega
theorem y3T{t:D3}{j:Nat}(h:t.slot j = .empty∨t.slot j = .dummy):t.place[Cj t.place j]?≠some j:=fun z=>by unfold D3.slot at h;dsimp only at h;rw[z]at h;simp at h
theorem y2D{t:D3}{f:Nat->Int}{h:Int}:∀(fuel:Nat) (p:D3.Probe) (j:Nat) (d:Option Nat),(∀d',p.dummy=some d'->t.slot d' = .dummy)->D3.probe.go t f h fuel p=some (.empty j d)->t.slot j = .empty/\∀d',d=some d'->t.slot d' = .dummy
 | 0,p,j,d,_,e=>by cases e
 |fuel+1,p,j,d,hp,e=>by
  have adv:∀q:D3.Probe,(t.advance q).dummy=q.dummy:=fun q=>by
   unfold D3.advance
   split<;>rfl
  unfold D3.probe.go at e;split at e
  ·rename_i hs;cases e;exact⟨hs,hp⟩
  ·rename_i hs;refine y2D fuel _ j d (fun d' hd=>?_) e;rw[adv]at hd;cases hd;exact hs
  ·split at e
   ·cases e
   ·refine y2D fuel _ j d (fun d' hd=>?_) e;rw[adv]at hd;exact hp d' hd
theorem y2Q{t:D3}{h:Int}{j:Nat}{b:Bool}(e:t.freeSlot h=some (j,b)):t.place[Cj t.place j]?≠some j:=by
 unfold D3.freeSlot at e;split at e
 ·rename_i k d hp
  have:=y2D (t:=t) _ _ k d (fun d' hd=>by
   unfold D3.probeStart at hd
   cases hd) hp
  cases e
  cases d with
  |none=>exact y3T (.inl this.1)
  |some d'=>exact y3T (.inr (this.2 d' rfl))
 ·cases e
def Tb(L:Bool)(t:D3):Prop:=(t.plain=true->Ris t.place)/\t.led=L
theorem z53{L:Bool}{t:D3}(h:Tb L t)(n:Nat):Tb L (t.standIn n):=⟨(fun z=>by cases z),h.2⟩
theorem x4N{L:Bool}{t:D3}(hT:Tb L t)(es:Array (Int×A8))(h:Int)(x:A8):Tb L (layNew t es h x).2.1:=by
 unfold layNew;split
 ·rename_i slot wd hs;dsimp only;unfold D3.orStandIn
  have iZ:Tb L (t.put slot).1:=by unfold D3.put;refine⟨fun z=>?_,hT.2⟩;exact x13 (hT.1 z) (y2Q hs)
  split
  ·exact iZ
  ·exact z53 iZ _
 ·exact z53 hT _
theorem x7H{L:Bool}{t:D3}(hT:Tb L t)(es:Array (Int×A8))(cy:Nat):Tb L (L4 t es cy).2.1:=by
 unfold L4;split
 ·rename_i t' order hr;dsimp only;split
  ·unfold D3.relaid D3.laid at hr
   cases ho:D3.layClean (D3.sizeAbove cy-1) (es.map (·.1)) with
   |none=>rw[ho]at hr;cases hr
   |some owner=>
    rw[ho]at hr;simp only[Option.bind_eq_bind,Option.bind_some,Option.pure_def,Option.some.injEq,Prod.mk.injEq]at hr;obtain⟨rfl,_⟩:=hr;refine⟨fun _=>?_,hT.2⟩;unfold Ris;show Lk _ (((A9 (D3.sizeAbove cy-1+1)).filterMap fun j=>(owner.getD j none).map (j,·)).map (·.1));rw[Bu,List.pairwise_filterMap];refine En.imp fun {a b} cN p hp q hq=>?_
    obtain⟨k,_,rfl⟩:=Bl.mp hp;obtain⟨m,_,rfl⟩:=Bl.mp hq;exact cN
  ·exact z53 hT _
 ·exact z53 hT _
theorem erase_perm{α:Type}:∀(l:List α) (i:Nat) (h:i<l.length),l.Perm (l[i]::l.eraseIdx i)
 | [],i,h=>absurd h (F1 _)
 |x::l,0,_=>Gj _
 |x::l,i+1,h=>by
  have hi:i<l.length:=by simpa using h
  have ih:=erase_perm l i hi;show (x::l).Perm (l[i]::x::l.eraseIdx i);exact(ih.cons x).trans (L5 _ _ _)
noncomputable abbrev y9U(w:C8):Bool:=w.params.followText "set-order"
def y7H(prog:Bo)(w:C8)(h:C5)(a:Ap)(ms:List Int):Prop:=∃o es ep t,h.get? a=some o/\o.ExactSet/\o.data = .set es ep t/\ElemsOf (Ga prog w) es.toList/\C4 (es.toList.map (·.2)) ms/\ms.Nodup/\es.size<Ig/\t.fits es.size=true/\Tb (!y9U w) t
theorem y4S{vs jk:List A8}(p:jk.Perm vs):∀{ns:List Int},C4 vs ns->∃bF,C4 jk bF/\bF.Perm ns:=by
 induction p with
 |nil=>exact fun h=>⟨_,h,Gj _⟩
 |cons x p ih=>
  intro ns h
  cases h with
  |cons n t h'=>obtain⟨bF,h1,h2⟩:=ih h';exact⟨n::bF,.cons n t h1,h2.cons n⟩
 |swap x y l=>
  intro ns h
  cases h with
  |cons n t h'=>
   cases h' with
   |cons m u h''=>exact⟨_,.cons m u (.cons n t h''),L5 _ _ _⟩
 |trans p1 p2 ih1 ih2=>intro ns h;obtain⟨n1,h1,q1⟩:=ih2 h;obtain⟨n2,h2,q2⟩:=ih1 h1;exact⟨n2,h2,q2.trans q1⟩
theorem y4R{k:Int}{t:M6}:∀{vs:List A8} {ns:List Int},C4 vs ns->C4 (vs++[.int k t]) (ns++[k])
 |_,_,.nil=>.cons k t .nil
 |_,_,.cons n u h=>.cons n u (y4R h)
theorem y99:∀{vs:List A8} {ns:List Int} {k:Int},C4 vs ns->(k∈ns↔∃t,Gm k t∈vs)
 |_,_,k,.nil=>by simp
 |_,_,k,.cons n t h=>by
  have ih:=y99 (k:=k) h;rw[Af];constructor
  ·rintro (z|z)
   ·rw[z];exact⟨t,A6⟩
   ·obtain⟨u,hu⟩:=ih.mp z;exact⟨u,A7 _ hu⟩
  ·rintro ⟨u,hu⟩;rcases Af.mp hu with z|z
   ·cases z;exact .inl rfl
   ·exact .inr (ih.mpr ⟨u,z⟩)
section
variable{prog:Bo}{w:C8}{A:By}{E:VP}{s:Ah}
theorem w05{es:List (Int×A8)}{ms:List Int}{k:Int}(hi:C4 (es.map (·.2)) ms):(∃e∈es,(Ga prog w).is k e.2=true)↔k∈ms:=by
 rw[y99 hi];constructor
 ·rintro ⟨e,he,hk⟩;have hm:e.2∈es.map (·.2):=Bv he;obtain⟨n,t,hn⟩:∃n t,e.2=Gm n t:=hi.all _ hm
  have:k=n:=(Ga prog w).inj e.2 k n hk (by rw[hn];exact intKind_is _ _ _ _)
  subst this;exact⟨t,by rw[←hn];exact hm⟩
 ·rintro ⟨t,ht⟩;obtain⟨e,he,hv⟩:=Av.mp ht;exact⟨e,he,by rw[hv];exact intKind_is _ _ _ _⟩
theorem w7X{a:Ap}{ms:List Int}{k:Int}{tk:M6}{Q:Bool->Ah->Prop}(hS:y7H prog w s.heap a ms)(hroom:ms.length+1<Ig)(h:∀b h' bI,F3 a s.heap h'->y7H prog w h' a bI->(∀x,x∈bI↔x∈ms∨x=k)->bI.length≤ms.length+1->Q b { s with heap:=h' }):
  Aq (B3 prog w) A (setAddHashed a (.int k tk) ((Ga prog w).hash k)) Q E s:=by
 obtain⟨o,es,ep,t,ho,eA,hd,hJ,hi,aB,hb,hf,hT⟩:=hS
 have ab:es.size=ms.length:=by
  have:=hi.length
  rw[A0,B4]at this;exact this
 have bh:(Ga prog w).is k (.int k tk)=true:=intKind_is _ _ _ _;unfold setAddHashed setAddHashedIn;refine Cr (A4 (wpAny_setState_of ho hd hf ?_));dsimp only;rw[byScan_of (knd:=Ga prog w) rfl hb hJ];simp only[↓reduceIte];unfold setAddByScan;refine A4 (A4 (Kl (A4 (wpAny_setScan_of bh ho hd hf hJ ?_))))
 cases hr:List.findIdx? (fun e=>(Ga prog w).is k e.2) es.toList with
 |some j=>
  dsimp only;obtain⟨hj,hpj,_⟩:=List.findIdx?_eq_some_iff_getElem.mp hr;have hm:k∈ms:=(w05 hi).mp ⟨es.toList[j],Bw hj,hpj⟩;refine wpAny_pure (wpAny_pure ?_)
  have e:s={ s with heap:=s.heap }:=by cases s;rfl
  rw[e];exact h _ s.heap ms (F3.refl a s.heap) ⟨o,es,ep,t,ho,eA,hd,hJ,hi,aB,hb,hf,hT⟩ (fun x=>⟨.inl,fun z=>z.elim id fun q=>q▸hm⟩) (Dq _)
 |none=>
  dsimp only
  have hm:k∉ms:=fun z=>by
   obtain⟨e,he,hp⟩:=(w05 (prog:=prog) (w:=w) hi).mpr z
   have:=List.findIdx?_eq_none_iff.mp hr e he
   rw[hp]at this;cases this
  have hgw:∀(b:Bool) {s₁:Ah} {Q':Unit->Ah->Prop},Q' () s₁->Aq (B3 prog w) A (match b with|true=>rule "set.scan.the-table-gave-way" |false=>Ck ()) Q' E s₁:=fun b s₁ Q' hq=>by cases b<;>first|exact wpAny_pure hq|exact Kl hq
  have bM:=layNew_perm t es ((Ga prog w).hash k) (.int k tk);have cH:=layNew_fits t es ((Ga prog w).hash k) (.int k tk);have gg:=x4N hT es ((Ga prog w).hash k) (.int k tk);generalize hL:layNew t es ((Ga prog w).hash k) (.int k tk)=Lx at bM cH gg ⊢;obtain⟨bn,t1,wd,gave⟩:=Lx;dsimp only at bM cH gg ⊢;rw[Array.toList_push]at bM;have hel1:ElemsOf (Ga prog w) bn.toList:=(hJ.push bh rfl).perm bM
  obtain⟨gM,da,ff⟩:∃gM,C4 (bn.toList.map (·.2)) gM/\gM.Perm (ms++[k]):=by have p2:(bn.toList.map (·.2)).Perm ((es.toList++[((Ga prog w).hash k,Gm k tk)]).map (·.2)):=bM.map _;refine y4S p2 ?_;rw[Ba];exact y4R hi
  have hnd1:gM.Nodup:=ff.nodup_iff.mpr (Cc.mpr ⟨aB,by simp,fun x hx y hy z=>hm (by rw[Ae.mp hy]at z;exact z▸hx)⟩)
  have hsz1:bn.size=ms.length+1:=by rw[←B4,bM.length_eq,Ad,B4,ab];rfl
  have hV:bn.size<Ig:=by omega
  have il:∀x,x∈gM↔x∈ms∨x=k:=fun x=>by rw[ff.mem_iff,Aw,Ae]
  have bp:gM.length≤ms.length+1:=by rw[ff.length_eq,Ad];exact Ak _
  have fx:∀{h0:C5} {o0:Ji} {es0:Array (Int×A8)} {iX:Nat} {t0 t2:D3} {cC:Array (Int×A8)},h0.get? a=some o0->o0.ExactSet->o0.data = .set es0 iX t0->cC.toList.Perm bn.toList->t2.fits cC.size=true->Tb (!y9U w) t2 ->
    (h0.update a (Kr cC t2)).get? a=some { o0 with data:=.set cC (iX+1) t2 }/\∃ck,y7H prog w (h0.update a (Kr cC t2)) a ck/\(∀x,x∈ck↔x∈ms∨x=k)/\ck.length≤ms.length+1:=fun {h0 o0 es0 iX t0 t2 cC} g0 x0 d0 p2 f2 b2=>by
   have hg:(h0.update a (Kr cC t2)).get? a=some { o0 with data:=.set cC (iX+1) t2 }:=by
    have:=E5 (Kr cC t2) g0 (by rw[putSet_of cC t2 d0];rfl)
    rw[putSet_of cC t2 d0]at this;exact this
   obtain⟨ck,dg,fP⟩:=y4S (p2.map (·.2)) da
   have hsz2:cC.size=bn.size:=by rw[←B4,p2.length_eq,B4]
   exact⟨hg,ck,⟨_,cC,iX+1,t2,hg,x0,rfl,hel1.perm p2,dg,fP.nodup_iff.mpr hnd1,by rw[hsz2];exact hV,f2,b2⟩,fun x=>by rw[fP.mem_iff];exact il x,by rw[fP.length_eq];exact bp⟩
  have tail:∀(t2:D3),t2.fits bn.size=true->Tb (!y9U w) t2->∀{R:Option Bool->Ah->Prop},(∀h',F3 a s.heap h'->(∃ck,y7H prog w h' a ck/\(∀x,x∈ck↔x∈ms∨x=k)/\ck.length≤ms.length+1)->R (some true) { s with heap:=h' })->∀{g:Bool->Sem Unit},
    (∀(b:Bool) (s₁:Ah) (Q':Unit->Ah->Prop),Q' () s₁->Aq (B3 prog w) A (g b) Q' E s₁) ->
    Aq (B3 prog w) A (do
     storeSet a bn t2
     if (!wd&&t2.tooFull)=true then do
       g (L4 t2 bn (Fn bn.size)).2.2
       storeSet a (L4 t2 bn (Fn bn.size)).1 (L4 t2 bn (Fn bn.size)).2.1
       Ck (some true)
      else Ck (some true)) R E s:=fun t2 f2 b2 {R} hR {g} hg=>by
   refine A4 (wpAny_storeSet_of ho hd ?_ (fits_of_scanBound hV));obtain⟨g1,ms1',G1⟩:=fx ho eA hd (Gj _) f2 b2;have sb1:=Di s.heap a (Kr bn t2);split
   ·have hp:=relayAll_perm t2 bn (Fn bn.size);have bJ:=relayAll_fits t2 bn (Fn bn.size);have htr:=x7H b2 bn (Fn bn.size);generalize L4 t2 bn (Fn bn.size)=Rl at hp bJ htr ⊢;obtain⟨cC,t3,gave2⟩:=Rl;dsimp only at hp bJ htr ⊢
    have hsz:cC.size=bn.size:=by rw[←B4,hp.length_eq,B4]
    refine A4 (hg _ _ _ (A4 (wpAny_storeSet_of g1 rfl ?_ (fits_of_scanBound (by rw[hsz];exact hV)))))
    obtain⟨_,ms2',G2⟩:=fx g1 eA rfl hp bJ htr;exact wpAny_pure (hR _ (sb1.trans (Di _ a _)) ⟨ms2',G2⟩)
   ·exact wpAny_pure (hR _ sb1 ⟨ms1',G1⟩)
  refine A4 (hgw _ ?_);have jn:∀h',F3 a s.heap h'->(∃ck,y7H prog w h' a ck/\(∀x,x∈ck↔x∈ms∨x=k)/\ck.length≤ms.length+1)->Q true { s with heap:=h' }:=fun h' sb ⟨ck,G,m,l⟩=>h _ h' ck sb G m l;have hgg:∀(b:Bool) (s₁:Ah) (Q':Unit->Ah->Prop),Q' () s₁->Aq (B3 prog w) A (match b with|true=>rule "set.scan.the-table-gave-way" |false=>Ck ()) Q' E s₁:=fun b s₁ Q' q=>hgw b q
  split
  ·refine A4 ?_;rw[hashByValue_scannable 8 rfl];refine wpAny_pure ?_;refine tail _ ?_ ?_ (fun h' sb z=>?_) hgg
   ·exact cH
   ·exact gg
   ·dsimp only;exact wpAny_pure (jn h' sb z)
  ·refine A4 (wpAny_pure ?_);simp only[↓reduceIte];refine tail _ cH gg (fun h' sb z=>?_) hgg;dsimp only;exact wpAny_pure (jn h' sb z)
theorem z94{it S:Ap}{fp:List Ap}{n:Nat}{val:Nat->Int}{Sx:Nat->C5->Prop}{R:Js->Ah->Prop}(W:M4 prog w A.in1 it fp [it] n (fun i v=>∃t,v = .int (val i) t) Sx)(gR:S∉fp)(bi:it∈fp)(hb:n+1<Ig):
  ∀(r i:Nat) (s:Ah) (ms:List Int),n-i=r->i≤n->Sx i s.heap->y7H prog w s.heap S ms->ms.length≤i ->
   (∀h' tk bI,(∀b o,b≠S->b≠it->s.heap.get? b=some o->h'.get? b=some o)->y7H prog w h' S bI->(∀x,x∈bI↔x∈ms∨∃j,i≤j/\j<n/\x=val j)->R (.ok (.ret .none)) { s with heap:=h',toks:=tk }) ->
   Dl (B3 prog w) A (.builtin "set.update.loop" ⟨[.ref S,.ref it],[]⟩) R s
 | 0,i,s,ms,hr,hi,hx,hS,hl,hR=>by
  have iK:i=n:=by omega
  subst iK;have hSi:S≠it:=fun z=>gR (z▸bi);refine codeAny_builtin PyProof.Rows.F.entry_set_update_loop ?_;rw[Bx El _];show Aq _ A.in1 (Ic (.ref it) >>= _) _ _ s;refine A4 (W.done s _ _ hx fun h' tk hk=>wpAny_pure (hR h' tk ms (fun b o _ h2 e=>hk b o (by simpa using h2) e) ?_ fun x=>?_))
  ·obtain⟨o,es,ep,t,ho,z⟩:=hS;exact⟨o,es,ep,t,hk _ _ (by simpa using hSi) ho,z⟩
  ·constructor
   ·exact .inl
   ·rintro (z|⟨j,h1,h2,_⟩)
    ·exact z
    ·omega
 |r+1,i,s,ms,hr,hi,hx,hS,hl,hR=>by
  have al:i<n:=by omega
  have hSi:S≠it:=fun z=>gR (z▸bi);refine codeAny_builtin PyProof.Rows.F.entry_set_update_loop ?_;rw[Bx El _];show Aq _ A.in1 (Ic (.ref it) >>= _) _ _ s;refine A4 (W.item i s _ _ al hx fun v h1 tk1 hv hx1 hk1=>?_);obtain⟨t,rfl⟩:=hv
  have bW:y7H prog w h1 S ms:=by obtain⟨o,es,ep,t,ho,z⟩:=hS;exact⟨o,es,ep,t,hk1 _ _ (by simpa using hSi) ho,z⟩
  show Aq _ A.in1 (Gb [Gm (val i) t] (setAdd S (.int (val i) t)) >>= _) _ _ _;refine A4 (Cr ?_);unfold setAdd;refine Cr (A4 ((Ga prog w).pyHash (k:=val i) (intKind_is _ _ _ _) ?_));refine w7X bW (by omega) fun b h2 ck sb hS2 dm hl2=>?_;refine wpAny_pure ⟨plainId_quiet El _,z94 W gR bi hb r (i+1) _ ck (by omega) al ?_ hS2 (by omega) fun h3 tk3 ms3 jg hS3 hm3=>?_⟩
  ·exact W.frame _ _ _ hx1 fun b aU o e=>(sb.2 b (fun z=>gR (z▸aU))).trans e
  ·refine hR h3 tk3 ms3 (fun b o n1 n2 e=>jg b o n1 n2 ((sb.2 b n1).trans (hk1 b o (by simpa using n2) e))) hS3 fun x=>?_;rw[hm3,dm];constructor
   ·rintro ((z|z)|⟨j,h1,h2,h3⟩)
    ·exact .inl z
    ·exact .inr ⟨i,Ak _,al,z⟩
    ·exact .inr ⟨j,by omega,h2,h3⟩
   ·rintro (z|⟨j,h1,h2,h3⟩)
    ·exact .inl (.inl z)
    ·by_cases e:j=i
     ·subst e;exact .inl (.inr h3)
     ·exact .inr ⟨j,by omega,h2,h3⟩
end
theorem y62:M2 (.type "tuple") (.type "set")=Ck false:=by rw[isSubtype_type];kernel_rfl
theorem x08:M2 (.type "tuple") (.type "frozenset")=Ck false:=by rw[isSubtype_type];kernel_rfl
section
variable{prog:Bo}{w:C8}{A:By}{E:VP}{s:Ah}
abbrev z0N(w:C8):Ji:={ cls:=.type "set",dict:=none,data:=.set #[] 0 (.fresh 0 0 (!y9U w)) }
theorem w15(a:A8){Q₁:VP}(h:Q₁ (.ref s.heap.objs.size) { s with heap:=s.heap.push (z0N w) }):
  Dl (B3 prog w) A (.call (.builtin "set.__new__") ⟨[.type "set",a],[]⟩) (wants Q₁ E) s:=by
 refine codeAny_of_tree ?_;show Aq _ A.in1 (do checkBuiltinCall "set.__new__" ⟨[.type "set",a],[]⟩;Lh (.builtin "set.__new__" ⟨[.type "set",a],[]⟩)) _ _ s
 refine A4 (Gi (F.newCall_set_1 a) (wpAny_pure ⟨plainId_quiet F.plain_set_new _,codeAny_builtin F.entry_set_new ?_⟩));rw[Bx F.plain_set_new _];unfold Df.«set.__new__» Df.Frozenset.newClass;have cg:=sub_set_self;obtain⟨hp,g,d,tk,os⟩:=s;dsimp only
 wp_walk
 refine wpAny_askSetting (wpAny_pure ?_);dsimp only;simp only[newObj];exact A4 (wpAny_alloc (wpAny_pure (wpAny_pure h)))
theorem w2S{h:C5}{a:Ap}(ho:h.get? a=some (z0N w)):y7H prog w h a []:=
 ⟨_,#[],0,_,ho,⟨rfl,rfl,rfl⟩,rfl,fun e he=>by simp at he,.nil,Dx,by decide,by rfl,fun _=>Eh,rfl⟩
theorem y9T{l:Ap}{T:String}{ol:Ji}{n:Nat}{val:Nat->Int}{Sx:Nat->C5->Prop}{oI:Ji}{Q:VP}(fm:s.heap.get? l=some ol)(ay:ol.cls = .type T)(dW:M2 (.type T) (.type "set")=Ck false)(bH:M2 (.type T) (.type "frozenset")=Ck false)(ag:(Cf T==Cf "dict")=false)(hoI:oI.isFreed=false)(jx:∀(A':By) (E':VP) (s':Ah) (Q':VP),s'.heap.get? l=some ol->Q' (.ref s'.heap.objs.size) { s' with heap:=s'.heap.push oI }->Aq (B3 prog w) A' (Ma (.ref l)) Q' E' s')(hW:M4 prog w A.in1.in1.in1 (s.heap.objs.size+1) [s.heap.objs.size+1,l] [s.heap.objs.size+1] n (fun i v=>∃t,v = .int (val i) t) Sx)(hx:∀h,h.get? l=some ol->h.get? (s.heap.objs.size+1)=some oI->Sx 0 h)(hb:n+1<Ig)(h:∀(h':C5) (tk:Nat) (ms:List Int),y7H prog w h' s.heap.objs.size ms->(∀x,x∈ms↔∃j,j<n/\x=val j)->(∀b o,s.heap.get? b=some o->h'.get? b=some o)->Q (.ref s.heap.objs.size) { s with heap:=h',toks:=tk }):
  Aq (B3 prog w) A (call (.type "set") [.ref l]) Q E s:=by
 obtain⟨c,tl,hmro⟩:=F.called_set.mro;have hmade:=F.called_set.made;have cg:=F.called_set.sub;refine Mc (codeAny_of_tree ?_);show Aq _ _ (callAny (.type "set") _) _ _ _;refine wpAny_pure ⟨Code.quiet_builtin _ (by decide +kernel),codeAny_builtin F.entry_type_call ?_⟩;rw[By.under_plain (weight_type_call_type "set" [.ref l] []) rfl];have h1:=F.called_set.notType;have h2:=F.called_set.canCreate
 have hct:=F.typeCall_set_1 (.ref l)
 repeat (any_goals (first|assumption|wp_step))
 refine Iw (w15 (.ref l) (E:=E) (Q₁:=fun obj s₁=>obj = .ref s.heap.objs.size/\s₁={ s with heap:=s.heap.push (z0N w) }) ⟨rfl,rfl⟩) fun r s₁ hr=>?_
 cases r with
 |error e=>exact hr
 |ok fl=>
  cases fl with
  |ret obj=>
   obtain⟨rfl,rfl⟩:=hr;have hS:(s.heap.push (z0N w)).get? s.heap.objs.size=some (z0N w):=At _ rfl;have hT:Ah.TypeIs { s with heap:=s.heap.push (z0N w) } (.ref s.heap.objs.size) "set":=⟨_,hS,rfl⟩;have hli:=F.called_set.init.lookup;have hbi:=F.called_set.init.bind (.ref s.heap.objs.size)
   repeat (any_goals (first|assumption|wp_step))
   refine Iw (codeAny_call_builtin (R:=wants (fun r s₂=>r = .none/\∃h' tk ms,s₂={ s with heap:=h',toks:=tk }/\y7H prog w h' s.heap.objs.size ms/\(∀x,x∈ms↔∃j,j<n/\x=val j) /\
     (∀b o,s.heap.get? b=some o->h'.get? b=some o)) E) F.called_set.init.plain F.entry_set_init (check_set_init_1 hT ?_)) fun r₂ s₂ hr₂=>?_
   ·obtain⟨ocls,iB,iC,gD⟩:=ol;have hcl':ocls = .type T:=ay;subst hcl';have jl:(s.heap.push (z0N w)).get? l=some { cls:=.type T,dict:=iB,data:=iC,slots:=gD }:=Aa _ fm;unfold Df.«set.__init__» noKeywords Df.Frozenset.updateFrom;generalize hPI:Ma=PI
    wp_walk
    subst hPI;refine jx _ _ _ _ jl ?_;have hz:(s.heap.push (z0N w)).objs.size=s.heap.objs.size+1:=Cw ..;rw[hz];refine A4 (L1 ?_);have hlS:l<s.heap.objs.size:=Am fm
    have gR:s.heap.objs.size∉[s.heap.objs.size+1,l]:=by simp only[Af,Kc,or_false,not_or];exact⟨Ar (Dr _),D0 hlS⟩
    have gI:((s.heap.push (z0N w)).push oI).get? (s.heap.objs.size+1)=some oI:=by have g:=At (s.heap.push (z0N w)) (o:=oI) hoI;rw[hz]at g;exact g
    refine z94 hW gR A6 hb (n-0) 0 _ [] rfl (Bf _) (hx _ (Aa _ jl) gI) (w2S (Aa _ hS)) (Bf _) fun h' tk ms hk hG hm=>?_;refine wpAny_pure (wpAny_pure ⟨rfl,h',tk,ms,rfl,hG,fun x=>?_,fun b o e=>?_⟩)
    ·rw[hm];constructor
     ·rintro (z|⟨j,_,z⟩)
      ·cases z
      ·exact⟨j,z⟩
     ·rintro ⟨j,z⟩;exact .inr ⟨j,Bf _,z⟩
    ·have hV:=Am e;exact hk b o (Ar hV) (Ar (C6 hV)) (Aa _ (Aa _ e))
   ·cases r₂ with
    |error e=>exact hr₂
    |ok fl₂=>
     cases fl₂ with
     |ret r=>
      obtain⟨rfl,h',tk,ms,rfl,hG,hm,hk⟩:=hr₂
      repeat (any_goals (first|assumption|wp_step))
      exact h _ _ _ hG hm hk
     |_=>exact hr₂.elim
  |_=>exact hr.elim
end
end L3
namespace L3
open PySem PySem.Spec PyProof.Rows L2 PySem.SeqAt
noncomputable def z5U:List Int->List Int
 | []=>[]
 |x::xs=>if x∈z5U xs then z5U xs else x::z5U xs
theorem z32:∀{xs:List Int} {y:Int},y∈z5U xs↔y∈xs
 | [],y=>Iff.rfl
 |x::xs,y=>by
  unfold z5U;by_cases h:x∈z5U xs
  ·rw[if_pos h,z32,Af];constructor
   ·exact .inr
   ·rintro (z|z)
    ·rw[z];exact z32.mp h
    ·exact z
  ·rw[if_neg h,Af,Af,z32]
theorem z3L:∀xs:List Int,(z5U xs).Nodup
 | []=>Dx
 |x::xs=>by
  unfold z5U;by_cases h:x∈z5U xs
  ·rw[if_pos h];exact z3L xs
  ·rw[if_neg h];exact Bz.mpr ⟨h,z3L xs⟩
theorem y8M{α:Type}:∀{xs ys:List α},xs.Nodup->ys.Nodup->(∀a,a∈xs↔a∈ys)->xs.Perm ys
 | [],ys,_,_,h=>by
  cases ys with
  |nil=>exact Gj _
  |cons y ys=>exact absurd ((h y).mpr A6) (by simp)
 |x::xs,ys,hx,hy,h=>by
  have hm:x∈ys:=(h x).mp A6;obtain⟨k,hk,e⟩:=Ek hm;have p:=erase_perm ys k hk;rw[e]at p;have hy':=Bz.mp (p.nodup_iff.mp hy);have aI:=Bz.mp hx;refine(List.Perm.cons x (y8M aI.2 hy'.2 fun a=>?_)).trans p.symm;constructor
  ·intro ha
   have:=p.mem_iff.mp ((h a).mp (A7 _ ha))
   rcases Af.mp this with z|z
   ·rw[z]at ha;exact absurd ha aI.1
   ·exact z
  ·intro ha
   have:=(h a).mpr (p.mem_iff.mpr (A7 _ ha))
   rcases Af.mp this with z|z
   ·rw[z]at ha;exact absurd ha hy'.1
   ·exact z
section
variable{X:Cx}
noncomputable abbrev w6T(X:Cx)(a:Ap)(ms:List Int):HO:=.ext fun h=>y7H X.prog X.w h a ms
theorem w16{H:Hp}{h:C5}{a:Ap}{ms:List Int}(G:y7H X.prog X.w h a ms):z1D X.prog X.w H h a (w6T X a ms):=by obtain⟨o,es,ep,t,ho,z⟩:=G;refine⟨⟨o,es,ep,t,ho,z⟩,⟨o,ho⟩,fun h1 h2 hz k=>?_⟩;obtain⟨o',dy,fH,t',bU,z'⟩:=hz;exact⟨o',dy,fH,t',k _ bU,z'⟩
def w4G(X:Cx):List V->Hp->VK->Prop:=fun xs H Q=>∃(p:Ap) (ns:List Int),xs=[.ref p]/\(SqL X.K H p (ns.map V.int)∨SqT X.K H p (ns.map V.int))/\ns.length+1<Ig/\∀(a:Ap) (ms:List Int),H a=none->ms.Nodup->(∀x,x∈ms↔x∈ns)->Q (.ref a) (upd H a (w6T X a ms))
theorem x1J(hc:X.calm=true):z0X X (.type "set") (w4G X):=by
 intro aa s σ H xs us Q I r h;obtain⟨p,ns,rfl,hq,hb,q⟩:=h;obtain⟨u,rfl,rx⟩:=z3K r;cases rx;have hh:X.A.handled=none:=I.ok.hd hc
 have fin:∀(h':C5) (tk:Nat) (ms:List Int),y7H X.prog X.w h' s.heap.objs.size ms->(∀x,x∈ms↔∃j,j<ns.length/\x=ns.getD j 0)->(∀b o,s.heap.get? b=some o->h'.get? b=some o)->EP X aa σ Q (.ref s.heap.objs.size) { s with heap:=h',toks:=tk }:=fun h' tk ms G hm hk=>by
  refine⟨.ref s.heap.objs.size,_,I.laid (t':=tk) hk (Ak _) (w16 G),rfl,q _ ms (I.hok.fresh (Ak _)) ?_ fun x=>?_⟩
  ·obtain⟨o,es,ep,t,ho,eA,hd,hJ,hi,aB,_⟩:=G;exact aB
  ·rw[hm];constructor
   ·rintro ⟨j,hj,rfl⟩;rw[K4 (A3 hj)];exact Bw hj
   ·intro hx;obtain⟨j,hj,e⟩:=Ek hx;exact⟨j,hj,by rw[K4 (A3 hj),e]⟩
 rcases hq with hq|hq
 ·obtain⟨its,rv,pl,hz⟩:=I.list hq;have hi:C4 its ns:=Y1 rv;have hl:=hi.length
  have fI:its.toArray.size=ns.length:=by simp[hl]
  obtain⟨ol,fm,ay,nl,ie⟩:=pl.isList;have ah:p<s.heap.objs.size:=Am fm;have vn:∀(i:Nat) (v:A8),its.toArray[i]?=some v->∃t,v = .int (ns.getD i 0) t:=fun i v hv=>C4.int_at hi i v (by simpa using hv);have W0:=M4.list (prog:=X.prog) (w:=X.w) (A:=X.A.in1.in1.in1) hh (s.heap.objs.size+1) p (Ar (C6 ah)) its.toArray
  refine y9T (T:="list") (n:=ns.length) (val:=fun i=>ns.getD i 0) (oI:={ cls:=.type "list_iterator",data:=.fields #[.ref p,.int 0 0] }) (Sx:=fun i h=>h.IsListIter (s.heap.objs.size+1) p i/\h.IsList p its.toArray) fm ay F.sub_list_set F.sub_list_frozenset (by decide) rfl
   (fun A' E' s' Q' g q'=>Hr ⟨ol,g,ay,nl,ie⟩ q')
   ⟨W0.sub,W0.frame,fun i s1 Q1 E1 da st hQ=>W0.item i s1 Q1 E1 (by simpa [hl] using da) st fun v h' tk hP a b=>hQ v h' tk (vn i v hP) a b,fun s1 Q1 E1 st hQ=>W0.done s1 Q1 E1 (by rw[fI];exact st) hQ,W0.self⟩
   (fun h' g1 g2=>⟨⟨_,g2,rfl,rfl⟩,⟨ol,g1,ay,nl,ie⟩⟩) hb fin
 ·obtain⟨its,rv,pl,hz⟩:=I.tuple hq;have hi:C4 its ns:=Y1 rv;have hl:=hi.length
  have fI:its.toArray.size=ns.length:=by simp[hl]
  obtain⟨ol,fm,ay,nl,ie⟩:=pl;have ah:p<s.heap.objs.size:=Am fm;have vn:∀(i:Nat) (v:A8),its.toArray[i]?=some v->∃t,v = .int (ns.getD i 0) t:=fun i v hv=>C4.int_at hi i v (by simpa using hv);have W0:=M4.tuple (prog:=X.prog) (w:=X.w) (A:=X.A.in1.in1.in1) hh (s.heap.objs.size+1) p (Ar (C6 ah)) its.toArray
  refine y9T (T:="tuple") (n:=ns.length) (val:=fun i=>ns.getD i 0) (oI:={ cls:=.type "tuple_iterator",data:=.fields #[.ref p,.int 0 0] }) (Sx:=fun i h=>h.IsTupleIter (s.heap.objs.size+1) p i/\h.IsTuple p its.toArray) fm ay y62 x08 (by decide) rfl
   (fun A' E' s' Q' g q'=>E6 ⟨ol,g,ay,nl,ie⟩ q')
   ⟨W0.sub,W0.frame,fun i s1 Q1 E1 da st hQ=>W0.item i s1 Q1 E1 (by simpa [hl] using da) st fun v h' tk hP a b=>hQ v h' tk (vn i v hP) a b,fun s1 Q1 E1 st hQ=>W0.done s1 Q1 E1 (by rw[fI];exact st) hQ,W0.self⟩
   (fun h' g1 g2=>⟨⟨_,g2,rfl,rfl⟩,⟨ol,g1,ay,nl,ie⟩⟩) hb fin
def w1G(X:Cx):List V->Hp->VK->Prop:=fun xs H Q=>∃(a:Ap) (ms:List Int),xs=[.ref a]/\H a=some (w6T X a ms)/\Q (.int ms.length) H
theorem y7A:z0X X (.builtin "len") (w1G X):=by intro aa s σ H xs us Q I r h;obtain⟨a,ms,rfl,hH,q⟩:=h;obtain⟨u,rfl,rx⟩:=z3K r;cases rx;obtain⟨o,es,ep,t,ho,eA,hd,hJ,hi,aB,hb,hf,hT⟩:y7H X.prog X.w s.heap a ms:=(I.hok a _ hH).1;have hl:=hi.length;rw[A0,B4]at hl;refine call_len_set ho eA hd hf (by unfold Ig at hb;omega) ⟨.int ms.length,H,I.tok _,⟨_,by rw[hl]⟩,q⟩
variable{e:Expr}{fa:EL}{p p2 pos aJ:F2}
def dSortSet(fa:EL):EL:=fun ρ=>match fa ρ with
 |some ds=>(match W8 ds with|some ns=>if ns.length<64 then some ((y24 (z5U ns)).map D.int) else none|none=>none)
 |none=>none
def z1C(fa:EL):ED:=fun ρ=>match fa ρ with
 |some ds=>(match W8 ds with|some ns=>if ns.length<4000 then some (.int (z5U ns).length) else none|none=>none)
 |none=>none
theorem w12{K:A5}{Z:List Ap}{H:Hp}{a:Ap}{xs:List V}{ns:List Int}(hq:SqL K H a xs∨SqT K (J3 Z H) a xs)(rr:j7 K (J3 Z H) (ns.map D.int) xs):SqL K H a (ns.map V.int)∨SqT K H a (ns.map V.int):=by rw[Q8]at rr;subst rr;exact hq.imp id (u9 x4)
theorem z74(hc:X.calm=true)(hm:X.mg "len" = none)(hms:X.mg "set" = none)(ha:ZQ X e fa)(hg:Gl X "len":=by rfl)(hgs:Gl X "set":=by rfl)(hv:B5 "len" = some (.builtin "len"):=by decide +kernel)(dN:B5 "set" = some (.type "set"):=by decide +kernel)(he:Ac [e] X.env=(false,C0 e X.env)::Ac [] X.env:=by exact v5 rfl)(ah:(Bs aJ (Ac [] X.env)).any (·.1)=false:=by exact j8 rfl)(bV:Ac [.Call (.Name "set" p2) [e] [] aJ] X.env=(false,C0 (.Call (.Name "set" p2) [e] [] aJ) X.env)::Ac [] X.env:=by exact v5 rfl)(dF:(Bs pos (Ac [] X.env)).any (·.1)=false:=by exact j8 rfl):ZE X (.Call (.Name "len" p) [.Call (.Name "set" p2) [e] [] aJ] [] pos) (z1C fa):=
 ⟨have ha:=ha.h;
 u7 (z1V y7A hg hm hv (g9 (z0M (x1J hc) hgs hms dN (g9 ha Y0 he) (by decide) (by decide) he ah) Y0 bV) (by decide) (by decide) bV dF) fun σ H Q h_=>by
  refine ex6 h_ fun ρ es B H0 V0 Z e1 r q=>?_;unfold z1C at e1;split at e1
  ·rename_i ds aD;split at e1
   ·rename_i ns hn;split at e1
    ·rename_i fB;cases e1;have gP:=W3 hn;subst gP;refine⟨ρ,_,B,H0,V0,Z,aD,r,fun a xs H1 s1 hq rr=>⟨a,ns,rfl,w12 hq rr,by unfold Ig;omega,fun b ms hb aB aG=>?_⟩⟩
     have pm:ms.Perm (z5U ns):=y8M aB (z3L ns) fun x=>by rw[aG,z32]
     refine⟨b,ms,rfl,x9,q _ _ (s1.trans (j4 hb)) (w6.mpr ?_)⟩;rw[pm.length_eq]
    ·cases e1
   ·cases e1
  ·cases e1⟩
end
end L3
namespace L3
open PySem PySem.Spec PyProof.Rows L2
structure StandsL(K:A5)(mg:Bb->Option A8)(x:Bb)(st:Db):Prop where
 ex:∃f fd,Fun K x x st f fd/\mg x=some (.ref f)/\z9Q K fd.code x=true
theorem w3S{P:Bo}{w:C8}{K:A5}{mg:Bb->Option A8}{base:C5}{x:Bb}{st:Db}{N ps:List Bb}{k n:Nat}{g:EO}(G:StandsL K mg x st)(S:FnScope N ps (v6 st))(hb:∀(kV av pm:A8) (an:Option Ap) (am ct:A8) (us:List A8),us.length=ps.length->Ge (Dm x x (z2A st) (z05 st) (v6 st) .none kV av pm an am ct) ⟨us,[]⟩=Ck (ps.zip us))(hn:ps.length=n) (ap:∀(f:Ap) (am:A8) (A:By) (outer:List Ls) (s:Ah) (H:Hp) (E:XK),z9Q K am x=true->Room k (A.deeper (Is x (v6 st) s.heap.objs.size f am)) ->
   ZB (x1H CX0 P w K mg base N x (v6 st) f am A outer s H E).nox (z05 st) g):FnD P w K mg base (k+1) x ps (dFn n N g):=by
 have ap:=fun f am A outer s H E hl hr=>(ap f am A outer s H E hl hr).h;obtain⟨f,fd,G1,G2,G3⟩:=G.ex;refine⟨f,fd,?_,G2,G1.kp,G1.binds hb⟩;obtain⟨oc,od,kV,av,pm,an,am,ct,dO,rfl,lk,aV⟩:=G1.ex;refine w60 lk aV S (fun vs H Q E h=>?_) fun A outer s H vs Q E hr h=>?_
 ·obtain⟨Z,ds,d,zs,rr,e,q⟩:=h;rw[←rr.length];unfold dFn at e;split at e
  ·rename_i hl;rw[hl,hn]
  ·cases e
 ·obtain⟨Z,ds,d,zs,rr,e,q⟩:=h
  have e2:z2F (g (z4B N ds))=some d:=by
   unfold dFn at e;split at e
   ·exact e
   ·cases e
  refine⟨_,(ap f am A outer s H E G3 hr).nox,?_⟩
  cases ho:g (z4B N ds) with
  |none=>rw[ho]at e2;cases e2
  |some o=>
   refine⟨z4B N ds,o,Z,H,J3 Z H,Z,ho,y87 zs rr,?_⟩;rw[ho]at e2
   cases o with
   |rt d'=>cases e2;exact fun v H' s' rv=>q v H' s' rv
   |nx ρ=>cases e2;exact fun σ H' Z' r'=>q .non H' r'.same (Z0.mpr rfl)
   |bk _=>cases e2
   |ct _=>cases e2
theorem x2E{X:Cx}{sts:List Db}:ZB X sts (fun _=>none):=
 ⟨fun aa s σ H E I h=>by
 obtain⟨ρ,o,B,H0,V0,Z,e,_⟩:=h
 cases e⟩
theorem mem_look{α:Type}{a:Ap}{b:α}:∀{l:List (Ap×α)},l.lookup a=some b->(a,b)∈l
 | [],h=>by cases h
 | (k,v)::l,h=>by
  rw[Bi]at h
  cases hk:a==k with
  |true=>
   rw[hk]at h
   have e:a=k:=by simpa using hk
   cases h;rw[e];exact A6
  |false=>rw[hk]at h;exact A7 _ (mem_look h)
def z96(K:A5)(ts:List (Ap×Bb)):Bool:=
 (K.all fun co=>match co.2 with
  |⟨.type "code",_,.fields vs,_⟩=>(match (vs[11]?:Option A8) with
   |some (.ref P)=>(K.lookup P).isSome||!z9R vs||(match (vs[1]?:Option A8) with|some (.str q _)=>(match ts.lookup P with|some q'=>q==q'|none=>false)|_=>false)
   |_=>true)
  |_=>true)&&(ts.all fun pq=>(K.lookup pq.1).isNone&&K.any fun co=>If K co.1 pq.1)
theorem x2T{K:A5}{ts:List (Ap×Bb)}(h:z96 K ts=true){H:Hp}(hH:∀P q,ts.lookup P=some q->H P=some (.tbl #[.str q 0])):TB K H:=fun c o vs P h1 h2 h3 h4 h5 h5'=>by
 unfold z96 at h;rw[Ax]at h;have h6:=C1.mp h.1 (c,o) (mem_look h1);obtain⟨cls,dict,data,sl⟩:=o;simp only at h2 h3;subst h2;subst h3
 have h6:(match (vs[11]?:Option A8) with
   |some (.ref P)=>(K.lookup P).isSome||!z9R vs||(match (vs[1]?:Option A8) with|some (.str q _)=>(match ts.lookup P with|some q'=>q==q'|none=>false)|_=>false)
   |_=>true)=true:=h6
 rw[h4]at h6;dsimp only at h6;rw[h5,h5']at h6;simp only[Option.isSome_none,Ju,Bool.not_true]at h6;split at h6
 ·rename_i q t hq;split at h6
  ·rename_i q' hq'
   have e:q=q':=by simpa using h6
   subst e;exact⟨q,t,hq,hH P q hq'⟩
  ·cases h6
 ·cases h6
theorem y3P{K:A5}{ts:List (Ap×Bb)}(h:z96 K ts=true){P:Ap}{q:Bb}(e:ts.lookup P=some q):K.lookup P=none/\∃c,If K c P=true:=by unfold z96 at h;rw[Ax]at h;have h6:=C1.mp h.2 (P,q) (mem_look e);rw[Ax]at h6;obtain⟨co,_,hc⟩:=Jz.mp h6.2;exact⟨by simpa using h6.1,co.1,hc⟩
theorem x4Q{P:Bo}{w:C8}{K:A5}{mg mb:Bb->Option A8}{k:Nat}{fa a:Ap}{fd:Ep}{x:Bb}{sp:Sp}{s₁:Ah}{vs:List A8}{ns:List Int}{ts:List (Ap×Bb)}(KX:K.In s₁.heap)(ba:s₁.heap.Ns Ct mg)(hb:s₁.heap.Ns He mb)(hbb:∀x:Bb,x≠"__name__"->mb x=B5 x)(hlim:s₁.heap.NoLimit)(hbm:∃bm ob,mg "__builtins__" = some (.ref bm)/\bm≠He/\s₁.heap.get? bm=some ob/\ob.cls = .type "module"/\ob.dict=some He/\ob.data = .plain)(hg:s₁.gens = #[])(ha:s₁.heap.get? a=some { cls:=.type "list",data:=.seq vs.toArray })(hi:C4 vs ns)(hl:ns.length≤sizeLine)(hr:Room k La)(iN:z96 K ts=true)(jy:∀P q,ts.lookup P=some q->s₁.heap.get? P=some { cls:=.none,data:=.fields #[] })(F:∀base:C5,K.In base->base.Ns Ct mg->FnOk P w K mg base CX0 k fa fd [x] sp)(ia:∀(s:Ah) (u:A8),Lt s fd ⟨[u],[]⟩ [(x,u)])(fC:∀H:Hp,TB K H->SqL K H a (ns.map V.int)->sp [.ref a] H (fun v _=>v = .bl true) fun _ _ _=>False):
  Dl (B3 P w) La (.call (.ref fa) ⟨[.ref a],[]⟩) (fun r s'=>r = .ok (.ret (.bool true))/\OldK s₁.heap s'.heap/\s'.os=s₁.os/\Iv s'.gens) s₁:=by
 have rv:=y3L hi;have lenV:=hi.length
 have nota:∀q,ts.lookup a≠some q:=fun q z=>by
  have:=jy a q z
  rw[ha]at this;cases this
 have ix:∀H:Hp,(∀b,(∃q,ts.lookup b=some q/\H b=some (.tbl #[.str q 0]))∨(ts.lookup b=none/\(H b=none∨(b=a/\K.lookup a=none/\H a=some (.frz { cls:=.type "list",data:=.seq vs.toArray } (.lst (ns.map V.int)))))))->SqL K H a (ns.map V.int) ->
   Dl (B3 P w) La (.call (.ref fa) ⟨[.ref a],[]⟩) (fun r s'=>r = .ok (.ret (.bool true))/\OldK s₁.heap s'.heap/\s'.os=s₁.os/\Iv s'.gens) s₁:=fun H hH hS=>by
  have hok:HOk P w H s₁.heap:=fun b u z=>by
   rcases hH b with⟨q,e1,e2⟩|⟨e1,e2|⟨rfl,_,e2⟩⟩
   ·rw[e2]at z;cases z;exact⟨#[],jy b q e1,trivial,fun p v c=>by cases c⟩
   ·rw[e2]at z;cases z
   ·rw[e2]at z;cases z;exact⟨ha,by rw[A0];exact hl,vs,_,rv,ha⟩
  have bN:∀{b:Ap} {o:Ji},s₁.heap.get? b=some o->H b=none->(x8E s₁.heap H).get? b=some o:=fun e n=>x8D e n
  have eU:∀{b:Ap} {o:Ji} {es:Array DictEntry} {ep:Nat},s₁.heap.get? b=some o->o.data = .dict es ep->H b=none:=fun {b o es ep} e d=>by
   rcases hH b with⟨q,e1,e2⟩|⟨e1,e2|⟨rfl,_,e2⟩⟩
   ·have:=jy b q e1
    rw[e]at this;cases this;cases d
   ·exact e2
   ·rw[ha]at e;cases e;cases d
  have noM:∀{b:Ap} {o:Ji},s₁.heap.get? b=some o->o.data = .plain->H b=none:=fun {b o} e d=>by
   rcases hH b with⟨q,e1,e2⟩|⟨e1,e2|⟨rfl,_,e2⟩⟩
   ·have:=jy b q e1
    rw[e]at this;cases this;cases d
   ·exact e2
   ·rw[ha]at e;cases e;cases d
  have nsK:∀{b:Ap} {m:Bb->Option A8},s₁.heap.Ns b m->(x8E s₁.heap H).Ns b m:=fun {b m} ⟨o,es,ep,e,d,r⟩=>⟨o,es,ep,bN e (eU e d),d,r⟩
  have hKb:K.In (x8E s₁.heap H):=fun b o e=>bN (KX b o e) (by
   rcases hH b with⟨q,e1,e2⟩|⟨e1,e2|⟨rfl,e3,e2⟩⟩
   ·rw[(y3P iN e1).1]at e;cases e
   ·exact e2
   ·rw[e3]at e;cases e)
  have hM:Mod K mg (x8E s₁.heap H):=⟨hKb,nsK ba,⟨mb,nsK hb,hbb⟩,(let ⟨mc,h1,h2⟩:=hlim;⟨mc,nsK h1,h2⟩),let ⟨bm,ob,m1,m2,m3,m4,m5,m6⟩:=hbm;⟨bm,ob,m1,m2,bN m3 (noM m3 m6),m4,m5,m6⟩⟩
  have e0:Env0 P w K mg (x8E s₁.heap H) La [] s₁ H:=⟨rfl,hM,fun b o e=>w22 e,Nat.le_of_eq (x56 _ _),trivial,fun b hb=>absurd (show b∈([]:List Ap) from hb) (by simp),hok,.of_eq hg⟩
  have tb:TB K H:=x2T iN fun Q q e=>by
   rcases hH Q with⟨q',e1,e2⟩|⟨e1,_⟩
   ·rw[e]at e1;cases e1;exact e2
   ·rw[e]at e1;cases e1
  refine Iw ((F _ hKb (nsK ba)).run La [] s₁ H ⟨[.ref a],[]⟩ [.ref a] [.ref a] _ _ hr e0 (ia s₁ (.ref a)) (.cons rfl .nil) (fC H tb hS)) fun r s' h=>?_
  cases r with
  |error e=>exact F9 h
  |ok fl=>
   cases fl with
   |next=>exact F9 h
   |brk=>exact F9 h
   |cont=>exact F9 h
   |ret u=>
    obtain⟨v,H',os,bare,un,iS,r',q⟩:=h;have q':v = .bl true:=q;subst q'
    obtain rfl:u=Lo true:=r'
    refine⟨rfl,⟨fun b o e=>?_,fun b o e=>un.there b o e (by simp)⟩,os,bare⟩;rcases hH b with⟨q,e1,e2⟩|⟨e1,e2|⟨rfl,_,e2⟩⟩
    ·obtain⟨more,z2⟩:=un.tbls b _ e2;obtain⟨qs,z3,_⟩:=iS b _ z2;have e3:=jy b q e1;rw[e]at e3;cases e3;obtain⟨c,hc⟩:=(y3P iN e1).2;have ct:=(PySem.W.CodeHd.tab (PySem.W.codeHd_of_K KX hc) e).isCodeTable;exact .inr (.inl ⟨ct,rfl,#[],qs,rfl,by rw[z3];simp⟩)
    ·exact .inl (un.keep b o e e2 (by intro z;exact absurd (show b∈([]:List Ap) from z) (by simp)) (by simp))
    ·have z2:=un.frzs b _ _ e2;obtain⟨z3,_⟩:=iS b _ z2;rw[ha]at e;cases e;exact .inl z3
 cases hk:K.lookup a with
 |some o=>
  have e:=KX a o hk;rw[ha]at e;cases e;refine ix (fun b=>(ts.lookup b).map fun q=>.tbl #[.str q 0]) (fun b=>?_) (.inr ⟨_,vs.toArray,_,hk,rfl,rfl,rfl,by rw[Ag,lenV];exact hl,by simpa using rv⟩)
  cases aU:ts.lookup b with
  |none=>exact .inr ⟨rfl,.inl rfl⟩
  |some q=>exact .inl ⟨q,rfl,rfl⟩
 |none=>
  refine ix (fun b=>if b=a then some (.frz { cls:=.type "list",data:=.seq vs.toArray } (.lst (ns.map V.int))) else (ts.lookup b).map fun q=>.tbl #[.str q 0]) (fun b=>?_) (.inl (.inr ⟨{ cls:=.type "list",data:=.seq vs.toArray },if_pos rfl⟩));by_cases hba:b=a
  ·subst hba;refine .inr ⟨?_,.inr ⟨rfl,hk,if_pos rfl⟩⟩
   cases aU:ts.lookup b with
   |none=>rfl
   |some q=>exact absurd aU (nota q)
  ·cases aU:ts.lookup b with
   |none=>exact .inr ⟨rfl,.inl (if_neg hba)⟩
   |some q=>exact .inl ⟨q,rfl,if_neg hba⟩
theorem x75{l:Kv}{n k:Nat}{q:Bo}{bL:List Bb}{XP:(Bb->Option A8)->C5->Prop}{YP:C8->C5->Prop}{d:DefRec}{K:Params->A5}{sp:C8->Sp}{x:Bb}(ts:List (Ap×Bb))(hn:l.most=some n)(hn2:n≤sizeLine)(iY:d.params.defaults=[])(hr:Room k La)(hY:∀(w:C8) (h:C5),YP w h->(K w.params).In h)(hT:∀(w:C8) (h:C5),YP w h->∀P q,ts.lookup P=some q->h.get? P=some { cls:=.none,data:=.fields #[] })(hK:∀w:C8,z96 (K w.params) ts=true)
  (F:∀(w:C8) (mg:Bb->Option A8) (fa:Ap) (h:C5),(K w.params).In h->h.Ns Ct mg->mg d.name=some (.ref fa) ->
   ∃fd:Ep,(∀(s:Ah) (u:A8),Lt s fd ⟨[u],[]⟩ [(x,u)]) /\
    ∀base:C5,(K w.params).In base->base.Ns Ct mg->FnOk l.prog w (K w.params) mg base CX0 k fa fd [x] (sp w))
  (fC:∀(w:C8) (H:Hp) (a:Ap) (ns:List Int),ns.length≤n->TB (K w.params) H->SqL (K w.params) H a (ns.map V.int)->sp w [.ref a] H (fun v _=>v = .bl true) fun _ _ _=>False):
  PySem.W.WalkO q bL XP YP l.row.toRowW d [] (fun f vs=>Mi f vs):=by
 refine Att.attach_call hn iY fun w s₀ s₁ mg mb fa o pm cd av a vs ns G Y ho hd aV jt gh dB ab hg=>?_;have KX:=hY w _ Y;obtain⟨fd,hb,hF⟩:=F w mg fa _ KX G.T.g jt;exact x4Q KX G.T.g G.T.b G.T.builtins G.T.nolimit G.T.bmain hg gh dB (Bk ab hn2) hr (hK w) (fun P q e=>hT w _ Y P q e) hF hb (fun H hO hS=>fC w H a ns ab hO hS)
mutual
noncomputable def z83:D->Bool
 | .tup ds=>z4O ds
 | .lst ds=>z4O ds
 | .dct _ _=>false
 | .non=>true
 | .bl _=>true
 | .int _=>true
 | .str _=>true
noncomputable def z4O:List D->Bool
 | []=>true
 |d::ds=>z83 d&&z4O ds
end
def y38(H H':Hp):Prop:=∀b u,H b=some u->H' b=some u∨∃kvs,u=HO.dK kvs
section
variable{K:A5}{H H':Hp}
theorem y38.lst(e:y38 H H'){a:Ap}{xs:List V}(h:SqL K H a xs):SqL K H' a xs:=by
 rcases h with (h|⟨o,h⟩)|h
 ·rcases e _ _ h with z|⟨kvs,z⟩
  ·exact .inl (.inl z)
  ·cases z
 ·rcases e _ _ h with z|⟨kvs,z⟩
  ·exact .inl (.inr ⟨o,z⟩)
  ·cases z
 ·exact .inr h
theorem y38.tup(e:y38 H H'){a:Ap}{xs:List V}(h:SqT K H a xs):SqT K H' a xs:=by
 rcases h with (h|⟨o,h⟩)|h
 ·rcases e _ _ h with z|⟨kvs,z⟩
  ·exact .inl (.inl z)
  ·cases z
 ·rcases e _ _ h with z|⟨kvs,z⟩
  ·exact .inl (.inr ⟨o,z⟩)
  ·cases z
 ·exact .inr h
mutual
theorem Rep.less(e:y38 H H'):∀{d:D} {v:V},z83 d=true->Rep K H d v->Rep K H' d v
 | .non,_,_,h=>by rw[Z0]at h ⊢;exact h
 | .bl _,_,_,h=>by rw[J8]at h ⊢;exact h
 | .int _,_,_,h=>by rw[w6]at h ⊢;exact h
 | .str _,_,_,h=>by rw[W9]at h ⊢;exact h
 | .tup ds,_,n,h=>by rw[j3]at h ⊢;obtain⟨a,xs,h1,h2,h3⟩:=h;rw[z83]at n;exact⟨a,xs,h1,e.tup h2,j7.less e n h3⟩
 | .lst ds,_,n,h=>by rw[J5]at h ⊢;obtain⟨a,xs,h1,h2,h3⟩:=h;rw[z83]at n;exact⟨a,xs,h1,e.lst h2,j7.less e n h3⟩
 | .dct ks ds,_,n,h=>by rw[z83]at n;cases n
theorem j7.less(e:y38 H H'):∀{ds:List D} {vs:List V},z4O ds=true->j7 K H ds vs->j7 K H' ds vs
 | [],_,_,h=>by rw[J6]at h ⊢;exact h
 |d::ds,_,n,h=>by rw[j7]at h ⊢;obtain⟨v,vs,h1,h2,h3⟩:=h;rw[z4O,Ax]at n;exact⟨v,vs,h1,Rep.less e n.1 h2,j7.less e n.2 h3⟩
end
variable{B Z:List Ap}{H0 V0:Hp}{σ:St}{ρ:u5}
theorem SR.lend(r:SR K B H0 V0 H Z σ ρ){i:Nat}{ks:List Key}{vs:List D}(h:ρ[i]?=some (some (.od ks vs))):
  ∃a kvs,H a=some (.dK kvs)/\SR K B H0 V0 H (Z.filter fun b=>decide (b≠a)) σ (ρ.set i (some (.sh (.dct ks vs)))):=by
 obtain⟨a,o,h1,h2,h3,h4,h5,h6⟩:=r.own i (.d ks vs) h;obtain⟨kvs,rfl,_,_⟩:=h6;have dz:∀b∈Z.filter (fun b=>decide (b≠a)),b∈Z:=fun b hb=>(B2.mp hb).1;have fz:∀b,b∈Z->b≠a->b∈Z.filter (fun b=>decide (b≠a)):=fun b hb ne=>B2.mpr ⟨hb,decide_eq_true ne⟩;have na:a∉Z.filter (fun b=>decide (b≠a)):=fun z=>(of_decide_eq_true (B2.mp z).2) rfl;have mono:j6 (J3 Z H) (J3 (Z.filter fun b=>decide (b≠a)) H):=z0G dz
 have hi:i<ρ.length:=(An.mp h).1;obtain⟨a',o',q1,q2,q3,q4,q5,q6⟩:=r.own i (.d ks vs) h;rw[h1]at q1;cases q1;rw[h5]at q5;cases q5;refine⟨a,kvs,h5,r.same,r.tb,r.vis.trans mono,fun b hb=>fz b (r.sub b hb) fun z=>h3 (z▸hb),fun z hz=>r.zs z (dz z hz),fun j d q=>?_,fun j c q=>?_,fun j k c e b e1 e2 s1 s2=>?_,by rw[Ci];exact r.len⟩
 ·rcases Y6 q with⟨rfl,z,_⟩|⟨hj,q⟩
  ·cases z;exact⟨.ref a,h1,(x20.mono mono q6).rep (c:=.d ks vs) (by rw[K7 na];exact h5)⟩
  ·obtain⟨v,e1,e2⟩:=r.sh j d q;exact⟨v,e1,e2.mono mono⟩
 ·rcases Y6 q with⟨_,z,_⟩|⟨hj,q⟩
  ·exact(z5F z).elim
  ·obtain⟨b,u,e1,e2,e3,e4,e5,e6⟩:=r.own j c q;refine⟨b,u,e1,fz b e2 fun z=>?_,e3,e4,e5,e6.mono mono⟩;subst z;exact hj (r.inj i j (.d ks vs) c b h q h1 e1)
 ·rcases Y6 e1 with⟨_,z,_⟩|⟨n1,e1⟩
  ·exact(z5F z).elim
  ·rcases Y6 e2 with⟨_,z,_⟩|⟨n2,e2⟩
   ·exact(z5F z).elim
   ·exact r.inj j k c e b e1 e2 s1 s2
theorem y38.unlend{a:Ap}{kvs:List (Key×V)}(h:H a=some (.dK kvs)):y38 (J3 (Z.filter fun b=>decide (b≠a)) H) (J3 Z H):=fun b u e=>by
 obtain⟨h1,h2⟩:=W4 e;by_cases hb:b∈Z
 ·by_cases ha:b=a
  ·subst ha;rw[h]at h2;cases h2;exact .inr ⟨_,rfl⟩
  ·exact absurd (B2.mpr ⟨hb,decide_eq_true ha⟩) h1
 ·rw[K7 hb];exact .inl h2
end
def y2W(i:Nat)(f:ED):ED:=fun ρ=>match ρ[i]? with
 |some (some (.od ks vs))=>(match f (ρ.set i (some (.sh (.dct ks vs)))) with|some d=>if z83 d=true then some d else none|none=>none)
 |_=>none
section
variable{X:Cx}{e:Expr}{f:ED}
theorem y82(i:Nat)(h:ZE X e f):ZE X e (y2W i f):=
 ⟨have h:=h.h;
 u7 h fun σ H Q h_=>by
  refine ex6 h_ fun ρ d B H0 V0 Z e r q=>?_;unfold y2W at e;split at e
  ·rename_i ks vs hρ;split at e
   ·rename_i d' ed;split at e
    ·rename_i aB;cases e;obtain⟨a,kvs,ha,r'⟩:=r.lend hρ;exact⟨_,d,B,H0,V0,_,ed,r',fun v H' s rr=>q v H' s (rr.less (y38.unlend (s _ _ ha)) aB)⟩
    ·cases e
   ·cases e
  ·cases e⟩
end
noncomputable def w7L:D->Bool
 | .tup _=>false
 | .lst _=>false
 | .dct _ _=>false
 |_=>true
theorem SR.lendL{K:A5}{B Z:List Ap}{H0 V0 H:Hp}{σ:St}{ρ:u5}(r:SR K B H0 V0 H Z σ ρ){i:Nat}{ds:List D}(h:ρ[i]?=some (some (.ow ds))):
  ∃a,SR K B H0 V0 H (Z.filter fun b=>decide (b≠a)) σ (ρ.set i (some (.sh (.lst ds)))):=by
 obtain⟨a,o,h1,h2,h3,h4,h5,q6⟩:=r.own i (.l ds) h;have dz:∀b∈Z.filter (fun b=>decide (b≠a)),b∈Z:=fun b hb=>(B2.mp hb).1;have fz:∀b,b∈Z->b≠a->b∈Z.filter (fun b=>decide (b≠a)):=fun b hb ne=>B2.mpr ⟨hb,decide_eq_true ne⟩;have na:a∉Z.filter (fun b=>decide (b≠a)):=fun z=>(of_decide_eq_true (B2.mp z).2) rfl;have mono:j6 (J3 Z H) (J3 (Z.filter fun b=>decide (b≠a)) H):=z0G dz
 refine⟨a,r.same,r.tb,r.vis.trans mono,fun b hb=>fz b (r.sub b hb) fun z=>h3 (z▸hb),fun z hz=>r.zs z (dz z hz),fun j d q=>?_,fun j c q=>?_,fun j k c e b e1 e2 s1 s2=>?_,by rw[Ci];exact r.len⟩
 ·rcases Y6 q with⟨rfl,z,_⟩|⟨hj,q⟩
  ·cases z;exact⟨.ref a,h1,(x20.mono mono q6).rep (c:=.l ds) (by rw[K7 na];exact h5)⟩
  ·obtain⟨v,e1,e2⟩:=r.sh j d q;exact⟨v,e1,e2.mono mono⟩
 ·rcases Y6 q with⟨_,z,_⟩|⟨hj,q⟩
  ·exact(z5F z).elim
  ·obtain⟨b,u,e1,e2,e3,e4,e5,e6⟩:=r.own j c q;refine⟨b,u,e1,fz b e2 fun z=>?_,e3,e4,e5,e6.mono mono⟩;subst z;exact hj (r.inj i j (.l ds) c b h q h1 e1)
 ·rcases Y6 e1 with⟨_,z,_⟩|⟨n1,e1⟩
  ·exact(z5F z).elim
  ·rcases Y6 e2 with⟨_,z,_⟩|⟨n2,e2⟩
   ·exact(z5F z).elim
   ·exact r.inj j k c e b e1 e2 s1 s2
def dLendL(i:Nat)(f:ED):ED:=fun ρ=>match ρ[i]? with
 |some (some (.ow ds))=>(match f (ρ.set i (some (.sh (.lst ds)))) with|some d=>if w7L d=true then some d else none|none=>none)
 |_=>none
section
variable{X:Cx}{e:Expr}{f:ED}
noncomputable def y51(i:Nat)(f:EB):EB:=fun ρ=>match ρ[i]? with
 |some (some (.ow ds))=>f (ρ.set i (some (.sh (.lst ds))))
 |_=>none
theorem x2B{f:EB}(i:Nat)(h:ZT X e f):ZT X e (y51 i f):=
 ⟨have h:=h.h;
 z1P h fun σ H Q h_=>by
  refine ex6 h_ fun ρ d B H0 V0 Z e r q=>?_;unfold y51 at e;split at e
  ·rename_i ds hρ;obtain⟨a,r'⟩:=r.lendL hρ;exact⟨_,d,B,H0,V0,_,e,r',q⟩
  ·cases e⟩
end
noncomputable def z3B:Nat->(EB)->(EO)->EO
 | 0,_,_,_=>none
 |n+1,fc,g,ρ=>match fc ρ with
  |some true=>(match g ρ with
   |some (.nx ρ')=>z3B n fc g ρ'
   |some (.ct ρ')=>z3B n fc g ρ'
   |some (.bk ρ')=>some (.nx ρ')
   |some (.rt v)=>some (.rt v)
   |none=>none)
  |some false=>some (.nx ρ)
  |none=>none
section
variable{X:Cx}{c:Expr}{body:List Db}{fc:EB}{g:EO}{pos:F2}
theorem y3F(n:Nat)(hp:L9 (B3 X.prog X.w) X.A X.env X.xe)(hc:ZT X c fc)(hb:ZB X body g):ZS X (.While c body [] pos) (z3B n fc g):=
 ⟨have hc:=hc.h;
 have hb:=hb.h;
 z0F (x7N hp hc hb) fun E σ H h_=>by
  refine ex6 h_ fun ρ o B H0 V0 Z e r q=>?_;refine⟨fun m σ' H'=>∃ρ' Z',z3B m fc g ρ'=some o/\SR X.K B H0 V0 H' Z' σ' ρ',⟨n,ρ,Z,e,r⟩,?_⟩;rintro m σ1 H1 ⟨ρ1,Z1,e1,r1⟩
  cases m with
  |zero=>cases e1
  |succ m=>
   unfold z3B at e1
   cases hf:fc ρ1 with
   |none=>rw[hf]at e1;cases e1
   |some b=>
    rw[hf]at e1
    cases b with
    |false=>
     cases e1;exact⟨ρ1,false,B,H0,V0,Z1,hf,r1,fun H2 s2=>w04 (q σ1 H2 Z1 (r1.mono s2))⟩
    |true=>
     refine⟨ρ1,true,B,H0,V0,Z1,hf,r1,fun H2 s2=>x8A ⟨fun σ' H'=>∃ρ' Z',z3B m fc g ρ'=some o/\SR X.K B H0 V0 H' Z' σ' ρ',fun σ' H' ⟨ρ',Z',h1,h2⟩=>⟨m,Dr m,ρ',Z',h1,h2⟩,?_⟩⟩;dsimp only at e1
     cases hg:g ρ1 with
     |none=>rw[hg]at e1;cases e1
     |some og=>
      rw[hg]at e1
      cases og with
      |nx ρ2=>exact⟨ρ1,.nx ρ2,B,H0,V0,Z1,hg,r1.mono s2,fun σ' H' Z' r'=>⟨ρ2,Z',e1,r'⟩⟩
      |ct ρ2=>exact⟨ρ1,.ct ρ2,B,H0,V0,Z1,hg,r1.mono s2,fun σ' H' Z' r'=>⟨ρ2,Z',e1,r'⟩⟩
      |bk ρ2=>cases e1;exact⟨ρ1,.bk ρ2,B,H0,V0,Z1,hg,r1.mono s2,fun σ' H' Z' r'=>q σ' H' Z' r'⟩
      |rt v=>
       cases e1
       exact⟨ρ1,.rt v,B,H0,V0,Z1,hg,r1.mono s2,fun v' H' s' rr=>q v' H' s' rr⟩⟩
def x1G(i:Nat)(f:ED):EO:=fun ρ=>match z8 i ρ with
 |some (.int a)=>(match f ρ with|some (.int b)=>some (.nx (ρ.set i (some (.sh (.int (a+b))))))|_=>none)
 |_=>none
theorem y7Y{i:Nat}{x:Bb}{e:Expr}{f:ED}{aF:F2}(he:ZE X e f)(hN:X.N.Nodup)(hi:X.N[i]?=some x:=by rfl)(hx:Loc X.env.scope x:=by first|exact Dw rfl|exact D2 rfl)(hf:X.fn x=true∨X.env.scope.names.lookup x=some .local:=by first|exact .inl rfl|exact .inr rfl):ZS X (.AugAssign (.Name x aF) .Add e pos) (x1G i f):=
 ⟨have he:=he.h;
 z0F (w4T hN hi hx he w5Z hf) fun E σ H h_=>by
  refine ex6 h_ fun ρ o B H0 V0 Z e r q=>?_;unfold x1G at e
  cases hv:z8 i ρ with
  |none=>rw[hv]at e;cases e
  |some d=>
   rw[hv]at e
   cases d with
   |int a=>
    dsimp only at e
    cases hf':f ρ with
    |none=>rw[hf']at e;cases e
    |some d2=>
     rw[hf']at e
     cases d2 with
     |int b=>
      cases e;obtain⟨v,h1,h2⟩:=r.sh i _ (y4X hv)
      obtain rfl:=w6.mp h2
      refine⟨_,h1,ρ,.int b,B,H0,V0,Z,hf',r,fun y H1 s1 r1=>?_⟩
      obtain rfl:=w6.mp r1
      exact⟨a,b,rfl,rfl,q _ H1 Z ((r.mono s1).set (w6.mpr rfl))⟩
     |non=>cases e
     |bl _=>cases e
     |str _=>cases e
     |tup _=>cases e
     |lst _=>cases e
     |dct _ _=>cases e
   |non=>cases e
   |bl _=>cases e
   |str _=>cases e
   |tup _=>cases e
   |lst _=>cases e
   |dct _ _=>cases e⟩
noncomputable def w7T:List V->Hp->VK->Prop:=fun xs H Q=>∃a kvs,xs=[.ref a]/\Rd H a (.dK kvs)/\Q (.int kvs.length) H
theorem x63:z0X X (.builtin "len") w7T:=by
 intro aa s σ H xs vs Q I rv h;obtain⟨a,kvs,rfl,e,q⟩:=h
 cases rv with
 |cons r1 r2=>cases r2;cases r1;exact w7P I e fun t s' I'=>⟨.int kvs.length,H,I',⟨t,rfl⟩,q⟩
noncomputable def y76(f:ED):ED:=fun ρ=>match f ρ with|some (.dct ks _)=>some (.int ks.length)|_=>none
theorem y83{a:Expr}{p:F2}{f:ED}(hm:X.mg "len" = none)(h:ZE X a f)(hg:Gl X "len":=by rfl)(he:Ac [a] X.env=(false,C0 a X.env)::Ac [] X.env:=by exact v5 rfl)(ah:(Bs pos (Ac [] X.env)).any (·.1)=false:=by exact j8 rfl):ZE X (.Call (.Name "len" p) [a] [] pos) (y76 f):=
 ⟨have h:=h.h;
 u7 (z1V x63 hg hm PySem.boot_len (g9 h Y0 he) (by decide) (by decide) he ah) fun σ H Q h_=>by
  refine ex6 h_ fun ρ d B H0 V0 Z e r q=>?_;unfold y76 at e
  cases hf:f ρ with
  |none=>rw[hf]at e;cases e
  |some d'=>
   rw[hf]at e
   cases d' with
   |dct ks vs=>cases e;refine⟨ρ,_,B,H0,V0,Z,hf,r,fun v H' s rr=>?_⟩;obtain⟨a',kvs,rfl,h1,h2,_⟩:=Z8.mp rr;exact⟨a',kvs,rfl,.inl (W4 h1).2,q _ H' s (by rw[←h2,A0];exact w6.mpr rfl)⟩
   |non=>cases e
   |bl _=>cases e
   |int _=>cases e
   |str _=>cases e
   |tup _=>cases e
   |lst _=>cases e⟩
end
def w1E:V->List V->Hp->VK->Prop:=fun x xs H Q=>∃a kvs k y,x = .ref a/\xs=[kV k,y]/\H a=some (.dK kvs)/\kvs.length<sizeLine/\(∀v,y0I kvs k=some v->Q v H)/\(y0I kvs k=none->Q y (upd H a (.dK (z9C kvs k y))))
def z4P(kvs more:List (Key×V)):List (Key×V):=more.foldl (fun af kv=>z9C af kv.1 kv.2) kvs
def w1D:V->List V->Hp->VK->Prop:=fun x xs H Q=>∃a b kvs more,x = .ref a/\xs=[.ref b]/\a≠b/\H a=some (.dK kvs)/\H b=some (.dK more)/\kvs.length+more.length≤sizeLine/\Q .non (upd H a (.dK (z4P kvs more)))
theorem z6P:∀(more kvs:List (Key×V)),(z4P kvs more).length≤kvs.length+more.length
 | [],kvs=>Ak _
 |p::r,kvs=>by have h1:=z6P r (z9C kvs p.1 p.2);have h2:=z3Q kvs p.1 p.2;show (z4P (z9C kvs p.1 p.2) r).length≤_;rw[Ay];omega
theorem KV.merge:∀{more:List (Key×V)} {ms:List (Key×A8)},KV more ms->∀{kvs:List (Key×V)} {vs:List (Key×A8)},KV kvs vs->KV (z4P kvs more) (merged vs ms):=fun {more ms} h=>by
 unfold KV at h
 induction h with
 |nil=>intro kvs vs r;exact r
 | @cons p q ps qs hq t ih=>
  intro kvs vs r
  have:=KV.put r p.1 hq.2
  rw[hq.1]at this;show KV (z4P (z9C kvs p.1 p.2) ps) (merged (stored vs q.1 q.2) qs);rw[hq.1];exact ih this
section
variable{X:Cx}
theorem x46:MtR X "dict.setdefault" w1E:=by
 intro aa s σ H x xs v us Q I rx rv h;obtain⟨a,kvs,k,y,rfl,rfl,e,hl,q1,q2⟩:=h;cases rx;obtain⟨u1,u2,rfl,r1,r2⟩:=rv.two;obtain⟨z,hd,vs,aQ,dd⟩:=y6Z I.hok e;refine M1 PySem.F.slot_dict_setdefault dd.typeIs PySem.F.entry_dict_setdefault (PySem.F.args_dict_setdefault_3 _ _ _) (kt_meets_setdefault (z0C X.prog X.w) a (x0Z r1) hd u2) ⟨vs,dd,by rw[←aQ.length];exact z,fun v hv=>?_,fun hn h' dl hs=>?_⟩
 ·have:=aQ.val k
  rw[hv]at this
  cases hk:y0I kvs k with
  |none=>rw[hk]at this;exact this.elim
  |some w'=>rw[hk]at this;exact⟨w',H,I.tok _,this,q1 w' hk⟩
 ·have:=aQ.val k
  rw[hn]at this
  cases hk:y0I kvs k with
  |some w'=>rw[hk]at this;exact this.elim
  |none=>
   have he:∃q,h'.get? a=some q:=let ⟨q,_,_,hq,_⟩:=dl;⟨q,hq⟩
   have cp:(z9C kvs k y).length≤sizeLine:=by have:=z3Q kvs k y;omega
   exact⟨y,_,y2T I (by rw[e];exact Fw) hs he (y9K cp hd (aQ.put k r2) dl),r2,q2 hk⟩
theorem x45:MtR X "dict.update" w1D:=by
 intro aa s σ H x xs v us Q I rx rv h;obtain⟨a,b,kvs,more,rfl,rfl,cN,e,eb,hl,q⟩:=h;cases rx;obtain⟨u1,rfl,r1⟩:=rv.one;cases r1;obtain⟨z,hd,vs,aQ,dd⟩:=y6Z I.hok e;obtain⟨z2,bv,ms,jb,cB⟩:=y6Z I.hok eb;refine M1 PySem.F.slot_dict_update dd.typeIs PySem.F.entry_dict_update (PySem.F.args_dict_update_2 _ _) (meets_dict_update (z0C X.prog X.w) a b cN bv) ⟨vs,ms,dd,cB,by rw[←aQ.length,←jb.length];exact hl,fun h' dl _ hs=>?_⟩
 have he:∃q,h'.get? a=some q:=let ⟨q,_,_,hq,_⟩:=dl;⟨q,hq⟩
 have cp:(z4P kvs more).length≤sizeLine:=Bk (z6P more kvs) hl;exact⟨.non,_,y2T (t':=s.toks) I (by rw[e];exact Fw) hs he (y9K cp hd (KV.merge jb aQ) dl),rfl,q⟩
end
section
variable{X:Cx}{a b:Expr}{fa fb:ED}{pos:F2}
def y06(i:Nat)(fk fv:ED):EO:=fun ρ=>match y07 i ρ with
 |some d=>(match fk ρ with
  |some kd=>(match x6P kd with
   |some k=>(match fv ρ with
    |some v=>if d.1.Nodup/\d.1.length<LIM then (if (z0U d.1 d.2 k).isSome=true then some (.nx ρ) else some (.nx (ρ.set i (some (.od (z71 d.1 d.2 k v).1 (z71 d.1 d.2 k v).2))))) else none
    |none=>none)
   |none=>none)
  |none=>none)
 |none=>none
theorem y9Y{i:Nat}{x:Bb}{p1 p2 p3:F2}(hk:ZE X a fa)(cv:ZE X b fb)(hN:X.N[i]?=some x:=by rfl)(hv:Vis X.env.scope x:=by first|exact Dw rfl|exact D2 (Dw rfl)|exact D2 (D2 rfl))(hd:(x==("__debug__":Bb))=false:=by decide)(aV:(x==("__classdict__":Bb))=false:=by decide)(ar:Eb (.Name x p1) "setdefault" X.env (C0 (.Name x p1) X.env)=C0 (.Name x p1) X.env:=by rfl) (aX:((Bs p3 (Ac [a,b] X.env)).all (fun x=>!x.1)&&(Je p3 (Gg [] X.env)).all (fun x=>x.1.isSome)
   && decide (([a,b]:List Expr).length+([]:List Fu).length+(if ([]:List Fu).isEmpty then 0 else 1)<30))=true:=by rfl) (au:(p2.endLine==p3.line)=true:=by rfl) (hs:Ac [a,b] X.env=(false,C0 a X.env)::Ac [b] X.env:=by exact v5 rfl) (bH:Ac [b] X.env=(false,C0 b X.env)::Ac [] X.env:=by exact v5 rfl) (aq:(Bs p3 (Ac [b] X.env)).any (·.1)=false:=by exact j8 rfl) (bY:Dy (.Call (.Attribute (.Name x p1) "setdefault" p2) [a,b] [] p3) none pos.line X.env=Ck false:=by rfl):ZS X (.Expr (.Call (.Attribute (.Name x p1) "setdefault" p2) [a,b] [] p3) pos) (y06 i fa fb):=
 ⟨have hk:=hk.h;
 have cv:=cv.h;
 z0F (z9D (y6I Hq PySem.F.slot_dict_setdefault PySem.F.type_dict_setdefault x46 (z2K hN hv hd aV) (g9 hk (g9 cv Y0 bH) hs) ar aX au hs aq) bY) fun E σ H h_=>by
  refine ex6 h_ fun ρ o B H0 V0 Z e r q=>?_;unfold y06 at e
  cases ed:y07 i ρ with
  |none=>rw[ed]at e;cases e
  |some dd=>
   rw[ed]at e;dsimp only at e
   cases ek:fa ρ with
   |none=>rw[ek]at e;cases e
   |some kd=>
    rw[ek]at e;dsimp only at e
    cases gw:x6P kd with
    |none=>rw[gw]at e;cases e
    |some k=>
     rw[gw]at e;dsimp only at e
     cases ev:fb ρ with
     |none=>rw[ev]at e;cases e
     |some v=>
      rw[ev]at e;dsimp only at e;by_cases hz:dd.1.Nodup/\dd.1.length<LIM
      ·rw[if_pos hz]at e;obtain⟨n,kvs,h1,h2,hb,h3,h4,h5,h6⟩:=r.od i dd.1 dd.2 (z1B ed);refine⟨.ref n,h1,.inr (.inr (.inl ⟨rfl,.inl ⟨_,h4⟩⟩)),ρ,kd,B,H0,V0,Z,ek,r,fun y H1 s1 r1=>⟨ρ,v,B,H0,V0,Z,ev,r.mono s1,fun z H2 s2 r2=>?_⟩⟩
       obtain rfl:=z58 gw r1
       have ab:kvs.length<sizeLine:=by
        have:kvs.length=dd.1.length:=by rw[←h5,A0]
        rw[this];exact y4I (D8 hz.2)
       have hlk:(z0U dd.1 dd.2 k).isSome=(y0I kvs k).isSome:=by rw[←h5];exact z4Q h6
       have R2:=(r.mono s1).mono s2;refine⟨n,kvs,k,z,rfl,rfl,s2 _ _ (s1 _ _ h4),ab,fun w' hw=>?_,fun hw=>?_⟩
       ·rw[hw]at hlk;rw[if_pos (show (z0U dd.1 dd.2 k).isSome=true from hlk)]at e;cases e;exact q σ H2 Z R2
       ·rw[hw]at hlk;rw[if_neg (show ¬(z0U dd.1 dd.2 k).isSome=true by rw[hlk];exact B0)]at e
        cases e;show E.nx σ (upd H2 n (.dK (z9C kvs k z)));rw[z6H k z kvs (by rw[h5];exact hz.1)]
        obtain⟨p1,p2⟩:=y2B (j:=k) (h6.mono (y8 (s1.trans s2))) r2;rw[h5]at p1 p2;exact q σ _ Z (R2.updC (c:=.d dd.1 dd.2) (e:=.d (z71 dd.1 dd.2 k v).1 (z71 dd.1 dd.2 k v).2) (z1B ed) h1 ⟨_,rfl,p1,p2⟩)
      ·rw[if_neg hz]at e;cases e⟩
def z4C:List Key->List D->List Key->List D->List Key×List D
 |ks,vs,k::r,v::w=>z4C (z71 ks vs k v).1 (z71 ks vs k v).2 r w
 |ks,vs,_,_=>(ks,vs)
theorem y42(j:Key)(d:V):∀kvs:List (Key×V),∀y∈(y8K kvs j d).map (·.1),y∈kvs.map (·.1)∨y=j
 | [],y,h=>.inr (by simpa [y8K] using h)
 |p::r,y,h=>by
  unfold y8K at h;by_cases hp:p.1=j
  ·rw[if_pos hp]at h;exact .inl h
  ·rw[if_neg hp,Ai]at h;rcases Af.mp h with z|z
   ·exact .inl (by rw[z];exact A6)
   ·rcases y42 j d r y z with q|q
    ·exact .inl (A7 _ q)
    ·exact .inr q
theorem y1B(j:Key)(d:V):∀kvs:List (Key×V),(kvs.map (·.1)).Nodup->((y8K kvs j d).map (·.1)).Nodup
 | [],_=>by simp[y8K]
 |p::r,h=>by
  rw[Ai,Bz]at h;unfold y8K;by_cases hp:p.1=j
  ·rw[if_pos hp];exact Bz.mpr h
  ·rw[if_neg hp,Ai,Bz];refine⟨fun z=>?_,y1B j d r h.2⟩;rcases y42 j d r _ z with q|q
   ·exact h.1 q
   ·exact hp q
theorem y4F{K:A5}{H:Hp}:∀(more kvs:List (Key×V)) (vs fA:List D),j7 K H vs (kvs.map (·.2))->j7 K H fA (more.map (·.2))->(kvs.map (·.1)).Nodup ->
  (z4P kvs more).map (·.1)=(z4C (kvs.map (·.1)) vs (more.map (·.1)) fA).1/\j7 K H (z4C (kvs.map (·.1)) vs (more.map (·.1)) fA).2 ((z4P kvs more).map (·.2))
 | [],kvs,vs,fA,h1,h2,hn=>by
  have:z4C (kvs.map (·.1)) vs (([]:List (Key×V)).map (·.1)) fA=(kvs.map (·.1),vs):=by cases fA<;>rfl
  rw[this];exact⟨rfl,h1⟩
 |p::r,kvs,vs,[],h1,h2,hn=>by cases J6.mp h2
 |p::r,kvs,vs,v::fA,h1,h2,hn=>by
  obtain⟨x,xs,ex,g1,g2⟩:=j0.mp h2;rw[Ai]at ex;obtain⟨e1,e2⟩:=Jv ex;subst e1;rw[←e2]at g2;obtain⟨p1,p2⟩:=y2B (j:=p.1) h1 g1
  have hm:z4P kvs (p::r)=z4P (y8K kvs p.1 p.2) r:=by show z4P (z9C kvs p.1 p.2) r=_;rw[z6H p.1 p.2 kvs hn]
  have ih:=y4F r (y8K kvs p.1 p.2) (z71 (kvs.map (·.1)) vs p.1 v).2 fA p2 g2 (y1B _ _ _ hn);rw[p1]at ih;rw[hm];exact ih
def w6G(i:Nat)(f:ED):EO:=fun ρ=>match y07 i ρ with
 |some d=>(match f ρ with
  |some (.dct ks vs)=>if d.1.Nodup/\d.1.length+ks.length≤LIM then some (.nx (ρ.set i (some (.od (z4C d.1 d.2 ks vs).1 (z4C d.1 d.2 ks vs).2)))) else none
  |_=>none)
 |none=>none
theorem w0R{i:Nat}{x:Bb}{p1 p2 p3:F2}(h:ZE X a fa)(hN:X.N[i]?=some x:=by rfl)(hv:Vis X.env.scope x:=by first|exact Dw rfl|exact D2 (Dw rfl)|exact D2 (D2 rfl))(hd:(x==("__debug__":Bb))=false:=by decide)(aV:(x==("__classdict__":Bb))=false:=by decide)(ar:Eb (.Name x p1) "update" X.env (C0 (.Name x p1) X.env)=C0 (.Name x p1) X.env:=by rfl) (aX:((Bs p3 (Ac [a] X.env)).all (fun x=>!x.1)&&(Je p3 (Gg [] X.env)).all (fun x=>x.1.isSome)
   && decide (([a]:List Expr).length+([]:List Fu).length+(if ([]:List Fu).isEmpty then 0 else 1)<30))=true:=by rfl) (au:(p2.endLine==p3.line)=true:=by rfl) (hs:Ac [a] X.env=(false,C0 a X.env)::Ac [] X.env:=by exact v5 rfl) (aq:(Bs p3 (Ac [] X.env)).any (·.1)=false:=by exact j8 rfl) (bY:Dy (.Call (.Attribute (.Name x p1) "update" p2) [a] [] p3) none pos.line X.env=Ck false:=by rfl):ZS X (.Expr (.Call (.Attribute (.Name x p1) "update" p2) [a] [] p3) pos) (w6G i fa):=
 ⟨have h:=h.h;
 z0F (z9D (y6I Hq PySem.F.slot_dict_update PySem.F.type_dict_update x45 (z2K hN hv hd aV) (g9 h Y0 hs) ar aX au hs aq) bY) fun E σ H h_=>by
  refine ex6 h_ fun ρ o B H0 V0 Z e r q=>?_;unfold w6G at e
  cases ed:y07 i ρ with
  |none=>rw[ed]at e;cases e
  |some dd=>
   rw[ed]at e;dsimp only at e
   cases ef:fa ρ with
   |none=>rw[ef]at e;cases e
   |some d'=>
    rw[ef]at e
    cases d' with
    |dct ks vs=>
     dsimp only at e;by_cases hz:dd.1.Nodup/\dd.1.length+ks.length≤LIM
     ·rw[if_pos hz]at e;cases e;obtain⟨n,kvs,h1,h2,hb,h3,h4,h5,h6⟩:=r.od i dd.1 dd.2 (z1B ed);refine⟨.ref n,h1,.inr (.inr (.inl ⟨rfl,.inl ⟨_,h4⟩⟩)),ρ,_,B,H0,V0,Z,ef,r,fun y H1 s1 r1=>?_⟩;obtain⟨m,more,rfl,g1,g2,g3⟩:=Z8.mp r1;have R1:=r.mono s1
      have du:n≠m:=fun z=>by subst z;exact(W4 g1).1 h2
      refine⟨n,m,kvs,more,rfl,rfl,du,s1 _ _ h4,(W4 g1).2,?_,?_⟩
      ·have e1:kvs.length=dd.1.length:=by rw[←h5,A0]
       have e2:more.length=ks.length:=by rw[←g2,A0]
       rw[e1,e2];exact z9N hz.2
      ·obtain⟨p1,p2⟩:=y4F more kvs dd.2 vs (h6.mono (y8 s1)) g3 (by rw[h5];exact hz.1)
       rw[h5,g2]at p1 p2;exact q σ _ Z (R1.updC (c:=.d dd.1 dd.2) (e:=.d (z4C dd.1 dd.2 ks vs).1 (z4C dd.1 dd.2 ks vs).2) (z1B ed) h1 ⟨_,rfl,p1,p2⟩)
     ·rw[if_neg hz]at e;cases e
    |non=>cases e
    |bl _=>cases e
    |int _=>cases e
    |str _=>cases e
    |tup _=>cases e
    |lst _=>cases e⟩
end
section
variable{X:Cx}{a:Expr}{f:ED}{p p2 p3 pos:F2}
def w7U:List V->Hp->VK->Prop:=fun xs H Q=>∃a kvs,xs=[.ref a]/\H a=some (.dK kvs)/\∀p,H p=none->Q (.ref p) (upd H p (.dK kvs))
theorem x1P:z0X X (.type "dict") w7U:=by
 intro aa s σ H xs vs Q I rv h;obtain⟨a,kvs,rfl,e,q⟩:=h;obtain⟨u,rfl,r1⟩:=rv.one;cases r1;obtain⟨z,hd,ms,aQ,dd⟩:=y6Z I.hok e;refine kt_call_dict hd dd (by rw[←aQ.length];exact z) fun h' dl hsb=>?_
 have kp:∀b o,s.heap.get? b=some o->h'.get? b=some o:=fun b o e=>hsb.extBut b o (Ar (Am e)) (Aa _ e);have hS:(s.heap.objs.size==F8)=false:=beq_false_of_ne (D0 I.big);exact⟨.ref s.heap.objs.size,_,I.laid (a:=s.heap.objs.size) (o:=.dK kvs) (t':=s.toks) kp (Ak _) (y9K z hS aQ dl),rfl,q _ (I.hok.fresh (Ak _))⟩
noncomputable def y54(f:ED):u5->Option (List Key×List D):=fun ρ=>match f ρ with|some (.dct ks vs)=>some (ks,vs)|_=>none
theorem y0B{ρ:u5}{ds:List Key×List D}(e:y54 f ρ=some ds):f ρ=some (.dct ds.1 ds.2):=by
 unfold y54 at e
 cases hf:f ρ with
 |none=>rw[hf]at e;cases e
 |some d=>
  rw[hf]at e
  cases d with
  |dct ks vs=>cases e;rfl
  |non=>cases e
  |bl _=>cases e
  |int _=>cases e
  |str _=>cases e
  |tup _=>cases e
  |lst _=>cases e
theorem x2G(hm:X.mg "dict" = none)(h:ZE X a f)(hg:Gl X "dict":=by rfl)(he:Ac [a] X.env=(false,C0 a X.env)::Ac [] X.env:=by exact v5 rfl)(ah:(Bs pos (Ac [] X.env)).any (·.1)=false:=by exact j8 rfl)(hv:B5 "dict" = some (.type "dict"):=by decide +kernel):ZFD X (.Call (.Name "dict" p) [a] [] pos) (y54 f):=
 ⟨have h:=h.h;
 u7 (z0M x1P hg hm hv (g9 h Y0 he) (by decide) (by decide) he ah) fun σ H Q h_=>by
  refine ex6 h_ fun ρ ds B H0 V0 Z e r q=>?_;refine⟨ρ,_,B,H0,V0,Z,y0B e,r,fun v H1 s1 rr=>?_⟩;obtain⟨a',kvs,rfl,g1,g2,g3⟩:=Z8.mp rr;refine⟨a',kvs,rfl,(W4 g1).2,fun m hm'=>?_⟩;have sn:=j4 (o:=HO.dK kvs) hm'
  exact q m kvs _ (s1.trans sn) (s1.free hm') x9 g2 (g3.mono (z0O hm' sn))⟩
noncomputable abbrev z93(a:Ap):Ji:={ cls:=.type "dict_values",data:=.fields #[.ref a] }
def w6Y:V->List V->Hp->VK->Prop:=fun x xs H Q=>∃a kvs,x = .ref a/\xs=[]/\H a=some (.dK kvs)/\∀p,H p=none->Q (.ref p) (upd H p (.frz (z93 a) (.own a)))
theorem w27:MtR X "dict.values" w6Y:=by
 intro aa s σ H x xs v us Q I rx rv h;obtain⟨a,kvs,rfl,rfl,e,q⟩:=h;cases rx
 obtain rfl:=rv.zero
 obtain⟨z,hd,vs,aQ,dd⟩:=y6Z I.hok e;refine M1 PySem.F.slot_dict_values dd.typeIs PySem.F.entry_dict_values (PySem.F.args_dict_values_1 _) (meets_dict_values (z0C X.prog X.w) a hd) ⟨⟨vs,dd⟩,?_⟩;exact⟨.ref s.heap.objs.size,_,I.laid (a:=s.heap.objs.size) (o:=.frz (z93 a) (.own a)) (t':=s.toks) (fun _ _ q=>Aa _ q) (Ak _) ⟨At _ rfl,_,At _ rfl⟩,rfl,q _ (I.hok.fresh (Ak _))⟩
def w64:List V->Hp->VK->Prop:=fun xs H Q=>∃v a kvs,xs=[.ref v]/\H v=some (.frz (z93 a) (.own a))/\H a=some (.dK kvs)/\∀l,H l=none->Q (.ref l) (upd H l (.lst (kvs.map (·.2))))
theorem w2L{kvs:List (Key×V)}{vs:List (Key×A8)}(h:KV kvs vs):Y3 (kvs.map (·.2)) (vs.map (·.2)):=by
 unfold KV at h
 induction h with
 |nil=>exact .nil
 |cons hq t ih=>exact .cons hq.2 ih
theorem x1O(hc:X.calm=true):z0X X (.type "list") w64:=by
 intro aa s σ H xs us Q I rv h;obtain⟨v,a,kvs,rfl,ev,e,q⟩:=h;obtain⟨u,rfl,r1⟩:=rv.one;cases r1;obtain⟨z,hd,vs,aQ,dd⟩:=y6Z I.hok e;have hv:s.heap.get? v=some (z93 a):=(I.hok v _ ev).1;obtain⟨o,es,ep,ho,h1⟩:=dd;have ab:kvs.length=vs.length:=aQ.length;refine PySem.W.kdl_call (PySem.W.kdl_values (knd:=z0C X.prog X.w) (kvs:=vs) (ep:=ep)) (I.ok.hd hc) ⟨⟨_,hv,rfl,rfl⟩,⟨o,es,ho,h1⟩⟩ (by rw[←ab];exact z) fun h' tk aM c' kp hget aP=>?_
 have dN:aM.toList=vs.map (·.2):=PySem.W.kdl_vals_eq aM.toList (by rw[B4];exact aP.1) fun j w' hw=>aP.2 j w' (by rw[←Array.getElem?_toList];exact hw)
 refine⟨.ref s.heap.objs.size,_,I.laid (a:=s.heap.objs.size) (o:=.lst (kvs.map (·.2))) (t':=tk) kp (Ak _) ⟨by rw[A0];exact z,aM.toList,c',by rw[dN];exact w2L aQ,by rw[hget]⟩,rfl,q _ (I.hok.fresh (Ak _))⟩
def x5R(f:ED):EL:=fun ρ=>(y54 f ρ).map (·.2)
theorem y3H(hc:X.calm=true)(hm:X.mg "list" = none)(h:ZE X a f)(hg:Gl X "list":=by rfl)(ar:Eb a "values" X.env (C0 a X.env)=C0 a X.env:=by rfl)(au:(p2.endLine==p3.line)=true:=by rfl)(he:Ac [.Call (.Attribute a "values" p2) [] [] p3] X.env=(false,C0 (.Call (.Attribute a "values" p2) [] [] p3) X.env)::Ac [] X.env:=by exact v5 rfl)(ah:(Bs pos (Ac [] X.env)).any (·.1)=false:=by exact j8 rfl)(hv:B5 "list" = some (.type "list"):=by decide +kernel):ZF X (.Call (.Name "list" p) [.Call (.Attribute a "values" p2) [] [] p3] [] pos) (x5R f):=
 ⟨have h:=h.h;
 u7 (z0M (x1O hc) hg hm hv (g9 (w57 Hq PySem.F.slot_dict_values PySem.F.type_dict_values w27 h ar au) Y0 he) (by decide) (by decide) he ah) fun σ H Q h_=>by
  refine ex6 h_ fun ρ zs B H0 V0 Z e r q=>?_;unfold x5R at e;obtain⟨ds,ed,rfl⟩:=Bl.mp e;refine⟨ρ,_,B,H0,V0,Z,y0B ed,r,fun v H1 s1 rr=>?_⟩;obtain⟨a',kvs,rfl,g1,g2,g3⟩:=Z8.mp rr;have ga:=(W4 g1).2;refine⟨.inr (.inr (.inl ⟨rfl,.inl ⟨_,ga⟩⟩)),a',kvs,rfl,rfl,ga,fun m hm'=>?_⟩;have sm:=j4 (o:=HO.frz (z93 a') (.own a')) hm';refine⟨m,a',kvs,rfl,x9,sm _ _ ga,fun l hl=>?_⟩;have sl:=j4 (o:=HO.lst (kvs.map (·.2))) hl
  have bp:H1 l=none:=sm.free hl
  exact q l _ _ (s1.trans (sm.trans sl)) (s1.free bp) x9 (g3.mono (z0O bp (sm.trans sl)))⟩
end
noncomputable def dDs(f:u5->Option (List Key×List D)):ED:=fun ρ=>(f ρ).map fun d=>.dct d.1 d.2
section
variable{X:Cx}{e:Expr}
theorem x94{f:u5->Option (List Key×List D)}(h:ZFD X e f):ZE X e (dDs f):=
 ⟨have h:=h.h;
 u7 h fun σ H Q h_=>by
  refine ex6 h_ fun ρ d B H0 V0 Z e r q=>?_;unfold dDs at e;obtain⟨ds,he,rfl⟩:=Bl.mp e;refine⟨ρ,ds,B,H0,V0,Z,he,r,fun a kvs H' s hn ha hk hr=>q _ H' s (Z8.mpr ⟨a,kvs,rfl,?_,hk,hr.mono (z0G fun b hb=>A7 _ hb)⟩)⟩;rw[K7 (r.newer hn)]
  exact ha⟩
end
noncomputable def Inn(H:Hp):List Ap->List (List Int)->Prop
 | [],[]=>True
 |b::bs,ns::aH=>H b=some (.lst (ns.map V.int))/\Inn H bs aH
 |_,_=>False
theorem Inn.len{H:Hp}:∀{bs:List Ap} {aH:List (List Int)},Inn H bs aH->bs.length=aH.length
 | [],[],_=>rfl
 |b::bs,ns::aH,h=>by rw[Ay,Ay,Inn.len h.2]
 | [],_::_,h=>h.elim
 |_::_,[],h=>h.elim
theorem Inn.mono{H H':Hp}(e:j6 H H'):∀{bs:List Ap} {aH:List (List Int)},Inn H bs aH->Inn H' bs aH
 | [],[],_=>trivial
 |b::bs,ns::aH,h=>⟨e _ _ h.1,Inn.mono e h.2⟩
 | [],_::_,h=>h.elim
 |_::_,[],h=>h.elim
theorem Inn.get{H:Hp}:∀{bs:List Ap} {aH:List (List Int)} {j:Nat},Inn H bs aH->j<bs.length->∃b ns,bs[j]?=some b/\aH[j]?=some ns/\H b=some (.lst (ns.map V.int))
 | [],[],j,_,hj=>absurd hj (F1 _)
 |b::bs,ns::aH,0,h,_=>⟨b,ns,rfl,rfl,h.1⟩
 |b::bs,ns::aH,j+1,h,hj=>by
  obtain⟨b',bF,h1,h2,h3⟩:=Inn.get (j:=j) h.2 (by rw[Ay]at hj;omega)
  exact⟨b',bF,by rw[Ei];exact h1,by rw[Ei];exact h2,h3⟩
 | [],_::_,_,h,_=>h.elim
 |_::_,[],_,h,_=>h.elim
theorem Inn.other{H:Hp}{c:Ap}{o:HO}:∀{bs:List Ap} {aH:List (List Int)},c∉bs->Inn H bs aH->Inn (upd H c o) bs aH
 | [],[],_,_=>trivial
 |b::bs,ns::aH,hn,h=>⟨(by
   have ag:b≠c:=fun z=>hn (by rw[z];exact A6)
   rw[u8 ag]
   exact h.1),Inn.other (fun z=>hn (A7 _ z)) h.2⟩
 | [],_::_,_,h=>h.elim
 |_::_,[],_,h=>h.elim
theorem Inn.upd{H:Hp}{c:Ap}{ms:List Int}:∀{bs:List Ap} {aH:List (List Int)} {j:Nat},bs.Nodup->Inn H bs aH->bs[j]?=some c->Inn (upd H c (.lst (ms.map V.int))) bs (aH.set j ms)
 | [],[],j,_,_,hj=>by simp at hj
 |b::bs,ns::aH,0,hn,h,hj=>by
  have:b=c:=by simpa using hj
  subst this;exact⟨x9,Inn.other (Bz.mp hn).1 h.2⟩
 |b::bs,ns::aH,j+1,hn,h,hj=>by
  rw[Ei]at hj;have bj:=Bz.mp hn;have ag:b≠c:=fun z=>bj.1 (by rw[z];exact Dp hj)
  exact⟨by rw[u8 ag];exact h.1,Inn.upd bj.2 h.2 hj⟩
 | [],_::_,_,_,h,_=>h.elim
 |_::_,[],_,_,h,_=>h.elim
theorem Inn.new{H:Hp}:∀(bs:List Ap),(∀b∈bs,H b=some (.lst []))->Inn H bs (B1 bs.length [])
 | [],_=>trivial
 |b::bs,h=>⟨h b A6,Inn.new bs fun x hx=>h x (A7 _ hx)⟩
noncomputable def lsD(ns:List Int):D:=.lst (ns.map D.int)
theorem Inn.rep{K:A5}{H:Hp}{B:List Ap}:∀{bs:List Ap} {aH:List (List Int)},(∀b∈bs,b∉B)->Inn H bs aH->j7 K (J3 B H) (aH.map lsD) (bs.map V.ref)
 | [],[],_,_=>J6.mpr rfl
 |b::bs,ns::aH,hb,h=>by rw[Ai,Ai];refine j0.mpr ⟨_,_,rfl,J5.mpr ⟨b,_,rfl,SqL.of (by rw[K7 (hb b A6)];exact h.1),Q8.mpr rfl⟩,Inn.rep (fun x hx=>hb x (A7 _ hx)) h.2⟩
 | [],_::_,_,h=>h.elim
 |_::_,[],_,h=>h.elim
section
variable{K:A5}{B Z:List Ap}{H0 V0 H H':Hp}{σ:St}{ρ:u5}
theorem SR.moreL(r:SR K B H0 V0 H Z σ ρ)(as:List Ap)(hn:∀a∈as,H a=none)(e:j6 H H')(he:∀a∈as,∃o,H' a=some o):SR K B H0 V0 H' (as++Z) σ ρ:=by
 have hl:j6 (J3 Z H) (J3 (as++Z) H'):=fun b u q=>by
  obtain⟨h1,h2⟩:=W4 q
  rw[K7 (by
   rw[Aw];rintro (z|z)
   ·rw[hn b z]at h2;cases h2
   ·exact h1 z)]
  exact e b u h2
 exact⟨r.same.trans e,r.tb.mono e,r.vis.trans hl,fun b hb=>Ab _ (r.sub b hb),fun z hz=>(Aw.mp hz).elim (he z) fun q=>let ⟨u,h⟩:=r.zs z q;⟨u,e _ _ h⟩,
  fun i d h=>let ⟨v,h1,h2⟩:=r.sh i d h;⟨v,h1,h2.mono hl⟩,
  fun i c h=>let ⟨b,o,h1,h2,hb,h3,h4,h5⟩:=r.own i c h;⟨b,o,h1,Ab _ h2,hb,h3,e _ _ h4,h5.mono hl⟩,r.inj,r.len⟩
theorem SR.skip(r:SR K B H0 V0 H Z σ ρ){i:Nat}{v:Option V}(h:ρ[i]?=some none):SR K B H0 V0 H Z (σ.set i v) ρ:=by
 have ne:∀{j:Nat} {c:Cell},ρ[j]?=some (some c)->i≠j:=fun {j c} q z=>by subst z;rw[h]at q;cases q
 exact⟨r.same,r.tb,r.vis,r.sub,r.zs,fun j d q=>let ⟨u,h1,h2⟩:=r.sh j d q;⟨u,by rw[Bd (ne q)];exact h1,h2⟩,
  fun j c q=>let ⟨b,o,h1,h2⟩:=r.own j c q;⟨b,o,by rw[Bd (ne q)];exact h1,h2⟩,
  fun j k c e a q1 q2 s1 s2=>r.inj j k c e a q1 q2 (by rw[Bd (ne q1)]at s1;exact s1) (by rw[Bd (ne q2)]at s2;exact s2),by rw[Ci];exact r.len⟩
end
def x2V(ir io iv:Nat):TS:=fun D σ H=>∃(l:Ap) (bs:List Ap) (a:Nat) (c:Ap) (xs:List V) (y:V),σ[ir]?=some (some (.ref l))/\σ[io]?=some (some (.int (a:Int)))/\σ[iv]?=some (some y)/\H l=some (.lst (bs.map V.ref))/\bs[a]?=some c/\H c=some (.lst xs)/\xs.length<sizeLine/\D.nx σ (upd H c (.lst (xs++[y])))
section
variable{X:Cx}{pos p0 p1 p2 p3 p4 p5:F2}
theorem x3M{xr xo xv:Bb}{ir io iv:Nat}(hNr:X.N[ir]?=some xr)(hvr:Vis X.env.scope xr)(hdr:(xr==("__debug__":Bb))=false)(hcr:(xr==("__classdict__":Bb))=false)(hNo:X.N[io]?=some xo)(hvo:Vis X.env.scope xo)(hdo:(xo==("__debug__":Bb))=false)(dn:(xo==("__classdict__":Bb))=false)(hNv:X.N[iv]?=some xv)(hvv:Vis X.env.scope xv)(hdv:(xv==("__debug__":Bb))=false)(hcv:(xv==("__classdict__":Bb))=false)(hpx:y33 (.Name xo p1):=by exact fun _ _=>rfl)(ar:Eb (.Subscript (.Name xr p0) (.Name xo p1) p2) "append" X.env (C0 (.Subscript (.Name xr p0) (.Name xo p1) p2) X.env)=C0 (.Subscript (.Name xr p0) (.Name xo p1) p2) X.env:=by rfl)
  (aX:((Bs p5 (Ac [.Name xv p4] X.env)).all (fun x=>!x.1)&&(Je p5 (Gg [] X.env)).all (fun x=>x.1.isSome)
   && decide (([.Name xv p4]:List Expr).length+([]:List Fu).length+(if ([]:List Fu).isEmpty then 0 else 1)<30))=true:=by rfl)
  (au:(p3.endLine==p5.line)=true:=by rfl) (hs:Ac [.Name xv p4] X.env=(false,C0 (.Name xv p4) X.env)::Ac [] X.env:=by exact v5 rfl) (aq:(Bs p5 (Ac [] X.env)).any (·.1)=false:=by exact j8 rfl)
  (bY:Dy (.Call (.Attribute (.Subscript (.Name xr p0) (.Name xo p1) p2) "append" p3) [.Name xv p4] [] p5) none pos.line X.env=Ck false:=by rfl):
  PS X (.Expr (.Call (.Attribute (.Subscript (.Name xr p0) (.Name xo p1) p2) "append" p3) [.Name xv p4] [] p5) pos) (x2V ir io iv):=
 z0F (z9D (y6I Fk PySem.F.slot_list_append PySem.F.type_list_append z6O (w55 x4Y (z2K hNr hvr hdr hcr) (z2K hNo hvo hdo dn) hpx) (g9 (z2K hNv hvv hdv hcv) Y0 hs) ar aX au hs aq) bY)
  fun D σ H h_=>by
   obtain⟨l,bs,a,c,xs,y,h1,h2,h3,h4,h5,h6,h7,h8⟩:=h_;refine⟨.ref l,h1,.int (a:Int),h2,l,bs.map V.ref,(a:Int),.ref c,rfl,rfl,SqL.of h4,?_,.inl ⟨rfl,xs,SqL.of h6⟩,y,h3,c,xs,y,rfl,rfl,h6,h7,h8⟩;have ha:a<bs.length:=(An.mp h5).1;unfold atI ixN;rw[if_pos (by omega),if_pos (by rw[A0];omega)]
   show (bs.map V.ref)[((a:Int)).toNat]?=some (.ref c);rw[Ao,Au,h5];rfl
end
noncomputable def x7U(q:Nat×Nat):D:=.tup [.int (q.1:Int),.int (q.2:Int)]
noncomputable def x3V(d:D):Option (Nat×Nat):=match d with
 | .tup [.int a,.int b]=>if 0≤a/\0≤b then some (a.toNat,b.toNat) else none
 |_=>none
theorem x0K{d:D}{q:Nat×Nat}(h:x3V d=some q):d=x7U q:=by
 unfold x3V at h;split at h
 ·rename_i a b;split at h
  ·rename_i hz;cases h;unfold x7U;rw[Gx hz.1,Gx hz.2]
  ·cases h
 ·cases h
def z81:List D->Option (List (Nat×Nat))
 | []=>some []
 |d::ds=>match x3V d with|some q=>(match z81 ds with|some qs=>some (q::qs)|none=>none)|none=>none
theorem z9F:∀{ds:List D} {qs:List (Nat×Nat)},z81 ds=some qs->ds=qs.map x7U
 | [],qs,h=>by cases h;rfl
 |d::ds,qs,h=>by
  unfold z81 at h
  cases hp:x3V d with
  |none=>rw[hp]at h;cases h
  |some q=>
   rw[hp]at h
   cases hq:z81 ds with
   |none=>rw[hq]at h;cases h
   |some r=>rw[hq]at h;cases h;rw[Ai,←x0K hp,←z9F hq]
noncomputable def x0I(aH:List (List Int))(a b:Nat):List (List Int):=aH.set a (aH.getD a []++[(b:Int)])
def x90(aH:List (List Int))(q:Nat×Nat):List (List Int):=x0I (x0I aH q.1 q.2) q.2 q.1
noncomputable def y8Q(ir i1 i2:Nat)(ρ:u5)(n:Nat)(qs:List (Nat×Nat)):Bool:=(match ρ[ir]? with|some none=>true|_=>false)&&decide (n≤1000)&&decide (qs.length≤1000)&&(qs.all fun q=>decide (q.1<n)&&decide (q.2<n))&&decide (i1<ρ.length)&&decide (i2<ρ.length)&&decide (ir≠i1)&&decide (ir≠i2)&&decide (i1≠i2)
def y74(ir i1 i2:Nat)(fi fc:EL):EO:=fun ρ=>match fi ρ with
 |some ds=>(match fc ρ with
  |some ps=>(match z81 ps with
   |some qs=>if y8Q ir i1 i2 ρ ds.length qs=true then some (.rt (.lst ((qs.foldl x90 (B1 ds.length [])).map lsD))) else none
   |none=>none)
  |none=>none)
 |none=>none
theorem z7A{aH:List (List Int)}{m a b:Nat}(h:∀ns∈aH,ns.length≤m):∀ns∈x0I aH a b,ns.length≤m+1:=fun ns hn=>by
 unfold x0I at hn;rcases List.mem_or_eq_of_mem_set hn with z|z
 ·have:=h ns z;omega
 ·subst z;rw[Ad,Az];refine Nat.add_le_add_right ?_ 1;rw[Bh]
  cases hq:aH[a]? with
  |none=>exact Bf _
  |some ms=>exact h ms (Dp hq)
section
variable{X:Cx}{dS cX jc:Db}{ir i1 i2:Nat}{fi fc:EL}
theorem w11(S1:PS X dS (w6C (x2W [none] (tI X.K fi) (y2P 0) (fun _ H Q=>Q true H) (w82 w6B)) (y2P ir)))(S2:PS X cX (w83 (tI X.K fc) (w8E X.K 2 (w2R (y2P i1) (w2R (y2P i2) w8F))) (w80 (x2V ir i1 i2) (x2V ir i2 i1))))(S3:PS X jc (w81 (w6A ir))):SSs X [dS,cX,jc] (y74 ir i1 i2 fi fc):=
 y2C (z8V S1 (z8V S2 (y6H S3))) fun E σ H h_=>by
  refine ex6 h_ fun ρ o B H0 V0 Z e r q=>?_;unfold y74 at e
  cases ei:fi ρ with
  |none=>rw[ei]at e;cases e
  |some ds=>
  rw[ei]at e;dsimp only at e
  cases ec:fc ρ with
  |none=>rw[ec]at e;cases e
  |some ps=>
  rw[ec]at e;dsimp only at e
  cases ep:z81 ps with
  |none=>rw[ep]at e;cases e
  |some qs=>
  rw[ep]at e;dsimp only at e;by_cases hok:y8Q ir i1 i2 ρ ds.length qs=true
  ·rw[if_pos hok]at e;cases e;have gJ:=z9F ep;unfold y8Q at hok;simp only[Ax,decide_eq_true_eq,C1]at hok;obtain⟨⟨⟨⟨⟨⟨⟨⟨k1,k2⟩,k3⟩,k4⟩,k5⟩,k6⟩,k7⟩,k8⟩,k9⟩:=hok
   have hir:ρ[ir]?=some none:=by
    cases hq:ρ[ir]? with
    |none=>rw[hq]at k1;cases k1
    |some x=>
     cases x with
     |none=>rfl
     |some c=>rw[hq]at k1;cases k1
   have hlr:ir<ρ.length:=(An.mp hir).1;refine⟨ρ,ds,B,H0,V0,Z,ei,r,fun J H1 s1 wk l bp=>?_⟩
   refine⟨fun i m σ' H' af=>m=ds.length-i/\i≤ds.length/\∃bs:List Ap,af=bs.map V.ref/\bs.length=i/\H' l=some (.lst af)/\(∀b∈bs,H1 b=none/\b≠l/\H' b=some (.lst []))/\bs.Nodup/\j6 H1 H',
    ⟨_,rfl,Bf _,[],rfl,rfl,x9,(fun b hb=>by cases hb),Eh,j4 bp⟩,?_⟩
   rintro i m σ' H' af ⟨rfl,aO,bs,rfl,hbl,hHl,gW,aB,hS⟩;by_cases al:i<ds.length
   ·refine .inr ⟨wk.go H' (x4.trans hS) i al,by rw[A0,hbl,C3];omega,fun x H3 hy=>?_⟩
    obtain⟨sH,_⟩:=wk.yld H' (x4.trans hS) i x H3 hy;unfold y2P;dsimp only;rw[if_pos rfl];refine⟨Bf _,fun b hb=>?_⟩
    have nl:b≠l:=fun z=>by rw[z,sH _ _ hHl]at hb;cases hb
    have nb:b∉bs:=fun z=>by rw[sH _ _ (gW b z).2.2]at hb;cases hb
    have h1b:H1 b=none:=hS.free (sH.free hb);refine⟨by rw[u8 (Cl nl)];exact sH _ _ hHl,ds.length-(i+1),by omega,rfl,al,bs++[b],by rw[Ba];rfl,by rw[Ad,hbl];rfl,x9,fun c hc=>?_,?_,?_⟩
    ·rcases Aw.mp hc with z|z
     ·obtain⟨z1,z2,z3⟩:=gW c z;refine⟨z1,z2,?_⟩;have ncb:c≠b:=fun w'=>nb (by rw[←w'];exact z)
      rw[u8 z2,u8 ncb];exact sH _ _ z3
     ·rw[Ae.mp z];exact⟨h1b,nl,by rw[u8 nl];exact x9⟩
    ·refine Cc.mpr ⟨aB,by simp,fun a ha c hc=>?_⟩;rw[Ae.mp hc];exact fun z=>nb (z▸ha)
    ·exact z1K bp (z1K h1b (hS.trans sH))
   ·have ei':bs.length=ds.length:=by omega
    refine .inl ⟨by have:=wk.stop H' (x4.trans hS);rw[show i=ds.length by omega];exact this,?_⟩
    have R1:=r.mono s1;have bE:∀a∈l::bs,H1 a=none:=fun a ha=>(Af.mp ha).elim (fun z=>z▸bp) fun z=>(gW a z).1;have R2:SR X.K B H0 V0 H' ((l::bs)++Z) (σ.set ir (some (.ref l))) ρ:=(R1.moreL (l::bs) bE hS fun a ha=>(Af.mp ha).elim (fun z=>⟨_,z▸hHl⟩) fun z=>⟨_,(gW a z).2.2⟩).skip hir
    have hB:∀a∈l::bs,a∉B/\H0 a=none:=fun a ha=>⟨(fun z=>by
     obtain⟨u,hu⟩:=R1.zs a (R1.sub a z);rw[bE a ha]at hu
     cases hu),R1.same.free (bE a ha)⟩
    have hlb:l∉bs:=fun z=>(gW l z).2.1 rfl;refine⟨ρ,ps,B,H0,V0,_,ec,R2,fun J2 H2 s2 wk2=>?_⟩
    refine⟨fun i m σ' H3=>m=qs.length-i/\i≤qs.length/\σ'[ir]?=some (some (.ref l))/\σ'.length=ρ.length/\H3 l=some (.lst (bs.map V.ref))/\Inn H3 bs ((qs.take i).foldl x90 (B1 ds.length []))/\(∀ns∈(qs.take i).foldl x90 (B1 ds.length []),ns.length≤2*i)/\j6 H0 H3/\j6 (J3 (l::bs++Z) H2) (J3 (l::bs++Z) H3)/\(∀z∈l::bs++Z,∃u,H3 z=some u),
     ⟨_,rfl,Bf _,?_,?_,s2 _ _ hHl,?_,?_,R2.same.trans s2,fun _ _ h=>h,fun z hz=>let ⟨u,hu⟩:=R2.zs z hz;⟨u,s2 _ _ hu⟩⟩,?_⟩
    ·rw[C7 (by rw[R1.len];exact hlr)]
    ·rw[Ci];exact R1.len
    ·rw[Jg,←ei'];exact Inn.mono s2 (Inn.new bs fun b hb=>(gW b hb).2.2)
    ·rw[Jg];intro ns ba;rw[(List.mem_replicate.mp ba).2];exact Bf _
    rintro i m σ3 H3 ⟨rfl,hi3,g1,g2,g3,g4,g5,g6,g7,g8⟩
    have plen:ps.length=qs.length:=by rw[gJ,A0]
    have vis:j6 (J3 (l::bs++Z) H2) H3:=g7.trans x4;by_cases eS:i<qs.length
    ·refine .inr ⟨wk2.go H3 vis i (by omega),fun σ' H'=>σ'[ir]?=some (some (.ref l))/\σ'.length=ρ.length/\H' l=some (.lst (bs.map V.ref))/\Inn H' bs ((qs.take (i+1)).foldl x90 (B1 ds.length []))/\(∀ns∈(qs.take (i+1)).foldl x90 (B1 ds.length []),ns.length≤2*(i+1))/\j6 H0 H'/\j6 (J3 (l::bs++Z) H2) (J3 (l::bs++Z) H')/\(∀z∈l::bs++Z,∃u,H' z=some u),
      fun σ' H' hh=>⟨qs.length-(i+1),by omega,rfl,eS,hh⟩,fun x H4 hy=>?_⟩
     obtain⟨sH,hx⟩:=wk2.yld H3 vis i x H4 hy;have hqi:qs[i]?=some qs[i]:=A3 eS;have hd:=hx (x7U qs[i]) (by rw[gJ,Au,hqi];rfl) (l::bs++Z) g8 g7
     have hq4:=k4 qs[i] (Bw eS);have htk:qs.take (i+1)=qs.take i++[qs[i]]:=(List.take_append_getElem eS).symm;rw[htk,List.foldl_append];generalize qs[i]=qq at hd hq4;obtain⟨a,b⟩:=qq;dsimp only at hq4;obtain⟨p,xs,rfl,t1,t2⟩:=j3.mp hd;have hxs:xs=[.int (a:Int),.int (b:Int)]:=(Q8 (ns:=[(a:Int),(b:Int)])).mp t2;subst hxs
     have n1:i1<σ3.length:=by rw[g2];exact k5
     have n2:i2<σ3.length:=by rw[g2];exact k6
     refine⟨p,_,rfl,u9 x4 t1,rfl,_,_,rfl,_,_,rfl,rfl,?_⟩;generalize (qs.take i).foldl x90 (B1 ds.length [])=aH at g4 g5;have hxl:bs.length=aH.length:=g4.len;have g4':=Inn.mono sH g4;obtain⟨c1,fK,e1,e2,e3⟩:=g4'.get (j:=a) (by omega);have c1m:c1∈bs:=Dp e1
     have ff:x0I aH a b=aH.set a (fK++[(b:Int)]):=by unfold x0I;rw[Bh,e2];rfl
     have I2:=Inn.upd (ms:=fK++[(b:Int)]) aB g4' e1;rw[←ff]at I2
     have hsz:∀(m:Nat),m≤2*i+1->m<sizeLine:=fun m hm=>by rw[C3];omega
     have l1:fK.length≤2*i:=g5 fK (Dp e2)
     have gs1:((σ3.set i1 (some (.int (a:Int)))).set i2 (some (.int (b:Int))))[ir]?=some (some (.ref l)):=by rw[Bd (Cl k8),Bd (Cl k7)];exact g1
     have gs2:((σ3.set i1 (some (.int (a:Int)))).set i2 (some (.int (b:Int))))[i1]?=some (some (.int (a:Int))):=by rw[Bd (Cl k9),C7 n1]
     have gs3:((σ3.set i1 (some (.int (a:Int)))).set i2 (some (.int (b:Int))))[i2]?=some (some (.int (b:Int))):=by rw[C7 (by rw[Ci];exact n2)]
     have lc1:l≠c1:=fun z=>hlb (z▸c1m);refine⟨l,bs,a,c1,fK.map V.int,.int (b:Int),gs1,gs2,gs3,sH _ _ g3,e1,e3,hsz _ (by rw[A0];omega),?_⟩
     have m1:fK.map V.int++[V.int (b:Int)]=(fK++[(b:Int)]).map V.int:=by rw[Ba];rfl
     rw[m1];obtain⟨c2,gE,f1,f2,f3⟩:=I2.get (j:=b) (by omega);have c2m:c2∈bs:=Dp f1;have lc2:l≠c2:=fun z=>hlb (z▸c2m)
     have fP:x0I (x0I aH a b) b a=(x0I aH a b).set b (gE++[(a:Int)]):=by show (x0I aH a b).set b ((x0I aH a b).getD b []++[(a:Int)])=_;rw[Bh,f2];rfl
     have I3:=Inn.upd (ms:=gE++[(a:Int)]) aB I2 f1;rw[←fP]at I3;have l2:gE.length≤2*i+1:=z7A g5 gE (Dp f2);refine⟨l,bs,b,c2,gE.map V.int,.int (a:Int),gs1,gs3,gs2,by rw[u8 lc1];exact sH _ _ g3,f1,f3,hsz _ (by rw[A0];exact l2),?_⟩
     have m2:gE.map V.int++[V.int (a:Int)]=(gE++[(a:Int)]).map V.int:=by rw[Ba];rfl
     rw[m2];have fz:∀c∈bs,c∈l::bs++Z:=fun c hc=>B9 _ (A7 _ hc);refine⟨gs1,by rw[Ci,Ci];exact g2,by rw[u8 lc2,u8 lc1];exact sH _ _ g3,I3,fun ns ba=>?_,z1K (hB c2 (A7 _ c2m)).2 (z1K (hB c1 (A7 _ c1m)).2 (g6.trans sH)),(g7.trans (y8 sH)).trans ((z1H (fz c1 c1m)).trans (z1H (fz c2 c2m))),fun z hz=>?_⟩
     ·have:=z7A (m:=2*i+1) (z7A g5) ns ba
      omega
     ·by_cases q2:z=c2
      ·exact⟨_,by rw[q2];exact x9⟩
      ·rw[u8 q2];by_cases q1:z=c1
       ·exact⟨_,by rw[q1];exact x9⟩
       ·rw[u8 q1];obtain⟨u,hu⟩:=g8 z hz;exact⟨u,sH _ _ hu⟩
    ·have eq':i=qs.length:=by omega
     subst eq';refine .inl ⟨by have:=wk2.stop H3 vis;rw[plen]at this;exact this,.ref l,g1,?_⟩
     rw[List.take_length]at g4;refine q (.ref l) H3 g6 (J5.mpr ⟨l,bs.map V.ref,rfl,SqL.of ?_,Inn.rep (fun b hb=>(hB b (A7 _ hb)).1) g4⟩);rw[K7 (hB l A6).1];exact g3
  ·rw[if_neg hok]at e;cases e
end
section
variable{X:Cx}
theorem x7O{i:Nat}{y:Bb}{py aY pos:F2}{aR ad ae:Expr}{aS:List Expr}{scope:Scope}{wi:TI}{g:TG}{tt:TT}{te:TE}(N:List Bb)(cap:List (Option Nat))(hc:X.calm=true)(hi:PI X ad ae wi)(hg:∀cl C fp s H,PG (K9 X N scope cl C fp s H) ad g)(ht:∀cl C fp s H,w0O (K9 X N scope cl C fp s H) aS tt)(he:∀cl C fp s H,PE (K9 X N scope cl C fp s H) aR te)(hN:X.N.Nodup)(dY:X.N[i]?=some y)(hy:Loc X.env.scope y)(hf:X.fn y=true∨X.env.scope.names.lookup y=some .local)(bY:Dy (.ListComp aR [⟨ad,ae,aS,0⟩] scope pos) (some (.Name y py)) aY.line X.env=Ck true)(hok:z4F scope X.env.scope N cap X.N=true)(hs:∀x,Cn ae X.env x=Ck x):
  PS X (.Assign [.Name y py] (.ListComp aR [⟨ad,ae,aS,0⟩] scope pos) aY) (w6C (x2W cap wi g tt te) (y2P i)):=by
 unfold z4F at hok;simp only[Ax]at hok;obtain⟨⟨⟨⟨⟨⟨h1,h2⟩,h3⟩,h4⟩,h5⟩,h6⟩,h7⟩:=hok;rw[C1]at h2 h3 h4 h5 h7;refine x3N (N:=N) (cap:=cap) (wi:=wi) (g:=g) (tt:=tt) (te:=te) hc hi hg ht he (by simpa using h1) (fun y hy e=>by have z:=h2 y hy;rw[e]at z;simpa using z) (fun y hy e=>?_) (fun y hy e=>?_) (fun y hy e=>?_) (fun i j e=>?_) (by simpa using h6) hN dY hy hf bY hs
 ·have z:=h3 y hy;rw[e]at z;simpa using z
 ·have z:=h4 y hy;rw[e]at z;simp only[beq_self_eq_true,if_true,Ax]at z;simpa using z.1
 ·have z:=h4 y hy;rw[e]at z;simp only[beq_self_eq_true,if_true,Ax,E2]at z;simpa using z.2
 ·have aO:i<cap.length:=(An.mp e).1;have z:=h5 i (Aj.mpr aO);rw[e]at z;dsimp only at z
  cases hn:N[i]? with
  |none=>rw[hn]at z;cases z
  |some x=>
   rw[hn]at z;dsimp only at z
   cases hm:X.N[j]? with
   |none=>rw[hm]at z;cases z
   |some y=>rw[hm]at z;simp only[Ax,beq_iff_eq]at z;obtain⟨rfl,z2⟩:=z;exact⟨x,rfl,rfl,z2⟩
theorem x2D{y t x1 x2:Bb}{ir i1 i2 kt:Nat}{ae dI:Expr}{scope:Scope}{fi fc:EL}{py aY pos lp tp q1 q2 qt fpos rpos rp a0 a1 a2 a3 a4 a5 a6 b0 b1 b2 b3 b4 b5 b6:F2}(hc:X.calm=true)(hp:L9 (B3 X.prog X.w) X.A X.env X.xe)(hi:ZI X (.Name t tp) ae fi)(dg:ZI X (.Tuple [.Name x1 q1,.Name x2 q2] kt qt) dI fc)(hN:X.N.Nodup)(dY:X.N[ir]?=some y:=by rfl)(da:X.N[i1]?=some x1:=by rfl)(hi2':X.N[i2]?=some x2:=by rfl)(hy:Loc X.env.scope y:=by first|exact Dw rfl|exact D2 rfl)(h1:Loc X.env.scope x1:=by first|exact Dw rfl|exact D2 rfl)(h2:Loc X.env.scope x2:=by first|exact Dw rfl|exact D2 rfl)(hfy:X.fn y=true∨X.env.scope.names.lookup y=some .local:=by first|exact .inl rfl|exact .inr rfl)(hf1:X.fn x1=true∨X.env.scope.names.lookup x1=some .local:=by first|exact .inl rfl|exact .inr rfl)(hf2:X.fn x2=true∨X.env.scope.names.lookup x2=some .local:=by first|exact .inl rfl|exact .inr rfl)(hdy:(y==("__debug__":Bb))=false:=by decide)(hcy:(y==("__classdict__":Bb))=false:=by decide)(hd1:(x1==("__debug__":Bb))=false:=by decide)(hc1:(x1==("__classdict__":Bb))=false:=by decide)(bv:(x2==("__debug__":Bb))=false:=by decide)(bf:(x2==("__classdict__":Bb))=false:=by decide)(hok:z4F scope X.env.scope [t] [none] X.N=true:=by rfl)(htl:scope.names.lookup t=some .local:=by rfl)(jm:∀cl C fp s H,Loc (K9 X [t] scope cl C fp s H).env.scope t:=by intros;exact Dw rfl)(bY:Dy (.ListComp (.List [] lp) [⟨.Name t tp,ae,[],0⟩] scope pos) (some (.Name y py)) aY.line X.env=Ck true:=by rfl)(hs:∀x,Cn ae X.env x=Ck x:=by intro _;rfl)(bH:∀x,Cn dI X.env x=Ck x:=by intro _;rfl)(hn:(Dv [.Name x1 q1,.Name x2 q2] X.env).length=2:=by rfl)(bX:(Dv [.Name x1 q1,.Name x2 q2] X.env).findIdx? (·.1)=none:=by rfl)(he1:(Dv [.Name x1 q1,.Name x2 q2] X.env).map (·.2)=Kg (.Name x1 q1) X.env::(Dv [.Name x2 q2] X.env).map (·.2):=by rfl)(bV:(Dv [.Name x2 q2] X.env).map (·.2)=Kg (.Name x2 q2) X.env::(Dv [] X.env).map (·.2):=by rfl)(A1:PS X (.Expr (.Call (.Attribute (.Subscript (.Name y a0) (.Name x1 a1) a2) "append" a3) [.Name x2 a4] [] a5) a6) (x2V ir i1 i2))(A2:PS X (.Expr (.Call (.Attribute (.Subscript (.Name y b0) (.Name x2 b1) b2) "append" b3) [.Name x1 b4] [] b5) b6) (x2V ir i2 i1)):ZB X [.Assign [.Name y py] (.ListComp (.List [] lp) [⟨.Name t tp,ae,[],0⟩] scope pos) aY,
   .For (.Tuple [.Name x1 q1,.Name x2 q2] kt qt) dI [.Expr (.Call (.Attribute (.Subscript (.Name y a0) (.Name x1 a1) a2) "append" a3) [.Name x2 a4] [] a5) a6,.Expr (.Call (.Attribute (.Subscript (.Name y b0) (.Name x2 b1) b2) "append" b3) [.Name x1 b4] [] b5) b6] [] fpos,
   .Return (some (.Name y rp)) rpos] (y74 ir i1 i2 fi fc):=by
 have hi:=hi.h;have dg:=dg.h;refine⟨?_⟩;have vy:Vis X.env.scope y:=hy.elim .inl fun z=>.inr (.inl z);refine w11 ?_ ?_ (x3L (z2K dY vy hdy hcy))
 ·exact x7O [t] [none] hc hi (fun cl C fp s H=>y2I (by simp) rfl (jm cl C fp s H) (.inl (by show (match scope.names.lookup t with|some .local=>true|some .cell=>true|_=>false)=true;rw[htl]))) (fun cl C fp s H=>y2G) (fun cl C fp s H=>x9O Y0) hN dY hy hfy bY hok hs
 ·exact x9L hp hc dg (x9N hc (y2H (y2I hN da h1 hf1) (y2H (y2I hN hi2' h2 hf2) x3S bV) he1) hn bX) (z8V A1 (y6H A2)) bH
end
end L3
namespace L3
open PySem PySem.Spec PyProof.Rows L2 PySem.SeqAt
section
variable{X:Cx}{e:Expr}
theorem J0{f:ED}(h:ZE X e f):ZQ X e (dSq f):=
 ⟨w72 h.h⟩
end
section
variable{X:Cx}{e:Expr}{es:List Expr}{f:ED}{g:EL}{pos:F2}
theorem y4:ZA X [] u3:=
 ⟨y19 ⟩
theorem z6(ha:ZE X e f)(hr:ZA X es g)(hs:Ac (e::es) X.env=(false,C0 e X.env)::Ac es X.env:=by exact v5 rfl):ZA X (e::es) (z7 f g):=
 ⟨z2T ha.h hr.h hs⟩
end
section
variable{X:Cx}{a b c:Expr}{fa fb fc:ED}{pos:F2}
theorem y7X{fb:EL}(hu:X.A.units+64<Cy)(ha:ZE X a fa)(hb:ZQ X b fb)(hm:Dd .In b=false:=by with_unfolding_all rfl):ZT X (.Compare a [.In] [b] pos) (y9 (dIn false fa fb)):=
 ⟨w41 hu ha.h hb.h hm⟩
theorem z91{fb:EL}(hu:X.A.units+64<Cy)(ha:ZE X a fa)(hb:ZQ X b fb)(hm:Dd .NotIn b=false:=by with_unfolding_all rfl):ZT X (.Compare a [.NotIn] [b] pos) (y9 (dIn true fa fb)):=
 ⟨x9A hu ha.h hb.h hm⟩
theorem K3{fa:EL}(ha:ZQ X a fa)(hb:ZE X b fb)(hs:y33 b:=by exact fun _ _=>rfl):ZE X (.Subscript a b pos) (dIx fa fb):=
 ⟨w6V ha.h hb.h hs⟩
theorem x93{lo hi:Option Expr}{p2:F2}{fl fh:u5->Option (Option Int)}(he:ZE X a fa)(hl:ZO X lo fl)(hh:ZO X hi fh):ZE X (.Subscript a (.Slice lo hi none p2) pos) (w0H fa fl fh):=
 ⟨w6U he.h hl.h hh.h⟩
end
section
variable{X:Cx}{a b e o:Expr}{pos aF p:F2}{f fa fb:ED}
theorem z6A(hu:X.A.units+64<Cy)(ho:ZE X o fa)(hi:ZE X a fb)(hs:w68 a:=by exact fun _ _=>rfl):ZE X (.Subscript o a pos) (z8K fa fb):=
 ⟨w17 hu ho.h hi.h hs⟩
end
end L3
namespace P
open PySem L2 L3
noncomputable def top(i:Nat):Db:=PySem.Challenge.pw_pageties_k05_whole_fewest_pages.main.body.getD i (.Pass ⟨0,0,0,0⟩)
abbrev x39:Db:=top 32
abbrev x37:Db:=top 33
abbrev x38:Db:=top 34
abbrev x3A:Db:=top 35
abbrev y28:Db:=top 36
abbrev x0D:Db:=top 5
abbrev y26:Db:=top 2
abbrev x36:Db:=top 6
abbrev x0E:Db:=top 7
abbrev z9B:Db:=top 8
abbrev z8D:Db:=top 9
abbrev x3D:Db:=top 10
abbrev y66:Db:=top 18
abbrev z78:Db:=top 20
abbrev y27:Db:=top 21
abbrev y65:Db:=top 11
abbrev z9A:Db:=top 12
abbrev x0G:Db:=top 13
abbrev y0L:Db:=top 22
abbrev y69:Db:=top 23
abbrev y3Y:Db:=top 17
abbrev y29:Db:=top 24
abbrev y0K:Db:=top 25
abbrev y64:Db:=top 26
abbrev x3C:Db:=top 27
abbrev y3X:Db:=top 28
abbrev z3N:Db:=top 19
abbrev y0M:Db:=top 29
abbrev x0F:Db:=top 1
abbrev y6B:Db:=top 15
abbrev y6A:Db:=top 16
abbrev y68:Db:=top 39
abbrev y67:Db:=top 37
abbrev x3B:Db:=top 38
abbrev w45:Db:=top 40
theorem w91{α:Type}(p:List α->Prop)(f:∀x0,p [x0]):∀us:List α,us.length=1->p us:=fun us h=>match us,h with|[x0],_=>f x0
theorem w8D{α:Type}(p:List α->Prop)(f:∀x0 x1,p [x0,x1]):∀us:List α,us.length=2->p us:=fun us h=>match us,h with|[x0,x1],_=>f x0 x1
theorem w8C{α:Type}(p:List α->Prop)(f:∀x0 x1 x2,p [x0,x1,x2]):∀us:List α,us.length=3->p us:=fun us h=>match us,h with|[x0,x1,x2],_=>f x0 x1 x2
theorem w90{α:Type}(p:List α->Prop)(f:∀x0 x1 x2 x3,p [x0,x1,x2,x3]):∀us:List α,us.length=4->p us:=fun us h=>match us,h with|[x0,x1,x2,x3],_=>f x0 x1 x2 x3
noncomputable def x6J:List Bb:=["_law_cell_here","_law_prime","_law_many"]
def x5A:EO:=z0E (d2 y50 (d2 y50 (d2 z65 (z8 0) (dC (.int 48271))) (z8 1)) (z8 2))
def Q5:LD:=dFn 3 x6J x5A
noncomputable def x6H:List Bb:=["_law_cell_here","_law_most","_law_ties","_law_many","_law_found","_law_k","_law_one","_law_other","_law_tie"]
def z9V:EO:=
 K6 (z0H 3 (d2 z2Q (dC (.int 1)) (x5 Q5 (z7 (z8 0) (z7 (dC (.int 9973)) (z7 (z8 1) (u3)))))))
 (K6 (z2E (z3Y (y9 (d2 dLt (z8 3) (dC (.int 4)))) (y9 (d2 w32 (d2 y50 (z8 0) (dC (.int 4))) (dC (.int 0)))))
 (z0H 3 (z8 1))
 (Z3))
 (K6 (z7Q 4 (y09 (u3)))
 (K6 (z6S (z0I (x5 Q5 (z7 (z8 0) (z7 (dC (.int 9967)) (z7 (d2 z2Q (z8 2) (dC (.int 1))) (u3)))))) (w9 5)
 (K6 (z0H 6 (x5 Q5 (z7 (d2 z2Q (z8 0) (d2 z65 (dC (.int 11)) (z8 5))) (z7 (dC (.int 9949)) (z7 (z8 3) (u3))))))
 (K6 (z0H 7 (x5 Q5 (z7 (d2 z2Q (d2 z2Q (z8 0) (d2 z65 (dC (.int 13)) (z8 5))) (dC (.int 1))) (z7 (dC (.int 9941)) (z7 (z8 3) (u3))))))
 (K6 (z0H 8 (z2O (z7 (x5 x26 (z7 (z8 6) (z7 (z8 7) u3))) (z7 (x5 w0D (z7 (z8 6) (z7 (z8 7) u3))) (u3)))))
 (z2E (z3Y (y9 (d2 dNe (z8 6) (z8 7))) (y9 (dIn true (z8 8) (z4Z 4))))
 (y9L 4 (z8 8))
 (Z3))))))
 (z0E (z2O (z7 (z8 3) (z7 (z6R (dQF z99 (z4Z 4))) (u3))))))))
def z6Y:LD:=dFn 3 x6H z9V
noncomputable def x6I:List Bb:=["_law_cell_here","_law_many","_law_left"]
def z9W:EO:=
 K6 (z7Q 2 (Y7 (z8 1)))
 (z0E (z6R (y55 [none,some 2,some 0,some 1] (z0I (z8 1)) (w9 0) (w3K 1 (x5 Q5 (z7 (d2 z2Q (z8 2) (d2 z65 (dC (.int 5)) (z8 0))) (z7 (dC (.int 9931)) (z7 (d2 y2U (z8 3) (z8 0)) (u3)))))))))
def z6Z:LD:=dFn 2 x6I z9W
noncomputable def x6K:List Bb:=["_law_web_here","_law_row_here","_law_one","_law_other","_law_first","_law_second","_law_between"]
def z9X:EO:=
 K6 (z0H 4 (dLs (Q3 [none,some 1] (dSq (dIx (dSq (dIx (dSq (z8 0)) (dC (.int 1)))) (z8 2))) (w9 0) (z3C) (y0A (z8 1) (z8 0)))))
 (K6 (z0H 5 (dLs (Q3 [none,some 1] (dSq (dIx (dSq (dIx (dSq (z8 0)) (dC (.int 1)))) (z8 3))) (w9 0) (z3C) (y0A (z8 1) (z8 0)))))
 (K6 (z2E (y0S (Q3 [none,some 5] (dSq (z8 4)) (w9 0) (y9 (dIn false (z8 0) (dSq (z8 1)))) (z8 0)))
 (z0E (dC (.str "meet")))
 (Z3))
 (K6 (z0H 6 (dLs (Q3 [none,some 4] (dSq (z8 5)) (w9 0) (y9 (z4E x1E x1E (z8J (z0V (z8 1))) (z8 0) (y75 (z0V (z8 1))))) (z8 0))))
 (K6 (z2E (y9 (d2 dEq (z15 (dSq (z8 6))) (dC (.int 1))))
 (z0E (dC (.str "cross")))
 (Z3))
 (K6 (z2E (y3D (y9 (d2 dEq (z15 (dSq (z8 6))) (dC (.int 2)))) (y9 (z4E x1E x1E (z8J (z0V (z8 5))) (z8J (z0V (z8 4))) (y75 (z0V (z8 5))))))
 (z0E (dC (.str "within")))
 (Z3))
 (z0E (dC (.str "apart"))))))))
def z50:LD:=dFn 4 x6K z9X
noncomputable def y36:List Bb:=["_law_web_here","_law_row_here","_law_kind","_law_word","_law_found","_law_other"]
def z3U:EO:=
 K6 (z0H 3 (dIx (y09 (z7 (dC (.str "cross")) (z7 (dC (.str "within")) (u3)))) (x5 x6Q (z7 (d2 dEq (z8 2) (dC (.str "queue"))) u3))))
 (K6 (z7Q 4 (y09 (u3)))
 (K6 (z6S (z0I (z15 (dSq (dIx (dSq (z8 0)) (dC (.int 1)))))) (w9 5)
 (x6R 4 (Q3 [none,some 5,some 0,some 1,some 3] (z0I (z8 5)) (w9 0) (y9 (d2 dEq (x5 z50 (z7 (z8 2) (z7 (z8 3) (z7 (z8 0) (z7 (z8 1) (u3)))))) (z8 4))) (z2O (z7 (z8 0) (z7 (z8 1) (u3)))))))
 (z0E (dLs (dQF z99 (z4Z 4))))))
def z1Y:LD:=dFn 3 y36 z3U
noncomputable def x1W:List Bb:=["row","spots","spot","place"]
def z7J:EO:=
 K6 (y4Y 1 (fun _=>some ([],[])))
 (K6 (z6S (x8O (z8 0)) (y52 2 (z2P (w9 2) (z2P (w9 3) (y53))))
 (y72 1 (z8 3) (z8 2)))
 (fun ρ=>z0E (z8 1) (frz 1 ρ)))
def z7V:LD:=dFn 1 x1W z7J
noncomputable def y34:List Bb:=["one","other"]
def z3S:EO:=z0E (z2O (z7 (x5 x26 (z7 (z8 0) (z7 (z8 1) u3))) (z7 (x5 w0D (z7 (z8 0) (z7 (z8 1) u3))) (u3))))
def z47:LD:=dFn 2 y34 z3S
noncomputable def x6G:List Bb:=["spots","tie"]
def z9U:EO:=z0E (x5 z47 (z7 (z8K (z8 0) (dIx (dSq (z8 1)) (dC (.int 0)))) (z7 (z8K (z8 0) (dIx (dSq (z8 1)) (dC (.int 1)))) (u3))))
def y0H:LD:=dFn 2 x6G z9U
noncomputable def x1X:List Bb:=["web","row","spots"]
def z7K:EO:=
 K6 (z0H 2 (x5 z7V (z7 (z8 1) (u3))))
 (z0E (dLs (Q3 [none,some 2] (dSq (dIx (dSq (z8 0)) (dC (.int 1)))) (w9 0) (z3C) (x5 y0H (z7 (z8 1) (z7 (z8 0) (u3)))))))
def z3F:LD:=dFn 2 x1X z7K
noncomputable def y0G:List Bb:=["one","other","first","second"]
def z26:EO:=
 K6 (z2E (y3D (y9 (dIn false (dIx (dSq (z8 0)) (dC (.int 0))) (dSq (z8 1)))) (y9 (dIn false (dIx (dSq (z8 0)) (dC (.int 1))) (dSq (z8 1)))))
 (z0E (dC (.str "meet")))
 (Z3))
 (K6 (z0H 2 (x5 w2V (z7 (z8 0) (z7 (z8 1) u3))))
 (K6 (z0H 3 (x5 w2X (z7 (z8 0) (z7 (z8 1) u3))))
 (K6 (z2E (y9 (d2 dLt (dIx (dSq (z8 2)) (dC (.int 1))) (dIx (dSq (z8 3)) (dC (.int 0)))))
 (z0E (dC (.str "apart")))
 (Z3))
 (z0E (dIf (y9 (d2 dLt (dIx (dSq (z8 2)) (dC (.int 1))) (dIx (dSq (z8 3)) (dC (.int 1))))) (dC (.str "cross")) (dC (.str "within")))))))
def z2C:LD:=dFn 2 y0G z26
noncomputable def z8L:List Bb:=["one","other","kind"]
def z1R:EO:=z0E (d2 dEq (x5 z2C (z7 (z8 0) (z7 (z8 1) (u3)))) (w33 [("pile","cross"),("queue","within")] (z8 2)))
def Q2:LD:=dFn 3 z8L z1R
noncomputable def x6L:List Bb:=["web","row","kind","spans","found","one","span","later"]
def z9Y:EO:=
 K6 (z0H 3 (x5 z3F (z7 (z8 0) (z7 (z8 1) (u3)))))
 (K6 (z7Q 4 (y09 (u3)))
 (K6 (z6S (x8O (z8 3)) (y52 2 (z2P (w9 5) (z2P (w9 6) (y53))))
 (K6 (z0H 7 (dLs (Q3 [none,some 6,some 3,some 2] (y4Z (d2 z2Q (z8 5) (dC (.int 1))) (z15 (dSq (z8 3)))) (w9 0) (y9 (x5 Q2 (z7 (z8 1) (z7 (dIx (dSq (z8 2)) (z8 0)) (z7 (z8 3) (u3)))))) (z8 0))))
 (x6R 4 (Q3 [none,some 5] (dSq (z8 7)) (w9 0) (z3C) (z2O (z7 (z8 1) (z7 (z8 0) (u3))))))))
 (z0E (z6R (z4Z 4)))))
def z2D:LD:=dFn 3 x6L z9Y
noncomputable def y7K:List Bb:=["web","row","kind","rivals","one","other"]
def y6V:EO:=y74 3 4 5 (dSq (dIx (dSq (z8 0)) (dC (.int 1)))) (dSq (x5 z2D (z7 (z8 0) (z7 (z8 1) (z7 (z8 2) (u3))))))
def z66:LD:=dFn 3 y7K y6V
noncomputable def z7T:List Bb:=["rivals","pages","tie"]
def z19:EO:=z0E (dLs (Q3 [none,some 1] (dSq (dIx (dSq (z8 0)) (z8 2))) (w9 0) (x8L (y9 (dIn false (z8 0) (dSq (z8 1)))) (y9 (x8P false (z8 0) (z8 1)))) (z8K (z8 1) (z8 0))))
def j9:LD:=dFn 3 z7T z19
noncomputable def y35:List Bb:=["web","row","rivals","spans","pages","tie","taken"]
def z3T:EO:=
 K6 (z0H 3 (x5 z3F (z7 (z8 0) (z7 (z8 1) (u3)))))
 (K6 (y4Y 4 (fun _=>some ([],[])))
 (K6 (z6S (dSq (dLs (z5M [none,some 3] (Y7 (z15 (dSq (z8 3)))) (dIx (dSq (z8 1)) (z8 0))))) (w9 5)
 (K6 (z0H 6 (y2W 4 (x5 j9 (z7 (z8 2) (z7 (z8 4) (z7 (z8 5) (u3)))))))
 (y72 4 (z8 5) (z8J (Q3 [none,some 6] (z0I (d2 z2Q (z15 (dSq (z8 6))) (dC (.int 1)))) (w9 0) (y9 (dIn true (z8 0) (dSq (z8 1)))) (z8 0))))))
 (fun ρ=>z0E (z8 4) (frz 4 ρ))))
def z1X:LD:=dFn 3 y35 z3T
noncomputable def y7J:List Bb:=["spans","gap","over"]
def z5Y:EO:=
 K6 (z0H 2 (dLs (Q3 [none,some 0,some 1] (z0I (z15 (dSq (z8 0)))) (w9 0) (y9 (z4E w8H x1E (dIx (dSq (dIx (dSq (z8 1)) (z8 0))) (dC (.int 0))) (z8 2) (dIx (dSq (dIx (dSq (z8 1)) (z8 0))) (dC (.int 1))))) (z8 0))))
 (z0E (dLs (z5M [none,some 0] (dSq (z8 2)) (dIx (dSq (z8 1)) (z8 0)))))
def z45:LD:=dFn 2 y7J z5Y
noncomputable def y0F:List Bb:=["spans","ties","kind","chains","tie","before"]
def z24:EO:=
 K6 (z7Q 3 (y09 (u3)))
 (K6 (z6S (dSq (z8 1)) (w9 4)
 (K6 (z0H 5 (dLs (Q3 [none,some 0,some 4,some 2] (z4Z 3) (w9 0) (y9 (x5 Q2 (z7 (dIx (dSq (z8 1)) (dIx (dSq (z8 0)) (x1D (dC (.int 1))))) (z7 (dIx (dSq (z8 1)) (z8 2)) (z7 (z8 3) (u3)))))) (z8 0))))
 (y9L 3 (d2 z2Q (y08 (dSq (z8 5)) (z2O (u3))) (z2O (z7 (z8 4) (u3)))))))
 (z0E (y08 (z4Z 3) (z2O (u3)))))
def z12:LD:=dFn 3 y0F z24
noncomputable def x1Z:List Bb:=["web","row","kind","spans","found","gap"]
def z7M:EO:=
 K6 (z0H 3 (x5 z3F (z7 (z8 0) (z7 (z8 1) (u3)))))
 (K6 (z0H 4 (z2O (u3)))
 (K6 (z6S (z0I (d2 y2U (dIx (dSq (z8 0)) (dC (.int 0))) (dC (.int 1)))) (w9 5)
 (z0H 4 (d2 z7E (z8 4) (x5 z12 (z7 (z8 3) (z7 (x5 z45 (z7 (z8 3) (z7 (z8 5) (u3)))) (z7 (z8 2) (u3))))))))
 (z0E (z6R (dQF z99 (dSq (z8 4)))))))
def z1E:LD:=dFn 3 x1Z z7M
noncomputable def y0V:List Bb:=["rivals","tie","group","reached"]
def z2X:EO:=
 K6 (z7Q 2 (y09 (z7 (z8 1) (u3))))
 (K6 (z0H 3 (dC (.int 0)))
 (K6 (z3B 200 (y9 (d2 dLt (z8 3) (z15 (z4Z 2))))
 (K6 (x6R 2 (Q3 [none,some 2] (dSq (dIx (dSq (z8 0)) (dIx (z4Z 2) (z8 3)))) (w9 0) (y9 (dIn true (z8 0) (z4Z 1))) (z8 0)))
 (x1G 3 (dC (.int 1)))))
 (fun ρ=>z0E (z8 2) (frz 2 ρ))))
def z1I:LD:=dFn 2 y0V z2X
noncomputable def y7N:List Bb:=["rivals","groups","grouped","tie","member"]
def z61:EO:=
 K6 (z7Q 1 (y09 (u3)))
 (K6 (y4Y 2 (fun _=>some ([],[])))
 (K6 (z6S (z0I (z15 (dSq (z8 0)))) (w9 3)
 (z2E (y9 (x1F true (z8 3) 2))
 (K6 (y9L 1 (x5 z1I (z7 (z8 0) (z7 (z8 3) (u3)))))
 (z6S (dSq (dIx (z4Z 1) (x1D (dC (.int 1))))) (w9 4)
 (y72 2 (z8 4) (dC (.bl true)))))
 (Z3)))
 (fun ρ=>z0E (z8 1) (frz 1 ρ))))
def z67:LD:=dFn 1 y7N z61
noncomputable def y5J:List Bb:=["pages"]
def z4U:EO:=z0E (z1C (dSq (z8 0)))
def Q9:LD:=dFn 1 y5J z4U
noncomputable def y37:List Bb:=["rivals","group","pages","left"]
def z3V:EO:=
 K6 (z0H 3 (dLs (Q3 [none,some 2] (dSq (z8 1)) (w9 0) (x8L (y9 (dIn true (z8 0) (dSq (z8 1)))) (y9 (x8P true (z8 0) (z8 1)))) (z8 0))))
 (z0E (y2V [none,some 0,some 2] (dSq (z8 3)) (z2O (z7 (x5 Q9 (z7 (x5 j9 (z7 (z8 1) (z7 (z8 2) (z7 (z8 0) (u3))))) (u3))) (z7 (z15 (dSq (dIx (dSq (z8 1)) (z8 0)))) (u3))))))
def z49:LD:=dFn 3 y37 z3V
noncomputable def y0U:List Bb:=["pages","many"]
def z2W:EO:=z0E (dLs (Y7 (x5 x26 (z7 (z8 1) (z7 (d2 z2Q (x5 Q9 (z7 (dLs (x5R (z8 0))) (u3))) (dC (.int 1))) u3)))))
def z0Q:LD:=dFn 2 y0U z2W
noncomputable def y7I:List Bb:=["pages","tie","page","more"]
def z5X:EO:=
 K6 (y4Y 3 (y54 (z8 0)))
 (K6 (y72 3 (z8 1) (z8 2))
 (fun ρ=>z0E (z8 3) (frz 3 ρ)))
def z2B:LD:=dFn 3 y7I z5X
noncomputable def y5L:List Bb:=["rivals","group","pages","many","tie","taken","page","found"]
def z38(Fr:LD):EO:=
 K6 (z2E (y9 (d2 dEq (y76 (z8 2)) (z15 (dSq (z8 1)))))
 (z0E (z8 2))
 (Z3))
 (K6 (z0H 4 (x5 z49 (z7 (z8 0) (z7 (z8 1) (z7 (z8 2) (u3))))))
 (K6 (z0H 5 (x5 j9 (z7 (z8 0) (z7 (z8 2) (z7 (z8 4) (u3))))))
 (K6 (z6S (dSq (x5 z0Q (z7 (z8 2) (z7 (z8 3) (u3))))) (w9 6)
 (z2E (y9 (dIn true (z8 6) (dSq (z8 5))))
 (K6 (z0H 7 (x5 Fr (z7 (z8 0) (z7 (z8 1) (z7 (x5 z2B (z7 (z8 2) (z7 (z8 4) (z7 (z8 6) (u3))))) (z7 (z8 3) (u3)))))))
 (z2E (y9 (d2 x8N (z8 7) (dC .non)))
 (z0E (z8 7))
 (Z3)))
 (Z3)))
 (z0E (dC .non)))))
def W6:Nat->List D->Option D
 | 0=>dFn 4 y5L (fun _=>none)
 |k+1=>dFn 4 y5L (z38 (W6 k))
noncomputable def y5I:List Bb:=["rivals","many","pages","group","found"]
def z4T:EO:=
 K6 (y4Y 2 (fun _=>some ([],[])))
 (K6 (z6S (dSq (x5 z67 (z7 (z8 0) (u3)))) (w9 3)
 (K6 (z0H 4 (x5 (W6 12) (z7 (z8 0) (z7 (z8 3) (z7 (dDs (fun _=>some ([],[]))) (z7 (z8 1) (u3)))))))
 (K6 (z3B 200 (y9 (d2 dIs (z8 4) (dC .non)))
 (K6 (x1G 1 (dC (.int 1)))
 (z0H 4 (x5 (W6 12) (z7 (z8 0) (z7 (z8 3) (z7 (dDs (fun _=>some ([],[]))) (z7 (z8 1) (u3)))))))))
 (w6G 2 (z8 4)))))
 (fun ρ=>z0E (z8 2) (frz 2 ρ)))
def z2R:LD:=dFn 2 y5I z4T
noncomputable def z44:List Bb:=["pages","numbers","page"]
def z04:EO:=
 K6 (y4Y 1 (fun _=>some ([],[])))
 (K6 (z6S (dSq (z8 0)) (w9 2)
 (y06 1 (z8 2) (y2W 1 (y76 (z8 1)))))
 (fun ρ=>(z0E (z6R (Q3 [none,some 1] (dSq (z8 0)) (w9 0) (z3C) (z8K (z8 1) (z8 0))))) (frz 1 ρ)))
def z06:LD:=dFn 1 z44 z04
noncomputable def y0W:List Bb:=["web","row","kind","rivals","pages"]
def z2Y:EO:=
 K6 (z0H 3 (x5 z66 (z7 (z8 0) (z7 (z8 1) (z7 (z8 2) (u3))))))
 (K6 (z2E (y9 (d2 dEq (z8 2) (dC (.str "queue"))))
 (z0H 4 (x5 z1X (z7 (z8 0) (z7 (z8 1) (z7 (z8 3) (u3))))))
 (z0H 4 (x5 z2R (z7 (z8 3) (z7 (z15 (dSq (x5 z1E (z7 (z8 0) (z7 (z8 1) (z7 (z8 2) (u3))))))) (u3))))))
 (z0E (x5 z06 (z7 (dLs (Q3 [none,some 4] (z0I (z15 (dSq (z8 3)))) (w9 0) (z3C) (z8K (z8 1) (z8 0)))) (u3)))))
def z0R:LD:=dFn 3 y0W z2Y
noncomputable def x1Y:List Bb:=["thing"]
def z7L:EO:=z0E (x8Q (x27 "int" (z8 0)) (w3L (x27 "bool" (z8 0))))
def z3G:LD:=dFn 1 x1Y z7L
noncomputable def y7P:List Bb:=["web","thing"]
def z1A:EO:=
 K6 (z2E (y3D (z64 (y9 (x27 "tuple" (z8 1)))) (y9 (d2 dNe (z15 (dSq (z8 1))) (z15 (dSq (dIx (dSq (z8 0)) (dC (.int 1))))))))
 (z0E (dC (.bl false)))
 (Z3))
 (z0E (w3M (Q3 [none] (dSq (z8 1)) (w9 0) (z3C) (x8Q (x5 z3G (z7 (z8 0) (u3))) (d2 w6H (z8 0) (dC (.int 0)))))))
def z1F:LD:=dFn 2 y7P z1A
noncomputable def y7O:List Bb:=["web","row","kind","thing"]
def z27:EO:=
 K6 (z2E (z64 (y9 (x5 z1F (z7 (z8 0) (z7 (z8 3) (u3))))))
 (z0E (dC (.bl false)))
 (Z3))
 (z0E (w3M (Q3 [none,none,some 3] (dSq (x5 z2D (z7 (z8 0) (z7 (z8 1) (z7 (z8 2) (u3)))))) (y52 2 (z2P (w9 0) (z2P (w9 1) (y53)))) (z3C) (d2 dNe (dIx (dSq (z8 2)) (z8 0)) (dIx (dSq (z8 2)) (z8 1))))))
def Q0:LD:=dFn 4 y7O z27
noncomputable def y7M:List Bb:=["_law_pairs","_law_pages"]
def z60:EO:=z0E (d2 dEq (dLs (Q3 [none,some 1] (dSq (z8 0)) (w9 0) (y9 (d2 dEq (dIx (dSq (z8 1)) (dIx (dSq (z8 0)) (dC (.int 0)))) (dIx (dSq (z8 1)) (dIx (dSq (z8 0)) (dC (.int 1)))))) (z8 0))) (dLs (y09 (u3))))
def z07:LD:=dFn 2 y7M z60
noncomputable def y7L:List Bb:=["_law_found"]
def z5Z:EO:=z0E (x8Q (x27 "int" (z8 0)) (w3L (x27 "bool" (z8 0))))
def z48:LD:=dFn 1 y7L z5Z
noncomputable def y5K:List Bb:=["_law_pairs","_law_many","_law_size","_law_pages","_law_page"]
def z25(Fr:LD):EO:=
 K6 (z2E (y9 (d2 dEq (z15 (dSq (z8 3))) (z8 2)))
 (z0E (dC (.bl true)))
 (Z3))
 (K6 (z6S (z0I (x5 x26 (z7 (z8 1) (z7 (d2 z2Q (z1C (dSq (z8 3))) (dC (.int 1))) u3)))) (w9 4)
 (z2E (z64 (y0S (Q3 [none,some 3,some 4,some 0] (z0I (z15 (dSq (z8 3)))) (w9 0) (z3Y (y9 (d2 dEq (dIx (dSq (z8 1)) (z8 0)) (z8 2))) (y9 (dIn false (z2O (z7 (z8 0) (z7 (z15 (dSq (z8 1))) (u3)))) (dSq (z8 3))))) (z8 0))))
 (z2E (y9 (x5 Fr (z7 (z8 0) (z7 (z8 1) (z7 (z8 2) (z7 (dLs (x5U (z0V (z8 3)) (y09 (z7 (z8 4) (u3))))) (u3)))))))
 (z0E (dC (.bl true)))
 (Z3))
 (Z3)))
 (z0E (dC (.bl false))))
def W5:Nat->List D->Option D
 | 0=>dFn 4 y5K (fun _=>none)
 |k+1=>dFn 4 y5K (z25 (W5 k))
noncomputable def w7Y:List Bb:=["_law_script","_law_cell_here","_law_web_here","_law_row_here","_law_size","_law_kind","_law_pairs","_law_found","_law_many","_law_first","_law_page","_law_least","_law_more","_law_pages","_law_told","_law_bad"]
def w2Q:EO:=
 K6 (z6S (dSq (w0H (z8 0) (w8G) (y73 (dC (.int 3))))) (w9 1)
 (K6 (z0H 2 (x5 z6Y (z7 (z8 1) (z7 (dC (.int 6)) (z7 (dC (.int 10)) (u3))))))
 (K6 (z0H 3 (x5 z6Z (z7 (d2 w34 (z8 1) (dC (.int 3))) (z7 (dIx (dSq (z8 2)) (dC (.int 0))) (u3)))))
 (K6 (z0H 4 (z15 (dSq (dIx (dSq (z8 2)) (dC (.int 1))))))
 (z6S (dSq (z2O (z7 (dC (.str "pile")) (z7 (dC (.str "queue")) (u3))))) (w9 5)
 (K6 (z0H 6 (x5 z1Y (z7 (z8 2) (z7 (z8 3) (z7 (z8 5) (u3))))))
 (K6 (z0H 7 (x5 z0R (z7 (z8 2) (z7 (z8 3) (z7 (z8 5) (u3))))))
 (K6 (z2E (y3D (y9 (d2 x8N (x5 Q0 (z7 (z8 2) (z7 (z8 3) (z7 (z8 5) (z7 (z8 7) (u3)))))) (dC (.bl true)))) (z64 (y9 (x5 z07 (z7 (z8 6) (z7 (z8 7) (u3)))))))
 (z0E (dC (.bl false)))
 (Z3))
 (K6 (z0H 8 (x5 Q9 (z7 (z8 7) (u3))))
 (K6 (z7Q 9 (y09 (u3)))
 (K6 (z6S (dSq (z8 7)) (w9 10)
 (z2E (y9 (dIn true (z8 10) (z4Z 9)))
 (y9L 9 (z8 10))
 (Z3)))
 (K6 (z2E (y3D (z64 (y9 (x5 z48 (z7 (z8 8) (u3))))) (y51 9 (y9 (d2 dNe (z8 9) (dLs (Y7 (z8 8)))))))
 (z0E (dC (.bl false)))
 (Z3))
 (K6 (z2E (z3Y (y9 (d2 w32 (z8 8) (dC (.int 0)))) (y9 (x5 (W5 12) (z7 (z8 6) (z7 (d2 y2U (z8 8) (dC (.int 1))) (z7 (z8 4) (z7 (dLs (y09 (u3))) (u3))))))))
 (z0E (dC (.bl false)))
 (Z3))
 (K6 (z0H 11 (z15 (dSq (x5 z1E (z7 (z8 2) (z7 (z8 3) (z7 (z8 5) (u3))))))))
 (K6 (z2E (y3D (y9 (d2 dLt (z8 8) (z8 11))) (z3Y (y9 (d2 dEq (z8 5) (dC (.str "queue")))) (y9 (d2 dNe (z8 8) (z8 11)))))
 (z0E (dC (.bl false)))
 (Z3))
 (K6 (z6S (dSq (w0H (z8 0) (y73 (dC (.int 3))) (y73 (dC (.int 6))))) (w9 12)
 (K6 (z0H 13 (z6R (Q3 [none,some 12] (z0I (z8 4)) (w9 0) (z3C) (x5 Q5 (z7 (d2 z2Q (z8 1) (d2 z65 (dC (.int 3)) (z8 0))) (z7 (dC (.int 9923)) (z7 (dC (.int 4)) (u3))))))))
 (K6 (z0H 14 (x5 Q0 (z7 (z8 2) (z7 (z8 3) (z7 (z8 5) (z7 (z8 13) (u3)))))))
 (K6 (z2E (y3D (z64 (y9 (x27 "bool" (z8 14)))) (y9 (d2 dNe (z8 14) (x5 z07 (z7 (z8 6) (z7 (z8 13) (u3)))))))
 (z0E (dC (.bl false)))
 (Z3))
 (z2E (y9 (d2 dNe (x5 Q9 (z7 (z8 13) (u3))) (z1C (dSq (z8 13)))))
 (z0E (dC (.bl false)))
 (Z3))))))
 (z6S (dSq (dLs (y09 (z7 (d2 z2Q (z8 7) (z2O (z7 (dC (.int 0)) (u3)))) (z7 (dLs (dQF some (dSq (z8 7)))) (z7 (dC .non) (z7 (d2 z65 (z2O (z7 (dC (.str "0")) (u3))) (d2 z2Q (z8 4) (dC (.int 1)))) (z7 (d2 z2Q (d2 z65 (z2O (z7 (x1D (dC (.int 1))) (u3))) (z8 4)) (d2 z65 (z2O (z7 (dC (.int 0)) (u3))) (x5 x6Q (z7 (d2 dEq (z8 4) (dC (.int 0))) u3)))) (u3))))))))) (w9 15)
 (z2E (y9 (d2 x8N (x5 Q0 (z7 (z8 2) (z7 (z8 3) (z7 (z8 5) (z7 (z8 15) (u3)))))) (dC (.bl false))))
 (z0E (dC (.bl false)))
 (Z3)))))))))))))))))))
 (z0E (dC (.bl true)))
def x24:LD:=dFn 1 w7Y w2Q
structure Top(K:A5)(w:C8)(mg:Bb->Option A8):Prop where
 d_law_mix:Stands K mg "_law_mix" x39
 d_law_web:Stands K mg "_law_web" x37
 d_law_row:Stands K mg "_law_row" x38
 d_law_how:Stands K mg "_law_how" x3A
 d_law_clashes:Stands K mg "_law_clashes" y28
 d_spots_of:Stands K mg "spots_of" x0D
 d_rising_pair:Stands K mg "rising_pair" y26
 d_span_of:Stands K mg "span_of" x36
 d_spans_of:Stands K mg "spans_of" x0E
 d_how_spans_lie:Stands K mg "how_spans_lie" z9B
 d_do_spans_clash:Stands K mg "do_spans_clash" z8D
 d_clashes:Stands K mg "clashes" x3D
 d_rivals_of:Stands K mg "rivals_of" y66
 d_taken_by_rivals:Stands K mg "taken_by_rivals" z78
 d_queue_pages:StandsL K mg "queue_pages" y27
 d_ties_over:StandsL K mg "ties_over" y65
 d_longest_chain:Stands K mg "longest_chain" z9A
 d_greatest:Stands K mg "greatest" x0G
 d_group_around:Stands K mg "group_around" y0L
 d_groups_of:Stands K mg "groups_of" y69
 d_page_count:Stands K mg "page_count" y3Y
 d_hardest_tie:StandsL K mg "hardest_tie" y29
 d_pages_to_try:Stands K mg "pages_to_try" y0K
 d_with_page:Stands K mg "with_page" y64
 d_laid_on:Stands K mg "laid_on" x3C
 d_pile_pages:Stands K mg "pile_pages" y3X
 d_numbered_as_they_come:Stands K mg "numbered_as_they_come" z3N
 d_fewest_pages:Stands K mg "fewest_pages" y0M
 d_is_whole:Stands K mg "is_whole" x0F
 d_are_pages:Stands K mg "are_pages" y6B
 d_are_right:Stands K mg "are_right" y6A
 d_law_right:Stands K mg "_law_right" y68
 d_law_whole:Stands K mg "_law_whole" y67
 d_law_can:Stands K mg "_law_can" x3B
 d_law:Stands K mg "law" w45
 x_bm:BmAt K mg
 b_all:mg "all" = none
 b_bool:mg "bool" = none
 b_dict:mg "dict" = none
 b_enumerate:mg "enumerate" = none
 b_int:mg "int" = none
 b_isinstance:mg "isinstance" = none
 b_len:mg "len" = none
 b_list:mg "list" = none
 b_max:mg "max" = none
 b_min:mg "min" = none
 b_range:mg "range" = none
 b_set:mg "set" = none
 b_sorted:mg "sorted" = none
 b_tuple:mg "tuple" = none
 x_CLASHING:∃a,mg "CLASHING" = some (.ref a)/\w7Z K w a [("pile","cross"),("queue","within")]
section
variable{pr:Bo}{w:C8}{K:A5}{mg:Bb->Option A8}{base:C5}{x:Bb}{st:Db}{N ps:List Bb}{k n:Nat}{g:EO}
theorem zfd(G:Stands K mg x st) (ap:∀(f:Ap) (am:A8) (A:By) (outer:List Ls) (s:Ah) (H:Hp) (E:XK) (hr:Room k (A.deeper (D5 x (v6 st) s.heap.objs.size f am))),(A.deeper (D5 x (v6 st) s.heap.objs.size f am)).units+64<Cy->(A.deeper (D5 x (v6 st) s.heap.objs.size f am)).units<Cy->N.Nodup ->
   ZB (x1H CX0 pr w K mg base N x (v6 st) f am A outer s H E).nox (z05 st) g) (S:FnScope N ps (v6 st):=by exact⟨rfl,rfl,rfl,by decide +kernel,rfl,by decide +kernel,by decide +kernel⟩) (hb:∀(kV av pm:A8) (an:Option Ap) (am ct:A8) (us:List A8),us.length=ps.length->Ge (Dm x x (z2A st) (z05 st) (v6 st) .none kV av pm an am ct) ⟨us,[]⟩=Ck (ps.zip us):=by first|exact fun _ _ _ _ _ _=>w8C _ fun _ _ _=>rfl|exact fun _ _ _ _ _ _=>w8D _ fun _ _=>rfl|exact fun _ _ _ _ _ _=>w91 _ fun _=>rfl|exact fun _ _ _ _ _ _=>w90 _ fun _ _ _ _=>rfl|exact fun _ _ _ _ _ _=>len5 _ fun _ _ _ _ _=>rfl) (hn:ps.length=n:=by rfl):FnD pr w K mg base (k+1) x ps (dFn n N g):=
 w6K G S hb hn fun f am A outer s H E hr=>ap f am A outer s H E hr hr.units hr.units0 S.nd
theorem w6L(G:StandsL K mg x st) (ap:∀(f:Ap) (am:A8) (A:By) (outer:List Ls) (s:Ah) (H:Hp) (E:XK),z9Q K am x=true->∀(hr:Room k (A.deeper (D5 x (v6 st) s.heap.objs.size f am))),(A.deeper (D5 x (v6 st) s.heap.objs.size f am)).units+64<Cy->(A.deeper (D5 x (v6 st) s.heap.objs.size f am)).units<Cy->N.Nodup ->
   ZB (x1H CX0 pr w K mg base N x (v6 st) f am A outer s H E).nox (z05 st) g) (S:FnScope N ps (v6 st):=by exact⟨rfl,rfl,rfl,by decide +kernel,rfl,by decide +kernel,by decide +kernel⟩) (hb:∀(kV av pm:A8) (an:Option Ap) (am ct:A8) (us:List A8),us.length=ps.length->Ge (Dm x x (z2A st) (z05 st) (v6 st) .none kV av pm an am ct) ⟨us,[]⟩=Ck (ps.zip us):=by first|exact fun _ _ _ _ _ _=>w8C _ fun _ _ _=>rfl|exact fun _ _ _ _ _ _=>w8D _ fun _ _=>rfl) (hn:ps.length=n:=by rfl):FnD pr w K mg base (k+1) x ps (dFn n N g):=
 w3S G S hb hn fun f am A outer s H E hl hr=>ap f am A outer s H E hl hr hr.units hr.units0 S.nd
theorem zfk{f:Ap}{fd:Ep}(G:Fun K x x st f fd)(S:FnScope N ps (v6 st))(hn:ps.length=n) (ap:∀(am:A8) (A:By) (outer:List Ls) (s:Ah) (H:Hp) (E:XK) (hr:Room k (A.deeper (D5 x (v6 st) s.heap.objs.size f am))),(A.deeper (D5 x (v6 st) s.heap.objs.size f am)).units+64<Cy->(A.deeper (D5 x (v6 st) s.heap.objs.size f am)).units<Cy->N.Nodup ->
   ZB (x1H CX0 pr w K mg base N x (v6 st) f am A outer s H E).nox (z05 st) g):FnOk pr w K mg base CX0 (k+1) f fd ps (spD K (dFn n N g)):=
 x5D G S (fun ds d e=>by
  unfold dFn at e;split at e
  ·rename_i h;rw[h,hn]
  ·cases e) (fun ds d e=>by
  unfold dFn at e;split at e
  ·exact e
  ·cases e) fun am A outer s H E hr=>(ap am A outer s H E hr hr.units hr.units0 S.nd).h
theorem st_mk{h:C5}{f:Ap}{od an:Option Ap}{sl:Array (Option A8)}{oc kV dc pm cd ct:A8}(X:K.In h)(G:h.Ns Ct mg)(a:Hv K Ct x=some (some (.ref f)))(l:K.lookup f=some ⟨oc,od,.func (Dm x x (z2A st) (z05 st) (v6 st) .none kV dc pm an cd ct),sl⟩)(c:Hs K cd x=true)(k:Fh K (.ref f)=true):Stands K mg x st:=
 ⟨_,_,w0B l c k,Ll X G a⟩
theorem stL_mk{h:C5}{f:Ap}{od an:Option Ap}{sl:Array (Option A8)}{oc kV dc pm cd ct:A8}(X:K.In h)(G:h.Ns Ct mg)(a:Hv K Ct x=some (some (.ref f)))(l:K.lookup f=some ⟨oc,od,.func (Dm x x (z2A st) (z05 st) (v6 st) .none kV dc pm an cd ct),sl⟩)(c:Hs K cd x=true)(k:Fh K (.ref f)=true)(m:z9Q K cd x=true):StandsL K mg x st:=
 ⟨_,_,w0B l c k,Ll X G a,m⟩
end
section
variable{P:Bo}{w:C8}{K:A5}{mg:Bb->Option A8}{base:C5}
theorem z1Z(T:Top K w mg):FnD P w K mg base 1 "_law_mix" ["_law_cell_here","_law_prime","_law_many"] Q5:=zfd T.d_law_mix fun _ _ _ _ _ _ _ hr hu aK nd=>y6 (v7 (y5W (y5W (z4J (zsv 0) x8) (zsv 1)) (zsv 2)))
theorem x0N(T:Top K w mg):FnD P w K mg base 2 "_law_web" ["_law_cell_here","_law_most","_law_ties"] z6Y:=
 zfd T.d_law_web fun _ _ _ _ _ _ _ hr hu aK nd=>y3 (J4 (i:=3) (z0T x8 (j5 (z1Z T) hr (z6 (zsv 0) (z6 x8 (z6 (zsv 1) y4))))) nd)
   (y3 (z08 (z8A (z90 (y3E aK (zsv 3) x8) (z68 (x2C (y5W (zsv 0) x8) x8))))
   (y6 (J4 (i:=3) (zsv 1) nd))
   Y5)
   (y3 (z2H (i:=4) (z1O y4) nd)
   (y3 (z0A Bp rfl (z0S T.b_range (j5 (z1Z T) hr (z6 (zsv 0) (z6 x8 (z6 (z0T (zsv 2) x8) y4))))) (v4 (i:=5) nd)
   (y3 (J4 (i:=6) (j5 (z1Z T) hr (z6 (z0T (zsv 0) (z4J x8 (zsv 5))) (z6 x8 (z6 (zsv 3) y4)))) nd)
   (y3 (J4 (i:=7) (j5 (z1Z T) hr (z6 (z0T (z0T (zsv 0) (z4J x8 (zsv 5))) x8) (z6 x8 (z6 (zsv 3) y4)))) nd)
   (y3 (J4 (i:=8) (z0K (z6 (z8P rfl T.b_min (zsv 6) (zsv 7)) (z6 (y81 rfl T.b_max (zsv 6) (zsv 7)) y4))) nd)
   (y6 (z08 (z8A (z90 (y10 hu (zsv 6) (zsv 7)) (z68 (z91 hu (zsv 8) (zqv 4)))))
   (y6 (y1V (i:=4) (zsv 8)))
   Y5))))))
   (y6 (v7 (z0K (z6 (zsv 3) (z6 (z4I T.b_tuple (w3T (z73 T.b_sorted (zqv 4)))) y4))))))))
theorem x0O(T:Top K w mg):FnD P w K mg base 2 "_law_row" ["_law_cell_here","_law_many"] z6Z:=
 zfd T.d_law_row fun _ _ _ _ _ _ _ hr hu aK nd=>y3 (z2H (i:=2) (z5S rfl T.b_list T.b_range (zsv 1)) nd)
   (y6 (y3G T.b_tuple (x2F ["_law_k","_law_left","_law_cell_here","_law_many"] [none,some 2,some 0,some 1] rfl (z0S T.b_range (zsv 1)) (fun nd _ _ _ _ _=>v4 (i:=0) nd) (fun _ _ _ _ _=>x2I (i:=1) (j5 (z1Z T) hr (z6 (z0T (zsv 2) (z4J x8 (zsv 0))) (z6 x8 (z6 (y5T (zsv 3) (zsv 0)) y4))))))))
theorem x0P(T:Top K w mg):FnD P w K mg base 1 "_law_how" ["_law_web_here","_law_row_here","_law_one","_law_other"] z50:=
 zfd T.d_law_how fun _ _ _ _ _ _ _ hr hu aK nd=>y3 (J4 (i:=4) (z4K (Y4 ["_law_place","_law_row_here"] [none,some 1] rfl (Z6 (Q7 (K3 (J0 (K3 (J0 (zsv 0)) x8)) (zsv 2)))) (fun nd _ _ _ _ _=>v4 (i:=0) nd) (fun _ _ _ _ _=>z6B) (fun _ _ _ _ _=>y3J hu (zsv 1) (zsv 0)))) nd)
   (y3 (J4 (i:=5) (z4K (Y4 ["_law_place","_law_row_here"] [none,some 1] rfl (Z6 (Q7 (K3 (J0 (K3 (J0 (zsv 0)) x8)) (zsv 3)))) (fun nd _ _ _ _ _=>v4 (i:=0) nd) (fun _ _ _ _ _=>z6B) (fun _ _ _ _ _=>y3J hu (zsv 1) (zsv 0)))) nd)
   (y3 (z08 (y7W (x72 (Y4 ["_law_spot","_law_second"] [none,some 5] rfl (Z6 (Q7 (zsv 4))) (fun nd _ _ _ _ _=>v4 (i:=0) nd) (fun _ _ _ _ _=>z4A (y7X hu (zsv 0) (J0 (zsv 1)))) (fun _ _ _ _ _=>zsv 0))))
   (y6 (v7 z0L))
   Y5)
   (y3 (z4H (i:=6) ["_law_spot","_law_first"] [none,some 4] rfl (Z6 (Q7 (zsv 5))) (fun nd _ _ _ _ _=>v4 (i:=0) nd) (fun _ _ _ _ _=>z4A (z92 x0L z6G x0L z6G (z8O rfl T.b_min (y12 (zsv 1))) (zsv 0) (y80 rfl T.b_max (y12 (zsv 1))))) (fun _ _ _ _ _=>zsv 0) nd)
   (y3 (z08 (z69 hu (Z7 T.b_len (J0 (zsv 6))) x8)
   (y6 (v7 z0L))
   Y5)
   (y3 (z08 (z8A (z8Z (z69 hu (Z7 T.b_len (J0 (zsv 6))) x8) (z5Q (z92 x0L z6G x0L z6G (z8O rfl T.b_min (y12 (zsv 5))) (z8O rfl T.b_min (y12 (zsv 4))) (y80 rfl T.b_max (y12 (zsv 5)))))))
   (y6 (v7 z0L))
   Y5)
   (y6 (v7 z0L)))))))
theorem y0P(T:Top K w mg):FnD P w K mg base 2 "_law_clashes" ["_law_web_here","_law_row_here","_law_kind"] z1Y:=
 zfd T.d_law_clashes fun _ _ _ _ _ _ _ hr hu aK nd=>y3 (J4 (i:=3) (K3 (w3T (z1O (z6 z0L (z6 z0L y4)))) (y3I T.b_int (y84 hu (zsv 2) z0L))) nd)
   (y3 (z2H (i:=4) (z1O y4) nd)
   (y3 (z0A Bp rfl (z0S T.b_range (Z7 T.b_len (J0 (K3 (J0 (zsv 0)) x8)))) (v4 (i:=5) nd)
   (y6 (y5R (i:=4) (Y4 ["_law_one","_law_other","_law_web_here","_law_row_here","_law_word"] [none,some 5,some 0,some 1,some 3] rfl (Z6 (z0S T.b_range (zsv 5))) (fun nd _ _ _ _ _=>v4 (i:=0) nd) (fun _ _ _ _ _=>z4A (z69 hu (j5 (x0P T) hr (z6 (zsv 2) (z6 (zsv 3) (z6 (zsv 0) (z6 (zsv 1) y4))))) (zsv 4))) (fun _ _ _ _ _=>z0K (z6 (zsv 0) (z6 (zsv 1) y4)))))))
   (y6 (v7 (z4K (z73 T.b_sorted (zqv 4)))))))
theorem y6J(T:Top K w mg):FnD P w K mg base 1 "spots_of" ["row"] z7V:=
 zfd T.d_spots_of fun _ _ _ _ _ _ _ hr hu aK nd=>y3 (z51 (i:=1) z3J nd)
   (y3 (z0A Bp rfl (y7Z T.b_enumerate (zsv 0)) (y5S rfl (z31 (v4 (i:=2) nd) (z31 (v4 (i:=3) nd) y1X)))
   (y6 (y1U (i:=1) hu (zsv 3) (zsv 2))))
   (y6 (z5R 1 (v7 (zsv 1)))))
theorem y0N(T:Top K w mg):FnD P w K mg base 1 "rising_pair" ["one","other"] z47:=zfd T.d_rising_pair fun _ _ _ _ _ _ _ hr hu aK nd=>y6 (v7 (z0K (z6 (z8P rfl T.b_min (zsv 0) (zsv 1)) (z6 (y81 rfl T.b_max (zsv 0) (zsv 1)) y4))))
theorem x0M(T:Top K w mg):FnD P w K mg base 2 "span_of" ["spots","tie"] y0H:=zfd T.d_span_of fun _ _ _ _ _ _ _ hr hu aK nd=>y6 (v7 (j5 (y0N T) hr (z6 (z6A hu (zsv 0) (K3 (J0 (zsv 1)) x8)) (z6 (z6A hu (zsv 0) (K3 (J0 (zsv 1)) x8)) y4))))
theorem z5W(T:Top K w mg):FnD P w K mg base 3 "spans_of" ["web","row"] z3F:=
 zfd T.d_spans_of fun _ _ _ _ _ _ _ hr hu aK nd=>y3 (J4 (i:=2) (j5 (y6J T) hr (z6 (zsv 1) y4)) nd)
   (y6 (v7 (z4K (Y4 ["tie","spots"] [none,some 2] rfl (Z6 (Q7 (K3 (J0 (zsv 0)) x8))) (fun nd _ _ _ _ _=>v4 (i:=0) nd) (fun _ _ _ _ _=>z6B) (fun _ _ _ _ _=>j5 (x0M T) hr (z6 (zsv 1) (z6 (zsv 0) y4)))))))
theorem z8F(T:Top K w mg):FnD P w K mg base 1 "how_spans_lie" ["one","other"] z2C:=
 zfd T.d_how_spans_lie fun _ _ _ _ _ _ _ hr hu aK nd=>y3 (z08 (z8A (z8Z (y7X hu (K3 (J0 (zsv 0)) x8) (J0 (zsv 1))) (z5Q (y7X hu (K3 (J0 (zsv 0)) x8) (J0 (zsv 1))))))
   (y6 (v7 z0L))
   Y5)
   (y3 (J4 (i:=2) (x6Z rfl hu T.b_min (zsv 0) (zsv 1)) nd)
   (y3 (J4 (i:=3) (x70 rfl hu T.b_max (zsv 0) (zsv 1)) nd)
   (y3 (z08 (y3E aK (K3 (J0 (zsv 2)) x8) (K3 (J0 (zsv 3)) x8))
   (y6 (v7 z0L))
   Y5)
   (y6 (v7 (w3R (y3E aK (K3 (J0 (zsv 2)) x8) (K3 (J0 (zsv 3)) x8)) z0L z0L))))))
theorem z35(T:Top K w mg):FnD P w K mg base 2 "do_spans_clash" ["one","other","kind"] Q2:=by obtain⟨gq,cw,cx⟩:=T.x_CLASHING;exact zfd T.d_do_spans_clash fun _ _ _ _ _ _ _ hr hu aK nd=>y6 (v7 (y84 hu (j5 (z8F T) hr (z6 (zsv 0) (z6 (zsv 1) y4))) (x71 cw cx (zsv 2))))
theorem y1E(T:Top K w mg):FnD P w K mg base 4 "clashes" ["web","row","kind"] z2D:=
 zfd T.d_clashes fun _ _ _ _ _ _ _ hr hu aK nd=>y3 (J4 (i:=3) (j5 (z5W T) hr (z6 (zsv 0) (z6 (zsv 1) y4))) nd)
   (y3 (z2H (i:=4) (z1O y4) nd)
   (y3 (z0A Bp rfl (y7Z T.b_enumerate (zsv 3)) (y5S rfl (z31 (v4 (i:=5) nd) (z31 (v4 (i:=6) nd) y1X)))
   (y3 (z4H (i:=7) ["other","span","spans","kind"] [none,some 6,some 3,some 2] rfl (Z6 (x6X T.b_range (z0T (zsv 5) x8) (Z7 T.b_len (J0 (zsv 3))))) (fun nd _ _ _ _ _=>v4 (i:=0) nd) (fun _ _ _ _ _=>z4A (z3I (j5 (z35 T) hr (z6 (zsv 1) (z6 (K3 (J0 (zsv 2)) (zsv 0)) (z6 (zsv 3) y4)))))) (fun _ _ _ _ _=>zsv 0) nd)
   (y6 (y5R (i:=4) (Y4 ["other","one"] [none,some 5] rfl (Z6 (Q7 (zsv 7))) (fun nd _ _ _ _ _=>v4 (i:=0) nd) (fun _ _ _ _ _=>z6B) (fun _ _ _ _ _=>z0K (z6 (zsv 1) (z6 (zsv 0) y4))))))))
   (y6 (v7 (z4I T.b_tuple (zqv 4))))))
theorem y48(T:Top K w mg):FnD P w K mg base 5 "rivals_of" ["web","row","kind"] z66:=zfd T.d_rivals_of fun _ _ _ _ _ _ _ hr hu aK nd=>x2D (ir:=3) (i1:=4) (i2:=5) rfl Bp (Q7 (K3 (J0 (zsv 0)) x8)) (Q7 (j5 (y1E T) hr (z6 (zsv 0) (z6 (zsv 1) (z6 (zsv 2) y4))))) nd (A1:=(x3M rfl (.inl rfl) (by decide) (by decide) rfl (.inl rfl) (by decide) (by decide) rfl (.inl rfl) (by decide) (by decide))) (A2:=(x3M rfl (.inl rfl) (by decide) (by decide) rfl (.inl rfl) (by decide) (by decide) rfl (.inl rfl) (by decide) (by decide)))
theorem z0Y(T:Top K w mg):FnD P w K mg base 1 "taken_by_rivals" ["rivals","pages","tie"] j9:=zfd T.d_taken_by_rivals fun _ _ _ _ _ _ _ hr hu aK nd=>y6 (v7 (z4K (Y4 ["rival","pages"] [none,some 1] rfl (Z6 (Q7 (K3 (J0 (zsv 0)) (zsv 2)))) (fun nd _ _ _ _ _=>v4 (i:=0) nd) (fun _ _ _ _ _=>z4A (w0Q hu (zsv 0) (zsv 1))) (fun _ _ _ _ _=>z6A hu (zsv 1) (zsv 0)))))
theorem y0O(T:Top K w mg):FnD P w K mg base 4 "queue_pages" ["web","row","rivals"] z1X:=
 w6L T.d_queue_pages fun _ _ _ _ _ _ _ hl hr hu aK nd=>y3 (J4 (i:=3) (j5 (z5W T) hr (z6 (zsv 0) (z6 (zsv 1) y4))) nd)
   (y3 (z51 (i:=4) z3J nd)
   (y3 (z0A Bp rfl (Q7 (z4K (y9Z (k:=0) ["k","spans"] [none,some 3] rfl T.b_sorted T.b_range T.x_bm hl (hr.mono (by decide)) (Z7 T.b_len (J0 (zsv 3))) (fun _ _ _ _ _ _ hr=>have hu:=hr.units;have aK:=hr.units0;K3 (J0 (zsv 1)) (zsv 0))))) (v4 (i:=5) nd)
   (y3 (J4 (i:=6) (y82 4 (j5 (z0Y T) hr (z6 (zsv 2) (z6 (zsv 4) (z6 (zsv 5) y4))))) nd)
   (y6 (y1U (i:=4) hu (zsv 5) (z8O rfl T.b_min (x72 (Y4 ["page","taken"] [none,some 6] rfl (Z6 (z0S T.b_range (z0T (Z7 T.b_len (J0 (zsv 6))) x8))) (fun nd _ _ _ _ _=>v4 (i:=0) nd) (fun _ _ _ _ _=>z4A (z91 hu (zsv 0) (J0 (zsv 1)))) (fun _ _ _ _ _=>zsv 0))))))))
   (y6 (z5R 4 (v7 (zsv 4))))))
theorem y47(T:Top K w mg):FnD P w K mg base 4 "ties_over" ["spans","gap"] z45:=
 w6L T.d_ties_over fun _ _ _ _ _ _ _ hl hr hu aK nd=>y3 (z4H (i:=2) ["tie","spans","gap"] [none,some 0,some 1] rfl (Z6 (z0S T.b_range (Z7 T.b_len (J0 (zsv 0))))) (fun nd _ _ _ _ _=>v4 (i:=0) nd) (fun _ _ _ _ _=>z4A (z92 w79 z6G x0L z6G (K3 (J0 (K3 (J0 (zsv 1)) (zsv 0))) x8) (zsv 2) (K3 (J0 (K3 (J0 (zsv 1)) (zsv 0))) x8))) (fun _ _ _ _ _=>zsv 0) nd)
   (y6 (v7 (z4K (x2H (k:=0) ["tie","spans"] [none,some 0] T.b_sorted T.x_bm hl (hr.mono (by decide)) (J0 (zsv 2)) (fun _ _ _ _ _ _ hr=>have hu:=hr.units;have aK:=hr.units0;K3 (J0 (zsv 1)) (zsv 0))))))
theorem z8E(T:Top K w mg):FnD P w K mg base 3 "longest_chain" ["spans","ties","kind"] z12:=
 zfd T.d_longest_chain fun _ _ _ _ _ _ _ hr hu aK nd=>y3 (z2H (i:=3) (z1O y4) nd)
   (y3 (z0A Bp rfl (Q7 (zsv 1)) (v4 (i:=4) nd)
   (y3 (z4H (i:=5) ["chain","spans","tie","kind"] [none,some 0,some 4,some 2] rfl (x6W 3) (fun nd _ _ _ _ _=>v4 (i:=0) nd) (fun _ _ _ _ _=>z4A (z3I (j5 (z35 T) hr (z6 (K3 (J0 (zsv 1)) (K3 (J0 (zsv 0)) (y5V x8))) (z6 (K3 (J0 (zsv 1)) (zsv 2)) (z6 (zsv 3) y4)))))) (fun _ _ _ _ _=>zsv 0) nd)
   (y6 (y1V (i:=3) (z0T (y11 rfl T.b_max T.b_len (J0 (zsv 5)) (z0K y4)) (z0K (z6 (zsv 4) y4)))))))
   (y6 (v7 (y11 rfl T.b_max T.b_len (zqv 3) (z0K y4)))))
theorem z9I(T:Top K w mg):FnD P w K mg base 5 "greatest" ["web","row","kind"] z1E:=
 zfd T.d_greatest fun _ _ _ _ _ _ _ hr hu aK nd=>y3 (J4 (i:=3) (j5 (z5W T) hr (z6 (zsv 0) (z6 (zsv 1) y4))) nd)
   (y3 (J4 (i:=4) (z0K y4) nd)
   (y3 (z0A Bp rfl (z0S T.b_range (y5T (K3 (J0 (zsv 0)) x8) x8)) (v4 (i:=5) nd)
   (y6 (J4 (i:=4) (y5X rfl T.b_max T.b_len (zsv 4) (j5 (z8E T) hr (z6 (zsv 3) (z6 (j5 (y47 T) hr (z6 (zsv 3) (z6 (zsv 5) y4))) (z6 (zsv 2) y4))))) nd)))
   (y6 (v7 (z4I T.b_tuple (w3T (z73 T.b_sorted (J0 (zsv 4)))))))))
theorem z9H(T:Top K w mg):FnD P w K mg base 1 "group_around" ["rivals","tie"] z1I:=
 zfd T.d_group_around fun _ _ _ _ _ _ _ hr hu aK nd=>y3 (z2H (i:=2) (z1O (z6 (zsv 1) y4)) nd)
   (y3 (J4 (i:=3) x8 nd)
   (y3 (y3F 200 Bp (y3E aK (zsv 3) (Z7 T.b_len (zqv 2)))
   (y3 (y5R (i:=2) (Y4 ["rival","group"] [none,some 2] rfl (Z6 (Q7 (K3 (J0 (zsv 0)) (K3 (zqv 2) (zsv 3))))) (fun nd _ _ _ _ _=>v4 (i:=0) nd) (fun _ _ _ _ _=>z4A (z91 hu (zsv 0) (zqv 1))) (fun _ _ _ _ _=>zsv 0)))
   (y6 (y7Y (i:=3) x8 nd))))
   (y6 (z5R 2 (v7 (zsv 2))))))
theorem y4A(T:Top K w mg):FnD P w K mg base 2 "groups_of" ["rivals"] z67:=
 zfd T.d_groups_of fun _ _ _ _ _ _ _ hr hu aK nd=>y3 (z2H (i:=1) (z1O y4) nd)
   (y3 (z51 (i:=2) z3J nd)
   (y3 (z0A Bp rfl (z0S T.b_range (Z7 T.b_len (J0 (zsv 0)))) (v4 (i:=3) nd)
   (y6 (z08 (x2A 2 hu (zsv 3))
   (y3 (y1V (i:=1) (j5 (z9H T) hr (z6 (zsv 0) (z6 (zsv 3) y4))))
   (y6 (z0A Bp rfl (Q7 (K3 (zqv 1) (y5V x8))) (v4 (i:=4) nd)
   (y6 (y1U (i:=2) hu (zsv 4) z1T)))))
   Y5)))
   (y6 (z5R 1 (v7 (zsv 1))))))
theorem z1W(T:Top K w mg):FnD P w K mg base 1 "page_count" ["pages"] Q9:=zfd T.d_page_count fun _ _ _ _ _ _ _ hr hu aK nd=>y6 (v7 (z74 rfl T.b_len T.b_set (J0 (zsv 0))))
theorem y0Q(T:Top K w mg):FnD P w K mg base 5 "hardest_tie" ["rivals","group","pages"] z49:=
 w6L T.d_hardest_tie fun _ _ _ _ _ _ _ hl hr hu aK nd=>y3 (z4H (i:=3) ["tie","pages"] [none,some 2] rfl (Z6 (Q7 (zsv 1))) (fun nd _ _ _ _ _=>v4 (i:=0) nd) (fun _ _ _ _ _=>z4A (x6U hu (zsv 0) (zsv 1))) (fun _ _ _ _ _=>zsv 0) nd)
   (y6 (v7 (x00 (k:=1) ["tie","rivals","pages"] [none,some 0,some 2] rfl T.b_max T.x_bm hl (hr.mono (by decide)) (J0 (zsv 3)) (fun _ _ _ _ _ _ hr=>have hu:=hr.units;have aK:=hr.units0;z0K (z6 (j5 (z1W T) hr (z6 (j5 (z0Y T) hr (z6 (zsv 1) (z6 (zsv 2) (z6 (zsv 0) y4)))) y4)) (z6 (Z7 T.b_len (J0 (K3 (J0 (zsv 1)) (zsv 0)))) y4))))))
theorem z9G(T:Top K w mg):FnD P w K mg base 2 "pages_to_try" ["pages","many"] z0Q:=zfd T.d_pages_to_try fun _ _ _ _ _ _ _ hr hu aK nd=>y6 (v7 (z4K (z5S rfl T.b_list T.b_range (z8P rfl T.b_min (zsv 1) (z0T (j5 (z1W T) hr (z6 (z4K (y3H rfl T.b_list (zsv 0))) y4)) x8)))))
theorem y46(T:Top K w mg):FnD P w K mg base 1 "with_page" ["pages","tie","page"] z2B:=
 zfd T.d_with_page fun _ _ _ _ _ _ _ hr hu aK nd=>y3 (z51 (i:=3) (x2G T.b_dict (zsv 0)) nd)
   (y3 (y1U (i:=3) hu (zsv 1) (zsv 2))
   (y6 (z5R 3 (v7 (zsv 3)))))
theorem z7D(T:Top K w mg):∀n:Nat,FnD P w K mg base (5+1+n) "laid_on" ["rivals","group","pages","many"] (W6 n)
 | 0=>zfd (k:=5) T.d_laid_on (fun _ _ _ _ _ _ _ _ _ _ _=>x2E)
 |n+1=>by
  have R:=z7D T n
  have hj:5≤5+1+n:=by omega
  exact zfd (k:=5+1+n) T.d_laid_on fun _ _ _ _ _ _ _ hr hu aK nd=>y3 (z08 (z69 hu (y83 T.b_len (zsv 2)) (Z7 T.b_len (J0 (zsv 1))))
   (y6 (v7 (zsv 2)))
   Y5)
   (y3 (J4 (i:=4) (j5 (y0Q T) hr (z6 (zsv 0) (z6 (zsv 1) (z6 (zsv 2) y4))) (hjk:=by omega)) nd)
   (y3 (J4 (i:=5) (j5 (z0Y T) hr (z6 (zsv 0) (z6 (zsv 2) (z6 (zsv 4) y4))) (hjk:=by omega)) nd)
   (y3 (z0A Bp rfl (Q7 (j5 (z9G T) hr (z6 (zsv 2) (z6 (zsv 3) y4)) (hjk:=by omega))) (v4 (i:=6) nd)
   (y6 (z08 (z91 hu (zsv 6) (J0 (zsv 5)))
   (y3 (J4 (i:=7) (j5 R hr (z6 (zsv 0) (z6 (zsv 1) (z6 (j5 (y46 T) hr (z6 (zsv 2) (z6 (zsv 4) (z6 (zsv 6) y4))) (hjk:=by omega)) (z6 (zsv 3) y4)))) (hjk:=by omega)) nd)
   (y6 (z08 (y5Q (zsv 7) y1Y)
   (y6 (v7 (zsv 7)))
   Y5)))
   Y5)))
   (y6 (v7 y1Y)))))
theorem y2J(T:Top K w mg):FnD P w K mg base 19 "pile_pages" ["rivals","many"] z2R:=
 zfd T.d_pile_pages fun _ _ _ _ _ _ _ hr hu aK nd=>y3 (z51 (i:=2) z3J nd)
   (y3 (z0A Bp rfl (Q7 (j5 (y4A T) hr (z6 (zsv 0) y4))) (v4 (i:=3) nd)
   (y3 (J4 (i:=4) (j5 (z7D T 12) hr (z6 (zsv 0) (z6 (zsv 3) (z6 (x94 z3J) (z6 (zsv 1) y4))))) nd)
   (y3 (y3F 200 Bp (w3P (zsv 4) y1Y)
   (y3 (y7Y (i:=1) x8 nd)
   (y6 (J4 (i:=4) (j5 (z7D T 12) hr (z6 (zsv 0) (z6 (zsv 3) (z6 (x94 z3J) (z6 (zsv 1) y4))))) nd))))
   (y6 (w0R (i:=2) (zsv 4))))))
   (y6 (z5R 2 (v7 (zsv 2)))))
theorem z34(T:Top K w mg):FnD P w K mg base 1 "numbered_as_they_come" ["pages"] z06:=
 zfd T.d_numbered_as_they_come fun _ _ _ _ _ _ _ hr hu aK nd=>y3 (z51 (i:=1) z3J nd)
   (y3 (z0A Bp rfl (Q7 (zsv 0)) (v4 (i:=2) nd)
   (y6 (y9Y (i:=1) (zsv 2) (y82 1 (y83 T.b_len (zsv 1))))))
   (y6 (z5R 1 (v7 (z4I T.b_tuple (w3T (Y4 ["page","numbers"] [none,some 1] rfl (Z6 (Q7 (zsv 0))) (fun nd _ _ _ _ _=>v4 (i:=0) nd) (fun _ _ _ _ _=>z6B) (fun _ _ _ _ _=>z6A hu (zsv 1) (zsv 0)))))))))
theorem z9J(T:Top K w mg):FnD P w K mg base 20 "fewest_pages" ["web","row","kind"] z0R:=
 zfd T.d_fewest_pages fun _ _ _ _ _ _ _ hr hu aK nd=>y3 (J4 (i:=3) (j5 (y48 T) hr (z6 (zsv 0) (z6 (zsv 1) (z6 (zsv 2) y4)))) nd)
   (y3 (z08 (z69 hu (zsv 2) z0L)
   (y6 (J4 (i:=4) (j5 (y0O T) hr (z6 (zsv 0) (z6 (zsv 1) (z6 (zsv 3) y4)))) nd))
   (y6 (J4 (i:=4) (j5 (y2J T) hr (z6 (zsv 3) (z6 (Z7 T.b_len (J0 (j5 (z9I T) hr (z6 (zsv 0) (z6 (zsv 1) (z6 (zsv 2) y4)))))) y4))) nd)))
   (y6 (v7 (j5 (z34 T) hr (z6 (z4K (Y4 ["tie","pages"] [none,some 4] rfl (Z6 (z0S T.b_range (Z7 T.b_len (J0 (zsv 3))))) (fun nd _ _ _ _ _=>v4 (i:=0) nd) (fun _ _ _ _ _=>z6B) (fun _ _ _ _ _=>z6A hu (zsv 1) (zsv 0)))) y4)))))
theorem y6K(T:Top K w mg):FnD P w K mg base 1 "is_whole" ["thing"] z3G:=zfd T.d_is_whole fun _ _ _ _ _ _ _ hr hu aK nd=>y6 (v7 (y5Y (z75 x4T T.b_isinstance T.b_int (zsv 0) (by decide +kernel)) (y5U (x2J (z75 y2O T.b_isinstance T.b_bool (zsv 0) (by decide +kernel))))))
theorem y4B(T:Top K w mg):FnD P w K mg base 2 "are_pages" ["web","thing"] z1F:=
 zfd T.d_are_pages fun _ _ _ _ _ _ _ hr hu aK nd=>y3 (z08 (z8A (z8Z (z72 (z3I (z75 x4R T.b_isinstance T.b_tuple (zsv 1) (by decide +kernel)))) (z5Q (y10 hu (Z7 T.b_len (J0 (zsv 1))) (Z7 T.b_len (J0 (K3 (J0 (zsv 0)) x8)))))))
   (y6 (v7 z1T))
   Y5)
   (y6 (v7 (x2K rfl T.b_all (Y4 ["page"] [none] rfl (Z6 (Q7 (zsv 1))) (fun nd _ _ _ _ _=>v4 (i:=0) nd) (fun _ _ _ _ _=>z6B) (fun _ _ _ _ _=>y5Y (j5 (y6K T) hr (z6 (zsv 0) y4)) (y5U (w0T (zsv 0) x8)))))))
theorem z4N(T:Top K w mg):FnD P w K mg base 5 "are_right" ["web","row","kind","thing"] Q0:=
 zfd T.d_are_right fun _ _ _ _ _ _ _ hr hu aK nd=>y3 (z08 (z72 (z3I (j5 (y4B T) hr (z6 (zsv 0) (z6 (zsv 3) y4)))))
   (y6 (v7 z1T))
   Y5)
   (y6 (v7 (x2K rfl T.b_all (Y4 ["one","other","thing"] [none,none,some 3] rfl (Z6 (Q7 (j5 (y1E T) hr (z6 (zsv 0) (z6 (zsv 1) (z6 (zsv 2) y4)))))) (fun nd _ _ _ _ _=>y5S rfl (z31 (v4 (i:=0) nd) (z31 (v4 (i:=1) nd) y1X))) (fun _ _ _ _ _=>z6B) (fun _ _ _ _ _=>w3Q hu (K3 (J0 (zsv 2)) (zsv 0)) (K3 (J0 (zsv 2)) (zsv 1)))))))
theorem z82(T:Top K w mg):FnD P w K mg base 1 "_law_right" ["_law_pairs","_law_pages"] z07:=zfd T.d_law_right fun _ _ _ _ _ _ _ hr hu aK nd=>y6 (v7 (y84 hu (z4K (Y4 ["_law_pair","_law_pages"] [none,some 1] rfl (Z6 (Q7 (zsv 0))) (fun nd _ _ _ _ _=>v4 (i:=0) nd) (fun _ _ _ _ _=>z4A (z69 hu (K3 (J0 (zsv 1)) (K3 (J0 (zsv 0)) x8)) (K3 (J0 (zsv 1)) (K3 (J0 (zsv 0)) x8)))) (fun _ _ _ _ _=>zsv 0))) (z4K (z1O y4))))
theorem y49(T:Top K w mg):FnD P w K mg base 1 "_law_whole" ["_law_found"] z48:=zfd T.d_law_whole fun _ _ _ _ _ _ _ hr hu aK nd=>y6 (v7 (y5Y (z75 x4T T.b_isinstance T.b_int (zsv 0) (by decide +kernel)) (y5U (x2J (z75 y2O T.b_isinstance T.b_bool (zsv 0) (by decide +kernel))))))
theorem y1D(T:Top K w mg):∀n:Nat,FnD P w K mg base (0+1+n) "_law_can" ["_law_pairs","_law_many","_law_size","_law_pages"] (W5 n)
 | 0=>zfd (k:=0) T.d_law_can (fun _ _ _ _ _ _ _ _ _ _ _=>x2E)
 |n+1=>by
  have R:=y1D T n
  have hj:0≤0+1+n:=by omega
  exact zfd (k:=0+1+n) T.d_law_can fun _ _ _ _ _ _ _ hr hu aK nd=>y3 (z08 (z69 hu (Z7 T.b_len (J0 (zsv 3))) (zsv 2))
   (y6 (v7 z1T))
   Y5)
   (y3 (z0A Bp rfl (z0S T.b_range (z8P rfl T.b_min (zsv 1) (z0T (z74 rfl T.b_len T.b_set (J0 (zsv 3))) x8))) (v4 (i:=4) nd)
   (y6 (z08 (z72 (y7W (x72 (Y4 ["_law_k","_law_pages","_law_page","_law_pairs"] [none,some 3,some 4,some 0] rfl (Z6 (z0S T.b_range (Z7 T.b_len (J0 (zsv 3))))) (fun nd _ _ _ _ _=>v4 (i:=0) nd) (fun _ _ _ _ _=>z4A (z8A (z90 (z69 hu (K3 (J0 (zsv 1)) (zsv 0)) (zsv 2)) (z68 (y7X hu (z0K (z6 (zsv 0) (z6 (Z7 T.b_len (J0 (zsv 1))) y4))) (J0 (zsv 3))))))) (fun _ _ _ _ _=>zsv 0)))))
   (y6 (z08 (z3I (j5 R hr (z6 (zsv 0) (z6 (zsv 1) (z6 (zsv 2) (z6 (z4K (w0S (y12 (zsv 3)) (x72 (z1O (z6 (zsv 4) y4))))) y4)))) (hjk:=by omega)))
   (y6 (v7 z1T))
   Y5))
   Y5)))
   (y6 (v7 z1T)))
theorem w5P(T:Top K w mg){f:Ap}{fd:Ep}(G:Fun K "law" "law" w45 f fd):FnOk P w K mg base CX0 21 f fd ["_law_script"] (spD K x24):=
 zfk (k:=20) G ⟨rfl,rfl,rfl,by decide +kernel,rfl,by decide +kernel,by decide +kernel⟩ rfl fun _ _ _ _ _ _ hr hu aK nd=>y3 (z0A Bp rfl (Q7 (x93 (zsv 0) x6V (y1W x8))) (v4 (i:=1) nd)
   (y3 (J4 (i:=2) (j5 (x0N T) hr (z6 (zsv 1) (z6 x8 (z6 x8 y4)))) nd)
   (y3 (J4 (i:=3) (j5 (x0O T) hr (z6 (w0U (zsv 1) x8) (z6 (K3 (J0 (zsv 2)) x8) y4))) nd)
   (y3 (J4 (i:=4) (Z7 T.b_len (J0 (K3 (J0 (zsv 2)) x8))) nd)
   (y6 (z0A Bp rfl (Q7 (z0K (z6 z0L (z6 z0L y4)))) (v4 (i:=5) nd)
   (y3 (J4 (i:=6) (j5 (y0P T) hr (z6 (zsv 2) (z6 (zsv 3) (z6 (zsv 5) y4)))) nd)
   (y3 (J4 (i:=7) (j5 (z9J T) hr (z6 (zsv 2) (z6 (zsv 3) (z6 (zsv 5) y4)))) nd)
   (y3 (z08 (z8A (z8Z (y5Q (j5 (z4N T) hr (z6 (zsv 2) (z6 (zsv 3) (z6 (zsv 5) (z6 (zsv 7) y4))))) z1T) (z5Q (z72 (z3I (j5 (z82 T) hr (z6 (zsv 6) (z6 (zsv 7) y4))))))))
   (y6 (v7 z1T))
   Y5)
   (y3 (J4 (i:=8) (j5 (z1W T) hr (z6 (zsv 7) y4)) nd)
   (y3 (z2H (i:=9) (z1O y4) nd)
   (y3 (z0A Bp rfl (Q7 (zsv 7)) (v4 (i:=10) nd)
   (y6 (z08 (z91 hu (zsv 10) (zqv 9))
   (y6 (y1V (i:=9) (zsv 10)))
   Y5)))
   (y3 (z08 (z8A (z8Z (z72 (z3I (j5 (y49 T) hr (z6 (zsv 8) y4)))) (z5Q (x2B 9 (y10 hu (zsv 9) (z4K (z5S rfl T.b_list T.b_range (zsv 8))))))))
   (y6 (v7 z1T))
   Y5)
   (y3 (z08 (z8A (z90 (x2C (zsv 8) x8) (z68 (z3I (j5 (y1D T 12) hr (z6 (zsv 6) (z6 (y5T (zsv 8) x8) (z6 (zsv 4) (z6 (z4K (z1O y4)) y4)))))))))
   (y6 (v7 z1T))
   Y5)
   (y3 (J4 (i:=11) (Z7 T.b_len (J0 (j5 (z9I T) hr (z6 (zsv 2) (z6 (zsv 3) (z6 (zsv 5) y4)))))) nd)
   (y3 (z08 (z8A (z8Z (y3E aK (zsv 8) (zsv 11)) (z5Q (z8A (z90 (z69 hu (zsv 5) z0L) (z68 (y10 hu (zsv 8) (zsv 11))))))))
   (y6 (v7 z1T))
   Y5)
   (y3 (z0A Bp rfl (Q7 (x93 (zsv 0) (y1W x8) (y1W x8))) (v4 (i:=12) nd)
   (y3 (J4 (i:=13) (z4I T.b_tuple (w3T (Y4 ["_law_tie","_law_more"] [none,some 12] rfl (Z6 (z0S T.b_range (zsv 4))) (fun nd _ _ _ _ _=>v4 (i:=0) nd) (fun _ _ _ _ _=>z6B) (fun _ _ _ _ _=>j5 (z1Z T) hr (z6 (z0T (zsv 1) (z4J x8 (zsv 0))) (z6 x8 (z6 x8 y4))))))) nd)
   (y3 (J4 (i:=14) (j5 (z4N T) hr (z6 (zsv 2) (z6 (zsv 3) (z6 (zsv 5) (z6 (zsv 13) y4))))) nd)
   (y3 (z08 (z8A (z8Z (z72 (z3I (z75 y2O T.b_isinstance T.b_bool (zsv 14) (by decide +kernel)))) (z5Q (y10 hu (zsv 14) (j5 (z82 T) hr (z6 (zsv 6) (z6 (zsv 13) y4)))))))
   (y6 (v7 z1T))
   Y5)
   (y6 (z08 (y10 hu (j5 (z1W T) hr (z6 (zsv 13) y4)) (z74 rfl T.b_len T.b_set (J0 (zsv 13))))
   (y6 (v7 z1T))
   Y5))))))
   (y6 (z0A Bp rfl (Q7 (z4K (z1O (z6 (z0T (zsv 7) (z0K (z6 x8 y4))) (z6 (z4K (x6Y T.b_list (J0 (zsv 7)))) (z6 y1Y (z6 (z4J (z0K (z6 z0L y4)) (z0T (zsv 4) x8)) (z6 (z0T (z4J (z0K (z6 (y5V x8) y4)) (zsv 4)) (z4J (z0K (z6 x8 y4)) (y3I T.b_int (y84 hu (zsv 4) x8)))) y4)))))))) (v4 (i:=15) nd)
   (y6 (z08 (y5Q (j5 (z4N T) hr (z6 (zsv 2) (z6 (zsv 3) (z6 (zsv 5) (z6 (zsv 15) y4))))) z1T)
   (y6 (v7 z1T))
   Y5)))))))))))))))))))))
   (y6 (v7 z1T))
end
theorem all_mk{l:Kv}{w:C8}{K:A5}{mg:Bb->Option A8}{fa:Ap}(hfa:mg "law" = some (.ref fa))(T:Top K w mg):
  ∃fd:Ep,(∀(s:Ah) (v:A8),Lt s fd ⟨[v],[]⟩ [("_law_script",v)])/\∀base:C5,K.In base->base.Ns Ct mg->FnOk l.prog w K mg base CX0 21 fa fd ["_law_script"] (spD K x24):=by
 obtain⟨f,fd,G,e⟩:=T.d_law.ex;cases hfa.symm.trans e;have G':=G;obtain⟨oc,od,kV,av,pm,an,am,ct,dO,rfl,lk,aV⟩:=G.ex;exact⟨_,fun s v=>.of_eq rfl,fun base _ _=>w5P T G'⟩
theorem tb_CLASHING{w:C8}{K:A5}{h:C5}{mg:Bb->Option A8}{ta:Ap}{te:Array DictEntry}{tn:Nat}{t0 t1:M6}(X:K.In h)(G:h.Ns Ct mg)(x:Hv K Ct "CLASHING" = some (some (.ref ta)))(y:K.lookup ta=some ⟨.type "dict",none,.dict te tn,#[]⟩)(k:PySem.W.KeysLit w.params te.toList)(v0:Hv K ta "pile" = some (some (.str "cross" t0)))(v1:Hv K ta "queue" = some (some (.str "within" t1))):∃a,mg "CLASHING" = some (.ref a)/\w7Z K w a [("pile","cross"),("queue","within")]:=
 ⟨_,Ll X G x,_,_,y,k,by
  intro kv hkv;simp only[Af,Kc,or_false]at hkv;rcases hkv with rfl|rfl
  ·exact⟨_,v0⟩
  ·exact⟨_,v1⟩⟩
theorem walk{l:Kv}{q:Bo}{bL:List Bb}{XP:(Bb->Option A8)->C5->Prop}{YP:C8->C5->Prop}{d:DefRec}{K:Params->A5}(hn:l.most=some 63)(iY:d.params.defaults=[])(hY:∀(w:C8) (h:C5),YP w h->(K w.params).In h)(hT:∀(w:C8) (h:C5),YP w h->∀P q,([(135,"hardest_tie"),(118,"queue_pages"),(69,"ties_over")]:List (Ap×Bb)).lookup P=some q->h.get? P=some { cls:=.none,data:=.fields #[] })(hK:∀w:C8,z96 (K w.params) [(135,"hardest_tie"),(118,"queue_pages"),(69,"ties_over")]=true)(hlaw:∀ns:List Int,ns.length≤63->x24 [.lst (ns.map D.int)]=some (.bl true))
  (F:∀(w:C8) (mg:Bb->Option A8) (fa:Ap) (h:C5),(K w.params).In h->h.Ns Ct mg->mg d.name=some (.ref fa) ->
   ∃fd:Ep,(∀(s:Ah) (u:A8),Lt s fd ⟨[u],[]⟩ [("_law_script",u)])/\∀base:C5,(K w.params).In base->base.Ns Ct mg->FnOk l.prog w (K w.params) mg base CX0 21 fa fd ["_law_script"] (spD (K w.params) x24)):
  PySem.W.WalkO q bL XP YP l.row.toRowW d [] (fun f vs=>Mi f vs):=
 x75 (n:=63) (k:=21) (x:="_law_script") (sp:=fun w=>spD (K w.params) x24) [(135,"hardest_tie"),(118,"queue_pages"),(69,"ties_over")] hn (by decide) iY ⟨rfl,by decide,by decide,rfl⟩ hY hT hK F (fun w H a ns hl tb hS=>
  ⟨[],[.lst (ns.map D.int)],.bl true,⟨tb,fun z hz=>absurd hz (by simp)⟩,j7.one (J5.mpr ⟨a,ns.map V.int,rfl,by rw[x8C];exact hS,Q8.mpr rfl⟩),hlaw ns hl,fun v H' _ hv=>J8.mp hv⟩)
end P
namespace L3
open PySem L2
section
variable{ρ ρ':u5}{d e:D}{a b:Bool}{fa fb fc:ED}{ga gb:EB}{g k:EO}{fl gl:EL}{i:Nat}{o:Option Out}
theorem x6{r:Out}(h:g ρ=some (.nx ρ'))(h2:k ρ'=o):K6 g k ρ=o:=by unfold K6;rw[h];exact h2
theorem z1S(h:g ρ=some (.rt d)):K6 g k ρ=some (.rt d):=by unfold K6;rw[h]
theorem z02(h:fa ρ=some d):z0E fa ρ=some (.rt d):=by unfold z0E;rw[h]
theorem K8(h:fa ρ=some d):z0H i fa ρ=some (.nx (ρ.set i (sC d))):=by unfold z0H;rw[h]
theorem z4X{ds:List D}(h:fl ρ=some ds):z7Q i fl ρ=some (.nx (ρ.set i (some (.ow ds)))):=by unfold z7Q;rw[h]
theorem J9(h:ga ρ=some a):z2E ga g k ρ=if a=true then g ρ else k ρ:=by unfold z2E;rw[h];cases a<;>rfl
theorem y9I(h:fa ρ=some (.bl a))(h2:a=true->fb ρ=some (.bl b)):x8Q fa fb ρ=some (.bl (a&&b)):=by
 unfold x8Q;rw[h];cases a with
 |true=>exact h2 rfl
 |false=>rfl
theorem w0E(h:fa ρ=some (.bl a)):w3L fa ρ=some (.bl (!a)):=by unfold w3L;rw[h]
theorem u4(h:fa ρ=some (.bl a)):y9 fa ρ=some a:=by unfold y9;rw[h]
theorem z7O(h:ga ρ=some a)(h2:a=true->gb ρ=some b):z3Y ga gb ρ=some (a&&b):=by
 unfold z3Y;rw[h];cases a with
 |true=>exact h2 rfl
 |false=>rfl
theorem z85(h:ga ρ=some a)(h2:a=false->gb ρ=some b):y3D ga gb ρ=some (a||b):=by
 unfold y3D;rw[h];cases a with
 |true=>rfl
 |false=>exact h2 rfl
theorem z2Z(h:ga ρ=some a):z64 ga ρ=some (!a):=by unfold z64;rw[h];rfl
theorem w7N(h:ga ρ=some a):dIf ga fa fb ρ=if a=true then fa ρ else fb ρ:=by unfold dIf;rw[h];cases a<;>rfl
theorem z2N{f:D->D->Option D}{x y:D}(h:fa ρ=some x)(h2:fb ρ=some y):d2 f fa fb ρ=f x y:=by unfold d2;rw[h,h2]
theorem y2R{f f':D->D->Option D}{x y z:D}(h:fa ρ=some x)(h2:fb ρ=some y)(h3:f x y=some (.bl a))(h4:a=true->fc ρ=some z)(h5:a=true->f' y z=some (.bl b)):z4E f f' fa fb fc ρ=some (.bl (a&&b)):=by
 unfold z4E;rw[h,h2];dsimp only;rw[h3];cases a with
 |true=>dsimp only;rw[h4 rfl];exact h5 rfl
 |false=>rfl
theorem v8{ds:List D}(h:fa ρ=some d)(h2:fl ρ=some ds):z7 fa fl ρ=some (d::ds):=by unfold z7;rw[h,h2]
theorem w8{F:LD}{ds:List D}(h:fl ρ=some ds):x5 F fl ρ=F ds:=by unfold x5;rw[h]
theorem z5K{ds:List D}(h:fl ρ=some ds)(h2:ds.length≤LIM):z2O fl ρ=some (.tup ds):=by unfold z2O;rw[h];dsimp only;rw[if_pos h2]
theorem z5L{ds:List D}(h:fl ρ=some ds)(h2:ds.length≤LIM):y09 fl ρ=some ds:=by unfold y09;rw[h];dsimp only;rw[if_pos h2]
theorem z39{ds:List D}(h:fl ρ=some ds):dLs fl ρ=some (.lst ds):=by unfold dLs;rw[h];rfl
theorem z29{ds:List D}(h:fl ρ=some ds):z15 fl ρ=some (.int ds.length):=by unfold z15;rw[h];rfl
theorem z7N{ds:List D}(h:fl ρ=some ds):z6R fl ρ=some (.tup ds):=by unfold z6R;rw[h];rfl
theorem y4U{T:String}(h:fa ρ=some d):x27 T fa ρ=some (.bl (y4Q T d)):=by unfold x27;rw[h]
theorem w0F{ds:List D}{bs:List Bool}(h:fl ρ=some ds)(h2:z7S ds=some bs):w3M fl ρ=some (.bl (bs.all id)):=by unfold w3M;rw[h];dsimp only;rw[h2]
theorem z4W{ds:List D}(h:fa ρ=some (.tup ds)):dSq fa ρ=some ds:=by unfold dSq;rw[h]
theorem z28{ds:List D}(h:fa ρ=some (.lst ds)):dSq fa ρ=some ds:=by unfold dSq;rw[h]
theorem z2G{ds:List D}{j:Int}(h:fl ρ=some ds)(h2:fa ρ=some (.int j)):dIx fl fa ρ=atI ds j:=by unfold dIx;rw[h,h2]
theorem w2Z{F:List D->Option (List D)}{ds:List D}(h:fl ρ=some ds):dQF F fl ρ=F ds:=by unfold dQF;rw[h]
theorem x16{neg:Bool}{ds:List D}(h:fa ρ=some d)(h2:fl ρ=some ds)(h3:z00 ds≤z22)(h4:depth d≤z22):dIn neg fa fl ρ=some (.bl (if neg=true then !inD d ds else inD d ds)):=by unfold dIn;rw[h,h2];dsimp only;rw[if_pos ⟨h3,h4⟩]
theorem y9H{ds:List D}(h:z4Z i ρ=some ds)(h2:fa ρ=some d)(h3:ds.length<LIM):y9L i fa ρ=some (.nx (ρ.set i (some (.ow (ds++[d]))))):=by unfold y9L;rw[h,h2];dsimp only;rw[if_pos h3]
theorem x5J{ds es:List D}(h:z4Z i ρ=some ds)(h2:fl ρ=some es)(h3:ds.length+es.length≤LIM):x6R i fl ρ=some (.nx (ρ.set i (some (.ow (ds++es))))):=by unfold x6R;rw[h,h2];dsimp only;rw[if_pos h3]
theorem z10{ds:List D}{h:D->u5->Option u5}(e:fl ρ=some ds):z6S fl h g ρ=z0D h g ds ρ:=by unfold z6S;rw[e]
theorem Z9{ds:List D}{cap:List (Option Nat)}{h:D->u5->Option u5}(e:fl ρ=some ds)(hl:ds.length≤LIM):Q3 cap fl h ga fa ρ=z4G h ga fa (y0T cap ρ) ds:=by unfold Q3;rw[e];dsimp only;rw[if_pos hl]
theorem x8H{ds:List D}{cap:List (Option Nat)}{h:D->u5->Option u5}{fe:u5->Option (D×u5)}(e:fl ρ=some ds)(hl:ds.length≤LIM):y55 cap fl h fe ρ=z3Z h fe (y0T cap ρ) ds:=by unfold y55;rw[e];dsimp only;rw[if_pos hl]
theorem w62{x:D}{lo hi:Option Int}{fo fh:u5->Option (Option Int)}(h:fa ρ=some x)(h1:fo ρ=some lo)(h2:fh ρ=some hi):w0H fa fo fh ρ=dSl x lo hi:=by unfold w0H;rw[h,h1,h2]
theorem z62{j:Int}(h:fa ρ=some (.int j))(h2:okR j=true):z0I fa ρ=some (K5 0 j.toNat):=by unfold z0I;rw[h];dsimp only;rw[if_pos h2]
theorem w2Y{i j:Int}(h:fa ρ=some (.int i))(h':fb ρ=some (.int j))(h1:okR i=true)(h2:okR j=true):y4Z fa fb ρ=some (K5 i (j-i).toNat):=by unfold y4Z;rw[h,h'];dsimp only;rw[if_pos ⟨h1,h2⟩]
theorem z5C{j:Int}(h:fa ρ=some (.int j))(h1 : -(2 ^ 62)≤j)(h2:j≤100000):Y7 fa ρ=some ((iUp 0 j.toNat).map D.int):=by unfold Y7;rw[h];dsimp only;rw[if_pos ⟨h1,h2⟩]
end
theorem z0J{h:D->u5->Option u5}{fe:ED}(I:u5->Prop)(y:D->D):∀(ds:List D) (ρ:u5),I ρ->(∀d∈ds,∀ρ,I ρ->∃ρ1,h d ρ=some ρ1/\I ρ1/\fe ρ1=some (y d))->z4G h z3C fe ρ ds=some (ds.map y)
 | [],_,_,_=>rfl
 |d::ds,ρ,hI,hs=>by obtain⟨ρ1,e1,I1,e2⟩:=hs d A6 ρ hI;unfold z4G;rw[e1];dsimp only[z3C];rw[e2];dsimp only;rw[z0J I y ds ρ1 I1 fun d hd=>hs d (A7 _ hd)];rfl
theorem J7{h:D->u5->Option u5}{ft:EB}{fe:ED}(I:u5->Prop)(t:D->Bool)(y:D->D):∀(ds:List D) (ρ:u5),I ρ->(∀d∈ds,∀ρ,I ρ->∃ρ1,h d ρ=some ρ1/\I ρ1/\ft ρ1=some (t d)/\(t d=true->fe ρ1=some (y d)))->z4G h ft fe ρ ds=some ((ds.filter t).map y)
 | [],_,_,_=>rfl
 |d::ds,ρ,hI,hs=>by
  obtain⟨ρ1,e1,I1,e2,e3⟩:=hs d A6 ρ hI;have ih:=J7 I t y ds ρ1 I1 fun d hd=>hs d (A7 _ hd);unfold z4G;rw[e1];dsimp only;rw[e2]
  cases ht:t d with
  |true=>dsimp only;rw[e3 ht,List.filter_cons_of_pos ht];dsimp only;rw[ih];rfl
  |false=>
   dsimp only;rw[List.filter_cons_of_neg (by rw[ht];simp)]
   exact ih
theorem x4F{h:D->u5->Option u5}{g:EO}(I:List D->u5->Prop){all:List D}(hs:∀pre d post ρ,pre++d::post=all->I pre ρ->∃ρ1 ρ2,h d ρ=some ρ1/\(g ρ1=some (.nx ρ2)∨g ρ1=some (.ct ρ2))/\I (pre++[d]) ρ2):
  ∀(ds pre:List D) (ρ:u5),pre++ds=all->I pre ρ->∃ρ',z0D h g ds ρ=some (.nx ρ')/\I all ρ'
 | [],pre,ρ,e,hI=>⟨ρ,rfl,by rw[←e,Ch];exact hI⟩
 |d::ds,pre,ρ,e,hI=>by
  obtain⟨ρ1,ρ2,e1,e2,I2⟩:=hs pre d ds ρ e hI;obtain⟨ρ',e3,I3⟩:=x4F I hs ds (pre++[d]) ρ2 (by rw[←e];simp) I2
  refine⟨ρ',?_,I3⟩;unfold z0D;rw[e1];dsimp only;rcases e2 with e2|e2<;>(rw[e2];exact e3)
theorem z55{h:D->u5->Option u5}{g:EO}(I:List D->u5->Prop){ds:List D}{ρ:u5}(h0:I [] ρ)(hs:∀pre d post ρ,pre++d::post=ds->I pre ρ->∃ρ1 ρ2,h d ρ=some ρ1/\(g ρ1=some (.nx ρ2)∨g ρ1=some (.ct ρ2))/\I (pre++[d]) ρ2):
  ∃ρ',z0D h g ds ρ=some (.nx ρ')/\I ds ρ':=x4F I hs ds [] ρ rfl h0
theorem y2M{h:D->u5->Option u5}{g:EO}(I:u5->Prop){ds:List D}{ρ:u5}(h0:I ρ)(hs:∀d∈ds,∀ρ,I ρ->∃ρ1 ρ2,h d ρ=some ρ1/\(g ρ1=some (.nx ρ2)∨g ρ1=some (.ct ρ2))/\I ρ2):
  ∃ρ',z0D h g ds ρ=some (.nx ρ')/\I ρ':=z55 (fun _ ρ=>I ρ) h0 fun pre d post ρ e hI=>hs d (by rw[←e];simp) ρ hI
end L3
namespace P
open PySem L2 L3
theorem y02{n k:Nat}(h:k<n):(K5 0 n)[k]?=some (.int (k:Int)):=by unfold K5;rw[Au,Em h];simp
theorem z0P(lo:Int)(n:Nat):(K5 lo n).length=n:=by unfold K5;simp
theorem x5O{n:Nat}{d:D}(h:d∈K5 0 n):∃k:Nat,k<n/\d = .int (k:Int):=by unfold K5 at h;obtain⟨k,hk,rfl⟩:=Av.mp h;exact⟨k,Aj.mp hk,by simp⟩
noncomputable def mix(c p m:Int):Int:=c*48271 % p % m
theorem x9V(c:Int){k:Int}(h:z4L k=true):z65 (.int c) (.int k)=some (.int (c*k)):=by unfold z65 x8M gIC;dsimp only;rw[if_pos (by rw[h,Bool.or_true])]
theorem x44(c:Int){k:Int}(h:z4L k=true):z65 (.int k) (.int c)=some (.int (k*c)):=by unfold z65 x8M gIC;dsimp only;rw[if_pos (by rw[h,Lz])]
theorem x4A(c:Int){k:Int}(h:0<k):y50 (.int c) (.int k)=some (.int (c % k)):=by unfold y50 gIC;dsimp only;rw[if_pos (decide_eq_true h)]
theorem z0W(c:Int){p m:Int}(hp:0<p)(hm:0<m):Q5 [.int c,.int p,.int m]=some (.int (mix c p m)):=by
 show z2F (z0E _ _)=_;rw[z02 (d:=.int (mix c p m))]
 ·rfl
 ·exact(z2N (x:=.int (c*48271 % p)) (y:=.int m) ((z2N (x:=.int (c*48271)) (y:=.int p) ((z2N (x:=.int c) (y:=.int 48271) rfl rfl).trans (x9V c (by decide))) rfl).trans (x4A _ hp)) rfl).trans (x4A _ hm)
theorem y1G(c p:Int){m:Int}(h:0<m):0≤mix c p m:=Int.emod_nonneg _ (by omega)
theorem y4E(c p:Int){m:Int}(h:0<m):mix c p m<m:=Int.emod_lt_of_pos _ h
abbrev Tie:=Int×Int
noncomputable def v9(t:Tie):D:=.tup [.int t.1,.int t.2]
theorem w39(s t:Tie):beq (v9 s) (v9 t)=decide (s=t):=by
 show (s.1==t.1&&(s.2==t.2&&true))=_;rw[Bool.and_true];obtain⟨a,b⟩:=s;obtain⟨c,d⟩:=t;by_cases h1:a=c
 ·by_cases h2:b=d
  ·subst h1 h2;simp
  ·have:¬((a,b)=(c,d)):=fun z=>h2 (Gk z).2
   rw[decide_eq_false this];simp[h2]
 ·have:¬((a,b)=(c,d)):=fun z=>h1 (Gk z).1
  rw[decide_eq_false this];simp[h1]
theorem y6T(t:Tie):∀ts:List Tie,inD (v9 t) (ts.map v9)=decide (t∈ts)
 | []=>by simp[inD]
 |s::ts=>by
  have ih:=y6T t ts;unfold inD at ih ⊢;rw[Ai,Eo,ih,w39];by_cases h:s=t
  ·subst h;simp
  ·have h':¬t=s:=fun z=>h z.symm;simp[h,h']
theorem y04(t:Tie):depth (v9 t)=1:=by unfold v9;simp[depth,z00]
theorem z3X:∀ts:List Tie,z00 (ts.map v9)≤1
 | []=>by rw[Ft,z00];omega
 |t::ts=>by
  have:=z3X ts
  have h2:=y04 t;rw[Ai,z00];omega
def tlt(s t:Tie):Prop:=s.1<t.1∨(s.1=t.1/\s.2<t.2)
instance (s t:Tie):Decidable (tlt s t):=inferInstanceAs (Decidable (_∨_))
theorem z3P(s t:Tie):HT.lexLt [s.1,s.2] [t.1,t.2]=decide (tlt s t):=by
 have aE:HT.lexLt [s.1,s.2] [t.1,t.2]=true↔tlt s t:=by
  rw[HT.lexLt_cons];unfold tlt;by_cases h1:s.1=t.1
  ·rw[if_pos h1,HT.lexLt_cons];by_cases h2:s.2=t.2
   ·rw[if_pos h2,HT.lexLt_nil_nil];exact⟨fun z=>absurd z (by decide),fun z=>absurd z (by omega)⟩
   ·rw[if_neg h2,decide_eq_true_iff];omega
  ·rw[if_neg h1,decide_eq_true_iff];omega
 by_cases h:tlt s t
 ·rw[decide_eq_true h];exact aE.mpr h
 ·rw[decide_eq_false h];exact Jm.mpr fun z=>h (aE.mp z)
theorem z2S(s:Tie):¬tlt s s:=by unfold tlt;omega
theorem y3O{s t u:Tie}(h:tlt s t)(h':tlt t u):tlt s u:=by unfold tlt at *;omega
theorem z23(s t:Tie):tlt s t∨s=t∨tlt t s:=by
 obtain⟨a,b⟩:=s;obtain⟨c,d⟩:=t;unfold tlt;dsimp only;by_cases h:a=c
 ·by_cases h2:b=d
  ·subst h h2;exact .inr (.inl rfl)
  ·omega
 ·omega
noncomputable def z70(t:Tie):List Int:=[t.1,t.2]
noncomputable def x2P(ns:List Int):Tie:=(ns.getD 0 0,ns.getD 1 0)
def z8B(ts:List Tie):List Tie:=(y3S (ts.map z70)).map x2P
theorem y8B(ts:List Tie):y3S (ts.map z70)=(z8B ts).map z70:=by
 unfold z8B;rw[B6]
 have:∀ns∈y3S (ts.map z70),(z70∘x2P) ns=ns:=fun ns h=>by have h':=(z77 (ts.map z70)).mem_iff.mp h;obtain⟨t,_,rfl⟩:=Av.mp h';rfl
 exact((B7 this).trans (Ho _)).symm
theorem z17(ts:List Tie):(z8B ts).Perm ts:=by
 have h:=(z77 (ts.map z70)).map x2P
 have e:(ts.map z70).map x2P=ts:=by rw[B6];exact(B7 (fun t _=>rfl:∀t∈ts,(x2P∘z70) t=t)).trans (Ho _)
 rw[e]at h;exact h
theorem y8A(ts:List Tie)(hn:ts.Nodup):(z8B ts).Pairwise tlt:=by
 have h:=y89 (ts.map z70);rw[y8B,Bu]at h;have bj:(z8B ts).Nodup:=(z17 ts).nodup_iff.mpr hn
 have:=h.and bj
 refine this.imp fun {s t} q=>?_;obtain⟨q1,q2⟩:=q
 have:decide (tlt t s)=false:=(z3P t s).symm.trans q1
 have n1:=of_decide_eq_false this;rcases z23 s t with z|z|z
 ·exact z
 ·exact absurd z q2
 ·exact absurd z n1
theorem y17{ts:List Tie}(h:ts.length<64):z99 (ts.map v9)=some ((z8B ts).map v9):=by
 unfold z99;rw[if_pos (by rw[A0];exact h)]
 cases ts with
 |nil=>show some ((y24 []).map D.int)=some ((z8B []).map v9);unfold z8B y24 y3S;simp
 |cons t ts=>
  have e1:W8 ((t::ts).map v9)=none:=rfl
  have e2:z1J ((t::ts).map v9)=some ((t::ts).map z70):=by
   have:=z52 (nss:=(t::ts).map z70) (fun ns h=>by
    obtain⟨u,_,rfl⟩:=Av.mp h
    simp[z70])
   rw[B6]at this;exact this
  rw[e1];dsimp only;rw[e2];dsimp only;rw[y8B,B6];rfl
structure IsWeb(n:Int)(ts:List Tie):Prop where
 lo:1≤n
 hi:n≤6
 up:ts.Pairwise tlt
 ok:∀t∈ts,0≤t.1/\t.1<t.2/\t.2<n
def W7(n:Int)(ts:List Tie):D:=.tup [.int n,.tup (ts.map v9)]
theorem x9S(a b:Int):dNe (.int a) (.int b)=some (.bl (!(a==b))):=rfl
theorem y8U(a b:Int):x26 [.int a,.int b]=some (.int (Ip a b)):=by
 show some (D.int (if b<a then b else a))=_;by_cases h:b<a
 ·rw[if_pos h,Fl (by omega)]
 ·rw[if_neg h,G5 (by omega)]
theorem x9X(a b:Int):w0D [.int a,.int b]=some (.int (Lu a b)):=by
 show some (D.int (if b>a then b else a))=_;by_cases h:b>a
 ·rw[if_pos h,Fm (by omega)]
 ·rw[if_neg h,G6 (by omega)]
def y5Z:EO:=
 K6 (z0H 6 (x5 Q5 (z7 (d2 z2Q (z8 0) (d2 z65 (dC (.int 11)) (z8 5))) (z7 (dC (.int 9949)) (z7 (z8 3) (u3))))))
 (K6 (z0H 7 (x5 Q5 (z7 (d2 z2Q (d2 z2Q (z8 0) (d2 z65 (dC (.int 13)) (z8 5))) (dC (.int 1))) (z7 (dC (.int 9941)) (z7 (z8 3) (u3))))))
 (K6 (z0H 8 (z2O (z7 (x5 x26 (z7 (z8 6) (z7 (z8 7) u3))) (z7 (x5 w0D (z7 (z8 6) (z7 (z8 7) u3))) (u3)))))
 (z2E (z3Y (y9 (d2 dNe (z8 6) (z8 7))) (y9 (dIn true (z8 8) (z4Z 4))))
 (y9L 4 (z8 8))
 (Z3))))
theorem x01{c m t:D}{cc n k:Int}{ts:List Tie}{c6 c7 c8:Option Cell}(hn:0<n)(hok:∀t∈ts,0≤t.1/\t.1<t.2/\t.2<n)(aB:ts.Nodup)(hl:ts.length≤1000):
  ∃(gL:List Tie) (ca cq fy:Option Cell),y5Z [sC (.int cc),sC m,sC t,sC (.int n),some (.ow (ts.map v9)),sC (.int k),c6,c7,c8] =
   some (.nx [sC (.int cc),sC m,sC t,sC (.int n),some (.ow (gL.map v9)),sC (.int k),ca,cq,fy])/\(∀t∈gL,0≤t.1/\t.1<t.2/\t.2<n)/\gL.Nodup/\gL.length≤ts.length+1:=by
 have a1:=y1G (cc+11*k) 9949 hn;have a2:=y4E (cc+11*k) 9949 hn;have b1:=y1G (cc+13*k+1) 9941 hn;have b2:=y4E (cc+13*k+1) 9941 hn;generalize e1:mix (cc+11*k) 9949 n=a at a1 a2;generalize e2:mix (cc+13*k+1) 9941 n=b at b1 b2
 have f1:Q5 [.int (cc+11*k),.int 9949,.int n]=some (.int a):=by rw[z0W _ (by decide) hn,e1]
 have f2:Q5 [.int (cc+13*k+1),.int 9941,.int n]=some (.int b):=by rw[z0W _ (by decide) hn,e2]
 have g0:∀ρ:u5,ρ[0]?=some (sC (.int cc))->ρ[5]?=some (sC (.int k))->∀j:Int,z4L j=true->d2 z2Q (z8 0) (d2 z65 (dC (.int j)) (z8 5)) ρ=some (.int (cc+j*k)):=fun ρ h0 h5 j hj=>by
  have z0:z8 0 ρ=some (.int cc):=by unfold z8;rw[h0]
  have z5:z8 5 ρ=some (.int k):=by unfold z8;rw[h5]
  exact(z2N z0 ((z2N (x:=.int j) (y:=.int k) rfl z5).trans (x44 k hj))).trans rfl
 let tie:Tie:=(Ip a b,Lu a b)
 have step:y5Z [sC (.int cc),sC m,sC t,sC (.int n),some (.ow (ts.map v9)),sC (.int k),c6,c7,c8] =
   z2E (z3Y (y9 (d2 dNe (z8 6) (z8 7))) (y9 (dIn true (z8 8) (z4Z 4)))) (y9L 4 (z8 8)) Z3
    [sC (.int cc),sC m,sC t,sC (.int n),some (.ow (ts.map v9)),sC (.int k),sC (.int a),sC (.int b),sC (v9 tie)]:=by
  refine x6 (r:=.rt .non) (K8 (d:=.int a) ((w8 (ds:=[.int (cc+11*k),.int 9949,.int n]) (v8 (g0 _ rfl rfl 11 (by decide)) rfl)).trans f1)) ?_;refine x6 (r:=.rt .non) (K8 (d:=.int b) ((w8 (ds:=[.int (cc+13*k+1),.int 9941,.int n]) (v8 ((z2N (g0 _ rfl rfl 13 (by decide)) rfl).trans rfl) rfl)).trans f2)) ?_;exact x6 (r:=.rt .non) (K8 (d:=v9 tie) (z5K (ds:=[.int tie.1,.int tie.2]) (v8 ((w8 (ds:=[.int a,.int b]) rfl).trans (y8U a b)) (v8 ((w8 (ds:=[.int a,.int b]) rfl).trans (x9X a b)) rfl)) (show 2≤LIM by decide))) rfl
 rw[step]
 have et:z3Y (y9 (d2 dNe (z8 6) (z8 7))) (y9 (dIn true (z8 8) (z4Z 4))) [sC (.int cc),sC m,sC t,sC (.int n),some (.ow (ts.map v9)),sC (.int k),sC (.int a),sC (.int b),sC (v9 tie)]=some (!(a==b)&&!decide (tie∈ts)):=by
  refine z7O (u4 rfl) fun _=>u4 ((x16 (d:=v9 tie) (ds:=ts.map v9) rfl rfl (Bk (z3X ts) (by decide)) (by rw[y04];decide)).trans ?_)
  rw[y6T];rfl
 rw[J9 et]
 cases hc:(!(a==b)&&!decide (tie∈ts)) with
 |false=>exact⟨ts,_,_,_,rfl,hok,aB,Dq _⟩
 |true=>
  rw[Ax]at hc
  have ag:a≠b:=by simpa using hc.1
  have iO:tie∉ts:=by simpa using hc.2
  refine⟨ts++[tie],sC (.int a),sC (.int b),sC (v9 tie),?_,fun u hu=>?_,?_,by simp⟩
  ·rw[if_pos rfl];refine(y9H (ds:=ts.map v9) (d:=v9 tie) rfl rfl (by rw[A0];unfold LIM;omega)).trans ?_
   rw[Ba];rfl
  ·rcases Aw.mp hu with z|z
   ·exact hok u z
   ·have:u=tie:=by simpa using z
    subst this;show 0≤Ip a b/\Ip a b<Lu a b/\Lu a b<n;omega
  ·rw[Cc];refine⟨aB,by simp,fun x hx y hy=>?_⟩
   have:y=tie:=by simpa using hy
   subst this;exact fun z=>iO (z▸hx)
theorem y5N(c:Int){most ties:Int}(h1:1≤most)(h6:most≤6)(t0:0≤ties)(t12:ties≤12):
  ∃(n:Int) (ts:List Tie),z6Y [.int c,.int most,.int ties]=some (W7 n ts)/\IsWeb n ts/\n≤most/\(ts.length:Int)≤ties:=by
 have a1:=y1G c 9973 (show 0<most by omega);have a2:=y4E c 9973 (show 0<most by omega);have b1:=y1G c 9967 (show 0<ties+1 by omega);have b2:=y4E c 9967 (show 0<ties+1 by omega)
 obtain⟨n,hn1,hn2,e1⟩:∃n:Int,1≤n/\n≤most/\∀k:EO,K6 (z0H 3 (d2 z2Q (dC (.int 1)) (x5 Q5 (z7 (z8 0) (z7 (dC (.int 9973)) (z7 (z8 1) (u3)))))))
   (K6 (z2E (z3Y (y9 (d2 dLt (z8 3) (dC (.int 4)))) (y9 (d2 w32 (d2 y50 (z8 0) (dC (.int 4))) (dC (.int 0))))) (z0H 3 (z8 1)) (Z3)) k) [sC (.int c),sC (.int most),sC (.int ties),none,none,none,none,none,none] =
   k [sC (.int c),sC (.int most),sC (.int ties),sC (.int n),none,none,none,none,none]:=by
  have s1:∀k,K6 (z0H 3 (d2 z2Q (dC (.int 1)) (x5 Q5 (z7 (z8 0) (z7 (dC (.int 9973)) (z7 (z8 1) (u3))))))) k [sC (.int c),sC (.int most),sC (.int ties),none,none,none,none,none,none] =
    k [sC (.int c),sC (.int most),sC (.int ties),sC (.int (1+mix c 9973 most)),none,none,none,none,none]:=fun k=>
   x6 (r:=.rt .non) (K8 (d:=.int (1+mix c 9973 most)) ((z2N (x:=.int 1) (y:=.int (mix c 9973 most)) rfl ((w8 (ds:=[.int c,.int 9973,.int most]) rfl).trans (z0W c (by decide) (by omega)))).trans rfl)) rfl
  have s2:z3Y (y9 (d2 dLt (z8 3) (dC (.int 4)))) (y9 (d2 w32 (d2 y50 (z8 0) (dC (.int 4))) (dC (.int 0)))) [sC (.int c),sC (.int most),sC (.int ties),sC (.int (1+mix c 9973 most)),none,none,none,none,none]=some (decide (1+mix c 9973 most<4)&&decide (0<c % 4)):=z7O (u4 rfl) fun _=>u4 ((z2N (x:=.int (c % 4)) (y:=.int 0) ((z2N (x:=.int c) (y:=.int 4) rfl rfl).trans (x4A c (by decide))) rfl).trans rfl)
  cases hc:(decide (1+mix c 9973 most<4)&&decide (0<c % 4)) with
  |true=>refine⟨most,h1,Il _,fun k=>(s1 _).trans (x6 (r:=.rt .non) ((J9 s2).trans ?_) rfl)⟩;rw[hc];rfl
  |false=>refine⟨1+mix c 9973 most,by omega,by omega,fun k=>(s1 _).trans (x6 (r:=.rt .non) ((J9 s2).trans ?_) rfl)⟩;rw[hc];rfl
 have hok:okR (mix c 9967 (ties+1))=true:=by unfold okR;rw[decide_eq_true (by omega),decide_eq_true (by omega)];rfl
 obtain⟨ρ',l1,ts,c5,c6,c7,c8,rfl,q1,q2,q3⟩:=z55 (h:=w9 5) (g:=y5Z) (fun pre ρ=>∃(ts:List Tie) (c5 c6 c7 c8:Option Cell),ρ=[sC (.int c),sC (.int most),sC (.int ties),sC (.int n),some (.ow (ts.map v9)),c5,c6,c7,c8]/\(∀t∈ts,0≤t.1/\t.1<t.2/\t.2<n)/\ts.Nodup/\ts.length≤pre.length)
  (ds:=K5 0 (mix c 9967 (ties+1)).toNat) (ρ:=[sC (.int c),sC (.int most),sC (.int ties),sC (.int n),some (.ow []),none,none,none,none]) ⟨[],none,none,none,none,rfl,fun t h=>absurd h (by simp),Dx,Ak _⟩ (fun pre d post ρ he hI=>by
   obtain⟨ts,c5,c6,c7,c8,rfl,q1,q2,q3⟩:=hI;obtain⟨k,hk,rfl⟩:=x5O (show d∈K5 0 _ by rw[←he];simp)
   have ab:=congrArg Fq he;rw[z0P,Ad]at ab;obtain⟨gL,ca,cq,fy,w1,w2,w3,w4⟩:=x01 (c:=.non) (cc:=c) (m:=.int most) (t:=.int ties) (k:=(k:Int)) (c6:=c6) (c7:=c7) (c8:=c8) (show 0<n by omega) q1 q2 (by omega);refine⟨_,_,rfl,.inl w1,gL,_,ca,cq,fy,rfl,w2,w3,?_⟩;rw[Ad]
   exact Bk w4 (Nat.succ_le_succ q3))
 have iN:(ts.length:Int)≤ties:=by rw[z0P]at q3;omega
 refine⟨n,z8B ts,?_,⟨hn1,by omega,y8A ts q2,fun t ht=>q1 t ((z17 ts).mem_iff.mp ht)⟩,hn2,by rw[(z17 ts).length_eq];exact iN⟩
 show z2F (z9V [sC (.int c),sC (.int most),sC (.int ties),none,none,none,none,none,none])=_
 have fin:z9V [sC (.int c),sC (.int most),sC (.int ties),none,none,none,none,none,none]=some (.rt (W7 n (z8B ts))):=by
  refine(e1 _).trans (x6 (r:=.rt .non) (z4X (ds:=[]) (z5L (ds:=[]) rfl (by decide))) ?_);refine x6 (r:=.rt .non) ((z10 (ds:=K5 0 (mix c 9967 (ties+1)).toNat) ?_).trans l1) ?_
  ·exact z62 ((w8 (ds:=[.int c,.int 9967,.int (ties+1)]) rfl).trans (z0W c (by decide) (by omega))) hok
  ·refine z02 (z5K (ds:=[.int n,.tup ((z8B ts).map v9)]) (v8 rfl (v8 (z7N ((w2Z (ds:=ts.map v9) rfl).trans (y17 (by omega)))) rfl)) (show 2≤LIM by decide))
 rw[fin];rfl
theorem y1O(lo:Int)(m:Nat):K5 lo (m+1) = .int lo::K5 (lo+1) m:=by
 unfold K5;rw[Fv,Ai,B6];congr 1
 ·simp
 ·refine B7 fun k _=>?_;simp only[Jt];congr 1;omega
theorem z7H{n j:Nat}(h:j<n):ixN n (j:Int)=some j:=by unfold ixN;rw[if_pos (by omega),if_pos (by omega),Ao]
theorem y4H{α β:Type}(f:α->β):∀(l:List α) (j:Nat),(l.map f).eraseIdx j=(l.eraseIdx j).map f
 | [],_=>rfl
 |_::_,0=>rfl
 |a::l,j+1=>by show f a::(l.map f).eraseIdx j=f a::(l.eraseIdx j).map f;rw[y4H f l j]
theorem erase_perm{α:Type}:∀(l:List α) (j:Nat) (h:j<l.length),(l[j]::l.eraseIdx j).Perm l
 |a::l,0,_=>Gj _
 |a::l,j+1,h=>by
  have ih:=erase_perm l j (by simpa using h)
  have hj:j<l.length:=by simpa using h
  show (l[j]::a::l.eraseIdx j).Perm (a::l);exact(L5 _ _ _).trans (ih.cons a)
def y3Z:u5->Option (D×u5):=w3K 1 (x5 Q5 (z7 (d2 z2Q (z8 2) (d2 z65 (dC (.int 5)) (z8 0))) (z7 (dC (.int 9931)) (z7 (d2 y2U (z8 3) (z8 0)) (u3)))))
theorem x3E{c:Int}{n k:Nat}{ls:List Int}(hl:ls.length+k=n)(hk:k<n)(hn:n≤1000):
  ∃(j:Nat) (h:j<ls.length),y3Z [sC (.int (k:Int)),some (.ow (ls.map D.int)),sC (.int c),sC (.int (n:Int))]=some (.int ls[j],[sC (.int (k:Int)),some (.ow ((ls.eraseIdx j).map D.int)),sC (.int c),sC (.int (n:Int))]):=by
 have hm:(0:Int)<(n:Int)-(k:Int):=by omega
 have a1:=y1G (c+5*(k:Int)) 9931 hm;have a2:=y4E (c+5*(k:Int)) 9931 hm;obtain⟨j,hj⟩:=D9 a1
 have bG:j<ls.length:=by omega
 refine⟨j,bG,?_⟩
 have ef:x5 Q5 (z7 (d2 z2Q (z8 2) (d2 z65 (dC (.int 5)) (z8 0))) (z7 (dC (.int 9931)) (z7 (d2 y2U (z8 3) (z8 0)) (u3)))) [sC (.int (k:Int)),some (.ow (ls.map D.int)),sC (.int c),sC (.int (n:Int))]=some (.int (j:Int)):=by refine(w8 (ds:=[.int (c+5*(k:Int)),.int 9931,.int ((n:Int)-(k:Int))]) (v8 ((z2N (x:=.int c) (y:=.int (5*(k:Int))) rfl ((z2N (x:=.int 5) (y:=.int (k:Int)) rfl rfl).trans (x44 _ (by decide)))).trans rfl) rfl)).trans ?_;rw[z0W _ (by decide) hm,hj]
 have eo:z4Z 1 [sC (.int (k:Int)),some (.ow (ls.map D.int)),sC (.int c),sC (.int (n:Int))]=some (ls.map D.int):=rfl;unfold y3Z w3K;rw[eo,ef];dsimp only;rw[A0,z7H bG];dsimp only;rw[Au,A3 bG];dsimp only[Option.map_some];rw[if_pos (by unfold LIM;omega),y4H]
 rfl
theorem x9B{c:Int}{n:Nat}(hn:n≤1000):∀(m k:Nat) (ls:List Int) (c0:Option Cell),ls.length=m->m+k=n ->
  ∃r:List Int,z3Z (w9 0) y3Z [c0,some (.ow (ls.map D.int)),sC (.int c),sC (.int (n:Int))] (K5 (k:Int) m)=some (r.map D.int)/\r.Perm ls
 | 0,k,ls,c0,hl,hk=>by
  have:ls=[]:=Ec hl
  subst this;exact⟨[],rfl,Gj _⟩
 |m+1,k,ls,c0,hl,hk=>by
  obtain⟨j,hj,e⟩:=x3E (c:=c) (n:=n) (k:=k) (ls:=ls) (by omega) (by omega) hn;obtain⟨r,e2,hp⟩:=x9B hn m (k+1) (ls.eraseIdx j) (sC (.int (k:Int))) (by rw[List.length_eraseIdx,if_pos hj];omega) (by omega)
  refine⟨ls[j]::r,?_,(hp.cons _).trans (erase_perm ls j hj)⟩;rw[y1O];unfold z3Z
  show (match y3Z [sC (.int (k:Int)),some (.ow (ls.map D.int)),sC (.int c),sC (.int (n:Int))] with
   |some (y,ρ2)=>(match z3Z (w9 0) y3Z ρ2 (K5 ((k:Int)+1) m) with|some ys=>some (y::ys)|none=>none)
   |none=>none)=_
  rw[e];dsimp only
  have ek:((k:Int)+1)=((k+1:Nat):Int):=by omega
  rw[ek,e2];rfl
theorem y5O(c:Int){n:Int}(h0:0≤n)(h1:n≤1000):∃r:List Int,z6Z [.int c,.int n]=some (.tup (r.map D.int))/\r.Perm (iUp 0 n.toNat):=by
 obtain⟨m,rfl⟩:=D9 h0
 have ab:(iUp 0 m).length=m:=by unfold iUp;rw[A0,As]
 obtain⟨r,e,hp⟩:=x9B (c:=c) (n:=m) (by omega) m 0 (iUp 0 m) none ab (by omega);have e0:((0:Nat):Int)=0:=rfl;rw[e0]at e;refine⟨r,?_,by rw[Ao];exact hp⟩
 have fin:z9W [sC (.int c),sC (.int (m:Int)),none]=some (.rt (.tup (r.map D.int))):=by
  have el:Y7 (z8 1) [sC (.int c),sC (.int (m:Int)),none]=some ((iUp 0 m).map D.int):=by rw[z5C (j:=(m:Int)) rfl (by omega) (by omega),Ao]
  refine x6 (r:=.rt .non) (z4X (ds:=(iUp 0 m).map D.int) el) ?_
  have er:z0I (z8 1) [sC (.int c),sC (.int (m:Int)),some (.ow ((iUp 0 m).map D.int))]=some (K5 0 m):=by rw[z62 (j:=(m:Int)) rfl (by unfold okR;rw[decide_eq_true (by omega),decide_eq_true (by omega)];rfl),Ao]
  exact z02 (z7N ((x8H er (by rw[z0P];unfold LIM;omega)).trans e))
 show z2F (z9W [sC (.int c),sC (.int (m:Int)),none])=_;rw[fin];rfl
theorem x78(n:Nat):(iUp 0 n).length=n:=by unfold iUp;simp
noncomputable def ixI(r:List Int)(p:Int):Int:=(r.idxOf p:Nat)
noncomputable def Y8(r:List Int):List Key:=r.map C2
theorem x0A(r:List Int)(p:Int):Y8 (r++[p])=Y8 r++[C2 p]:=by unfold Y8;rw[Ba];rfl
theorem x09{r:List Int}{p:Int}:(C2 p:Key)∈Y8 r↔p∈r:=by
 unfold Y8;constructor
 ·intro h;obtain⟨q,hq,e⟩:=Av.mp h;cases e;exact hq
 ·exact fun h=>Bv h
theorem y3R{r:List Int}(h:r.Nodup):(Y8 r).Nodup:=by unfold Y8;exact Bu.mpr (h.imp fun {a b} cN z=>cN (Fp z))
theorem z8U:∀(ks:List Key) (vs:List D) (j:Key) (d:D),ks.length=vs.length->j∉ks->z71 ks vs j d=(ks++[j],vs++[d])
 | [],[],_,_,_,_=>rfl
 | [],_::_,_,_,h,_=>by cases h
 |_::_,[],_,_,h,_=>by cases h
 |k::ks,v::vs,j,d,hl,hn=>by have ag:k≠j:=fun z=>hn (z▸A6);unfold z71;rw[if_neg ag,z8U ks vs j d (by simpa using hl) fun z=>hn (A7 _ z)];rfl
theorem x1C(n:Nat):K5 0 (n+1)=K5 0 n++[.int (n:Int)]:=by unfold K5;rw[Kw,Ba];simp
theorem y1J:∀(r:List Int) (k:Nat) (p:Int),p∈r->z0U (Y8 r) (K5 (k:Int) r.length) (C2 p)=some (.int ((k+r.idxOf p:Nat):Int))
 | [],_,_,h=>by cases h
 |q::r,k,p,h=>by
  have e:K5 (k:Int) (q::r).length = .int (k:Int)::K5 ((k+1:Nat):Int) r.length:=by rw[Ay,y1O];rfl
  rw[e];show (if (C2 q:Key)=C2 p then some (D.int (k:Int)) else z0U (Y8 r) (K5 ((k+1:Nat):Int) r.length) (C2 p))=_;by_cases hq:q=p
  ·subst hq;rw[if_pos rfl,Im];rfl
  ·have hp:p∈r:=by
    rcases Af.mp h with z|z
    ·exact absurd z.symm hq
    ·exact z
   have hi:(q::r).idxOf p=r.idxOf p+1:=by rw[List.idxOf_cons,beq_false_of_ne hq];rfl
   rw[if_neg fun z=>hq (Fp z),y1J r (k+1) p hp,hi];congr 2;omega
theorem y8X{r:List Int}{p:Int}(h:p∈r):z0U (Y8 r) (K5 0 r.length) (C2 p)=some (.int (ixI r p)):=by
 have:=y1J r 0 p h
 rw[M0]at this;exact this
theorem x5F{rw':D}:∀(r done:List Int) (c3 c4:Option Cell),(done++r).Nodup->(done++r).length≤1000 ->
  ∃fj bD,z0D (y52 2 (z2P (w9 2) (z2P (w9 3) (y53)))) (y72 1 (z8 3) (z8 2)) (z4Y done.length (r.map D.int)) [sC rw',some (.od (Y8 done) (K5 0 done.length)),c3,c4] =
   some (.nx [sC rw',some (.od (Y8 (done++r)) (K5 0 (done++r).length)),fj,bD])
 | [],done,c3,c4,_,_=>⟨c3,c4,by rw[Ch];rfl⟩
 |p::r,done,c3,c4,hn,hl=>by
  have bj:((done++[p])++r).Nodup:=by rw[Co];exact hn
  have cp:((done++[p])++r).length≤1000:=by rw[Co];exact hl
  obtain⟨fj,bD,ih⟩:=x5F r (done++[p]) (sC (.int (done.length:Int))) (sC (.int p)) bj cp;refine⟨fj,bD,?_⟩
  have hp:p∉done:=fun z=>by
   have:=(Cc.mp hn).2.2
   exact this p z p A6 rfl
  have hd:done.Nodup:=(Cc.mp hn).1
  have ab:done.length<1000:=by rw[Ad,Ay]at hl;omega
  have step:y72 1 (z8 3) (z8 2) [sC rw',some (.od (Y8 done) (K5 0 done.length)),sC (.int (done.length:Int)),sC (.int p)] =
    some (.nx [sC rw',some (.od (Y8 (done++[p])) (K5 0 (done++[p]).length)),sC (.int (done.length:Int)),sC (.int p)]):=by
   show (if (Y8 done).Nodup/\(Y8 done).length<LIM then some (Out.nx [sC rw',some (.od (z71 (Y8 done) (K5 0 done.length) (C2 p) (.int (done.length:Int))).1 (z71 (Y8 done) (K5 0 done.length) (C2 p) (.int (done.length:Int))).2),sC (.int (done.length:Int)),sC (.int p)]) else none)=_;rw[if_pos ⟨y3R hd,by unfold Y8;rw[A0];unfold LIM;omega⟩,z8U _ _ _ _ (by unfold Y8;rw[A0,z0P]) (fun z=>hp (x09.mp z)),←x0A,Ad,Az,x1C]
  rw[Ai];show z0D _ _ (.tup [.int (done.length:Int),.int p]::z4Y (done.length+1) (r.map D.int)) _=_;unfold z0D
  show (match y72 1 (z8 3) (z8 2) [sC rw',some (.od (Y8 done) (K5 0 done.length)),sC (.int (done.length:Int)),sC (.int p)] with
   |some (.nx ρ2)=>z0D _ _ (z4Y (done.length+1) (r.map D.int)) ρ2
   |some (.ct ρ2)=>z0D _ _ (z4Y (done.length+1) (r.map D.int)) ρ2
   |some (.bk ρ2)=>some (.nx ρ2)
   |some (.rt v)=>some (.rt v)
   |none=>none)=_
  rw[step];dsimp only;rw[Ad,Az]at ih ⊢;rw[ih,Co];rfl
theorem y39{r:List Int}(hn:r.Nodup)(hr:r.length≤1000):z7V [.tup (r.map D.int)]=some (.dct (Y8 r) (K5 0 r.length)):=by
 show z2F (z7J [sC (.tup (r.map D.int)),none,none,none])=_;obtain⟨c3,c4,hl⟩:=x5F (rw':=.tup (r.map D.int)) r [] none none (by simpa using hn) (by simpa using hr)
 have fin:z7J [sC (.tup (r.map D.int)),none,none,none]=some (.rt (.dct (Y8 r) (K5 0 r.length))):=by refine x6 (r:=.rt .non) rfl ?_;refine x6 (r:=.rt .non) ((z10 (ds:=z4Y 0 (r.map D.int)) rfl).trans hl) ?_;rfl
 rw[fin];rfl
def z0B(r:List Int)(t:Tie):Tie:=(Ip (ixI r t.1) (ixI r t.2),Lu (ixI r t.1) (ixI r t.2))
theorem z8M(a b:Int):z47 [.int a,.int b]=some (.tup [.int (Ip a b),.int (Lu a b)]):=by
 show z2F (z3S [sC (.int a),sC (.int b)])=_
 have fin:z3S [sC (.int a),sC (.int b)]=some (.rt (.tup [.int (Ip a b),.int (Lu a b)])):=by
  refine z02 (z5K (ds:=[.int (Ip a b),.int (Lu a b)]) (v8 ?_ (v8 ?_ rfl)) (show 2≤LIM by decide))
  ·exact y8U a b
  ·exact x9X a b
 rw[fin];rfl
theorem y5M{r:List Int}{t:Tie}(h1:t.1∈r)(h2:t.2∈r):y0H [.dct (Y8 r) (K5 0 r.length),v9 t]=some (v9 (z0B r t)):=by
 show z2F (z9U [sC (.dct (Y8 r) (K5 0 r.length)),sC (v9 t)])=_;have e1:z8K (z8 0) (dIx (dSq (z8 1)) (dC (.int 0))) [sC (.dct (Y8 r) (K5 0 r.length)),sC (v9 t)]=some (.int (ixI r t.1)):=y8X h1;have e2:z8K (z8 0) (dIx (dSq (z8 1)) (dC (.int 1))) [sC (.dct (Y8 r) (K5 0 r.length)),sC (v9 t)]=some (.int (ixI r t.2)):=y8X h2
 have fin:z9U [sC (.dct (Y8 r) (K5 0 r.length)),sC (v9 t)]=some (.rt (v9 (z0B r t))):=by refine z02 ?_;exact(w8 (ds:=[.int (ixI r t.1),.int (ixI r t.2)]) (v8 e1 (v8 e2 rfl))).trans (z8M _ _)
 rw[fin];rfl
theorem z46{n:Int}{ts:List Tie}{r:List Int}(hn:r.Nodup)(hr:r.length≤1000)(ht:ts.length≤1000)(hm:∀t∈ts,t.1∈r/\t.2∈r):
  z3F [W7 n ts,.tup (r.map D.int)]=some (.lst (ts.map fun t=>v9 (z0B r t))):=by
 show z2F (z7K [sC (W7 n ts),sC (.tup (r.map D.int)),none])=_
 have fin:z7K [sC (W7 n ts),sC (.tup (r.map D.int)),none]=some (.rt (.lst (ts.map fun t=>v9 (z0B r t)))):=by
  refine x6 (r:=.rt .non) (K8 (d:=.dct (Y8 r) (K5 0 r.length)) ((w8 (ds:=[.tup (r.map D.int)]) rfl).trans (y39 hn hr))) ?_;show z0E (dLs (Q3 _ _ _ _ _)) [sC (W7 n ts),sC (.tup (r.map D.int)),sC (.dct (Y8 r) (K5 0 r.length))]=_;refine z02 (z39 ?_);refine(Z9 (ds:=ts.map v9) rfl (by rw[A0];unfold LIM;omega)).trans ?_
  refine(z0J (fun ρ=>∃c,ρ=[c,sC (.dct (Y8 r) (K5 0 r.length))]) (fun d=>match d with|.tup [.int a,.int b]=>v9 (z0B r (a,b))|_=>.non) _ _ ⟨none,rfl⟩ ?_).trans ?_
  ·rintro d hd ρ ⟨c,rfl⟩;obtain⟨t,ht',rfl⟩:=Av.mp hd;refine⟨_,rfl,⟨_,rfl⟩,?_⟩;exact(w8 (ds:=[.dct (Y8 r) (K5 0 r.length),v9 t]) rfl).trans (y5M (hm t ht').1 (hm t ht').2)
  ·rw[B6];rfl
 rw[fin];rfl
noncomputable def lie(s t:Tie):Bb:=if s.1=t.1∨s.1=t.2∨s.2=t.1∨s.2=t.2 then "meet" else
 if (if tlt t s then t else s).2<(if tlt s t then t else s).1 then "apart" else if (if tlt t s then t else s).2<(if tlt s t then t else s).2 then "cross" else "within"
theorem in2(a c d:Int):inD (.int a) [.int c,.int d]=(decide (a=c)||decide (a=d)):=by
 show ((c==a)||((d==a)||false))=_;rw[Ii];congr 1
 ·rw[show (c==a)=decide (c=a) from rfl];exact decide_eq_decide.mpr eq_comm
 ·rw[show (d==a)=decide (d=a) from rfl];exact decide_eq_decide.mpr eq_comm
theorem x5H(s t:Tie):w2V [v9 s,v9 t]=some (v9 (if tlt t s then t else s)):=by
 show some (if HT.lexLt [t.1,t.2] [s.1,s.2]=true then v9 t else v9 s)=_;rw[z3P];by_cases h:tlt t s
 ·rw[if_pos h,if_pos (decide_eq_true h)]
 ·rw[if_neg h,if_neg (by rw[decide_eq_false h];decide)]
theorem x5I(s t:Tie):w2X [v9 s,v9 t]=some (v9 (if tlt s t then t else s)):=by
 show some (if HT.lexLt [s.1,s.2] [t.1,t.2]=true then v9 t else v9 s)=_;rw[z3P];by_cases h:tlt s t
 ·rw[if_pos h,if_pos (decide_eq_true h)]
 ·rw[if_neg h,if_neg (by rw[decide_eq_false h];decide)]
theorem x92(s t:Tie):z2C [v9 s,v9 t]=some (.str (lie s t)):=by
 show z2F (z26 [sC (v9 s),sC (v9 t),none,none])=_
 have e1:y3D (y9 (dIn false (dIx (dSq (z8 0)) (dC (.int 0))) (dSq (z8 1)))) (y9 (dIn false (dIx (dSq (z8 0)) (dC (.int 1))) (dSq (z8 1)))) [sC (v9 s),sC (v9 t),none,none] =
   some ((decide (s.1=t.1)||decide (s.1=t.2))||(decide (s.2=t.1)||decide (s.2=t.2))):=by
  refine z85 (u4 ((x16 (d:=.int s.1) (ds:=[.int t.1,.int t.2]) rfl rfl (by simp[z00,depth,z22]) (by simp[depth,z22])).trans ?_)) fun _=>u4 ((x16 (d:=.int s.2) (ds:=[.int t.1,.int t.2]) rfl rfl (by simp[z00,depth,z22]) (by simp[depth,z22])).trans ?_)
  ·rw[in2];rfl
  ·rw[in2];rfl
 have fin:z26 [sC (v9 s),sC (v9 t),none,none]=some (.rt (.str (lie s t))):=by
  unfold lie;by_cases hm:s.1=t.1∨s.1=t.2∨s.2=t.1∨s.2=t.2
  ·rw[if_pos hm];refine z1S ?_;rw[J9 e1]
   have:((decide (s.1=t.1)||decide (s.1=t.2))||(decide (s.2=t.1)||decide (s.2=t.2)))=true:=by simp only[E2,decide_eq_true_eq];omega
   rw[this];rfl
  ·rw[if_neg hm];refine x6 (r:=.rt .non) (ρ':=[sC (v9 s),sC (v9 t),none,none]) ?_ ?_
   ·rw[J9 e1]
    have:((decide (s.1=t.1)||decide (s.1=t.2))||(decide (s.2=t.1)||decide (s.2=t.2)))=false:=by simp only[Bool.or_eq_false_iff,decide_eq_false_iff_not];omega
    rw[this];rfl
   ·generalize hf:(if tlt t s then t else s)=f;generalize hg:(if tlt s t then t else s)=g;refine x6 (r:=.rt .non) (K8 (d:=v9 f) ((w8 (ds:=[v9 s,v9 t]) rfl).trans (by rw[x5H,hf]))) ?_;refine x6 (r:=.rt .non) (K8 (d:=v9 g) ((w8 (ds:=[v9 s,v9 t]) rfl).trans (by rw[x5I,hg]))) ?_;have e2:y9 (d2 dLt (dIx (dSq (z8 2)) (dC (.int 1))) (dIx (dSq (z8 3)) (dC (.int 0)))) [sC (v9 s),sC (v9 t),sC (v9 f),sC (v9 g)]=some (decide (f.2<g.1)):=rfl
    have e3:y9 (d2 dLt (dIx (dSq (z8 2)) (dC (.int 1))) (dIx (dSq (z8 3)) (dC (.int 1)))) [sC (v9 s),sC (v9 t),sC (v9 f),sC (v9 g)]=some (decide (f.2<g.2)):=rfl;by_cases h1:f.2<g.1
    ·rw[if_pos h1];refine z1S ((J9 e2).trans ?_);rw[decide_eq_true h1];rfl
    ·rw[if_neg h1];refine x6 (r:=.rt .non) (ρ':=[sC (v9 s),sC (v9 t),sC (v9 f),sC (v9 g)]) ((J9 e2).trans ?_) ?_
     ·rw[decide_eq_false h1];rfl
     ·refine z02 ((w7N e3).trans ?_);by_cases h2:f.2<g.2
      ·rw[if_pos h2,decide_eq_true h2];rfl
      ·rw[if_neg h2,decide_eq_false h2];rfl
 rw[fin];rfl
noncomputable def btw(a b c:Int):Bool:=decide (Ip a b<c)&&decide (c<Lu a b)
def z9P(a b c d:Int):Bb:=if a=c∨a=d∨b=c∨b=d then "meet" else
 if (btw a b c&&!btw a b d)||(!btw a b c&&btw a b d) then "cross" else if (btw a b c&&btw a b d)||(decide (Ip c d<Ip a b)&&decide (Ip a b<Lu c d)) then "within" else "apart"
noncomputable def w7F(s t:Tie):Nat:=if s.1=t.1∨s.1=t.2∨s.2=t.1∨s.2=t.2 then 0 else
 if (if tlt t s then t else s).2<(if tlt s t then t else s).1 then 1 else if (if tlt t s then t else s).2<(if tlt s t then t else s).2 then 2 else 3
def w7H(a b c d:Int):Nat:=if a=c∨a=d∨b=c∨b=d then 0 else
 if (btw a b c&&!btw a b d)||(!btw a b c&&btw a b d) then 2 else if (btw a b c&&btw a b d)||(decide (Ip c d<Ip a b)&&decide (Ip a b<Lu c d)) then 3 else 1
noncomputable def y56:Nat->Bb
 | 0=>"meet"
 | 1=>"apart"
 | 2=>"cross"
 |_=>"within"
theorem x86(s t:Tie):lie s t=y56 (w7F s t):=by unfold w7F;rw[apply_ite y56,apply_ite y56,apply_ite y56];rfl
theorem x89(a b c d:Int):z9P a b c d=y56 (w7H a b c d):=by unfold w7H;rw[apply_ite y56,apply_ite y56,apply_ite y56];rfl
theorem w2I:∀a b c d:Fin 6,a≠b->c≠d->w7F (Ip (a.val:Int) b.val,Lu (a.val:Int) b.val) (Ip (c.val:Int) d.val,Lu (c.val:Int) d.val)=w7H a.val b.val c.val d.val:=by decide +kernel
theorem w2H{a b c d:Int}(h1:a≠b)(h2:c≠d)(ha:0≤a/\a<6)(hb:0≤b/\b<6)(hc:0≤c/\c<6)(hd:0≤d/\d<6):lie (Ip a b,Lu a b) (Ip c d,Lu c d)=z9P a b c d:=by
 obtain⟨a,rfl⟩:=D9 ha.1;obtain⟨b,rfl⟩:=D9 hb.1;obtain⟨c,rfl⟩:=D9 hc.1;obtain⟨d,rfl⟩:=D9 hd.1;rw[x86,x89]
 have:=w2I ⟨a,by omega⟩ ⟨b,by omega⟩ ⟨c,by omega⟩ ⟨d,by omega⟩ (fun z=>h1 (by rw[Fin.mk.injEq]at z;rw[z])) (fun z=>h2 (by rw[Fin.mk.injEq]at z;rw[z]))
 rw[this]
theorem x53:∀(r:List Int) (p:Int),p∈r->w3J (.int p) (r.map D.int)=some (r.idxOf p)
 | [],_,h=>by cases h
 |q::r,p,h=>by
  unfold w3J;rw[Ai,List.findIdx?_cons];show (if (q==p)=true then some 0 else ((r.map D.int).findIdx? fun y=>beq y (.int p)).map (·+1))=_;by_cases hq:q=p
  ·subst hq;rw[if_pos (by simp),Im]
  ·have hp:p∈r:=by
    rcases Af.mp h with z|z
    ·exact absurd z.symm hq
    ·exact z
   have ih:=x53 r p hp;unfold w3J at ih
   have hi:(q::r).idxOf p=r.idxOf p+1:=by rw[List.idxOf_cons,beq_false_of_ne hq];rfl
   rw[if_neg (by simpa using hq),ih,hi];rfl
theorem y05:∀r:List Int,z00 (r.map D.int)=0
 | []=>by rw[Ft,z00]
 |p::r=>by
  have e:depth (.int p)=0:=by simp[depth]
  rw[Ai,z00,y05 r,e];rfl
theorem y9A{r:List Int}{p:Int}{fa fb:ED}{ρ:u5}(h:p∈r)(ha:fa ρ=some (.tup (r.map D.int)))(hb:fb ρ=some (.int p)):y0A fa fb ρ=some (.int (ixI r p)):=by
 unfold y0A;rw[ha,hb];dsimp only;rw[if_pos ⟨by rw[y05];decide,by simp[depth,z22]⟩,x53 r p h]
 rfl
theorem x69{ts:List Tie}{i:Nat}{s:Tie}(h:ts[i]?=some s):atI (ts.map v9) (i:Int)=some (v9 s):=by have al:i<ts.length:=(An.mp h).1;unfold atI;rw[A0,z7H al];show (ts.map v9)[i]?=_;rw[Au,h];rfl
theorem y15{r:List Int}{s:Tie}{fi:EL}{ρ:u5}(h0:fi ρ=some [.int s.1,.int s.2])(hc:y0T [none,some 1] ρ=[none,sC (.tup (r.map D.int))])(h1:s.1∈r)(h2:s.2∈r):
  Q3 [none,some 1] fi (w9 0) z3C (y0A (z8 1) (z8 0)) ρ=some [.int (ixI r s.1),.int (ixI r s.2)]:=by
 refine(Z9 h0 (show 2≤LIM by decide)).trans ?_;rw[hc];refine(z0J (fun ρ=>∃c,ρ=[c,sC (.tup (r.map D.int))]) (fun d=>match d with|.int p=>.int (ixI r p)|_=>.non) _ _ ⟨none,rfl⟩ ?_).trans rfl;rintro d hd ρ ⟨c,rfl⟩;refine⟨_,rfl,⟨_,rfl⟩,?_⟩;rcases Af.mp hd with rfl|hd
 ·exact y9A h1 rfl rfl
 ·obtain rfl:=Ae.mp hd
  exact y9A h2 rfl rfl
theorem w7M(p:D->Bool)(x y:D):[x,y].filter p=if p x=true then (if p y=true then [x,y] else [x]) else (if p y=true then [y] else []):=by
 rw[Ih,Ih,List.filter_nil];by_cases h:p x=true
 ·rw[if_pos h,if_pos h];by_cases h':p y=true
  ·rw[if_pos h',if_pos h']
  ·rw[if_neg h',if_neg h']
 ·rw[if_neg h,if_neg h]
theorem x0V{n:Int}{ts:List Tie}{r:List Int}{i j:Nat}{s t:Tie}(hi:ts[i]?=some s)(hj:ts[j]?=some t)(hs:s.1∈r/\s.2∈r)(ht:t.1∈r/\t.2∈r):
  z50 [W7 n ts,.tup (r.map D.int),.int (i:Int),.int (j:Int)]=some (.str (z9P (ixI r s.1) (ixI r s.2) (ixI r t.1) (ixI r t.2))):=by
 show z2F (z9X [sC (W7 n ts),sC (.tup (r.map D.int)),sC (.int (i:Int)),sC (.int (j:Int)),none,none,none])=_;generalize ea:ixI r s.1=a;generalize eb:ixI r s.2=b;generalize ec:ixI r t.1=c;generalize ed:ixI r t.2=d;have c1:=fun ρ h0 hc=>y15 (r:=r) (s:=s) (fi:=dSq (dIx (dSq (dIx (dSq (z8 0)) (dC (.int 1)))) (z8 2))) (ρ:=ρ) h0 hc hs.1 hs.2;have c2:=fun ρ h0 hc=>y15 (r:=r) (s:=t) (fi:=dSq (dIx (dSq (dIx (dSq (z8 0)) (dC (.int 1)))) (z8 3))) (ρ:=ρ) h0 hc ht.1 ht.2
 rw[ea,eb]at c1;rw[ec,ed]at c2
 let W:D:=W7 n ts
 let R:D:=.tup (r.map D.int)
 have fin:z9X [sC W,sC R,sC (.int (i:Int)),sC (.int (j:Int)),none,none,none]=some (.rt (.str (z9P a b c d))):=by
  refine x6 (r:=.rt .non) (K8 (d:=.lst [.int a,.int b]) (z39 (c1 _ (z4W (ds:=[.int s.1,.int s.2]) ((z2G (ds:=ts.map v9) rfl rfl).trans (x69 hi))) rfl))) ?_;refine x6 (r:=.rt .non) (K8 (d:=.lst [.int c,.int d]) (z39 (c2 _ (z4W (ds:=[.int t.1,.int t.2]) ((z2G (ds:=ts.map v9) rfl rfl).trans (x69 hj))) rfl))) ?_
  have e3:y0S (Q3 [none,some 5] (dSq (z8 4)) (w9 0) (y9 (dIn false (z8 0) (dSq (z8 1)))) (z8 0)) [sC W,sC R,sC (.int (i:Int)),sC (.int (j:Int)),sC (.lst [.int a,.int b]),sC (.lst [.int c,.int d]),none] =
    some ((decide (a=c)||decide (a=d))||(decide (b=c)||decide (b=d))):=by
   have:Q3 [none,some 5] (dSq (z8 4)) (w9 0) (y9 (dIn false (z8 0) (dSq (z8 1)))) (z8 0) [sC W,sC R,sC (.int (i:Int)),sC (.int (j:Int)),sC (.lst [.int a,.int b]),sC (.lst [.int c,.int d]),none] =
     some (([.int a,.int b].filter fun x=>inD x [.int c,.int d]).map id):=by
    refine(Z9 (ds:=[.int a,.int b]) rfl (show 2≤LIM by decide)).trans ?_;refine J7 (fun ρ=>∃c0,ρ=[c0,sC (.lst [.int c,.int d])]) (fun x=>inD x [.int c,.int d]) id _ _ ⟨none,rfl⟩ ?_;rintro x hx ρ ⟨c0,rfl⟩;refine⟨_,rfl,⟨_,rfl⟩,u4 ((x16 (d:=x) (ds:=[.int c,.int d]) rfl rfl (by simp[z00,depth,z22]) ?_).trans rfl),fun _=>rfl⟩;rcases Af.mp hx with rfl|hx
    ·simp[depth,z22]
    ·obtain rfl:=Ae.mp hx;simp[depth,z22]
   unfold y0S;rw[this];dsimp only;rw[Ho,Ih,Ih,List.filter_nil,in2,in2];cases (decide (a=c)||decide (a=d))<;>cases (decide (b=c)||decide (b=d))<;>rfl
  unfold z9P;by_cases hm:a=c∨a=d∨b=c∨b=d
  ·rw[if_pos hm];refine z1S ((J9 e3).trans ?_)
   have:((decide (a=c)||decide (a=d))||(decide (b=c)||decide (b=d)))=true:=by simp only[E2,decide_eq_true_eq];omega
   rw[this];rfl
  ·rw[if_neg hm];refine x6 (r:=.rt .non) (ρ':=[sC W,sC R,sC (.int (i:Int)),sC (.int (j:Int)),sC (.lst [.int a,.int b]),sC (.lst [.int c,.int d]),none]) ((J9 e3).trans ?_) ?_
   ·have:((decide (a=c)||decide (a=d))||(decide (b=c)||decide (b=d)))=false:=by simp only[Bool.or_eq_false_iff,decide_eq_false_iff_not];omega
    rw[this];rfl
   ·have e4:Q3 [none,some 4] (dSq (z8 5)) (w9 0) (y9 (z4E x1E x1E (z8J (z0V (z8 1))) (z8 0) (y75 (z0V (z8 1))))) (z8 0) [sC W,sC R,sC (.int (i:Int)),sC (.int (j:Int)),sC (.lst [.int a,.int b]),sC (.lst [.int c,.int d]),none] =
      some (([.int c,.int d].filter fun x=>match x with|.int y=>btw a b y|_=>false).map id):=by
     refine(Z9 (ds:=[.int c,.int d]) rfl (show 2≤LIM by decide)).trans ?_;refine J7 (fun ρ=>∃c0,ρ=[c0,sC (.lst [.int a,.int b])]) (fun x=>match x with|.int y=>btw a b y|_=>false) id _ _ ⟨none,rfl⟩ ?_;rintro x hx ρ ⟨c0,rfl⟩
     have aE:∀y:Int,y9 (z4E x1E x1E (z8J (z0V (z8 1))) (z8 0) (y75 (z0V (z8 1)))) [sC (.int y),sC (.lst [.int a,.int b])]=some (btw a b y):=fun y=>u4 (y2R (x:=.int (Ip a b)) (y:=.int y) (z:=.int (Lu a b)) rfl rfl rfl (fun _=>rfl) fun _=>rfl)
     refine⟨_,rfl,⟨_,rfl⟩,?_,fun _=>rfl⟩;rcases Af.mp hx with rfl|hx
     ·exact aE c
     ·obtain rfl:=Ae.mp hx;exact aE d
    rw[Ho]at e4;generalize el:([.int c,.int d].filter fun x=>match x with|.int y=>btw a b y|_=>false:List D)=L at e4
    have eL:L=(if btw a b c=true then (if btw a b d=true then [.int c,.int d] else [.int c]) else (if btw a b d=true then [.int d] else [])):=by rw[←el,w7M]
    refine x6 (r:=.rt .non) (K8 (z39 e4)) ?_;have e5:∀k:Int,y9 (d2 dEq (z15 (dSq (z8 6))) (dC (.int k))) [sC W,sC R,sC (.int (i:Int)),sC (.int (j:Int)),sC (.lst [.int a,.int b]),sC (.lst [.int c,.int d]),sC (.lst L)]=some ((L.length:Int)==k):=fun k=>rfl
    have e6:y9 (z4E x1E x1E (z8J (z0V (z8 5))) (z8J (z0V (z8 4))) (y75 (z0V (z8 5)))) [sC W,sC R,sC (.int (i:Int)),sC (.int (j:Int)),sC (.lst [.int a,.int b]),sC (.lst [.int c,.int d]),sC (.lst L)]=some (decide (Ip c d<Ip a b)&&decide (Ip a b<Lu c d)):=u4 (y2R (x:=.int (Ip c d)) (y:=.int (Ip a b)) (z:=.int (Lu c d)) rfl rfl rfl (fun _=>rfl) fun _=>rfl)
    have k1:((L.length:Int)==1)=((btw a b c&&!btw a b d)||(!btw a b c&&btw a b d)):=by rw[eL];cases btw a b c<;>cases btw a b d<;>rfl
    have k2:((L.length:Int)==2)=(btw a b c&&btw a b d):=by rw[eL];cases btw a b c<;>cases btw a b d<;>rfl
    have ic:=e5 1;have e52:=e5 2;rw[k1]at ic;rw[k2]at e52
    cases h1:((btw a b c&&!btw a b d)||(!btw a b c&&btw a b d)) with
    |true=>
     rw[h1]at ic;rw[if_pos rfl];exact z1S (J9 ic)
    |false=>
     rw[h1]at ic;rw[if_neg B0];refine x6 (r:=.rt .non) (J9 ic) ?_;have e7:=z85 e52 (fun _=>e6)
     cases h2:((btw a b c&&btw a b d)||(decide (Ip c d<Ip a b)&&decide (Ip a b<Lu c d))) with
     |true=>rw[h2]at e7;rw[if_pos rfl];exact z1S (J9 e7)
     |false=>rw[h2]at e7;rw[if_neg B0];exact x6 (r:=.rt .non) (J9 e7) rfl
 rw[fin];rfl
theorem z2I{s t:Tie}(h:tlt s t)(h':tlt t s):False:=z2S s (y3O h h')
theorem y13:∀{xs ys:List Tie},xs.Pairwise tlt->ys.Pairwise tlt->(∀t,t∈xs↔t∈ys)->xs=ys
 | [],[],_,_,_=>rfl
 | [],y::ys,_,_,h=>absurd ((h y).mpr A6) (by simp)
 |x::xs,[],_,_,h=>absurd ((h x).mp A6) (by simp)
 |x::xs,y::ys,hx,hy,h=>by
  rw[Dc]at hx hy
  have e:x=y:=by
   rcases Af.mp ((h x).mp A6) with z|z
   ·exact z
   ·rcases Af.mp ((h y).mpr A6) with q|q
    ·exact q.symm
    ·exact absurd (hx.1 y q) fun w=>z2I w (hy.1 x z)
  subst e;congr 1;refine y13 hx.2 hy.2 fun t=>?_;constructor
  ·intro ht;rcases Af.mp ((h t).mp (A7 _ ht)) with z|z
   ·subst z;exact absurd (hx.1 _ ht) (z2S _)
   ·exact z
  ·intro ht;rcases Af.mp ((h t).mpr (A7 _ ht)) with z|z
   ·subst z;exact absurd (hy.1 _ ht) (z2S _)
   ·exact z
theorem y4C{α:Type}[DecidableEq α]:∀(xs ys:List α),xs.Nodup->(∀x∈xs,x∈ys)->xs.length≤ys.length
 | [],_,_,_=>Bf _
 |x::xs,ys,hn,h=>by
  rw[Bz]at hn;have hx:=h x A6;have ih:=y4C xs (ys.erase x) hn.2 fun y hy=>(Io (fun e:y=x=>hn.1 (e▸hy))).mpr (h y (A7 _ hy));rw[List.length_erase_of_mem hx]at ih
  have:0<ys.length:=List.length_pos_of_mem hx
  rw[Ay];omega
noncomputable def u0(m:Nat)(cl:Nat->Nat->Bool)(k:Nat):List Tie:=(A9 k).flatMap fun i=>(((A9 (m-(i+1))).map fun q=>i+1+q).filter (cl i)).map fun (j:Nat)=>((i:Int),(j:Int))
noncomputable def Z4(cl:Nat->Nat->Bool)(k:Nat):List Tie:=(A9 k).flatMap fun j=>((A9 j).filter fun i=>cl i j).map fun (i:Nat)=>((i:Int),(j:Int))
theorem Q6{m k:Nat}{cl:Nat->Nat->Bool}{t:Tie}:t∈u0 m cl k↔∃i j:Nat,t=((i:Int),(j:Int))/\i<k/\i<j/\j<m/\cl i j=true:=by
 unfold u0;rw[Kd];constructor
 ·rintro ⟨i,hi,h⟩;obtain⟨j,hj,rfl⟩:=Av.mp h;obtain⟨hj1,hj2⟩:=B2.mp hj;obtain⟨q,hq,rfl⟩:=Av.mp hj1
  have:=Aj.mp hi
  have:=Aj.mp hq
  exact⟨i,i+1+q,rfl,by omega,by omega,by omega,hj2⟩
 ·rintro ⟨i,j,rfl,h1,h2,h3,h4⟩;refine⟨i,Aj.mpr h1,Av.mpr ⟨j,B2.mpr ⟨Av.mpr ⟨j-(i+1),Aj.mpr (by omega),by omega⟩,h4⟩,rfl⟩⟩
theorem z2M{k:Nat}{cl:Nat->Nat->Bool}{t:Tie}:t∈Z4 cl k↔∃i j:Nat,t=((i:Int),(j:Int))/\i<j/\j<k/\cl i j=true:=by
 unfold Z4;rw[Kd];constructor
 ·rintro ⟨j,hj,h⟩;obtain⟨i,hi,rfl⟩:=Av.mp h;obtain⟨da,dg⟩:=B2.mp hi;exact⟨i,j,rfl,Aj.mp da,Aj.mp hj,dg⟩
 ·rintro ⟨i,j,rfl,h1,h2,h3⟩;exact⟨j,Aj.mpr h2,Av.mpr ⟨i,B2.mpr ⟨Aj.mpr h1,h3⟩,rfl⟩⟩
theorem z80(m k:Nat)(cl:Nat->Nat->Bool):(u0 m cl k).Pairwise tlt:=by
 unfold u0;rw[List.pairwise_flatMap];refine⟨fun i _=>?_,?_⟩
 ·rw[Bu];refine Lk.filter _ ?_;rw[Bu]
  exact En.imp fun {a b} h=>by unfold tlt;dsimp only;omega
 ·refine En.imp fun {a b} h x hx y hy=>?_;obtain⟨p,_,rfl⟩:=Av.mp hx;obtain⟨q,_,rfl⟩:=Av.mp hy;unfold tlt;dsimp only;omega
theorem z5J(k:Nat)(cl:Nat->Nat->Bool):(Z4 cl k).Nodup:=by
 unfold Z4 Ks;rw[List.pairwise_flatMap];refine⟨fun j _=>?_,?_⟩
 ·rw[Bu];refine Lk.filter _ ?_
  exact En.imp fun {a b} h z=>by have:=(Gk z).1;omega
 ·refine En.imp fun {a b} h x hx y hy z=>?_;obtain⟨p,_,rfl⟩:=Av.mp hx;obtain⟨q,_,rfl⟩:=Av.mp hy
  have:=(Gk z).2
  omega
theorem z8Q(m:Nat)(cl:Nat->Nat->Bool):z8B (Z4 cl m)=u0 m cl m:=by
 refine y13 (y8A _ (z5J m cl)) (z80 m m cl) fun t=>?_;rw[(z17 _).mem_iff,z2M,Q6];constructor
 ·rintro ⟨i,j,h1,h2,h3,h4⟩;exact⟨i,j,h1,by omega,h2,h3,h4⟩
 ·rintro ⟨i,j,h1,h2,h3,h4,h5⟩;exact⟨i,j,h1,h3,h4,h5⟩
noncomputable def k15:List Tie:=[(0,1),(0,2),(0,3),(0,4),(0,5),(1,2),(1,3),(1,4),(1,5),(2,3),(2,4),(2,5),(3,4),(3,5),(4,5)]
theorem x4X{t:Tie}(h:0≤t.1/\t.1<t.2/\t.2<6):t∈k15:=by
 obtain⟨a,b⟩:=t;dsimp only at h
 have ha:a=0∨a=1∨a=2∨a=3∨a=4:=by omega
 have hb:b=1∨b=2∨b=3∨b=4∨b=5:=by omega
 rcases ha with rfl|rfl|rfl|rfl|rfl<;>rcases hb with rfl|rfl|rfl|rfl|rfl<;>first|(exfalso;omega)|decide
noncomputable def dis(s t:Tie):Bool:=decide (tlt s t)&&!((decide (s.1=t.1)||decide (s.1=t.2))||(decide (s.2=t.1)||decide (s.2=t.2)))
def k45:List (Tie×Tie):=k15.flatMap fun s=>(k15.filter (dis s)).map fun t=>(s,t)
theorem w2M:k45.length=45:=by decide +kernel
noncomputable def w3G:List (Bb×Bb):=[("pile","cross"),("queue","within")]
theorem y1S{k w:Bb}(hk:w3G.lookup k=some w)(s t:Tie):Q2 [v9 s,v9 t,.str k]=some (.bl (lie s t==w)):=by
 have e:z1R [sC (v9 s),sC (v9 t),sC (.str k)]=some (.rt (.bl (lie s t==w))):=by refine z02 ((z2N (x:=.str (lie s t)) (y:=.str w) ((w8 (ds:=[v9 s,v9 t]) rfl).trans (x92 s t)) ?_).trans rfl);show (match w3G.lookup k with|some y=>some (D.str y)|none=>none)=_;rw[hk]
 show z2F (z1R [sC (v9 s),sC (v9 t),sC (.str k)])=_;rw[e];rfl
def Y9(r:List Int)(ts:List Tie)(i:Nat):Tie:=z0B r (ts.getD i (0,0))
def clP(r:List Int)(ts:List Tie)(w:Bb)(i j:Nat):Bool:=lie (Y9 r ts i) (Y9 r ts j)==w
theorem z5V{r:List Int}{ts:List Tie}{i:Nat}{s:Tie}(h:ts[i]?=some s):Y9 r ts i=z0B r s:=by unfold Y9;rw[Bh,h];rfl
theorem z5E{r:List Int}{ts:List Tie}{j:Nat}(h:j<ts.length):atI (ts.map fun t=>v9 (z0B r t)) (j:Int)=some (v9 (Y9 r ts j)):=by unfold atI;rw[A0,z7H h];show (ts.map fun t=>v9 (z0B r t))[j]?=_;rw[Au,A3 h,z5V (A3 h)];rfl
theorem y9D{r:List Int}{p q:Int}(hp:p∈r)(hq:q∈r)(h:p≠q):ixI r p≠ixI r q:=fun e=>by
 have e':r.idxOf p=r.idxOf q:=by unfold ixI at e;omega
 have l1:r.idxOf p<r.length:=Cg hp;have l2:r.idxOf q<r.length:=Cg hq
 have g1:r[r.idxOf p]?=some p:=by rw[A3 l1,Hi]
 have g2:r[r.idxOf q]?=some q:=by rw[A3 l2,Hi]
 rw[e',g2]at g1;exact h (Bc g1).symm
theorem y96{r:List Int}{p:Int}(hr:r.length≤6)(h:p∈r):0≤ixI r p/\ixI r p<6:=by
 unfold ixI
 have:=Cg h
 omega
theorem x4P{r:List Int}{s t:Tie}(hr:r.length≤6)(hs:s.1∈r/\s.2∈r)(ht:t.1∈r/\t.2∈r)(h1:s.1≠s.2)(h2:t.1≠t.2):z9P (ixI r s.1) (ixI r s.2) (ixI r t.1) (ixI r t.2)=lie (z0B r s) (z0B r t):=(w2H (y9D hs.1 hs.2 h1) (y9D ht.1 ht.2 h2) (y96 hr hs.1) (y96 hr hs.2) (y96 hr ht.1) (y96 hr ht.2)).symm
def KW(k w:Bb):Prop:=(k = "pile"/\w = "cross")∨(k = "queue"/\w = "within")
theorem KW.tab{k w:Bb}(h:KW k w):w3G.lookup k=some w:=by rcases h with⟨rfl,rfl⟩|⟨rfl,rfl⟩<;>decide +kernel
theorem KW.meet{k w:Bb}(h:KW k w):(("meet":Bb)==w)=false:=by rcases h with⟨rfl,rfl⟩|⟨rfl,rfl⟩<;>decide +kernel
theorem z6Q(cl:Nat->Nat->Bool)(k:Nat):Z4 cl (k+1)=Z4 cl k++((A9 k).filter fun i=>cl i k).map fun (i:Nat)=>((i:Int),(k:Int)):=by unfold Z4;rw[Kw,List.flatMap_append,List.flatMap_singleton]
theorem z1L(cl:Nat->Nat->Bool):∀k,k≤12->(Z4 cl k).length≤k*12
 | 0,_=>by unfold Z4;simp
 |k+1,h=>by
  have ih:=z1L cl k (by omega);rw[z6Q,Ad,A0]
  have:=D7 (fun i=>cl i k) (A9 k)
  rw[As]at this;omega
theorem few{ts:List Tie}{r:List Int}{k w:Bb}(hr:r.length≤6)(aG:∀t∈ts,t.1∈r/\t.2∈r)(iQ:KW k w)(hU:ts.Pairwise tlt)(hok:∀t∈ts,0≤t.1/\t.1<t.2/\t.2<6):(Z4 (clP r ts w) ts.length).length≤45:=by
 let f:Tie->Tie×Tie:=fun p=>(ts.getD p.1.toNat (0,0),ts.getD p.2.toNat (0,0))
 have dJ:∀{i:Nat} (h:i<ts.length),ts.getD i (0,0)=ts[i]:=fun {i} h=>by rw[Bh,A3 h];rfl
 have al:∀{i j:Nat} (hj:j<ts.length) (h:i<j),tlt (ts[i]'(by omega)) ts[j]:=fun {i j} hj h=>Ev.mp hU i j (by omega) hj h
 have inj:∀{i j:Nat} (hi:i<ts.length) (hj:j<ts.length),ts[i]=ts[j]->i=j:=fun {i j} hi hj e=>by
  rcases I0 i j with h|h|h
  ·have:=al hj h;rw[e]at this;exact absurd this (z2S _)
  ·exact h
  ·have:=al hi h;rw[e]at this;exact absurd this (z2S _)
 have hn:((Z4 (clP r ts w) ts.length).map f).Nodup:=by rw[Ks,Bu];refine(z5J ts.length (clP r ts w)).imp_of_mem fun {p q} hp hq ag e=>ag ?_;obtain⟨i,j,rfl,h1,h2,_⟩:=z2M.mp hp;obtain⟨i',j',rfl,iR,cO,_⟩:=z2M.mp hq;have e1:ts.getD i (0,0)=ts.getD i' (0,0):=(Gk e).1;have e2:ts.getD j (0,0)=ts.getD j' (0,0):=(Gk e).2;rw[dJ (by omega),dJ (by omega)]at e1;rw[dJ h2,dJ cO]at e2;rw[inj _ _ e1,inj _ _ e2]
 have hm:∀x∈(Z4 (clP r ts w) ts.length).map f,x∈k45:=fun x hx=>by
  obtain⟨p,hp,rfl⟩:=Av.mp hx;obtain⟨i,j,rfl,h1,h2,hc⟩:=z2M.mp hp;show (ts.getD i (0,0),ts.getD j (0,0))∈k45;have hs:=hok _ (Bw (show i<ts.length by omega));have ht:=hok _ (Bw h2)
  have hd:dis (ts.getD i (0,0)) (ts.getD j (0,0))=true:=by
   unfold dis;rw[dJ (by omega),dJ h2,decide_eq_true (al h2 h1),Lm]
   cases hh:((decide ((ts[i]'(by omega)).1=ts[j].1)||decide ((ts[i]'(by omega)).1=ts[j].2))||(decide ((ts[i]'(by omega)).2=ts[j].1)||decide ((ts[i]'(by omega)).2=ts[j].2))) with
   |false=>rfl
   |true=>
    exfalso;simp only[E2,decide_eq_true_eq]at hh;unfold clP at hc;rw[z5V (A3 (show i<ts.length by omega)),z5V (A3 h2)]at hc
    have iz:lie (z0B r (ts[i]'(by omega))) (z0B r ts[j]) = "meet":=by
     rw[←x4P hr (aG _ (Bw _)) (aG _ (Bw _)) (fun z=>by omega) (fun z=>by omega)];unfold z9P;rw[if_pos];rcases hh with (z|z)|(z|z)
     ·exact .inl (by rw[z])
     ·exact .inr (.inl (by rw[z]))
     ·exact .inr (.inr (.inl (by rw[z])))
     ·exact .inr (.inr (.inr (by rw[z])))
    rw[iz,iQ.meet]at hc;cases hc
  unfold k45;rw[Kd];refine⟨_,x4X (by rw[dJ (by omega)];exact hs),Av.mpr ⟨_,B2.mpr ⟨x4X (by rw[dJ h2];exact ht),hd⟩,rfl⟩⟩
 have:=y4C _ _ hn hm
 rw[A0,w2M]at this;exact this
def w03:EO:=x6R 4 (Q3 [none,some 5,some 0,some 1,some 3] (z0I (z8 5)) (w9 0) (y9 (d2 dEq (x5 z50 (z7 (z8 2) (z7 (z8 3) (z7 (z8 0) (z7 (z8 1) (u3)))))) (z8 4))) (z2O (z7 (z8 0) (z7 (z8 1) (u3)))))
theorem x4M{n:Int}{ts:List Tie}{r:List Int}{k w:Bb}{j:Nat}{found:List Tie}(hr:r.length≤6)(hj:j<ts.length)(hm:ts.length≤12)(hf:found.length≤1000)(aG:∀t∈ts,t.1∈r/\t.2∈r)(ag:∀t∈ts,t.1≠t.2):
  w03 [sC (W7 n ts),sC (.tup (r.map D.int)),sC (.str k),sC (.str w),some (.ow (found.map v9)),sC (.int (j:Int))] =
   some (.nx [sC (W7 n ts),sC (.tup (r.map D.int)),sC (.str k),sC (.str w),some (.ow ((found++((A9 j).filter fun i=>clP r ts w i j).map fun (i:Nat)=>((i:Int),(j:Int))).map v9)),sC (.int (j:Int))]):=by
 have e1:Q3 [none,some 5,some 0,some 1,some 3] (z0I (z8 5)) (w9 0) (y9 (d2 dEq (x5 z50 (z7 (z8 2) (z7 (z8 3) (z7 (z8 0) (z7 (z8 1) (u3)))))) (z8 4))) (z2O (z7 (z8 0) (z7 (z8 1) (u3))))
   [sC (W7 n ts),sC (.tup (r.map D.int)),sC (.str k),sC (.str w),some (.ow (found.map v9)),sC (.int (j:Int))]=some ((((A9 j).filter fun i=>clP r ts w i j).map fun (i:Nat)=>((i:Int),(j:Int))).map v9):=by
  have e0:z0I (z8 5) [sC (W7 n ts),sC (.tup (r.map D.int)),sC (.str k),sC (.str w),some (.ow (found.map v9)),sC (.int (j:Int))]=some ((A9 j).map fun (i:Nat)=>D.int (i:Int)):=by
   rw[z62 (j:=(j:Int)) rfl (by unfold okR;rw[decide_eq_true (by omega),decide_eq_true (by omega)];rfl),Ao]
   unfold K5;congr 1;refine B7 fun q _=>?_;rw[Iy]
  refine(Z9 e0 (by rw[A0,As];unfold LIM;omega)).trans ?_
  refine(J7 (fun ρ=>∃c0,ρ=[c0,sC (.int (j:Int)),sC (W7 n ts),sC (.tup (r.map D.int)),sC (.str w)]) (fun d=>match d with|.int i=>clP r ts w i.toNat j|_=>false) (fun d=>.tup [d,.int (j:Int)]) _ _ ⟨none,rfl⟩ ?_).trans ?_
  ·rintro d hd ρ ⟨c0,rfl⟩;obtain⟨i,hi,rfl⟩:=Av.mp hd
   have aO:i<ts.length:=by have:=Aj.mp hi;omega
   refine⟨_,rfl,⟨_,rfl⟩,u4 ?_,fun _=>z5K (ds:=[.int (i:Int),.int (j:Int)]) rfl (show 2≤LIM by decide)⟩;have gi:=A3 aO;have gj:=A3 hj;have mi:=Bw aO;have mj:=Bw hj;have hF:=x0V (n:=n) (r:=r) gi gj (aG _ mi) (aG _ mj);rw[x4P hr (aG _ mi) (aG _ mj) (ag _ mi) (ag _ mj),←z5V (r:=r) gi,←z5V (r:=r) gj]at hF;refine(z2N (x:=.str (lie (Y9 r ts i) (Y9 r ts j))) (y:=.str w) ((w8 (ds:=[W7 n ts,.tup (r.map D.int),.int (i:Int),.int (j:Int)]) rfl).trans hF) rfl).trans ?_
   show some (D.bl (clP r ts w i j))=some (D.bl (clP r ts w (i:Int).toNat j));rw[Ao]
  ·rw[Hd,B6,B6];rfl
 refine(x5J (ds:=found.map v9) rfl e1 ?_).trans ?_
 ·rw[A0,A0,A0]
  have:=D7 (fun i=>clP r ts w i j) (A9 j)
  rw[As]at this;unfold LIM;omega
 ·rw[Ba];rfl
theorem z8N{n:Int}{ts:List Tie}{r:List Int}{k w:Bb}(hr:r.length≤6)(iQ:KW k w)(hm:ts.length≤12)(hU:ts.Pairwise tlt)(hok:∀t∈ts,0≤t.1/\t.1<t.2/\t.2<6)(aG:∀t∈ts,t.1∈r/\t.2∈r):
  z1Y [W7 n ts,.tup (r.map D.int),.str k]=some (.lst ((u0 ts.length (clP r ts w) ts.length).map v9)):=by
 have ag:∀t∈ts,t.1≠t.2:=fun t ht=>by have:=hok t ht;omega
 obtain⟨ρ',l1,c5,rfl⟩:=z55 (h:=w9 5) (g:=w03) (fun pre ρ=>∃c5,ρ=[sC (W7 n ts),sC (.tup (r.map D.int)),sC (.str k),sC (.str w),some (.ow ((Z4 (clP r ts w) pre.length).map v9)),c5])
  (ds:=K5 0 ts.length) (ρ:=[sC (W7 n ts),sC (.tup (r.map D.int)),sC (.str k),sC (.str w),some (.ow []),none]) ⟨none,rfl⟩ (fun pre d post ρ he hI=>by
   obtain⟨c5,rfl⟩:=hI;have ab:=congrArg Fq he;rw[z0P,Ad,Ay]at ab
   have hd:d = .int (pre.length:Int):=by
    have h1:(K5 0 ts.length)[pre.length]?=some d:=by rw[←he];simp
    rw[y02 (by omega)]at h1;exact(Bc h1).symm
   subst hd;refine⟨_,_,rfl,.inl (x4M (found:=Z4 (clP r ts w) pre.length) hr (by omega) hm ?_ aG ag),⟨sC (.int (pre.length:Int)),?_⟩⟩
   ·have:=z1L (clP r ts w) pre.length (by omega)
    omega
   ·rw[Ad,Az,z6Q])
 rw[z0P]at l1
 have e3:dIx (y09 (z7 (dC (.str "cross")) (z7 (dC (.str "within")) (u3)))) (x5 x6Q (z7 (d2 dEq (z8 2) (dC (.str "queue"))) u3)) [sC (W7 n ts),sC (.tup (r.map D.int)),sC (.str k),none,none,none]=some (.str w):=by
  refine(z2G (ds:=[.str "cross",.str "within"]) (j:=if k=="queue" then 1 else 0) (z5L rfl (show 2≤LIM by decide)) ?_).trans ?_
  ·refine(w8 (ds:=[.bl (k=="queue")]) rfl).trans ?_;rcases iQ with⟨rfl,rfl⟩|⟨rfl,rfl⟩
   ·rw[show (("pile":Bb)=="queue")=false by decide +kernel];rfl
   ·rw[show (("queue":Bb)=="queue")=true by decide +kernel];rfl
  ·rcases iQ with⟨rfl,rfl⟩|⟨rfl,rfl⟩
   ·rw[show (("pile":Bb)=="queue")=false by decide +kernel];rfl
   ·rw[show (("queue":Bb)=="queue")=true by decide +kernel];rfl
 have fin:z3U [sC (W7 n ts),sC (.tup (r.map D.int)),sC (.str k),none,none,none]=some (.rt (.lst ((u0 ts.length (clP r ts w) ts.length).map v9))):=by
  refine x6 (r:=.rt .non) (K8 e3) ?_;refine x6 (r:=.rt .non) (z4X (ds:=[]) (z5L (ds:=[]) rfl (by decide))) ?_;refine x6 (r:=.rt .non) ((z10 (ds:=K5 0 ts.length) ?_).trans l1) ?_
  ·have e4:=z62 (fa:=z15 (dSq (dIx (dSq (z8 0)) (dC (.int 1))))) (ρ:=[sC (W7 n ts),sC (.tup (r.map D.int)),sC (.str k),sC (.str w),some (.ow []),none]) (j:=((ts.map v9).length:Int)) rfl (by rw[A0];unfold okR;rw[decide_eq_true (by omega),decide_eq_true (by omega)];rfl)
   rw[A0,Ao]at e4;exact e4
  ·refine z02 (z39 ((w2Z (ds:=(Z4 (clP r ts w) ts.length).map v9) rfl).trans ?_));rw[y17 (by have:=few (r:=r) hr aG iQ hU hok;omega),z8Q]
 show z2F (z3U [sC (W7 n ts),sC (.tup (r.map D.int)),sC (.str k),none,none,none])=_;rw[fin];rfl
end P
namespace P
section
variable{cl:Nat->Nat->Bool}
def PW(cl:Nat->Nat->Bool)(e:List Nat):Prop:=e.Pairwise fun i j=>cl i j=true
instance (cl:Nat->Nat->Bool) (e:List Nat):Decidable (PW cl e):=by unfold PW;exact inferInstance
structure Chs(cl:Nat->Nat->Bool)(done:List Nat)(cs:List (List Nat)):Prop where
 ok:∀c∈cs,PW cl c/\c.Sublist done/\c≠[]
 top:∀e:List Nat,e.Sublist done->PW cl e->∀t:Nat,e.getLast?=some t->∃c∈cs,c.getLast?=some t/\e.length≤c.length
theorem Chs.zero:Chs cl [] []:=⟨(fun c h=>by cases h),(fun e h _ t ht=>by rw[Ke.mp h]at ht;cases ht)⟩
theorem w10{e:List Nat}{t:Nat}(h:e.Sublist [t]):e=[]∨e=[t]:=by
 cases h with
 |cons _ h=>exact .inl (Ke.mp h)
 |cons_cons _ h=>exact .inr (by rw[Ke.mp h])
theorem Chs.step{done:List Nat}{cs:List (List Nat)}{t:Nat}{b:List Nat}(h:Chs cl done cs)(tr:∀x y,[x,y].Sublist done->cl x y=true->cl y t=true->cl x t=true)(hb:b=[]∨(b∈cs/\∃u,b.getLast?=some u/\cl u t=true))(hm:∀c∈cs,(∃u,c.getLast?=some u/\cl u t=true)->c.length≤b.length):Chs cl (done++[t]) (cs++[b++[t]]):=by
 have bok:PW cl (b++[t])/\(b++[t]).Sublist (done++[t]):=by
  rcases hb with rfl|⟨hbc,u,hu,hut⟩
  ·exact⟨Da _ _,Gy (List.nil_sublist _) (Jq _)⟩
  ·obtain⟨p1,p2,_⟩:=h.ok b hbc;refine⟨Cq.mpr ⟨p1,Da _ _,fun x hx y hy=>?_⟩,Gy p2 (Jq _)⟩;rw[Ae.mp hy];obtain⟨ys,rfl⟩:=Gu.mp hu;rcases Aw.mp hx with z|z
   ·refine tr x u (List.Sublist.trans ?_ p2) ((Cq.mp p1).2.2 x z u (Ae.mpr rfl)) hut;exact Gy (List.singleton_sublist.mpr z) (Jq [u])
   ·rw[Ae.mp z];exact hut
 refine⟨fun c hc=>?_,fun e he pe s hs=>?_⟩
 ·rcases Aw.mp hc with z|z
  ·obtain⟨p1,p2,p3⟩:=h.ok c z;exact⟨p1,p2.trans (List.sublist_append_left _ _),p3⟩
  ·rw[Ae.mp z];exact⟨bok.1,bok.2,by simp⟩
 ·obtain⟨e1,e2,rfl,s1,s2⟩:=List.sublist_append_iff.mp he;rcases w10 s2 with rfl|rfl
  ·rw[Ch]at hs pe ⊢;obtain⟨c,hc,q1,q2⟩:=h.top e1 s1 pe s hs;exact⟨c,B9 _ hc,q1,q2⟩
  ·rw[List.getLast?_append]at hs
   have bX:s=t:=by simpa using hs.symm
   subst bX;refine⟨b++[s],Ab _ (Ae.mpr rfl),by simp,?_⟩;rw[Ad,Ad];refine Nat.add_le_add_right ?_ _
   cases hl:e1.getLast? with
   |none=>rw[Gv.mp hl];exact Bf _
   |some u=>obtain⟨c,hc,q1,q2⟩:=h.top e1 s1 (Cq.mp pe).1 u hl;have mu:u∈e1:=List.mem_of_getLast? hl;exact Bk q2 (hm c hc ⟨u,q1,(Cq.mp pe).2.2 u mu s (Ae.mpr rfl)⟩)
def w3O(cs:List (List Nat))(b:List Nat):Prop:=(cs=[]/\b=[])∨(b∈cs/\∀c∈cs,c.length≤b.length)
theorem Chs.best{L:List Nat}{cs:List (List Nat)}{b:List Nat}(h:Chs cl L cs)(hb:w3O cs b):PW cl b/\b.Sublist L/\∀e:List Nat,e.Sublist L->PW cl e->e.length≤b.length:=by
 have top:∀e:List Nat,e.Sublist L->PW cl e->e=[]∨∃c∈cs,e.length≤c.length:=fun e he pe=>by
  cases hl:e.getLast? with
  |none=>exact .inl (Gv.mp hl)
  |some u=>obtain⟨c,hc,_,q⟩:=h.top e he pe u hl;exact .inr ⟨c,hc,q⟩
 rcases hb with⟨rfl,rfl⟩|⟨hb,hm⟩
 ·refine⟨Eh,List.nil_sublist _,fun e he pe=>?_⟩;rcases top e he pe with rfl|⟨c,hc,_⟩
  ·exact Ak _
  ·cases hc
 ·obtain⟨p1,p2,_⟩:=h.ok b hb;refine⟨p1,p2,fun e he pe=>?_⟩;rcases top e he pe with rfl|⟨c,hc,q⟩
  ·exact Bf _
  ·exact Bk q (hm c hc)
theorem w3O.step{cs:List (List Nat)}{b:List Nat}{t:Nat}{p:List Nat->Bool}(hp:∀c∈cs,c≠[])(hb:w3O (cs.filter p) b)(hpe:∀c∈cs,p c=true↔∃u,c.getLast?=some u/\cl u t=true):
  (b=[]∨(b∈cs/\∃u,b.getLast?=some u/\cl u t=true))/\(∀c∈cs,(∃u,c.getLast?=some u/\cl u t=true)->c.length≤b.length):=by
 rcases hb with⟨h1,rfl⟩|⟨h1,h2⟩
 ·refine⟨.inl rfl,fun c hc hu=>?_⟩
  have:c∈cs.filter p:=B2.mpr ⟨hc,(hpe c hc).mpr hu⟩
  rw[h1]at this;cases this
 ·obtain⟨m1,m2⟩:=B2.mp h1;exact⟨.inr ⟨m1,(hpe b m1).mp m2⟩,fun c hc hu=>h2 c (B2.mpr ⟨hc,(hpe c hc).mpr hu⟩)⟩
theorem y8I(hs:∀i j,cl i j=cl j i):∀{S:List Nat},PW cl S->∀{x y},x∈S->y∈S->x≠y->cl x y=true
 | [],_,_,_,h,_,_=>by cases h
 |a::S,hp,x,y,hx,hy,ag=>by
  have iL:=Dc.mp hp;rcases Af.mp hx with rfl|hx
  ·rcases Af.mp hy with rfl|hy
   ·exact absurd rfl ag
   ·exact iL.1 y hy
  ·rcases Af.mp hy with z|hy
   ·rw[hs,z];exact iL.1 x hx
   ·exact y8I hs iL.2 hx hy ag
theorem w4N{S:List Nat}(hn:S.Nodup)(h:∀x∈S,∀y∈S,x≠y->cl x y=true):PW cl S:=Fd (fun {a b} ha hb cN=>h a ha b hb cN) hn
theorem w1J(hs:∀i j,cl i j=cl j i){S T:List Nat}(hn:S.Nodup)(hp:S.Perm T)(h:PW cl S):PW cl T:=w4N (hp.nodup_iff.mp hn) fun x hx y hy ag=>y8I hs h (hp.mem_iff.mpr hx) (hp.mem_iff.mpr hy) ag
theorem z6N{α:Type}[DecidableEq α]:∀(xs ys:List α),xs.Nodup->(∀x∈xs,x∈ys)->xs.length≤ys.length
 | [],_,_,_=>Bf _
 |x::xs,ys,hn,hs=>by
  have bj:=Bz.mp hn;have hx:x∈ys:=hs x A6
  have:=z6N xs (ys.erase x) bj.2 fun y hy=>(Io (a:=y) (b:=x) (fun z=>bj.1 (by rw[←z];exact hy))).mpr (hs y (A7 _ hy))
  rw[List.length_erase_of_mem hx]at this;have hpos:0<ys.length:=List.length_pos_of_mem hx;rw[Ay];omega
theorem w65(hs:∀i j,cl i j=cl j i){L S:List Nat}(hL:L.Nodup)(hS:S.Nodup)(iK:∀x∈S,x∈L)(hp:PW cl S):∃e:List Nat,e.Sublist L/\PW cl e/\S.length≤e.length:=by
 refine⟨L.filter fun x=>decide (x∈S),Fg,?_,z6N S _ hS fun x hx=>B2.mpr ⟨iK x hx,decide_eq_true hx⟩⟩;refine w4N (hL.sublist Fg) fun x hx y hy ag=>y8I hs hp ?_ ?_ ag
 ·exact of_decide_eq_true (B2.mp hx).2
 ·exact of_decide_eq_true (B2.mp hy).2
structure Grt(m:Nat)(cl:Nat->Nat->Bool)(aZ:Nat->List Nat)(k:Nat)(f:List Nat):Prop where
 pw:PW cl f
 nd:f.Nodup
 lt:∀x∈f,x<m
 top:∀g,g<k->∀e:List Nat,e.Sublist (aZ g)->PW cl e->e.length≤f.length
theorem Grt.zero{m:Nat}{aZ:Nat->List Nat}:Grt m cl aZ 0 []:=⟨Eh,Eh,(fun x h=>by cases h),(fun g h=>absurd h (F1 _))⟩
theorem Grt.step{m k:Nat}{aZ:Nat->List Nat}{f b:List Nat}(h:Grt m cl aZ k f)(ho:(aZ k).Nodup)(hl:∀x∈aZ k,x<m)(hb:PW cl b/\b.Sublist (aZ k)/\∀e:List Nat,e.Sublist (aZ k)->PW cl e->e.length≤b.length):
  Grt m cl aZ (k+1) (if f.length<b.length then b else f):=by
 obtain⟨b1,b2,b3⟩:=hb;by_cases hc:f.length<b.length
 ·rw[if_pos hc];refine⟨b1,ho.sublist b2,fun x hx=>hl x (b2.subset hx),fun g hg e he pe=>?_⟩;rcases Fe.mp hg with z|rfl
  ·exact Bk (h.top g z e he pe) (D8 hc)
  ·exact b3 e he pe
 ·rw[if_neg hc];refine⟨h.pw,h.nd,h.lt,fun g hg e he pe=>?_⟩;rcases Fe.mp hg with z|rfl
  ·exact h.top g z e he pe
  ·exact Bk (b3 e he pe) (Nat.le_of_not_lt hc)
theorem Grt.all{m k:Nat}{aZ:Nat->List Nat}{f:List Nat}(h:Grt m cl aZ k f)(hs:∀i j,cl i j=cl j i)(ho:∀g,g<k->(aZ g).Nodup)(helly:∀S:List Nat,S≠[]->S.Nodup->(∀x∈S,x<m)->PW cl S->∃g,g<k/\∀x∈S,x∈aZ g){S:List Nat}(hn:S.Nodup)(hl:∀x∈S,x<m)(hp:PW cl S):S.length≤f.length:=by
 by_cases hS:S=[]
 ·rw[hS];exact Bf _
 ·obtain⟨g,hg,iK⟩:=helly S hS hn hl hp;obtain⟨e,e1,e2,e3⟩:=w65 hs (ho g hg) hn iK hp;exact Bk e3 (h.top g hg e e1 e2)
structure IsMost(cl:Nat->Nat->Bool)(az left:List Nat)(R:Nat):Prop where
 has:∃e:List Nat,e.Sublist left/\PW cl (az++e)/\R=az.length+e.length
 top:∀e:List Nat,e.Sublist left->PW cl (az++e)->az.length+e.length≤R
structure MostTo(cl:Nat->Nat->Bool)(az pre post:List Nat)(R:Nat):Prop where
 has:∃e:List Nat,e.Sublist (pre++post)/\PW cl (az++e)/\R=az.length+e.length
 le:az.length≤R
 top:∀(p:List Nat) (t:Nat) (q:List Nat),p++t::q=pre->∀e:List Nat,e.Sublist (q++post)->PW cl (az++t::e)->az.length+(e.length+1)≤R
theorem MostTo.all{az left:List Nat}{R:Nat}(h:MostTo cl az left [] R):IsMost cl az left R:=by
 refine⟨by have:=h.has;rw[Ch]at this;exact this,fun e he pe=>?_⟩
 cases e with
 |nil=>exact h.le
 |cons t e=>
  obtain⟨r1,r2,er,ht,hs⟩:=List.cons_sublist_iff.mp he;obtain⟨p,q,rfl⟩:=List.append_of_mem ht;refine h.top p t (q++r2) (by rw[er];simp) e ?_ pe
  rw[Ch];exact hs.trans (List.sublist_append_right _ _)
end
end P
namespace P
open PySem L2 L3
theorem y8Z(s t:Tie):lie s t=lie t s:=by
 unfold lie;by_cases h:s.1=t.1∨s.1=t.2∨s.2=t.1∨s.2=t.2
 ·rw[if_pos h,if_pos (by omega)]
 ·have h':¬(t.1=s.1∨t.1=s.2∨t.2=s.1∨t.2=s.2):=by omega
  rw[if_neg h,if_neg h'];rcases z23 s t with z|z|z
  ·have z':¬tlt t s:=fun q=>z2I z q;rw[if_neg z',if_pos z,if_pos z,if_neg z']
  ·subst z;exact absurd (.inl rfl) h
  ·have z':¬tlt s t:=fun q=>z2I z q;rw[if_pos z,if_neg z',if_neg z',if_pos z]
theorem x9Y{s t:Tie}(h:tlt s t):lie s t=(if s.1=t.1∨s.1=t.2∨s.2=t.1∨s.2=t.2 then ("meet":Bb) else if s.2<t.1 then ("apart":Bb) else if s.2<t.2 then ("cross":Bb) else ("within":Bb):Bb):=by unfold lie;rw[if_neg (fun q=>z2I h q),if_pos h]
theorem x97{s t:Tie}(h:tlt s t):s.1≤t.1:=by unfold tlt at h;omega
theorem z4R{s t:Tie}(h:tlt s t)(hs:s.1<s.2)(ht:t.1<t.2):lie s t = "cross"↔(s.1<t.1/\t.1<s.2/\s.2<t.2):=by
 have hl:=x97 h;rw[x9Y h];by_cases h1:s.1=t.1∨s.1=t.2∨s.2=t.1∨s.2=t.2
 ·rw[if_pos h1];exact⟨fun e=>absurd e (by decide),fun e=>by omega⟩
 ·rw[if_neg h1];by_cases h2:s.2<t.1
  ·rw[if_pos h2];exact⟨fun e=>absurd e (by decide),fun e=>by omega⟩
  ·rw[if_neg h2];by_cases h3:s.2<t.2
   ·rw[if_pos h3];exact⟨fun _=>by omega,fun _=>rfl⟩
   ·rw[if_neg h3];exact⟨fun e=>absurd e (by decide),fun e=>by omega⟩
theorem z18{s t:Tie}(h:tlt s t)(hs:s.1<s.2)(ht:t.1<t.2):lie s t = "within"↔(s.1<t.1/\t.2<s.2):=by
 have hl:=x97 h;rw[x9Y h];by_cases h1:s.1=t.1∨s.1=t.2∨s.2=t.1∨s.2=t.2
 ·rw[if_pos h1];exact⟨fun e=>absurd e (by decide),fun e=>by omega⟩
 ·rw[if_neg h1];by_cases h2:s.2<t.1
  ·rw[if_pos h2];exact⟨fun e=>absurd e (by decide),fun e=>by omega⟩
  ·rw[if_neg h2];by_cases h3:s.2<t.2
   ·rw[if_pos h3];exact⟨fun e=>absurd e (by decide),fun e=>by omega⟩
   ·rw[if_neg h3];exact⟨fun _=>by omega,fun _=>rfl⟩
theorem w5M{k w:Bb}(hk:KW k w){s t u:Tie}(h1:tlt s t)(h2:tlt t u)(hs:s.1<s.2)(ht:t.1<t.2)(hu:u.1<u.2)(hg:u.1<s.2)(a:lie s t=w)(b:lie t u=w):lie s u=w:=by
 have h3:=y3O h1 h2;rcases hk with⟨_,rfl⟩|⟨_,rfl⟩
 ·have a':=(z4R h1 hs ht).mp a;have b':=(z4R h2 ht hu).mp b;exact(z4R h3 hs hu).mpr (by omega)
 ·have a':=(z18 h1 hs ht).mp a;have b':=(z18 h2 ht hu).mp b;exact(z18 h3 hs hu).mpr (by omega)
theorem x85{k w:Bb}(hk:KW k w){s t:Tie}(hs:s.1<s.2)(ht:t.1<t.2)(a:lie s t=w):s.1<t.2/\t.1<s.2:=by
 rcases z23 s t with z|z|z
 ·rcases hk with⟨_,rfl⟩|⟨_,rfl⟩
  ·have:=(z4R z hs ht).mp a;omega
  ·have:=(z18 z hs ht).mp a;omega
 ·subst z;exact⟨hs,ht⟩
 ·rw[y8Z]at a;rcases hk with⟨_,rfl⟩|⟨_,rfl⟩
  ·have:=(z4R z ht hs).mp a;omega
  ·have:=(z18 z ht hs).mp a;omega
structure Lay(n:Int)(ts:List Tie)(r:List Int):Prop where
 up:ts.Pairwise tlt
 ok:∀t∈ts,0≤t.1/\t.1<t.2/\t.2<n
 nd:r.Nodup
 len:(r.length:Int)=n
 mem:∀t∈ts,t.1∈r/\t.2∈r
 n6:n≤6
 m12:ts.length≤12
section
variable{n:Int}{ts:List Tie}{r:List Int}{k w:Bb}
theorem Lay.rl(h:Lay n ts r):r.length≤1000:=by have:=h.len;have:=h.n6;omega
theorem Lay.hm'(h:Lay n ts r):ts.length≤1000:=by have:=h.m12;omega
theorem w5X(r:List Int)(p:Int):0≤ixI r p:=by unfold ixI;omega
theorem w5Y{r:List Int}{p:Int}(h:p∈r):ixI r p<(r.length:Int):=by
 unfold ixI
 have:=Cg h
 omega
theorem Lay.sp(h:Lay n ts r){i:Nat}(hi:i<ts.length):∃t∈ts,ts[i]?=some t/\Y9 r ts i=z0B r t:=
 ⟨ts[i],Bw hi,A3 hi,z5V (A3 hi)⟩
theorem Lay.sp_ok(h:Lay n ts r){i:Nat}(hi:i<ts.length):0≤(Y9 r ts i).1/\(Y9 r ts i).1<(Y9 r ts i).2/\(Y9 r ts i).2<n:=by
 obtain⟨t,ht,_,e⟩:=h.sp hi;rw[e];unfold z0B;dsimp only;have hm:=h.mem t ht;have ag:=y9D hm.1 hm.2 (by have:=h.ok t ht;omega)
 have a1:=w5X r t.1;have a2:=w5X r t.2;have b1:=w5Y hm.1;have b2:=w5Y hm.2
 have:=h.len
 omega
theorem y97{r:List Int}{p q:Int}(hp:p∈r)(hq:q∈r)(e:ixI r p=ixI r q):p=q:=by
 by_cases h:p=q
 ·exact h
 ·exact absurd e (y9D hp hq h)
theorem w7D{a b c d:Int}(h1:Ip a b=Ip c d)(h2:Lu a b=Lu c d):(a=c/\b=d)∨(a=d/\b=c):=by
 rcases Kn a b with x|x<;>rcases Kn c d with y|y
 ·rw[G5 x,G5 y]at h1;rw[Fm x,Fm y]at h2;exact .inl ⟨h1,h2⟩
 ·rw[G5 x,Fl y]at h1;rw[Fm x,G6 y]at h2;exact .inr ⟨h1,h2⟩
 ·rw[Fl x,G5 y]at h1;rw[G6 x,Fm y]at h2;exact .inr ⟨h2,h1⟩
 ·rw[Fl x,Fl y]at h1;rw[G6 x,G6 y]at h2;exact .inl ⟨h2,h1⟩
theorem Lay.sp_inj(h:Lay n ts r){i j:Nat}(hi:i<ts.length)(hj:j<ts.length)(e:Y9 r ts i=Y9 r ts j):i=j:=by
 obtain⟨s,hs,gs,es⟩:=h.sp hi;obtain⟨t,ht,gt,et⟩:=h.sp hj;rw[es,et]at e;unfold z0B at e;have e1:=congrArg Bj e;have e2:=congrArg L6 e;dsimp only at e1 e2;have ms:=h.mem s hs;have mt:=h.mem t ht;have os:=h.ok s hs;have ot:=h.ok t ht;have hc:(ixI r s.1=ixI r t.1/\ixI r s.2=ixI r t.2)∨(ixI r s.1=ixI r t.2/\ixI r s.2=ixI r t.1):=w7D e1 e2
 have est:s=t:=by
  rcases hc with⟨c1,c2⟩|⟨c1,c2⟩
  ·exact Mg (y97 ms.1 mt.1 c1) (y97 ms.2 mt.2 c2)
  ·have q1:=y97 ms.1 mt.2 c1;have q2:=y97 ms.2 mt.1 c2;omega
 subst est;have gi:=(An.mp gs).2;have gj:=(An.mp gt).2;have pw:=Ev.mp h.up;rcases I0 i j with q|q|q
 ·have:=pw i j hi hj q
  rw[gi,gj]at this;exact absurd this (z2S _)
 ·exact q
 ·have:=pw j i hj hi q
  rw[gi,gj]at this;exact absurd this (z2S _)
theorem z40(i j:Nat):clP r ts w i j=clP r ts w j i:=by unfold clP;rw[y8Z]
theorem z7R{i j:Nat}:clP r ts w i j=true↔lie (Y9 r ts i) (Y9 r ts j)=w:=by unfold clP;exact beq_iff_eq
def z4D(r:List Int)(ts:List Tie)(g:Nat)(i:Nat):Bool:=decide ((Y9 r ts i).1≤(g:Int))&&decide ((g:Int)<(Y9 r ts i).2)
def x0U(r:List Int)(ts:List Tie)(i j:Nat):Bool:=leL (z70 (Y9 r ts i)) (z70 (Y9 r ts j))
def ovr(r:List Int)(ts:List Tie)(g:Nat):List Nat:=((A9 ts.length).filter (z4D r ts g)).mergeSort (x0U r ts)
theorem y8N(g:Nat):(ovr r ts g).Perm ((A9 ts.length).filter (z4D r ts g)):=Dh _ _
theorem z2U{g i:Nat}:i∈ovr r ts g↔i<ts.length/\z4D r ts g i=true:=by rw[(y8N g).mem_iff,B2,Aj]
theorem z6J(g:Nat):(ovr r ts g).Nodup:=(y8N g).nodup_iff.mpr (Dt.sublist Fg)
theorem Lay.ovr_up(h:Lay n ts r)(g:Nat):(ovr r ts g).Pairwise fun i j=>tlt (Y9 r ts i) (Y9 r ts j):=by
 have h1:(ovr r ts g).Pairwise fun i j=>x0U r ts i j=true:=Ds (fun a b c h1 h2=>by
  unfold x0U leL at h1 h2 ⊢;simp only[F6]at h1 h2 ⊢
  exact z56 _ _ _ h1 h2) (fun a b=>by
  unfold x0U leL
  have:=z3P (Y9 r ts a) (Y9 r ts b)
  have h2:=z3P (Y9 r ts b) (Y9 r ts a);unfold z70;rw[this,h2];rcases z23 (Y9 r ts a) (Y9 r ts b) with z|z|z
  ·rw[decide_eq_false (fun q=>z2I z q)];rfl
  ·rw[z,decide_eq_false (z2S _)];rfl
  ·rw[decide_eq_false (fun q=>z2I z q)];simp) _
 refine Fd (fun {a b} ha hb q=>?_) (h1.and (z6J g));have la:=(z2U.mp ha).1;have lb:=(z2U.mp hb).1;obtain⟨q1,q2⟩:=q;unfold x0U leL at q1;have l2:=z3P (Y9 r ts b) (Y9 r ts a);unfold z70 at q1;rw[l2]at q1;rcases z23 (Y9 r ts a) (Y9 r ts b) with z|z|z
 ·exact z
 ·exact absurd (h.sp_inj la lb z) q2
 ·rw[decide_eq_true z]at q1;cases q1
theorem Lay.helly(h:Lay n ts r)(hk:KW k w){S:List Nat}(hS:S≠[])(hl:∀x∈S,x<ts.length)(hp:PW (clP r ts w) S):∃g:Nat,(g:Int)<n-1/\∀x∈S,x∈ovr r ts g:=by
 have mx:∀T:List Nat,T≠[]->(∀x∈T,x<ts.length)->∃a∈T,∀b∈T,(Y9 r ts b).1≤(Y9 r ts a).1:=by
  intro T
  induction T with
  |nil=>intro e;exact absurd rfl e
  |cons x T ih=>
   intro _ hl;by_cases hT:T=[]
   ·subst hT;exact⟨x,A6,fun b hb=>by rw[Ae.mp hb];exact Il _⟩
   ·obtain⟨a,ha,hb⟩:=ih hT fun y hy=>hl y (A7 _ hy);by_cases hc:(Y9 r ts a).1≤(Y9 r ts x).1
    ·refine⟨x,A6,fun b aU=>?_⟩;rcases Af.mp aU with rfl|z
     ·exact Il _
     ·exact Int.le_trans (hb b z) hc
    ·refine⟨a,A7 _ ha,fun b aU=>?_⟩;rcases Af.mp aU with rfl|z
     ·omega
     ·exact hb b z
 obtain⟨a,ha,hmax⟩:=mx S hS hl;have oa:=h.sp_ok (hl a ha);refine⟨(Y9 r ts a).1.toNat,by omega,fun x hx=>z2U.mpr ⟨hl x hx,?_⟩⟩;have ox:=h.sp_ok (hl x hx);have e:((Y9 r ts a).1.toNat:Int)=(Y9 r ts a).1:=Gx oa.1;unfold z4D;rw[e,decide_eq_true (hmax x hx)];by_cases hxa:x=a
 ·subst hxa;rw[decide_eq_true oa.2.1];rfl
 ·have:=z7R.mp (y8I (fun i j=>z40 (r:=r) (ts:=ts) (w:=w) i j) hp hx ha hxa)
  rw[decide_eq_true (x85 hk ox.2.1 oa.2.1 this).2];rfl
theorem Lay.tr(h:Lay n ts r)(hk:KW k w){g:Nat}{done post:List Nat}{t:Nat}(hL:done++t::post=ovr r ts g):∀x y,[x,y].Sublist done->clP r ts w x y=true->clP r ts w y t=true->clP r ts w x t=true:=fun x y hs h1 h2=>by
 have up:=h.ovr_up g;rw[←hL]at up
 have sub:[x,y,t].Sublist (done++t::post):=by
  have:([x,y]++[t]).Sublist (done++t::post):=Gy hs (List.singleton_sublist.mpr A6)
  exact this
 have up3:=up.sublist sub;have p1:=Dc.mp up3;have p2:=Dc.mp p1.2
 have m:∀z∈[x,y,t],z∈ovr r ts g:=fun z hz=>by rw[←hL];exact sub.subset hz
 have mx:=z2U.mp (m x (by simp));have my:=z2U.mp (m y (by simp));have mt:=z2U.mp (m t (by simp));have ox:=h.sp_ok mx.1;have oy:=h.sp_ok my.1;have ot:=h.sp_ok mt.1;have gx:=mx.2;have gt:=mt.2;unfold z4D at gx gt;simp only[Ax,decide_eq_true_eq]at gx gt;exact z7R.mpr (w5M hk (p1.1 y (by simp)) (p2.1 t (by simp)) ox.2.1 oy.2.1 ot.2.1 (by omega) (z7R.mp h1) (z7R.mp h2))
end
noncomputable def z9(i:Nat):D:=.int (i:Int)
def chD(c:List Nat):D:=.tup (c.map z9)
def W2(r:List Int)(ts:List Tie):D:=.lst (ts.map fun t=>v9 (z0B r t))
theorem w21{j:Nat}(h:j≤100000):okR (j:Int)=true:=by unfold okR;rw[decide_eq_true (by omega),decide_eq_true (by omega)];rfl
theorem z79{fa:ED}{ρ:u5}{j:Nat}(h:fa ρ=some (.int (j:Int)))(hj:j≤100000):z0I fa ρ=some ((A9 j).map z9):=by rw[z62 h (w21 hj),Ao];unfold K5;congr 1;refine B7 fun q _=>?_;rw[Iy];rfl
theorem z5B{p:D->Bool}{q:Nat->Bool}(l:List Nat)(h:∀i∈l,p (z9 i)=q i):(l.map z9).filter p=(l.filter q).map z9:=by rw[Hd];congr 1;exact List.filter_congr fun i hi=>h i hi
theorem z8W{fb:ED}{ρ:u5}{f:D->D}:∀(ds:List D),(∀d∈ds,fb (ρ.set 0 (sC d))=some (f d))->x0S fb ρ ds=some (ds.map f)
 | [],_=>rfl
 |d::ds,h=>by unfold x0S;rw[h d A6];dsimp only;rw[z8W ds fun x hx=>h x (A7 _ hx)];rfl
section
variable{n:Int}{ts:List Tie}{r:List Int}{k w:Bb}
theorem x65(S:List Nat):y0E leL (S.map fun i=>z70 (Y9 r ts i)) (S.map z9)=(S.mergeSort (x0U r ts)).map z9:=by
 unfold y0E
 have e:(S.map fun i=>z70 (Y9 r ts i)).zip (S.map z9)=S.map fun i=>(z70 (Y9 r ts i),z9 i):=by
  induction S with
  |nil=>rfl
  |cons a S ih=>rw[Ai,Ai,E8,ih];rfl
 rw[e]
 have:=List.map_mergeSort (r:=x0U r ts) (s:=fun (a b:List Int×D)=>leL a.1 b.1) (f:=fun i=>(z70 (Y9 r ts i),z9 i)) (l:=S) (fun a _ b _=>rfl)
 rw[←this,B6];rfl
theorem y8C(h:Lay n ts r){S:List Nat}(hn:S.Nodup)(hl:∀i∈S,i<ts.length):x7B (S.map fun i=>v9 (Y9 r ts i)) (S.map z9)=some ((S.mergeSort (x0U r ts)).map z9):=by
 have ab:S.length<64:=by
  have:=z6N S (A9 ts.length) hn fun i hi=>Aj.mpr (hl i hi)
  rw[As]at this
  have:=h.m12
  omega
 unfold x7B;rw[if_pos (by rw[A0];exact ab)]
 cases S with
 |nil=>simp[W8,y0E]
 |cons a S=>
  have e1:W8 ((a::S).map fun i=>v9 (Y9 r ts i))=none:=rfl
  have e2:z1J ((a::S).map fun i=>v9 (Y9 r ts i))=some ((a::S).map fun i=>z70 (Y9 r ts i)):=by
   have:=z52 (nss:=(a::S).map fun i=>z70 (Y9 r ts i)) (fun ns h=>by
    obtain⟨u,_,rfl⟩:=Av.mp h
    simp[z70])
   rw[B6]at this;exact this
  have e3:((a::S).map fun i=>z70 (Y9 r ts i)).Nodup:=by refine Bu.mpr (Fd (fun {x y} hx hy hxy z=>hxy ?_) hn);refine h.sp_inj (hl x hx) (hl y hy) ?_;unfold z70 at z;have z1:=(Jv z).1;have z2:=(Jv (Jv z).2).1;exact Mg z1 z2
  rw[e1];dsimp only;rw[e2];dsimp only;rw[if_pos e3,x65]
theorem y0Y(h:Lay n ts r)(g:Nat):z45 [W2 r ts,.int (g:Int)]=some (.lst ((ovr r ts g).map z9)):=by
 have e1:Q3 [none,some 0,some 1] (z0I (z15 (dSq (z8 0)))) (w9 0) (y9 (z4E w8H x1E (dIx (dSq (dIx (dSq (z8 1)) (z8 0))) (dC (.int 0))) (z8 2) (dIx (dSq (dIx (dSq (z8 1)) (z8 0))) (dC (.int 1))))) (z8 0)
   [sC (W2 r ts),sC (.int (g:Int)),none]=some (((A9 ts.length).filter (z4D r ts g)).map z9):=by
  have e0:z0I (z15 (dSq (z8 0))) [sC (W2 r ts),sC (.int (g:Int)),none]=some ((A9 ts.length).map z9):=by
   refine z79 ?_ (by have:=h.m12;omega)
   refine(z29 (ds:=ts.map fun t=>v9 (z0B r t)) (z28 rfl)).trans ?_;rw[A0]
  refine(Z9 e0 (by rw[A0,As];have:=h.m12;unfold LIM;omega)).trans ?_
  refine(J7 (fun ρ=>∃c0,ρ=[c0,sC (W2 r ts),sC (.int (g:Int))]) (fun d=>match d with|.int i=>z4D r ts g i.toNat|_=>false) (fun d=>d) _ _ ⟨none,rfl⟩ ?_).trans ?_
  ·rintro d hd ρ ⟨c0,rfl⟩;obtain⟨i,hi,rfl⟩:=Av.mp hd;have aO:i<ts.length:=Aj.mp hi;refine⟨_,rfl,⟨_,rfl⟩,?_,fun _=>rfl⟩;have at':dIx (dSq (z8 1)) (z8 0) [sC (z9 i),sC (W2 r ts),sC (.int (g:Int))]=some (v9 (Y9 r ts i)):=(z2G (ds:=ts.map fun t=>v9 (z0B r t)) (j:=(i:Int)) (z28 rfl) rfl).trans (z5E aO);refine u4 (y2R (x:=.int (Y9 r ts i).1) (y:=.int (g:Int)) (z:=.int (Y9 r ts i).2) (a:=decide ((Y9 r ts i).1≤(g:Int))) (b:=decide ((g:Int)<(Y9 r ts i).2)) ?_ rfl rfl (fun _=>?_) (fun _=>rfl))
   ·exact(z2G (ds:=[.int (Y9 r ts i).1,.int (Y9 r ts i).2]) (j:=0) (z4W at') rfl).trans rfl
   ·exact(z2G (ds:=[.int (Y9 r ts i).1,.int (Y9 r ts i).2]) (j:=1) (z4W at') rfl).trans rfl
  ·rw[z5B (q:=z4D r ts g) _ (fun i _=>rfl),Gr]
 have e2:z5Y [sC (W2 r ts),sC (.int (g:Int)),none]=some (.rt (.lst ((ovr r ts g).map z9))):=by
  refine x6 (r:=.rt .non) (K8 (z39 e1)) (z02 (z39 ?_));show z5M [none,some 0] (dSq (z8 2)) (dIx (dSq (z8 1)) (z8 0)) [sC (W2 r ts),sC (.int (g:Int)),sC (.lst (((A9 ts.length).filter (z4D r ts g)).map z9))]=some ((ovr r ts g).map z9);have lt:∀i∈(A9 ts.length).filter (z4D r ts g),i<ts.length:=fun i hi=>Aj.mp (B2.mp hi).1;have nd:((A9 ts.length).filter (z4D r ts g)).Nodup:=Dt.sublist Fg
  unfold ovr;generalize (A9 ts.length).filter (z4D r ts g)=S at lt nd
  have hm:x0S (dIx (dSq (z8 1)) (z8 0)) [none,sC (W2 r ts)] (S.map z9)=some (S.map fun i=>v9 (Y9 r ts i)):=by
   refine(z8W (f:=fun d=>match d with|.int i=>v9 (Y9 r ts i.toNat)|_=>d) _ fun d hd=>?_).trans ?_
   ·obtain⟨i,hi,rfl⟩:=Av.mp hd;exact(z2G (ds:=ts.map fun t=>v9 (z0B r t)) (j:=(i:Int)) (z28 rfl) rfl).trans (z5E (lt i hi))
   ·rw[B6];rfl
  unfold z5M;rw[show dSq (z8 2) [sC (W2 r ts),sC (.int (g:Int)),sC (.lst (S.map z9))]=some (S.map z9) from rfl];dsimp only;rw[show y0T [none,some 0] [sC (W2 r ts),sC (.int (g:Int)),sC (.lst (S.map z9))]=[none,sC (W2 r ts)] from rfl,hm];exact y8C h nd lt
 show z2F (z5Y [sC (W2 r ts),sC (.int (g:Int)),none])=_;rw[e2];rfl
theorem w00(c:List Nat):w5N (chD c)=some (c.length:Int):=by show some ((c.map z9).length:Int)=_;rw[A0]
theorem x4I:∀cs:List (List Nat),z8H (cs.map chD)=some (cs.map fun c=>(c.length:Int))
 | []=>rfl
 |c::cs=>by rw[Ai];unfold z8H;rw[w00 c];dsimp only;rw[x4I cs];rfl
theorem y7D{f:Nat->Int}:∀(q j b:Nat),b<j->(∀i,i<j->f i≤f b)->Y2 (fun i j=>decide (f j<f i)) q j b<j+q/\∀i,i<j+q->f i≤f (Y2 (fun i j=>decide (f j<f i)) q j b)
 | 0,j,b,hb,hm=>⟨hb,hm⟩
 |q+1,j,b,hb,hm=>by
  unfold Y2;by_cases hc:f b<f j
  ·rw[if_pos (decide_eq_true hc)]
   have:=y7D (f:=f) q (j+1) j (by omega) fun i hi=>by
    rcases Fe.mp hi with z|rfl
    ·have:=hm i z;omega
    ·exact Il _
   rw[show j+(q+1)=j+1+q by omega];exact this
  ·rw[if_neg (by simpa using hc)]
   have:=y7D (f:=f) q (j+1) b (by omega) fun i hi=>by
    rcases Fe.mp hi with z|rfl
    ·exact hm i z
    ·omega
   rw[show j+(q+1)=j+1+q by omega];exact this
theorem y4G(cs:List (List Nat)):∃b,y1H (cs.map chD) (chD [])=some (chD b)/\w3O cs b:=by
 unfold y1H;rw[x4I];dsimp only
 cases cs with
 |nil=>exact⟨[],rfl,.inl ⟨rfl,rfl⟩⟩
 |cons c cs=>
  rw[Ai];dsimp only;rw[←Ai];unfold z1G;have hgt:gtI ((c::cs).map fun c=>(c.length:Int))=fun i j=>decide (((c::cs).map fun c=>(c.length:Int)).getD j 0<((c::cs).map fun c=>(c.length:Int)).getD i 0):=rfl;rw[hgt]
  have:=y7D (f:=fun i=>((c::cs).map fun c=>(c.length:Int)).getD i 0) (((c::cs).map chD).length-1) 1 0 (by omega) (fun i hi=>by rw[show i=0 by omega];exact Il _)
  generalize Y2 (fun i j=>decide (((c::cs).map fun c=>(c.length:Int)).getD j 0<((c::cs).map fun c=>(c.length:Int)).getD i 0)) (((c::cs).map chD).length-1) 1 0=b at this;obtain⟨h1,h2⟩:=this
  have ab:1+(((c::cs).map chD).length-1)=(c::cs).length:=by rw[A0,Ay];omega
  rw[ab]at h1 h2
  have get:∀(i:Nat) (hi:i<(c::cs).length),((c::cs).map fun c=>(c.length:Int)).getD i 0=((c::cs)[i].length:Int):=fun i hi=>by rw[Bh,Au,A3 hi];rfl
  refine⟨(c::cs)[b],?_,.inr ⟨Bw h1,fun d hd=>?_⟩⟩
  ·rw[Au,A3 h1];rfl
  ·obtain⟨i,hi,rfl⟩:=Gh.mp hd
   have:=h2 i hi
   rw[get i hi,get b h1]at this;omega
theorem w3D{c:List Nat}{u:Nat}(h:c.getLast?=some u)(hc:c.length≤1000):atI (c.map z9) (-1)=some (z9 u):=by
 obtain⟨ys,rfl⟩:=Gu.mp h;unfold atI ixN;rw[if_neg (by omega),if_pos (by rw[A0,Ad,Az];omega)]
 show ((ys++[u]).map z9)[(-1+(((ys++[u]).map z9).length:Int)).toNat]?=_;rw[A0,Ad,Az,show (-1+((ys.length+1:Nat):Int)).toNat=ys.length by omega,Au];simp
def z6T(r:List Int)(ts:List Tie)(w:Bb)(t:Nat)(c:List Nat):Bool:=match c.getLast? with|some u=>clP r ts w u t|none=>false
def x9Z:EO:=K6 (z0H 5 (dLs (Q3 [none,some 0,some 4,some 2] (z4Z 3) (w9 0) (y9 (x5 Q2 (z7 (dIx (dSq (z8 1)) (dIx (dSq (z8 0)) (x1D (dC (.int 1))))) (z7 (dIx (dSq (z8 1)) (z8 2)) (z7 (z8 3) (u3)))))) (z8 0))))
 (y9L 3 (d2 z2Q (y08 (dSq (z8 5)) (z2O (u3))) (z2O (z7 (z8 4) (u3)))))
theorem x4H(h:Lay n ts r)(hk:KW k w){tiesD:D}{cs:List (List Nat)}{t:Nat}{c5:Option Cell}(ht:t<ts.length)(dv:cs.length≤12)(hc:∀c∈cs,c≠[]/\c.length≤12/\∀x∈c,x<ts.length):
  ∃b,w3O (cs.filter (z6T r ts w t)) b/\x9Z [sC (W2 r ts),sC tiesD,sC (.str k),some (.ow (cs.map chD)),sC (z9 t),c5] =
   some (.nx [sC (W2 r ts),sC tiesD,sC (.str k),some (.ow ((cs++[b++[t]]).map chD)),sC (z9 t),sC (.lst ((cs.filter (z6T r ts w t)).map chD))]):=by
 have e1:Q3 [none,some 0,some 4,some 2] (z4Z 3) (w9 0) (y9 (x5 Q2 (z7 (dIx (dSq (z8 1)) (dIx (dSq (z8 0)) (x1D (dC (.int 1))))) (z7 (dIx (dSq (z8 1)) (z8 2)) (z7 (z8 3) (u3)))))) (z8 0)
   [sC (W2 r ts),sC tiesD,sC (.str k),some (.ow (cs.map chD)),sC (z9 t),c5]=some ((cs.filter (z6T r ts w t)).map chD):=by
  refine(Z9 (ds:=cs.map chD) rfl (by rw[A0];unfold LIM;omega)).trans ?_
  refine(J7 (fun ρ=>∃c0,ρ=[c0,sC (W2 r ts),sC (z9 t),sC (.str k)]) (fun d=>match d with|.tup ds=>(match ds.getLast? with|some (.int u)=>clP r ts w u.toNat t|_=>false)|_=>false) (fun d=>d) _ _ ⟨none,rfl⟩ ?_).trans ?_
  ·rintro d hd ρ ⟨c0,rfl⟩;obtain⟨c,hcm,rfl⟩:=Av.mp hd;obtain⟨h1,h2,h3⟩:=hc c hcm;refine⟨_,rfl,⟨_,rfl⟩,?_,fun _=>rfl⟩
   cases hl:c.getLast? with
   |none=>exact absurd (Gv.mp hl) h1
   |some u=>
    have hu:u<ts.length:=h3 u (List.mem_of_getLast? hl)
    have el:(c.map z9).getLast?=some (z9 u):=by obtain⟨ys,rfl⟩:=Gu.mp hl;simp
    show y9 _ _=some (match (c.map z9).getLast? with|some (.int u)=>clP r ts w u.toNat t|_=>false);rw[el];show y9 _ _=some (clP r ts w u t);refine u4 ?_;have a0:dIx (dSq (z8 0)) (x1D (dC (.int 1))) [sC (chD c),sC (W2 r ts),sC (z9 t),sC (.str k)]=some (z9 u):=(z2G (ds:=c.map z9) (j:=-1) (z4W rfl) rfl).trans (w3D hl (by omega));have a1:dIx (dSq (z8 1)) (dIx (dSq (z8 0)) (x1D (dC (.int 1)))) [sC (chD c),sC (W2 r ts),sC (z9 t),sC (.str k)]=some (v9 (Y9 r ts u)):=(z2G (ds:=ts.map fun t=>v9 (z0B r t)) (j:=(u:Int)) (z28 rfl) a0).trans (z5E hu)
    have a2:dIx (dSq (z8 1)) (z8 2) [sC (chD c),sC (W2 r ts),sC (z9 t),sC (.str k)]=some (v9 (Y9 r ts t)):=(z2G (ds:=ts.map fun t=>v9 (z0B r t)) (j:=(t:Int)) (z28 rfl) rfl).trans (z5E ht);exact(w8 (v8 a1 (v8 a2 (v8 (d:=.str k) rfl rfl)))).trans (y1S hk.tab _ _)
  ·rw[Gr,Hd];refine congrArg (fun l=>some (List.map chD l)) (List.filter_congr fun c hcm=>?_);show (match (c.map z9).getLast? with|some (.int u)=>clP r ts w u.toNat t|_=>false)=z6T r ts w t c;unfold z6T;rw[List.getLast?_map]
   cases c.getLast? with
   |none=>rfl
   |some u=>rfl
 obtain⟨b,eb,hb⟩:=y4G (cs.filter (z6T r ts w t));refine⟨b,hb,?_⟩
 have hbl:b.length≤12:=by
  rcases hb with⟨_,rfl⟩|⟨hb,_⟩
  ·exact Bf _
  ·exact(hc b (B2.mp hb).1).2.1
 refine x6 (r:=.rt .non) (K8 (z39 e1)) ?_;refine(y9H (ds:=cs.map chD) (d:=chD (b++[t])) rfl ?_ (by rw[A0];unfold LIM;omega)).trans ?_
 ·refine(z2N (x:=chD b) (y:=chD [t]) ?_ (z5K (ds:=[z9 t]) rfl (show 1≤LIM by decide))).trans ?_
  ·show y1H ((cs.filter (z6T r ts w t)).map chD) (chD [])=some (chD b);exact eb
  ·show (if (b.map z9).length+([t].map z9).length≤LIM then some (D.tup (b.map z9++[t].map z9)) else none)=_;rw[if_pos (by rw[A0,A0,Az];unfold LIM;omega),←Ba]
   rfl
 ·rw[Ba];rfl
theorem x1I{t:Nat}{c:List Nat}:z6T r ts w t c=true↔∃u,c.getLast?=some u/\clP r ts w u t=true:=by
 unfold z6T
 cases c.getLast? with
 |none=>exact⟨(fun e=>by cases e),(fun ⟨u,e,_⟩=>by cases e)⟩
 |some v=>exact⟨fun e=>⟨v,rfl,e⟩,fun ⟨u,e,q⟩=>by cases e;exact q⟩
theorem z6X(h:Lay n ts r)(hk:KW k w)(g:Nat):∃b:List Nat,z12 [W2 r ts,.lst ((ovr r ts g).map z9),.str k]=some (chD b) /\
  PW (clP r ts w) b/\b.Sublist (ovr r ts g)/\∀e:List Nat,e.Sublist (ovr r ts g)->PW (clP r ts w) e->e.length≤b.length:=by
 have hL:(ovr r ts g).length≤12:=by
  have:=z6N (ovr r ts g) (A9 ts.length) (z6J g) fun i hi=>Aj.mpr (z2U.mp hi).1
  rw[As]at this
  have:=h.m12
  omega
 obtain⟨ρ',l1,cs,c4,c5,bT,ay,rfl⟩:=z55 (h:=w9 4) (g:=x9Z) (fun pre ρ=>∃cs c4 c5,Chs (clP r ts w) ((ovr r ts g).take pre.length) cs/\cs.length=pre.length /\
   ρ=[sC (W2 r ts),sC (.lst ((ovr r ts g).map z9)),sC (.str k),some (.ow (cs.map chD)),c4,c5])
  (ds:=(ovr r ts g).map z9) (ρ:=[sC (W2 r ts),sC (.lst ((ovr r ts g).map z9)),sC (.str k),some (.ow []),none,none]) ⟨[],none,none,by rw[Cv,Jg];exact Chs.zero,rfl,rfl⟩ (fun pre d post ρ he hI=>by
   obtain⟨cs,c4,c5,bT,ay,rfl⟩:=hI;have ab:=congrArg Fq he;rw[A0,Ad,Ay]at ab
   have al:pre.length<(ovr r ts g).length:=by omega
   have hd:d=z9 (ovr r ts g)[pre.length]:=by
    have h1:((ovr r ts g).map z9)[pre.length]?=some d:=by rw[←he];simp
    rw[Au,A3 al]at h1;exact(Bc h1).symm
   have ht:=(z2U.mp (Bw al)).1
   have dG:(ovr r ts g).take pre.length++(ovr r ts g)[pre.length]::(ovr r ts g).drop (pre.length+1)=ovr r ts g:=by rw[←Eu al,List.take_append_drop]
   have bA:(ovr r ts g).take (pre.length+1)=(ovr r ts g).take pre.length++[(ovr r ts g)[pre.length]]:=(List.take_append_getElem al).symm;generalize (ovr r ts g)[pre.length]=t at hd ht dG bA;subst hd
   have hok:∀c∈cs,c≠[]/\c.length≤12/\∀x∈c,x<ts.length:=fun c hc=>by obtain⟨_,q2,q3⟩:=bT.ok c hc;have q4:c.Sublist (ovr r ts g):=q2.trans (Jl _ _);exact⟨q3,Bk q4.length_le hL,fun x hx=>(z2U.mp (q4.subset hx)).1⟩
   obtain⟨b,hb,e⟩:=x4H h hk (tiesD:=.lst ((ovr r ts g).map z9)) (cs:=cs) (t:=t) (c5:=c5) ht (by omega) hok;refine⟨_,_,rfl,.inl e,⟨cs++[b++[t]],_,_,?_,?_,rfl⟩⟩
   ·rw[Ad,Az,bA];obtain⟨b1,b2⟩:=w3O.step (fun c hc=>(hok c hc).1) hb (fun c hc=>x1I (r:=r) (ts:=ts) (w:=w) (t:=t) (c:=c));exact bT.step (h.tr hk dG) b1 b2
   ·rw[Ad,Ad,ay];rfl)
 rw[A0,List.take_length]at bT;obtain⟨b,eb,hb⟩:=y4G cs;refine⟨b,?_,bT.best hb⟩
 have fin:z24 [sC (W2 r ts),sC (.lst ((ovr r ts g).map z9)),sC (.str k),none,none,none]=some (.rt (chD b)):=by refine x6 (r:=.rt .non) (z4X (ds:=[]) rfl) ?_;refine x6 (r:=.rt .non) ((z10 (ds:=(ovr r ts g).map z9) rfl).trans l1) ?_;refine z02 ?_;show y1H (cs.map chD) (chD [])=some (chD b);exact eb
 show z2F (z24 [sC (W2 r ts),sC (.lst ((ovr r ts g).map z9)),sC (.str k),none,none,none])=_;rw[fin];rfl
theorem x0R(a b:List Nat):z7E (chD a) (chD b)=some (chD (if a.length<b.length then b else a)):=by
 have e:=w00;unfold z7E;rw[e a,e b];dsimp only;by_cases hc:a.length<b.length
 ·rw[if_pos hc,if_pos (by omega)]
 ·rw[if_neg hc,if_neg (by omega)]
theorem z59:∀f:List Nat,W8 (f.map z9)=some (f.map fun (i:Nat)=>(i:Int))
 | []=>rfl
 |a::f=>by
  rw[Ai];unfold z9 W8
  have:=z59 f
  unfold z9 at this;rw[this];rfl
theorem x30(f:List Nat):y24 (f.map fun (i:Nat)=>(i:Int))=(f.mergeSort fun a b=>decide (a≤b)).map fun (i:Nat)=>(i:Int):=by
 unfold y24
 exact(List.map_mergeSort (r:=fun (a b:Nat)=>decide (a≤b)) (s:=fun (a b:Int)=>decide (a≤b)) (f:=fun (i:Nat)=>(i:Int)) (l:=f) (fun a _ b _=>by
  by_cases hc:a≤b
  ·rw[decide_eq_true hc,decide_eq_true (by omega)]
  ·rw[decide_eq_false hc,decide_eq_false (by omega)])).symm
theorem x31(f:List Nat)(h:f.length<64):z99 (f.map z9)=some ((f.mergeSort fun a b=>decide (a≤b)).map z9):=by
 unfold z99;rw[if_pos (by rw[A0];exact h),z59]
 dsimp only;rw[x30,B6];rfl
theorem w0W(f:List Nat)(hn:f.Nodup):(f.mergeSort fun a b=>decide (a≤b)).Pairwise (· < ·):=by
 have h1:(f.mergeSort fun a b=>decide (a≤b)).Pairwise fun a b=>decide (a≤b)=true:=Ds (fun a b c h1 h2=>by
  have:=of_decide_eq_true h1
  have:=of_decide_eq_true h2
  exact decide_eq_true (by omega)) (fun a b=>by
  by_cases hc:a≤b
  ·rw[decide_eq_true hc];rfl
  ·rw[decide_eq_true (show b≤a by omega)];simp) _
 have h2:(f.mergeSort fun a b=>decide (a≤b)).Nodup:=(Dh _ _).nodup_iff.mpr hn;refine(h1.and h2).imp fun {a b} q=>?_
 have:=of_decide_eq_true q.1
 have:=q.2
 omega
structure Most(m:Nat)(cl:Nat->Nat->Bool)(F:List Nat):Prop where
 up:F.Pairwise (· < ·)
 lt:∀x∈F,x<m
 pw:PW cl F
 top:∀S:List Nat,S.Nodup->(∀x∈S,x<m)->PW cl S->S.length≤F.length
theorem y3B(h:Lay n ts r)(hk:KW k w):∃F:List Nat,z1E [W7 n ts,.tup (r.map D.int),.str k]=some (chD F)/\Most ts.length (clP r ts w) F:=by
 have hs:=z46 (n:=n) h.nd h.rl h.hm' h.mem
 have hlo:0≤n:=by have:=h.len;omega
 have h6:=h.n6
 obtain⟨ρ',l1,f,c5,hg,rfl⟩:=z55 (h:=w9 5) (g:=z0H 4 (d2 z7E (z8 4) (x5 z12 (z7 (z8 3) (z7 (x5 z45 (z7 (z8 3) (z7 (z8 5) (u3)))) (z7 (z8 2) (u3)))))))
  (fun pre ρ=>∃f c5,Grt ts.length (clP r ts w) (ovr r ts) pre.length f/\ρ=[sC (W7 n ts),sC (.tup (r.map D.int)),sC (.str k),sC (W2 r ts),sC (chD f),c5])
  (ds:=K5 0 (n-1).toNat) (ρ:=[sC (W7 n ts),sC (.tup (r.map D.int)),sC (.str k),sC (W2 r ts),sC (chD []),none]) ⟨[],none,Grt.zero,rfl⟩ (fun pre d post ρ he hI=>by
   obtain⟨f,c5,hg,rfl⟩:=hI;have ab:=congrArg Fq he;rw[z0P,Ad,Ay]at ab
   have hd:d = .int (pre.length:Int):=by
    have h1:(K5 0 (n-1).toNat)[pre.length]?=some d:=by rw[←he];simp
    rw[y02 (by omega)]at h1;exact(Bc h1).symm
   subst hd;obtain⟨b,e,hb⟩:=z6X h hk pre.length;refine⟨_,_,rfl,.inl (K8 (d:=chD (if f.length<b.length then b else f)) ?_),⟨_,_,?_,rfl⟩⟩
   ·refine(z2N (x:=chD f) (y:=chD b) rfl ?_).trans (x0R f b);refine(w8 (ds:=[W2 r ts,.lst ((ovr r ts pre.length).map z9),.str k]) (v8 rfl (v8 ?_ rfl))).trans e;exact(w8 (ds:=[W2 r ts,.int (pre.length:Int)]) rfl).trans (y0Y h _)
   ·rw[Ad,Az]
    exact hg.step (z6J _) (fun x hx=>(z2U.mp hx).1) hb)
 rw[z0P]at hg
 have hfl:f.length≤12:=by
  have:=z6N f (A9 ts.length) hg.nd fun i hi=>Aj.mpr (hg.lt i hi)
  rw[As]at this
  have:=h.m12
  omega
 have pm:(f.mergeSort fun a b=>decide (a≤b)).Perm f:=Dh _ _;refine⟨f.mergeSort fun a b=>decide (a≤b),?_,⟨w0W f hg.nd,fun x hx=>hg.lt x (pm.mem_iff.mp hx),w1J (fun i j=>z40 i j) hg.nd pm.symm hg.pw,fun S hS hl hp=>?_⟩⟩
 ·have fin:z7M [sC (W7 n ts),sC (.tup (r.map D.int)),sC (.str k),none,none,none]=some (.rt (chD (f.mergeSort fun a b=>decide (a≤b)))):=by
   refine x6 (r:=.rt .non) (K8 ((w8 (ds:=[W7 n ts,.tup (r.map D.int)]) rfl).trans hs)) ?_;refine x6 (r:=.rt .non) (K8 (d:=chD []) (z5K (ds:=[]) rfl (show 0≤LIM by decide))) ?_;refine x6 (r:=.rt .non) ((z10 (ds:=K5 0 (n-1).toNat) (z62 (j:=n-1) ((z2N (x:=.int n) (y:=.int 1) rfl rfl).trans rfl) (by unfold okR;rw[decide_eq_true (by omega),decide_eq_true (by omega)];rfl))).trans l1) ?_
   refine z02 (z7N ((w2Z (ds:=f.map z9) (z4W rfl)).trans (x31 f (by omega))))
  show z2F (z7M [sC (W7 n ts),sC (.tup (r.map D.int)),sC (.str k),none,none,none])=_;rw[fin];rfl
 ·rw[pm.length_eq];refine hg.all (fun i j=>z40 i j) (fun g _=>z6J g) (fun S hS hn hl hp=>?_) hS hl hp;obtain⟨g,g1,g2⟩:=h.helly hk hS hl hp;exact⟨g,by omega,g2⟩
end
end P
namespace P
open PySem L2
theorem Q4{α:Type}[DecidableEq α]:∀(xs ys:List α),xs.Nodup->(∀x∈xs,x∈ys)->xs.length≤ys.length
 | [],_,_,_=>Bf _
 |x::xs,ys,hn,hs=>by
  have bj:=Bz.mp hn;have p:=List.perm_cons_erase (hs x A6)
  have ih:=Q4 xs (ys.erase x) bj.2 fun y hy=>by have ag:y≠x:=fun e=>bj.1 (e▸hy);exact(Io ag).mpr (hs y (A7 _ hy))
  have:=p.length_eq
  rw[Ay]at this ⊢;omega
section
variable{cl:Nat->Nat->Bool}
structure Col(cl:Nat->Nat->Bool)(m:Nat)(c:Nat->Nat)(K:Nat):Prop where
 lt:∀i,i<m->c i<K
 ne:∀i j,i<m->j<m->cl i j=true->c i≠c j
structure Part(cl:Nat->Nat->Bool)(G:List Nat)(K u:Nat)(P:List (Nat×Nat)):Prop where
 nd:(P.map Bj).Nodup
 sub:∀x∈P,x.1∈G
 ok:∀x∈P,∀y∈P,cl x.1 y.1=true->x.2≠y.2
 use:∀v,(∃x∈P,x.2=v)↔v<u
 uK:u≤K
structure GCol(cl:Nat->Nat->Bool)(G:List Nat)(c:Nat->Nat)(K:Nat):Prop where
 lt:∀i∈G,c i<K
 ne:∀i∈G,∀j∈G,cl i j=true->c i≠c j
def w3N(c:Nat->Nat)(P:List (Nat×Nat)):Prop:=∀x∈P,c x.1=x.2
variable{G:List Nat}{K u:Nat}{P:List (Nat×Nat)}
theorem Part.zero:Part cl G K 0 []:=⟨Dx,fun x h=>by simp at h,fun x h=>by simp at h,fun v=>⟨fun ⟨x,h,_⟩=>by simp at h,fun h=>by omega⟩,Bf _⟩
theorem Part.add(h:Part cl G K u P)(hs:∀i j,cl i j=cl j i)(hr:∀i,cl i i=false){t v:Nat}(ht:t∈G)(hn:t∉P.map Bj)(hv:v≤u)(hK:v<K)(bu:∀x∈P,cl t x.1=true->x.2≠v):
  Part cl G K (if v=u then u+1 else u) (P++[(t,v)]):=by
 refine⟨?_,fun x hx=>?_,fun x hx y hy hc=>?_,fun w=>?_,by have:=h.uK;split<;>omega⟩
 ·rw[Ba,Cc];refine⟨h.nd,by simp,fun a ha b hb e=>?_⟩
  have:b=t:=by simpa using hb
  exact hn (this▸e▸ha)
 ·rcases Aw.mp hx with z|z
  ·exact h.sub x z
  ·rw[Ae.mp z];exact ht
 ·rcases Aw.mp hx with z|z<;>rcases Aw.mp hy with z'|z'
  ·exact h.ok x z y z' hc
  ·rw[Ae.mp z']at hc ⊢;exact bu x z (by rw[hs];exact hc)
  ·rw[Ae.mp z]at hc ⊢;exact fun e=>bu y z' hc e.symm
  ·rw[Ae.mp z,Ae.mp z']at hc;rw[hr]at hc;cases hc
 ·constructor
  ·rintro ⟨x,hx,rfl⟩;rcases Aw.mp hx with z|z
   ·have:=(h.use x.2).mp ⟨x,z,rfl⟩
    split<;>omega
   ·rw[Ae.mp z];show v<_
    split<;>omega
  ·intro hw;by_cases c:w=v
   ·exact⟨(t,v),Ab _ (Ae.mpr rfl),c.symm⟩
   ·obtain⟨x,hx,e⟩:=(h.use w).mpr (by split at hw<;>omega)
    exact⟨x,B9 _ hx,e⟩
theorem Part.try(h:Part cl G K u P){c:Nat->Nat}(hc:GCol cl G c K)(he:w3N c P){t:Nat}(ht:t∈G)(hn:t∉P.map Bj):
  ∃v,v≤u/\v<K/\(∀x∈P,cl t x.1=true->x.2≠v)/\∃c',GCol cl G c' K/\w3N c' (P++[(t,v)]):=by
 have aE:∀c:Nat->Nat,GCol cl G c K->w3N c P->c t≤u->∃v,v≤u/\v<K/\(∀x∈P,cl t x.1=true->x.2≠v)/\∃c',GCol cl G c' K/\w3N c' (P++[(t,v)]):=fun c hc he hu=>by
  refine⟨c t,hu,hc.lt t ht,fun x hx ay e=>hc.ne t ht x.1 (h.sub x hx) ay (by rw[he x hx,e]),c,hc,fun x hx=>?_⟩;rcases Aw.mp hx with z|z
  ·exact he x z
  ·rw[Ae.mp z]
 by_cases hu:c t≤u
 ·exact aE c hc he hu
 ·let sw:Nat->Nat:=fun v=>if v=u then c t else if v=c t then u else v
  have inj:∀a b,sw a=sw b->a=b:=fun a b e=>by simp only[sw]at e;split at e<;>split at e<;>(try split at e)<;>(try split at e)<;>omega
  refine aE (fun i=>sw (c i)) ⟨fun i hi=>?_,fun i hi j hj ay e=>hc.ne i hi j hj ay (inj _ _ e)⟩ (fun x hx=>?_) ?_
  ·have:=hc.lt i hi
   have:=hc.lt t ht
   show (if c i=u then c t else if c i=c t then u else c i)<K;split
   ·omega
   ·split<;>omega
  ·have hv:=(h.use x.2).mp ⟨x,hx,rfl⟩;show (if c x.1=u then c t else if c x.1=c t then u else c x.1)=x.2;rw[he x hx,if_neg (by omega),if_neg (by omega)]
  ·show (if c t=u then c t else if c t=c t then u else c t)≤u;rw[if_neg (by omega),if_pos rfl];exact Ak _
theorem Part.full(h:Part cl G K u P)(hG:G.Nodup)(hl:P.length=G.length):∀t∈G,t∈P.map Bj:=fun t ht=>by
 by_cases c:t∈P.map Bj
 ·exact c
 ·exfalso;have aB:(t::P.map Bj).Nodup:=Bz.mpr ⟨c,h.nd⟩
  have cg:∀x∈t::P.map Bj,x∈G:=fun x hx=>by
   rcases Af.mp hx with z|z
   ·rw[z];exact ht
   ·obtain⟨y,hy,rfl⟩:=Av.mp z;exact h.sub y hy
  have:=Q4 _ _ aB cg
  rw[Ay,A0]at this;omega
end
end P
namespace P
open PySem L2 L3
noncomputable def pgK(P:List (Nat×Nat)):List Key:=P.map fun x=>(C2 (x.1:Int):Key)
def pgV(P:List (Nat×Nat)):List D:=P.map fun x=>z9 x.2
def pgD(P:List (Nat×Nat)):D:=.dct (pgK P) (pgV P)
theorem z7F(t:Nat):∀P:List (Nat×Nat),z0U (pgK P) (pgV P) (C2 (t:Int))=(P.lookup t).map z9
 | []=>rfl
 | (a,b)::P=>by
  show (if (C2 (a:Int):Key)=C2 (t:Int) then some (z9 b) else z0U (pgK P) (pgV P) (C2 (t:Int)))=_;rw[Bi,z7F t P];by_cases h:a=t
  ·subst h;rw[if_pos rfl,beq_self_eq_true];rfl
  ·rw[if_neg (fun z=>h (by have:=Fp z;omega)),show (t==a)=false from by rw[beq_eq_false_iff_ne];exact Cl h]
theorem z8X{P:List (Nat×Nat)}(hn:(P.map Bj).Nodup){t v:Nat}:P.lookup t=some v↔(t,v)∈P:=by
 induction P with
 |nil=>simp
 |cons x P ih=>
  obtain⟨a,b⟩:=x;rw[Ai]at hn;have bj:=Bz.mp hn;rw[Bi];by_cases h:t=a
  ·subst h;rw[beq_self_eq_true];constructor
   ·intro z;cases z;exact A6
   ·intro z;rcases Af.mp z with y|y
    ·rw[(Gk y).2]
    ·exact absurd (Bv (f:=Bj) y) bj.1
  ·rw[show (t==a)=false from by rw[beq_eq_false_iff_ne];exact h]
   dsimp only;rw[ih bj.2,Af];exact⟨.inr,fun z=>z.elim (fun y=>absurd (Gk y).1 h) id⟩
theorem z36{P:List (Nat×Nat)}{t:Nat}:(P.lookup t).isSome=decide (t∈P.map Bj):=by
 induction P with
 |nil=>rfl
 |cons x P ih=>
  obtain⟨a,b⟩:=x;rw[Bi,Ai];by_cases h:t=a
  ·subst h;rw[beq_self_eq_true,decide_eq_true A6];rfl
  ·rw[show (t==a)=false from by rw[beq_eq_false_iff_ne];exact h]
   dsimp only;rw[ih];refine decide_eq_decide.mpr ⟨A7 _,fun z=>(Af.mp z).elim (fun y=>absurd y h) id⟩
theorem z6I{P:List (Nat×Nat)}(h:(P.map Bj).Nodup):(pgK P).Nodup:=by unfold pgK;rw[Ks,Bu]at *;exact h.imp fun {a b} q z=>q (by have:=Fp z;omega)
theorem w1R{P:List (Nat×Nat)}{t:Nat}(h:t∉P.map Bj):(C2 (t:Int):Key)∉pgK P:=fun z=>by
 obtain⟨x,hx,e⟩:=Av.mp z
 have:x.1=t:=by have:=Fp e;omega
 exact h (this▸Bv hx)
theorem y8J{P:List (Nat×Nat)}{t v:Nat}(h:t∉P.map Bj):z71 (pgK P) (pgV P) (C2 (t:Int)) (z9 v)=(pgK (P++[(t,v)]),pgV (P++[(t,v)])):=by
 rw[z8U _ _ _ _ (by unfold pgK pgV;rw[A0,A0]) (w1R h)]
 unfold pgK pgV;rw[Ba,Ba];rfl
def z13(R:Nat->List Nat)(m:Nat):D:=.lst ((A9 m).map fun i=>.lst ((R i).map z9))
theorem x6A{R:Nat->List Nat}{m t:Nat}(h:t<m):atI ((A9 m).map fun i=>D.lst ((R i).map z9)) (t:Int)=some (.lst ((R t).map z9)):=by unfold atI;rw[A0,As,z7H h];show ((A9 m).map fun i=>D.lst ((R i).map z9))[t]?=_;rw[Au,Em h];rfl
noncomputable def z09(R:Nat->List Nat)(P:List (Nat×Nat))(t:Nat):List Nat:=((R t).filter fun j=>decide (j∈P.map Bj)).map fun j=>(P.lookup j).getD 0
theorem z6F{R:Nat->List Nat}{P:List (Nat×Nat)}(hn:(P.map Bj).Nodup){t v:Nat}:v∈z09 R P t↔∃x∈P,x.1∈R t/\x.2=v:=by
 unfold z09;rw[Av];constructor
 ·rintro ⟨j,hj,rfl⟩;obtain⟨h1,h2⟩:=B2.mp hj
  have h3:(P.lookup j).isSome=true:=by rw[z36];exact h2
  obtain⟨v,hv⟩:=Ea.mp h3;exact⟨(j,v),(z8X hn).mp hv,h1,by rw[hv];rfl⟩
 ·rintro ⟨⟨j,v'⟩,hx,h1,rfl⟩;refine⟨j,B2.mpr ⟨h1,decide_eq_true (Bv (f:=Bj) hx)⟩,?_⟩;rw[(z8X hn).mpr hx];rfl
theorem w5B{α:Type}{f g:u5->Option α}{ρ:u5}(h:f ρ=none):x8L f g ρ=g ρ:=by unfold x8L;rw[h]
theorem z7U{R:Nat->List Nat}{m t:Nat}{P:List (Nat×Nat)}(ht:t<m)(hl:(R t).length≤1000):j9 [z13 R m,pgD P,z9 t]=some (.lst ((z09 R P t).map z9)):=by
 show z2F (z19 [sC (z13 R m),sC (pgD P),sC (z9 t)])=_
 have fin:z19 [sC (z13 R m),sC (pgD P),sC (z9 t)]=some (.rt (.lst ((z09 R P t).map z9))):=by
  refine z02 (z39 ((Z9 (ds:=(R t).map z9) (z28 ((z2G (ds:=(A9 m).map fun i=>D.lst ((R i).map z9)) (j:=(t:Int)) rfl rfl).trans (x6A ht))) (by rw[A0];unfold LIM;omega)).trans ?_))
  refine(J7 (fun ρ=>∃c,ρ=[c,sC (pgD P)]) (fun d=>match d with|.int x=>(P.lookup x.toNat).isSome|_=>false) (fun d=>match d with|.int x=>z9 ((P.lookup x.toNat).getD 0)|_=>.non) _ _ ⟨none,rfl⟩ ?_).trans ?_
  ·rintro d hd ρ ⟨c,rfl⟩;obtain⟨j,hj,rfl⟩:=Av.mp hd;have lk:z0U (pgK P) (pgV P) (C2 (j:Int))=(P.lookup j).map z9:=z7F j P;refine⟨_,rfl,⟨_,rfl⟩,(w5B rfl).trans (u4 ?_),fun hh=>?_⟩
   ·show some (D.bl (z0U (pgK P) (pgV P) (C2 (j:Int))).isSome)=some (D.bl (P.lookup (j:Int).toNat).isSome);rw[lk,Ao,F7]
   ·show z0U (pgK P) (pgV P) (C2 (j:Int))=some (z9 ((P.lookup (j:Int).toNat).getD 0))
    have hh':(P.lookup j).isSome=true:=by
     have:(P.lookup (j:Int).toNat).isSome=true:=hh
     rw[Ao]at this;exact this
    obtain⟨v,hv⟩:=Ea.mp hh';rw[lk,Ao,hv];rfl
  ·rw[z5B (q:=fun j=>decide (j∈P.map Bj)) _ (fun i _=>by
    show (P.lookup (i:Int).toNat).isSome=_
    rw[Ao,z36])]
   unfold z09;rw[B6,B6];rfl
 rw[fin];rfl
def cntN(vs:List Nat):Nat:=(z5U (vs.map fun (i:Nat)=>(i:Int))).length
theorem z11{vs:List Nat}(hl:vs.length≤1000){d:D}(hd:d = .lst (vs.map z9)∨d = .tup (vs.map z9)):Q9 [d]=some (z9 (cntN vs)):=by
 show z2F (z4U [sC d])=_
 have hs:dSq (z8 0) [sC d]=some (vs.map z9):=by rcases hd with rfl|rfl<;>rfl
 have fin:z4U [sC d]=some (.rt (z9 (cntN vs))):=by
  refine z02 ?_;unfold z1C;rw[hs];dsimp only;rw[z59];dsimp only;rw[if_pos (by rw[A0];omega)]
  rfl
 rw[fin];rfl
theorem x5W{vs:List Nat}{u:Nat}(h:∀v,v∈vs↔v<u):cntN vs=u:=by
 unfold cntN
 have h1:=Q4 (z5U (vs.map fun (i:Nat)=>(i:Int))) ((A9 u).map fun (i:Nat)=>(i:Int)) (z3L _) fun x hx=>by obtain⟨v,hv,rfl⟩:=Av.mp (z32.mp hx);exact Bv (Aj.mpr ((h v).mp hv))
 have h2:=Q4 ((A9 u).map fun (i:Nat)=>(i:Int)) (z5U (vs.map fun (i:Nat)=>(i:Int))) (Bu.mpr (Dt.imp fun {a b} q z=>q (by omega))) fun x hx=>by obtain⟨v,hv,rfl⟩:=Av.mp hx;exact z32.mpr (Bv ((h v).mpr (Aj.mp hv)))
 rw[A0,As]at h1 h2;omega
theorem x66(gt:Nat->Nat->Bool):∀(q j b:Nat),b<j->Y2 gt q j b<j+q
 | 0,j,b,h=>h
 |q+1,j,b,h=>by
  unfold Y2
  have:=x66 gt q (j+1) (if gt j b=true then j else b) (by split<;>omega)
  omega
noncomputable def w3I(kf:Nat->List Int):D->D
 | .int x=>.tup ((kf x.toNat).map D.int)
 |_=>.non
theorem y5P{R:Nat->List Nat}{m:Nat}{G:List Nat}{P:List (Nat×Nat)}(hG:∀t∈G,t<m)(hr:∀t,t<m->(R t).length≤1000)(hGl:G.length≤50)(eA:∃t∈G,t∉P.map Bj):
  ∃t,z49 [z13 R m,.lst (G.map z9),pgD P]=some (z9 t)/\t∈G/\t∉P.map Bj:=by
 let L:=G.filter fun t=>!decide (t∈P.map Bj)
 have hL:∀t∈L,t∈G/\t∉P.map Bj:=fun t ht=>by
  have:=B2.mp ht
  exact⟨this.1,by simpa using this.2⟩
 have hLl:L.length≤50:=Bk (D7 _ _) hGl
 have ag:L≠[]:=fun e=>by
  obtain⟨t,h1,h2⟩:=eA
  have:t∈L:=B2.mpr ⟨h1,by simpa using h2⟩
  rw[e]at this;simp at this
 let kf:Nat->List Int:=fun t=>[(cntN (z09 R P t):Int),((R t).length:Int)]
 have e1:Q3 [none,some 2] (dSq (z8 1)) (w9 0) (x8L (y9 (dIn true (z8 0) (dSq (z8 1)))) (y9 (x8P true (z8 0) (z8 1)))) (z8 0) [sC (z13 R m),sC (.lst (G.map z9)),sC (pgD P),none]=some (L.map z9):=by
  refine(Z9 (ds:=G.map z9) rfl (by rw[A0];unfold LIM;omega)).trans ?_
  refine(J7 (fun ρ=>∃c,ρ=[c,sC (pgD P)]) (fun d=>match d with|.int x=>!(P.lookup x.toNat).isSome|_=>false) (fun d=>d) _ _ ⟨none,rfl⟩ ?_).trans ?_
  ·rintro d hd ρ ⟨c,rfl⟩;obtain⟨j,hj,rfl⟩:=Av.mp hd;have lk:z0U (pgK P) (pgV P) (C2 (j:Int))=(P.lookup j).map z9:=z7F j P;refine⟨_,rfl,⟨_,rfl⟩,(w5B rfl).trans (u4 ?_),fun _=>rfl⟩;show some (D.bl (!(z0U (pgK P) (pgV P) (C2 (j:Int))).isSome))=some (D.bl (!(P.lookup (j:Int).toNat).isSome));rw[lk,Ao,F7]
  ·rw[Gr,z5B (q:=fun t=>!decide (t∈P.map Bj)) _ (fun i _=>by
    show (!(P.lookup (i:Int).toNat).isSome)=_
    rw[Ao,z36])]
 have ek:x0S (z2O (z7 (x5 Q9 (z7 (x5 j9 (z7 (z8 1) (z7 (z8 2) (z7 (z8 0) (u3))))) (u3))) (z7 (z15 (dSq (dIx (dSq (z8 1)) (z8 0)))) (u3)))) [none,sC (z13 R m),sC (pgD P)] (L.map z9)=some ((L.map z9).map (w3I kf)):=by
  refine z8W _ fun d hd=>?_;obtain⟨t,ht,rfl⟩:=Av.mp hd;have dX:=hG t (hL t ht).1;have ft:=z7U (P:=P) dX (hr t dX)
  have al:(z09 R P t).length≤1000:=by unfold z09;rw[A0];exact Bk (D7 _ _) (hr t dX)
  show z2O _ [sC (z9 t),sC (z13 R m),sC (pgD P)]=some (D.tup ((kf (t:Int).toNat).map D.int));rw[Ao];refine z5K (ds:=[z9 (cntN (z09 R P t)),z9 (R t).length]) (v8 ((w8 (ds:=[.lst ((z09 R P t).map z9)]) (v8 ((w8 (ds:=[z13 R m,pgD P,z9 t]) rfl).trans ft) rfl)).trans (z11 al (.inl rfl))) (v8 ((z29 (ds:=(R t).map z9) (z28 ((z2G (ds:=(A9 m).map fun i=>D.lst ((R i).map z9)) (j:=(t:Int)) rfl rfl).trans (x6A dX)))).trans (by rw[A0];rfl)) rfl)) (show 2≤LIM by decide)
 have hm:∃i,∃h:i<L.length,w6F ((L.map z9).map (w3I kf)) (L.map z9)=some (z9 L[i]):=by
  cases hLe:L with
  |nil=>exact absurd hLe ag
  |cons t L'=>
   have ei:W8 (((t::L').map z9).map (w3I kf))=none:=rfl
   have et:z1J (((t::L').map z9).map (w3I kf))=some ((t::L').map kf):=by
    have:=z52 (nss:=(t::L').map kf) (fun ns h=>by
     obtain⟨u,_,rfl⟩:=Av.mp h
     simp[kf])
    rw[B6]at this ⊢;exact this
   refine⟨Y2 (gtT ((t::L').map kf)) (((t::L').map z9).length-1) 1 0,?_,?_⟩
   ·have:=x66 (gtT ((t::L').map kf)) (((t::L').map z9).length-1) 1 0 (by decide)
    rw[A0,Ay]at this;rw[A0,Ay];omega
   ·show (match W8 (((t::L').map z9).map (w3I kf)) with
     |some ns=>z1G (gtI ns) ((t::L').map z9)
     |none=>(match z1J (((t::L').map z9).map (w3I kf)) with|some nss=>z1G (gtT nss) ((t::L').map z9)|none=>none))=_
    rw[ei];dsimp only;rw[et];dsimp only;unfold z1G;rw[Au,A3];rfl
 obtain⟨i,hi,em⟩:=hm;refine⟨L[i],?_,hL _ (Bw hi)⟩;show z2F (z3V [sC (z13 R m),sC (.lst (G.map z9)),sC (pgD P),none])=_
 have fin:z3V [sC (z13 R m),sC (.lst (G.map z9)),sC (pgD P),none]=some (.rt (z9 L[i])):=by refine x6 (r:=.rt .non) (K8 (z39 e1)) ?_;refine z02 ?_;unfold y2V;show (match x0S _ [none,sC (z13 R m),sC (pgD P)] (L.map z9) with|some ks=>w6F ks (L.map z9)|none=>none)=_;rw[ek];exact em
 rw[fin];rfl
theorem w4Y(P:List (Nat×Nat)):pgV P=(P.map L6).map z9:=by unfold pgV;rw[B6];rfl
theorem x91{P:List (Nat×Nat)}{K u:Nat}(hu:∀v,(∃x∈P,x.2=v)↔v<u)(hl:P.length≤1000)(hK:K≤1000):z0Q [pgD P,z9 K]=some (.lst ((A9 (Ip K (u+1))).map z9)):=by
 show z2F (z2W [sC (pgD P),sC (z9 K)])=_
 have hc:cntN (P.map L6)=u:=x5W fun v=>by rw[←hu,Av]
 have ul:u≤1000:=by
  by_cases c:u≤1000
  ·exact c
  ·exfalso
   have h2:=Q4 (A9 u) (P.map L6) Dt fun v hv=>by obtain⟨x,hx,e⟩:=(hu v).mpr (Aj.mp hv);exact Av.mpr ⟨x,hx,e⟩
   rw[As,A0]at h2;omega
 have fin:z2W [sC (pgD P),sC (z9 K)]=some (.rt (.lst ((A9 (Ip K (u+1))).map z9))):=by
  refine z02 (z39 ?_)
  have e1:x5 Q9 (z7 (dLs (x5R (z8 0))) (u3)) [sC (pgD P),sC (z9 K)]=some (z9 u):=by refine(w8 (ds:=[.lst (pgV P)]) rfl).trans ?_;rw[w4Y,z11 (by rw[A0];exact hl) (.inl rfl),hc]
  have e2:x5 x26 (z7 (z8 1) (z7 (d2 z2Q (x5 Q9 (z7 (dLs (x5R (z8 0))) (u3))) (dC (.int 1))) u3)) [sC (pgD P),sC (z9 K)]=some (.int ((Ip K (u+1):Nat):Int)):=by refine(w8 (ds:=[D.int (K:Int),D.int ((u:Int)+1)]) (v8 rfl (v8 ((z2N (x:=.int (u:Int)) (y:=.int 1) e1 rfl).trans rfl) rfl))).trans ((y8U _ _).trans ?_);congr 2;omega
  refine(z5C e2 (by omega) (by omega)).trans ?_;rw[Ao];unfold iUp;rw[B6];refine congrArg some (B7 fun i _=>?_);show D.int (0+(i:Int))=D.int (i:Int);rw[Iy]
 rw[fin];rfl
theorem x6M{P:List (Nat×Nat)}{t v:Nat}(hn:(P.map Bj).Nodup)(ht:t∉P.map Bj)(hl:P.length≤1000):z2B [pgD P,z9 t,z9 v]=some (pgD (P++[(t,v)])):=by
 show z2F (z5X [sC (pgD P),sC (z9 t),sC (z9 v),none])=_
 have fin:z5X [sC (pgD P),sC (z9 t),sC (z9 v),none]=some (.rt (pgD (P++[(t,v)]))):=by
  refine x6 (r:=.rt .non) (ρ':=[sC (pgD P),sC (z9 t),sC (z9 v),some (.od (pgK P) (pgV P))]) rfl ?_;refine x6 (r:=.rt .non) (ρ':=[sC (pgD P),sC (z9 t),sC (z9 v),some (.od (pgK (P++[(t,v)])) (pgV (P++[(t,v)])))]) ?_ rfl;show (if (pgK P).Nodup/\(pgK P).length<LIM then some (Out.nx [sC (pgD P),sC (z9 t),sC (z9 v),some (.od (z71 (pgK P) (pgV P) (C2 (t:Int)) (z9 v)).1 (z71 (pgK P) (pgV P) (C2 (t:Int)) (z9 v)).2)]) else none)=_
  rw[if_pos ⟨z6I hn,by unfold pgK;rw[A0];unfold LIM;omega⟩,y8J ht]
 rw[fin];rfl
theorem x52(a:Nat):∀E:List Nat,inD (z9 a) (E.map z9)=decide (a∈E)
 | []=>by simp[inD]
 |b::E=>by
  have ih:=x52 a E;unfold inD at ih ⊢;rw[Ai,Eo,ih];show (((b:Int)==(a:Int))||decide (a∈E))=_;by_cases h:b=a
  ·subst h;simp
  ·have h':¬a=b:=fun z=>h z.symm
   have h2:¬(b:Int)=(a:Int):=by omega
   simp[h2,h']
theorem z7P:∀S:List Nat,z00 (S.map z9)=0
 | []=>by simp[z00]
 |a::S=>by rw[Ai,z00,z7P S];simp[z9,depth]
theorem y9B{fa:ED}{fl:EL}{ρ:u5}{a:Nat}{E:List Nat}(ng:Bool)(h1:fa ρ=some (z9 a))(h2:fl ρ=some (E.map z9)):dIn ng fa fl ρ=some (.bl (if ng=true then !decide (a∈E) else decide (a∈E))):=by
 refine(x16 h1 h2 (by rw[z7P];decide) (by simp[z9,depth,z22])).trans ?_
 rw[x52]
theorem y4V(a b:Nat):dEq (z9 a) (z9 b)=some (.bl (decide (a=b))):=by
 unfold dEq;rw[if_pos (by simp[z9,depth,z22])];show some (D.bl ((a:Int)==(b:Int)))=_;congr 2;by_cases h:a=b
 ·subst h;simp
 ·have:¬(a:Int)=(b:Int):=by omega
  simp[h,this]
theorem z1Q{h:D->u5->Option u5}{g:EO}{d:D}{ds:List D}{ρ ρ1 ρ2:u5}(h1:h d ρ=some ρ1)(h2:g ρ1=some (.nx ρ2)):z0D h g (d::ds) ρ=z0D h g ds ρ2:=by
 conv=>lhs;unfold z0D
 rw[h1];dsimp only;rw[h2]
theorem y8W{h:D->u5->Option u5}{g:EO}{d v:D}{ds:List D}{ρ ρ1:u5}(h1:h d ρ=some ρ1)(h2:g ρ1=some (.rt v)):z0D h g (d::ds) ρ=some (.rt v):=by unfold z0D;rw[h1];dsimp only;rw[h2]
structure Graph(cl:Nat->Nat->Bool)(m:Nat)(R:Nat->List Nat):Prop where
 sy:∀i j,cl i j=cl j i
 ir:∀i,cl i i=false
 mem:∀t,t<m->∀j,j∈R t↔j<m/\cl t j=true
 len:∀t,t<m->(R t).length≤1000
 m12:m≤12
structure Grp(m:Nat)(G:List Nat):Prop where
 nd:G.Nodup
 lt:∀t∈G,t<m
theorem Grp.len{m:Nat}{G:List Nat}(h:Grp m G):G.length≤m:=by
 have:=Q4 G (A9 m) h.nd fun t ht=>Aj.mpr (h.lt t ht)
 rw[As]at this;exact this
section
variable{cl:Nat->Nat->Bool}{m K u:Nat}{R:Nat->List Nat}{G:List Nat}{P:List (Nat×Nat)}
theorem Part.len(h:Part cl G K u P):P.length≤G.length:=by
 have:=Q4 (P.map Bj) G h.nd fun t ht=>by obtain⟨x,hx,rfl⟩:=Av.mp ht;exact h.sub x hx
 rw[A0]at this;exact this
def z3R(Fr:LD):EO:=
 (z2E (y9 (dIn true (z8 6) (dSq (z8 5))))
 (K6 (z0H 7 (x5 Fr (z7 (z8 0) (z7 (z8 1) (z7 (x5 z2B (z7 (z8 2) (z7 (z8 4) (z7 (z8 6) (u3))))) (z7 (z8 3) (u3)))))))
 (z2E (y9 (d2 x8N (z8 7) (dC .non)))
 (z0E (z8 7))
 (Z3)))
 (Z3))
def x1A(R:Nat->List Nat)(m:Nat)(G:List Nat)(P:List (Nat×Nat))(K t:Nat)(c6 c7:Option Cell):u5:=[sC (z13 R m),sC (.lst (G.map z9)),sC (pgD P),sC (z9 K),sC (z9 t),sC (.lst ((z09 R P t).map z9)),c6,c7]
def w6J(cl:Nat->Nat->Bool)(G:List Nat)(K:Nat)(P:List (Nat×Nat))(res:D):Prop:=(res = .non/\∀c,GCol cl G c K->¬w3N c P)∨∃P' u',res=pgD P'/\Part cl G K u' P'/\P'.length=G.length
theorem y91(hg:Graph cl m R)(hG:Grp m G)(h:Part cl G K u P){t:Nat}(ht:t∈G)(hn:t∉P.map Bj){Fr:LD}(hF:∀(P':List (Nat×Nat)) (u':Nat),Part cl G K u' P'->P'.length=P.length+1->∃res,Fr [z13 R m,.lst (G.map z9),pgD P',z9 K]=some res/\w6J cl G K P' res):
  ∀(vs:List Nat) (c6 c7:Option Cell),(∀v∈vs,v≤u/\v<K) ->
   (∃P' u',z0D (w9 6) (z3R Fr) (vs.map z9) (x1A R m G P K t c6 c7)=some (.rt (pgD P'))/\Part cl G K u' P'/\P'.length=G.length) ∨
   (∃ca cq,z0D (w9 6) (z3R Fr) (vs.map z9) (x1A R m G P K t c6 c7)=some (.nx (x1A R m G P K t ca cq))/\∀v∈vs,v∉z09 R P t->∀c,GCol cl G c K->¬w3N c (P++[(t,v)]))
 | [],c6,c7,_=>.inr ⟨c6,c7,rfl,fun v hv=>by simp at hv⟩
 |v::vs,c6,c7,hv=>by
  have dX:=hG.lt t ht
  have pl:P.length≤1000:=by have:=h.len;have:=hG.len;have:=hg.m12;omega
  have gT:=hv v A6;have rest:=y91 hg hG h ht hn hF vs;have e1:y9 (dIn true (z8 6) (dSq (z8 5))) (x1A R m G P K t (sC (z9 v)) c7)=some (!decide (v∈z09 R P t)):=u4 (y9B true rfl rfl);by_cases c:v∈z09 R P t
  ·rw[decide_eq_true c]at e1;have st:z0D (w9 6) (z3R Fr) ((v::vs).map z9) (x1A R m G P K t c6 c7)=z0D (w9 6) (z3R Fr) (vs.map z9) (x1A R m G P K t (sC (z9 v)) c7):=z1Q rfl ((J9 e1).trans rfl);rw[st];rcases rest (sC (z9 v)) c7 (fun w hw=>hv w (A7 _ hw)) with z|⟨a,b,z1,z2⟩
   ·exact .inl z
   ·refine .inr ⟨a,b,z1,fun w hw gU=>?_⟩;rcases Af.mp hw with y|y
    ·subst y;exact absurd c gU
    ·exact z2 w y gU
  ·rw[decide_eq_false c]at e1;have bu:∀x∈P,cl t x.1=true->x.2≠v:=fun x hx hc e=>c ((z6F h.nd).mpr ⟨x,hx,(hg.mem t dX x.1).mpr ⟨hG.lt _ (h.sub x hx),hc⟩,e⟩);have hp:=h.add hg.sy hg.ir ht hn gT.1 gT.2 bu;obtain⟨res,er,hT⟩:=hF _ _ hp (by rw[Ad,Az]);have ew:=x6M (v:=v) h.nd hn pl
   have es:z0H 7 (x5 Fr (z7 (z8 0) (z7 (z8 1) (z7 (x5 z2B (z7 (z8 2) (z7 (z8 4) (z7 (z8 6) (u3))))) (z7 (z8 3) (u3)))))) (x1A R m G P K t (sC (z9 v)) c7)=some (.nx (x1A R m G P K t (sC (z9 v)) (sC res))):=(K8 (d:=res) ((w8 (ds:=[z13 R m,.lst (G.map z9),pgD (P++[(t,v)]),z9 K]) (v8 rfl (v8 rfl (v8 ((w8 (ds:=[pgD P,z9 t,z9 v]) rfl).trans ew) rfl)))).trans er)).trans rfl
   rcases hT with⟨rfl,dA⟩|⟨P',u',rfl,hP',cp⟩
   ·have st:z0D (w9 6) (z3R Fr) ((v::vs).map z9) (x1A R m G P K t c6 c7)=z0D (w9 6) (z3R Fr) (vs.map z9) (x1A R m G P K t (sC (z9 v)) (sC .non)):=z1Q rfl ((J9 e1).trans (x6 (r:=.rt .non) es ((J9 (a:=false) (u4 rfl)).trans rfl)))
    rw[st];rcases rest (sC (z9 v)) (sC .non) (fun w hw=>hv w (A7 _ hw)) with z|⟨a,b,z1,z2⟩
    ·exact .inl z
    ·refine .inr ⟨a,b,z1,fun w hw gU=>?_⟩;rcases Af.mp hw with y|y
     ·subst y;exact dA
     ·exact z2 w y gU
   ·exact .inl ⟨P',u',y8W rfl ((J9 e1).trans (x6 (r:=.rt .non) es ((J9 (a:=true) (u4 rfl)).trans rfl))),hP',cp⟩
theorem z88(hg:Graph cl m R)(hG:Grp m G)(hK:K≤1000):∀(q:Nat) (P:List (Nat×Nat)) (u:Nat),Part cl G K u P->G.length<q+P.length ->
  ∃res,W6 q [z13 R m,.lst (G.map z9),pgD P,z9 K]=some res/\w6J cl G K P res
 | 0,P,u,h,hq=>by have:=h.len;omega
 |q+1,P,u,h,hq=>by
  have hl:=h.len;have gl:=hG.len;have m12:=hg.m12
  have e0:y9 (d2 dEq (y76 (z8 2)) (z15 (dSq (z8 1)))) [sC (z13 R m),sC (.lst (G.map z9)),sC (pgD P),sC (z9 K),none,none,none,none]=some (decide (P.length=G.length)):=by
   refine u4 ((z2N (x:=z9 P.length) (y:=z9 G.length) ?_ ((z29 (ds:=G.map z9) rfl).trans (by rw[A0];rfl))).trans (y4V _ _))
   show some (D.int ((pgK P).length:Int))=_;unfold pgK;rw[A0];rfl
  by_cases c:P.length=G.length
  ·rw[decide_eq_true c]at e0;refine⟨pgD P,?_,.inr ⟨P,u,rfl,h,c⟩⟩;show z2F (z38 (W6 q) [sC (z13 R m),sC (.lst (G.map z9)),sC (pgD P),sC (z9 K),none,none,none,none])=_;rw[show z38 (W6 q) [sC (z13 R m),sC (.lst (G.map z9)),sC (pgD P),sC (z9 K),none,none,none,none]=some (.rt (pgD P)) from z1S ((J9 e0).trans rfl)];rfl
  ·rw[decide_eq_false c]at e0
   have eA:∃t∈G,t∉P.map Bj:=by
    by_cases hh:∃t∈G,t∉P.map Bj
    ·exact hh
    ·exfalso
     have:=Q4 G (P.map Bj) hG.nd fun t ht=>by
      by_cases z:t∈P.map Bj
      ·exact z
      ·exact absurd ⟨t,ht,z⟩ hh
     rw[A0]at this;omega
   obtain⟨t,eh,ht,hn⟩:=y5P (R:=R) (P:=P) hG.lt hg.len (by omega) eA;have dX:=hG.lt t ht;have et:=z7U (P:=P) dX (hg.len t dX);have ey:=x91 (K:=K) h.use (by omega) hK
   have pre:∀o,K6 (z6S (dSq (x5 z0Q (z7 (z8 2) (z7 (z8 3) (u3))))) (w9 6) (z3R (W6 q))) (z0E (dC .non)) (x1A R m G P K t none none)=o->z38 (W6 q) [sC (z13 R m),sC (.lst (G.map z9)),sC (pgD P),sC (z9 K),none,none,none,none]=o:=fun o ho=>by refine x6 (r:=.rt .non) ((J9 e0).trans rfl) ?_;refine x6 (r:=.rt .non) (K8 (d:=z9 t) ((w8 (ds:=[z13 R m,.lst (G.map z9),pgD P]) rfl).trans eh)) ?_;exact x6 (r:=.rt .non) (K8 (d:=.lst ((z09 R P t).map z9)) ((w8 (ds:=[z13 R m,pgD P,z9 t]) rfl).trans et)) ho
   have ju:z6S (dSq (x5 z0Q (z7 (z8 2) (z7 (z8 3) (u3))))) (w9 6) (z3R (W6 q)) (x1A R m G P K t none none)=z0D (w9 6) (z3R (W6 q)) ((A9 (Ip K (u+1))).map z9) (x1A R m G P K t none none):=z10 (z28 ((w8 (ds:=[pgD P,z9 K]) rfl).trans ey))
   rcases y91 hg hG h ht hn (Fr:=W6 q) (fun P' u' hP' cp=>z88 hg hG hK q P' u' hP' (by omega)) (A9 (Ip K (u+1))) none none (fun v hv=>by have:=Aj.mp hv;omega) with⟨P',u',z1,z2,z3⟩|⟨c6,c7,z1,z2⟩
   ·refine⟨pgD P',?_,.inr ⟨P',u',rfl,z2,z3⟩⟩;show z2F (z38 (W6 q) [sC (z13 R m),sC (.lst (G.map z9)),sC (pgD P),sC (z9 K),none,none,none,none])=_;rw[pre _ (z1S (ju.trans z1))];rfl
   ·refine⟨.non,?_,.inl ⟨rfl,fun cc hc he=>?_⟩⟩
    ·show z2F (z38 (W6 q) [sC (z13 R m),sC (.lst (G.map z9)),sC (pgD P),sC (z9 K),none,none,none,none])=_;rw[pre (some (.rt .non)) (x6 (r:=.rt .non) (ju.trans z1) (z02 rfl))];rfl
    ·obtain⟨v,v1,v2,v3,c',c1,c2⟩:=h.try hc he ht hn;refine z2 v (Aj.mpr (by omega)) (fun hm=>?_) c' c1 c2;obtain⟨x,hx,hxr,e⟩:=(z6F h.nd).mp hm;exact v3 x hx ((hg.mem t dX x.1).mp hxr).2 e
end
section
variable{cl:Nat->Nat->Bool}{m:Nat}{R:Nat->List Nat}
def y1T(cl:Nat->Nat->Bool)(m:Nat)(G:List Nat):Prop:=∀x∈G,∀j,j<m->cl x j=true->j∈G
def w8N(cl:Nat->Nat->Bool)(m t:Nat)(G:List Nat):Prop:=∀A:Nat->Prop,(∀x j,x<m->j<m->A x->cl x j=true->A j)->¬A t->∀x∈G,¬A x
structure GI(cl:Nat->Nat->Bool)(m t:Nat)(R:Nat->List Nat)(G:List Nat)(k:Nat):Prop where
 gr:Grp m G
 kl:k≤G.length
 has:t∈G
 clo:∀i,i<k->∀x,G[i]?=some x->∀j∈R x,j∈G
 aw:w8N cl m t G
def w09:EB:=y9 (d2 dLt (z8 3) (z15 (z4Z 2)))
def w0A:EO:=
 (K6 (x6R 2 (Q3 [none,some 2] (dSq (dIx (dSq (z8 0)) (dIx (z4Z 2) (z8 3)))) (w9 0) (y9 (dIn true (z8 0) (z4Z 1))) (z8 0)))
 (x1G 3 (dC (.int 1))))
def w0G(R:Nat->List Nat)(m t:Nat)(G:List Nat)(k:Nat):u5:=[sC (z13 R m),sC (z9 t),some (.ow (G.map z9)),sC (z9 k)]
theorem x58(t:Nat)(G:List Nat)(k:Nat):w09 (w0G R m t G k)=some (decide (k<G.length)):=by
 refine u4 ((z2N (x:=z9 k) (y:=z9 G.length) rfl ((z29 (ds:=G.map z9) rfl).trans (by rw[A0];rfl))).trans ?_)
 show some (D.bl (decide ((k:Int)<(G.length:Int))))=_;congr 2;exact decide_eq_decide.mpr (by omega)
theorem x59(hg:Graph cl m R)(aB:∀t,t<m->(R t).Nodup){t:Nat}{G:List Nat}{k:Nat}(h:GI cl m t R G k)(hk:k<G.length):∃G',w0A (w0G R m t G k)=some (.nx (w0G R m t G' (k+1)))/\GI cl m t R G' (k+1):=by
 have hx:G[k]<m:=h.gr.lt _ (Bw hk);have m12:=hg.m12;have gl:=h.gr.len
 let new:=(R G[k]).filter fun j=>!decide (j∈G)
 have e1:Q3 [none,some 2] (dSq (dIx (dSq (z8 0)) (dIx (z4Z 2) (z8 3)))) (w9 0) (y9 (dIn true (z8 0) (z4Z 1))) (z8 0) (w0G R m t G k)=some (new.map z9):=by
  have ei:dIx (z4Z 2) (z8 3) (w0G R m t G k)=some (z9 G[k]):=by refine(z2G (ds:=G.map z9) (j:=(k:Int)) rfl rfl).trans ?_;unfold atI;rw[A0,z7H hk];show (G.map z9)[k]?=_;rw[Au,A3 hk];rfl
  refine(Z9 (ds:=(R G[k]).map z9) (z28 ((z2G (ds:=(A9 m).map fun i=>D.lst ((R i).map z9)) (j:=(G[k]:Int)) rfl ei).trans (x6A hx))) (by rw[A0];have:=hg.len _ hx;unfold LIM;omega)).trans ?_
  refine(J7 (fun ρ=>∃c,ρ=[c,some (.ow (G.map z9))]) (fun d=>match d with|.int x=>!decide (x.toNat∈G)|_=>false) (fun d=>d) _ _ ⟨none,rfl⟩ ?_).trans ?_
  ·rintro d hd ρ ⟨c,rfl⟩;obtain⟨j,hj,rfl⟩:=Av.mp hd;refine⟨_,rfl,⟨_,rfl⟩,u4 ((y9B true rfl rfl).trans ?_),fun _=>rfl⟩;show some (D.bl (!decide (j∈G)))=some (D.bl (!decide ((j:Int).toNat∈G)));rw[Ao]
  ·rw[Gr,z5B (q:=fun j=>!decide (j∈G)) _ (fun i _=>by
    show (!decide ((i:Int).toNat∈G))=_
    rw[Ao])]
 have bE:∀j∈new,(j<m/\cl G[k] j=true)/\j∉G:=fun j hj=>by
  have:=B2.mp hj
  exact⟨(hg.mem _ hx j).mp this.1,by simpa using this.2⟩
 have gr':Grp m (G++new):=by
  refine⟨?_,fun x aI=>?_⟩
  ·rw[Cc];refine⟨h.gr.nd,(aB _ hx).sublist Fg,fun a ha b hb e=>(bE b hb).2 (e▸ha)⟩
  ·rcases Aw.mp aI with z|z
   ·exact h.gr.lt x z
   ·exact(bE x z).1.1
 refine⟨G++new,?_,gr',by rw[Ad];omega,B9 _ h.has,fun i hi x aI j hj=>?_,fun A hA hn x aI=>?_⟩
 ·have gl':=gr'.len;rw[Ad]at gl';refine x6 (r:=.rt .non) (ρ':=w0G R m t (G++new) k) ((x5J (ds:=G.map z9) rfl e1 (by rw[A0,A0];unfold LIM;omega)).trans ?_) ?_
  ·rw[←Ba];rfl
  ·show some (Out.nx [sC (z13 R m),sC (z9 t),some (.ow ((G++new).map z9)),sC (.int ((k:Int)+1))])=_;rfl
 ·by_cases c:i<k
  ·rw[Dg (by omega)]at aI;exact B9 _ (h.clo i c x aI j hj)
  ·have:i=k:=by omega
   subst this;rw[Dg hk,A3 hk]at aI;cases aI;by_cases d:j∈G
   ·exact B9 _ d
   ·exact Ab _ (B2.mpr ⟨hj,by simpa using d⟩)
 ·rcases Aw.mp aI with z|z
  ·exact h.aw A hA hn x z
  ·intro hax;have hq:=bE x z;refine h.aw A hA hn _ (Bw hk) (hA x _ hq.1.1 hx hax ?_);rw[hg.sy];exact hq.1.2
theorem y9E(hg:Graph cl m R)(aB:∀t,t<m->(R t).Nodup){t:Nat}:∀(f:Nat) (G:List Nat) (k:Nat),GI cl m t R G k->m<f+k->∃G',z3B f w09 w0A (w0G R m t G k)=some (.nx (w0G R m t G' G'.length))/\GI cl m t R G' G'.length
 | 0,G,k,h,hf=>by
  have:=h.kl
  have:=h.gr.len
  omega
 |f+1,G,k,h,hf=>by
  unfold z3B;rw[x58];by_cases c:k<G.length
  ·rw[decide_eq_true c];obtain⟨G',e,h'⟩:=x59 hg aB h c;dsimp only;rw[e];exact y9E hg aB f G' (k+1) h' (by omega)
  ·rw[decide_eq_false c]
   have:k=G.length:=by have:=h.kl;omega
   subst this;exact⟨G,rfl,h⟩
theorem x25(hg:Graph cl m R)(aB:∀t,t<m->(R t).Nodup){t:Nat}(ht:t<m):∃G,z1I [z13 R m,z9 t]=some (.lst (G.map z9))/\Grp m G/\t∈G/\y1T cl m G/\w8N cl m t G:=by
 have h0:GI cl m t R [t] 0:=⟨⟨Da _ _,fun x hx=>by rw[Ae.mp hx];exact ht⟩,Bf _,Ae.mpr rfl,fun i hi=>absurd hi (F1 _),fun A _ hn x hx=>by rw[Ae.mp hx];exact hn⟩
 obtain⟨G,e,h⟩:=y9E hg aB 200 [t] 0 h0 (by have:=hg.m12;omega)
 refine⟨G,?_,h.gr,h.has,fun x hx j hj hc=>?_,h.aw⟩
 ·show z2F (z2X [sC (z13 R m),sC (z9 t),none,none])=_
  have fin:z2X [sC (z13 R m),sC (z9 t),none,none]=some (.rt (.lst (G.map z9))):=by refine x6 (r:=.rt .non) (z4X (ds:=[z9 t]) (z5L rfl (show 1≤LIM by decide))) ?_;refine x6 (r:=.rt .non) (K8 (d:=z9 0) rfl) ?_;exact x6 (r:=.rt .non) e rfl
  rw[fin];rfl
 ·obtain⟨i,hi,e'⟩:=Ek hx;exact h.clo i hi x (by rw[A3 hi,e']) j ((hg.mem x (h.gr.lt x hx) j).mpr ⟨hj,hc⟩)
structure GsI(cl:Nat->Nat->Bool)(m:Nat)(Gs:List (List Nat))(gd:List Nat):Prop where
 gr:∀G∈Gs,Grp m G/\y1T cl m G
 dis:Gs.Pairwise fun G G'=>∀x∈G,x∉G'
 nd:gd.Nodup
 mem:∀x,x∈gd↔∃G∈Gs,x∈G
noncomputable def trK(gd:List Nat):List Key:=gd.map fun (x:Nat)=>(C2 (x:Int):Key)
noncomputable def trV(gd:List Nat):List D:=gd.map fun _=>D.bl true
def x17(R:Nat->List Nat)(m:Nat)(Gs:List (List Nat))(gd:List Nat)(c3 c4:Option Cell):u5:=[sC (z13 R m),some (.ow (Gs.map fun G=>.lst (G.map z9))),some (.od (trK gd) (trV gd)),c3,c4]
theorem x4G(t:Nat):∀gd:List Nat,(z0U (trK gd) (trV gd) (C2 (t:Int))).isSome=decide (t∈gd)
 | []=>rfl
 |a::gd=>by
  show (if (C2 (a:Int):Key)=C2 (t:Int) then some (D.bl true) else z0U (trK gd) (trV gd) (C2 (t:Int))).isSome=_;by_cases h:a=t
  ·subst h;rw[if_pos rfl];simp
  ·rw[if_neg (fun z=>h (by have:=Fp z;omega)),x4G t gd]
   have h':¬t=a:=fun z=>h z.symm;simp[h']
theorem w4P{gd:List Nat}{t:Nat}(h:t∉gd):z71 (trK gd) (trV gd) (C2 (t:Int)) (.bl true)=(trK (gd++[t]),trV (gd++[t])):=by
 rw[z8U _ _ _ _ (by unfold trK trV;rw[A0,A0]) (fun z=>by
  obtain⟨x,hx,e⟩:=Av.mp z
  have:x=t:=by have:=Fp e;omega
  exact h (this▸hx))]
 unfold trK trV;rw[Ba,Ba];rfl
theorem x2R{gd:List Nat}(h:gd.Nodup):(trK gd).Nodup:=by unfold trK;exact Bu.mpr (h.imp fun {a b} q z=>q (by have:=Fp z;omega))
theorem z9L{Gs:List (List Nat)}{c3:Option Cell}:∀(G gd:List Nat) (c4:Option Cell),(gd++G).Nodup->(gd++G).length≤1000->∃bD,z0D (w9 4) (y72 2 (z8 4) (dC (.bl true))) (G.map z9) (x17 R m Gs gd c3 c4)=some (.nx (x17 R m Gs (gd++G) c3 bD))
 | [],gd,c4,_,_=>⟨c4,by rw[Ch];rfl⟩
 |t::G,gd,c4,hn,hl=>by
  have bj:((gd++[t])++G).Nodup:=by rw[Co];exact hn
  have cp:((gd++[t])++G).length≤1000:=by rw[Co];exact hl
  obtain⟨bD,e⟩:=z9L (Gs:=Gs) (c3:=c3) G (gd++[t]) (sC (z9 t)) bj cp;have ht:t∉gd:=fun z=>(Cc.mp hn).2.2 t z t A6 rfl;have hgd:=(Cc.mp hn).1
  have st:y72 2 (z8 4) (dC (.bl true)) (x17 R m Gs gd c3 (sC (z9 t)))=some (.nx (x17 R m Gs (gd++[t]) c3 (sC (z9 t)))):=by
   show (if (trK gd).Nodup/\(trK gd).length<LIM then some (Out.nx [sC (z13 R m),some (.ow (Gs.map fun G=>.lst (G.map z9))),some (.od (z71 (trK gd) (trV gd) (C2 (t:Int)) (.bl true)).1 (z71 (trK gd) (trV gd) (C2 (t:Int)) (.bl true)).2),c3,sC (z9 t)]) else none)=_;rw[Ad]at hl;rw[if_pos ⟨x2R hgd,by unfold trK;rw[A0];unfold LIM;omega⟩,w4P ht]
   rfl
  refine⟨bD,?_⟩;rw[Ai,z1Q rfl st,e,Co];rfl
def w08:EO:=
 (z2E (y9 (x1F true (z8 3) 2))
 (K6 (y9L 1 (x5 z1I (z7 (z8 0) (z7 (z8 3) (u3)))))
 (z6S (dSq (dIx (z4Z 1) (x1D (dC (.int 1))))) (w9 4)
 (y72 2 (z8 4) (dC (.bl true)))))
 (Z3))
theorem x57(hg:Graph cl m R)(aB:∀t,t<m->(R t).Nodup){Gs:List (List Nat)}{gd:List Nat}(h:GsI cl m Gs gd)(hGl:Gs.length≤100){t:Nat}(ht:t<m){c4:Option Cell}:
  ∃iP gX bD,w08 (x17 R m Gs gd (sC (z9 t)) c4)=some (.nx (x17 R m iP gX (sC (z9 t)) bD))/\GsI cl m iP gX/\iP.length≤Gs.length+1/\(∀x∈gd,x∈gX)/\t∈gX:=by
 have e0:y9 (x1F true (z8 3) 2) (x17 R m Gs gd (sC (z9 t)) c4)=some (!decide (t∈gd)):=by refine u4 ?_;show some (D.bl (!(z0U (trK gd) (trV gd) (C2 (t:Int))).isSome))=_;rw[x4G]
 by_cases c:t∈gd
 ·rw[decide_eq_true c]at e0;exact⟨Gs,gd,c4,(J9 e0).trans rfl,h,Dq _,fun x hx=>hx,c⟩
 ·rw[decide_eq_false c]at e0;obtain⟨G,eG,g1,g2,g3,g4⟩:=x25 hg aB ht
  have bP:∀x∈G,x∉gd:=g4 (fun x=>x∈gd) (fun x j hx hj hA hc=>by
   obtain⟨G',bc,aI⟩:=(h.mem x).mp hA
   exact(h.mem j).mpr ⟨G',bc,(h.gr G' bc).2 x aI j hj hc⟩) c
  have hn:(gd++G).Nodup:=by rw[Cc];exact⟨h.nd,g1.nd,fun a ha b hb e=>bP b hb (e▸ha)⟩
  have m12:=hg.m12
  have al:∀x∈gd++G,x<m:=fun x hx=>by
   rcases Aw.mp hx with z|z
   ·obtain⟨G',bc,aI⟩:=(h.mem x).mp z;exact(h.gr G' bc).1.lt x aI
   ·exact g1.lt x z
  have hl:(gd++G).length≤1000:=by
   have:=Q4 _ (A9 m) hn fun x hx=>Aj.mpr (al x hx)
   rw[As]at this;omega
  obtain⟨bD,el⟩:=z9L (R:=R) (m:=m) (Gs:=Gs++[G]) (c3:=sC (z9 t)) G gd c4 hn hl;refine⟨Gs++[G],gd++G,bD,?_,⟨fun G' bc=>?_,?_,hn,fun x=>?_⟩,by rw[Ad,Az];exact Ak _,fun x hx=>B9 _ hx,Ab _ g2⟩
  ·refine(J9 e0).trans ?_;rw[if_pos (by decide)];refine x6 (r:=.rt .non) (ρ':=x17 R m (Gs++[G]) gd (sC (z9 t)) c4) ((y9H (ds:=Gs.map fun G=>D.lst (G.map z9)) (d:=.lst (G.map z9)) rfl ((w8 (ds:=[z13 R m,z9 t]) rfl).trans eG) (by rw[A0];unfold LIM;omega)).trans ?_) ?_
   ·unfold x17;rw[Ba];rfl
   ·refine(z10 (ds:=G.map z9) (z28 ((z2G (ds:=(Gs++[G]).map fun G=>D.lst (G.map z9)) (j:=-1) rfl rfl).trans ?_))).trans el;unfold atI ixN;rw[A0,Ad,Az,if_neg (by decide),if_pos (by omega)];show ((Gs++[G]).map fun G=>D.lst (G.map z9))[(-1+((Gs.length+1:Nat):Int)).toNat]?=_;rw[show (-1+((Gs.length+1:Nat):Int)).toNat=Gs.length by omega,Au,List.getElem?_concat_length]
    rfl
  ·rcases Aw.mp bc with z|z
   ·exact h.gr G' z
   ·rw[Ae.mp z];exact⟨g1,g3⟩
  ·rw[Cq];refine⟨h.dis,Da _ _,fun G' bc G2 hG2 x hx=>?_⟩;rw[Ae.mp hG2];exact fun z=>bP x z ((h.mem x).mpr ⟨G',bc,hx⟩)
  ·rw[Aw,h.mem];constructor
   ·rintro (⟨G',bc,hx⟩|hx)
    ·exact⟨G',B9 _ bc,hx⟩
    ·exact⟨G,Ab _ (Ae.mpr rfl),hx⟩
   ·rintro ⟨G',bc,hx⟩;rcases Aw.mp bc with z|z
    ·exact .inl ⟨G',z,hx⟩
    ·rw[Ae.mp z]at hx;exact .inr hx
theorem y7R(hg:Graph cl m R)(aB:∀t,t<m->(R t).Nodup):∃Gs:List (List Nat),z67 [z13 R m]=some (.lst (Gs.map fun G=>.lst (G.map z9)))/\(∀G∈Gs,Grp m G/\y1T cl m G)/\(Gs.Pairwise fun G G'=>∀x∈G,x∉G')/\∀t,t<m->∃G∈Gs,t∈G:=by
 have m12:=hg.m12
 obtain⟨ρ',l1,Gs,gd,c3,c4,rfl,h,hl,bd⟩:=z55 (h:=w9 3) (g:=w08) (fun pre ρ=>∃(Gs:List (List Nat)) (gd:List Nat) (c3 c4:Option Cell),ρ=x17 R m Gs gd c3 c4/\GsI cl m Gs gd/\Gs.length≤pre.length/\∀t,t<pre.length->t∈gd)
  (ds:=K5 0 m) (ρ:=x17 R m [] [] none none) ⟨[],[],none,none,rfl,⟨fun G hG=>by simp at hG,Eh,Dx,fun x=>by simp⟩,Ak _,fun t ht=>absurd ht (F1 _)⟩ (fun pre d post ρ he hI=>by
   obtain⟨Gs,gd,c3,c4,rfl,h,hl,bd⟩:=hI;have ab:=congrArg Fq he;rw[z0P,Ad,Ay]at ab
   have hd:d=z9 pre.length:=by
    have h1:(K5 0 m)[pre.length]?=some d:=by rw[←he];simp
    rw[y02 (by omega)]at h1;exact(Bc h1).symm
   subst hd;obtain⟨iP,gX,bD,e,h',l',s',t'⟩:=x57 hg aB h (by omega) (show pre.length<m by omega) (c4:=c4);refine⟨_,_,rfl,.inl e,iP,gX,_,bD,rfl,h',by rw[Ad,Az];omega,fun t ht=>?_⟩
   rw[Ad,Az]at ht;by_cases c:t=pre.length
   ·rw[c];exact t'
   ·exact s' t (bd t (by omega)))
 refine⟨Gs,?_,h.gr,h.dis,fun t ht=>(h.mem t).mp (bd t (by rw[z0P];exact ht))⟩
 show z2F (z61 [sC (z13 R m),none,none,none,none])=_
 have fin:z61 [sC (z13 R m),none,none,none,none]=some (.rt (.lst (Gs.map fun G=>.lst (G.map z9)))):=by
  refine x6 (r:=.rt .non) (z4X (ds:=[]) (z5L (ds:=[]) rfl (by decide))) ?_;refine x6 (r:=.rt .non) (ρ':=x17 R m [] [] none none) rfl ?_;refine x6 (r:=.rt .non) ((z10 (ds:=K5 0 m) ?_).trans l1) rfl;have e4:=z62 (fa:=z15 (dSq (z8 0))) (ρ:=x17 R m [] [] none none) (j:=(((A9 m).map fun i=>D.lst ((R i).map z9)).length:Int)) rfl (by rw[A0,As];unfold okR;rw[decide_eq_true (by omega),decide_eq_true (by omega)];rfl)
  rw[A0,As,Ao]at e4;exact e4
 rw[fin];rfl
def y0X(cl:Nat->Nat->Bool)(m K:Nat):Prop:=∀c K',Col cl m c K'->K≤K'
theorem y6U{G:List Nat}{i j:Nat}(hi:i∈G)(hj:j∈G)(e:G.idxOf i=G.idxOf j):i=j:=by
 have l1:G.idxOf i<G.length:=Cg hi;have l2:G.idxOf j<G.length:=Cg hj
 have g1:G[G.idxOf i]?=some i:=by rw[A3 l1,Hi]
 have g2:G[G.idxOf j]?=some j:=by rw[A3 l2,Hi]
 rw[e,g2]at g1;exact(Bc g1).symm
theorem x8F(hg:Graph cl m R){G:List Nat}{K:Nat}(h:G.length≤K):GCol cl G (fun i=>G.idxOf i) K:=by
 refine⟨fun i hi=>?_,fun i hi j hj hc e=>?_⟩
 ·have:=Cg hi
  omega
 ·have:=y6U hi hj e
  subst this;rw[hg.ir]at hc;cases hc
theorem y0X.up{G:List Nat}{K:Nat}(h:y0X cl m K)(hG:Grp m G)(dA:∀c,¬GCol cl G c K):y0X cl m (K+1):=fun c K' hc=>by
 have h1:=h c K' hc;by_cases e:K'=K
 ·exfalso;subst e;exact dA c ⟨fun i hi=>hc.lt i (hG.lt i hi),fun i hi j hj ay=>hc.ne i j (hG.lt i hi) (hG.lt j hj) ay⟩
 ·omega
def w7G:ED:=x5 (W6 12) (z7 (z8 0) (z7 (z8 3) (z7 (dDs (fun _=>some ([],[]))) (z7 (z8 1) (u3)))))
def x19(R:Nat->List Nat)(m K:Nat)(P:List (Nat×Nat))(c3 c4:Option Cell):u5:=[sC (z13 R m),sC (z9 K),some (.od (pgK P) (pgV P)),c3,c4]
theorem x4O(hg:Graph cl m R){G:List Nat}(hG:Grp m G)(hm:m≤11){K:Nat}(hK:K≤1000){P:List (Nat×Nat)}{c4:Option Cell}:∃res,w7G (x19 R m K P (sC (.lst (G.map z9))) c4)=some res/\w6J cl G K [] res:=by
 obtain⟨res,e,h⟩:=z88 hg hG hK 12 [] 0 Part.zero (by have:=hG.len;rw[Cv];omega)
 exact⟨res,(w8 (ds:=[z13 R m,.lst (G.map z9),pgD [],z9 K]) rfl).trans e,h⟩
def x76:EB:=y9 (d2 dIs (z8 4) (dC .non))
def w0V:EO:=K6 (x1G 1 (dC (.int 1))) (z0H 4 w7G)
theorem x95(hg:Graph cl m R){G:List Nat}(hG:Grp m G)(hm:m≤11){P:List (Nat×Nat)}:∀(f K:Nat) (res:D),w6J cl G K [] res->K≤m->y0X cl m K->m+1<f+K ->
  ∃K' P' u',z3B f x76 w0V (x19 R m K P (sC (.lst (G.map z9))) (sC res))=some (.nx (x19 R m K' P (sC (.lst (G.map z9))) (sC (pgD P'))))/\Part cl G K' u' P'/\P'.length=G.length/\y0X cl m K'/\K≤K'/\K'≤m
 | 0,K,res,hT,hK,hL,hf=>by omega
 |f+1,K,res,hT,hK,hL,hf=>by
  unfold z3B;rcases hT with⟨rfl,dA⟩|⟨P',u',rfl,hP,hl⟩
  ·have e0:x76 (x19 R m K P (sC (.lst (G.map z9))) (sC .non))=some true:=rfl;rw[e0];dsimp only
   have iE:∀c,¬GCol cl G c K:=fun c hc=>dA c hc fun x hx=>by simp at hx
   have hKm:K<m:=by
    by_cases z:K<m
    ·exact z
    ·exact absurd (x8F hg (by have:=hG.len;omega)) (iE _)
   obtain⟨jd,er,hT'⟩:=x4O hg hG hm (K:=K+1) (by omega) (P:=P) (c4:=sC .non)
   have eb:w0V (x19 R m K P (sC (.lst (G.map z9))) (sC .non))=some (.nx (x19 R m (K+1) P (sC (.lst (G.map z9))) (sC jd))):=x6 (r:=.rt .non) (ρ':=x19 R m (K+1) P (sC (.lst (G.map z9))) (sC .non)) rfl ((K8 er).trans rfl)
   rw[eb];obtain⟨K',P',u',e,z1,z2,z3,z4,z5⟩:=x95 hg hG hm f (K+1) jd hT' (by omega) (hL.up hG iE) (by omega);exact⟨K',P',u',e,z1,z2,z3,by omega,z5⟩
  ·have e0:x76 (x19 R m K P (sC (.lst (G.map z9))) (sC (pgD P')))=some false:=rfl;rw[e0];exact⟨K,P',u',rfl,hP,hl,hL,Ak _,hK⟩
theorem y8V:∀(P' P:List (Nat×Nat)),((P++P').map Bj).Nodup->z4C (pgK P) (pgV P) (pgK P') (pgV P')=(pgK (P++P'),pgV (P++P'))
 | [],P,_=>by rw[Ch];unfold pgK pgV;cases P<;>rfl
 | (t,v)::P',P,hn=>by
  have bj:(((P++[(t,v)])++P').map Bj).Nodup:=by rw[Co];exact hn
  have ht:t∉P.map Bj:=fun z=>by rw[Ba,Cc]at hn;exact hn.2.2 t z t (by simp) rfl
  have ih:=y8V P' (P++[(t,v)]) bj;show z4C (z71 (pgK P) (pgV P) (C2 (t:Int)) (z9 v)).1 (z71 (pgK P) (pgV P) (C2 (t:Int)) (z9 v)).2 (pgK P') (pgV P')=_;rw[y8J ht];dsimp only;rw[ih,Co];rfl
structure PI(cl:Nat->Nat->Bool)(m:Nat)(done:List (List Nat))(K:Nat)(P:List (Nat×Nat)):Prop where
 nd:(P.map Bj).Nodup
 mem:∀x,x∈P.map Bj↔∃G∈done,x∈G
 ok:∀x∈P,∀y∈P,cl x.1 y.1=true->x.2≠y.2
 lt:∀x∈P,x.2<K
 least:y0X cl m K
 Km:K≤m
def w5A:EO:=
 (K6 (z0H 4 w7G)
 (K6 (z3B 200 x76 w0V)
 (w6G 2 (z8 4))))
theorem x7V(hg:Graph cl m R)(hm:m≤11){done:List (List Nat)}{G:List Nat}(hd:∀G'∈done,Grp m G'/\y1T cl m G')(hG:Grp m G/\y1T cl m G)(bP:∀G'∈done,∀x∈G',x∉G){K:Nat}{P:List (Nat×Nat)}(h:PI cl m done K P){c4:Option Cell}:
  ∃K' P' bD,w5A (x19 R m K P (sC (.lst (G.map z9))) c4)=some (.nx (x19 R m K' P' (sC (.lst (G.map z9))) bD))/\PI cl m (done++[G]) K' P':=by
 have m12:=hg.m12;obtain⟨res,e1,hT⟩:=x4O hg hG.1 hm (K:=K) (by have:=h.Km;omega) (P:=P) (c4:=c4)
 obtain⟨K',P',u',e2,hP,hl,hL,hKK,hKm⟩:=x95 hg hG.1 hm (P:=P) 200 K res hT h.Km h.least (by omega)
 have hx:∀x∈P',x.1∉P.map Bj:=fun x hx z=>by obtain⟨G',bc,aI⟩:=(h.mem x.1).mp z;exact bP G' bc x.1 aI (hP.sub x hx)
 have aB:((P++P').map Bj).Nodup:=by rw[Ba,Cc];refine⟨h.nd,hP.nd,fun a ha b hb e=>?_⟩;obtain⟨x,aI,rfl⟩:=Av.mp hb;exact hx x aI (e▸ha)
 have ab:(P++P').length≤1000:=by
  have:=Q4 ((P++P').map Bj) (A9 m) aB fun x aI=>by
   rw[Ba,Aw]at aI;rcases aI with z|z
   ·obtain⟨G',bc,fW⟩:=(h.mem x).mp z;exact Aj.mpr ((hd G' bc).1.lt x fW)
   ·obtain⟨y,hy,rfl⟩:=Av.mp z;exact Aj.mpr (hG.1.lt _ (hP.sub y hy))
  rw[A0,As]at this;omega
 have sep:∀x∈P,∀y∈P',cl x.1 y.1=true->False:=fun x aI y hy hc=>by obtain⟨G',bc,fW⟩:=(h.mem x.1).mp (Bv aI);exact bP G' bc y.1 ((hd G' bc).2 x.1 fW y.1 (hG.1.lt _ (hP.sub y hy)) hc) (hP.sub y hy)
 refine⟨K',P++P',sC (pgD P'),?_,aB,fun x=>?_,fun x aI y hy hc=>?_,fun x aI=>?_,hL,hKm⟩
 ·refine x6 (r:=.rt .non) (K8 e1) (x6 (r:=.rt .non) e2 ?_);show (if (pgK P).Nodup/\(pgK P).length+(pgK P').length≤LIM then some (Out.nx [sC (z13 R m),sC (z9 K'),some (.od (z4C (pgK P) (pgV P) (pgK P') (pgV P')).1 (z4C (pgK P) (pgV P) (pgK P') (pgV P')).2),sC (.lst (G.map z9)),sC (pgD P')]) else none)=_;rw[Ad]at ab;rw[if_pos ⟨z6I h.nd,by unfold pgK;rw[A0,A0];unfold LIM;omega⟩,y8V P' P aB]
  rfl
 ·rw[Ba,Aw,h.mem];constructor
  ·rintro (⟨G',bc,aI⟩|aI)
   ·exact⟨G',B9 _ bc,aI⟩
   ·obtain⟨y,hy,rfl⟩:=Av.mp aI;exact⟨G,Ab _ (Ae.mpr rfl),hP.sub y hy⟩
  ·rintro ⟨G',bc,aI⟩;rcases Aw.mp bc with z|z
   ·exact .inl ⟨G',z,aI⟩
   ·rw[Ae.mp z]at aI;exact .inr (hP.full hG.1.nd hl x aI)
 ·rcases Aw.mp aI with z|z<;>rcases Aw.mp hy with z'|z'
  ·exact h.ok x z y z' hc
  ·exact absurd hc fun hc=>sep x z y z' hc
  ·exact absurd hc fun hc=>sep y z' x z (by rw[hg.sy];exact hc)
  ·exact hP.ok x z y z' hc
 ·rcases Aw.mp aI with z|z
  ·have:=h.lt x z
   omega
  ·have:=(hP.use x.2).mp ⟨x,z,rfl⟩
   have:=hP.uK
   omega
theorem y43(hg:Graph cl m R)(hm:m≤11):∀(Gs done:List (List Nat)) (K:Nat) (P:List (Nat×Nat)) (c3 c4:Option Cell),(∀G'∈done++Gs,Grp m G'/\y1T cl m G')->((done++Gs).Pairwise fun G G'=>∀x∈G,x∉G')->PI cl m done K P ->
  ∃K' P' fj bD,z0D (w9 3) w5A (Gs.map fun G=>.lst (G.map z9)) (x19 R m K P c3 c4)=some (.nx (x19 R m K' P' fj bD))/\PI cl m (done++Gs) K' P'
 | [],done,K,P,c3,c4,_,_,h=>⟨K,P,c3,c4,rfl,by rw[Ch];exact h⟩
 |G::Gs,done,K,P,c3,c4,hd,bP,h=>by
  have e0:done++G::Gs=(done++[G])++Gs:=by rw[Co];rfl
  obtain⟨K1,P1,c41,e1,h1⟩:=x7V hg hm (done:=done) (G:=G) (fun G' bc=>hd G' (B9 _ bc)) (hd G (Ab _ A6)) (fun G' bc=>(Cq.mp bP).2.2 G' bc G A6) h (c4:=c4);rw[e0]at hd bP ⊢;obtain⟨K2,P2,c32,c42,e2,h2⟩:=y43 hg hm Gs (done++[G]) K1 P1 (sC (.lst (G.map z9))) c41 hd bP h1;exact⟨K2,P2,c32,c42,by rw[Ai];exact(z1Q rfl e1).trans e2,h2⟩
structure Pages(cl:Nat->Nat->Bool)(m K:Nat)(P:List (Nat×Nat)):Prop where
 nd:(P.map Bj).Nodup
 mem:∀x,x∈P.map Bj↔x<m
 ok:∀x∈P,∀y∈P,cl x.1 y.1=true->x.2≠y.2
 lt:∀x∈P,x.2<K
 least:y0X cl m K
theorem x6N(hg:Graph cl m R)(aB:∀t,t<m->(R t).Nodup)(hm:m≤11){K:Nat}(hK:K≤m)(hL:y0X cl m K):∃K' P,z2R [z13 R m,z9 K]=some (pgD P)/\Pages cl m K' P:=by
 obtain⟨Gs,e0,g1,g2,g3⟩:=y7R hg aB;obtain⟨K',P,c3,c4,e1,h⟩:=y43 hg hm Gs [] K [] none none g1 g2 ⟨Dx,fun x=>by simp,fun x hx=>by simp at hx,fun x hx=>by simp at hx,hL,hK⟩;refine⟨K',P,?_,h.nd,fun x=>?_,h.ok,h.lt,h.least⟩
 ·show z2F (z4T [sC (z13 R m),sC (z9 K),none,none,none])=_
  have fin:z4T [sC (z13 R m),sC (z9 K),none,none,none]=some (.rt (pgD P)):=by refine x6 (r:=.rt .non) (ρ':=x19 R m K [] none none) rfl ?_;exact x6 (r:=.rt .non) ((z10 (z28 ((w8 (ds:=[z13 R m]) rfl).trans e0))).trans e1) rfl
  rw[fin];rfl
 ·rw[h.mem];constructor
  ·rintro ⟨G,hG,hx⟩;exact(g1 G hG).1.lt x hx
  ·exact fun hx=>g3 x hx
end
theorem z5G(m:Nat)(cl:Nat->Nat->Bool)(k:Nat):u0 m cl (k+1)=u0 m cl k++(((A9 (m-(k+1))).map fun q=>k+1+q).filter (cl k)).map fun (j:Nat)=>((k:Int),(j:Int)):=by unfold u0;rw[Kw,List.flatMap_append,List.flatMap_singleton]
def w0J:EO:=K6 (z0H 7 (dLs (Q3 [none,some 6,some 3,some 2] (y4Z (d2 z2Q (z8 5) (dC (.int 1))) (z15 (dSq (z8 3)))) (w9 0) (y9 (x5 Q2 (z7 (z8 1) (z7 (dIx (dSq (z8 2)) (z8 0)) (z7 (z8 3) (u3)))))) (z8 0))))
 (x6R 4 (Q3 [none,some 5] (dSq (z8 7)) (w9 0) (z3C) (z2O (z7 (z8 1) (z7 (z8 0) (u3))))))
abbrev w0K(W R:D)(k:Bb)(sp found:List D)(c5 c6 c7:Option Cell):u5:=[sC W,sC R,sC (.str k),sC (.lst sp),some (.ow found),c5,c6,c7]
theorem x5Z{W R:D}{k w:Bb}(hk:w3G.lookup k=some w){r:List Int}{ts:List Tie}{i:Nat}{found:List Tie}{c7:Option Cell}(hi:i<ts.length)(hm:ts.length≤12)(hf:found.length≤1000):
  ∃cq,w0J (w0K W R k (ts.map fun t=>v9 (z0B r t)) (found.map v9) (sC (.int (i:Int))) (sC (v9 (Y9 r ts i))) c7) =
   some (.nx (w0K W R k (ts.map fun t=>v9 (z0B r t)) ((found++(((A9 (ts.length-(i+1))).map fun q=>i+1+q).filter (clP r ts w i)).map fun (j:Nat)=>((i:Int),(j:Int))).map v9) (sC (.int (i:Int))) (sC (v9 (Y9 r ts i))) cq)):=by
 generalize ejs:((A9 (ts.length-(i+1))).map fun q=>i+1+q)=js
 have hjs:∀j∈js,j<ts.length:=fun j hj=>by
  rw[←ejs]at hj;obtain⟨q,hq,rfl⟩:=Av.mp hj
  have:=Aj.mp hq
  omega
 have hjl:js.length≤12:=by rw[←ejs,A0,As];omega
 have e0:y4Z (d2 z2Q (z8 5) (dC (.int 1))) (z15 (dSq (z8 3))) (w0K W R k (ts.map fun t=>v9 (z0B r t)) (found.map v9) (sC (.int (i:Int))) (sC (v9 (Y9 r ts i))) c7)=some (js.map fun (j:Nat)=>D.int (j:Int)):=by
  have:=w2Y (fa:=d2 z2Q (z8 5) (dC (.int 1))) (fb:=z15 (dSq (z8 3))) (ρ:=w0K W R k (ts.map fun t=>v9 (z0B r t)) (found.map v9) (sC (.int (i:Int))) (sC (v9 (Y9 r ts i))) c7) (i:=(i:Int)+1) (j:=((ts.map fun t=>v9 (z0B r t)).length:Int)) rfl rfl
   (by unfold okR;rw[decide_eq_true (by omega),decide_eq_true (by omega)];rfl) (by rw[A0];unfold okR;rw[decide_eq_true (by omega),decide_eq_true (by omega)];rfl)
  rw[this,←ejs,A0,B6,show ((ts.length:Int)-((i:Int)+1)).toNat=ts.length-(i+1) by omega];unfold K5;rfl
 have e1:Q3 [none,some 6,some 3,some 2] (y4Z (d2 z2Q (z8 5) (dC (.int 1))) (z15 (dSq (z8 3)))) (w9 0) (y9 (x5 Q2 (z7 (z8 1) (z7 (dIx (dSq (z8 2)) (z8 0)) (z7 (z8 3) (u3)))))) (z8 0) (w0K W R k (ts.map fun t=>v9 (z0B r t)) (found.map v9) (sC (.int (i:Int))) (sC (v9 (Y9 r ts i))) c7) =
   some ((js.filter (clP r ts w i)).map fun (j:Nat)=>D.int (j:Int)):=by
  refine(Z9 e0 (by rw[A0];unfold LIM;omega)).trans ?_
  refine(J7 (fun ρ=>∃c0,ρ=[c0,sC (v9 (Y9 r ts i)),sC (.lst (ts.map fun t=>v9 (z0B r t))),sC (.str k)]) (fun d=>match d with|.int j=>clP r ts w i j.toNat|_=>false) id _ _ ⟨none,rfl⟩ ?_).trans ?_
  ·rintro d hd ρ ⟨c0,rfl⟩;obtain⟨j,hj,rfl⟩:=Av.mp hd;refine⟨_,rfl,⟨_,rfl⟩,u4 ?_,fun _=>rfl⟩;refine(w8 (ds:=[v9 (Y9 r ts i),v9 (Y9 r ts j),.str k]) (v8 rfl (v8 ((z2G (ds:=ts.map fun t=>v9 (z0B r t)) rfl rfl).trans (z5E (hjs j hj))) rfl))).trans ?_;rw[y1S hk];show some (D.bl (clP r ts w i j))=some (D.bl (clP r ts w i (j:Int).toNat));rw[Ao]
  ·rw[Ho,Hd];rfl
 refine⟨sC (.lst ((js.filter (clP r ts w i)).map fun (j:Nat)=>D.int (j:Int))),x6 (r:=.rt .non) (K8 (z39 e1)) ?_⟩
 have e2:Q3 [none,some 5] (dSq (z8 7)) (w9 0) (z3C) (z2O (z7 (z8 1) (z7 (z8 0) (u3)))) (w0K W R k (ts.map fun t=>v9 (z0B r t)) (found.map v9) (sC (.int (i:Int))) (sC (v9 (Y9 r ts i))) (sC (.lst ((js.filter (clP r ts w i)).map fun (j:Nat)=>D.int (j:Int))))) =
   some (((js.filter (clP r ts w i)).map fun (j:Nat)=>((i:Int),(j:Int))).map v9):=by
  refine(Z9 (ds:=(js.filter (clP r ts w i)).map fun (j:Nat)=>D.int (j:Int)) rfl (by rw[A0];have:=D7 (clP r ts w i) js;unfold LIM;omega)).trans ?_
  refine(z0J (fun ρ=>∃c0,ρ=[c0,sC (.int (i:Int))]) (fun d=>.tup [.int (i:Int),d]) _ _ ⟨none,rfl⟩ ?_).trans ?_
  ·rintro d hd ρ ⟨c0,rfl⟩;exact⟨_,rfl,⟨_,rfl⟩,z5K (ds:=[.int (i:Int),d]) rfl (show 2≤LIM by decide)⟩
  ·rw[B6,B6];rfl
 refine(x5J (ds:=found.map v9) rfl e2 ?_).trans ?_
 ·rw[A0,A0,A0]
  have:=D7 (clP r ts w i) js
  unfold LIM;omega
 ·rw[Ba];rfl
theorem x5G{W R:D}{k w:Bb}(hk:w3G.lookup k=some w){r:List Int}{ts:List Tie}(hm:ts.length≤12):∀(hX:List Tie) (i:Nat) (c5 c6 c7:Option Cell),ts.drop i=hX->i+hX.length=ts.length->(u0 ts.length (clP r ts w) i).length≤i*12 ->
  ∃fu ca cq,z0D (y52 2 (z2P (w9 5) (z2P (w9 6) (y53)))) w0J (z4Y i (hX.map fun t=>v9 (z0B r t))) (w0K W R k (ts.map fun t=>v9 (z0B r t)) ((u0 ts.length (clP r ts w) i).map v9) c5 c6 c7) =
   some (.nx (w0K W R k (ts.map fun t=>v9 (z0B r t)) ((u0 ts.length (clP r ts w) ts.length).map v9) fu ca cq))
 | [],i,c5,c6,c7,hd,hl,hp=>by
  have:i=ts.length:=by simpa using hl
  subst this;exact⟨c5,c6,c7,rfl⟩
 |t::hX,i,c5,c6,c7,hd,hl,hp=>by
  rw[Ay]at hl
  have hi:i<ts.length:=by omega
  have ht:ts[i]?=some t:=by rw[←List.head?_drop,hd];rfl
  obtain⟨cq,e⟩:=x5Z (W:=W) (R:=R) hk (r:=r) (ts:=ts) (i:=i) (found:=u0 ts.length (clP r ts w) i) (c7:=c7) hi hm (by omega);rw[←z5G]at e
  have bS:ts.drop (i+1)=hX:=by rw[←List.drop_drop,hd];rfl
  have iL:(u0 ts.length (clP r ts w) (i+1)).length≤(i+1)*12:=by
   rw[z5G,Ad,A0]
   have:=D7 (clP r ts w i) ((A9 (ts.length-(i+1))).map fun q=>i+1+q)
   rw[A0,As]at this;omega
  obtain⟨d5,d6,d7,ih⟩:=x5G hk hm hX (i+1) (sC (.int (i:Int))) (sC (v9 (Y9 r ts i))) cq bS (by omega) iL;refine⟨d5,d6,d7,?_⟩;rw[Ai];rw[←z5V (r:=r) ht];exact(z1Q rfl e).trans ih
theorem z89{n:Int}{k w:Bb}(hk:w3G.lookup k=some w){ts:List Tie}{r:List Int}(hn:r.Nodup)(hr:r.length≤1000)(ht:ts.length≤12)(hm:∀t∈ts,t.1∈r/\t.2∈r):
  z2D [W7 n ts,.tup (r.map D.int),.str k]=some (.tup ((u0 ts.length (clP r ts w) ts.length).map v9)):=by
 obtain⟨c5,c6,c7,e⟩:=x5G (W:=W7 n ts) (R:=.tup (r.map D.int)) hk (r:=r) (ts:=ts) ht ts 0 none none none rfl (by omega) (by unfold u0;simp)
 have fin:z9Y [sC (W7 n ts),sC (.tup (r.map D.int)),sC (.str k),none,none,none,none,none]=some (.rt (.tup ((u0 ts.length (clP r ts w) ts.length).map v9))):=by refine x6 (r:=.rt .non) (K8 ((w8 (ds:=[W7 n ts,.tup (r.map D.int)]) rfl).trans (z46 hn hr (by omega) hm))) ?_;refine x6 (r:=.rt .non) (z4X (ds:=[]) (z5L (ds:=[]) rfl (by decide))) ?_;refine x6 (r:=.rt .non) ((z10 (ds:=z4Y 0 (ts.map fun t=>v9 (z0B r t))) rfl).trans e) ?_;exact z02 (z7N rfl)
 show z2F (z9Y [sC (W7 n ts),sC (.tup (r.map D.int)),sC (.str k),none,none,none,none,none])=_;rw[fin];rfl
noncomputable def other(i:Nat)(q:Nat×Nat):Option Nat:=if q.1=i then some q.2 else if q.2=i then some q.1 else none
def y6C(qs:List (Nat×Nat))(i:Nat):List Nat:=qs.filterMap (other i)
noncomputable def x9T(l:List Nat):List Int:=l.map fun (j:Nat)=>(j:Int)
theorem x32{α:Type}{m a:Nat}(f:Nat->α)(x:α):((A9 m).map f).set a x=(A9 m).map fun i=>if i=a then x else f i:=by
 apply List.ext_getElem?;intro i;rw[List.getElem?_set,Au];by_cases hi:i<m
 ·rw[Au,Em hi];by_cases c:a=i
  ·subst c;rw[if_pos rfl,if_pos (by rw[A0,As];exact hi)]
   simp
  ·rw[if_neg c]
   have:¬i=a:=fun z=>c z.symm
   simp[this]
 ·have hn:(A9 m)[i]?=none:=Ib (by rw[As];omega)
  rw[Au,hn];by_cases c:a=i
  ·subst c;rw[if_pos rfl,if_neg (by rw[A0,As];exact hi)]
   rfl
  ·rw[if_neg c];rfl
theorem y41{m a b:Nat}(f:Nat->List Int)(h:a<m):x0I ((A9 m).map f) a b=(A9 m).map fun i=>if i=a then f i++[(b:Int)] else f i:=by
 unfold x0I
 have:((A9 m).map f).getD a []=f a:=by rw[Bh,Au,Em h];rfl
 rw[this,x32];refine B7 fun i _=>?_;by_cases c:i=a
 ·subst c;simp
 ·rw[if_neg c,if_neg c]
theorem y9G{m:Nat}:∀(qs:List (Nat×Nat)) (f:Nat->List Nat),(∀q∈qs,q.1<m/\q.2<m/\q.1≠q.2)->qs.foldl x90 ((A9 m).map fun i=>x9T (f i))=(A9 m).map fun i=>x9T (f i++y6C qs i)
 | [],f,_=>by rw[List.foldl_nil];refine B7 fun i _=>?_;unfold y6C;rw[List.filterMap_nil,Ch]
 |q::qs,f,h=>by
  have hq:=h q A6;have ih:=y9G qs (fun i=>f i++(other i q).toList) fun q' hq'=>h q' (A7 _ hq')
  have e:x90 ((A9 m).map fun i=>x9T (f i)) q=(A9 m).map fun i=>x9T (f i++(other i q).toList):=by
   unfold x90;rw[y41 _ hq.1,y41 _ hq.2.1];refine B7 fun i _=>?_;unfold other x9T;by_cases c1:i=q.1
   ·have c2:¬i=q.2:=fun z=>hq.2.2 (by omega);rw[if_neg c2,if_pos c1,if_pos c1.symm,Ba];rfl
   ·by_cases c2:i=q.2
    ·rw[if_pos c2,if_neg c1,if_neg (fun z=>c1 z.symm),if_pos c2.symm,Ba];rfl
    ·rw[if_neg c2,if_neg c1,if_neg (fun z=>c1 z.symm),if_neg (fun z=>c2 z.symm)];simp
  rw[Fz,e,ih];refine B7 fun i _=>?_;unfold y6C;rw[Gw,Co];cases other i q<;>rfl
theorem x7E{qs:List (Nat×Nat)}(h:∀q∈qs,q.1<q.2){i j:Nat}:j∈y6C qs i↔(i,j)∈qs∨(j,i)∈qs:=by
 unfold y6C;rw[Jc];constructor
 ·rintro ⟨⟨a,b⟩,hq,e⟩;unfold other at e;dsimp only at e;split at e
  ·rename_i c;cases e;rw[c]at hq;exact .inl hq
  ·split at e
   ·rename_i c;cases e;rw[c]at hq;exact .inr hq
   ·cases e
 ·rintro (hq|hq)
  ·exact⟨(i,j),hq,by unfold other;rw[if_pos rfl]⟩
  ·refine⟨(j,i),hq,?_⟩
   have:=h _ hq
   dsimp only at this;unfold other;dsimp only;rw[if_neg (by omega),if_pos rfl]
theorem x0H{qs:List (Nat×Nat)}(h:∀q∈qs,q.1<q.2)(hn:qs.Nodup)(i:Nat):(y6C qs i).Nodup:=by
 unfold y6C;rw[Ks,List.pairwise_filterMap];refine hn.imp_of_mem fun {a b} ha hb ag x hx y hy e=>ag ?_;have h1:=h a ha;have h2:=h b hb;obtain⟨a1,a2⟩:=a;obtain⟨b1,b2⟩:=b;subst e;unfold other at hx hy;dsimp only at h1 h2 hx hy;split at hx
 ·split at hy
  ·cases hx;cases hy;rename_i c1 c2;rw[c1,c2]
  ·split at hy
   ·cases hx;cases hy;omega
   ·cases hy
 ·split at hx
  ·split at hy
   ·cases hx;cases hy;omega
   ·split at hy
    ·cases hx;cases hy;exact Mg rfl (by dsimp only;omega)
    ·cases hy
  ·cases hx
section
variable{n:Int}{ts:List Tie}{r:List Int}{k w:Bb}
def z16(ts:List Tie)(r:List Int)(w:Bb):List (Nat×Nat):=(u0 ts.length (clP r ts w) ts.length).map fun t=>(t.1.toNat,t.2.toNat)
theorem z33{i j:Nat}:(i,j)∈z16 ts r w↔i<j/\j<ts.length/\clP r ts w i j=true:=by
 unfold z16;rw[Av];constructor
 ·rintro ⟨t,ht,e⟩;obtain⟨a,b,rfl,_,h1,h2,h3⟩:=Q6.mp ht;have e1:=congrArg Bj e;have e2:=congrArg L6 e;simp only[Ao]at e1 e2;subst e1;subst e2;exact⟨h1,h2,h3⟩
 ·rintro ⟨h1,h2,h3⟩;exact⟨((i:Int),(j:Int)),Q6.mpr ⟨i,j,rfl,by omega,h1,h2,h3⟩,by simp⟩
theorem y45:(z16 ts r w).Nodup:=by unfold z16;rw[Ks,Bu];refine((z80 ts.length ts.length (clP r ts w)).imp_of_mem fun {a b} ha hb al e=>?_);obtain⟨i,j,rfl,_,_,_,_⟩:=Q6.mp ha;obtain⟨i',j',rfl,_,_,_,_⟩:=Q6.mp hb;have e1:=congrArg Bj e;have e2:=congrArg L6 e;simp only[Ao]at e1 e2;subst e1;subst e2;exact z2S _ al
theorem z9E:∀ps:List Tie,(∀t∈ps,0≤t.1/\0≤t.2)->z81 (ps.map v9)=some (ps.map fun t=>(t.1.toNat,t.2.toNat))
 | [],_=>rfl
 |t::ps,h=>by
  have ih:=z9E ps fun t' h'=>h t' (A7 _ h');have ht:=h t A6;rw[Ai,z81]
  have e:x3V (v9 t)=some (t.1.toNat,t.2.toNat):=by show (if 0≤t.1/\0≤t.2 then some (t.1.toNat,t.2.toNat) else none)=_;rw[if_pos ht]
  rw[e];dsimp only;rw[ih];rfl
theorem w0I(hk:KW k w)(i:Nat):clP r ts w i i=false:=by
 cases hc:clP r ts w i i with
 |false=>rfl
 |true=>unfold clP lie at hc;rw[if_pos (.inl rfl),hk.meet]at hc;cases hc
theorem z7W(h:Lay n ts r)(hk:KW k w):Graph (clP r ts w) ts.length (y6C (z16 ts r w))/\∀t,(y6C (z16 ts r w) t).Nodup:=by
 have al:∀q∈z16 ts r w,q.1<q.2:=fun q hq=>(z33 (i:=q.1) (j:=q.2).mp hq).1;have aB:=fun t=>x0H al (y45 (ts:=ts) (r:=r) (w:=w)) t
 have aG:∀t,t<ts.length->∀j,j∈y6C (z16 ts r w) t↔j<ts.length/\clP r ts w t j=true:=fun t ht j=>by
  rw[x7E al,z33,z33];constructor
  ·rintro (⟨h1,h2,h3⟩|⟨h1,h2,h3⟩)
   ·exact⟨h2,h3⟩
   ·exact⟨by omega,by rw[z40];exact h3⟩
  ·rintro ⟨h1,h2⟩;rcases I0 t j with c|c|c
   ·exact .inl ⟨c,h1,h2⟩
   ·subst c;rw[w0I hk]at h2;cases h2
   ·exact .inr ⟨c,ht,by rw[z40];exact h2⟩
 refine⟨⟨fun i j=>z40 i j,w0I hk,aG,fun t ht=>?_,h.m12⟩,aB⟩
 have:=Q4 (y6C (z16 ts r w) t) (A9 ts.length) (aB t) fun j hj=>Aj.mpr ((aG t ht j).mp hj).1
 rw[As]at this
 have:=h.m12
 omega
theorem y7Q(h:Lay n ts r)(hk:KW k w):z66 [W7 n ts,.tup (r.map D.int),.str k]=some (z13 (y6C (z16 ts r w)) ts.length):=by
 have m12:=h.m12;have ec:=z89 (n:=n) hk.tab h.nd h.rl h.m12 h.mem
 have gJ:∀t∈u0 ts.length (clP r ts w) ts.length,0≤t.1/\0≤t.2:=fun t ht=>by obtain⟨i,j,rfl,_,_,_,_⟩:=Q6.mp ht;exact⟨Jh _,Jh _⟩
 have hl:(z16 ts r w).length≤1000:=by
  unfold z16;rw[A0,←z8Q,(z17 _).length_eq]
  have:=z1L (clP r ts w) ts.length m12
  omega
 have bd:((z16 ts r w).all fun q=>decide (q.1<ts.length)&&decide (q.2<ts.length))=true:=by
  rw[C1];intro q hq
  have:=(z33 (i:=q.1) (j:=q.2)).mp hq
  rw[decide_eq_true (by omega),decide_eq_true this.2.1];rfl
 show z2F (y74 3 4 5 _ _ [sC (W7 n ts),sC (.tup (r.map D.int)),sC (.str k),none,none,none])=_
 have fin:y74 3 4 5 (dSq (dIx (dSq (z8 0)) (dC (.int 1)))) (dSq (x5 z2D (z7 (z8 0) (z7 (z8 1) (z7 (z8 2) (u3)))))) [sC (W7 n ts),sC (.tup (r.map D.int)),sC (.str k),none,none,none]=some (.rt (z13 (y6C (z16 ts r w)) ts.length)):=by
  unfold y74;have e1:dSq (dIx (dSq (z8 0)) (dC (.int 1))) [sC (W7 n ts),sC (.tup (r.map D.int)),sC (.str k),none,none,none]=some (ts.map v9):=rfl;have e2:dSq (x5 z2D (z7 (z8 0) (z7 (z8 1) (z7 (z8 2) (u3))))) [sC (W7 n ts),sC (.tup (r.map D.int)),sC (.str k),none,none,none]=some ((u0 ts.length (clP r ts w) ts.length).map v9):=z4W ((w8 (ds:=[W7 n ts,.tup (r.map D.int),.str k]) rfl).trans ec);rw[e1,e2]
  dsimp only;rw[z9E _ gJ,A0];dsimp only;rw[if_pos]
  ·have hf:=y9G (m:=ts.length) (z16 ts r w) (fun _=>[]) fun q hq=>by
    have:=(z33 (i:=q.1) (j:=q.2)).mp hq
    omega
   have e0:(A9 ts.length).map (fun i=>x9T ((fun _=>[]) i))=B1 ts.length []:=by rw[List.map_const',As];rfl
   rw[e0]at hf;unfold z16 at hf;rw[hf];unfold z13;rw[B6];congr 3;refine B7 fun i _=>?_;show lsD (x9T ([]++y6C _ i))=_;rw[Ku];unfold lsD x9T;rw[B6];rfl
  ·unfold y8Q;unfold z16 at hl bd;rw[bd,decide_eq_true (show ts.length≤1000 by omega),decide_eq_true hl];rfl
 rw[fin];rfl
def x6O(r:List Int)(ts:List Tie):List Nat:=(A9 ts.length).mergeSort (x0U r ts)
theorem z6K{i:Nat}:i∈x6O r ts↔i<ts.length:=by unfold x6O;rw[(Dh _ _).mem_iff,Aj]
theorem z7C:(x6O r ts).Nodup:=by unfold x6O;exact(Dh _ _).nodup_iff.mpr Dt
theorem Lay.ordQ_up(h:Lay n ts r):(x6O r ts).Pairwise fun i j=>tlt (Y9 r ts i) (Y9 r ts j):=by
 have h1:(x6O r ts).Pairwise fun i j=>x0U r ts i j=true:=Ds (fun a b c h1 h2=>by
  unfold x0U leL at h1 h2 ⊢;simp only[F6]at h1 h2 ⊢
  exact z56 _ _ _ h1 h2) (fun a b=>by
  unfold x0U leL
  have:=z3P (Y9 r ts a) (Y9 r ts b)
  have h2:=z3P (Y9 r ts b) (Y9 r ts a);unfold z70;rw[this,h2];rcases z23 (Y9 r ts a) (Y9 r ts b) with z|z|z
  ·rw[decide_eq_false (fun q=>z2I z q)];rfl
  ·rw[z,decide_eq_false (z2S _)];rfl
  ·rw[decide_eq_false (fun q=>z2I z q)];simp) _
 refine Fd (fun {a b} ha hb q=>?_) (h1.and z7C);obtain⟨q1,q2⟩:=q;unfold x0U leL at q1;have l2:=z3P (Y9 r ts b) (Y9 r ts a);unfold z70 at q1;rw[l2]at q1;rcases z23 (Y9 r ts a) (Y9 r ts b) with z|z|z
 ·exact z
 ·exact absurd (h.sp_inj (z6K.mp ha) (z6K.mp hb) z) q2
 ·rw[decide_eq_true z]at q1;cases q1
def w3H(r:List Int)(ts:List Tie)(x y:Nat):Prop:=(Y9 r ts x).1<(Y9 r ts y).1/\(Y9 r ts y).2<(Y9 r ts x).2
theorem w24(h:Lay n ts r){x y:Nat}(hx:x<ts.length)(hy:y<ts.length)(hn:w3H r ts x y):clP r ts "within" x y=true:=by rw[z7R];have z:tlt (Y9 r ts x) (Y9 r ts y):=.inl hn.1;exact(z18 z (h.sp_ok hx).2.1 (h.sp_ok hy).2.1).mpr hn
theorem w35(h:Lay n ts r){x y:Nat}(hx:x<ts.length)(hy:y<ts.length)(z:tlt (Y9 r ts x) (Y9 r ts y))(hc:clP r ts "within" x y=true):w3H r ts x y:=(z18 z (h.sp_ok hx).2.1 (h.sp_ok hy).2.1).mp (z7R.mp hc)
def y7U(r:List Int)(ts:List Tie)(t v:Nat):Prop:=∃S:List Nat,(S++[t]).Pairwise (w3H r ts)/\S.length=v/\∀x∈S,x<ts.length
theorem y7U.more{s t v:Nat}(h:y7U r ts s v)(hs:s<ts.length)(hn:w3H r ts s t):y7U r ts t (v+1):=by
 obtain⟨S,h1,h2,h3⟩:=h;refine⟨S++[s],?_,by rw[Ad,Az,h2],fun x hx=>?_⟩
 ·rw[Cq];refine⟨h1,Da _ _,fun a ha b hb=>?_⟩;rw[Ae.mp hb];rcases Aw.mp ha with z|z
  ·have:=(Cq.mp h1).2.2 a z s (Ae.mpr rfl)
   unfold w3H at this hn ⊢;omega
  ·rw[Ae.mp z];exact hn
 ·rcases Aw.mp hx with z|z
  ·exact h3 x z
  ·rw[Ae.mp z];exact hs
theorem y7U.small(h:Lay n ts r){F:List Nat}(hF:Most ts.length (clP r ts "within") F){t v:Nat}(ht:t<ts.length)(hc:y7U r ts t v):v<F.length:=by
 obtain⟨S,h1,h2,h3⟩:=hc
 have al:∀x∈S++[t],x<ts.length:=fun x hx=>by
  rcases Aw.mp hx with z|z
  ·exact h3 x z
  ·rw[Ae.mp z];exact ht
 have:=hF.top (S++[t]) (h1.imp fun {a b} q e=>by unfold w3H at q;subst e;omega) al (h1.imp_of_mem fun {a b} ha hb q=>w24 h (al a ha) (al b hb) q)
 rw[Ad,Az]at this;omega
structure QI(r:List Int)(ts:List Tie)(done:List Nat)(P:List (Nat×Nat)):Prop where
 keys:P.map Bj=done
 ok:∀x∈P,∀y∈P,clP r ts "within" x.1 y.1=true->x.2≠y.2
 ch:∀x∈P,y7U r ts x.1 x.2
theorem mex(T:List Nat):∃v,v∉T/\v≤T.length/\(∀v',v'<v->v'∈T)/\((A9 (T.length+1)).filter fun j=>!decide (j∈T))≠[]:=by
 have ag:((A9 (T.length+1)).filter fun j=>!decide (j∈T))≠[]:=fun e=>by
  rw[Ia]at e
  have:=Q4 (A9 (T.length+1)) T Dt fun x hx=>by
   have:=e x hx
   simpa using this
  rw[As]at this;omega
 have aE:∀q,(∀v,v<q->v∈T)∨∃v,v<q/\v∉T/\∀v',v'<v->v'∈T:=fun q=>by
  induction q with
  |zero=>exact .inl fun v hv=>absurd hv (F1 _)
  |succ q ih=>
   rcases ih with z|⟨v,z1,z2,z3⟩
   ·by_cases c:q∈T
    ·exact .inl fun v hv=>by
      by_cases e:v=q
      ·rw[e];exact c
      ·exact z v (by omega)
    ·exact .inr ⟨q,by omega,c,z⟩
   ·exact .inr ⟨v,by omega,z2,z3⟩
 rcases aE (T.length+1) with z|⟨v,z1,z2,z3⟩
 ·exfalso
  have:=Q4 (A9 (T.length+1)) T Dt fun x hx=>z x (Aj.mp hx)
  rw[As]at this;omega
 ·exact⟨v,z2,by omega,z3,ag⟩
def w7E:ED:=z8J (Q3 [none,some 6] (z0I (d2 z2Q (z15 (dSq (z8 6))) (dC (.int 1)))) (w9 0) (y9 (dIn true (z8 0) (dSq (z8 1)))) (z8 0))
theorem w2C{T:List Nat}{ρ:u5}(hl:T.length≤1000)(h6:z8 6 ρ=some (.lst (T.map z9)))(hc:y0T [none,some 6] ρ=[none,sC (.lst (T.map z9))]):∃v,w7E ρ=some (z9 v)/\v∉T/\∀v',v'<v->v'∈T:=by
 obtain⟨v,v1,v2,v3,ag⟩:=mex T;refine⟨v,?_,v1,v3⟩
 have e0:Q3 [none,some 6] (z0I (d2 z2Q (z15 (dSq (z8 6))) (dC (.int 1)))) (w9 0) (y9 (dIn true (z8 0) (dSq (z8 1)))) (z8 0) ρ=some (((A9 (T.length+1)).filter fun j=>!decide (j∈T)).map z9):=by
  have er:z0I (d2 z2Q (z15 (dSq (z8 6))) (dC (.int 1))) ρ=some ((A9 (T.length+1)).map z9):=z79 (j:=T.length+1) ((z2N (x:=.int (T.length:Int)) (y:=.int 1) ((z29 (z28 h6)).trans (by rw[A0])) rfl).trans rfl) (by omega);refine(Z9 er (by rw[A0,As];unfold LIM;omega)).trans ?_
  rw[hc];refine(J7 (fun ρ=>∃c,ρ=[c,sC (.lst (T.map z9))]) (fun d=>match d with|.int x=>!decide (x.toNat∈T)|_=>false) (fun d=>d) _ _ ⟨none,rfl⟩ ?_).trans ?_
  ·rintro d hd ρ ⟨c,rfl⟩;obtain⟨j,hj,rfl⟩:=Av.mp hd;refine⟨_,rfl,⟨_,rfl⟩,u4 ((y9B true rfl rfl).trans ?_),fun _=>rfl⟩;show some (D.bl (!decide (j∈T)))=some (D.bl (!decide ((j:Int).toNat∈T)));rw[Ao]
  ·rw[Gr,z5B (q:=fun j=>!decide (j∈T)) _ (fun i _=>by
    show (!decide ((i:Int).toNat∈T))=_
    rw[Ao])]
 unfold w7E z8J;rw[e0];dsimp only;rw[z59];have hv:v∈(A9 (T.length+1)).filter fun j=>!decide (j∈T):=B2.mpr ⟨Aj.mpr (by omega),by simpa using v1⟩
 have ib:∀x∈(A9 (T.length+1)).filter fun j=>!decide (j∈T),v≤x:=fun x hx=>by
  have aI:x∉T:=by simpa using (B2.mp hx).2
  by_cases c:v≤x
  ·exact c
  ·exact absurd (v3 x (by omega)) aI
 generalize (A9 (T.length+1)).filter (fun j=>!decide (j∈T))=L at hv ib ag
 cases L with
 |nil=>exact absurd rfl ag
 |cons a L=>
  rw[Ai];dsimp only;have ho:=z9O (L.map fun (i:Nat)=>(i:Int)) (a:Int);rw[←Ai (f:=fun (i:Nat)=>(i:Int))]at ho;obtain⟨x,hx,e⟩:=Av.mp ho.1;have h1:=ib x hx;have h2:=ho.2 (v:Int) (Av.mpr ⟨v,hv,rfl⟩);rw[←e]at h2;rw[←e]
  have:x=v:=by omega
  rw[this];rfl
def x18(n:Int)(ts:List Tie)(r:List Int)(R:Nat->List Nat)(P:List (Nat×Nat))(c5 c6:Option Cell):u5:=[sC (W7 n ts),sC (.tup (r.map D.int)),sC (z13 R ts.length),sC (W2 r ts),some (.od (pgK P) (pgV P)),c5,c6]
def w4L:EO:=
 (K6 (z0H 6 (y2W 4 (x5 j9 (z7 (z8 2) (z7 (z8 4) (z7 (z8 5) (u3)))))))
 (y72 4 (z8 5) w7E))
theorem z9K:∀l:List Nat,z4O (l.map z9)=true
 | []=>by simp[z4O]
 |a::l=>by rw[Ai,z4O,z9K l];rfl
theorem x3H{R:Nat->List Nat}{P:List (Nat×Nat)}{t:Nat}{c6:Option Cell}(et:j9 [z13 R ts.length,pgD P,z9 t]=some (.lst ((z09 R P t).map z9))):y2W 4 (x5 j9 (z7 (z8 2) (z7 (z8 4) (z7 (z8 5) (u3))))) (x18 n ts r R P (sC (z9 t)) c6)=some (.lst ((z09 R P t).map z9)):=by have e1:x5 j9 (z7 (z8 2) (z7 (z8 4) (z7 (z8 5) (u3)))) ((x18 n ts r R P (sC (z9 t)) c6).set 4 (sC (.dct (pgK P) (pgV P))))=some (.lst ((z09 R P t).map z9)):=(w8 (ds:=[z13 R ts.length,pgD P,z9 t]) rfl).trans et;have e0:(x18 n ts r R P (sC (z9 t)) c6)[4]?=some (some (.od (pgK P) (pgV P))):=rfl;unfold y2W;rw[e0];dsimp only;rw[e1];dsimp only;rw[if_pos (by rw[z83];exact z9K _)]
theorem w4Q{i:Nat}{fk fv:ED}{ρ:u5}{P:List (Nat×Nat)}{t v:Nat}(hv:fv ρ=some (z9 v))(hk:fk ρ=some (z9 t))(ho:y07 i ρ=some (pgK P,pgV P))(aB:(P.map Bj).Nodup)(hn:t∉P.map Bj)(hl:P.length≤1000):y72 i fk fv ρ=some (.nx (ρ.set i (some (.od (pgK (P++[(t,v)])) (pgV (P++[(t,v)])))))):=by unfold y72;rw[hv];dsimp only;rw[ho];dsimp only;rw[hk];dsimp only;have ek:x6P (z9 t)=some (C2 (t:Int)):=rfl;rw[ek];dsimp only;rw[if_pos ⟨z6I aB,by unfold pgK;rw[A0];unfold LIM;omega⟩,y8J hn]
theorem x7K(h:Lay n ts r){R:Nat->List Nat}(hg:Graph (clP r ts "within") ts.length R){done:List Nat}{P:List (Nat×Nat)}{t:Nat}(hI:QI r ts done P)(hd:∀x∈done,x<ts.length/\tlt (Y9 r ts x) (Y9 r ts t))(hn:done.Nodup)(ht:t<ts.length)(gU:t∉done){c6:Option Cell}:
  ∃v ca,w4L (x18 n ts r R P (sC (z9 t)) c6)=some (.nx (x18 n ts r R (P++[(t,v)]) (sC (z9 t)) ca))/\QI r ts (done++[t]) (P++[(t,v)]):=by
 have m12:=h.m12
 have aB:(P.map Bj).Nodup:=by rw[hI.keys];exact hn
 have hk:t∉P.map Bj:=by rw[hI.keys];exact gU
 have ah:P.length≤12:=by
  have:=Q4 (P.map Bj) (A9 ts.length) aB fun x hx=>Aj.mpr (hd x (by rw[←hI.keys];exact hx)).1
  rw[A0,As]at this;omega
 have et:=z7U (P:=P) ht (hg.len t ht)
 have htl:(z09 R P t).length≤1000:=by unfold z09;rw[A0];exact Bk (D7 _ _) (hg.len t ht)
 obtain⟨v,ev,v1,v2⟩:=w2C (T:=z09 R P t) (ρ:=x18 n ts r R P (sC (z9 t)) (sC (.lst ((z09 R P t).map z9)))) htl rfl rfl;have bE:∀x∈P,clP r ts "within" t x.1=true->x.2≠v:=fun x hx hc e=>v1 ((z6F aB).mpr ⟨x,hx,(hg.mem t ht x.1).mpr ⟨(hd x.1 (by rw[←hI.keys];exact Bv hx)).1,hc⟩,e⟩)
 refine⟨v,sC (.lst ((z09 R P t).map z9)),?_,?_,fun x hx y hy hc=>?_,fun x hx=>?_⟩
 ·refine x6 (r:=.rt .non) (ρ':=x18 n ts r R P (sC (z9 t)) (sC (.lst ((z09 R P t).map z9)))) (K8 (d:=.lst ((z09 R P t).map z9)) ?_) ?_
  ·exact x3H et
  ·exact(w4Q ev rfl rfl aB hk (by omega)).trans rfl
 ·rw[Ba,hI.keys];rfl
 ·rcases Aw.mp hx with z|z<;>rcases Aw.mp hy with z'|z'
  ·exact hI.ok x z y z' hc
  ·rw[Ae.mp z']at hc ⊢;exact bE x z (by rw[hg.sy];exact hc)
  ·rw[Ae.mp z]at hc ⊢;exact fun e=>bE y z' hc e.symm
  ·rw[Ae.mp z,Ae.mp z',hg.ir]at hc;cases hc
 ·rcases Aw.mp hx with z|z
  ·exact hI.ch x z
  ·rw[Ae.mp z];show y7U r ts t v
   cases v with
   |zero=>exact⟨[],Da _ _,rfl,fun x hx=>by simp at hx⟩
   |succ v=>
    obtain⟨y,hy,y1,y2⟩:=(z6F aB).mp (v2 v (Dr _));have hyd:=hd y.1 (by rw[←hI.keys];exact Bv hy)
    have hc:=(hg.mem t ht y.1).mp y1
    have:=hI.ch y hy
    rw[y2]at this;exact this.more hyd.1 (w35 h hyd.1 ht hyd.2 (by rw[z40];exact hc.2))
theorem x9K(h:Lay n ts r){R:Nat->List Nat}(hg:Graph (clP r ts "within") ts.length R):∀(rest done:List Nat) (P:List (Nat×Nat)) (c5 c6:Option Cell),done++rest=x6O r ts->QI r ts done P ->
  ∃P' fu ca,z0D (w9 5) w4L (rest.map z9) (x18 n ts r R P c5 c6)=some (.nx (x18 n ts r R P' fu ca))/\QI r ts (x6O r ts) P'
 | [],done,P,c5,c6,e,hI=>by rw[Ch]at e;subst e;exact⟨P,c5,c6,rfl,hI⟩
 |t::rest,done,P,c5,c6,e,hI=>by
  have hU:=h.ordQ_up;have aB:=z7C (r:=r) (ts:=ts);rw[←e]at hU aB;have aG:∀x∈done++t::rest,x<ts.length:=fun x hx=>z6K.mp (by rw[←e];exact hx)
  have ha:=Cq.mp hU;have hb:=Cc.mp aB;obtain⟨v,ca,e1,hI'⟩:=x7K h hg hI (t:=t) (fun x hx=>⟨aG x (B9 _ hx),ha.2.2 x hx t A6⟩) hb.1 (aG t (Ab _ A6)) (fun z=>hb.2.2 t z t A6 rfl) (c6:=c6);obtain⟨P',fu,c6'',e2,h2⟩:=x9K h hg rest (done++[t]) (P++[(t,v)]) (sC (z9 t)) ca (by rw[Co];exact e) hI'
  exact⟨P',fu,c6'',by rw[Ai];exact(z1Q rfl e1).trans e2,h2⟩
theorem z4S{cl:Nat->Nat->Bool}{m:Nat}{F:List Nat}(hF:Most m cl F):y0X cl m F.length:=fun c K' hc=>by
 have:=Q4 (F.map c) (A9 K') (Bu.mpr (hF.pw.imp_of_mem fun {a b} ha hb q=>hc.ne a b (hF.lt a ha) (hF.lt b hb) q)) fun x hx=>by obtain⟨y,hy,rfl⟩:=Av.mp hx;exact Aj.mpr (hc.lt y (hF.lt y hy))
 rw[A0,As]at this;exact this
theorem x23(h:Lay n ts r){R:Nat->List Nat}(hg:Graph (clP r ts "within") ts.length R){F:List Nat}(hF:Most ts.length (clP r ts "within") F):∃P,z1X [W7 n ts,.tup (r.map D.int),z13 R ts.length]=some (pgD P)/\Pages (clP r ts "within") ts.length F.length P:=by
 have m12:=h.m12;obtain⟨P,c5,c6,e1,hI⟩:=x9K (n:=n) h hg (x6O r ts) [] [] none none rfl ⟨rfl,fun x hx=>by simp at hx,fun x hx=>by simp at hx⟩;have al:∀x∈P,x.1<ts.length:=fun x hx=>z6K.mp (by rw[←hI.keys];exact Bv hx)
 refine⟨P,?_,by rw[hI.keys];exact z7C,fun x=>by rw[hI.keys];exact z6K,hI.ok,fun x hx=>(hI.ch x hx).small h hF (al x hx),z4S hF⟩
 have es:=z46 (n:=n) h.nd h.rl h.hm' h.mem;show z2F (z3T [sC (W7 n ts),sC (.tup (r.map D.int)),sC (z13 R ts.length),none,none,none,none])=_
 have eo:z5M [none,some 3] (Y7 (z15 (dSq (z8 3)))) (dIx (dSq (z8 1)) (z8 0)) (x18 n ts r R [] none none)=some ((x6O r ts).map z9):=by
  unfold z5M
  have e0:Y7 (z15 (dSq (z8 3))) (x18 n ts r R [] none none)=some ((A9 ts.length).map z9):=by refine(z5C (j:=(ts.length:Int)) ((z29 (ds:=ts.map fun t=>v9 (z0B r t)) rfl).trans (by rw[A0])) (by omega) (by omega)).trans ?_;rw[Ao];unfold iUp;rw[B6];refine congrArg some (B7 fun i _=>?_);show D.int (0+(i:Int))=D.int (i:Int);rw[Iy]
  rw[e0];dsimp only
  have ek:x0S (dIx (dSq (z8 1)) (z8 0)) (y0T [none,some 3] (x18 n ts r R [] none none)) ((A9 ts.length).map z9)=some ((A9 ts.length).map fun i=>v9 (Y9 r ts i)):=by
   refine(z8W (f:=fun d=>match d with|.int x=>v9 (Y9 r ts x.toNat)|_=>.non) _ fun d hd=>?_).trans ?_
   ·obtain⟨i,hi,rfl⟩:=Av.mp hd;show dIx (dSq (z8 1)) (z8 0) [sC (z9 i),sC (W2 r ts)]=some (v9 (Y9 r ts (i:Int).toNat));rw[Ao];exact(z2G (ds:=ts.map fun t=>v9 (z0B r t)) (j:=(i:Int)) rfl rfl).trans (z5E (Aj.mp hi))
   ·rw[B6];refine congrArg some (B7 fun i _=>?_);show v9 (Y9 r ts (i:Int).toNat)=_;rw[Ao]
  rw[ek];exact y8C h Dt fun i hi=>Aj.mp hi
 have fin:z3T [sC (W7 n ts),sC (.tup (r.map D.int)),sC (z13 R ts.length),none,none,none,none]=some (.rt (pgD P)):=by refine x6 (r:=.rt .non) (K8 (d:=W2 r ts) ((w8 (ds:=[W7 n ts,.tup (r.map D.int)]) rfl).trans es)) ?_;refine x6 (r:=.rt .non) (ρ':=x18 n ts r R [] none none) rfl ?_;exact x6 (r:=.rt .non) ((z10 (z28 (z39 eo))).trans e1) rfl
 rw[fin];rfl
end
noncomputable def K0(ks:List Nat)(p:Nat):List Nat:=if p∈ks then ks else ks++[p]
def z1M(vs:List Nat):List Nat:=vs.foldl K0 []
theorem z9Z:∀(vs ks:List Nat) (p:Nat),p∈vs.foldl K0 ks↔p∈ks∨p∈vs
 | [],ks,p=>by simp
 |v::vs,ks,p=>by
  rw[Fz,z9Z vs,Af];unfold K0;by_cases c:v∈ks
  ·rw[if_pos c];constructor
   ·rintro (z|z)
    ·exact .inl z
    ·exact .inr (.inr z)
   ·rintro (z|z|z)
    ·exact .inl z
    ·rw[z];exact .inl c
    ·exact .inr z
  ·rw[if_neg c,Aw,Ae,or_assoc]
theorem z4V:∀(vs ks:List Nat),ks.Nodup->(vs.foldl K0 ks).Nodup
 | [],ks,h=>h
 |v::vs,ks,h=>by
  rw[Fz];refine z4V vs _ ?_;unfold K0;by_cases c:v∈ks
  ·rw[if_pos c];exact h
  ·rw[if_neg c,Cc];refine⟨h,Da _ _,fun a ha b hb e=>c ?_⟩;rw[←Ae.mp hb,←e];exact ha
theorem x5B{g:Nat->Nat}:∀(vs ks:List Nat),(∀a∈ks++vs,∀b∈ks++vs,g a=g b->a=b)->(vs.map g).foldl K0 (ks.map g)=(vs.foldl K0 ks).map g
 | [],ks,_=>rfl
 |v::vs,ks,h=>by
  rw[Ai,Fz,Fz]
  have e:K0 (ks.map g) (g v)=(K0 ks v).map g:=by
   unfold K0;by_cases c:v∈ks
   ·rw[if_pos c,if_pos (Bv c)]
   ·have:g v∉ks.map g:=fun z=>by
     obtain⟨x,hx,e⟩:=Av.mp z
     have:=h x (B9 _ hx) v (Ab _ A6) e
     exact c (this▸hx)
    rw[if_neg c,if_neg this,Ba];rfl
  rw[e]
  have sub:∀a∈K0 ks v++vs,a∈ks++v::vs:=fun a ha=>by
   rcases Aw.mp ha with z|z
   ·unfold K0 at z;split at z
    ·exact B9 _ z
    ·rcases Aw.mp z with y|y
     ·exact B9 _ y
     ·rw[Ae.mp y];exact Ab _ A6
   ·exact Ab _ (A7 _ z)
  exact x5B vs (K0 ks v) fun a ha b hb=>h a (sub a ha) b (sub b hb)
noncomputable def z54(ks:List Nat):List (Nat×Nat):=ks.map fun p=>(p,ks.idxOf p)
theorem z6L(ks:List Nat):(z54 ks).map Bj=ks:=by unfold z54;rw[B6];exact(B7 (fun p _=>rfl:∀p∈ks,(Bj∘fun p=>(p,ks.idxOf p)) p=p)).trans (Ho _)
theorem x80{ks:List Nat}{p:Nat}(h:p∉ks):z54 ks++[(p,ks.length)]=z54 (ks++[p]):=by
 unfold z54;rw[Ba];congr 1
 ·refine B7 fun q hq=>?_;rw[List.idxOf_append,if_pos hq]
 ·show [(p,ks.length)]=[(p,(ks++[p]).idxOf p)];rw[List.idxOf_append,if_neg h,Im,M0]
theorem x42{ks:List Nat}{p:Nat}(hn:ks.Nodup)(h:p∈ks):(z54 ks).lookup p=some (ks.idxOf p):=(z8X (by rw[z6L];exact hn)).mpr (Bv (f:=fun p=>(p,ks.idxOf p)) h)
def w26:EO:=y06 1 (z8 2) (y2W 1 (y76 (z8 1)))
theorem x82{vD:D}{ks:List Nat}{p:Nat}(hn:ks.Nodup)(hl:ks.length≤1000):w26 [sC vD,some (.od (pgK (z54 ks)) (pgV (z54 ks))),sC (z9 p)]=some (.nx [sC vD,some (.od (pgK (z54 (K0 ks p))) (pgV (z54 (K0 ks p)))),sC (z9 p)]):=by
 have e1:y2W 1 (y76 (z8 1)) [sC vD,some (.od (pgK (z54 ks)) (pgV (z54 ks))),sC (z9 p)]=some (z9 ks.length):=by show (match some (D.int ((pgK (z54 ks)).length:Int)) with|some d=>if z83 d=true then some d else none|none=>none)=_;unfold pgK z54;rw[A0,A0];rfl
 have ek:x6P (z9 p)=some (C2 (p:Int)):=rfl;have e2:y07 1 [sC vD,some (.od (pgK (z54 ks)) (pgV (z54 ks))),sC (z9 p)]=some (pgK (z54 ks),pgV (z54 ks)):=rfl;have e3:z8 2 [sC vD,some (.od (pgK (z54 ks)) (pgV (z54 ks))),sC (z9 p)]=some (z9 p):=rfl
 have hk:((z54 ks).map Bj).Nodup:=by rw[z6L];exact hn
 have hs:(z0U (pgK (z54 ks)) (pgV (z54 ks)) (C2 (p:Int))).isSome=decide (p∈ks):=by rw[z7F,F7,z36,z6L]
 unfold w26 y06;rw[e2];dsimp only;rw[e3];dsimp only;rw[ek];dsimp only;rw[e1];dsimp only;rw[if_pos ⟨z6I hk,by unfold pgK z54;rw[A0,A0];unfold LIM;omega⟩,hs]
 unfold K0;by_cases c:p∈ks
 ·rw[if_pos (decide_eq_true c),if_pos c]
 ·rw[if_neg (by rw[decide_eq_false c];decide),if_neg c,y8J (by rw[z6L];exact c),x80 c]
  rfl
theorem x9U{vD:D}:∀(vs ks:List Nat) (c2:Option Cell),ks.Nodup->ks.length+vs.length≤1000->∃gY,z0D (w9 2) w26 (vs.map z9) [sC vD,some (.od (pgK (z54 ks)) (pgV (z54 ks))),c2]=some (.nx [sC vD,some (.od (pgK (z54 (vs.foldl K0 ks))) (pgV (z54 (vs.foldl K0 ks)))),gY])
 | [],ks,c2,_,_=>⟨c2,rfl⟩
 |p::vs,ks,c2,hn,hl=>by
  rw[Ay]at hl;have h1:(K0 ks p).Nodup:=z4V [p] ks hn
  have h2:(K0 ks p).length≤ks.length+1:=by
   unfold K0;split
   ·omega
   ·rw[Ad,Az];exact Ak _
  obtain⟨gY,e⟩:=x9U (vD:=vD) vs (K0 ks p) (sC (z9 p)) h1 (by omega);refine⟨gY,?_⟩;rw[Ai];exact(z1Q rfl (x82 hn (by omega))).trans e
theorem y3A{vs:List Nat}(hl:vs.length≤1000):z06 [.lst (vs.map z9)]=some (.tup ((vs.map fun p=>(z1M vs).idxOf p).map z9)):=by
 obtain⟨c2,e⟩:=x9U (vD:=.lst (vs.map z9)) vs [] none Dx (by rw[Cv];omega)
 have hn:(z1M vs).Nodup:=z4V vs [] Dx;show z2F (z04 [sC (.lst (vs.map z9)),none,none])=_
 have fin:z04 [sC (.lst (vs.map z9)),none,none]=some (.rt (.tup ((vs.map fun p=>(z1M vs).idxOf p).map z9))):=by
  refine x6 (r:=.rt .non) (ρ':=[sC (.lst (vs.map z9)),some (.od (pgK (z54 [])) (pgV (z54 []))),none]) rfl ?_;refine x6 (r:=.rt .non) ((z10 (ds:=vs.map z9) rfl).trans e) ?_;show z0E (z6R (Q3 [none,some 1] (dSq (z8 0)) (w9 0) (z3C) (z8K (z8 1) (z8 0)))) [sC (.lst (vs.map z9)),sC (pgD (z54 (z1M vs))),c2]=_;refine z02 (z7N ((Z9 (ds:=vs.map z9) rfl (by rw[A0];unfold LIM;omega)).trans ?_))
  refine(z0J (fun ρ=>∃c,ρ=[c,sC (pgD (z54 (z1M vs)))]) (fun d=>match d with|.int x=>z9 ((z1M vs).idxOf x.toNat)|_=>.non) _ _ ⟨none,rfl⟩ ?_).trans ?_
  ·rintro d hd ρ ⟨c,rfl⟩;obtain⟨p,hp,rfl⟩:=Av.mp hd;refine⟨_,rfl,⟨_,rfl⟩,?_⟩;show z0U (pgK (z54 (z1M vs))) (pgV (z54 (z1M vs))) (C2 (p:Int))=some (z9 ((z1M vs).idxOf (p:Int).toNat));rw[z7F,x42 hn (show p∈z1M vs from (z9Z vs [] p).mpr (.inr hp)),Ao];rfl
  ·rw[B6,B6];refine congrArg some (B7 fun p _=>?_);show z9 ((z1M vs).idxOf (p:Int).toNat)=_;rw[Ao];rfl
 rw[fin];rfl
noncomputable def atN(f:List Nat)(i:Nat):Nat:=f.getD i 0
structure Found(cl:Nat->Nat->Bool)(m K:Nat)(f:List Nat):Prop where
 len:f.length=m
 col:Col cl m (atN f) K
 fst:z1M f=A9 K
 least:y0X cl m K
section
variable{n:Int}{ts:List Tie}{r:List Int}{k w:Bb}{cl:Nat->Nat->Bool}{m K:Nat}{P:List (Nat×Nat)}
theorem y9F(h:Pages cl m K P):Found cl m K (((A9 m).map fun i=>(P.lookup i).getD 0).map fun p=>(z1M ((A9 m).map fun i=>(P.lookup i).getD 0)).idxOf p):=by
 let c:Nat->Nat:=fun i=>(P.lookup i).getD 0
 have hc:∀i,i<m->(i,c i)∈P:=fun i hi=>by
  have hs:(P.lookup i).isSome=true:=by rw[z36,decide_eq_true ((h.mem i).mpr hi)]
  obtain⟨v,hv⟩:=Ea.mp hs
  have:c i=v:=by show (P.lookup i).getD 0=v;rw[hv];rfl
  rw[this];exact(z8X h.nd).mp hv
 let vs:=(A9 m).map c
 let ks:=z1M vs
 have bZ:∀p,p∈ks↔∃i,i<m/\c i=p:=fun p=>by show p∈vs.foldl K0 []↔_;rw[z9Z,Av];simp[Aj]
 have hn:ks.Nodup:=z4V vs [] Dx
 have ab:ks.length≤K:=by
  have:=Q4 ks (A9 K) hn fun p hp=>by obtain⟨i,hi,rfl⟩:=(bZ p).mp hp;exact Aj.mpr (h.lt _ (hc i hi))
  rw[As]at this;exact this
 have hat:∀i,i<m->atN (vs.map fun p=>ks.idxOf p) i=ks.idxOf (c i):=fun i hi=>by unfold atN;rw[Bh,Au,Au,Em hi];rfl
 have jv:Col cl m (atN (vs.map fun p=>ks.idxOf p)) ks.length:=by
  refine⟨fun i hi=>?_,fun i j hi hj ay e=>?_⟩
  ·rw[hat i hi];exact Cg ((bZ _).mpr ⟨i,hi,rfl⟩)
  ·rw[hat i hi,hat j hj]at e
   have:=y6U ((bZ _).mpr ⟨i,hi,rfl⟩) ((bZ _).mpr ⟨j,hj,rfl⟩) e
   exact h.ok _ (hc i hi) _ (hc j hj) ay this
 have hK:ks.length=K:=by
  have:=h.least _ _ jv
  omega
 refine⟨by rw[A0,A0,As],by rw[←hK];exact jv,?_,h.least⟩
 have e:=x5B (g:=fun p=>ks.idxOf p) vs [] fun a ha b hb e=>y6U ((bZ a).mpr (by simpa [vs,Aj] using ha)) ((bZ b).mpr (by simpa [vs,Aj] using hb)) e;show (vs.map fun p=>ks.idxOf p).foldl K0 ([].map fun p=>ks.idxOf p)=_;rw[e,←hK];show ks.map (fun p=>ks.idxOf p)=_;apply List.ext_getElem?;intro i;rw[Au];by_cases hi:i<ks.length
 ·rw[A3 hi,Em hi];show some (ks.idxOf ks[i])=some i;rw[hn.idxOf_getElem i hi]
 ·rw[Ib (by omega),Ib (by rw[As];omega)]
  rfl
theorem y7S(h:Lay n ts r)(hm:ts.length≤11)(hk:KW k w){F:List Nat}(eF:z1E [W7 n ts,.tup (r.map D.int),.str k]=some (chD F))(hF:Most ts.length (clP r ts w) F):
  ∃(f:List Nat) (K:Nat),z0R [W7 n ts,.tup (r.map D.int),.str k]=some (.tup (f.map z9))/\Found (clP r ts w) ts.length K f/\(k = "queue"->K=F.length):=by
 have m12:=h.m12;obtain⟨hg,aB⟩:=z7W h hk;have er:=y7Q h hk;generalize y6C (z16 ts r w)=R at hg aB er
 have aE:∀(K:Nat) (P:List (Nat×Nat)),Pages (clP r ts w) ts.length K P->(z2E (y9 (d2 dEq (z8 2) (dC (.str "queue"))))
   (z0H 4 (x5 z1X (z7 (z8 0) (z7 (z8 1) (z7 (z8 3) (u3))))))
   (z0H 4 (x5 z2R (z7 (z8 3) (z7 (z15 (dSq (x5 z1E (z7 (z8 0) (z7 (z8 1) (z7 (z8 2) (u3))))))) (u3)))))) [sC (W7 n ts),sC (.tup (r.map D.int)),sC (.str k),sC (z13 R ts.length),none]=some (.nx [sC (W7 n ts),sC (.tup (r.map D.int)),sC (.str k),sC (z13 R ts.length),sC (pgD P)]) ->
   z0R [W7 n ts,.tup (r.map D.int),.str k]=some (.tup ((((A9 ts.length).map fun i=>(P.lookup i).getD 0).map fun p=>(z1M ((A9 ts.length).map fun i=>(P.lookup i).getD 0)).idxOf p).map z9)):=fun K P hP e=>by
  show z2F (z2Y [sC (W7 n ts),sC (.tup (r.map D.int)),sC (.str k),none,none])=_;have en:=y3A (vs:=(A9 ts.length).map fun i=>(P.lookup i).getD 0) (by rw[A0,As];omega)
  have ec:Q3 [none,some 4] (z0I (z15 (dSq (z8 3)))) (w9 0) (z3C) (z8K (z8 1) (z8 0)) [sC (W7 n ts),sC (.tup (r.map D.int)),sC (.str k),sC (z13 R ts.length),sC (pgD P)]=some (((A9 ts.length).map fun i=>(P.lookup i).getD 0).map z9):=by
   have e0:z0I (z15 (dSq (z8 3))) [sC (W7 n ts),sC (.tup (r.map D.int)),sC (.str k),sC (z13 R ts.length),sC (pgD P)]=some ((A9 ts.length).map z9):=z79 ((z29 (ds:=(A9 ts.length).map fun i=>D.lst ((R i).map z9)) rfl).trans (by rw[A0,As])) (by omega);refine(Z9 e0 (by rw[A0,As];unfold LIM;omega)).trans ?_
   refine(z0J (fun ρ=>∃c,ρ=[c,sC (pgD P)]) (fun d=>match d with|.int x=>z9 ((P.lookup x.toNat).getD 0)|_=>.non) _ _ ⟨none,rfl⟩ ?_).trans ?_
   ·rintro d hd ρ ⟨c,rfl⟩;obtain⟨i,hi,rfl⟩:=Av.mp hd;refine⟨_,rfl,⟨_,rfl⟩,?_⟩;show z0U (pgK P) (pgV P) (C2 (i:Int))=some (z9 ((P.lookup (i:Int).toNat).getD 0))
    have hs:(P.lookup i).isSome=true:=by rw[z36,decide_eq_true ((hP.mem i).mpr (Aj.mp hi))]
    obtain⟨v,hv⟩:=Ea.mp hs;rw[z7F,Ao,hv];rfl
   ·rw[B6,B6];refine congrArg some (B7 fun i _=>?_);show z9 ((P.lookup (i:Int).toNat).getD 0)=_;rw[Ao];rfl
  have fin:z2Y [sC (W7 n ts),sC (.tup (r.map D.int)),sC (.str k),none,none]=some (.rt (.tup ((((A9 ts.length).map fun i=>(P.lookup i).getD 0).map fun p=>(z1M ((A9 ts.length).map fun i=>(P.lookup i).getD 0)).idxOf p).map z9))):=by refine x6 (r:=.rt .non) (K8 (d:=z13 R ts.length) ((w8 (ds:=[W7 n ts,.tup (r.map D.int),.str k]) rfl).trans er)) ?_;refine x6 (r:=.rt .non) e ?_;exact z02 ((w8 (ds:=[.lst (((A9 ts.length).map fun i=>(P.lookup i).getD 0).map z9)]) (v8 (z39 ec) rfl)).trans en)
  rw[fin];rfl
 have t0:y9 (d2 dEq (z8 2) (dC (.str "queue"))) [sC (W7 n ts),sC (.tup (r.map D.int)),sC (.str k),sC (z13 R ts.length),none]=some (k=="queue"):=u4 rfl;rcases hk with⟨rfl,rfl⟩|⟨rfl,rfl⟩
 ·have hFl:F.length≤ts.length:=by
   have:=Q4 F (A9 ts.length) (hF.up.imp fun {a b} q=>Ar q) fun x hx=>Aj.mpr (hF.lt x hx)
   rw[As]at this;exact this
  obtain⟨K,P,e,hP⟩:=x6N hg (fun t _=>aB t) hm hFl (z4S hF);refine⟨_,K,aE K P hP ?_,y9F hP,fun z=>absurd z (by decide +kernel)⟩;refine(J9 t0).trans ?_;rw[show (("pile":Bb)=="queue")=false by decide +kernel,if_neg (by decide)];exact(K8 (d:=pgD P) ((w8 (ds:=[z13 R ts.length,z9 F.length]) (v8 rfl (v8 ((z29 (ds:=F.map z9) (z4W ((w8 (ds:=[W7 n ts,.tup (r.map D.int),.str "pile"]) rfl).trans eF))).trans (by rw[A0];rfl)) rfl))).trans e)).trans rfl
 ·obtain⟨P,e,hP⟩:=x23 h hg hF;refine⟨_,F.length,aE F.length P hP ?_,y9F hP,fun _=>rfl⟩;refine(J9 t0).trans ?_;rw[show (("queue":Bb)=="queue")=true by decide +kernel,if_pos rfl];exact(K8 (d:=pgD P) ((w8 (ds:=[W7 n ts,.tup (r.map D.int),z13 R ts.length]) rfl).trans e)).trans rfl
end
theorem y7B:∀bs:List Bool,z7S (bs.map D.bl)=some bs
 | []=>rfl
 |b::bs=>by rw[Ai,z7S,y7B bs];rfl
theorem y5H{f:List Nat}{i:Nat}(h:i<f.length):atI (f.map z9) (i:Int)=some (z9 (atN f i)):=by unfold atI;rw[A0,z7H h];show (f.map z9)[i]?=_;rw[Au,A3 h];unfold atN;rw[Bh,A3 h];rfl
section
variable{n:Int}{ts:List Tie}{r:List Int}{k w:Bb}
def z7X(pairs:List Tie)(f:List Nat):Bool:=pairs.all fun t=>!decide (atN f t.1.toNat=atN f t.2.toNat)
theorem z5P{d:D}(h:y4Q "tuple" d=false):z1F [W7 n ts,d]=some (.bl false):=by show z2F (z1A [sC (W7 n ts),sC d])=_;rw[show z1A [sC (W7 n ts),sC d]=some (.rt (.bl false)) from z1S ((J9 (a:=!false||false) (z85 (z2Z (u4 ((y4U (d:=d) rfl).trans (by rw[h])))) fun z=>by cases z)).trans rfl)];rfl
noncomputable def pgB:D->Bool
 | .int i=>decide (0≤i)
 |_=>false
theorem x21(d:D){ρ:u5}(h:z8 0 ρ=some d):x8Q (x5 z3G (z7 (z8 0) (u3))) (d2 w6H (z8 0) (dC (.int 0))) ρ=some (.bl (pgB d)):=by
 have e1:x5 z3G (z7 (z8 0) u3) ρ=some (.bl (match d with|.int _=>true|_=>false)):=by
  refine(w8 (ds:=[d]) (v8 h rfl)).trans ?_;show z2F (z7L [sC d])=_
  have fin:z7L [sC d]=some (.rt (.bl (match d with|.int _=>true|_=>false))):=by refine z02 ((y9I (a:=y4Q "int" d) (b:=!y4Q "bool" d) (y4U rfl) fun _=>w0E (y4U rfl)).trans ?_);cases d<;>rfl
  rw[fin];rfl
 cases d with
 |int i=>exact y9I (a:=true) (b:=decide (0≤i)) e1 fun _=>(z2N h rfl).trans rfl
 |_=>exact y9I (a:=false) (b:=false) e1 fun z=>by cases z
theorem z5O{ds:List D}(hl:ds.length≤1000):z1F [W7 n ts,.tup ds]=some (.bl (decide (ds.length=ts.length)&&ds.all pgB)):=by
 show z2F (z1A [sC (W7 n ts),sC (.tup ds)])=_;have e0:=J9 (g:=z0E (dC (.bl false))) (k:=Z3) (ρ:=[sC (W7 n ts),sC (.tup ds)]) (ga:=y3D (z64 (y9 (x27 "tuple" (z8 1)))) (y9 (d2 dNe (z15 (dSq (z8 1))) (z15 (dSq (dIx (dSq (z8 0)) (dC (.int 1)))))))) (a:=!true||!((ds.length:Int)==(ts.length:Int))) (z85 (z2Z (u4 rfl)) fun _=>u4 ((z2N (x:=.int (ds.length:Int)) (y:=.int (ts.length:Int)) (z29 rfl) ((z29 (ds:=ts.map v9) rfl).trans (by rw[A0]))).trans (x9S _ _)))
 by_cases c:ds.length=ts.length
 ·rw[show (!true||!((ds.length:Int)==(ts.length:Int)))=false by rw[c];simp]at e0
  have e1:Q3 [none] (dSq (z8 1)) (w9 0) (z3C) (x8Q (x5 z3G (z7 (z8 0) (u3))) (d2 w6H (z8 0) (dC (.int 0)))) [sC (W7 n ts),sC (.tup ds)]=some ((ds.map pgB).map D.bl):=by
   refine(Z9 (ds:=ds) rfl (by unfold LIM;omega)).trans ?_
   refine(z0J (fun ρ=>∃c,ρ=[c]) (fun d=>.bl (pgB d)) _ _ ⟨none,rfl⟩ ?_).trans (by rw[B6];rfl)
   rintro d hd ρ ⟨c,rfl⟩;exact⟨_,rfl,⟨_,rfl⟩,x21 d rfl⟩
  have fin:z1A [sC (W7 n ts),sC (.tup ds)]=some (.rt (.bl (ds.all pgB))):=by refine x6 (r:=.rt .non) (e0.trans rfl) (z02 ((w0F e1 (y7B _)).trans ?_));rw[Kj];rfl
  rw[fin,decide_eq_true c,Lm];rfl
 ·have ag:((ds.length:Int)==(ts.length:Int))=false:=by rw[beq_eq_false_iff_ne];omega
  rw[ag]at e0;rw[show z1A [sC (W7 n ts),sC (.tup ds)]=some (.rt (.bl false)) from z1S (e0.trans rfl),decide_eq_false c];rfl
theorem x22{d:D}(h:z1F [W7 n ts,d]=some (.bl false)):Q0 [W7 n ts,.tup (r.map D.int),.str k,d]=some (.bl false):=by show z2F (z27 [sC (W7 n ts),sC (.tup (r.map D.int)),sC (.str k),sC d])=_;rw[show z27 [sC (W7 n ts),sC (.tup (r.map D.int)),sC (.str k),sC d]=some (.rt (.bl false)) from z1S ((J9 (a:=!false) (z2Z (u4 ((w8 (ds:=[W7 n ts,d]) rfl).trans h)))).trans rfl)];rfl
theorem w25:∀f:List Nat,(f.map z9).all pgB=true:=fun f=>by rw[Kj,C1];intro x _;show decide ((0:Int)≤(x:Int))=true;exact decide_eq_true (Jh x)
theorem y1R(h:Lay n ts r)(hk:KW k w){f:List Nat}(hf:f.length=ts.length):Q0 [W7 n ts,.tup (r.map D.int),.str k,.tup (f.map z9)]=some (.bl (z7X (u0 ts.length (clP r ts w) ts.length) f)):=by
 have m12:=h.m12;have ep:=z5O (n:=n) (ts:=ts) (ds:=f.map z9) (by rw[A0];omega)
 rw[A0,decide_eq_true hf,w25,Lm]at ep;have ec:=z89 (n:=n) hk.tab h.nd h.rl h.m12 h.mem
 have hl:(u0 ts.length (clP r ts w) ts.length).length≤1000:=by
  rw[←z8Q,(z17 _).length_eq]
  have:=z1L (clP r ts w) ts.length m12
  omega
 show z2F (z27 [sC (W7 n ts),sC (.tup (r.map D.int)),sC (.str k),sC (.tup (f.map z9))])=_
 have hm:∀t∈u0 ts.length (clP r ts w) ts.length,∃i j:Nat,t=((i:Int),(j:Int))/\i<ts.length/\j<ts.length:=fun t ht=>by obtain⟨i,j,e,_,h1,h2,_⟩:=Q6.mp ht;exact⟨i,j,e,by omega,h2⟩
 generalize u0 ts.length (clP r ts w) ts.length=pairs at ec hl hm
 have e1:Q3 [none,none,some 3] (dSq (x5 z2D (z7 (z8 0) (z7 (z8 1) (z7 (z8 2) (u3)))))) (y52 2 (z2P (w9 0) (z2P (w9 1) (y53)))) (z3C) (d2 dNe (dIx (dSq (z8 2)) (z8 0)) (dIx (dSq (z8 2)) (z8 1))) [sC (W7 n ts),sC (.tup (r.map D.int)),sC (.str k),sC (.tup (f.map z9))]=some ((pairs.map fun t=>!decide (atN f t.1.toNat=atN f t.2.toNat)).map D.bl):=by
  refine(Z9 (ds:=pairs.map v9) (z4W ((w8 (ds:=[W7 n ts,.tup (r.map D.int),.str k]) rfl).trans ec)) (by rw[A0];unfold LIM;omega)).trans ?_
  refine(z0J (fun ρ=>∃c c',ρ=[c,c',sC (.tup (f.map z9))]) (fun d=>match d with|.tup [.int a,.int b]=>.bl (!decide (atN f a.toNat=atN f b.toNat))|_=>.non) _ _ ⟨none,none,rfl⟩ ?_).trans ?_
  ·rintro d hd ρ ⟨c,c',rfl⟩;obtain⟨t,ht,rfl⟩:=Av.mp hd;obtain⟨i,j,rfl,hi,hj⟩:=hm t ht;refine⟨_,rfl,⟨_,_,rfl⟩,?_⟩;refine(z2N (x:=z9 (atN f i)) (y:=z9 (atN f j)) ((z2G (ds:=f.map z9) (j:=(i:Int)) rfl rfl).trans (y5H (by omega))) ((z2G (ds:=f.map z9) (j:=(j:Int)) rfl rfl).trans (y5H (by omega)))).trans ?_;show some (D.bl (!((atN f i:Int)==(atN f j:Int))))=some (D.bl (!decide (atN f (i:Int).toNat=atN f (j:Int).toNat)))
   rw[Ao,Ao];congr 3;by_cases c:atN f i=atN f j
   ·rw[c];simp
   ·have:¬(atN f i:Int)=(atN f j:Int):=by omega
    simp[c,this]
  ·rw[B6,B6];rfl
 have fin:z27 [sC (W7 n ts),sC (.tup (r.map D.int)),sC (.str k),sC (.tup (f.map z9))]=some (.rt (.bl (z7X pairs f))):=by refine x6 (r:=.rt .non) ((J9 (a:=!true) (z2Z (u4 ((w8 (ds:=[W7 n ts,.tup (f.map z9)]) rfl).trans ep)))).trans rfl) ?_;refine z02 ((w0F e1 (y7B _)).trans ?_);rw[Kj];rfl
 rw[fin];rfl
theorem z5N{pairs:List Tie}{f:List Nat}(hl:pairs.length≤1000)(hm:∀t∈pairs,∃i j:Nat,t=((i:Int),(j:Int))/\i<f.length/\j<f.length):z07 [.lst (pairs.map v9),.tup (f.map z9)]=some (.bl (z7X pairs f)):=by
 show z2F (z60 [sC (.lst (pairs.map v9)),sC (.tup (f.map z9))])=_
 have e1:Q3 [none,some 1] (dSq (z8 0)) (w9 0) (y9 (d2 dEq (dIx (dSq (z8 1)) (dIx (dSq (z8 0)) (dC (.int 0)))) (dIx (dSq (z8 1)) (dIx (dSq (z8 0)) (dC (.int 1)))))) (z8 0) [sC (.lst (pairs.map v9)),sC (.tup (f.map z9))]=some ((pairs.filter fun t=>decide (atN f t.1.toNat=atN f t.2.toNat)).map v9):=by
  refine(Z9 (ds:=pairs.map v9) rfl (by rw[A0];unfold LIM;omega)).trans ?_
  refine(J7 (fun ρ=>∃c,ρ=[c,sC (.tup (f.map z9))]) (fun d=>match d with|.tup [.int a,.int b]=>decide (atN f a.toNat=atN f b.toNat)|_=>false) (fun d=>d) _ _ ⟨none,rfl⟩ ?_).trans ?_
  ·rintro d hd ρ ⟨c,rfl⟩;obtain⟨t,ht,rfl⟩:=Av.mp hd;obtain⟨i,j,rfl,hi,hj⟩:=hm t ht;refine⟨_,rfl,⟨_,rfl⟩,u4 ?_,fun _=>rfl⟩;refine(z2N (x:=z9 (atN f i)) (y:=z9 (atN f j)) ((z2G (ds:=f.map z9) (j:=(i:Int)) rfl rfl).trans (y5H hi)) ((z2G (ds:=f.map z9) (j:=(j:Int)) rfl rfl).trans (y5H hj))).trans ((y4V _ _).trans ?_);show some (D.bl (decide (atN f i=atN f j)))=some (D.bl (decide (atN f (i:Int).toNat=atN f (j:Int).toNat)))
   rw[Ao,Ao]
  ·rw[Gr,Hd];rfl
 have fin:z60 [sC (.lst (pairs.map v9)),sC (.tup (f.map z9))]=some (.rt (.bl (z7X pairs f))):=by
  refine z02 ((z2N (x:=.lst ((pairs.filter fun t=>decide (atN f t.1.toNat=atN f t.2.toNat)).map v9)) (y:=.lst []) (z39 e1) (z39 (z5L rfl (by decide)))).trans ?_);unfold dEq;have hd:=z3X (pairs.filter fun t=>decide (atN f t.1.toNat=atN f t.2.toNat));rw[if_pos ⟨by rw[depth];unfold z22;omega,by simp[depth,z00,z22]⟩,beq]
  congr 2
  have e2:z7X pairs f=(pairs.filter fun t=>decide (atN f t.1.toNat=atN f t.2.toNat)).isEmpty:=by
   unfold z7X;rw[Bool.eq_iff_iff,List.isEmpty_iff,Ia,C1];constructor
   ·intro z t ht
    have:=z t ht
    simpa using this
   ·intro z t ht
    have:=z t ht
    simpa using this
  rw[e2];cases pairs.filter fun t=>decide (atN f t.1.toNat=atN f t.2.toNat)<;>simp[x1Q]
 rw[fin];rfl
structure Pre(cl:Nat->Nat->Bool)(K:Nat)(ps:List Nat):Prop where
 lt:∀v∈ps,v<K
 ok:∀i j,i<j->j<ps.length->cl i j=true->atN ps i≠atN ps j
def Can(cl:Nat->Nat->Bool)(m K:Nat):Prop:=∃c,Col cl m c K
def y2X(Fr:LD):EO:=
 (z2E (z64 (y0S (Q3 [none,some 3,some 4,some 0] (z0I (z15 (dSq (z8 3)))) (w9 0) (z3Y (y9 (d2 dEq (dIx (dSq (z8 1)) (z8 0)) (z8 2))) (y9 (dIn false (z2O (z7 (z8 0) (z7 (z15 (dSq (z8 1))) (u3)))) (dSq (z8 3))))) (z8 0))))
 (z2E (y9 (x5 Fr (z7 (z8 0) (z7 (z8 1) (z7 (z8 2) (z7 (dLs (x5U (z0V (z8 3)) (y09 (z7 (z8 4) (u3))))) (u3)))))))
 (z0E (dC (.bl true)))
 (Z3))
 (Z3))
def y00(pairs:List Tie)(K m:Nat)(ps:List Nat)(c4:Option Cell):u5:=[sC (.lst (pairs.map v9)),sC (z9 K),sC (z9 m),sC (.lst (ps.map z9)),c4]
def w7W(pairs:List Tie)(v:Nat)(ps:List Nat):D->Bool
 | .int x=>decide (atN ps x.toNat=v)&&decide ((x,(ps.length:Int))∈pairs)
 |_=>false
def x8Y(pairs:List Tie)(v:Nat)(ps:List Nat)(i:Nat):Bool:=decide (atN ps i=v)&&decide (((i:Int),(ps.length:Int))∈pairs)
theorem y9W(pairs:List Tie)(v:Nat)(ps:List Nat)(i:Nat):w7W pairs v ps (z9 i)=x8Y pairs v ps i:=by unfold z9 w7W x8Y;dsimp only;rw[Ao]
def w6I:EB:=z3Y (y9 (d2 dEq (dIx (dSq (z8 1)) (z8 0)) (z8 2))) (y9 (dIn false (z2O (z7 (z8 0) (z7 (z15 (dSq (z8 1))) (u3)))) (dSq (z8 3))))
theorem w3C{pairs:List Tie}{v i:Nat}{ps:List Nat}(hi:i<ps.length):w6I [sC (z9 i),sC (.lst (ps.map z9)),sC (z9 v),sC (.lst (pairs.map v9))]=some (x8Y pairs v ps i):=by
 have e1:d2 dEq (dIx (dSq (z8 1)) (z8 0)) (z8 2) [sC (z9 i),sC (.lst (ps.map z9)),sC (z9 v),sC (.lst (pairs.map v9))]=some (.bl (decide (atN ps i=v))):=(z2N (x:=z9 (atN ps i)) (y:=z9 v) ((z2G (ds:=ps.map z9) (j:=(i:Int)) rfl rfl).trans (y5H hi)) rfl).trans (y4V _ _);have e2:z2O (z7 (z8 0) (z7 (z15 (dSq (z8 1))) (u3))) [sC (z9 i),sC (.lst (ps.map z9)),sC (z9 v),sC (.lst (pairs.map v9))]=some (v9 ((i:Int),(ps.length:Int))):=z5K (ds:=[.int (i:Int),.int (ps.length:Int)]) (v8 rfl (v8 ((z29 (ds:=ps.map z9) rfl).trans (by rw[A0])) rfl)) (show 2≤LIM by decide)
 have e3:dIn false (z2O (z7 (z8 0) (z7 (z15 (dSq (z8 1))) (u3)))) (dSq (z8 3)) [sC (z9 i),sC (.lst (ps.map z9)),sC (z9 v),sC (.lst (pairs.map v9))]=some (.bl (decide (((i:Int),(ps.length:Int))∈pairs))):=by
  refine(x16 (neg:=false) e2 (ds:=pairs.map v9) rfl (Bk (z3X pairs) (by decide)) (by rw[y04];decide)).trans ?_
  rw[y6T];rfl
 exact z7O (u4 e1) fun _=>u4 e3
theorem w36{pairs:List Tie}{K m:Nat}{ps:List Nat}{c4:Option Cell}(hl:ps.length≤1000):z0I (z15 (dSq (z8 3))) (y00 pairs K m ps c4)=some ((A9 ps.length).map z9):=z79 ((z29 (ds:=ps.map z9) rfl).trans (by rw[A0])) (by omega)
theorem w63{pairs:List Tie}{v:Nat}{ps:List Nat}:z4G (w9 0) w6I (z8 0) [none,sC (.lst (ps.map z9)),sC (z9 v),sC (.lst (pairs.map v9))] ((A9 ps.length).map z9)=some (((A9 ps.length).filter (x8Y pairs v ps)).map z9):=by
 refine(J7 (fun ρ=>∃c,ρ=[c,sC (.lst (ps.map z9)),sC (z9 v),sC (.lst (pairs.map v9))]) (w7W pairs v ps) (fun d=>d) _ _ ⟨none,rfl⟩ ?_).trans ?_
 ·rintro d hd ρ ⟨c,rfl⟩;obtain⟨i,hi,rfl⟩:=Av.mp hd;refine⟨_,rfl,⟨_,rfl⟩,?_,fun _=>rfl⟩;rw[y9W];exact w3C (Aj.mp hi)
 ·rw[Gr,z5B (q:=x8Y pairs v ps) _ (fun i _=>y9W pairs v ps i)]
theorem x8U{pairs:List Tie}{K m v:Nat}{ps:List Nat}(hl:ps.length≤1000):Q3 [none,some 3,some 4,some 0] (z0I (z15 (dSq (z8 3)))) (w9 0) w6I (z8 0) (y00 pairs K m ps (sC (z9 v)))=some (((A9 ps.length).filter (x8Y pairs v ps)).map z9):=(Z9 (w36 hl) (by rw[A0,As];unfold LIM;omega)).trans w63
theorem w0X{fl:EL}{ρ:u5}{L:List Nat}(h:fl ρ=some (L.map z9)):y0S fl ρ=some (!L.isEmpty):=by unfold y0S;rw[h];cases L<;>rfl
theorem w37{pairs:List Tie}{K m v:Nat}{ps:List Nat}(hl:ps.length≤1000):y0S (Q3 [none,some 3,some 4,some 0] (z0I (z15 (dSq (z8 3)))) (w9 0) w6I (z8 0)) (y00 pairs K m ps (sC (z9 v)))=some (!((A9 ps.length).filter (x8Y pairs v ps)).isEmpty):=w0X (x8U hl)
theorem y7F{ps:List Nat}{v i:Nat}(h:i<ps.length):atN (ps++[v]) i=atN ps i:=by unfold atN;rw[Bh,Bh,Dg h]
theorem x8Z{ps:List Nat}{v:Nat}:atN (ps++[v]) ps.length=v:=by unfold atN;rw[Bh,List.getElem?_concat_length];rfl
variable{cl:Nat->Nat->Bool}{m K:Nat}{pairs:List Tie}
theorem y9S(hp:∀i j:Nat,i<j->j<m->cl i j=true->((i:Int),(j:Int))∈pairs){ps:List Nat}(hl:ps.length<m)(hm:m≤100)(h:Pre cl K ps){Fr:LD}(hF:∀gz:List Nat,Pre cl K gz->gz.length=ps.length+1->∃b,Fr [.lst (pairs.map v9),z9 K,z9 m,.lst (gz.map z9)]=some (.bl b)/\(b=true->Can cl m K)):
  ∀(vs:List Nat) (c4:Option Cell),(∀v∈vs,v<K) ->
   (z0D (w9 4) (y2X Fr) (vs.map z9) (y00 pairs K m ps c4)=some (.rt (.bl true))/\Can cl m K)∨∃bD,z0D (w9 4) (y2X Fr) (vs.map z9) (y00 pairs K m ps c4)=some (.nx (y00 pairs K m ps bD))
 | [],c4,_=>.inr ⟨c4,rfl⟩
 |v::vs,c4,hv=>by
  have rest:=y9S hp hl hm h hF vs (sC (z9 v)) fun w hw=>hv w (A7 _ hw);have e0:=w37 (pairs:=pairs) (K:=K) (m:=m) (v:=v) (ps:=ps) (by omega);rw[Ai]
  cases hb:((A9 ps.length).filter (x8Y pairs v ps)).isEmpty with
  |false=>rw[hb]at e0;rw[z1Q (g:=y2X Fr) (h:=w9 4) (d:=z9 v) (ds:=vs.map z9) (ρ:=y00 pairs K m ps c4) (ρ1:=y00 pairs K m ps (sC (z9 v))) (ρ2:=y00 pairs K m ps (sC (z9 v))) rfl ((J9 (z2Z e0)).trans rfl)];exact rest
  |true=>
   rw[hb]at e0
   have cJ:Pre cl K (ps++[v]):=by
    refine⟨fun x hx=>?_,fun i j be hj hc=>?_⟩
    ·rcases Aw.mp hx with z|z
     ·exact h.lt x z
     ·rw[Ae.mp z];exact hv v A6
    ·rw[Ad,Az]at hj;by_cases c:j<ps.length
     ·rw[y7F (by omega),y7F c];exact h.ok i j be c hc
     ·have:j=ps.length:=by omega
      subst this;rw[y7F be,x8Z];intro e;have aG:=hp i ps.length be hl hc
      have:=Ia.mp (List.isEmpty_iff.mp hb) i (Aj.mpr be)
      unfold x8Y at this;rw[decide_eq_true e,decide_eq_true aG]at this;exact this rfl
   obtain⟨b,eb,eQ⟩:=hF (ps++[v]) cJ (by rw[Ad,Az])
   have ec:y9 (x5 Fr (z7 (z8 0) (z7 (z8 1) (z7 (z8 2) (z7 (dLs (x5U (z0V (z8 3)) (y09 (z7 (z8 4) (u3))))) (u3)))))) (y00 pairs K m ps (sC (z9 v)))=some b:=by
    refine u4 ((w8 (ds:=[.lst (pairs.map v9),z9 K,z9 m,.lst ((ps++[v]).map z9)]) (v8 rfl (v8 rfl (v8 rfl (v8 (z39 ?_) rfl))))).trans eb);show (if (ps.map z9).length+[z9 v].length≤LIM then some (ps.map z9++[z9 v]) else none)=_;rw[if_pos (by rw[A0,Az];unfold LIM;omega),Ba]
    rfl
   cases b with
   |true=>exact .inl ⟨y8W rfl ((J9 (z2Z e0)).trans ((J9 ec).trans rfl)),eQ rfl⟩
   |false=>rw[z1Q (g:=y2X Fr) (h:=w9 4) (d:=z9 v) (ds:=vs.map z9) (ρ:=y00 pairs K m ps c4) (ρ1:=y00 pairs K m ps (sC (z9 v))) (ρ2:=y00 pairs K m ps (sC (z9 v))) rfl ((J9 (z2Z e0)).trans ((J9 ec).trans rfl))];exact rest
theorem y9X(hs:∀i j,cl i j=cl j i)(hi:∀i,cl i i=false)(hp:∀i j:Nat,i<j->j<m->cl i j=true->((i:Int),(j:Int))∈pairs)(hm:m≤100)(hK:K≤1000):∀(q:Nat) (ps:List Nat),Pre cl K ps->ps.length≤m->m<q+ps.length->∃b,W5 q [.lst (pairs.map v9),z9 K,z9 m,.lst (ps.map z9)]=some (.bl b)/\(b=true->Can cl m K)
 | 0,ps,_,hl,hq=>by omega
 |q+1,ps,h,hl,hq=>by
  have e0:y9 (d2 dEq (z15 (dSq (z8 3))) (z8 2)) (y00 pairs K m ps none)=some (decide (ps.length=m)):=u4 ((z2N (x:=z9 ps.length) (y:=z9 m) ((z29 (ds:=ps.map z9) rfl).trans (by rw[A0];rfl)) rfl).trans (y4V _ _))
  by_cases c:ps.length=m
  ·rw[decide_eq_true c]at e0;refine⟨true,?_,fun _=>⟨atN ps,fun i aO=>?_,fun i j aO hj hc e=>?_⟩⟩
   ·show z2F (z25 (W5 q) (y00 pairs K m ps none))=_;rw[show z25 (W5 q) (y00 pairs K m ps none)=some (.rt (.bl true)) from z1S ((J9 e0).trans rfl)];rfl
   ·unfold atN;rw[Bh,A3 (by omega)];exact h.lt _ (Bw _)
   ·rcases I0 i j with z|z|z
    ·exact h.ok i j z (by omega) hc e
    ·subst z;rw[hi]at hc;cases hc
    ·exact h.ok j i z (by omega) (by rw[hs];exact hc) e.symm
  ·rw[decide_eq_false c]at e0
   have er:z0I (x5 x26 (z7 (z8 1) (z7 (d2 z2Q (z1C (dSq (z8 3))) (dC (.int 1))) u3))) (y00 pairs K m ps none)=some ((A9 (Ip K (cntN ps+1))).map z9):=by
    have e1:z1C (dSq (z8 3)) (y00 pairs K m ps none)=some (z9 (cntN ps)):=by
     unfold z1C;rw[show dSq (z8 3) (y00 pairs K m ps none)=some (ps.map z9) from rfl];dsimp only;rw[z59];dsimp only;rw[if_pos (by rw[A0];omega)]
     rfl
    refine z79 (j:=Ip K (cntN ps+1)) ((w8 (ds:=[D.int (K:Int),D.int ((cntN ps:Int)+1)]) (v8 rfl (v8 ((z2N (x:=.int (cntN ps:Int)) (y:=.int 1) e1 rfl).trans rfl) rfl))).trans ((y8U _ _).trans ?_)) (by omega);congr 2;omega
   have hF:=fun (gz:List Nat) (gJ:Pre cl K gz) (cp:gz.length=ps.length+1)=>y9X hs hi hp hm hK q gz gJ (by omega) (by omega);rcases y9S hp (by omega) hm h (Fr:=W5 q) hF (A9 (Ip K (cntN ps+1))) none (fun v hv=>by have:=Aj.mp hv;omega) with⟨z1,z2⟩|⟨c4,z1⟩
   ·refine⟨true,?_,fun _=>z2⟩;show z2F (z25 (W5 q) (y00 pairs K m ps none))=_;rw[show z25 (W5 q) (y00 pairs K m ps none)=some (.rt (.bl true)) from x6 (r:=.rt .non) ((J9 e0).trans rfl) (z1S ((z10 er).trans z1))];rfl
   ·refine⟨false,?_,fun z=>by cases z⟩;show z2F (z25 (W5 q) (y00 pairs K m ps none))=_;rw[show z25 (W5 q) (y00 pairs K m ps none)=some (.rt (.bl false)) from x6 (r:=.rt .non) ((J9 e0).trans rfl) (x6 (r:=.rt .non) ((z10 er).trans z1) (z02 rfl))];rfl
end
theorem y6L{d:D}(h:depth d≤z22):dNe d d=some (.bl false):=by unfold dNe;rw[if_pos ⟨h,h⟩,z8Y];rfl
theorem x55{n:Nat}{p:Int}:p∈iUp 0 n↔0≤p/\p<(n:Int):=by
 unfold iUp;constructor
 ·intro h;obtain⟨k,hk,rfl⟩:=Av.mp h
  have:=Aj.mp hk
  omega
 ·intro h;exact Av.mpr ⟨p.toNat,Aj.mpr (by omega),by omega⟩
theorem x54(n:Nat):(iUp 0 n).Nodup:=by unfold iUp;exact Bu.mpr (Dt.imp fun {a b} h z=>h (by omega))
theorem y6R{fa:ED}{ρ:u5}{K:Nat}(h:fa ρ=some (.int (K:Int)))(hK:K≤1000):Y7 fa ρ=some ((A9 K).map z9):=by refine(z5C (j:=(K:Int)) h (by omega) (by omega)).trans ?_;rw[Ao];unfold iUp;rw[B6];refine congrArg some (B7 fun i _=>?_);show D.int (0+(i:Int))=D.int (i:Int);rw[Iy]
section
variable{n:Int}{ts:List Tie}{r:List Int}{k w:Bb}
def z3H(ns:List Int)(c1:Option Cell)(n:Int)(ts:List Tie)(r:List Int)(k:Bb)(pairs:List Tie)(f:List Nat)(c8 c9 c10 c11 c12 c13 c14 c15:Option Cell):u5:=[sC (.lst (ns.map D.int)),c1,sC (W7 n ts),sC (.tup (r.map D.int)),sC (.int (ts.length:Int)),sC (.str k),sC (.lst (pairs.map v9)),sC (.tup (f.map z9)),c8,c9,c10,c11,c12,c13,c14,c15]
variable{ns:List Int}{pairs:List Tie}{f:List Nat}{c1 c8 c9 c10 c11 c12 c13 c14 c15:Option Cell}
def w2T:EO:=z2E (y9 (dIn true (z8 10) (z4Z 9))) (y9L 9 (z8 10)) (Z3)
theorem x8G{ks:List Nat}{p:Nat}(hl:ks.length≤1000):w2T (z3H ns c1 n ts r k pairs f c8 (some (.ow (ks.map z9))) (sC (z9 p)) c11 c12 c13 c14 c15)=some (.nx (z3H ns c1 n ts r k pairs f c8 (some (.ow ((K0 ks p).map z9))) (sC (z9 p)) c11 c12 c13 c14 c15)):=by
 have e0:=J9 (g:=y9L 9 (z8 10)) (k:=Z3) (ρ:=z3H ns c1 n ts r k pairs f c8 (some (.ow (ks.map z9))) (sC (z9 p)) c11 c12 c13 c14 c15) (u4 (y9B true (fa:=z8 10) (fl:=z4Z 9) (a:=p) (E:=ks) rfl rfl));unfold K0;by_cases c:p∈ks
 ·rw[if_pos c];refine e0.trans ?_;rw[decide_eq_true c];rfl
 ·rw[if_neg c];refine e0.trans ?_;rw[decide_eq_false c,if_pos rfl,if_pos (by decide),Ba];exact y9H (ds:=ks.map z9) (d:=z9 p) rfl rfl (by rw[A0];unfold LIM;omega)
theorem w0C:∀(vs ks:List Nat) (c10:Option Cell),ks.length+vs.length≤1000->∃cm,z0D (w9 10) w2T (vs.map z9) (z3H ns c1 n ts r k pairs f c8 (some (.ow (ks.map z9))) c10 c11 c12 c13 c14 c15)=some (.nx (z3H ns c1 n ts r k pairs f c8 (some (.ow ((vs.foldl K0 ks).map z9))) cm c11 c12 c13 c14 c15))
 | [],ks,c10,_=>⟨c10,rfl⟩
 |p::vs,ks,c10,hl=>by
  rw[Ay]at hl
  have h2:(K0 ks p).length≤ks.length+1:=by
   unfold K0;split
   ·omega
   ·rw[Ad,Az];exact Ak _
  obtain⟨cm,e⟩:=w0C vs (K0 ks p) (sC (z9 p)) (by omega);refine⟨cm,?_⟩;rw[Ai];exact(z1Q rfl (x8G (by omega))).trans e
theorem w2J{K:Nat}(hK:K≤1000):y51 9 (y9 (d2 dNe (z8 9) (dLs (Y7 (z8 8))))) (z3H ns c1 n ts r k pairs f (sC (z9 K)) (some (.ow ((A9 K).map z9))) c10 c11 c12 c13 c14 c15)=some false:=by
 show y9 (d2 dNe (z8 9) (dLs (Y7 (z8 8)))) (z3H ns c1 n ts r k pairs f (sC (z9 K)) (sC (.lst ((A9 K).map z9))) c10 c11 c12 c13 c14 c15)=some false;have e1:Y7 (z8 8) (z3H ns c1 n ts r k pairs f (sC (z9 K)) (sC (.lst ((A9 K).map z9))) c10 c11 c12 c13 c14 c15)=some ((A9 K).map z9):=y6R rfl hK;refine u4 ((z2N (x:=.lst ((A9 K).map z9)) (y:=.lst ((A9 K).map z9)) rfl (z39 e1)).trans (y6L ?_))
 rw[depth,z7P];decide
theorem y0Z(K:Nat):z48 [z9 K]=some (.bl true):=by show z2F (z5Z [sC (z9 K)])=_;have fin:z5Z [sC (z9 K)]=some (.rt (.bl true)):=z02 ((y9I (a:=y4Q "int" (z9 K)) (b:=!y4Q "bool" (z9 K)) (y4U rfl) fun _=>w0E (y4U rfl)).trans rfl);rw[fin];rfl
def z2L(m:Nat)(c:Int):List Nat:=(A9 m).map fun (i:Nat)=>(mix (c+3*(i:Int)) 9923 4).toNat
def x9P:ED:=z6R (Q3 [none,some 12] (z0I (z8 4)) (w9 0) (z3C) (x5 Q5 (z7 (d2 z2Q (z8 1) (d2 z65 (dC (.int 3)) (z8 0))) (z7 (dC (.int 9923)) (z7 (dC (.int 4)) (u3))))))
def w8Z:ED:=x5 Q5 (z7 (d2 z2Q (z8 1) (d2 z65 (dC (.int 3)) (z8 0))) (z7 (dC (.int 9923)) (z7 (dC (.int 4)) (u3))))
theorem w28{c:Int}{i:Nat}(hi:i≤1000):w8Z [sC (z9 i),sC (.int c)]=some (z9 (mix (c+3*(i:Int)) 9923 4).toNat):=by
 have e1:d2 z65 (dC (.int 3)) (z8 0) [sC (z9 i),sC (.int c)]=some (.int (3*(i:Int))):=by refine(z2N (x:=.int 3) (y:=.int (i:Int)) rfl rfl).trans (x9V 3 ?_);unfold z4L;rw[Ax,decide_eq_true_iff,decide_eq_true_iff];omega
 have e2:d2 z2Q (z8 1) (d2 z65 (dC (.int 3)) (z8 0)) [sC (z9 i),sC (.int c)]=some (.int (c+3*(i:Int))):=(z2N (x:=.int c) (y:=.int (3*(i:Int))) rfl e1).trans rfl;refine(w8 (ds:=[.int (c+3*(i:Int)),.int 9923,.int 4]) (v8 e2 rfl)).trans ((z0W _ (by decide) (by decide)).trans ?_)
 have:=y1G (c+3*(i:Int)) 9923 (show (0:Int)<4 by decide)
 unfold z9;rw[Gx this]
theorem x3W{c:Int}(hm:ts.length≤100):x9P (z3H ns c1 n ts r k pairs f c8 c9 c10 c11 (sC (.int c)) c13 c14 c15)=some (.tup ((z2L ts.length c).map z9)):=by
 refine z7N ?_;have e0:z0I (z8 4) (z3H ns c1 n ts r k pairs f c8 c9 c10 c11 (sC (.int c)) c13 c14 c15)=some ((A9 ts.length).map z9):=z79 rfl (by omega);refine(Z9 e0 (by rw[A0,As];unfold LIM;omega)).trans ?_
 refine(z0J (fun ρ=>∃c0,ρ=[c0,sC (.int c)]) (fun d=>match d with|.int i=>z9 (mix (c+3*i) 9923 4).toNat|_=>.non) _ _ ⟨none,rfl⟩ ?_).trans ?_
 ·rintro d hd ρ ⟨c0,rfl⟩;obtain⟨i,hi,rfl⟩:=Av.mp hd
  have:=Aj.mp hi
  exact⟨_,rfl,⟨_,rfl⟩,w28 (by omega)⟩
 ·unfold z2L;rw[B6,B6];rfl
def y2K:EO:=
 (K6 (z0H 13 x9P)
 (K6 (z0H 14 (x5 Q0 (z7 (z8 2) (z7 (z8 3) (z7 (z8 5) (z7 (z8 13) (u3)))))))
 (K6 (z2E (y3D (z64 (y9 (x27 "bool" (z8 14)))) (y9 (d2 dNe (z8 14) (x5 z07 (z7 (z8 6) (z7 (z8 13) (u3)))))))
 (z0E (dC (.bl false)))
 (Z3))
 (z2E (y9 (d2 dNe (x5 Q9 (z7 (z8 13) (u3))) (z1C (dSq (z8 13)))))
 (z0E (dC (.bl false)))
 (Z3)))))
theorem x0T{fa:EL}{ρ:u5}{vs:List Nat}(h:fa ρ=some (vs.map z9))(hl:vs.length≤1000):z1C fa ρ=some (z9 (cntN vs)):=by
 unfold z1C;rw[h];dsimp only;rw[z59];dsimp only;rw[if_pos (by rw[A0];omega)]
 rfl
theorem y6N{c:Int}{b:Bool}(hm:ts.length≤100)(e1:Q0 [W7 n ts,.tup (r.map D.int),.str k,.tup ((z2L ts.length c).map z9)]=some (.bl b))(e2:z07 [.lst (pairs.map v9),.tup ((z2L ts.length c).map z9)]=some (.bl b)):
  y2K (z3H ns c1 n ts r k pairs f c8 c9 c10 c11 (sC (.int c)) c13 c14 c15)=some (.nx (z3H ns c1 n ts r k pairs f c8 c9 c10 c11 (sC (.int c)) (sC (.tup ((z2L ts.length c).map z9))) (sC (.bl b)) c15)):=by
 have ah:(z2L ts.length c).length≤1000:=by unfold z2L;rw[A0,As];omega
 have e0:=x3W (ns:=ns) (c1:=c1) (n:=n) (r:=r) (k:=k) (pairs:=pairs) (f:=f) (c8:=c8) (c9:=c9) (c10:=c10) (c11:=c11) (c:=c) (c13:=c13) (c14:=c14) (c15:=c15) hm;generalize z2L ts.length c=vs at e0 e1 e2 ah;refine x6 (r:=.rt .non) (K8 e0) ?_;refine x6 (r:=.rt .non) (K8 (d:=.bl b) ((w8 (ds:=[W7 n ts,.tup (r.map D.int),.str k,.tup (vs.map z9)]) rfl).trans e1)) ?_;refine x6 (r:=.rt .non) (ρ':=z3H ns c1 n ts r k pairs f c8 c9 c10 c11 (sC (.int c)) (sC (.tup (vs.map z9))) (sC (.bl b)) c15) ?_ ?_
 ·exact(J9 (a:=!true||false) (z85 (z2Z (u4 rfl)) fun _=>u4 ((z2N (x:=.bl b) (y:=.bl b) rfl ((w8 (ds:=[.lst (pairs.map v9),.tup (vs.map z9)]) rfl).trans e2)).trans (y6L (by simp[depth,z22]))))).trans rfl
 ·have e3:z1C (dSq (z8 13)) (z3H ns c1 n ts r k pairs f c8 c9 c10 c11 (sC (.int c)) (sC (.tup (vs.map z9))) (sC (.bl b)) c15)=some (z9 (cntN vs)):=x0T rfl ah;exact(J9 (a:=false) (u4 ((z2N (x:=z9 (cntN vs)) (y:=z9 (cntN vs)) ((w8 (ds:=[.tup (vs.map z9)]) rfl).trans (z11 ah (.inr rfl))) e3).trans (y6L (by simp[z9,depth,z22]))))).trans rfl
def w8J:EL:=y09 (z7 (d2 z2Q (z8 7) (z2O (z7 (dC (.int 0)) (u3)))) (z7 (dLs (dQF some (dSq (z8 7)))) (z7 (dC .non) (z7 (d2 z65 (z2O (z7 (dC (.str "0")) (u3))) (d2 z2Q (z8 4) (dC (.int 1)))) (z7 (d2 z2Q (d2 z65 (z2O (z7 (x1D (dC (.int 1))) (u3))) (z8 4)) (d2 z65 (z2O (z7 (dC (.int 0)) (u3))) (x5 x6Q (z7 (d2 dEq (z8 4) (dC (.int 0))) u3)))) (u3))))))
def x67(m:Nat)(f:List Nat):List D:=[.tup (f.map z9++[.int 0]),.lst (f.map z9),.non,.tup (B1 (m+1) (.str "0")),.tup (B1 m (.int (-1))++B1 (if m=0 then 1 else 0) (.int 0))]
theorem w61(d:D):∀m:Nat,(B1 m [d]).flatten=B1 m d
 | 0=>rfl
 |m+1=>by rw[D4,Eg,w61 d m,D4];rfl
theorem y6M(d:D)(m:Nat)(hm:m≤1000):z65 (.tup [d]) (.int (m:Int))=some (.tup (B1 m d)):=by show x5T (.tup [d]) (.int (m:Int))=_;unfold x5T;dsimp only;rw[if_pos ⟨by simp,by omega,by omega,by rw[Ao,Az];unfold LIM;omega⟩,Ao,w61]
theorem x6E(xs ys:List D)(h:xs.length+ys.length≤1000):z2Q (.tup xs) (.tup ys)=some (.tup (xs++ys)):=by show (if xs.length+ys.length≤LIM then some (D.tup (xs++ys)) else none)=_;rw[if_pos (by unfold LIM;omega)]
theorem w97{m:Nat}{ρ:u5}(h4:z8 4 ρ=some (.int (m:Int)))(hm:m≤100):d2 z2Q (d2 z65 (z2O (z7 (x1D (dC (.int 1))) (u3))) (z8 4)) (d2 z65 (z2O (z7 (dC (.int 0)) (u3))) (x5 x6Q (z7 (d2 dEq (z8 4) (dC (.int 0))) u3))) ρ=some (.tup (B1 m (.int (-1))++B1 (if m=0 then 1 else 0) (.int 0))):=by
 have e1:d2 z65 (z2O (z7 (x1D (dC (.int 1))) (u3))) (z8 4) ρ=some (.tup (B1 m (.int (-1)))):=(z2N (x:=.tup [.int (-1)]) (y:=.int (m:Int)) rfl h4).trans (y6M _ m (by omega))
 have e2:x5 x6Q (z7 (d2 dEq (z8 4) (dC (.int 0))) u3) ρ=some (.int (((if m=0 then 1 else 0:Nat):Int))):=by
  refine(w8 (ds:=[.bl (decide (m=0))]) (v8 ((z2N (x:=z9 m) (y:=z9 0) h4 rfl).trans (y4V m 0)) rfl)).trans ?_;by_cases c:m=0
  ·rw[decide_eq_true c,if_pos c];rfl
  ·rw[decide_eq_false c,if_neg c];rfl
 have e3:d2 z65 (z2O (z7 (dC (.int 0)) (u3))) (x5 x6Q (z7 (d2 dEq (z8 4) (dC (.int 0))) u3)) ρ=some (.tup (B1 (if m=0 then 1 else 0) (.int 0))):=(z2N (x:=.tup [.int 0]) rfl e2).trans (y6M _ _ (by split<;>omega))
 exact(z2N e1 e3).trans (x6E _ _ (by rw[Cd,Cd];split<;>omega))
theorem w3B(hm:ts.length≤100)(hf:f.length≤100):w8J (z3H ns c1 n ts r k pairs f c8 c9 c10 c11 c12 c13 c14 c15)=some (x67 ts.length f):=by
 have e1:d2 z2Q (z8 7) (z2O (z7 (dC (.int 0)) (u3))) (z3H ns c1 n ts r k pairs f c8 c9 c10 c11 c12 c13 c14 c15)=some (.tup (f.map z9++[.int 0])):=(z2N (x:=.tup (f.map z9)) (y:=.tup [.int 0]) rfl rfl).trans (x6E _ _ (by rw[A0,Az];omega))
 have e4:d2 z65 (z2O (z7 (dC (.str "0")) (u3))) (d2 z2Q (z8 4) (dC (.int 1))) (z3H ns c1 n ts r k pairs f c8 c9 c10 c11 c12 c13 c14 c15)=some (.tup (B1 (ts.length+1) (.str "0"))):=(z2N (x:=.tup [.str "0"]) (y:=.int ((ts.length+1:Nat):Int)) rfl rfl).trans (y6M _ _ (by omega));have e5:=w97 (m:=ts.length) (ρ:=z3H ns c1 n ts r k pairs f c8 c9 c10 c11 c12 c13 c14 c15) rfl hm;exact z5L (v8 e1 (v8 rfl (v8 rfl (v8 e4 (v8 e5 rfl))))) (show 5≤LIM by decide)
theorem w3A(hf:f.length=ts.length)(hm:ts.length≤100):∀d∈x67 ts.length f,Q0 [W7 n ts,.tup (r.map D.int),.str k,d]=some (.bl false):=by
 intro d hd;unfold x67 at hd;simp only[Af,Kc,or_false]at hd;refine x22 ?_
 have two:∀ds:List D,ds.length≤1000->(ds.length≠ts.length∨∃d∈ds,pgB d=false)->z1F [W7 n ts,.tup ds]=some (.bl false):=fun ds hl h=>by
  rw[z5O hl];rcases h with h|⟨d,hd,h⟩
  ·rw[decide_eq_false h];rfl
  ·have:ds.all pgB=false:=by
    cases c:ds.all pgB with
    |false=>rfl
    |true=>have:=C1.mp c d hd;rw[h]at this;cases this
   rw[this,Hu]
 rcases hd with rfl|rfl|rfl|rfl|rfl
 ·exact two _ (by rw[Ad,A0,Az];omega) (.inl (by rw[Ad,A0,Az];omega))
 ·exact z5P rfl
 ·exact z5P rfl
 ·exact two _ (by rw[Cd];omega) (.inl (by rw[Cd];omega))
 ·refine two _ (by rw[Ad,Cd,Cd];split<;>omega) ?_
  by_cases c:ts.length=0
  ·exact .inl (by rw[Ad,Cd,Cd,if_pos c];omega)
  ·exact .inr ⟨.int (-1),B9 _ (List.mem_replicate.mpr ⟨c,rfl⟩),rfl⟩
def y7E:EO:=z2E (y9 (d2 x8N (x5 Q0 (z7 (z8 2) (z7 (z8 3) (z7 (z8 5) (z7 (z8 15) (u3)))))) (dC (.bl false))))
 (z0E (dC (.bl false)))
 (Z3)
theorem x1R{d:D}(hd:Q0 [W7 n ts,.tup (r.map D.int),.str k,d]=some (.bl false)):y7E (z3H ns c1 n ts r k pairs f c8 c9 c10 c11 c12 c13 c14 (sC d))=some (.nx (z3H ns c1 n ts r k pairs f c8 c9 c10 c11 c12 c13 c14 (sC d))):=(J9 (a:=false) (u4 ((z2N (x:=.bl false) (y:=.bl false) ((w8 (ds:=[W7 n ts,.tup (r.map D.int),.str k,d]) rfl).trans hd) rfl).trans rfl))).trans rfl
theorem x8R(ns:List Int)(lo hi:Option Int):∃ms:List Int,cut (ns.map D.int) lo hi=ms.map D.int/\ms.length≤ns.length:=by
 unfold cut;refine⟨(ns.drop (HT.sIx (ns.map D.int).length 0 lo)).take (HT.sIx (ns.map D.int).length (ns.map D.int).length hi-HT.sIx (ns.map D.int).length 0 lo),?_,?_⟩
 ·rw[←List.map_drop,←List.map_take]
 ·rw[Fi,Go];omega
def x49:EO:=z6S (dSq (w0H (z8 0) (y73 (dC (.int 3))) (y73 (dC (.int 6))))) (w9 12) y2K
theorem x0Q(hm:ts.length≤100)(bd:∀c:Int,∃b,Q0 [W7 n ts,.tup (r.map D.int),.str k,.tup ((z2L ts.length c).map z9)]=some (.bl b)/\z07 [.lst (pairs.map v9),.tup ((z2L ts.length c).map z9)]=some (.bl b)):
  ∃cU cP cL,x49 (z3H ns c1 n ts r k pairs f c8 c9 c10 c11 c12 c13 c14 c15)=some (.nx (z3H ns c1 n ts r k pairs f c8 c9 c10 c11 cU cP cL c15)):=by
 obtain⟨ms,em,_⟩:=x8R ns (some 3) (some 6)
 obtain⟨ρ',e,gA,fY,fF,rfl⟩:=y2M (h:=w9 12) (g:=y2K) (fun ρ=>∃gA fY fF:Option Cell,ρ=z3H ns c1 n ts r k pairs f c8 c9 c10 c11 gA fY fF c15) (ds:=ms.map D.int) (ρ:=z3H ns c1 n ts r k pairs f c8 c9 c10 c11 c12 c13 c14 c15) ⟨_,_,_,rfl⟩ (fun d hd ρ hI=>by
  obtain⟨gA,fY,fF,rfl⟩:=hI;obtain⟨c,_,rfl⟩:=Av.mp hd;obtain⟨b,e1,e2⟩:=bd c
  exact⟨_,_,rfl,.inl (y6N hm e1 e2),⟨_,_,_,rfl⟩⟩)
 refine⟨gA,fY,fF,(z10 (ds:=ms.map D.int) (z28 ((w62 (x:=.lst (ns.map D.int)) (lo:=some 3) (hi:=some 6) rfl rfl rfl).trans (by rw[←em];rfl)))).trans e⟩
def w0N:EO:=z6S (dSq (dLs w8J)) (w9 15) y7E
theorem x68(hf:f.length=ts.length)(hm:ts.length≤100):∃cV,w0N (z3H ns c1 n ts r k pairs f c8 c9 c10 c11 c12 c13 c14 c15)=some (.nx (z3H ns c1 n ts r k pairs f c8 c9 c10 c11 c12 c13 c14 cV)):=by
 obtain⟨ρ',e,gN,rfl⟩:=y2M (h:=w9 15) (g:=y7E) (fun ρ=>∃gN:Option Cell,ρ=z3H ns c1 n ts r k pairs f c8 c9 c10 c11 c12 c13 c14 gN) (ds:=x67 ts.length f) (ρ:=z3H ns c1 n ts r k pairs f c8 c9 c10 c11 c12 c13 c14 c15) ⟨_,rfl⟩ (fun d hd ρ hI=>by
  obtain⟨gN,rfl⟩:=hI
  exact⟨_,_,rfl,.inl (x1R (w3A hf hm d hd)),⟨_,rfl⟩⟩)
 exact⟨gN,(z10 (ds:=x67 ts.length f) (z28 (z39 (w3B hm (by omega))))).trans e⟩
def w8I:EB:=z3Y (y9 (d2 w32 (z8 8) (dC (.int 0)))) (y9 (x5 (W5 12) (z7 (z8 6) (z7 (d2 y2U (z8 8) (dC (.int 1))) (z7 (z8 4) (z7 (dLs (y09 (u3))) (u3)))))))
theorem w38{K:Nat}(hb:∀K',K=K'+1->W5 12 [.lst (pairs.map v9),z9 K',z9 ts.length,.lst []]=some (.bl false)):w8I (z3H ns c1 n ts r k pairs f (sC (z9 K)) c9 c10 c11 c12 c13 c14 c15)=some false:=by
 have e0:y9 (d2 w32 (z8 8) (dC (.int 0))) (z3H ns c1 n ts r k pairs f (sC (z9 K)) c9 c10 c11 c12 c13 c14 c15)=some (decide ((0:Int)<(K:Int))):=u4 rfl
 cases K with
 |zero=>exact z7O (b:=false) e0 fun z=>by cases z
 |succ K'=>
  have e1:d2 y2U (z8 8) (dC (.int 1)) (z3H ns c1 n ts r k pairs f (sC (z9 (K'+1))) c9 c10 c11 c12 c13 c14 c15)=some (z9 K'):=by show some (D.int (((K'+1:Nat):Int)-1))=some (D.int (K':Int));congr 2;omega
  have ea:z7 (z8 6) (z7 (d2 y2U (z8 8) (dC (.int 1))) (z7 (z8 4) (z7 (dLs (y09 (u3))) (u3)))) (z3H ns c1 n ts r k pairs f (sC (z9 (K'+1))) c9 c10 c11 c12 c13 c14 c15)=some [.lst (pairs.map v9),z9 K',z9 ts.length,.lst []]:=v8 rfl (v8 e1 (v8 rfl (v8 (z39 (z5L rfl (by decide))) rfl)));have e2:=z7O e0 (b:=false) fun _=>u4 ((w8 (F:=W5 12) ea).trans (hb K' rfl));rw[Hu]at e2;exact e2
def y94:EO:=
 (K6 (z0H 6 (x5 z1Y (z7 (z8 2) (z7 (z8 3) (z7 (z8 5) (u3))))))
 (K6 (z0H 7 (x5 z0R (z7 (z8 2) (z7 (z8 3) (z7 (z8 5) (u3))))))
 (K6 (z2E (y3D (y9 (d2 x8N (x5 Q0 (z7 (z8 2) (z7 (z8 3) (z7 (z8 5) (z7 (z8 7) (u3)))))) (dC (.bl true)))) (z64 (y9 (x5 z07 (z7 (z8 6) (z7 (z8 7) (u3)))))))
 (z0E (dC (.bl false)))
 (Z3))
 (K6 (z0H 8 (x5 Q9 (z7 (z8 7) (u3))))
 (K6 (z7Q 9 (y09 (u3)))
 (K6 (z6S (dSq (z8 7)) (w9 10) w2T)
 (K6 (z2E (y3D (z64 (y9 (x5 z48 (z7 (z8 8) (u3))))) (y51 9 (y9 (d2 dNe (z8 9) (dLs (Y7 (z8 8)))))))
 (z0E (dC (.bl false)))
 (Z3))
 (K6 (z2E w8I
 (z0E (dC (.bl false)))
 (Z3))
 (K6 (z0H 11 (z15 (dSq (x5 z1E (z7 (z8 2) (z7 (z8 3) (z7 (z8 5) (u3))))))))
 (K6 (z2E (y3D (y9 (d2 dLt (z8 8) (z8 11))) (z3Y (y9 (d2 dEq (z8 5) (dC (.str "queue")))) (y9 (d2 dNe (z8 8) (z8 11)))))
 (z0E (dC (.bl false)))
 (Z3))
 (K6 x49 w0N)))))))))))
theorem w5L(a b:Nat):dLt (z9 a) (z9 b)=some (.bl (decide ((a:Int)<(b:Int)))):=rfl
theorem w5O{K L:Nat}(h1:L≤K)(h2:k = "queue"->K=L):y3D (y9 (d2 dLt (z8 8) (z8 11))) (z3Y (y9 (d2 dEq (z8 5) (dC (.str "queue")))) (y9 (d2 dNe (z8 8) (z8 11)))) (z3H ns c1 n ts r k pairs f (sC (z9 K)) c9 c10 (sC (z9 L)) c12 c13 c14 c15)=some false:=by
 have e0:y9 (d2 dLt (z8 8) (z8 11)) (z3H ns c1 n ts r k pairs f (sC (z9 K)) c9 c10 (sC (z9 L)) c12 c13 c14 c15)=some (decide ((K:Int)<(L:Int))):=u4 ((z2N (x:=z9 K) (y:=z9 L) rfl rfl).trans (w5L K L));rw[decide_eq_false (by omega)]at e0;have e1:y9 (d2 dEq (z8 5) (dC (.str "queue"))) (z3H ns c1 n ts r k pairs f (sC (z9 K)) c9 c10 (sC (z9 L)) c12 c13 c14 c15)=some (k=="queue"):=u4 rfl;have e2:y9 (d2 dNe (z8 8) (z8 11)) (z3H ns c1 n ts r k pairs f (sC (z9 K)) c9 c10 (sC (z9 L)) c12 c13 c14 c15)=some (!((K:Int)==(L:Int))):=u4 ((z2N (x:=.int (K:Int)) (y:=.int (L:Int)) rfl rfl).trans (x9S _ _))
 have e3:=z85 e0 fun _=>z7O e1 fun _=>e2;by_cases c:k = "queue"
 ·rw[h2 c]at e3 ⊢;refine e3.trans ?_;rw[show (((L:Int)==(L:Int)))=true by simp,Bool.not_true,Hu,Ii]
 ·refine e3.trans ?_;rw[show (k==("queue":Bb))=false from beq_eq_false_iff_ne.mpr c,Bool.false_and,Ii]
theorem x7F{K:Nat}{cl:Nat->Nat->Bool}(h:Col cl ts.length (atN f) K):z7X (u0 ts.length cl ts.length) f=true:=by
 unfold z7X;rw[C1];intro t ht;obtain⟨i,j,rfl,_,h1,h2,h3⟩:=Q6.mp ht
 have:=h.ne i j (by omega) h2 h3
 show (!decide (atN f (i:Int).toNat=atN f (j:Int).toNat))=true;rw[Ao,Ao,decide_eq_false this];rfl
theorem z9S(h:Lay n ts r)(h11:ts.length≤11)(hk:KW k w){c6 c7:Option Cell}:
  ∃ca cq fy c9' cm eT cU cP cL cV,y94 [sC (.lst (ns.map D.int)),c1,sC (W7 n ts),sC (.tup (r.map D.int)),sC (.int (ts.length:Int)),sC (.str k),c6,c7,c8,c9,c10,c11,c12,c13,c14,c15] =
   some (.nx [sC (.lst (ns.map D.int)),c1,sC (W7 n ts),sC (.tup (r.map D.int)),sC (.int (ts.length:Int)),sC (.str k),ca,cq,fy,c9',cm,eT,cU,cP,cL,cV]):=by
 have hn6:=h.n6;have hrl:=h.len
 have ok6:∀t∈ts,0≤t.1/\t.1<t.2/\t.2<6:=fun t ht=>by have:=h.ok t ht;omega
 have eP:=z8N (n:=n) (r:=r) (by omega) hk h.m12 h.up ok6 h.mem;obtain⟨F,eF,hF⟩:=y3B h hk;obtain⟨f,K,ef,hf,hq⟩:=y7S h h11 hk eF hF;have hg:=(z7W h hk).1;have ab:=hf.len
 have hKm:K≤ts.length:=by
  have:=Q4 (z1M f) f (z4V f [] Dx) fun x hx=>by
   rcases (z9Z f [] x).mp hx with z|z
   ·cases z
   ·exact z
  rw[hf.fst,As]at this;omega
 have hcnt:cntN f=K:=x5W fun v=>by
  have:=z9Z f [] v
  rw[show f.foldl K0 []=A9 K from hf.fst,Aj]at this;rw[this];simp
 have hFK:F.length≤K:=z4S hF _ _ hf.col;have er1:=y1R h hk ab
 have ah:(u0 ts.length (clP r ts w) ts.length).length≤1000:=by
  rw[←z8Q,(z17 _).length_eq]
  have:=z1L (clP r ts w) ts.length h.m12
  omega
 have hpm:∀t∈u0 ts.length (clP r ts w) ts.length,∃i j:Nat,t=((i:Int),(j:Int))/\i<ts.length/\j<ts.length:=fun t ht=>by obtain⟨i,j,e,_,h1,h2,_⟩:=Q6.mp ht;exact⟨i,j,e,by omega,h2⟩
 have er2:=z5N (f:=f) ah (by rw[ab];exact hpm)
 rw[x7F hf.col]at er1 er2
 have bd:∀c:Int,∃b,Q0 [W7 n ts,.tup (r.map D.int),.str k,.tup ((z2L ts.length c).map z9)]=some (.bl b)/\z07 [.lst ((u0 ts.length (clP r ts w) ts.length).map v9),.tup ((z2L ts.length c).map z9)]=some (.bl b):=fun c=>by
  have hl:(z2L ts.length c).length=ts.length:=by unfold z2L;rw[A0,As]
  exact⟨_,y1R h hk hl,z5N ah (by rw[hl];exact hpm)⟩
 have eQ:∀K',K=K'+1->W5 12 [.lst ((u0 ts.length (clP r ts w) ts.length).map v9),z9 K',z9 ts.length,.lst []]=some (.bl false):=fun K' hK'=>by
  obtain⟨b,e,hb⟩:=y9X (cl:=clP r ts w) (m:=ts.length) (K:=K') (pairs:=u0 ts.length (clP r ts w) ts.length) hg.sy hg.ir (fun i j h1 h2 h3=>Q6.mpr ⟨i,j,rfl,by omega,h1,h2,h3⟩) (by omega) (by omega) 12 [] ⟨(fun v hv=>by cases hv),(fun i j _ hj=>by cases hj)⟩ (Bf _) (by rw[Cv];omega)
  cases b with
  |false=>exact e
  |true=>
   obtain⟨c,hc⟩:=hb rfl
   have:=hf.least _ _ hc
   omega
 generalize u0 ts.length (clP r ts w) ts.length=pairs at eP er2 bd eQ;obtain⟨gV,l1⟩:=w0C (ns:=ns) (c1:=c1) (n:=n) (ts:=ts) (r:=r) (k:=k) (pairs:=pairs) (f:=f) (c8:=sC (z9 K)) (c11:=c11) (c12:=c12) (c13:=c13) (c14:=c14) (c15:=c15) f [] c10 (by rw[Cv];omega)
 rw[show f.foldl K0 []=A9 K from hf.fst]at l1;obtain⟨gA,fY,fF,l2⟩:=x0Q (ns:=ns) (c1:=c1) (n:=n) (ts:=ts) (r:=r) (k:=k) (pairs:=pairs) (f:=f) (c8:=sC (z9 K)) (c9:=some (.ow ((A9 K).map z9))) (c10:=gV) (c11:=sC (z9 F.length)) (c12:=c12) (c13:=c13) (c14:=c14) (c15:=c15) (by omega) bd;obtain⟨gN,l3⟩:=x68 (ns:=ns) (c1:=c1) (n:=n) (ts:=ts) (r:=r) (k:=k) (pairs:=pairs) (f:=f) (c8:=sC (z9 K)) (c9:=some (.ow ((A9 K).map z9))) (c10:=gV) (c11:=sC (z9 F.length)) (c12:=gA) (c13:=fY) (c14:=fF) (c15:=c15) ab (by omega)
 refine⟨sC (.lst (pairs.map v9)),sC (.tup (f.map z9)),sC (z9 K),some (.ow ((A9 K).map z9)),gV,sC (z9 F.length),gA,fY,fF,gN,?_⟩;refine x6 (r:=.rt .non) (K8 ((w8 (ds:=[W7 n ts,.tup (r.map D.int),.str k]) rfl).trans eP)) ?_;refine x6 (r:=.rt .non) (K8 ((w8 (ds:=[W7 n ts,.tup (r.map D.int),.str k]) rfl).trans ef)) ?_;refine x6 (r:=.rt .non) (ρ':=z3H ns c1 n ts r k pairs f c8 c9 c10 c11 c12 c13 c14 c15) ?_ ?_
 ·exact(J9 (a:=false||!true) (z85 (u4 ((z2N (x:=.bl true) (y:=.bl true) ((w8 (ds:=[W7 n ts,.tup (r.map D.int),.str k,.tup (f.map z9)]) rfl).trans er1) rfl).trans rfl)) fun _=>z2Z (u4 ((w8 (ds:=[.lst (pairs.map v9),.tup (f.map z9)]) rfl).trans er2)))).trans rfl
 refine x6 (r:=.rt .non) (K8 (d:=z9 K) ((w8 (ds:=[.tup (f.map z9)]) rfl).trans ((z11 (by omega) (.inr rfl)).trans (by rw[hcnt])))) ?_;refine x6 (r:=.rt .non) (z4X (ds:=[].map z9) (z5L rfl (by decide))) ?_;refine x6 (r:=.rt .non) ((z10 (ds:=f.map z9) rfl).trans l1) ?_;refine x6 (r:=.rt .non) (ρ':=z3H ns c1 n ts r k pairs f (sC (z9 K)) (some (.ow ((A9 K).map z9))) gV c11 c12 c13 c14 c15) ?_ ?_
 ·exact(J9 (a:=!true||false) (z85 (z2Z (u4 ((w8 (ds:=[z9 K]) rfl).trans (y0Z K)))) fun _=>w2J (by omega))).trans rfl
 refine x6 (r:=.rt .non) (ρ':=z3H ns c1 n ts r k pairs f (sC (z9 K)) (some (.ow ((A9 K).map z9))) gV c11 c12 c13 c14 c15) ((J9 (w38 eQ)).trans rfl) ?_;refine x6 (r:=.rt .non) (K8 (d:=z9 F.length) ((z29 (ds:=F.map z9) (z4W ((w8 (ds:=[W7 n ts,.tup (r.map D.int),.str k]) rfl).trans eF))).trans (by rw[A0];rfl))) ?_
 refine x6 (r:=.rt .non) (ρ':=z3H ns c1 n ts r k pairs f (sC (z9 K)) (some (.ow ((A9 K).map z9))) gV (sC (z9 F.length)) c12 c13 c14 c15) ((J9 (w5O hFK hq)).trans rfl) ?_;exact x6 (r:=.rt .non) l2 l3
end
def y9Q:EO:=K6 (z0H 2 (x5 z6Y (z7 (z8 1) (z7 (dC (.int 6)) (z7 (dC (.int 10)) (u3))))))
 (K6 (z0H 3 (x5 z6Z (z7 (d2 w34 (z8 1) (dC (.int 3))) (z7 (dIx (dSq (z8 2)) (dC (.int 0))) (u3)))))
 (K6 (z0H 4 (z15 (dSq (dIx (dSq (z8 2)) (dC (.int 1))))))
 (z6S (dSq (z2O (z7 (dC (.str "pile")) (z7 (dC (.str "queue")) (u3))))) (w9 5) y94)))
theorem y78{ns:List Int}{c:Int}{c2 c3 c4 c5 c6 c7 c8 c9 c10 c11 c12 c13 c14 c15:Option Cell}:∃gY fj bD fu ca cq fy c9' cm eT cU cP cL cV,y9Q [sC (.lst (ns.map D.int)),sC (.int c),c2,c3,c4,c5,c6,c7,c8,c9,c10,c11,c12,c13,c14,c15] =
  some (.nx [sC (.lst (ns.map D.int)),sC (.int c),gY,fj,bD,fu,ca,cq,fy,c9',cm,eT,cU,cP,cL,cV]):=by
 obtain⟨n',ts,w1,w2,w3,w4⟩:=y5N c (most:=6) (ties:=10) (by decide) (by decide) (by decide) (by decide);have hlo:=w2.lo;obtain⟨n,rfl⟩:=D9 (show 0≤n' by omega);obtain⟨r,r1,r2⟩:=y5O (c / 3) (n:=(n:Int)) (by omega) (by omega);rw[Ao]at r2
 have hm:ts.length≤10:=by omega
 have hr:r.Nodup:=r2.nodup_iff.mpr (x54 n)
 have aG:∀t∈ts,t.1∈r/\t.2∈r:=fun t ht=>by
  have:=w2.ok t ht
  exact⟨r2.mem_iff.mpr (x55.mpr (by omega)),r2.mem_iff.mpr (x55.mpr (by omega))⟩
 have hL:Lay (n:Int) ts r:=⟨w2.up,w2.ok,hr,by rw[r2.length_eq,x78],aG,w2.hi,by omega⟩;obtain⟨a6,a7,a8,a9,a10,a11,a12,a13,a14,a15,ea⟩:=z9S hL (by omega) (.inl ⟨rfl,rfl⟩) (ns:=ns) (c1:=sC (.int c)) (c6:=c6) (c7:=c7) (c8:=c8) (c9:=c9) (c10:=c10) (c11:=c11) (c12:=c12) (c13:=c13) (c14:=c14) (c15:=c15);obtain⟨b6,b7,b8,b9,b10,b11,b12,b13,b14,b15,eb⟩:=z9S hL (by omega) (.inr ⟨rfl,rfl⟩) (ns:=ns) (c1:=sC (.int c)) (c6:=a6) (c7:=a7) (c8:=a8) (c9:=a9) (c10:=a10) (c11:=a11) (c12:=a12) (c13:=a13) (c14:=a14) (c15:=a15)
 refine⟨sC (W7 (n:Int) ts),sC (.tup (r.map D.int)),sC (.int (ts.length:Int)),sC (.str "queue"),b6,b7,b8,b9,b10,b11,b12,b13,b14,b15,?_⟩;refine x6 (r:=.rt .non) (K8 (d:=W7 (n:Int) ts) ((w8 (ds:=[.int c,.int 6,.int 10]) rfl).trans w1)) ?_;refine x6 (r:=.rt .non) (K8 (d:=.tup (r.map D.int)) ((w8 (ds:=[.int (c / 3),.int (n:Int)]) (v8 ((z2N (x:=.int c) (y:=.int 3) rfl rfl).trans rfl) rfl)).trans r1)) ?_
 refine x6 (r:=.rt .non) (K8 (d:=.int (ts.length:Int)) ((z29 (ds:=ts.map v9) rfl).trans (by rw[A0]))) ?_;refine(z10 (ds:=[.str "pile",.str "queue"]) (z4W (z5K (ds:=[.str "pile",.str "queue"]) rfl (show 2≤LIM by decide)))).trans ?_;exact(z1Q rfl ea).trans ((z1Q rfl eb).trans rfl)
theorem law_true:∀ns:List Int,ns.length≤63->x24 [.lst (ns.map D.int)]=some (.bl true):=by
 intro ns hl
 have fin:w2Q [sC (.lst (ns.map D.int)),none,none,none,none,none,none,none,none,none,none,none,none,none,none,none]=some (.rt (.bl true)):=by
  obtain⟨ρ',e,c1,c2,c3,c4,c5,c6,c7,c8,c9,c10,c11,c12,c13,c14,c15,rfl⟩:=y2M (h:=w9 1) (g:=y9Q) (fun ρ=>∃c1 c2 c3 c4 c5 c6 c7 c8 c9 c10 c11 c12 c13 c14 c15:Option Cell,ρ=[sC (.lst (ns.map D.int)),c1,c2,c3,c4,c5,c6,c7,c8,c9,c10,c11,c12,c13,c14,c15]) (ds:=cut (ns.map D.int) none (some 3))
   (ρ:=[sC (.lst (ns.map D.int)),none,none,none,none,none,none,none,none,none,none,none,none,none,none,none]) ⟨none,none,none,none,none,none,none,none,none,none,none,none,none,none,none,rfl⟩ (fun d hd ρ hI=>by
    obtain⟨c1,c2,c3,c4,c5,c6,c7,c8,c9,c10,c11,c12,c13,c14,c15,rfl⟩:=hI;obtain⟨i,_,rfl⟩:=Av.mp (List.mem_of_mem_drop (List.mem_of_mem_take hd));obtain⟨gY,fj,bD,fu,ca,cq,fy,c9',cm,eT,cU,cP,cL,cV,e⟩:=y78 (ns:=ns) (c:=i) (c2:=c2) (c3:=c3) (c4:=c4) (c5:=c5) (c6:=c6) (c7:=c7) (c8:=c8) (c9:=c9) (c10:=c10) (c11:=c11) (c12:=c12) (c13:=c13) (c14:=c14) (c15:=c15)
    exact⟨_,_,rfl,.inl e,⟨_,_,_,_,_,_,_,_,_,_,_,_,_,_,_,rfl⟩⟩)
  exact x6 (r:=.rt .non) ((z10 (ds:=cut (ns.map D.int) none (some 3)) rfl).trans e) rfl
 show z2F (w2Q [sC (.lst (ns.map D.int)),none,none,none,none,none,none,none,none,none,none,none,none,none,none,none])=_;rw[fin];rfl
end P
open PySem PySem.W PyProof.Rows
theorem PySem.W.Fast.te3815122081962522300:True:=trivial
theorem PySem.W.Fast.tw114452576125068683:True:=trivial
theorem PySem.W.Fast.tw3831192053274249749:True:=trivial
theorem PySem.W.Fast.tw16159158214042673917:True:=trivial
theorem PySem.W.Fast.tw10824983705897838790:True:=trivial
theorem PySem.W.Fast.tw10274326856293395340:True:=trivial
theorem PySem.W.Fast.tw14514825025062215154:True:=trivial
theorem PySem.W.Fast.tw15926871183541263282:True:=trivial
theorem PySem.W.Fast.tw1170634199580318756:True:=trivial
theorem PySem.W.Fast.tw10447000400262487383:True:=trivial
theorem PySem.W.Fast.tw3627396566502487873:True:=trivial
theorem PySem.W.Fast.tw15706810457858156682:True:=trivial
theorem PySem.W.Fast.tw17501753173769303829:True:=trivial
theorem PySem.W.Fast.tw13042835932329799586:True:=trivial
set_option maxRecDepth 100000 in
set_option maxHeartbeats 0 in
theorem PySem.Challenge.cw_pageties_k05_whole_fewest_pages_holds : PySem.Challenge.rw_pageties_k05_whole_fewest_pages.Holds := by
 w_on;o_law;k_head;(case hw=>w_witness2)
 k_fill
 refine P.walk (l:=PySem.Challenge.rw_pageties_k05_whole_fewest_pages) rfl rfl (fun w h Y=>PySem.W.km_in_of Y) (fun w h Y P q e=>PySem.W.km_tabs_of Y P (Bv (f:=Bj) (L3.mem_look e))) (fun w=>by kernel_rfl) P.law_true ?F
 case F=>
  intro w mg fa h KX G jt;apply P.all_mk jt;constructor
  all_goals first
   |exact⟨trivial⟩
   |exact PySem.W.mg_none_of KX G (by k_is)
   | (refine' P.st_mk KX G ?a ?b ?c ?d;(case a=>k_is);(case b=>k_is);(case c=>k_is);(case d=>k_is))
   | (refine' P.stL_mk KX G ?a ?b ?c ?d ?e;(case a=>k_is);(case b=>k_is);(case c=>k_is);(case d=>k_is);(case e=>kernel_rfl))
   | (refine' P.tb_CLASHING KX G ?a ?b ?c ?v0 ?v1;(case a=>k_is);(case b=>k_is);(case c=>k_keys);(case v0=>k_is);(case v1=>k_is))
